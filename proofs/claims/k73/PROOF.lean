import PyProof.Rows.All
import Wide.All
import OpenK.AllK
import Wide.FinOn
import KE.KEqDict
import KE.KPairComp
import KE.KDictList
import KE.KRevSl
import PyProof.Rows.SetFrom
import KE.KRevIter
import KE.KDictOf
import KE.KIntText
import PyProof.CallStr
import KE.KSortAsk
import KE.KSortTup
import PyProof.Rows.SortRev
import KE.KDictSum
import PySem.Challenge.RW_hydrahouse_k73_texts_refused
set_option bootstrap.genMatcherCode false
set_option compiler.extract_closed false
set_option genSizeOf false
-- CHANGE: your row's module here, as the last of these rows
set_option Elab.async false
set_option linter.all false
set_option maxRecDepth 100000
open PySem.W (Looks callWith_K clsIn codeIn emptyDict excIn findIn fnOf hasDictIn hideAll hideAll_get hideAll_none instIn instObj isFn keepIn kia_one lookIn looks_findIn mg_none_of mg_of mroIn nsIn of_hideAll plainGet typeIn)
abbrev yav:=PySem.W.Frag
abbrev ybx:=@List.mem_cons_of_mem
abbrev yby:=@List.mem_cons_self
abbrev ybz:=@PySem.Heap.get?_push_of_some
abbrev ybw:=@PySem.Heap.get?_push_size
abbrev ybv:=@PySem.Heap.lt_size
abbrev ycx:=@Nat.le_refl
abbrev ycy:=@Nat.le_trans
abbrev ycz:=@List.getElem?_eq_getElem
abbrev ycw:=@if_neg
abbrev ycv:=@if_pos
abbrev ydx:=@Bool.false_ne_true
abbrev ydy:=@decide_eq_false
abbrev ydz:=@decide_eq_true
abbrev ydw:=@Nat.lt_of_lt_of_le
abbrev ydv:=@Int.le_trans
abbrev yex:=@List.mem_append_right
abbrev yey:=PySem.Value->PySem.Shared->Prop
abbrev yez:=List PySem.Value
abbrev yew:=PySem.Str->Option PySem.Value
variable {K:yav} {E:PySem.Value->PySem.Shared->Prop} {s:PySem.Shared} {A:PySem.Around} {w:PySem.World} {P:PySem.Program} {prog:PySem.Program} {π:List (PySem.Addr×PySem.Obj)} {mg:PySem.Str->Option PySem.Value} {pos:PySem.Pos} {us:List PySem.Value} {Q:PySem.Value->PySem.Shared->Prop} {x:PySem.Str} {e:PySem.Expr} {a:PySem.Addr} {k:Nat} {fd:PySem.FuncData} {base:PySem.Heap} {es:List PySem.Expr} {ps:List PySem.Str} {u:PySem.Value} {i:Nat} {st:PySem.Stmt} {bm:List PySem.Value} {scope:PySem.Scope} {body:List PySem.Stmt} {items:Array PySem.Value}
open List (all_cons any_cons append_assoc append_nil drop_drop drop_eq_getElem_cons drop_eq_nil_of_le drop_zero filterMap_cons flatten_cons foldl_cons forIn_cons getElem_mem length_append length_cons length_drop length_map length_nil length_reverse length_singleton length_take lookup_cons map_append map_cons map_map map_nil mem_append mem_append_left mem_append_right mem_cons mem_cons_of_mem mem_cons_self mem_nil_iff mem_singleton nil_append nodup_cons replicate_succ reverse_cons size_toArray sum_cons take_append_drop take_length take_of_length_le take_succ_cons zip_cons_cons)
abbrev wax:=@PySem.wpAny_bind
open Nat (le_max_left le_max_right le_refl le_trans lt_irrefl lt_of_lt_of_le max_le ne_of_lt not_lt zero_le)
namespace L2
open PySem PySem.Spec PyProof.Rows
noncomputable abbrev bE:=Sum Int Str
noncomputable def jA:bE->Value->Bool
 | .inl k,v=>Value.isInt k v
 | .inr x,v=>Value.isStrOf x v
noncomputable def Dm (w:World):bE->Int
 | .inl k=>hashInt k
 | .inr x=>hashStr w x
theorem bQ:∀{k:bE} {v:Value},jA k v=true->(∃i t,k=Sum.inl i/\v=Value.int i t)∨(∃x t,k=Sum.inr x/\v=Value.str x t)
 | .inl i,v,h=>by
   obtain⟨t,e⟩:=Value.isInt_shape (k:=i) (v:=v) h;exact .inl ⟨i,t,rfl,e⟩
 | .inr x,v,h=>by
   obtain⟨t,e⟩:=Value.isStrOf_shape (x:=x) (v:=v) h;exact .inr ⟨x,t,rfl,e⟩
theorem qy (i:Int) (t:Tok):jA (.inl i) (.int i t)=true:=by simp[jA,Value.isInt]
theorem qz (x:Str) (t:Tok):jA (.inr x) (.str x t)=true:=by simp[jA,Value.isStrOf]
theorem yr (a b:Int):decide ((Sum.inl a:bE)=Sum.inl b)=(a==b):=by
 by_cases e:a=b
 ·subst e;simp
 ·have h:¬(Sum.inl a:bE)=Sum.inl b:=λq=>e (Sum.inl.inj q);rw[ydy h];exact(beq_eq_false_iff_ne.mpr e).symm
theorem yt (a b:Str):decide ((Sum.inr a:bE)=Sum.inr b)=decide (a=b):=by
 by_cases e:a=b
 ·subst e;simp
 ·have h:¬(Sum.inr a:bE)=Sum.inr b:=λq=>e (Sum.inr.inj q);rw[ydy h,ydy e]
theorem yu (a:Int) (b:Str):decide ((Sum.inl a:bE)=Sum.inr b)=false:=ydy (λq=>nomatch q)
theorem yv (a:Str) (b:Int):decide ((Sum.inr a:bE)=Sum.inl b)=false:=ydy (λq=>nomatch q)
noncomputable def dw (prog:Program) (w:World):PySem.KeyKind prog w bE where
 is:=jA
 hash:=Dm w
 inj:=λv a b ha hb=>by
  rcases bQ ha with⟨i,t,rfl,rfl⟩ | ⟨x,t,rfl,rfl⟩
  ·rcases bQ hb with⟨j,u,rfl,e⟩ | ⟨y,u,rfl,e⟩
   ·injection e with e1 _;rw[e1]
   ·exact nomatch e
  ·rcases bQ hb with⟨j,u,rfl,e⟩ | ⟨y,u,rfl,e⟩
   ·exact nomatch e
   ·injection e with e1 _;rw[e1]
 byValue:=λk v h=>by
  rcases bQ h with⟨i,t,rfl,rfl⟩ | ⟨x,t,rfl,rfl⟩<;> rfl
 pyHash:=λhv h=>by
  rcases bQ hv with⟨i,t,rfl,rfl⟩ | ⟨x,t,rfl,rfl⟩
  ·exact wpAny_pyHash_int h
  ·exact wpAny_pyHash_str h
 eqBool:=λhu hv h=>by
  rcases bQ hu with⟨i,t,rfl,rfl⟩ | ⟨x,t,rfl,rfl⟩
  ·rcases bQ hv with⟨j,u,rfl,rfl⟩ | ⟨y,u,rfl,rfl⟩
   ·rw[yr] at h;exact wpAny_eqBool_int h
   ·rw[yu] at h;exact SeqAt.EqAt.int_str i t y u _ _ _ _ h
  ·rcases bQ hv with⟨j,u,rfl,rfl⟩ | ⟨y,u,rfl,rfl⟩
   ·rw[yv] at h;exact SeqAt.EqAt.str_int x t j u _ _ _ _ h
   ·rw[yt] at h;exact wpAny_eqBool_str h
 «strs»:=λk x t v h=>by
  rcases bQ h with⟨i,u,rfl,e⟩ | ⟨y,u,rfl,e⟩
  ·exact nomatch e
  ·injection e with e1 _
   subst e1;cases v<;> rfl
theorem lI (prog:Program) (w:World) (i:Int) (t:Tok):(dw prog w).is (.inl i) (.int i t)=true:=qy i t
theorem lJ (prog:Program) (w:World) (x:Str) (t:Tok):(dw prog w).is (.inr x) (.str x t)=true:=qz x t
inductive V where
 | non | bl (b:Bool) | int (i:Int) | str (x:Str) | byt (b:Array UInt8) | flt (b:UInt64) | ref (a:Addr) | ty (n:String)
 deriving DecidableEq
noncomputable def bo:V->Value->Prop
 | .non,u=>u=Value.none
 | .bl b,u=>u=Value.bool b
 | .int i,u=>∃t,u=Value.int i t
 | .str x,u=>∃t,u=Value.str x t
 | .byt b,u=>∃t,u=Value.bytes b t
 | .flt b,u=>∃t,u=Value.float b t
 | .ref a,u=>u=Value.ref a
 | .ty n,u=>u=Value.type n
noncomputable abbrev aY:List V->List Value->Prop:=Paired bo
theorem aY.length {xs:List V} (r:aY xs us):xs.length=us.length:=Paired.length r
theorem aY.get:∀{xs:List V} {us:yez} {i:Nat} {x:V},aY xs us->xs[i]?=some x->∃u,us[i]?=some u/\bo x u
 | _,_,_,_,.nil,e=>by simp at e
 | _,_,0,_,.cons r _,e=>by simp at e;subst e;exact⟨_,rfl,r⟩
 | _,_,i+1,x,.cons _ t,e=>by
   obtain⟨u,h1,h2⟩:=aY.get (i:=i) (x:=x) t (by simpa using e);exact⟨u,by simpa using h1,h2⟩
theorem aY.append:∀{xs ys:List V} {us ws:yez},aY xs us->aY ys ws->aY (xs++ys) (us++ws)
 | _,_,_,_,.nil,s=>s
 | _,_,_,_,.cons r t,s=> .cons r (aY.append t s)
theorem aY.take:∀{xs:List V} {us:yez} (n:Nat),aY xs us->aY (xs.take n) (us.take n)
 | _,_,0,_=> .nil
 | _,_,_+1,.nil=> .nil
 | _,_,n+1,.cons r t=> .cons r (aY.take n t)
theorem aY.drop:∀{xs:List V} {us:yez} (n:Nat),aY xs us->aY (xs.drop n) (us.drop n)
 | _,_,0,r=>r
 | _,_,_+1,.nil=> .nil
 | _,_,n+1,.cons _ t=>aY.drop n t
noncomputable def fR:Option V->Option Value->Prop
 | some v,some u=>bo v u
 | none,none=>True
 | _,_=>False
noncomputable def KV {κ:Type}:List (κ×V)->List (κ×Value)->Prop:=Paired λ(p:κ×V) (q:κ×Value)=>p.1=q.1/\bo p.2 q.2
noncomputable def kV:bE->V
 | .inl i=> .int i
 | .inr x=> .str x
inductive HO where
 | lst (xs:List V)
 | tup (xs:List V)
 | dK (kvs:List (bE×V)) | dT (kvs:List (List bE×V))
 | set (S:Int->Bool) (n:Nat)
 | ins (C dx:Addr) (fs:List (Str×V))
 | own (x:Addr)
 | xd (fs:List (Str×V))
 | met (f x:Addr)
 | rng (lo hi:Int)
 | frz (o:Obj) (u:HO)
 | tbl (ps:Array Value)
 | ext (φ:Heap->Prop)
noncomputable abbrev Hp:=Addr->Option HO
noncomputable def upd (H:Hp) (a:Addr) (o:HO):Hp:=λb=>if b=a then some o else H b
theorem bt {H:Hp} {o:HO}:upd H a o a=some o:=by unfold upd;rw[ycv rfl]
theorem aO {H:Hp} {a b:Addr} {o:HO} (h:b≠a):upd H a o b=H b:=by unfold upd;rw[ycw h]
theorem jB {H:Hp} {a b:Addr} {o u:HO} (h:H a=some o) (h':H b=some u) (d:o≠u):a≠b:=by
 intro e;subst e;rw[h] at h';exact d (Option.some.inj h')
theorem bf {H:Hp} {a b:Addr} {o:HO} (h:H a=some o) (h':H b=none):a≠b:=by
 intro e;subst e;rw[h] at h';cases h'
section
variable (P:Program) (w:World)
noncomputable def ck (H:Hp) (h:Heap) (a:Addr):HO->Prop
 | .lst xs=>xs.length<=sizeLine/\∃(its:yez) (n:Nat),aY xs its/\h.get? a=some { cls:= .type "list",data:= .seq its.toArray n }
 | .tup xs=>xs.length<=sizeLine/\∃its:List Value,aY xs its/\IsTup h a its.toArray
 | .dK kvs=>kvs.length<=sizeLine/\(a==sysModules)=false/\∃vs,KV kvs vs/\h.DictOf (dw P w) a vs
 | .dT kvs=>kvs.length<=sizeLine/\(a==sysModules)=false/\∃xs:List (List bE×Addr×Value),
    Paired (λ(p:List bE×V) (q:List bE×Addr×Value)=>p.1=q.1/\H q.2.1=some (.tup (p.1.map kV))/\bo p.2 q.2.2) kvs xs/\
    ∃o es ep,h.get? a=some o/\o.ExactDict/\o.data=.dict es ep/\es.toList=xs.map (entryOfKey (tupleKind (dw P w)))/\(xs.map (·.1)).Nodup
 | .set S n=>h.SetOf (intKind P w) a S n
 | .ins C dx fs=>H dx=some (.own a)/\fs.length<=1000/\dx≠a/\h.get? a=some (instObj C dx)/\
    ∃mA,h.Ns1 dx mA/\(∀f,fR (fs.lookup f) (mA f))/\PySem.Within mA (fs.map (·.1))
 | .own _=>∃o,h.get? a=some o
 | .xd fs=>∃mA,h.Ns1 a mA/\∀f,fR (fs.lookup f) (mA f)
 | .rng lo hi=>∃t u v,h.get? a=some { cls:= .type "range",data:= .fields #[.int lo t,.int hi u,.int 1 v] }
 | .frz o u=>h.get? a=some o/\ck H h a u
 | .tbl ps=>h.get? a=some { cls:= .none,data:= .fields ps }
 | .met f x=>h.get? a=some (PySem.W.methodObj (.ref f) (.ref x))
 | .ext φ=>φ h/\(∃o,h.get? a=some o)/\∀h1 h2:Heap,φ h1->(∀o,h1.get? a=some o->h2.get? a=some o)->φ h2
noncomputable def gq (H:Hp) (h:Heap):Prop:=∀a o,H a=some o->ck P w H h a o
end
section
variable {P:Program} {w:World} {H H':Hp} {h h':Heap} {a:Addr} {o:HO}
theorem ck.lt (x:ck P w H h a o):a<h.objs.size:=by
 cases o with
 | lst xs=>obtain⟨_,_,_,_,e⟩:=x;exact ybv e
 | tup xs=>obtain⟨_,_,_,p⟩:=x;exact p.lt
 | dK kvs=>obtain⟨_,_,_,_,o,_,_,e,_⟩:=x;exact ybv e
 | dT kvs=>obtain⟨_,_,_,_,o,_,_,e,_⟩:=x;exact ybv e
 | set S n=>obtain⟨o,_,_,_,e,_⟩:=x;exact ybv e
 | ins C dx fs=>obtain⟨_,_,_,e,_⟩:=x;exact ybv e
 | own y=>obtain⟨_,e⟩:=x;exact ybv e
 | xd fs=>obtain⟨_,⟨_,_,_,e,_⟩,_⟩:=x;exact ybv e
 | rng lo hi=>obtain⟨_,_,_,e⟩:=x;exact ybv e
 | frz ob u=>obtain⟨e,_⟩:=x;exact ybv e
 | tbl ps=>exact ybv (show h.get? a=some _ from x)
 | met f y=>exact ybv (show h.get? a=some _ from x)
 | ext φ=>obtain⟨_,⟨_,e⟩,_⟩:=x;exact ybv e
theorem Paired.mapP {α β:Type} {F G:α->β->Prop}:∀{l₁:List α} {l₂:List β},Paired F l₁ l₂->(∀a b,F a b->G a b)->Paired G l₁ l₂
 | _,_,.nil,_=> .nil
 | _,_,.cons r t,f=> .cons (f _ _ r) (Paired.mapP t f)
theorem ck.stay (x:ck P w H h a o) (k:∀b u,(b=a∨H b=some (.own a))->h.get? b=some u->h'.get? b=some u)
 (ho:∀b,H b=some (.own a)->H' b=some (.own a)) (ht:∀b xs,H b=some (.tup xs)->H' b=some (.tup xs)):ck P w H' h' a o:=by
 induction o with
 | lst xs=>obtain⟨z,its,n,r,e⟩:=x;exact⟨z,its,n,r,k _ _ (.inl rfl) e⟩
 | tup xs=>obtain⟨z,its,r,ob,e,c⟩:=x;exact⟨z,its,r,ob,k _ _ (.inl rfl) e,c⟩
 | dK kvs=>obtain⟨z,y,vs,r,ob,es,ep,e,c⟩:=x;exact⟨z,y,vs,r,ob,es,ep,k _ _ (.inl rfl) e,c⟩
 | dT kvs=>
   obtain⟨z,y,xs,r,ob,es,ep,e,c⟩:=x;exact⟨z,y,xs,Paired.mapP r λp q z=>⟨z.1,ht _ _ z.2.1,z.2.2⟩,ob,es,ep,k _ _ (.inl rfl) e,c⟩
 | set S n=>obtain⟨ob,es,ep,t,e,c⟩:=x;exact⟨ob,es,ep,t,k _ _ (.inl rfl) e,c⟩
 | ins C dx fs=>
   obtain⟨d,z,ne,e,mA,⟨od,es,ep,e2,c⟩,r⟩:=x;exact⟨ho _ d,z,ne,k _ _ (.inl rfl) e,mA,⟨od,es,ep,k _ _ (.inr d) e2,c⟩,r⟩
 | own y=>obtain⟨ob,e⟩:=x;exact⟨ob,k _ _ (.inl rfl) e⟩
 | xd fs=>obtain⟨mA,⟨od,es,ep,e,c⟩,r⟩:=x;exact⟨mA,⟨od,es,ep,k _ _ (.inl rfl) e,c⟩,r⟩
 | rng lo hi=>obtain⟨t,u,v,e⟩:=x;exact⟨t,u,v,k _ _ (.inl rfl) e⟩
 | frz ob u ih=>obtain⟨e,q⟩:=x;exact⟨k _ _ (.inl rfl) e,ih q⟩
 | tbl ps=>
   have e:h.get? a=some { cls:= .none,data:= .fields ps }:=x;show h'.get? a=some { cls:= .none,data:= .fields ps };exact k a _ (.inl rfl) e
 | met f y=>
   have e:h.get? a=some (PySem.W.methodObj (.ref f) (.ref y)):=x;show h'.get? a=some (PySem.W.methodObj (.ref f) (.ref y));exact k a _ (.inl rfl) e
 | ext φ=>obtain⟨p,⟨o,e⟩,st⟩:=x;exact⟨st _ _ p λo q=>k _ _ (.inl rfl) q,⟨o,k _ _ (.inl rfl) e⟩,st⟩
theorem gq.lt (x:gq P w H h) (e:H a=some o):a<h.objs.size:=(x a o e).lt
theorem gq.fresh (x:gq P w H h) (e:h.objs.size<=a):H a=none:=by
 cases q:H a with
 | none=>rfl
 | some u=>exact absurd (ydw (x.lt q) e) (lt_irrefl _)
theorem gq.kept (x:gq P w H h) (k:∀b u,h.get? b=some u->h'.get? b=some u):gq P w H h':=λa o e=>
 (x a o e).stay (λb u _ q=>k b u q) (λ_ q=>q) λ_ _ q=>q
theorem gq.laid (x:gq P w H h) (k:∀b u,h.get? b=some u->h'.get? b=some u) (hp:h.objs.size<=a) (new:ck P w (upd H a o) h' a o):gq P w (upd H a o) h':=λb u e=>by
 have hn:=x.fresh hp
 by_cases hb:b=a
 ·subst hb;rw[bt] at e;cases e;exact new
 ·rw[aO hb] at e;exact(x b u e).stay (λc v _ q=>k c v q) (λc q=>by rw[aO (bf q hn)];exact q) λc xs q=>by rw[aO (bf q hn)];exact q
end
noncomputable def Rd (H:Hp) (a:Addr) (u:HO):Prop:=H a=some u∨∃o,H a=some (.frz o u)
theorem Rd.ok {H:Hp} {h:Heap} {u:HO} (r:Rd H a u) (x:gq P w H h):ck P w H h a u:=by
 rcases r with r | ⟨o,r⟩
 ·exact x a u r
 ·obtain⟨_,q⟩:=x a _ r;exact q
noncomputable def Ay:Option HO->Prop
 | some (.lst _)=>True
 | some (.dK _)=>True
 | some (.dT _)=>True
 | some (.set _ _)=>True
 | some (.ins _ _ _)=>True
 | some (.ext _)=>True
 | _=>False
section
variable {P:Program} {w:World} {H:Hp} {h h':Heap} {x e:Addr} {o':HO}
theorem gq.write (ok:gq P w H h) (mu:Ay (H x)) (he:e=x∨H e=some (.own x)) (k:∀b u,b≠e->h.get? b=some u->h'.get? b=some u) (heo:∃u,h'.get? e=some u)
 (new:ck P w (upd H x o') h' x o'):gq P w (upd H x o') h':=λb u q=>by
 have nown:∀c y,H c=some (.own y)->c≠x:=λc y r z=>by subst z;rw[r] at mu;exact mu
 have ntup:∀c xs,H c=some (.tup xs)->c≠x:=λc xs r z=>by subst z;rw[r] at mu;exact mu
 by_cases hb:b=x
 ·subst hb;rw[bt] at q;cases q;exact new
 ·rw[aO hb] at q
  by_cases hbe:b=e
  ·have q':H b=some (.own x):=by
    rcases he with z | z
    ·exact absurd (hbe.trans z) hb
    ·rw[hbe];exact z
   rw[q] at q';cases q';obtain⟨v,hv⟩:=heo;exact⟨v,by rw[hbe];exact hv⟩
  ·refine(ok b u q).stay (λc v hc r=>k c v ?_ r) (λc r=>by rw[aO (nown c b r)];exact r) λc xs r=>by rw[aO (ntup c xs r)];exact r
   rcases hc with rfl | hc
   ·exact hbe
   ·rintro rfl;rcases he with z | z
    ·exact nown c b hc z
    ·rw[hc] at z;cases z;exact hb rfl
end
structure Un (fs ex:List Addr) (H H':Hp) (h h':Heap):Prop where
 keep:∀b o,h.get? b=some o->H b=none->b∉fs->b∉ex->h'.get? b=some o
 slot:∀b o,h.get? b=some o->H b=none->b∈fs->b∉ex->∃sl,h'.get? b=some { o with slots:=sl }
 free:∀b o,h.get? b=some o->H b=none->b∉ex->H' b=none
 there:∀b o,h.get? b=some o->b∉ex->∃o',h'.get? b=some o'
 tups:∀b xs,H b=some (.tup xs)->H' b=some (.tup xs)
 frzs:∀b o u,H b=some (.frz o u)->H' b=some (.frz o u)
 tbls:∀b ps,H b=some (.tbl ps)->∃more,H' b=some (.tbl (ps++more))
section
variable {fs fs' ex ex':List Addr} {H H1 H2:Hp} {h h1 h2 h':Heap} {a x e:Addr} {o:HO}
theorem Un.any (u:Un fs ex H H1 h h1) {b:Addr} {ob:Obj} (q:h.get? b=some ob) (n:H b=none) (hx:b∉ex):∃sl,h1.get? b=some { ob with slots:=sl }:=by
 by_cases hb:b∈fs
 ·exact u.slot b ob q n hb hx
 ·exact⟨ob.slots,u.keep b ob q n hb hx⟩
theorem Un.kept (k:∀b u,h.get? b=some u->h'.get? b=some u):Un fs ex H H h h':=
 ⟨λb ob q _ _ _=>k b ob q,λb ob q _ _ _=>⟨ob.slots,k b ob q⟩,λ_ _ _ n _=>n,λb ob q _=>⟨ob,k b ob q⟩,λ_ _ q=>q,λ_ _ _ q=>q,λ_ ps q=>⟨#[],by rw[q];simp⟩⟩
theorem Un.refl:Un fs ex H H h h:=Un.kept λ_ _ q=>q
theorem Un.laid (k:∀b u,h.get? b=some u->h'.get? b=some u) (hp:h.objs.size<=a) (hn:H a=none):Un fs ex H (upd H a o) h h' where
 keep:=λb u q _ _ _=>k b u q
 slot:=λb u q _ _ _=>⟨u.slots,k b u q⟩
 free:=λb u q n _=>by rw[aO (ne_of_lt (ydw (ybv q) hp))];exact n
 there:=λb u q _=>⟨u,k b u q⟩
 tups:=λb xs q=>by rw[aO (bf q hn)];exact q
 frzs:=λb u xs q=>by rw[aO (bf q hn)];exact q
 tbls:=λb ps q=>⟨#[],by rw[aO (bf q hn),q];simp⟩
theorem Un.write (mu:Ay (H x)) (he:e=x∨H e=some (.own x)) (k:∀b u,b≠e->h.get? b=some u->h'.get? b=some u) (heo:∃u,h'.get? e=some u):Un fs ex H (upd H x o) h h':=by
 have hx:∀b,H b=none->b≠x:=λb n z=>by subst z;rw[n] at mu;exact mu
 have hb:∀b,H b=none->b≠e:=λb n z=>by
  subst z;rcases he with r | r
  ·exact hx b n r
  ·rw[n] at r;cases r
 have hm:∀b u,H b=some u->¬Ay (some u)->b≠x:=λb u q nm z=>by subst z;rw[q] at mu;exact nm mu
 refine⟨λb u q n _ _=>k b u (hb b n) q,λb u q n _ _=>⟨u.slots,k b u (hb b n) q⟩,λb u q n _=>by rw[aO (hx b n)];exact n,λb u q _=>?_,
  λb xs q=>by rw[aO (hm b _ q λz=>z)];exact q,λb u xs q=>by rw[aO (hm b _ q λz=>z)];exact q,λb ps q=>⟨#[],by rw[aO (hm b _ q λz=>z),q];simp⟩⟩
 by_cases hbe:b=e
 ·subst hbe;exact heo
 ·exact⟨u,k b u hbe q⟩
end
noncomputable def C7 (h:Heap) (H:Hp):List Addr:=(List.range h.objs.size).filter λa=>(H a).isSome
noncomputable def kt (h:Heap) (H:Hp):Heap:=hideAll h (C7 h H)
theorem qA (h:Heap) (H:Hp):(kt h H).objs.size=h.objs.size:=PySem.W.hideAll_size _ _
theorem rW {h:Heap} {H:Hp} {b:Addr} {o:Obj} (e:h.get? b=some o) (n:H b=none):(kt h H).get? b=some o:=
 hideAll_get _ e λhm=>by
  have q:(H b).isSome=true:=(List.mem_filter.mp hm).2;rw[n] at q;simp at q
theorem u6 {h:Heap} {H:Hp} {b:Addr} {o:Obj} (e:(kt h H).get? b=some o):h.get? b=some o/\H b=none:=by
 have e':h.get? b=some o:=of_hideAll (C7 h H) e;refine⟨e',?_⟩;cases q:H b with
 | none=>rfl
 | some x=>
   have hm:b∈C7 h H:=List.mem_filter.mpr ⟨List.mem_range.mpr (ybv e'),by simp[q]⟩;have z:(kt h H).get? b=none:=hideAll_none (C7 h H) hm;rw[z] at e;cases e
noncomputable def u7 (g h:Heap) (L:Addr):List (Addr×Obj):=(List.range h.objs.size).filterMap λa=>if a=L∨(g.get? a).isSome=true then none else (h.get? a).map λo=>(a,o)
noncomputable def rest (g h:Heap) (L d:Addr):List (Addr×Obj):=(u7 g h L).filter λp=>decide (p.1≠d)
structure Mod (K:yav) (mg:yew) (base:Heap):Prop where
 kin:K.In base
 glob:base.Ns mainGlobals mg
 blt:∃mb,base.Ns builtinsNs mb/\∀x:Str,x≠"__name__"->mb x=bootBuiltins x
 nolimit:base.NoLimit
structure Cx where
 prog:Program
 w:World
 K:yav
 mg:Str->Option Value
 base:Heap
 A:Around
 N:List Str
 s₀:Shared
 H₀:Hp
 env:Env
 outer:List Env
 stack:List Env
 ex:List Addr
 fn:Str->Bool
 calm:Bool
 pn:List (Addr×Obj)
 xe:Value->Shared->Prop
noncomputable def eK (l:List Env):List Addr:=l.filterMap (·.frame)
noncomputable abbrev Cx.fs (X:Cx):List Addr:=eK X.outer
noncomputable def C8 (sc:Scope) (x:Str):Prop:=sc.names.lookup x=some .local∨sc.names.lookup x=some .cell∨sc.names.lookup x=some .free
noncomputable def u9 (sc:Scope) (x:Str):Prop:=sc.names.lookup x=some .local∨sc.names.lookup x=some .cell
noncomputable def Dn (env:Env) (h:Heap) (m:yew) (x:Str) (u:Value):Prop:=
 (env.kindOf x=some .local/\m x=some u)∨((env.kindOf x=some .cell∨env.kindOf x=some .free)/\∃c,env.cells.lookup x=some c/\h.IsCell c (some u))
structure Cx.Ok (X:Cx):Prop where
 mod:Mod X.K X.mg X.base
 kind:X.env.scope.kind=.function
 glob:X.env.globals=mainGlobals
 blt:X.env.builtins=builtinsNs
 above:X.s₀.heap.objs.size<=X.env.locals
 inj:∀x y c,X.env.cells.lookup x=some c->X.env.cells.lookup y=some c->x=y
 has:∀x,(X.env.kindOf x=some .cell∨X.env.kindOf x=some .free)->∃c,X.env.cells.lookup x=some c
 cab:∀x c,X.fn x=true->X.env.cells.lookup x=some c->X.s₀.heap.objs.size<=c
 hd:X.calm=true->X.A.handled=none
 frames:X.A.frames=some X.stack
 stk:X.stack=X.outer∨(X.stack=X.env::X.outer/\X.env.frame=some X.env.locals)
 exf:∀b∈X.ex,b≠X.env.locals/\∀x c,X.env.cells.lookup x=some c->c≠b
 bs:∀b o,X.base.get? b=some o->X.s₀.heap.get? b=some o/\X.H₀ b=none
 bsz:X.base.objs.size<=X.s₀.heap.objs.size
 noex:∀b o,X.base.get? b=some o->b∉X.ex
 exfs:∀b∈X.ex,b∉X.fs
 funs:X.s₀.heap.FunFrames X.base X.outer
 frf:∀b∈X.fs,X.H₀ b=none
structure aJ (X:Cx) (π:List (Addr×Obj)) (σ:List (Option V)) (H:Hp) (s:Shared):Prop where
 ok:X.Ok
 os:s.os=X.s₀.os
 bare:AllBare s.gens
 base:Un X.fs X.ex X.H₀ H X.s₀.heap s.heap
 loc:∃m,s.heap.Ns X.env.locals m/\∀(i:Nat) (x:Str) (v:V),X.N[i]?=some x->σ[i]?=some (some v)->C8 X.env.scope x->∃u,bo v u/\Dn X.env s.heap m x u
 cell:∀x c,X.env.cells.lookup x=some c->∃v,s.heap.IsCell c v
 free:H X.env.locals=none
 freeC:∀x c,X.env.cells.lookup x=some c->H c=none
 pin:∀p∈X.pn++π,s.heap.get? p.1=some p.2/\H p.1=none/\p.1≠X.env.locals/\p.1∉X.fs/\∀v,p.2.data≠ .cell v
 hok:gq X.prog X.w H s.heap
 len:σ.length=X.N.length
section
variable {X:Cx} {π:List (Addr×Obj)} {σ:List (Option V)} {H H':Hp} {s:Shared} {h':Heap}
theorem Cx.Ok.nofr (ok:X.Ok) {b:Addr} {o:Obj} (e:X.base.get? b=some o):b∉X.fs:=λhb=>by
 have:=(ok.funs.mem hb).1;rw[e] at this;cases this
theorem aJ.bs (I:aJ X π σ H s):∀b o,X.base.get? b=some o->s.heap.get? b=some o/\H b=none:=λb o e=>
 ⟨I.base.keep b o (I.ok.bs b o e).1 (I.ok.bs b o e).2 (I.ok.nofr e) (I.ok.noex b o e),I.base.free b o (I.ok.bs b o e).1 (I.ok.bs b o e).2 (I.ok.noex b o e)⟩
theorem aJ.bk (I:aJ X π σ H s):∀b o,X.base.get? b=some o->s.heap.get? b=some o:=λb o e=>(I.bs b o e).1
theorem aJ.mod (I:aJ X π σ H s):Mod X.K X.mg X.base:=I.ok.mod
theorem aJ.kIn (I:aJ X π σ H s):X.K.In s.heap:=I.ok.mod.kin.keeps I.bk
theorem aJ.lt (I:aJ X π σ H s):X.env.locals<s.heap.objs.size:=let ⟨_,hn,_⟩:=I.loc;hn.lt
theorem aJ.sz (I:aJ X π σ H s):X.s₀.heap.objs.size<=s.heap.objs.size:=ycy I.ok.above (Nat.le_of_lt I.lt)
theorem aJ.nofs (I:aJ X π σ H s) (h:s.heap.objs.size<=a):a∉X.fs:=λhb=>by
 obtain⟨_,o,ho,_⟩:=I.ok.funs.mem hb;exact absurd (ydw (ybv ho) (ycy I.sz h)) (lt_irrefl _)
theorem aJ.cne (I:aJ X π σ H s):∀x c,X.env.cells.lookup x=some c->c≠X.env.locals:=λx c e z=>by
 obtain⟨v,o,ho,hd⟩:=I.cell x c e;obtain⟨m,⟨o',es,ep,ho',hd',_⟩,_⟩:=I.loc;rw[z,ho'] at ho;cases ho;rw[hd'] at hd;cases hd
theorem aJ.funs (I:aJ X π σ H s):s.heap.FunFrames X.base X.outer:=by
 have all:∀(l:List Env),(∀b∈eK l,b∈X.fs)->X.s₀.heap.FunFrames X.base l->s.heap.FunFrames X.base l:=by
  intro l
  induction l with
  | nil=>intro _ _;trivial
  | cons env r ih=>
    intro hs hl;obtain⟨hk,⟨L,o,hf,hn,ho,hd⟩,hr⟩:=hl;have hL:L∈X.fs:=hs L (by unfold eK;rw[filterMap_cons,hf];exact yby);obtain⟨sl,e⟩:=I.base.slot L o ho (I.ok.frf L hL) hL λz=>I.ok.exfs L z hL;exact⟨hk,⟨L,_,hf,hn,e,hd⟩,ih (λb hb=>hs b (by unfold eK;rw[filterMap_cons,hf];exact ybx _ hb)) hr⟩
 exact all X.outer (λ_ hb=>hb) I.ok.funs
theorem aJ.stack (I:aJ X π σ H s):s.heap.FunFrames X.base X.stack:=by
 rcases I.ok.stk with e | ⟨e,hf⟩
 ·rw[e];exact I.funs
 ·rw[e];obtain⟨m,hn,_⟩:=I.loc;refine .cons (by rw[I.ok.kind];decide) hf hn ?_ I.funs;exact Heap.get?_none_of_le (ycy I.ok.bsz I.ok.above)
theorem aJ.stkSub (I:aJ X π σ H s):∀b∈eK X.stack,b∈X.env.locals::X.fs:=λb hb=>by
 rcases I.ok.stk with e | ⟨e,hf⟩
 ·rw[e] at hb;exact ybx _ hb
 ·rw[e] at hb;unfold eK at hb;rw[filterMap_cons,hf] at hb;exact hb
theorem aJ.stkFree (I:aJ X π σ H s):∀b∈eK X.stack,H b=none:=λb hb=>by
 rcases mem_cons.mp (I.stkSub b hb) with e | hb
 ·rw[e];exact I.free
 ·obtain⟨_,o,ho,_⟩:=I.ok.funs.mem hb;exact I.base.free b o ho (I.ok.frf b hb) λz=>I.ok.exfs b z hb
theorem aJ.step {g':Array GenState} {t':Nat} {d':Drawn} {ch:List Addr} (I:aJ X π σ H s)
 (hch:∀b∈ch,(b∈X.ex∨X.s₀.heap.objs.size<=b)/\b≠X.env.locals/\(∀x c,X.env.cells.lookup x=some c->c≠b)/\∀p∈X.pn++π,p.1≠b)
 (keep:∀b o,b≠X.env.locals->b∉X.fs->b∉ch->s.heap.get? b=some o->H b=none->h'.get? b=some o)
 (slot:∀b o,b≠X.env.locals->b∈X.fs->b∉ch->s.heap.get? b=some o->H b=none->∃sl,h'.get? b=some { o with slots:=sl }) (free:∀b o,b∉ch->s.heap.get? b=some o->H b=none->H' b=none)
 (there:∀b o,b∉ch->s.heap.get? b=some o->∃o',h'.get? b=some o')
 (tups:∀b xs,H b=some (.tup xs)->H' b=some (.tup xs)) (frzs:∀b o u,H b=some (.frz o u)->H' b=some (.frz o u)) (tbls:∀b ps,H b=some (.tbl ps)->∃more,H' b=some (.tbl (ps++more)))
 (ns:∀m,s.heap.Ns X.env.locals m->h'.Ns X.env.locals m) (hok:gq X.prog X.w H' h') (hg:AllBare g'):
 aJ X π σ H' { s with heap:=h',gens:=g',drawn:=d',toks:=t' }:=by
 have neL:∀b o,X.s₀.heap.get? b=some o->b≠X.env.locals:=λb o e=>ne_of_lt (ydw (ybv e) I.ok.above);have neC:∀b o,X.s₀.heap.get? b=some o->b∉X.ex->b∉ch:=λb o e hx hb=>by
  rcases(hch b hb).1 with z | z
  ·exact hx z
  ·exact absurd (ydw (ybv e) z) (lt_irrefl _)
 have cellK:∀x c,X.env.cells.lookup x=some c->∀v,s.heap.IsCell c v->h'.IsCell c v:=λx c e v ⟨o,ho,hd⟩=>by
  have nch:c∉ch:=λz=>(hch c z).2.2.1 x c e rfl
  by_cases hc:c∈X.fs
  ·obtain⟨sl,q⟩:=slot c o (I.cne x c e) hc nch ho (I.freeC x c e);exact⟨_,q,hd⟩
  ·exact⟨o,keep c o (I.cne x c e) hc nch ho (I.freeC x c e),hd⟩
 refine⟨I.ok,I.os,hg,⟨λb o e n hb hx=>?_,λb o e n hb hx=>?_,λb o e n hx=>?_,λb o e hx=>?_,λb xs e=>tups b xs (I.base.tups b xs e),λb o xs e=>frzs b o xs (I.base.frzs b o xs e),λb ps e=>?_⟩,?_,λx c e=>?_,?_,λx c e=>?_,λp hp=>?_,hok,I.len⟩
 ·exact keep b o (neL b o e) hb (neC b o e hx) (I.base.keep b o e n hb hx) (I.base.free b o e n hx)
 ·obtain⟨sl,e1⟩:=I.base.slot b o e n hb hx;obtain⟨sl',e2⟩:=slot b _ (neL b o e) hb (neC b o e hx) e1 (I.base.free b o e n hx);exact⟨sl',e2⟩
 ·obtain⟨o',e1⟩:=I.base.there b o e hx;exact free b o' (neC b o e hx) e1 (I.base.free b o e n hx)
 ·obtain⟨o',e1⟩:=I.base.there b o e hx;exact there b o' (neC b o e hx) e1
 ·obtain⟨m1,e1⟩:=I.base.tbls b ps e;obtain⟨m2,e2⟩:=tbls b _ e1;exact⟨m1++m2,by rw[e2,Array.append_assoc]⟩
 ·obtain⟨m,hn,hl⟩:=I.loc;refine⟨m,ns m hn,λi x v e1 e2 e3=>?_⟩;obtain⟨u,r,l⟩:=hl i x v e1 e2 e3;refine⟨u,r,?_⟩;rcases l with l | ⟨k,c,e,z⟩
  ·exact .inl l
  ·exact .inr ⟨k,c,e,cellK x c e _ z⟩
 ·obtain⟨v,z⟩:=I.cell x c e;exact⟨v,cellK x c e v z⟩
 ·obtain⟨m,⟨o,_,_,ho,_⟩,_⟩:=I.loc;exact free _ o (λz=>(hch _ z).2.1 rfl) ho I.free
 ·obtain⟨v,o,ho,hd⟩:=I.cell x c e;exact free c o (λz=>(hch c z).2.2.1 x c e rfl) ho (I.freeC x c e)
 ·obtain⟨e,n,ne,nf,d⟩:=I.pin p hp;have nch:p.1∉ch:=λz=>(hch p.1 z).2.2.2 p hp rfl;exact⟨keep p.1 p.2 ne nf nch e n,free p.1 p.2 nch e n,ne,nf,d⟩
theorem aJ.un {t':Nat} (I:aJ X π σ H s) (u:Un X.fs [] H H' s.heap h') (hok:gq X.prog X.w H' h'):aJ X π σ H' { s with heap:=h',toks:=t' }:=by
 obtain⟨m,⟨o,es,ep,ho,r⟩,_⟩:=id I.loc;obtain⟨sl,hL⟩:=u.any ho I.free (by simp);exact I.step (g':=s.gens) (d':=s.drawn) (ch:=[]) (λ_ z=>nomatch z) (λb o _ hb _ e n=>u.keep b o e n hb (by simp)) (λb o _ hb _ e n=>u.slot b o e n hb (by simp)) (λb o _ e n=>u.free b o e n (by simp)) (λb o _ e=>u.there b o e (by simp)) u.tups u.frzs u.tbls (λm' hm=>by
  obtain⟨o',es',ep',ho',r'⟩:=hm;rw[ho] at ho';cases ho';exact⟨_,es',ep',hL,r'⟩) hok I.bare
theorem aJ.call {g':Array GenState} {t':Nat} {d':Drawn} {ch:List Addr} (I:aJ X π σ H s) (u:Un (eK X.stack) ch H H' s.heap h') (hok:gq X.prog X.w H' h') (hg:AllBare g')
 (hch:∀b∈ch,(b∈X.ex∨X.s₀.heap.objs.size<=b)/\b≠X.env.locals/\(∀x c,X.env.cells.lookup x=some c->c≠b)/\∀p∈X.pn++π,p.1≠b):
 aJ X π σ H' { s with heap:=h',gens:=g',drawn:=d',toks:=t' }:=by
 obtain⟨m,⟨o,es,ep,ho,r⟩,_⟩:=id I.loc;obtain⟨sl,hL⟩:=u.any ho I.free λz=>(hch _ z).2.1 rfl;exact I.step (ch:=ch) hch (λb o hL hb hc e n=>u.keep b o e n (λz=>(mem_cons.mp (I.stkSub b z)).elim hL hb) hc) (λb o _ _ hc e n=>u.any e n hc) (λb o hc e n=>u.free b o e n hc) (λb o hc e=>u.there b o e hc) u.tups u.frzs u.tbls (λm' hm=>by
  obtain⟨o',es',ep',ho',r'⟩:=hm;rw[ho] at ho';cases ho';exact⟨_,es',ep',hL,r'⟩) hok hg
theorem aJ.turned {t':Nat} {it:Addr} (I:aJ X π σ H s) (k:∀b o,b≠it->s.heap.get? b=some o->h'.get? b=some o) (hn:H it=none) (hL:it≠X.env.locals)
 (h1:it∈X.ex∨X.s₀.heap.objs.size<=it) (h2:∀x c,X.env.cells.lookup x=some c->c≠it) (h3:∀p∈X.pn++π,p.1≠it):aJ X π σ H { s with heap:=h',toks:=t' }:=by
 have nit:∀b u,H b=some u->b≠it:=λb u e z=>by rw[z,hn] at e;cases e
 refine I.step (g':=s.gens) (d':=s.drawn) (ch:=[it]) (λb hb=>?_) (λb o _ _ hc e _=>k b o (λz=>hc (by simp[z])) e) (λb o _ _ hc e _=>⟨o.slots,k b o (λz=>hc (by simp[z])) e⟩) (λ_ _ _ _ n=>n)
  (λb o hc e=>⟨o,k b o (λz=>hc (by simp[z])) e⟩) (λ_ _ e=>e) (λ_ _ _ e=>e) (λb ps e=>⟨#[],by rw[e];simp⟩) (λm hm=>?_) (λb u e=>?_) I.bare
 ·have e:b=it:=by simpa using hb
  subst e;exact⟨h1,hL,h2,h3⟩
 ·obtain⟨o,es,ep,ho,r⟩:=hm;exact⟨o,es,ep,k _ o (Ne.symm hL) ho,r⟩
 ·refine(I.hok b u e).stay (λc v hc q=>k c v ?_ q) (λ_ q=>q) λ_ _ q=>q;rcases hc with z | z
  ·rw[z];exact nit b u e
  ·exact nit c _ z
theorem aJ.tok (I:aJ X π σ H s) (t:Nat):aJ X π σ H { s with toks:=t }:=I.un (h':=s.heap) (t':=t) Un.refl I.hok
theorem aJ.kept {t':Nat} (I:aJ X π σ H s) (k:∀b u,s.heap.get? b=some u->h'.get? b=some u):aJ X π σ H { s with heap:=h',toks:=t' }:=I.un (Un.kept k) (I.hok.kept k)
theorem aJ.laid {o:HO} {t':Nat} (I:aJ X π σ H s) (k:∀b u,s.heap.get? b=some u->h'.get? b=some u) (hp:s.heap.objs.size<=a) (new:ck X.prog X.w (upd H a o) h' a o):
 aJ X π σ (upd H a o) { s with heap:=h',toks:=t' }:=I.un (Un.laid k hp (I.hok.fresh hp)) (I.hok.laid k hp new)
theorem aJ.write {x e:Addr} {o:HO} {t':Nat} (I:aJ X π σ H s) (mu:Ay (H x)) (he:e=x∨H e=some (.own x)) (k:∀b u,b≠e->s.heap.get? b=some u->h'.get? b=some u) (heo:∃u,h'.get? e=some u)
 (new:ck X.prog X.w (upd H x o) h' x o):aJ X π σ (upd H x o) { s with heap:=h',toks:=t' }:=I.un (Un.write mu he k heo) (I.hok.write mu he k heo new)
theorem aJ.pins_of {pins':List (Addr×Obj)} (I:aJ X π σ H s) (h:∀p∈pins',s.heap.get? p.1=some p.2/\H p.1=none/\p.1≠X.env.locals/\p.1∉X.fs/\∀v,p.2.data≠ .cell v):aJ X pins' σ H s:=
 ⟨I.ok,I.os,I.bare,I.base,I.loc,I.cell,I.free,I.freeC,λp hp=>(mem_append.mp hp).elim (λz=>I.pin p (mem_append_left _ z)) (h p),I.hok,I.len⟩
theorem iK {N:List Str} (hN:N.Nodup) {i j:Nat} (a:N[i]?=some x) (b:N[j]?=some x):i=j:=by
 obtain⟨h1,e1⟩:=List.getElem?_eq_some_iff.mp a;obtain⟨h2,e2⟩:=List.getElem?_eq_some_iff.mp b;exact(List.getElem_inj hN).mp (e1.trans e2.symm)
theorem jC {M:Model} {v:V} {Q:Unit->Shared->Prop} (I:aJ X π σ H s) (hN:X.N.Nodup) (hi:X.N[i]?=some x) (hx:u9 X.env.scope x) (r:bo v u)
 (h:∀s',aJ X π (σ.set i (some v)) H s'->(∃a,Heap.SameBut a s.heap s'.heap/\(a=X.env.locals∨X.env.cells.lookup x=some a))->Q () s') (hf:X.fn x=true∨X.env.scope.names.lookup x=some .local:=by first | exact .inl rfl | exact .inr rfl | assumption):wpAny M A (storeName X.env x u) Q E s:=by
 obtain⟨m,hn,hl⟩:=id I.loc;have hcls:(X.env.scope.kind== .class||(X.env.scope.kind== .module&&X.env.locals !=X.env.globals))=false:=by rw[I.ok.kind];rfl
 have hiσ:i<σ.length:=by rw[I.len];exact(List.getElem?_eq_some_iff.mp hi).1
 have cne:=I.cne;have tracked:∀{a:Addr} {h':Heap},(∃o,s.heap.get? a=some o/\H a=none)->Heap.SameBut a s.heap h'->gq X.prog X.w H h':=λ{a h'} ha hs b ob e=>by
  obtain⟨_,_,hfree⟩:=ha;refine(I.hok b ob e).stay (λc w' hc q=>(hs.2 c ?_).trans q) (λ_ q=>q) λ_ _ q=>q;rintro rfl;rcases hc with rfl | hc
  ·rw[hfree] at e;cases e
  ·rw[hfree] at hc;cases hc
 rcases hx with hk | hk
 ·refine wpAny_storeName_local hk hn (λh' hn' hs=>?_) hcls;obtain⟨oL,_,_,hoL,_⟩:=id hn;refine h _ ⟨I.ok,I.os,I.bare,⟨λb o e n hb hx=>?_,λb o e n hb hx=>?_,I.base.free,λb o e hx=>?_,I.base.tups,I.base.frzs,I.base.tbls⟩,⟨_,hn',λj y v' e1 e2 e3=>?_⟩,λy c e=>?_,I.free,I.freeC,λp hp=>?_,tracked ⟨oL,hoL,I.free⟩ hs,by simpa using I.len⟩ ⟨_,hs,.inl rfl⟩
  ·exact(hs.2 b (ne_of_lt (ydw (ybv e) I.ok.above))).trans (I.base.keep b o e n hb hx)
  ·obtain⟨sl,e1⟩:=I.base.slot b o e n hb hx;exact⟨sl,(hs.2 b (ne_of_lt (ydw (ybv e) I.ok.above))).trans e1⟩
  ·obtain⟨o',e1⟩:=I.base.there b o e hx;exact⟨o',(hs.2 b (ne_of_lt (ydw (ybv e) I.ok.above))).trans e1⟩
  ·by_cases hj:j=i
   ·subst hj;rw[hi] at e1;cases e1;rw[List.getElem?_set_self hiσ] at e2;cases e2;exact⟨u,r,.inl ⟨hk,by simp⟩⟩
   ·rw[List.getElem?_set_ne (Ne.symm hj)] at e2;obtain⟨u',r',q⟩:=hl j y v' e1 e2 e3;refine⟨u',r',?_⟩;rcases q with⟨k,e⟩ | ⟨k,c,e,z⟩
    ·refine .inl ⟨k,?_⟩;have:y≠x:=λe=>hj (iK hN e1 (e▸hi));simp[this,e]
    ·exact .inr ⟨k,c,e,z.sameBut hs (cne y c e)⟩
  ·obtain⟨w',z⟩:=I.cell y c e;exact⟨w',z.sameBut hs (cne y c e)⟩
  ·obtain⟨e,n,ne,nf,d⟩:=I.pin p hp;exact⟨(hs.2 p.1 ne).trans e,n,ne,nf,d⟩
 ·have hfn:X.fn x=true:=by
   rcases hf with z | z
   ·exact z
   ·rw[z] at hk;cases hk
  obtain⟨c,hc⟩:=I.ok.has x (.inl hk);obtain⟨w',z⟩:=I.cell x c hc;refine wpAny_storeName_cell I.ok.kind hk hc z (λh' hc' hs=>?_);obtain⟨oc,hoc,hocd⟩:=id z;refine h { s with heap:=h' } ⟨I.ok,I.os,I.bare,⟨λb o e n hb hx=>?_,λb o e n hb hx=>?_,I.base.free,λb o e hx=>?_,I.base.tups,I.base.frzs,I.base.tbls⟩,⟨m,hn.sameBut hs (Ne.symm (cne x c hc)),λj y v' e1 e2 e3=>?_⟩,λy c' e=>?_,I.free,I.freeC,λp hp=>?_,tracked ⟨oc,hoc,I.freeC x c hc⟩ hs,by simpa using I.len⟩ ⟨c,hs,.inr hc⟩
  ·exact(hs.2 b (ne_of_lt (ydw (ybv e) (I.ok.cab x c hfn hc)))).trans (I.base.keep b o e n hb hx)
  ·obtain⟨sl,e1⟩:=I.base.slot b o e n hb hx;exact⟨sl,(hs.2 b (ne_of_lt (ydw (ybv e) (I.ok.cab x c hfn hc)))).trans e1⟩
  ·obtain⟨o',e1⟩:=I.base.there b o e hx;exact⟨o',(hs.2 b (ne_of_lt (ydw (ybv e) (I.ok.cab x c hfn hc)))).trans e1⟩
  ·by_cases hj:j=i
   ·subst hj;rw[hi] at e1;cases e1;rw[List.getElem?_set_self hiσ] at e2;cases e2;exact⟨u,r,.inr ⟨.inl hk,c,hc,hc'⟩⟩
   ·rw[List.getElem?_set_ne (Ne.symm hj)] at e2;obtain⟨u',r',q⟩:=hl j y v' e1 e2 e3;refine⟨u',r',?_⟩;rcases q with q | ⟨k,c',e,z'⟩
    ·exact .inl q
    ·refine .inr ⟨k,c',e,z'.sameBut hs ?_⟩;rintro rfl;exact hj (iK hN e1 (I.ok.inj _ _ _ e hc▸hi))
  ·by_cases hcc:c'=c
   ·subst hcc;exact⟨_,hc'⟩
   ·obtain⟨w2,z2⟩:=I.cell y c' e;exact⟨w2,z2.sameBut hs hcc⟩
  ·obtain⟨e,n,ne,nf,d⟩:=I.pin p hp;refine⟨(hs.2 p.1 ?_).trans e,n,ne,nf,d⟩;intro q;rw[q,hoc] at e;have q':oc=p.2:=Option.some.inj e;exact d w' (by rw[←q'];exact hocd)
theorem gs {M:Model} {v:V} {Q:Unit->Shared->Prop} (I:aJ X π σ H s) (hN:X.N.Nodup) (hi:X.N[i]?=some x) (hx:u9 X.env.scope x) (r:bo v u)
 (h:∀s',aJ X π (σ.set i (some v)) H s'->Q () s') (hf:X.fn x=true∨X.env.scope.names.lookup x=some .local:=by first | exact .inl rfl | exact .inr rfl | assumption):wpAny M A (storeName X.env x u) Q E s:=
 jC I hN hi hx r (λs' I' _=>h s' I') hf
theorem aJ.call' {s':Shared} {ch:List Addr} (I:aJ X π σ H s) (ho:s'.os=s.os) (u:Un (eK X.stack) ch H H' s.heap s'.heap) (hok:gq X.prog X.w H' s'.heap) (hg:AllBare s'.gens)
 (hch:∀b∈ch,(b∈X.ex∨X.s₀.heap.objs.size<=b)/\b≠X.env.locals/\(∀x c,X.env.cells.lookup x=some c->c≠b)/\∀p∈X.pn++π,p.1≠b):aJ X π σ H' s':=by
 obtain⟨h',g',d',t',o'⟩:=s';have e:o'=s.os:=ho;subst e;exact I.call (g':=g') (t':=t') (d':=d') u hok hg hch
end
noncomputable abbrev XK:=Value->Option Addr->Hp->Prop
noncomputable abbrev St:=List (Option V)
noncomputable abbrev VK:=V->Hp->Prop
noncomputable abbrev TE:=St->Hp->VK->Prop
noncomputable abbrev TT:=St->Hp->(Bool->Hp->Prop)->Prop
noncomputable abbrev TA:=St->Hp->(List V->Hp->Prop)->Prop
structure iu where
 nx:St->Hp->Prop
 rt:VK
 bk:St->Hp->Prop:=λ_ _=>False
 ct:St->Hp->Prop:=λ_ _=>False
noncomputable abbrev TS:=iu->St->Hp->Prop
noncomputable def EP (X:Cx) (π:List (Addr×Obj)) (σ:St) (Q:VK) (u:Value) (s':Shared):Prop:=∃v H',aJ X π σ H' s'/\bo v u/\Q v H'
noncomputable def TP (X:Cx) (π:List (Addr×Obj)) (σ:St) (Q:Bool->Hp->Prop) (b:Bool) (s':Shared):Prop:=∃H',aJ X π σ H' s'/\Q b H'
noncomputable def AP (X:Cx) (π:List (Addr×Obj)) (σ:St) (Q:List V->Hp->Prop) (us:yez) (s':Shared):Prop:=∃vs H',aJ X π σ H' s'/\aY vs us/\Q vs H'
noncomputable def SP (X:Cx) (π:List (Addr×Obj)) (D:iu) (f:Flow) (s':Shared):Prop:=
 match f with
 | .next=>∃σ' H',aJ X π σ' H' s'/\D.nx σ' H'
 | .brk=>∃σ' H',aJ X π σ' H' s'/\D.bk σ' H'
 | .cont=>∃σ' H',aJ X π σ' H' s'/\D.ct σ' H'
 | .ret u=>∃v σ' H',aJ X π σ' H' s'/\bo v u/\D.rt v H'
noncomputable def PE (X:Cx) (e:Expr) (t:TE):Prop:=
 ∀(π:List (Addr×Obj)) (s:Shared) (σ:St) (H:Hp) (Q:VK),aJ X π σ H s->t σ H Q->wpAny (model X.prog X.w) X.A (eval e X.env) (EP X π σ Q) X.xe s
noncomputable def PT (X:Cx) (e:Expr) (t:TT):Prop:=
 ∀(π:List (Addr×Obj)) (s:Shared) (σ:St) (H:Hp) (Q:Bool->Hp->Prop),aJ X π σ H s->t σ H Q->wpAny (model X.prog X.w) X.A (isTrue e X.env (eval e X.env)) (TP X π σ Q) X.xe s
noncomputable def PW (X:Cx) (e:Expr) (t:TT):Prop:=
 ∀(whole:Sem Value) (π:List (Addr×Obj)) (s:Shared) (σ:St) (H:Hp) (Q:Bool->Hp->Prop),aJ X π σ H s->t σ H Q->wpAny (model X.prog X.w) X.A (isTrue e X.env whole) (TP X π σ Q) X.xe s
theorem PW.pt {X:Cx} {t:TT} (h:PW X e t):PT X e t:=h _
noncomputable def PA (X:Cx) (es:List Expr) (t:TA):Prop:=
 ∀(pos:Pos) (π:List (Addr×Obj)) (s:Shared) (σ:St) (H:Hp) (Q:List V->Hp->Prop),aJ X π σ H s->t σ H Q->wpAny (model X.prog X.w) X.A (spliced (backTo pos (starEach es X.env))) (AP X π σ Q) X.xe s
noncomputable def PS (X:Cx) (st:Stmt) (t:TS):Prop:=
 ∀(π:List (Addr×Obj)) (s:Shared) (σ:St) (H:Hp) (D:iu),aJ X π σ H s->t D σ H->wpAny (model X.prog X.w) X.A (exec st X.env) (SP X π D) X.xe s
noncomputable def lF (X:Cx) (st:List Stmt) (t:TS):Prop:=
 ∀(π:List (Addr×Obj)) (s:Shared) (σ:St) (H:Hp) (D:iu),aJ X π σ H s->t D σ H->wpAny (model X.prog X.w) X.A (execs st X.env) (SP X π D) X.xe s
theorem ca {α:Type} {t:Sem α} {Q Q':α->Shared->Prop} {M:Model} (h:wpAny M A t Q E s) (hQ:∀a s,Q a s->Q' a s):wpAny M A t Q' E s:=wpAny_mono h hQ λ_ _ x=>x
section
variable {X:Cx}
noncomputable def yw (i:Nat):TE:=λσ H Q=>∃v,σ[i]?=some (some v)/\Q v H
noncomputable def tC (v:V):TE:=λ_ H Q=>Q v H
theorem rX (hN:X.N[i]?=some x) (hv:C8 X.env.scope x) (hd:(x==("__debug__":Str))=false:=by decide) (hcd:(x==("__classdict__":Str))=false:=by decide):PE X (.Name x pos) (yw i):=by
 intro π s σ H Q I h;obtain⟨v,e,h⟩:=h;obtain⟨m,hn,hl⟩:=I.loc;obtain⟨u,r,l⟩:=hl i x v hN e hv;have fin:EP X π σ Q u s:=⟨v,H,I,r,h⟩;rcases l with⟨hk,hm⟩ | ⟨hk,c,hc,hcell⟩
 ·exact wpAny_Name (wpAny_loadName_local I.ok.kind hk hn hm fin) hd
 ·rcases hk with hk | hk
  ·exact wpAny_Name (wpAny_loadName_cell I.ok.kind hk hc hcell fin) hd
  ·exact wpAny_Name (wpAny_loadName_free I.ok.kind hk hc hcell fin hcd) hd
theorem yx {i j pos}:PE X (.Constant (.int i) j pos) (tC (.int i)):=λ_ _ _ H _ I h=>wpAny_Constant_int ⟨.int i,H,I.tok _,⟨_,rfl⟩,h⟩
theorem Az {b j pos}:PE X (.Constant (.bool b) j pos) (tC (.bl b)):=λ_ _ _ H _ I h=>Constant_bool ⟨.bl b,H,I,rfl,h⟩
theorem yy {j pos}:PE X (.Constant .none j pos) (tC .non):=λ_ _ _ H _ I h=>Constant_none ⟨.non,H,I,rfl,h⟩
theorem ku {x j pos}:PE X (.Constant (.str x) j pos) (tC (.str x)):=λ_ _ _ H _ I h=>Calls.Constant_str ⟨.str x,H,I.tok _,⟨_,rfl⟩,h⟩
noncomputable def Gl (X:Cx) (x:Str):Prop:=X.env.kindOf x=some .globalImplicit
theorem eL {σ:St} {H:Hp} (I:aJ X π σ H s) (hg:Gl X x) (hm:X.mg x=some u) (h:Q u s)
 (hd:(x==("__debug__":Str))=false:=by decide):wpAny (model X.prog X.w) X.A (eval (.Name x pos) X.env) Q E s:=
 Calls.Name_function_global I.ok.kind hg (Calls.loadGlobal_global (by rw[I.ok.glob];exact I.mod.glob.keeps I.bk) hm h) hd
theorem iL {σ:St} {H:Hp} (I:aJ X π σ H s) (hg:Gl X x) (hm:X.mg x=none) (hv:bootBuiltins x=some u) (h:Q u s)
 (hn:x≠"__name__":=by decide) (hd:(x==("__debug__":Str))=false:=by decide):wpAny (model X.prog X.w) X.A (eval (.Name x pos) X.env) Q E s:=by
 obtain⟨mb,h1,h2⟩:=I.mod.blt;exact Calls.Name_function_global I.ok.kind hg (Calls.loadGlobal_builtin (by rw[I.ok.glob];exact I.mod.glob.keeps I.bk) hm (by rw[I.ok.blt];exact h1.keeps I.bk) ((h2 x hn).trans hv) h) hd
theorem kx {v:V} (hg:Gl X x) (hm:X.mg x=some u) (r:bo v u) (hd:(x==("__debug__":Str))=false:=by decide):PE X (.Name x pos) (tC v):=
 λ_ _ _ H _ I h=>eL I hg hm ⟨v,H,I,r,h⟩ hd
theorem vc {v:V} (hg:Gl X x) (hm:X.mg x=none) (hv:bootBuiltins x=some u) (r:bo v u) (hn:x≠"__name__":=by decide) (hd:(x==("__debug__":Str))=false:=by decide):PE X (.Name x pos) (tC v):=
 λ_ _ _ H _ I h=>iL I hg hm hv ⟨v,H,I,r,h⟩ hn hd
variable {a b:Expr} {ta tb:TE} {pos:Pos}
noncomputable def tB (t:TE):TT:=λσ H Q=>t σ H λx H1=>∃c,x=.bl c/\Q c H1
theorem yz {t:TE} (h:PE X e t) (he:∀whole,isTrue e X.env whole=(do let v ←whole;standAt e.pos;holding [v] (truthy v)):=by intro _;rfl):PT X e (tB t):=by
 intro π s σ H Q I hw;refine isTrue_plain (ca (h π s σ H _ I hw) λv s1 z9=>?_) (he _);obtain⟨x,H1,I1,r1,q1⟩:=z9;obtain⟨d,rfl,q⟩:=q1;cases r1;exact wpAny_truthy_bool ⟨H1,I1,q⟩
variable {tA tB':TT} {rest:List Expr}
noncomputable def Do (t u:TT):TT:=λσ H Q=>t σ H λc H1=>if c=true then u σ H1 Q else Q false H1
noncomputable def Fz (t u:TT):TT:=λσ H Q=>t σ H λc H1=>if c=true then Q true H1 else u σ H1 Q
noncomputable def Dp (t:TT):TT:=λσ H Q=>t σ H λc H1=>Q (!c) H1
theorem vd (ha:PT X a tA):PW X (.BoolOp .And [a] pos) tA:=by
 intro wh π s σ H Q I h;refine isTrue_and (ca (ha π s σ H Q I h) λc s1 e=>?_);cases c with
 | true=>exact isTrue_and_nil e
 | false=>exact e
theorem yA (ha:PT X a tA):PW X (.BoolOp .Or [a] pos) tA:=by
 intro wh π s σ H Q I h;refine isTrue_or (ca (ha π s σ H Q I h) λc s1 e=>?_);cases c with
 | false=>exact isTrue_or_nil e
 | true=>exact e
theorem yB (ha:PT X a tA) (hb:PW X (.BoolOp .And (b::rest) pos) tB'):PW X (.BoolOp .And (a::b::rest) pos) (Do tA tB'):=by
 intro wh π s σ H Q I h;refine isTrue_and (ca (ha π s σ H _ I h) λc s1 z9=>?_);obtain⟨H1,I1,q1⟩:=z9;cases c with
 | true=>exact hb wh π s1 σ H1 Q I1 q1
 | false=>exact⟨H1,I1,q1⟩
theorem AA (ha:PT X a tA) (hb:PW X (.BoolOp .Or (b::rest) pos) tB'):PW X (.BoolOp .Or (a::b::rest) pos) (Fz tA tB'):=by
 intro wh π s σ H Q I h;refine isTrue_or (ca (ha π s σ H _ I h) λc s1 z9=>?_);obtain⟨H1,I1,q1⟩:=z9;cases c with
 | true=>exact⟨H1,I1,q1⟩
 | false=>exact hb wh π s1 σ H1 Q I1 q1
theorem yC (ha:PT X a tA):PT X (.UnaryOp .Not a pos) (Dp tA):=by
 intro π s σ H Q I h;exact isTrue_not (ha π s σ H (λc H1=>Q (!c) H1) I h)
noncomputable def AB (ta tb:TE):TE:=λσ H Q=>ta σ H λx H1=>∃c,x=.bl c/\if c=true then tb σ H1 Q else Q (.bl false) H1
noncomputable def Dq (ta tb:TE):TE:=λσ H Q=>ta σ H λx H1=>∃c,x=.bl c/\if c=true then Q (.bl true) H1 else tb σ H1 Q
noncomputable def AC (ta:TE):TE:=λσ H Q=>ta σ H λx H1=>∃c,x=.bl c/\Q (.bl (!c)) H1
theorem yD {op} {t:TE} (h:PE X a t):PE X (.BoolOp op [a] pos) t:=λπ s σ H Q I hw=>BoolOp_one (h π s σ H Q I hw)
theorem yE (ha:PE X a ta) (hb:PE X (.BoolOp .And (b::rest) pos) tb):PE X (.BoolOp .And (a::b::rest) pos) (AB ta tb):=by
 intro π s σ H Q I h;refine BoolOp_and (ca (ha π s σ H _ I h) λv s1 z9=>?_);obtain⟨x,H1,I1,r1,q1⟩:=z9;obtain⟨c,rfl,q1⟩:=q1;cases r1;refine wpAny_truthy_bool ?_;cases c with
 | true=>exact hb π s1 σ H1 Q I1 q1
 | false=>exact⟨.bl false,H1,I1,rfl,q1⟩
theorem AD (ha:PE X a ta) (hb:PE X (.BoolOp .Or (b::rest) pos) tb):PE X (.BoolOp .Or (a::b::rest) pos) (Dq ta tb):=by
 intro π s σ H Q I h;refine BoolOp_or (ca (ha π s σ H _ I h) λv s1 z9=>?_);obtain⟨x,H1,I1,r1,q1⟩:=z9;obtain⟨c,rfl,q1⟩:=q1;cases r1;refine wpAny_truthy_bool ?_;cases c with
 | false=>exact hb π s1 σ H1 Q I1 q1
 | true=>exact⟨.bl true,H1,I1,rfl,q1⟩
theorem yF (ha:PE X a ta):PE X (.UnaryOp .Not a pos) (AC ta):=by
 intro π s σ H Q I h;refine UnaryOp_ (ca (ha π s σ H _ I h) λv s1 z9=>?_);obtain⟨x,H1,I1,r1,q1⟩:=z9;obtain⟨c,rfl,q1⟩:=q1;cases r1;exact not_of (wpAny_truthy_bool ⟨.bl (!c),H1,I1,rfl,q1⟩)
noncomputable def FA (t:TT) (ta tb:TE):TE:=λσ H Q=>t σ H λc H1=>if c=true then ta σ H1 Q else tb σ H1 Q
theorem rY {c:Expr} (hc:PT X c tA) (ha:PE X a ta) (hb:PE X b tb):PE X (.IfExp c a b pos) (FA tA ta tb):=by
 intro π s σ H Q I h;refine wpAny_IfExp (ca (hc π s σ H _ I h) λd s1 z9=>?_);obtain⟨H1,I1,q1⟩:=z9;cases d with
 | true=>exact ha π s1 σ H1 Q I1 q1
 | false=>exact hb π s1 σ H1 Q I1 q1
end
noncomputable def dP (K:yav) (H:Hp) (a:Addr) (xs:List V):Prop:=
 Rd H a (.lst xs)∨
  ∃(o:Obj) (its:Array Value) (n:Nat),K.lookup a=some o/\o.cls=.type "list"/\o.dict=none/\o.data=.seq its n/\its.size<=sizeLine/\aY xs its.toList
noncomputable def dQ (K:yav) (H:Hp) (a:Addr) (xs:List V):Prop:=
 Rd H a (.tup xs)∨
  ∃(o:Obj) (its:Array Value) (n:Nat),K.lookup a=some o/\o.cls=.type "tuple"/\o.data=.seq its n/\its.size<=sizeLine/\aY xs its.toList
noncomputable def Dr:Value->Option V
 | .none=>some .non
 | .bool b=>some (.bl b)
 | .int i _=>some (.int i)
 | .str x _=>some (.str x)
 | .bytes b _=>some (.byt b)
 | .float b _=>some (.flt b)
 | .ref a=>some (.ref a)
 | .type n=>some (.ty n)
 | _=>none
theorem bo.abs {x:V} (r:bo x u):Dr u=some x:=by
 cases x with
 | non=>cases r;rfl
 | bl _=>cases r;rfl
 | int _=>obtain⟨t,rfl⟩:=r;rfl
 | str _=>obtain⟨t,rfl⟩:=r;rfl
 | byt _=>obtain⟨t,rfl⟩:=r;rfl
 | flt _=>obtain⟨t,rfl⟩:=r;rfl
 | ref _=>cases r;rfl
 | ty _=>cases r;rfl
theorem bo.inj {x y:V} (r:bo x u) (q:bo y u):x=y:=Option.some.inj (r.abs.symm.trans q.abs)
theorem aY.inj:∀{xs ys:List V} {us:yez},aY xs us->aY ys us->xs=ys
 | _,_,_,.nil,.nil=>rfl
 | _,_,_,.cons r t,.cons r' t'=>by rw[r.inj r',aY.inj t t']
section
variable {X:Cx} {π:List (Addr×Obj)} {σ:St} {H:Hp} {s:Shared} {a:Addr} {xs ys:List V}
theorem dP.of (h:H a=some (.lst xs)):dP K H a xs:= .inl (.inl h)
theorem dQ.of (h:H a=some (.tup xs)):dQ K H a xs:= .inl (.inl h)
theorem aJ.list (I:aJ X π σ H s) (h:dP X.K H a xs):∃its:List Value,aY xs its/\PlainL s.heap a its.toArray/\xs.length<=sizeLine:=by
 rcases h with h | ⟨o,its,n,hk,hc,hd,hs,hz,r⟩
 ·obtain⟨z,its,n,r,e⟩:=h.ok I.hok;exact⟨its,r,⟨_,n,e,rfl,rfl,rfl⟩,z⟩
 ·refine⟨its.toList,r,⟨o,n,I.kIn a o hk,hc,hd,by simpa using hs⟩,?_⟩;have e:=r.length;simp only[Array.length_toList] at e;lia
theorem aJ.tuple (I:aJ X π σ H s) (h:dQ X.K H a xs):∃its:List Value,aY xs its/\IsTup s.heap a its.toArray/\xs.length<=sizeLine:=by
 rcases h with h | ⟨o,its,n,hk,hc,hs,hz,r⟩
 ·obtain⟨z,its,r,p⟩:=h.ok I.hok;exact⟨its,r,p,z⟩
 ·refine⟨its.toList,r,⟨o,I.kIn a o hk,hc,n,by simpa using hs⟩,?_⟩;have e:=r.length;simp only[Array.length_toList] at e;lia
theorem aJ.list_inj (I:aJ X π σ H s) (h:dP X.K H a xs) (h':dP X.K H a ys):xs=ys:=by
 obtain⟨its,r,⟨o,n,e,_,_,d⟩,_⟩:=I.list h;obtain⟨its',r',⟨o',n',e',_,_,d'⟩,_⟩:=I.list h';rw[e] at e';cases e';rw[d] at d';injection d' with d1 _
 have:its=its':=by simpa using congrArg Array.toList d1
 subst this;exact r.inj r'
theorem aJ.tuple_inj (I:aJ X π σ H s) (h:dQ X.K H a xs) (h':dQ X.K H a ys):xs=ys:=by
 obtain⟨its,r,⟨o,e,_,n,d⟩,_⟩:=I.tuple h;obtain⟨its',r',⟨o',e',_,n',d'⟩,_⟩:=I.tuple h';rw[e] at e';cases e';rw[d] at d';injection d' with d1 _
 have:its=its':=by simpa using congrArg Array.toList d1
 subst this;exact r.inj r'
end
noncomputable abbrev Cx.wish (X:Cx) (E:yey):Cx:={ X with xe:=E }
noncomputable abbrev Cx.nox (X:Cx):Cx:=X.wish λ_ _=>False
theorem Cx.Ok.wish {X:Cx} (ok:X.Ok) (E:yey):(X.wish E).Ok:=
 ⟨ok.mod,ok.kind,ok.glob,ok.blt,ok.above,ok.inj,ok.has,ok.cab,ok.hd,ok.frames,ok.stk,ok.exf,ok.bs,ok.bsz,ok.noex,ok.exfs,ok.funs,ok.frf⟩
theorem Cx.Ok.unwish {X:Cx} (ok:(X.wish E).Ok):X.Ok:=
 ⟨ok.mod,ok.kind,ok.glob,ok.blt,ok.above,ok.inj,ok.has,ok.cab,ok.hd,ok.frames,ok.stk,ok.exf,ok.bs,ok.bsz,ok.noex,ok.exfs,ok.funs,ok.frf⟩
section
variable {X:Cx} {π:List (Addr×Obj)} {σ:St} {H:Hp} {s:Shared} {E:yey}
theorem aJ.wish (I:aJ X π σ H s) (E:yey):aJ (X.wish E) π σ H s:=⟨I.ok.wish E,I.os,I.bare,I.base,I.loc,I.cell,I.free,I.freeC,I.pin,I.hok,I.len⟩
theorem aJ.unwish (I:aJ (X.wish E) π σ H s):aJ X π σ H s:=⟨I.ok.unwish,I.os,I.bare,I.base,I.loc,I.cell,I.free,I.freeC,I.pin,I.hok,I.len⟩
theorem SP.unwish {D:iu} {f:Flow} {s':Shared} (h:SP (X.wish E) π D f s'):SP X π D f s':=by
 cases f with
 | next=>obtain⟨σ',H',I,q⟩:=h;exact⟨σ',H',I.unwish,q⟩
 | brk=>obtain⟨σ',H',I,q⟩:=h;exact⟨σ',H',I.unwish,q⟩
 | cont=>obtain⟨σ',H',I,q⟩:=h;exact⟨σ',H',I.unwish,q⟩
 | ret u=>obtain⟨v,σ',H',I,r,q⟩:=h;exact⟨v,σ',H',I.unwish,r,q⟩
theorem lF.nox {st:List Stmt} {t:TS} (h:lF X.nox st t):lF X st t:=λπ s σ H D I hw=>
 wpAny_mono (h π s σ H D (I.wish _) hw) (λ_ _ q=>q.unwish) λ_ _ z=>False.elim z
end
section
variable {X:Cx} {st:Stmt} {rest:List Stmt} {t u:TS} {e:Expr} {te:TE} {pos:Pos}
noncomputable def AE:TS:=λD σ H=>D.nx σ H
noncomputable def Ds (t u:TS):TS:=λD σ H=>t { D with nx:=u D } σ H
theorem pss_nil:lF X [] AE:=λ_ _ σ H _ I h=>wpAny_execs_nil ⟨σ,H,I,h⟩
theorem rZ (h1:PS X st t) (h2:lF X rest u):lF X (st::rest) (Ds t u):=by
 intro π s σ H D I h;refine wpAny_execs_cons (ca (h1 π s σ H { D with nx:=u D } I h) λf s1 q=>?_);cases f with
 | next=>
   obtain⟨σ',H',I',q⟩:=q;exact h2 π s1 σ' H' D I' q
 | ret v=>exact q
 | brk=>exact q
 | cont=>exact q
theorem ve (h1:PS X st t):lF X [st] t:=by
 intro π s σ H D I h;refine wpAny_execs_cons (ca (h1 π s σ H D I h) λf s1 q=>?_);cases f with
 | next=>exact wpAny_execs_nil q
 | ret v=>exact q
 | brk=>exact q
 | cont=>exact q
theorem aJ.quiet {σ:St} {H:Hp} (I:aJ X π σ H s):interactive X.env=false:=by simp[interactive,I.ok.kind]
noncomputable def AF (te:TE):TS:=λD σ H=>te σ H λ_ H1=>D.nx σ H1
theorem vf (he:PE X e te) (hs:swapsWith e none pos.line X.env=pure false:=by rfl):PS X (.Expr e pos) (AF te):=by
 intro π s σ H D I h;exact wpAny_Expr_any (ca (he π s σ H _ I h) λv s1 ⟨x,H1,I1,r1,q1⟩=>⟨σ,H1,I1,q1⟩) I.quiet hs
noncomputable def Dt (te:TE):TS:=λD σ H=>te σ H D.rt
theorem yG (he:PE X e te):PS X (.Return (some e) pos) (Dt te):=by
 intro π s σ H D I h;exact wpAny_Return_some (ca (he π s σ H _ I h) λv s1 ⟨x,H1,I1,r1,q1⟩=>⟨x,σ,H1,I1,r1,q1⟩)
noncomputable def AG:TS:=λD _ H=>D.rt .non H
theorem ps_retN:PS X (.Return none pos) AG:=λ_ _ σ H _ I h=>wpAny_Return_none ⟨.non,σ,H,I,rfl,h⟩
noncomputable def Du (c:TT) (t u:TS):TS:=λD σ H=>c σ H λb H1=>if b=true then t D σ H1 else u D σ H1
theorem AH {c:Expr} {a b:List Stmt} {tc:TT} (hc:PT X c tc) (ha:lF X a t) (hb:lF X b u):PS X (.If c a b pos) (Du tc t u):=by
 intro π s σ H D I h;refine wpAny_If (ca (hc π s σ H _ I h) λd s1 z9=>?_);obtain⟨H1,I1,q1⟩:=z9;cases d with
 | true=>exact ha π s1 σ H1 D I1 q1
 | false=>exact hb π s1 σ H1 D I1 q1
end
noncomputable abbrev TG:=V->St->Hp->(St->Hp->Prop)->Prop
noncomputable abbrev vg:=List V->St->Hp->(St->Hp->Prop)->Prop
noncomputable def PG (X:Cx) (target:Expr) (t:TG):Prop:=
 ∀(π:List (Addr×Obj)) (s:Shared) (σ:St) (H:Hp) (v:V) (u:Value) (Q:St->Hp->Prop),aJ X π σ H s->bo v u->t v σ H Q->
  wpAny (model X.prog X.w) X.A (assign target X.env u) (λ_ s'=>∃σ' H',aJ X π σ' H' s'/\Q σ' H') X.xe s
noncomputable def xA (X:Cx) (ts:List Expr) (t:vg):Prop:=
 ∀(π:List (Addr×Obj)) (s:Shared) (σ:St) (H:Hp) (vs:List V) (us:yez) (Q:St->Hp->Prop),aJ X π σ H s->aY vs us->t vs σ H Q->
  wpAny (model X.prog X.w) X.A (assignInOrder ((assignEach ts X.env).map (·.2)) us) (λ_ s'=>∃σ' H',aJ X π σ' H' s'/\Q σ' H') X.xe s
section
variable {X:Cx} {pos:Pos}
noncomputable def xB (i:Nat):TG:=λv σ H Q=>Q (σ.set i (some v)) H
theorem vh (hN:X.N.Nodup) (hi:X.N[i]?=some x) (hx:u9 X.env.scope x) (hf:X.fn x=true∨X.env.scope.names.lookup x=some .local:=by first | exact .inl rfl | exact .inr rfl | assumption):PG X (.Name x pos) (xB i):=by
 intro π s σ H v u Q I r h;exact wpAny_assign_Name (gs I hN hi hx r (λs' I'=>⟨_,H,I',h⟩) hf)
noncomputable def Dv:vg:=λvs σ H Q=>vs=[]/\Q σ H
noncomputable def AI (t:TG) (u:vg):vg:=λvs σ H Q=>∃v r,vs=v::r/\t v σ H λσ' H'=>u r σ' H' Q
theorem pgs_nil:xA X [] Dv:=by
 intro π s σ H vs us Q I r h;obtain⟨e,h⟩:=h;subst e;cases r;exact assignInOrder_nil ⟨σ,H,I,h⟩
theorem r6 {t:TG} {u:vg} (h1:PG X e t) (h2:xA X es u)
 (hs:(assignEach (e::es) X.env).map (·.2)=assign e X.env::(assignEach es X.env).map (·.2):=by rfl):xA X (e::es) (AI t u):=by
 intro π s σ H vs us Q I r h;obtain⟨v,vr,e1,h⟩:=h;subst e1;cases r with
 | cons r rr=>
   rw[hs];refine assignInOrder_cons (ca (h1 π s σ H _ _ _ I r h) λ_ s1 z9=>?_);obtain⟨σ1,H1,I1,q1⟩:=z9;exact h2 π s1 σ1 H1 _ _ Q I1 rr q1
noncomputable def Dw (K:yav) (n:Nat) (t:vg):TG:=λv σ H Q=>∃a xs,v=.ref a/\dQ K H a xs/\xs.length=n/\t xs σ H Q
theorem yH {t:vg} {n:Nat} (hc:X.calm=true) (h:xA X es t)
 (hn:(assignEach es X.env).length=n:=by rfl) (hst:(assignEach es X.env).findIdx? (·.1)=none:=by rfl):PG X (.Tuple es k pos) (Dw X.K n t):=by
 intro π s σ H v u Q I r hw;obtain⟨a,xs,e1,hq,hl,hw⟩:=hw;subst e1;cases r;obtain⟨its,rv,ht,hz⟩:=I.tuple hq;refine assign_Tuple_tuple (I.ok.hd hc) ht (by simp[hn,←hl,rv.length]) hst λh' hx=>?_;have I1:aJ X π σ H { s with heap:=h' }:=I.kept (t':=s.toks) λb o e=>hx b o (ne_of_lt (ybv e)) e;exact h π _ σ H xs _ Q I1 (by simpa using rv) hw
noncomputable def Dx (te:TE) (g:TG):TS:=λD σ H=>te σ H λx H1=>g x σ H1 D.nx
theorem yI {te:TE} {pos':Pos} (hN:X.N.Nodup) (hi:X.N[i]?=some x) (hx:u9 X.env.scope x) (he:PE X e te) (hs:swapsWith e (some (.Name x pos')) pos.line X.env=pure false:=by rfl) (hf:X.fn x=true∨X.env.scope.names.lookup x=some .local:=by first | exact .inl rfl | exact .inr rfl | assumption):
 PS X (.Assign [.Name x pos'] e pos) (Dx te (xB i)):=by
 intro π s σ H D I h;refine wpAny_Assign_Name (ca (he π s σ H _ I h) λv s1 z9=>?_) hs;obtain⟨y,H1,I1,r1,q1⟩:=z9;exact gs I1 hN hi hx r1 (λs2 I2=>⟨_,H1,I2,q1⟩) hf
end
section
variable {X:Cx} {pos:Pos}
noncomputable def yJ (c:TT) (tb:TS):TS:=λD σ H=>∃W:Nat->St->Hp->Prop,(∃m,W m σ H)/\∀m σ H,W m σ H->
 c σ H λb H1=>if b=true then ∃N:St->Hp->Prop,(∀σ' H',N σ' H'->∃m',m'<m/\W m' σ' H')/\tb { D with nx:=N,ct:=N,bk:=D.nx } σ H1 else D.nx σ H1
theorem r9 {c:Expr} {tc:TT} {tb:TS} (hp:PassesOwn (model X.prog X.w) X.A X.env X.xe) (hc:PT X c tc) (hb:lF X body tb):PS X (.While c body [] pos) (yJ tc tb):=by
 intro π s σ H D I h;obtain⟨W,⟨m0,w0⟩,turn⟩:=h;refine wpAny_While (codeAny_whileLoop (λn s'=>∃σ' H',aJ X π σ' H' s'/\W n σ' H') ?_ m0 ⟨σ,H,I,w0⟩);rintro n s1 ⟨σ1,H1,I1,w1⟩;refine wpAny_passesOwn hp (ca (hc π s1 σ1 H1 _ I1 (turn n σ1 H1 w1)) λb s2 z9=>?_);obtain⟨H2,I2,q2⟩:=z9;cases b with
 | true=>
   obtain⟨N,hN,q2⟩:=q2;rw[ycv rfl];refine wpAny_passesOwn hp (ca (hb π s2 σ1 H2 _ I2 q2) λf s3 q3=>?_);cases f with
   | next=>
     obtain⟨σ3,H3,I3,n3⟩:=q3;obtain⟨m',hm,w3⟩:=hN σ3 H3 n3;exact⟨m',hm,σ3,H3,I3,w3⟩
   | cont=>
     obtain⟨σ3,H3,I3,n3⟩:=q3;obtain⟨m',hm,w3⟩:=hN σ3 H3 n3;exact⟨m',hm,σ3,H3,I3,w3⟩
   | brk=>exact q3
   | ret v=>exact q3
 | false=>
   rw[ycw ydx];exact wpAny_execs_nil ⟨σ1,H2,I2,q2⟩
end
structure It where
 go:Nat->Hp->Prop
 yld:Nat->Hp->V->Hp->Prop
 stop:Nat->Hp->Prop
noncomputable def ky (X:Cx) (π:List (Addr×Obj)) (H:Hp) (b:Addr):Prop:=
 H b=none/\b≠X.env.locals/\b∉X.fs/\(b∈X.ex∨X.s₀.heap.objs.size<=b)/\(∀x c,X.env.cells.lookup x=some c->c≠b)/\∀p∈X.pn++π,p.1≠b
theorem aJ.fpOk {X:Cx} {σ:St} {H H':Hp} {b:Addr} (I:aJ X π σ H s) (hb:s.heap.objs.size<=b) (hn:H' b=none):ky X π H' b:=by
 refine⟨hn,Nat.ne_of_gt (ydw I.lt hb),I.nofs hb,.inr (ycy I.sz hb),λx c e z=>?_,λp hp z=>?_⟩
 ·obtain⟨v,q⟩:=I.cell x c e;exact absurd (ydw q.lt (by rw[z];exact hb)) (lt_irrefl _)
 ·exact absurd (ydw (ybv (I.pin p hp).1) (by rw[z];exact hb)) (lt_irrefl _)
structure nH (P:Program) (w:World) (K:yav) (tg:Expr) (J:It) (fp:List Addr) (it:Addr) (tn:Nat->Heap->Prop):Prop where
 mem:it∈fp
 obj:∀i h,tn i h->∀b∈fp,∃o,h.get? b=some o/\∀v,o.data≠ .cell v
 keep:∀i h h',tn i h->(∀b∈fp,∀o,h.get? b=some o->h'.get? b=some o)->tn i h'
 item:∀(X:Cx),X.prog=P->X.w=w->X.K=K->X.calm=true->∀(i:Nat) (π:List (Addr×Obj)) (s:Shared) (σ:St) (H:Hp) (E:yey),aJ X π σ H s->(∀b∈fp,ky X π H b)->tn i s.heap->J.go i H->
  wpAny (model P w) X.A (pyNext (.ref it)) (λr s1=>∃u,r=some u/\
   wpAny (model P w) X.A (letOwnedTupleGo tg (.ref it) u) (λ_ s2=>∃x H',aJ X π σ H' s2/\bo x u/\J.yld i H x H'/\tn (i+1) s2.heap/\∀b∈fp,H' b=none) E s1) E s
 done:∀(X:Cx),X.prog=P->X.w=w->X.K=K->X.calm=true->∀(i:Nat) (π:List (Addr×Obj)) (s:Shared) (σ:St) (H:Hp) (E:yey),aJ X π σ H s->(∀b∈fp,ky X π H b)->tn i s.heap->J.stop i H->
  wpAny (model P w) X.A (pyNext (.ref it)) (λr s1=>r=none/\aJ X π σ H s1) E s
 self:∀(A:Around) (i:Nat) (s:Shared) (Q:yey) (E:yey),tn i s.heap->Q (.ref it) s->wpAny (model P w) A (pyIter (.ref it)) Q E s
noncomputable abbrev TI:=St->Hp->(It->Hp->Prop)->Prop
noncomputable def Fk (X:Cx) (π:List (Addr×Obj)) (σ:St) (tg:Expr) (R:It->Hp->Prop) (itv:Value) (s2:Shared):Prop:=
 ∃(it:Addr) (fp:List Addr) (tn:Nat->Heap->Prop) (J:It) (H':Hp),itv=.ref it/\aJ X π σ H' s2/\nH X.prog X.w X.K tg J fp it tn/\tn 0 s2.heap/\(∀b∈fp,ky X π H' b)/\R J H'
noncomputable def PI (X:Cx) (tg iter:Expr) (wi:TI):Prop:=
 ∀(π:List (Addr×Obj)) (s:Shared) (σ:St) (H:Hp) (R:It->Hp->Prop),aJ X π σ H s->wi σ H R->
  wpAny (model X.prog X.w) X.A (eval iter X.env) (λv s1=>wpAny (model X.prog X.w) X.A (pyIter v) (Fk X π σ tg R) X.xe s1) X.xe s
theorem oZ {M:Model} {tg:Expr} {it:Addr} {o:Obj} {n:String} {vs:Array Value} {Q:Unit->Shared->Prop} (ho:s.heap.get? it=some o) (hc:o.cls=.type n) (hd:o.data=.fields vs)
 (hn:["enumerate","zip","dict_itemiterator","dict_reverseitemiterator","odict_iterator","itertools.zip_longest","itertools.pairwise"].contains n=false) (hQ:Q () s):wpAny M A (letOwnedTupleGo tg (.ref it) u) Q E s:=by
 unfold letOwnedTupleGo;cases tg<;> first
  | exact wpAny_pure hQ
  | (cases u<;> first
      | exact wpAny_pure hQ
      | (refine wax (wpAny_load ho ?_)
         rw[hc,hd];show wpAny M A (if (["enumerate","zip","dict_itemiterator","dict_reverseitemiterator","odict_iterator","itertools.zip_longest","itertools.pairwise"].contains n&&vs[0]?==some (rawInt _))=true then _ else _) Q E s;rw[ycw (by intro h;rw[hn,Bool.false_and] at h;cases h)];exact wpAny_pure hQ))
noncomputable def C9 (K:yav) (a:Addr):It:=
 ⟨λi H=>∃xs x,dP K H a xs/\xs[i]?=some x,λi H x H'=>H'=H/\∀xs,dP K H a xs->xs[i]?=some x,λi H=>∃xs,dP K H a xs/\xs.length<=i⟩
noncomputable def Dy (K:yav) (a:Addr):It:=
 ⟨λi H=>∃xs x,dQ K H a xs/\xs[i]?=some x,λi H x H'=>H'=H/\∀xs,dQ K H a xs->xs[i]?=some x,λi H=>∃xs,dQ K H a xs/\xs.length<=i⟩
noncomputable def Da (lo:Int) (n:Nat):It:=⟨λi _=>i<n,λi H x H'=>H'=H/\x=.int (lo+i),λi _=>n<=i⟩
theorem qC {tg:Expr} (a it:Addr):nH P w K tg (C9 K a) [it] it (λi h=>h.IsListIter it a i) where
 mem:=by simp
 obj:=λi h st b hb=>by
  have e:b=it:=by simpa using hb
  subst e;obtain⟨o,e,c,d⟩:=st;exact⟨o,e,λv z=>by rw[d] at z;cases z⟩
 keep:=λi h h' st k=>st.at λo e=>k it (by simp) o e
 item:=by
  intro X hP hw hK hc i π s σ H E I hf st hg;subst hP hw hK;obtain⟨xs,x,hq,hx⟩:=hg;obtain⟨its,rv,p,hz⟩:=I.list hq;obtain⟨u,hu,ru⟩:=rv.get hx;obtain⟨f0,f1,f2,f3,f4,f5⟩:=hf it (by simp);refine wpAny_pyNext_list_item st p.isList (x:=u) (by simpa using hu) λh' st' sb=>?_;have I1:aJ X π σ H { s with heap:=h' }:=I.turned (t':=s.toks) (λb o hb e=>(sb.2 b hb).trans e) f0 f1 f3 f4 f5;obtain⟨o,e,c,d⟩:=id st';exact⟨u,rfl,oZ (s:={ s with heap:=h' }) e c d (by decide) ⟨x,H,I1,ru,⟨rfl,λys hy=>by rw[I.list_inj hy hq];exact hx⟩,st',λb hb=>(hf b hb).1⟩⟩
 done:=by
  intro X hP hw hK hc i π s σ H E I hf st hg;subst hP hw hK;obtain⟨xs,hq,hx⟩:=hg;obtain⟨its,rv,p,hz⟩:=I.list hq;obtain⟨f0,f1,f2,f3,f4,f5⟩:=hf it (by simp);have hl:=rv.length;exact wpAny_pyNext_list_end (I.ok.hd hc) st p.isList (by simp;(clear hz f3;lia)) λh' eb=>⟨rfl,I.turned (t':=s.toks) (λb o hb e=>eb b o hb e) f0 f1 f3 f4 f5⟩
 self:=λ_ _ _ _ _ st h=>wpAny_pyIter_listiter st h
theorem nI {tg:Expr} (a it:Addr):nH P w K tg (Dy K a) [it] it (λi h=>h.IsTupleIter it a i) where
 mem:=by simp
 obj:=λi h st b hb=>by
  have e:b=it:=by simpa using hb
  subst e;obtain⟨o,e,c,d⟩:=st;exact⟨o,e,λv z=>by rw[d] at z;cases z⟩
 keep:=λi h h' st k=>st.at λo e=>k it (by simp) o e
 item:=by
  intro X hP hw hK hc i π s σ H E I hf st hg;subst hP hw hK;obtain⟨xs,x,hq,hx⟩:=hg;obtain⟨its,rv,p,hz⟩:=I.tuple hq;obtain⟨u,hu,ru⟩:=rv.get hx;obtain⟨f0,f1,f2,f3,f4,f5⟩:=hf it (by simp);refine wpAny_pyNext_tuple_item st (show s.heap.IsTuple a its.toArray from p) (x:=u) (by simpa using hu) λh' st' sb=>?_;have I1:aJ X π σ H { s with heap:=h' }:=I.turned (t':=s.toks) (λb o hb e=>(sb.2 b hb).trans e) f0 f1 f3 f4 f5;obtain⟨o,e,c,d⟩:=id st';exact⟨u,rfl,oZ (s:={ s with heap:=h' }) e c d (by decide) ⟨x,H,I1,ru,⟨rfl,λys hy=>by rw[I.tuple_inj hy hq];exact hx⟩,st',λb hb=>(hf b hb).1⟩⟩
 done:=by
  intro X hP hw hK hc i π s σ H E I hf st hg;subst hP hw hK;obtain⟨xs,hq,hx⟩:=hg;obtain⟨its,rv,p,hz⟩:=I.tuple hq;obtain⟨f0,f1,f2,f3,f4,f5⟩:=hf it (by simp);have hl:=rv.length;exact wpAny_pyNext_tuple_end (I.ok.hd hc) st (show s.heap.IsTuple a its.toArray from p) (by simp;(clear hz f3;lia)) λh' eb=>⟨rfl,I.turned (t':=s.toks) (λb o hb e=>eb b o hb e) f0 f1 f3 f4 f5⟩
 self:=λ_ _ _ _ _ st h=>wpAny_pyIter_tupleiter st h
theorem nJ {tg:Expr} (it:Addr) (lo:Int) (n:Nat):nH P w K tg (Da lo n) [it] it (λi h=>IsRangeIter h it (lo+(i:Nat)*1) ((n:Int)- (i:Nat)) 1) where
 mem:=by simp
 obj:=λi h st b hb=>by
  have e:b=it:=by simpa using hb
  subst e;exact⟨_,st,λv z=>by
   have z':Data.fields _=Data.cell v:=z;cases z'⟩
 keep:=λi h h' st k=>k it (by simp) _ st
 item:=by
  intro X hP hw hK hc i π s σ H E I hf st hg;subst hP hw hK;obtain⟨f0,f1,f2,f3,f4,f5⟩:=hf it (by simp);have W:=Walks.range (prog:=X.prog) (w:=X.w) (I.ok.hd hc) it lo 1 n;refine W.item i s _ _ hg st λv h' tk hv st' kk=>?_;obtain⟨t,rfl⟩:=hv;have I1:aJ X π σ H { s with heap:=h',toks:=tk }:=I.turned (λb o hb e=>kk b o (by simpa using hb) e) f0 f1 f3 f4 f5;refine⟨_,rfl,oZ (s:={ s with heap:=h',toks:=tk }) (n:="range_iterator") st' rfl rfl (by decide) ⟨.int (lo+i),H,I1,⟨t,?_⟩,⟨rfl,rfl⟩,st',λb hb=>(hf b hb).1⟩⟩;rw[Int.mul_one]
 done:=by
  intro X hP hw hK hc i π s σ H E I hf st hg;subst hP hw hK;obtain⟨f0,f1,f2,f3,f4,f5⟩:=hf it (by simp);exact wpAny_pyNext_range_end (I.ok.hd hc) st (by have:n<=i:=hg;(clear f3;lia)) λh' eb=>⟨rfl,I.turned (t':=s.toks) (λb o hb e=>eb b o hb e) f0 f1 f3 f4 f5⟩
 self:=λ_ _ _ _ _ st h=>wpAny_pyIter_rangeiter st h
section
variable {X:Cx} {tg:Expr}
theorem sd {σ:St} {H:Hp} {R:It->Hp->Prop} {lo hi:Int} {t u v:Tok} {tk:Nat} (I:aJ X π σ H s) (h1: -(2^62)<=lo) (h2:lo<2^62) (h3: -(2^62)<=hi) (h4:hi<2^62)
 (q:R (Da lo (hi-lo).toNat) H):wpAny (model X.prog X.w) X.A (pyIter (.ref s.heap.objs.size)) (Fk X π σ tg R) E { s with heap:=s.heap.push { cls:= .type "range",data:= .fields #[.int lo t,.int hi u,.int 1 v] },toks:=tk }:=by
 refine wpAny_pyIter_range (IsRange.new ..) (small_one h1 h2 h3 h4) ?_;have I1:aJ X π σ H { s with heap:=s.heap.push { cls:= .type "range",data:= .fields #[.int lo t,.int hi u,.int 1 v] },toks:=tk }:=I.kept λb o e=>ybz _ e;refine⟨(s.heap.push { cls:= .type "range",data:= .fields #[.int lo t,.int hi u,.int 1 v] }).objs.size,[(s.heap.push { cls:= .type "range",data:= .fields #[.int lo t,.int hi u,.int 1 v] }).objs.size],_,_,H,rfl,
  I1.kept (t':=tk) λb o e=>ybz _ e,nJ _ lo (hi-lo).toNat,?_,λb hb=>?_,q⟩
 ·have e1:lo+((0:Nat):Int)*1=lo:=by simp
  have e2:(((hi-lo).toNat:Nat):Int)- ((0:Nat):Int)=Builtin.Range.rangeSize lo hi 1:=by rw[rangeSize_one];split<;> (clear h1 h2 h3 h4 e1;lia)
  show IsRangeIter _ _ (lo+((0:Nat):Int)*1) ((((hi-lo).toNat:Nat):Int)- ((0:Nat):Int)) 1;rw[e1,e2];exact ybw _ rfl
 ·have e:b=(s.heap.push { cls:= .type "range",data:= .fields #[.int lo t,.int hi u,.int 1 v] }).objs.size:=by simpa using hb
  subst e;exact I1.fpOk (ycx _) (I1.hok.fresh (ycx _))
noncomputable def AJ (ta:TA):TI:=λσ H R=>ta σ H λvs H1=>∃j:Int,vs=[.int j]/\-(2^62)<=j/\j<2^62/\R (Da 0 j.toNat) H1
theorem qD {a:Expr} {ta:TA} {p pos:Pos} (hg:Gl X "range") (hm:X.mg "range"=none) (ha:PA X [a] ta) (hs:starEach [a] X.env=[(false,eval a X.env)]:=by rfl):PI X tg (.Call (.Name "range" p) [a] [] pos) (AJ ta):=by
 intro π s σ H R I h;refine Call_ (iL I hg hm boot_range (PyProof.Rows.callWith_type1 (ca (ha pos π s σ H _ I h) λus s1 z9=>?_) hs rfl));obtain⟨vs,H1,I1,r1,q1⟩:=z9;obtain⟨j,e,q1,q2,q⟩:=q1;subst e;cases r1 with
 | cons r rr=>
   cases rr;obtain⟨t,rfl⟩:=r;exact call_range_1 (sd I1 (by (clear q1 q2;lia)) (by (clear q1 q2;lia)) q1 q2 (by simpa using q))
noncomputable def Dz (wi:TI) (g:TG) (tb:TS):TS:=λD σ H=>wi σ H λJ H1=>∃W:Nat->Nat->St->Hp->Prop,(∃m,W 0 m σ H1)/\∀i m σ H,W i m σ H->
 (J.stop i H/\D.nx σ H)∨(J.go i H/\∃N:St->Hp->Prop,(∀σ' H',N σ' H'->∃m',m'<m/\W (i+1) m' σ' H')/\∀x H',J.yld i H x H'->g x σ H' λσ2 H2=>tb { D with nx:=N,ct:=N,bk:=D.nx } σ2 H2)
noncomputable def iM (fp:List Addr) (h:Heap):List (Addr×Obj):=fp.filterMap λb=>(h.get? b).map λo=>(b,o)
theorem dU {fp:List Addr} {h:Heap} {b:Addr} {o:Obj} (hb:b∈fp) (e:h.get? b=some o):(b,o)∈iM fp h:=List.mem_filterMap.mpr ⟨b,hb,by rw[e];rfl⟩
theorem qE {fp:List Addr} {h:Heap} {p:Addr×Obj} (hp:p∈iM fp h):p.1∈fp/\h.get? p.1=some p.2:=by
 obtain⟨b,hb,e⟩:=List.mem_filterMap.mp hp;cases q:h.get? b with
 | none=>rw[q] at e;cases e
 | some o=>
   rw[q] at e;have e':(b,o)=p:=Option.some.inj e;subst e';exact⟨hb,q⟩
theorem aJ.pinned {σ:St} {H:Hp} {fp:List Addr} (I:aJ X π σ H s) (hf:∀b∈fp,ky X π H b) (ho:∀b∈fp,∃o,s.heap.get? b=some o/\∀v,o.data≠ .cell v):aJ X (π++iM fp s.heap) σ H s:=
 I.pins_of λp hp=>(mem_append.mp hp).elim (λz=>I.pin p (yex _ z)) λz=>by
  obtain⟨hb,e⟩:=qE z;obtain⟨f0,f1,f2,_⟩:=hf p.1 hb;obtain⟨o,e',d⟩:=ho p.1 hb;rw[e] at e';cases e';exact⟨e,f0,f1,f2,d⟩
theorem aJ.unpinned {π pl:List (Addr×Obj)} {σ:St} {H:Hp} (I:aJ X (π++pl) σ H s):aJ X π σ H s:=I.pins_of λp hp=>I.pin p (yex _ (mem_append_left _ hp))
theorem yK {iter:Expr} {wi:TI} {g:TG} {tb:TS} (hp:PassesOwn (model X.prog X.w) X.A X.env X.xe) (hc:X.calm=true) (hi:PI X tg iter wi) (hg:PG X tg g) (hb:lF X body tb)
 (hs:∀x,foldedSetIterable iter X.env x=pure x:=by intro _;rfl):PS X (.For tg iter body [] pos) (Dz wi g tb):=by
 intro π s σ H D I h;refine wpAny_For (ca (hi π s σ H _ I h) λv s1 h1=>ca h1 λitv s2 h2=>?_) hs;obtain⟨it,fp,tn,J,H2,e,I2,T,st2,f2,W,⟨m0,w0⟩,turn⟩:=h2;subst e
 -- what stays true of the iterator's objects through the loop
 have stat:∀{H':Hp},(∀b∈fp,H' b=none)->∀b∈fp,ky X π H' b:=λhn b hb=>⟨hn b hb,(f2 b hb).2⟩;refine codeAny_forLoop_any (λn s'=>∃i σ' H',aJ X π σ' H' s'/\tn i s'.heap/\(∀b∈fp,H' b=none)/\W i n σ' H') ?_ m0 ⟨0,σ,H2,I2,st2,λb hb=>(f2 b hb).1,w0⟩;rintro n s3 ⟨i,σ3,H3,I3,st3,fr3,w3⟩;rcases turn i n σ3 H3 w3 with⟨stop,qn⟩ | ⟨go,N,hN,step⟩
 ·refine wpAny_passesOwn hp (ca (T.done X rfl rfl rfl hc i π s3 σ3 H3 X.xe I3 (stat fr3) st3 stop) λr s4 z9=>?_);obtain⟨hr,I4⟩:=z9;subst hr;exact wpAny_execs_nil ⟨σ3,H3,I4,qn⟩
 ·refine wpAny_passesOwn hp (ca (T.item X rfl rfl rfl hc i π s3 σ3 H3 X.xe I3 (stat fr3) st3 go) λr s4 z9=>?_);obtain⟨u,hr,h4⟩:=z9;subst hr;refine wpAny_passesOwn hp (ca h4 λ_ s5 z9=>?_);obtain⟨x,H5,I5,r5,y5,st5,fr5⟩:=z9;have I5':=I5.pinned (stat fr5) (T.obj _ _ st5);refine wpAny_passesOwn hp (ca (hg _ s5 σ3 H5 x u _ I5' r5 (step x H5 y5)) λ_ s6 z9=>?_);obtain⟨σ6,H6,I6,q6⟩:=z9;refine wpAny_passesOwn hp (ca (hb _ s6 σ6 H6 _ I6 q6) λf s7 q7=>?_);have again:∀{σ7:St} {H7:Hp},aJ X (π++iM fp s5.heap) σ7 H7 s7->N σ7 H7->∃m,m<n/\∃i σ' H',aJ X π σ' H' s7/\tn i s7.heap/\(∀b∈fp,H' b=none)/\W i m σ' H':=λ{σ7 H7} I7 n7=>by
   obtain⟨m',hm,w7⟩:=hN σ7 H7 n7;refine⟨m',hm,i+1,σ7,H7,I7.unpinned,T.keep _ _ _ st5 λb hb o e=>(I7.pin (b,o) (yex _ (yex _ (dU hb e)))).1,λb hb=>?_,w7⟩;obtain⟨o,e,d⟩:=T.obj _ _ st5 b hb;exact(I7.pin (b,o) (yex _ (yex _ (dU hb e)))).2.1
  cases f with
  | next=>obtain⟨σ7,H7,I7,n7⟩:=q7;exact again I7 n7
  | cont=>obtain⟨σ7,H7,I7,n7⟩:=q7;exact again I7 n7
  | brk=>obtain⟨σ7,H7,I7,q7⟩:=q7;exact⟨σ7,H7,I7.unpinned,q7⟩
  | ret v=>obtain⟨x7,σ7,H7,I7,r7,q7⟩:=q7;exact⟨x7,σ7,H7,I7.unpinned,r7,q7⟩
end
noncomputable abbrev R2:=V->V->Hp->VK->Prop
noncomputable def gt (X:Cx) (f:Value->Value->Sem Value) (r:R2):Prop:=
 ∀(π:List (Addr×Obj)) (s:Shared) (σ:St) (H:Hp) (x y:V) (v u:Value) (Q:VK),aJ X π σ H s->bo x v->bo y u->r x y H Q->
  wpAny (model X.prog X.w) X.A (f v u) (EP X π σ Q) X.xe s
noncomputable def DA (X:Cx) (f:Value->Sem Value) (r:V->Hp->VK->Prop):Prop:=
 ∀(π:List (Addr×Obj)) (s:Shared) (σ:St) (H:Hp) (x:V) (v:Value) (Q:VK),aJ X π σ H s->bo x v->r x H Q->
  wpAny (model X.prog X.w) X.A (f v) (EP X π σ Q) X.xe s
noncomputable def fM (X:Cx) (f:Value) (r:List V->Hp->VK->Prop):Prop:=
 ∀(π:List (Addr×Obj)) (s:Shared) (σ:St) (H:Hp) (xs:List V) (us:yez) (Q:VK),aJ X π σ H s->aY xs us->r xs H Q->
  wpAny (model X.prog X.w) X.A (call f us) (EP X π σ Q) X.xe s
noncomputable def AK (r:R2) (ta tb:TE):TE:=λσ H Q=>ta σ H λx H1=>tb σ H1 λy H2=>r x y H2 Q
noncomputable def FB (r:V->Hp->VK->Prop) (ta:TE):TE:=λσ H Q=>ta σ H λx H1=>r x H1 Q
noncomputable def rI (C:Int->Int->Prop) (g:Int->Int->V):R2:=λx y H Q=>∃i j,x=.int i/\y=.int j/\C i j/\Q (g i j) H
noncomputable def vi (g:Int->Int->V):R2:=λx y H Q=>∃i j,x=.int i/\y=.int j/\Q (g i j) H
noncomputable def rU (g:Int->V):V->Hp->VK->Prop:=λx H Q=>∃i,x=.int i/\Q (g i) H
section
variable {X:Cx} {a b c:Expr} {ta tb tc:TE} {pos:Pos}
theorem yL (ha:PE X a ta) (hb:PE X b tb) {σ:St} {H:Hp} {R:V->V->Hp->Prop} (I:aJ X π σ H s)
 (h:ta σ H λx H1=>tb σ H1 λy H2=>R x y H2) {Q:yey} {f:Value->Value->Sem Value}
 (hf:∀v u s2 x y H2,aJ X π σ H2 s2->bo x v->bo y u->R x y H2->wpAny (model X.prog X.w) X.A (f v u) Q X.xe s2):
 wpAny (model X.prog X.w) X.A (eval a X.env) (λv s₁=>wpAny (model X.prog X.w) X.A (eval b X.env) (λu s₂=>wpAny (model X.prog X.w) X.A (f v u) Q X.xe s₂) X.xe s₁) X.xe s:=by
 refine ca (ha π s σ H _ I h) λv s1 z9=>?_;obtain⟨x,H1,I1,r1,q1⟩:=z9;refine ca (hb π s1 σ H1 _ I1 q1) λu s2 z9=>?_;obtain⟨y,H2,I2,r2,q2⟩:=z9;exact hf v u s2 x y H2 I2 r1 r2 q2
theorem AL {op:Operator} {r:R2} (ho:gt X (binaryOp op) r) (ha:PE X a ta) (hb:PE X b tb):PE X (.BinOp a op b pos) (AK r ta tb):=by
 intro π s σ H Q I h;exact wpAny_BinOp (yL ha hb I h λv u s2 x y H2 I2 rx ry q=>ho π s2 σ H2 x y v u Q I2 rx ry q)
theorem AM {op:UnaryOp} {r:V->Hp->VK->Prop} (ho:DA X (unaryOp op) r) (ha:PE X a ta):PE X (.UnaryOp op a pos) (FB r ta):=by
 intro π s σ H Q I h;exact UnaryOp_ (ca (ha π s σ H _ I h) λv s1 ⟨x,H1,I1,r1,q1⟩=>ho π s1 σ H1 x v Q I1 r1 q1)
theorem Db {f:Value->Value->Sem Value} {C:Int->Int->Prop} {g:Int->Int->Int}
 (rule:∀(i j:Int) (t u:Tok) (s:Shared) (Q:yey) (E:yey),C i j->Q (.int (g i j) s.toks) { s with toks:=s.toks+1 }->wpAny (model X.prog X.w) X.A (f (.int i t) (.int j u)) Q E s):
 gt X f (rI C λi j=> .int (g i j)):=by
 intro π s σ H x y v u Q I rx ry h;obtain⟨i,j,rfl,rfl,hc,q⟩:=h;obtain⟨t,rfl⟩:=rx;obtain⟨t',rfl⟩:=ry;exact rule i j t t' s _ _ hc ⟨.int (g i j),H,I.tok _,⟨_,rfl⟩,q⟩
theorem AN {f:Value->Value->Sem Value} {g:Int->Int->Int}
 (rule:∀(i j:Int) (t u:Tok) (s:Shared) (Q:yey) (E:yey),Q (.int (g i j) s.toks) { s with toks:=s.toks+1 }->wpAny (model X.prog X.w) X.A (f (.int i t) (.int j u)) Q E s):
 gt X f (vi λi j=> .int (g i j)):=by
 intro π s σ H x y v u Q I rx ry h;obtain⟨i,j,rfl,rfl,q⟩:=h;obtain⟨t,rfl⟩:=rx;obtain⟨t',rfl⟩:=ry;exact rule i j t t' s _ _ ⟨.int (g i j),H,I.tok _,⟨_,rfl⟩,q⟩
theorem vj {f:Value->Value->Sem Value} {g:Int->Int->Bool}
 (rule:∀(i j:Int) (t u:Tok) (s:Shared) (Q:yey) (E:yey),Q (.bool (g i j)) s->wpAny (model X.prog X.w) X.A (f (.int i t) (.int j u)) Q E s):
 gt X f (vi λi j=> .bl (g i j)):=by
 intro π s σ H x y v u Q I rx ry h;obtain⟨i,j,rfl,rfl,q⟩:=h;obtain⟨t,rfl⟩:=rx;obtain⟨t',rfl⟩:=ry;exact rule i j t t' s _ _ ⟨.bl (g i j),H,I,rfl,q⟩
noncomputable def AO (i j:Int):Prop:=0<j/\j<1073741824
noncomputable def yM (i j:Int):Prop:=0<=j/\j<=1000000/\i.natAbs<2^64
noncomputable def vk (i j:Int):Prop:=(-(2^64)<i/\i<2^64)∨(-(2^64)<j/\j<2^64)
theorem vk.ok {i j:Int} (h:vk i j):IntMulOk i j:=by
 rcases h with⟨h1,h2⟩ | ⟨h1,h2⟩
 ·exact .of_left (intBits_le_64 h1 h2)
 ·exact .of_right (intBits_le_64 h1 h2)
theorem yN:gt X (binaryOp .Add) (vi λi j=> .int (i+j)):=AN λ_ _ _ _ _ _ _ q=>add_int q
theorem yO:gt X (binaryOp .Sub) (vi λi j=> .int (i-j)):=AN λ_ _ _ _ _ _ _ q=>sub_int q
theorem yP:gt X (binaryOp .Mod) (rI (λ_ j=>0<j) λi j=> .int (i%j)):=Db λi j _ _ _ _ _ hc q=>by
 have h1:(0:Int)<j:=hc;exact mod_int' (by (clear h1;lia)) (by rw[Int.fmod_eq_emod_of_nonneg i (by (clear h1;lia))];exact q)
theorem FC {f:Value->Sem Value} {g:Int->Int}
 (rule:∀(i:Int) (t:Tok) (s:Shared) (Q:yey) (E:yey),Q (.int (g i) s.toks) { s with toks:=s.toks+1 }->wpAny (model X.prog X.w) X.A (f (.int i t)) Q E s):
 DA X f (rU λi=> .int (g i)):=by
 intro π s σ H x v Q I rx h;obtain⟨i,rfl,q⟩:=h;obtain⟨t,rfl⟩:=rx;exact rule i t s _ _ ⟨.int (g i),H,I.tok _,⟨_,rfl⟩,q⟩
theorem yQ:DA X (unaryOp .USub) (rU λi=> .int (-i)):=FC λ_ _ _ _ _ q=>neg_int q
end
section
variable {X:Cx} {a b c:Expr} {ta tb tc:TE} {pos:Pos}
theorem yR {σ:St} {H:Hp} {Q:VK} {k k':Bool} (I:aJ X π σ H s) (q:Q (.bl k) H) (e:k=k'):EP X π σ Q (.bool k') s:=by
 subst e;exact⟨.bl k,H,I,rfl,q⟩
theorem xD:gt X (compareOp .Lt) (vi λi j=> .bl (decide (i<j))):=vj λ_ _ _ _ _ _ _ q=>lt_int q
theorem AQ:gt X (compareOp .LtE) (vi λi j=> .bl (decide (i<=j))):=vj λ_ _ _ _ _ _ _ q=>le_int q
theorem AR:gt X (compareOp .Gt) (vi λi j=> .bl (decide (j<i))):=vj λ_ _ _ _ _ _ _ q=>gt_int q
theorem AS:gt X (compareOp .GtE) (vi λi j=> .bl (decide (j<=i))):=vj λ_ _ _ _ _ _ _ q=>ge_int q
theorem yS:gt X (compareOp .Is) (λx y H Q=>y=.non/\Q (.bl (decide (x=.non))) H):=by
 intro π s σ H x y v u Q I rx ry h;obtain⟨rfl,q⟩:=h;cases ry;refine is_none_gen (yR I q ?_);cases x<;> first
  | (cases rx;rfl)
  | (obtain⟨t,rfl⟩:=rx;rfl)
theorem kz (b:Expr) {op:CmpOp} (h:op≠ .In:=by decide) (h2:op≠ .NotIn:=by decide):behindInMarks op b=false:=by
 have e1:(op==CmpOp.In)=false:=by cases op<;> first | rfl | exact absurd rfl h
 have e2:(op==CmpOp.NotIn)=false:=by cases op<;> first | rfl | exact absurd rfl h2
 cases b<;> simp[behindInMarks,e1,e2]
theorem vm {op:CmpOp} {r:R2} (ho:gt X (compareOp op) r) (ha:PE X a ta) (hb:PE X b tb) (hm:behindInMarks op b=false):PE X (.Compare a [op] [b] pos) (AK r ta tb):=by
 intro π s σ H Q I h;exact wpAny_Compare1 (yL ha hb I h λv u s2 x y H2 I2 rx ry q=>ho π s2 σ H2 x y v u Q I2 rx ry q) hm
noncomputable def sh (t:TE):TT:=λσ H Q=>t σ H λx H'=>∃k,x=.bl k/\Q k H'
theorem vn {op:CmpOp} {r:R2} (ho:gt X (compareOp op) r) (ha:PE X a ta) (hb:PE X b tb) (hm:behindInMarks op b=false):PT X (.Compare a [op] [b] pos) (sh (AK r ta tb)):=by
 intro π s σ H Q I h;refine wpAny_isTrue_Compare1 (ca (ha π s σ H _ I h) λv s1 ⟨x,H1,I1,r1,q1⟩=>ca (hb π s1 σ H1 _ I1 q1) λu s2 ⟨y,H2,I2,r2,q2⟩=>
  ca (ho π s2 σ H2 x y v u _ I2 r1 r2 q2) λc s3 ⟨z,H3,I3,r3,k,e,q3⟩=>?_) hm
 subst e;cases r3;exact wpAny_truthy_bool ⟨H3,I3,q3⟩
noncomputable def nK (r r':R2) (ta tb tc:TE):TE:=λσ H Q=>ta σ H λx H1=>tb σ H1 λy H2=>r x y H2 λz H3=>∃k,z=.bl k/\
 (if k=true then tc σ H3 λw' H4=>r' y w' H4 Q else Q (.bl false) H3)
theorem si {op op':CmpOp} {r r':R2} (ho:gt X (compareOp op) r) (ho':gt X (compareOp op') r') (ha:PE X a ta) (hb:PE X b tb) (hc:PE X c tc)
 (hm:lastMarks [op,op'] [b,c]=false:=by with_unfolding_all rfl):PE X (.Compare a [op,op'] [b,c] pos) (nK r r' ta tb tc):=by
 intro π s σ H Q I h;refine Compare_chain (ca (ha π s σ H _ I h) λv s1 ⟨x,H1,I1,r1,q1⟩=>chain_link (ca (hb π s1 σ H1 _ I1 q1) λu s2 ⟨y,H2,I2,r2,q2⟩=>
  ca (ho π s2 σ H2 x y v u _ I2 r1 r2 q2) λd s3 ⟨z,H3,I3,r3,k,e,q3⟩=>?_)) hm
 subst e;cases r3;refine wpAny_truthy_bool ?_;cases k with
 | false=>exact ite_ff ⟨.bl false,H3,I3,rfl,q3⟩
 | true=>exact ite_tt (chain_last (ca (hc π s3 σ H3 _ I3 q3) λw' s4 ⟨z',H4,I4,r4,q4⟩=>ho' π s4 σ H4 y z' u w' Q I4 r2 r4 q4))
theorem sj {op op':CmpOp} {r r':R2} (ho:gt X (compareOp op) r) (ho':gt X (compareOp op') r') (ha:PE X a ta) (hb:PE X b tb) (hc:PE X c tc)
 (hm:lastMarks [op,op'] [b,c]=false:=by with_unfolding_all rfl):PT X (.Compare a [op,op'] [b,c] pos) (sh (nK r r' ta tb tc)):=by
 intro π s σ H Q I h;refine isTrue_chain (ca (ha π s σ H _ I h) λv s1 ⟨x,H1,I1,r1,q1⟩=>test_link (ca (hb π s1 σ H1 _ I1 q1) λu s2 ⟨y,H2,I2,r2,q2⟩=>
  ca (ho π s2 σ H2 x y v u _ I2 r1 r2 q2) λd s3 ⟨z,H3,I3,r3,k,e,q3⟩=>?_)) hm
 subst e;cases r3;refine wpAny_truthy_bool ?_;cases k with
 | false=>
   obtain⟨k',e',q'⟩:=q3;cases e';exact ite_ff ⟨H3,I3,q'⟩
 | true=>
   refine ite_tt (test_last (ca (hc π s3 σ H3 _ I3 q3) λw' s4 ⟨z',H4,I4,r4,q4⟩=>ca (ho' π s4 σ H4 y z' u w' _ I4 r2 r4 q4) λd' s5 z9=>?_));obtain⟨z2,H5,I5,r5,k2,e2,q5⟩:=z9;subst e2;cases r5;exact wpAny_truthy_bool ⟨H5,I5,q5⟩
theorem iN:(sizeLine:Nat)<2^63:=by rw[sizeLine_eq];decide
theorem nM:gt X (binaryOp .Add) (λx y H Q=>∃i j,x=.str i/\y=.str j/\i.length+j.length<=sizeLine/\Q (.str (i++j)) H):=by
 intro π s σ H x y v u Q I rx ry h;obtain⟨i,j,rfl,rfl,hz,q⟩:=h;obtain⟨t,rfl⟩:=rx;obtain⟨t',rfl⟩:=ry;exact add_str (λt' tk=>⟨.str (i++j),H,I.tok _,⟨_,rfl⟩,q⟩) hz
theorem eg {x:V} (r:aY [x] us):∃u,us=[u]/\bo x u:=by
 cases r with
 | cons r1 r2=>cases r2;exact⟨_,rfl,r1⟩
theorem sk {x y:V} (r:aY [x,y] us):∃u w',us=[u,w']/\bo x u/\bo y w':=by
 cases r with
 | cons r1 r2=>
   cases r2 with
   | cons r3 r4=>cases r4;exact⟨_,_,rfl,r1,r3⟩
theorem qI (hc:X.calm=true):fM X (.builtin "max") (λxs H Q=>∃i j,xs=[.int i,.int j]/\Q (.int (if j > i then j else i)) H):=by
 intro π s σ H xs us Q I r h;obtain⟨i,j,rfl,q⟩:=h;obtain⟨u,w',rfl,⟨t,rfl⟩,⟨t',rfl⟩⟩:=sk r;refine max_two_ints (I.ok.hd hc) λh' tk k=>⟨_,H,I.kept k,?_,q⟩
 by_cases hj:j > i
 ·rw[ycv hj,ycv hj];exact⟨_,rfl⟩
 ·rw[ycw hj,ycw hj];exact⟨_,rfl⟩
theorem jD:fM X (.type "int") (λxs H Q=>(∃i,xs=[.int i]/\Q (.int i) H)∨∃k,xs=[.bl k]/\Q (.int (if k then 1 else 0)) H):=by
 intro π s σ H xs us Q I r h;rcases h with⟨i,rfl,q⟩ | ⟨k,rfl,q⟩
 ·obtain⟨u,rfl,t,rfl⟩:=eg r;exact call_int_int ⟨.int i,H,I,⟨_,rfl⟩,q⟩
 ·obtain⟨u,rfl,r1⟩:=eg r;cases r1;exact call_int_bool ⟨.int (if k then 1 else 0),H,I.tok _,⟨_,rfl⟩,q⟩
end
structure nN (h:Heap) (x dx C:Addr) (mA:yew):Prop where
 obj:h.get? x=some (instObj C dx)
 ns:h.Ns1 dx mA
 ne:dx≠x
theorem qJ {h:Heap} {dx:Addr} {mA:yew} (n:h.Ns1 dx mA):∃od,h.get? dx=some od/\∀name,lookIn name od=some (mA name):=by
 obtain⟨o,es,ep,ho,hd,hk,_,hm⟩:=n;refine⟨o,ho,λname=>?_⟩;have e:=hm name;unfold nsFind findBy at e;rw[←Array.find?_toList] at e;unfold lookIn;rw[hd];dsimp only;split
 ·rename_i y q;rw[q] at e;exact congrArg some e
 ·rename_i q;rw[q] at e;have a:es.toList.any (·.refKey)=false:=by
   rw[List.any_eq_false];intro y hy;obtain⟨z,t,hkey⟩:=hk y (Array.mem_toList_iff.mp hy);simp[DictEntry.refKey,hkey]
  have a':¬es.toList.any (·.refKey)=true:=by rw[a];exact ydx
  rw[ycw a'];exact congrArg some e
theorem nN.look {h:Heap} {x dx C:Addr} {mA:yew} (I:nN h x dx C mA):∃od,PySem.W.InstAt h x (instObj C dx) C (some od)/\∀name,lookIn name od=some (mA name):=
 let ⟨od,ho,hl⟩:=qJ I.ns
 ⟨od,⟨I.obj,rfl,rfl,ho⟩,hl⟩
section
variable {prog:Program} {w:World} {A:Around} {E:yey} {s:Shared} {K:yav} {x dx C f:Addr} {mA:yew} {name:Str} {v:Value}
theorem vo {expr:Bool} (X:K.In s.heap) (I:nN s.heap x dx C mA) (hg:plainGet K C name=true) (hh:hasDictIn K C=true)
 (ha:findIn K (.ref C) name=some none) (hv:mA name=some v) (hv':PySem.W.handedIn v=true) (h:Q v { s with toks:=s.toks+1 }):
 wpAny (model prog w) A (getAttr (.ref x) name expr) Q E s:=by
 obtain⟨od,J,hl⟩:=I.look;exact PySem.W.get_value X J (PySem.W.plainGet_of hg).1 (PySem.W.findObj_own hh ha rfl (by rw[hl,hv])) hv' h
theorem ss {pl:Sem Bool} {Q:Value×List Value->Shared->Prop} (X:K.In s.heap) (I:nN s.heap x dx C mA) (hg:plainGet K C name=true)
 (hf:findIn K (.ref C) name=some (some (.ref f))) (ht:isFn K (.ref f)=true) (hv:mA name=none) (h:Q (.ref f,[.ref x]) s):
 wpAny (model prog w) A (getMethod (.ref x) name pl) Q E s:=by
 obtain⟨od,J,hl⟩:=I.look;exact PySem.W.method_fn X J (PySem.W.plainGet_of hg).1 (PySem.W.plainGet_of hg).2 hf (beq_iff_eq.mp ht) (by show(lookIn name od).map (·.isSome)=some false;rw[hl,hv];rfl) h
theorem vp {ns:List Str} {Q:Unit->Shared->Prop} (X:K.In s.heap) (I:nN s.heap x dx C mA)
 (hs:findIn K (.ref C) "__setattr__"=some (some (.builtin "object.__setattr__"))) (hp:PySem.W.plainOver K C=true) (ht:PySem.W.takerIn K C name=some none) (hh:hasDictIn K C=true)
 (hw:PySem.Within mA ns) (hsz:ns.length<=sizeLine)
 (h:∀h',nN h' x dx C (λy=>if y=name then some v else mA y)->Heap.SameBut dx s.heap h'->Q () { s with heap:=h',toks:=s.toks+2 }):
 wpAny (model prog w) A (setAttr (.ref x) name v) Q E s:=by
 obtain⟨od,J,hl⟩:=I.look;refine PySem.W.set_plain X J hs (PySem.W.osa_open (s:={ s with toks:=s.toks+1 }) (r:=none) X J hp ht λb=>?_);obtain⟨cd,hc,hd'⟩:=PySem.W.any_some hh;have hx:s.heap.get? x=some ⟨.ref C,some dx,.plain,#[]⟩:=I.obj;refine wax (wpAny_pure (wax (wax (wpAny_loadPart hx (wax (PySem.W.Looks.here (s:={ s with toks:=s.toks+1 }) (PySem.W.looks_clsIn X hc) ?_))))));rw[hd'];refine wpAny_pure (a:=some dx) (wax (wpAny_pure (wax ?_)));refine wpAny_nsSet1 (s:={ s with toks:=s.toks+1 }) I.ns λh' hn2 hs2=>?_;obtain⟨oD,esD,epD,hoD,hdD,hcD⟩:=hn2.count (PySem.Within.cons name v hw);refine wax (wpAny_lookBehind hoD (by rw[hdD];exact pastItsLine_dict (ycy hcD (by rw[length_cons];(clear hcD;lia)))) ?_);exact wpAny_pure (h _ ⟨(hs2.2 _ (Ne.symm I.ne)).trans I.obj,hn2,I.ne⟩ hs2)
theorem su {R:Result->Shared->Prop} {vs:yez} {kw:List (Str×Value)} (X:K.In s.heap) (hm:PySem.W.makesIn K C=true)
 (hi:findIn K (.ref C) "__init__"=some (some (.ref f))) (hf:typeIn K (.ref f)=some (.type "function"))
 (h:codeAny (model prog w) (A.under (.builtin "type.__call__" ⟨.ref C::vs,kw⟩)) (.call (.ref f) ⟨.ref (s.heap.objs.size+1)::vs,kw⟩) (PySem.W.InitBack (s.heap.objs.size+1) R)
   { s with heap:=(s.heap.push emptyDict).push (instObj C s.heap.objs.size) }):
 codeAny (model prog w) A (.call (.ref C) ⟨vs,kw⟩) R s:=by
 obtain⟨hh,g,d,t,os⟩:=s;exact PySem.W.make_core (PySem.W.makes_of X hm) (looks_findIn X hi) (λself=>PySem.W.bind_fn X self hf) (.inl rfl) h
end
noncomputable def eh (f:Str) (v:V):List (Str×V)->List (Str×V)
 | []=>[(f,v)]
 | (g,x)::r=>if g=f then (g,v)::r else (g,x)::eh f v r
theorem ic (f g:Str) (v:V):∀fs:List (Str×V),(eh f v fs).lookup g=if g=f then some v else fs.lookup g
 | []=>by
   show List.lookup g [(f,v)]=_
   by_cases h:g=f
   ·have hb:(g==f)=true:=beq_iff_eq.mpr h;simp only[List.lookup,hb,ycv h]
   ·have hb:(g==f)=false:=beq_eq_false_iff_ne.mpr h;simp only[List.lookup,hb,ycw h]
 | (k,x)::r=>by
   have ih:=ic f g v r;rw[show eh f v ((k,x)::r)=(if k=f then (k,v)::r else (k,x)::eh f v r) from rfl]
   by_cases hk:k=f
   ·rw[ycv hk]
    by_cases h:g=k
    ·have hb:(g==k)=true:=beq_iff_eq.mpr h;simp only[List.lookup,hb,ycv (h.trans hk)]
    ·have hb:(g==k)=false:=beq_eq_false_iff_ne.mpr h;simp only[List.lookup,hb,ycw (λe:g=f=>h (e.trans hk.symm))]
   ·rw[ycw hk]
    by_cases h:g=k
    ·have hb:(g==k)=true:=beq_iff_eq.mpr h;simp only[List.lookup,hb,ycw (λe:g=f=>hk (h.symm.trans e))]
    ·have hb:(g==k)=false:=beq_eq_false_iff_ne.mpr h;simp only[List.lookup,hb];exact ih
theorem gQ (f:Str) (v:V):∀fs:List (Str×V),f∈(eh f v fs).map (·.1)/\∀g,g∈fs.map (·.1)->g∈(eh f v fs).map (·.1)
 | []=>⟨by simp[eh],λg h=>by simp at h⟩
 | (k,x)::r=>by
   obtain⟨i1,i2⟩:=gQ f v r;rw[show eh f v ((k,x)::r)=(if k=f then (k,v)::r else (k,x)::eh f v r) from rfl]
   by_cases hk:k=f
   ·rw[ycv hk];subst hk;exact⟨by simp,λg h=>by simpa using h⟩
   ·rw[ycw hk];refine⟨?_,λg h=>?_⟩
    ·rw[map_cons];exact ybx _ i1
    ·rw[map_cons] at h ⊢;rcases mem_cons.mp h with e | e
     ·exact mem_cons.mpr (.inl e)
     ·exact ybx _ (i2 g e)
theorem ie (f:Str) (v:V):∀fs:List (Str×V),(eh f v fs).length<=fs.length+1
 | []=>by simp[eh]
 | (k,x)::r=>by
   have ih:=ie f v r;rw[show eh f v ((k,x)::r)=(if k=f then (k,v)::r else (k,x)::eh f v r) from rfl]
   by_cases hk:k=f
   ·rw[ycv hk,length_cons,length_cons];(clear ih;lia)
   ·rw[ycw hk,length_cons,length_cons];lia
theorem fR.some_of {v:V} {o:Option Value} (r:fR (some v) o):∃u,o=some u/\bo v u:=by
 cases o with
 | none=>exact(show False from r).elim
 | some u=>exact⟨u,rfl,r⟩
theorem fR.none_of {o:Option Value} (r:fR none o):o=none:=by
 cases o with
 | none=>rfl
 | some u=>exact(show False from r).elim
theorem qK {v:V} (r:bo v u):PySem.W.handedIn u=true:=by
 cases v with
 | non=>cases (show u=Value.none from r);rfl
 | bl b=>cases (show u=Value.bool b from r);rfl
 | int i=>obtain⟨t,e⟩:=(show ∃t,u=Value.int i t from r);cases e;rfl
 | str x=>obtain⟨t,e⟩:=(show ∃t,u=Value.str x t from r);cases e;rfl
 | byt b=>obtain⟨t,e⟩:=(show ∃t,u=Value.bytes b t from r);cases e;rfl
 | flt b=>obtain⟨t,e⟩:=(show ∃t,u=Value.float b t from r);cases e;rfl
 | ref a=>cases (show u=Value.ref a from r);rfl
 | ty n=>cases (show u=Value.type n from r);rfl
section
variable {P:Program} {w:World} {H H':Hp} {h h':Heap} {a C dx:Addr} {fs fs':List (Str×V)}
theorem iy (hok:gq P w H h) (e:H a=some (.ins C dx fs)):∃mA,nN h a dx C mA/\(∀f,fR (fs.lookup f) (mA f))/\PySem.Within mA (fs.map (·.1))/\fs.length<=1000/\H dx=some (.own a):=by
 obtain⟨d,z,ne,ob,mA,n,r,q⟩:=(show ck P w H h a (.ins C dx fs) from hok a _ e);exact⟨mA,⟨ob,n,ne⟩,r,q,z,d⟩
end
structure lG (K:yav) (C:Addr):Prop where
 pg:plainGet K C Str.empty=true
 hd:hasDictIn K C=true
 po:PySem.W.plainOver K C=true
 sa:findIn K (.ref C) "__setattr__"=some (some (.builtin "object.__setattr__"))
theorem lG.get {C:Addr} (c:lG K C) (f:Str):plainGet K C f=true:=c.pg
noncomputable def cW (K:yav) (C:Addr) (f:Str):Prop:=findIn K (.ref C) f=some none
theorem cW.taker {C:Addr} {f:Str} (n:cW K C f):PySem.W.takerIn K C f=some none:=by
 unfold PySem.W.takerIn;rw[show findIn K (.ref C) f=some none from n]
 rfl
structure GR (K:yav) (C:Addr) (f:Str) (v:V) (u:Value):Prop where
 at_:findIn K (.ref C) f=some (some u)
 rel:bo v u
 get:PySem.W.specialIn K u "__get__"=some none
 cp:PySem.W.copiedNames.contains f=false
structure qL (K:yav) (C:Addr) (m:Str) (f:Addr):Prop where
 at_:findIn K (.ref C) m=some (some (.ref f))
 fn:isFn K (.ref f)=true
 kp:keepIn K (.ref f)=true
section
variable {X:Cx} {π:List (Addr×Obj)} {σ:St} {H:Hp} {s:Shared} {a C dx:Addr} {fs:List (Str×V)} {f:Str} {v:V} {A:Around} {E:yey}
theorem nO {b:Bool} (I:aJ X π σ H s) (e:H a=some (.ins C dx fs)) (c:lG X.K C) (n:cW X.K C f) (l:fs.lookup f=some v)
 (h:∀u s',aJ X π σ H s'->bo v u->Q u s'):wpAny (model X.prog X.w) A (getAttr (.ref a) f b) Q E s:=by
 obtain⟨mA,O,r,_,_,_⟩:=iy I.hok e;obtain⟨u,hu,ru⟩:=fR.some_of (v:=v) (o:=mA f) (by rw[←l];exact r f);exact vo I.kIn O (c.get f) c.hd n hu (qK ru) (h u _ (I.tok _) ru)
theorem iO {m:Str} {g:Addr} {pl:Sem Bool} {Q:Value×List Value->Shared->Prop} (I:aJ X π σ H s) (e:H a=some (.ins C dx fs)) (c:lG X.K C) (k:qL X.K C m g) (l:fs.lookup m=none)
 (h:Q (.ref g,[.ref a]) s):wpAny (model X.prog X.w) A (getMethod (.ref a) m pl) Q E s:=by
 obtain⟨mA,O,r,_,_,_⟩:=iy I.hok e;have hn:mA m=none:=fR.none_of (by rw[←l];exact r m);exact ss I.kIn O (c.get m) k.at_ k.fn hn h
theorem nP {y:V} {Q:Unit->Shared->Prop} (I:aJ X π σ H s) (e:H a=some (.ins C dx fs)) (c:lG X.K C) (n:cW X.K C f) (hl:fs.length<1000) (ry:bo y u)
 (h:∀s',aJ X π σ (upd H a (.ins C dx (eh f y fs))) s'->Q () s'):wpAny (model X.prog X.w) A (setAttr (.ref a) f u) Q E s:=by
 obtain⟨mA,O,r,wi,_,ho⟩:=iy I.hok e;have hz:(fs.map (·.1)).length<=sizeLine:=by rw[length_map,sizeLine_eq];lia
 refine vp I.kIn O c.sa c.po n.taker c.hd wi hz λh' O' sb=>h _ ?_;have hd:∃o,h'.get? dx=some o:=let ⟨o,_,_,e',_⟩:=O'.ns;⟨o,e'⟩;refine I.write (x:=a) (e:=dx) (by rw[e];exact True.intro) (.inr ho) (λb q hb z=>(sb.2 b hb).trans z) hd ?_;refine⟨by rw[aO O.ne];exact ho,?_,O.ne,O'.obj,_,O'.ns,λg=>?_,λg hg=>?_⟩
 ·have:=ie f y fs;(clear hz;lia)
 ·show fR ((eh f y fs).lookup g) (if g=f then some u else mA g);rw[ic]
  by_cases q:g=f
  ·rw[ycv q,ycv q];exact ry
  ·rw[ycw q,ycw q];exact r g
 ·by_cases q:g=f
  ·rw[q];exact(gQ f y fs).1
  ·refine(gQ f y fs).2 g (wi g λz=>hg ?_);show(if g=f then some u else mA g)=none;rw[ycw q];exact z
theorem aJ.made (I:aJ X π σ H s):aJ X π σ (upd (upd H s.heap.objs.size (.own (s.heap.objs.size+1))) (s.heap.objs.size+1) (.ins C s.heap.objs.size []))
 { s with heap:=(s.heap.push emptyDict).push (instObj C s.heap.objs.size) }:=by
 have e1:(s.heap.push emptyDict).get? s.heap.objs.size=some emptyDict:=ybw s.heap rfl;have e2:((s.heap.push emptyDict).push (instObj C s.heap.objs.size)).get? (s.heap.objs.size+1)=some (instObj C s.heap.objs.size):=by
  have:=ybw (s.heap.push emptyDict) (o:=instObj C s.heap.objs.size) rfl
  rwa [Heap.size_push] at this
 have e3:(s.heap.push emptyDict).Ns s.heap.objs.size (λ_=>none):=⟨emptyDict,#[],_,e1,rfl,(λe he=>absurd he (by simp)),λ_=>rfl⟩;have I1:=I.laid (a:=s.heap.objs.size) (o:= .own (s.heap.objs.size+1)) (h':=s.heap.push emptyDict) (t':=s.toks) (λb u q=>ybz _ q) (ycx _) ⟨_,e1⟩;refine I1.laid (a:=s.heap.objs.size+1) (o:= .ins C s.heap.objs.size []) (t':=s.toks) (λb u q=>ybz _ q) (Nat.le_of_eq (Heap.size_push _ _)) ?_;have ne:s.heap.objs.size≠s.heap.objs.size+1:=ne_of_lt (Nat.lt_succ_self _);refine⟨by rw[aO ne,bt],zero_le _,ne,e2,λ_=>none,(Heap.Ns1.of_empty e3).at λo q=>ybz _ q,λ_=>True.intro,λy hy=>absurd rfl hy⟩
theorem vq {env:Env} {f:Str} (hb:attributeBase e f env (eval e env)=eval e env)
 (h:wpAny (model prog w) A (eval e env) (λo s₁=>wpAny (model prog w) A (getAttr o f true) Q E s₁) E s):wpAny (model prog w) A (eval (.Attribute e f pos) env) Q E s:=
 Attribute_any_ h (by rw[arm_eval_Attribute,hb])
end
noncomputable def DB (K:yav) (ta:TE) (f:Str):TE:=λσ H Q=>ta σ H λx H1=>∃a C dx fs v,x=.ref a/\H1 a=some (.ins C dx fs)/\lG K C/\cW K C f/\fs.lookup f=some v/\Q v H1
noncomputable def DC (K:yav) (ta tv:TE) (f:Str):TS:=λD σ H=>tv σ H λy H1=>ta σ H1 λx H2=>∃a C dx fs,x=.ref a/\H2 a=some (.ins C dx fs)/\lG K C/\cW K C f/\fs.length<1000/\
 D.nx σ (upd H2 a (.ins C dx (eh f y fs)))
section
variable {X:Cx} {o e value:Expr} {f:Str} {pos pos' tpos:Pos} {ta tv:TE}
theorem yT (he:PE X e ta) (hb:attributeBase e f X.env (eval e X.env)=eval e X.env):PE X (.Attribute e f pos) (DB X.K ta f):=by
 intro π s σ H Q I h;refine vq hb (ca (he π s σ H _ I h) λu s1 z9=>?_);obtain⟨x,H1,I1,rx,a,C,dx,fs,v,ex,ea,c,n,l,q⟩:=z9;subst ex;obtain rfl:u=Value.ref a:=rx;exact nO I1 ea c n l λu' s2 I2 ru=>⟨v,H1,I2,ru,q⟩
theorem yU (ha:PE X o ta) (hv:PE X value tv) (hs:swapsWith value (some (.Attribute o f pos')) pos.line X.env=pure false):PS X (.Assign [.Attribute o f pos'] value pos) (DC X.K ta tv f):=by
 intro π s σ H D I h;refine plainObj_wpAny_Assign_Attribute (ca (hv π s σ H _ I h) λu s1 ⟨y,H1,I1,ry,q⟩=>ca (ha π s1 σ H1 _ I1 q) λov s2 z9=>?_) hs;obtain⟨x,H2,I2,rx,a,C,dx,fs,ex,ea,c,n,l,q2⟩:=z9;subst ex;obtain rfl:ov=Value.ref a:=rx;exact nP I2 ea c n l ry λs3 I3=>⟨σ,_,I3,q2⟩
end
section
variable {X:Cx} {π:List (Addr×Obj)} {σ:St} {H:Hp} {s:Shared} {A:Around} {E:yey} {Q:yey} {c:Value} {b:Bool}
inductive gR (K:yav) (H:Hp):V->Value->Prop where
 | non:gR K H .non (.type "NoneType")
 | bl (x:Bool):gR K H (.bl x) (.type "bool")
 | int (i:Int):gR K H (.int i) (.type "int")
 | str (x:Str):gR K H (.str x) (.type "str")
 | flt (x:UInt64):gR K H (.flt x) (.type "float")
 | lst {a:Addr} {xs:List V} (e:H a=some (.lst xs)):gR K H (.ref a) (.type "list")
 | frz {a:Addr} {o:Obj} {xs:List V} (e:H a=some (.frz o (.lst xs))):gR K H (.ref a) (.type "list")
 | tup {a:Addr} {xs:List V} (e:H a=some (.tup xs)):gR K H (.ref a) (.type "tuple")
 | dK {a:Addr} {kvs:List (bE×V)} (e:H a=some (.dK kvs)):gR K H (.ref a) (.type "dict")
 | dT {a:Addr} {kvs:List (List bE×V)} (e:H a=some (.dT kvs)):gR K H (.ref a) (.type "dict")
 | ins {a C dx:Addr} {fs:List (Str×V)} (e:H a=some (.ins C dx fs)) (cl:lG K C) (ha:findIn K (.ref C) "__class__"=some (some (.builtin "object.__class__")))
    (hn:PySem.W.specialIn K (.builtin "object.__class__") "__get__"=some (some (.builtin "getset_descriptor.__get__"))) (htk:PySem.W.takesIn K (.builtin "object.__class__")=some true)
    (hm:mroIn K C (.type "object")=some true):gR K H (.ref a) (.ref C)
theorem qM {x:V} {u t:Value} (I:aJ X π σ H s) (rx:bo x u) (ty:gR X.K H x t) (e:PySem.W.kitOne X.K t c=some b) (h:∀tk,Q (.bool b) { s with toks:=tk }):
 wpAny (model X.prog X.w) A (call (.builtin "isinstance") [u,c]) Q E s:=by
 cases ty with
 | non=>cases (show u=Value.none from rx);exact kia_one PySem.W.kitx_none I.kIn True.intro e (λz=>nomatch z) h
 | bl y=>cases (show u=Value.bool y from rx);exact kia_one PySem.W.kitx_bool I.kIn True.intro e (λz=>nomatch z) h
 | int i=>obtain⟨t,q⟩:=(show ∃t,u=Value.int i t from rx);cases q;exact kia_one PySem.W.kitx_int I.kIn True.intro e (λz=>nomatch z) h
 | str y=>obtain⟨t,q⟩:=(show ∃t,u=Value.str y t from rx);cases q;exact kia_one PySem.W.kitx_str I.kIn True.intro e (λz=>nomatch z) h
 | flt y=>obtain⟨t,q⟩:=(show ∃t,u=Value.float y t from rx);cases q;exact kia_one PySem.W.kitx_float I.kIn True.intro e (λz=>nomatch z) h
 | @lst a xs ea=>
   cases (show u=Value.ref a from rx);obtain⟨_,_,n,_,h1⟩:=(show ck X.prog X.w H s.heap a (.lst xs) from I.hok a _ ea);exact kia_one PySem.W.kitx_list I.kIn ⟨_,h1,rfl⟩ e (λz=>nomatch z) h
 | @frz a ob xs ea=>
   cases (show u=Value.ref a from rx);obtain⟨_,_,_,n,_,h1⟩:=(show ck X.prog X.w H s.heap a (.frz ob (.lst xs)) from I.hok a _ ea);exact kia_one PySem.W.kitx_list I.kIn ⟨_,h1,rfl⟩ e (λz=>nomatch z) h
 | @tup a xs ea=>
   cases (show u=Value.ref a from rx);obtain⟨_,_,_,p⟩:=(show ck X.prog X.w H s.heap a (.tup xs) from I.hok a _ ea);obtain⟨o,h1,h2,_⟩:=p;exact kia_one PySem.W.kitx_tuple I.kIn ⟨o,h1,h2⟩ e (λz=>nomatch z) h
 | @dK a kvs ea=>
   cases (show u=Value.ref a from rx);obtain⟨_,_,vs,_,p⟩:=(show ck X.prog X.w H s.heap a (.dK kvs) from I.hok a _ ea);obtain⟨o,es,ep,h1,h2,_⟩:=p;exact kia_one PySem.W.kitx_dict I.kIn ⟨o,h1,h2.1⟩ e (λz=>nomatch z) h
 | @dT a kvs ea=>
   cases (show u=Value.ref a from rx);obtain⟨_,_,xs,_,o,es,ep,h1,h2,_⟩:=(show ck X.prog X.w H s.heap a (.dT kvs) from I.hok a _ ea);exact kia_one PySem.W.kitx_dict I.kIn ⟨o,h1,h2.1⟩ e (λz=>nomatch z) h
 | @ins a C dx fs ea cl ha hn htk hm=>
   cases (show u=Value.ref a from rx);obtain⟨mA,O,_⟩:=iy I.hok ea;obtain⟨od,J,_⟩:=O.look;exact kia_one (PySem.W.kitx_own (cl.get _) cl.hd ha hn htk hm) I.kIn J e (λz=>nomatch z) h
end
structure ay (k:Nat) (A:Around):Prop where
 hd:A.handled=none
 dp:A.depth+3*k+5<recursionLimit
 un:A.units+16*k+200<cLine
theorem ay.mono {j k:Nat} (r:ay k A) (h:j<=k):ay j A:=⟨r.hd,by have:=r.dp;lia,by have:=r.un;lia⟩
theorem ay.deeper (r:ay (k+1) A) (env:Env):ay k (A.deeper env):=
 ⟨r.hd,by have:=r.dp;show A.depth+1+3*k+5<_;lia,by have:=r.un;show A.units+3+16*k+200<_;lia⟩
theorem nQ {C:Addr} {kw:List (Str×Value)}:(A.under (.builtin "type.__call__" ⟨.ref C::us,kw⟩)).depth=A.depth+1:=by
 first | rfl | simp[Around.under,Code.weight,Code.isCreation,Code.isGuard,Code.isCaller,Code.frames,Code.isFrame,guardIds]
theorem nR {C:Addr} {kw:List (Str×Value)}:(A.under (.builtin "type.__call__" ⟨.ref C::us,kw⟩)).units=A.units+1:=by
 first | rfl | simp[Around.under,Code.cUnits,Code.frames,Code.isFrame]
theorem ay.make (r:ay (k+1) A) (C:Addr) (us:yez) (kw:List (Str×Value)):ay k (A.under (.builtin "type.__call__" ⟨.ref C::us,kw⟩)):=
 ⟨r.hd,by have:=r.dp;rw[nQ];lia,by have:=r.un;rw[nR];lia⟩
theorem ay.depth (r:ay k A):A.depth<recursionLimit:=by have:=r.dp;lia
noncomputable def sw:TA:=λ_ H Q=>Q [] H
noncomputable def lK (ta:TE) (tr:TA):TA:=λσ H Q=>ta σ H λx H1=>tr σ H1 λxs H2=>Q (x::xs) H2
section
variable {X:Cx} {e:Expr} {es:List Expr} {te:TE} {t:TA} {pos:Pos}
theorem pa_nil:PA X [] sw:=λ_ _ _ _ H Q I h=>Calls.spliced_nil ⟨[],H,I,.nil,h⟩
theorem dy (ha:PE X e te) (hr:PA X es t) (hs:starEach (e::es) X.env=(false,eval e X.env)::starEach es X.env:=by rfl):PA X (e::es) (lK te t):=by
 intro pos π s σ H Q I h;rw[hs];show wpAny _ _ (spliced ((false,eval e X.env)::backTo pos (starEach es X.env))) _ _ s;refine Calls.spliced_cons (ca (ha π s σ H _ I h) λu s1 z9=>?_);obtain⟨x,H1,I1,r1,q1⟩:=z9;exact ca (hr pos π s1 σ H1 _ I1 q1) λus s2 ⟨xs,H2,I2,r2,q2⟩=>⟨x::xs,H2,I2,.cons r1 r2,q2⟩
noncomputable def DD (t:TA):TE:=λσ H Q=>t σ H λxs H1=>xs.length<=sizeLine/\∀p,H1 p=none->Q (.ref p) (upd H1 p (.tup xs))
noncomputable def DE (t:TA):TE:=λσ H Q=>t σ H λxs H1=>xs.length<=sizeLine/\∀p,H1 p=none->Q (.ref p) (upd H1 p (.lst xs))
theorem yV {x1} (h:PA X es t):PE X (.Tuple es x1 pos) (DD t):=by
 intro π s σ H Q I hq;refine wpAny_Tuple_spliced (ca (h pos π s σ H _ I hq) λus s1 ⟨xs,H1,I1,r,z,q⟩=>⟨by rw[←r.length];exact z,?_⟩);have hf:H1 s1.heap.objs.size=none:=I1.hok.fresh (ycx _);refine⟨.ref s1.heap.objs.size,upd H1 s1.heap.objs.size (.tup xs),I1.laid (t':=s1.toks) (λb u e=>ybz _ e) (ycx _) ?_,rfl,q _ hf⟩;exact⟨z,us,r,⟨_,ybw _ rfl,rfl,_,rfl⟩⟩
theorem yW (h:PA X es t):PE X (.List es pos) (DE t):=by
 intro π s σ H Q I hq;refine wpAny_List_spliced (ca (h pos π s σ H _ I hq) λus s1 ⟨xs,H1,I1,r,z,q⟩=>⟨by rw[←r.length];exact z,?_⟩);have hf:H1 s1.heap.objs.size=none:=I1.hok.fresh (ycx _);refine⟨.ref s1.heap.objs.size,upd H1 s1.heap.objs.size (.lst xs),I1.laid (t':=s1.toks) (λb u e=>ybz _ e) (ycx _) ?_,rfl,q _ hf⟩;exact⟨z,us,0,r,ybw _ rfl⟩
end
noncomputable abbrev Sp:=List V->Hp->VK->XK->Prop
noncomputable abbrev qO:=List Env->Hp->Shared->XK->Value->Shared->Prop
structure lM (P:Program) (w:World) (K:yav) (mg:yew) (base:Heap) (A:Around) (outer:List Env) (s:Shared) (H:Hp):Prop where
 frames:A.frames=some outer
 mod:Mod K mg base
 bs:∀b o,base.get? b=some o->s.heap.get? b=some o/\H b=none
 bsz:base.objs.size<=s.heap.objs.size
 funs:s.heap.FunFrames base outer
 frf:∀b∈eK outer,H b=none
 hok:gq P w H s.heap
 bare:AllBare s.gens
noncomputable def CE (outer:List Env) (P:Program) (w:World) (H:Hp) (s:Shared) (Q:VK) (u:Value) (s':Shared):Prop:=
 ∃v H',s'.os=s.os/\AllBare s'.gens/\Un (eK outer) [] H H' s.heap s'.heap/\gq P w H' s'.heap/\bo v u/\Q v H'
noncomputable def CR (CX:qO) (outer:List Env) (P:Program) (w:World) (H:Hp) (s:Shared) (Q:VK) (E:XK) (r:Result) (s':Shared):Prop:=
 match r with
 | .ok (.ret u)=>CE outer P w H s Q u s'
 | .ok _=>False
 | .error e=>CX outer H s E e s'
structure fS (P:Program) (w:World) (K:yav) (mg:yew) (base:Heap) (CX:qO) (k:Nat) (f:Addr) (fd:FuncData) (ps:List Str) (sp:Sp):Prop where
 len:∀vs H Q E,sp vs H Q E->vs.length=ps.length
 run:∀(A:Around) (outer:List Env) (s:Shared) (H:Hp) (args:Args) (us:yez) (vs:List V) (Q:VK) (E:XK),ay k A->lM P w K mg base A outer s H->BindsTo s fd args (ps.zip us)->aY vs us->sp vs H Q E->
  codeAny (model P w) A (.call (.ref f) args) (CR CX outer P w H s Q E) s
theorem lM.make {outer:List Env} {H:Hp} (e:lM P w K mg base A outer s H) (C:Addr) (us:yez) (kw:List (Str×Value)):
 lM P w K mg base (A.under (.builtin "type.__call__" ⟨.ref C::us,kw⟩)) outer s H:=⟨by first | exact e.frames | (simpa[Around.under,Code.envs,Code.isFrame,pushEnvs] using e.frames),e.mod,e.bs,e.bsz,e.funs,e.frf,e.hok,e.bare⟩
section
variable {X:Cx} {π:List (Addr×Obj)} {σ:St} {H:Hp} {s s':Shared}
theorem aJ.env0 (I:aJ X π σ H s):lM X.prog X.w X.K X.mg X.base X.A X.stack s H:=
 ⟨I.ok.frames,I.ok.mod,I.bs,ycy I.ok.bsz I.sz,I.stack,I.stkFree,I.hok,I.bare⟩
theorem aJ.after {Q:VK} (I:aJ X π σ H s) (h:CE X.stack X.prog X.w H s Q u s'):EP X π σ Q u s':=by
 obtain⟨v,H',os,bare,un,hok,r,q⟩:=h;obtain⟨hh,g,d,t,os'⟩:=s';obtain rfl:os'=s.os:=os;exact⟨v,H',I.call (h':=hh) (g':=g) (d':=d) (t':=t) (ch:=[]) un hok bare (λb z=>absurd z (by simp)),r,q⟩
end
noncomputable def sy (sp:Sp) (dvs:List V) (E:XK) (t:TA):TE:=λσ H Q=>t σ H λvs H1=>sp (vs++dvs) H1 Q E
noncomputable def sA (C:Addr) (m:Str) (sp:Sp) (dvs:List V) (E:XK) (ta:TE) (t:TA):TE:=λσ H Q=>ta σ H λx H1=>∃a dx fs,x=.ref a/\H1 a=some (.ins C dx fs)/\fs.lookup m=none/\
 t σ H1 λvs H2=>sp (x::(vs++dvs)) H2 Q E
noncomputable def xE (C:Addr) (sp:Sp) (dvs:List V) (E:XK) (t:TA):TE:=λσ H Q=>t σ H λvs H1=>∀x dx,H1 x=none->H1 dx=none->dx≠x->
 sp (.ref x::(vs++dvs)) (upd (upd H1 dx (.own x)) x (.ins C dx [])) (λv H2=>v=.non/\Q (.ref x) H2) E
noncomputable def bL (K:yav) (fd:FuncData) (ps:List Str) (ds:yez):Prop:=
 ∀(s:Shared) (us:yez),K.In s.heap->(us++ds).length=ps.length->BindsTo s fd ⟨us,[]⟩ (ps.zip (us++ds))
theorem bL.all (h:∀us:List Value,us.length=ps.length->bindArgs fd ⟨us,[]⟩=pure (ps.zip us)):bL K fd ps []:=λs us _ hl=>by
 rw[append_nil] at hl ⊢;exact .of_eq (h us hl)
noncomputable def eM (CX:qO) (X:Cx) (E:XK):Prop:=∀(π:List (Addr×Obj)) (σ:St) (H:Hp) (s:Shared) (e:Value) (s':Shared),aJ X π σ H s->CX X.stack H s E e s'->X.xe e s'
section
variable {X:Cx} {CX:qO} {k:Nat} {f C:Addr} {fd:FuncData} {ps:List Str} {sp:Sp} {dvs:List V} {ds:yez} {E:XK} {x m:Str} {p pos apos:Pos} {e o:Expr} {es:List Expr} {ta:TE} {t:TA}
theorem kA {σ:St} {H:Hp} {Q:VK} {vs:List V} (F:fS X.prog X.w X.K X.mg X.base CX k f fd ps sp) (hr:ay k X.A) (hb:bL X.K fd ps ds) (hd:aY dvs ds) (hx:eM CX X E)
 (I:aJ X π σ H s) (r:aY vs us) (h:sp (vs++dvs) H Q E):wpAny (model X.prog X.w) X.A (call (.ref f) us) (EP X π σ Q) X.xe s:=by
 have r2:aY (vs++dvs) (us++ds):=r.append hd;have hl:(us++ds).length=ps.length:=by rw[←r2.length];exact F.len _ _ _ _ h
 refine wpAny_call (codeAny_mono (F.run X.A X.stack s H ⟨us,[]⟩ (us++ds) (vs++dvs) Q E hr I.env0 (hb s us I.kIn hl) r2 h) λr s' hq=>?_);cases r with
 | error e=>exact hx π σ H s e s' I hq
 | ok fl=>
   cases fl with
   | ret u=>exact I.after hq
   | next=>exact False.elim hq
   | brk=>exact False.elim hq
   | cont=>exact False.elim hq
theorem kB (F:fS X.prog X.w X.K X.mg X.base CX k f fd ps sp) (hr:ay k X.A) (hg:Gl X x) (hm:X.mg x=some (.ref f)) (hk:keepIn X.K (.ref f)=true) (hb:bL X.K fd ps ds) (hd:aY dvs ds) (hx:eM CX X E)
 (ha:PA X (e::es) t) (hdb:(x==("__debug__":Str))=false:=by decide) (he:starEach (e::es) X.env=(false,eval e X.env)::starEach es X.env:=by rfl) (hpl:(backTo pos (starEach es X.env)).any (·.1)=false:=by rfl):
 PE X (.Call (.Name x p) (e::es) [] pos) (sy sp dvs E t):=by
 intro π s σ H Q I h;refine wpAny_Call_Name_kw (eL I hg hm ?_ hdb);refine callWith_K (h₀:=X.base) I.ok.mod.kin hk (ca (ha pos π s σ H _ I h) λus s1 ⟨vs,H1,I1,r,q⟩=>⟨I1.kIn,?_⟩) he hpl;exact kA F hr hb hd hx I1 r q
theorem sB (F:fS X.prog X.w X.K X.mg X.base CX k f fd ps sp) (hr:ay k X.A) (hg:Gl X x) (hm:X.mg x=some (.ref f)) (hk:keepIn X.K (.ref f)=true) (hb:bL X.K fd ps ds) (hd:aY dvs ds) (hx:eM CX X E)
 (hdb:(x==("__debug__":Str))=false:=by decide):PE X (.Call (.Name x p) [] [] pos) (sy sp dvs E sw):=by
 intro π s σ H Q I h;refine wpAny_Call_Name_kw (eL I hg hm ?_ hdb);exact PySem.W.callWith_K0 I.kIn hk (kA (us:=[]) F hr hb hd hx I .nil h)
theorem o0 {pl:Sem Bool} (he:PE X o ta) (c:lG X.K C) (hm:qL X.K C m f) (F:fS X.prog X.w X.K X.mg X.base CX k f fd ps sp) (hr:ay k X.A) (hb:bL X.K fd ps ds) (hd:aY dvs ds) (hx:eM CX X E) (ha:PA X (e::es) t)
 (hst:starEach (e::es) X.env=(false,eval e X.env)::starEach es X.env:=by rfl) (hpl:(backTo pos (starEach es X.env)).any (·.1)=false:=by rfl)
 (ht:eval (.Call (.Attribute o m apos) (e::es) [] pos) X.env=(do
   let ov ←eval o X.env
   standAt apos.atName
   let (f,first) ←holding [ov] (getMethod ov m pl)
   callWith pos f first (backTo pos (starEach (e::es) X.env)) (backToKw pos (keywordEach [] X.env))):=by rfl):
 PE X (.Call (.Attribute o m apos) (e::es) [] pos) (sA C m sp dvs E ta t):=by
 intro π s σ H Q I h;refine PySem.W.methodCall_KW (pl:=pl) (ca (he π s σ H _ I h) λu s1 z9=>?_) ht;obtain⟨x,H1,I1,rx,a,dx,fs,ex,ea,l,q⟩:=z9;subst ex;obtain rfl:u=Value.ref a:=rx;refine iO I1 ea c hm l ?_;refine callWith_K (first:=[.ref a]) (h₀:=X.base) I.ok.mod.kin hm.kp (ca (ha pos π s1 σ H1 _ I1 q) λus s2 ⟨vs,H2,I2,r,q2⟩=>⟨I2.kIn,?_⟩) hst hpl;exact kA (us:= .ref a::us) (vs:= .ref a::vs) F hr hb hd hx I2 (.cons rfl r) q2
theorem sC {pl:Sem Bool} (he:PE X o ta) (c:lG X.K C) (hm:qL X.K C m f) (F:fS X.prog X.w X.K X.mg X.base CX k f fd ps sp) (hr:ay k X.A) (hb:bL X.K fd ps ds) (hd:aY dvs ds) (hx:eM CX X E)
 (ht:eval (.Call (.Attribute o m apos) [] [] pos) X.env=(do
   let ov ←eval o X.env
   standAt apos.atName
   let (f,first) ←holding [ov] (getMethod ov m pl)
   callWith pos f first (backTo pos (starEach [] X.env)) (backToKw pos (keywordEach [] X.env))):=by rfl):
 PE X (.Call (.Attribute o m apos) [] [] pos) (sA C m sp dvs E ta sw):=by
 intro π s σ H Q I h;refine PySem.W.methodCall_KW (pl:=pl) (ca (he π s σ H _ I h) λu s1 z9=>?_) ht;obtain⟨x,H1,I1,rx,a,dx,fs,ex,ea,l,q⟩:=z9;subst ex;obtain rfl:u=Value.ref a:=rx;refine iO I1 ea c hm l ?_;exact PySem.W.callWith_K0 (first:=[.ref a]) I1.kIn hm.kp (kA (us:=[.ref a]) (vs:=[.ref a]) F hr hb hd hx I1 (.cons rfl .nil) q)
structure Mk (K:yav) (C f:Addr):Prop where
 makes:PySem.W.makesIn K C=true
 init:findIn K (.ref C) "__init__"=some (some (.ref f))
 fn:isFn K (.ref f)=true
 kp:keepIn K (.ref C)=true
theorem sE {σ:St} {H:Hp} {Q:VK} {vs:List V} (M:Mk X.K C f) (F:fS X.prog X.w X.K X.mg X.base CX k f fd ps sp) (hr:ay (k+1) X.A) (hb:bL X.K fd ps ds) (hd:aY dvs ds)
 (hx:eM CX X E) (I:aJ X π σ H s) (r:aY vs us)
 (h:∀x dx,H x=none->H dx=none->dx≠x->sp (.ref x::(vs++dvs)) (upd (upd H dx (.own x)) x (.ins C dx [])) (λv H2=>v=.non/\Q (.ref x) H2) E):
 wpAny (model X.prog X.w) X.A (call (.ref C) us) (EP X π σ Q) X.xe s:=by
 have hq:=h (s.heap.objs.size+1) s.heap.objs.size (I.hok.fresh (Nat.le_succ _)) (I.hok.fresh (ycx _)) (ne_of_lt (Nat.lt_succ_self _));have I2:=aJ.made (C:=C) I;have r2:aY (V.ref (s.heap.objs.size+1)::(vs++dvs)) (Value.ref (s.heap.objs.size+1)::(us++ds)):= .cons rfl (r.append hd);have hl:(Value.ref (s.heap.objs.size+1)::us++ds).length=ps.length:=by
  have e:=r2.length;rw[F.len _ _ _ _ hq] at e;exact e.symm
 refine wpAny_call (su (f:=f) I.kIn M.makes M.init (beq_iff_eq.mp M.fn) (codeAny_mono (F.run _ X.stack _ _ ⟨Value.ref (s.heap.objs.size+1)::us,[]⟩ (Value.ref (s.heap.objs.size+1)::(us++ds)) _ _ E (hr.make C us [])
  (I2.env0.make C us []) (hb _ (Value.ref (s.heap.objs.size+1)::us) I2.kIn hl) r2 hq) λr s' hq'=>?_))
 cases r with
 | error e=>exact hx π σ _ _ e s' I2 hq'
 | ok fl=>
   cases fl with
   | ret u=>
     obtain⟨v,H',I3,rv,ev,q3⟩:=I2.after hq';subst ev;exact⟨rv,⟨V.ref (s.heap.objs.size+1),H',I3,rfl,q3⟩⟩
   | next=>exact False.elim hq'
   | brk=>exact False.elim hq'
   | cont=>exact False.elim hq'
theorem vt (M:Mk X.K C f) (F:fS X.prog X.w X.K X.mg X.base CX k f fd ps sp) (hr:ay (k+1) X.A) (hg:Gl X x) (hm:X.mg x=some (.ref C)) (hb:bL X.K fd ps ds) (hd:aY dvs ds) (hx:eM CX X E)
 (ha:PA X (e::es) t) (hdb:(x==("__debug__":Str))=false:=by decide) (he:starEach (e::es) X.env=(false,eval e X.env)::starEach es X.env:=by rfl) (hpl:(backTo pos (starEach es X.env)).any (·.1)=false:=by rfl):
 PE X (.Call (.Name x p) (e::es) [] pos) (xE C sp dvs E t):=by
 intro π s σ H Q I h;refine wpAny_Call_Name_kw (eL I hg hm ?_ hdb);refine callWith_K (h₀:=X.base) I.ok.mod.kin M.kp (ca (ha pos π s σ H _ I h) λus s1 ⟨vs,H1,I1,r,q⟩=>⟨I1.kIn,?_⟩) he hpl;exact sE M F hr hb hd hx I1 r q
end
section
variable {X:Cx} {CX:qO} {k:Nat} {f C:Addr} {fd:FuncData} {ps ks:List Str} {sp:Sp} {E:XK} {x m:Str} {p pos apos kpos:Pos} {e o:Expr} {es:List Expr} {kws:List Keyword} {te ta:TE} {t tk:TA} {nm:Option Str}
structure DF (K:yav) (fd:FuncData) (ps ks:List Str) (g:List Value->List Value->List Value) (gV:List V->List V->List V):Prop where
 to:∀(s:Shared) (us ws:yez),K.In s.heap->(g us ws).length=ps.length->BindsTo s fd ⟨us,ks.zip ws⟩ (ps.zip (g us ws))
 rel:∀{vs:List V} {us:yez} {zs:List V} {ws:yez},aY vs us->aY zs ws->aY (gV vs zs) (g us ws)
variable {g:List Value->List Value->List Value} {gV:List V->List V->List V}
end
structure bh (N P:List Str) (sc:Scope):Prop where
 kind:sc.kind=.function
 co:sc.isCoroutine=false
 gen:sc.isGenerator=false
 nd:N.Nodup
 pre:N.take P.length=P
 par:∀x∈P,sc.names.lookup x=some .local∨sc.names.lookup x=some .cell
 nofree:∀y∈sc.names,y.2≠ .free
theorem jE {kindOf:Str->Option NameKind} {x:Str}:∀{binds:List (Str×Value)} {m:yew},(∀v,(x,v)∉binds)->bindL kindOf binds m x=m x
 | [],_,_=>rfl
 | (n,v)::r,m,h=>by
   unfold bindL;rw[jE λw hw=>h w (ybx _ hw)];split
   ·have:x≠n:=by rintro rfl;exact h v yby
    simp[this]
   ·rfl
theorem jF {kindOf:Str->Option NameKind} {x:Str}:∀{binds:List (Str×Value)} {m:yew},(∀v,(x,v)∉binds)->bindC kindOf binds m x=m x
 | [],_,_=>rfl
 | (n,v)::r,m,h=>by
   unfold bindC;rw[jF λw hw=>h w (ybx _ hw)];split
   ·rfl
   ·have:x≠n:=by rintro rfl;exact h v yby
    simp[this]
theorem jG {kindOf:Str->Option NameKind} {x:Str} {v:Value}:∀{P:List Str} {vs:yez} {i:Nat} {m:yew},P.Nodup->P[i]?=some x->vs[i]?=some v->kindOf x=some .local->
 bindL kindOf (P.zip vs) m x=some v
 | [],_,_,_,_,h,_,_=>by simp at h
 | _::_,[],_,_,_,_,h,_=>by simp at h
 | p::P,w::vs,0,m,nd,h1,h2,hk=>by
   simp at h1 h2;subst h1;subst h2;show bindL kindOf ((p,w)::P.zip vs) m p=_;unfold bindL;rw[jE λv hv=>(nodup_cons.mp nd).1 (List.of_mem_zip hv).1,ycv hk];simp
 | p::P,w::vs,i+1,m,nd,h1,h2,hk=>by
   show bindL kindOf ((p,w)::P.zip vs) m x=_;unfold bindL;exact jG (i:=i) (nodup_cons.mp nd).2 (by simpa using h1) (by simpa using h2) hk
theorem jH {kindOf:Str->Option NameKind} {x:Str} {v:Value}:∀{P:List Str} {vs:yez} {i:Nat} {m:yew},P.Nodup->P[i]?=some x->vs[i]?=some v->kindOf x≠some .local->
 bindC kindOf (P.zip vs) m x=some v
 | [],_,_,_,_,h,_,_=>by simp at h
 | _::_,[],_,_,_,_,h,_=>by simp at h
 | p::P,w::vs,0,m,nd,h1,h2,hk=>by
   simp at h1 h2;subst h1;subst h2;show bindC kindOf ((p,w)::P.zip vs) m p=_;unfold bindC;rw[jF λv hv=>(nodup_cons.mp nd).1 (List.of_mem_zip hv).1,ycw hk];simp
 | p::P,w::vs,i+1,m,nd,h1,h2,hk=>by
   show bindC kindOf ((p,w)::P.zip vs) m x=_;unfold bindC;exact jH (i:=i) (nodup_cons.mp nd).2 (by simpa using h1) (by simpa using h2) hk
noncomputable def start (N:List Str) (vs:List V):St:=vs.map some++List.replicate (N.length-vs.length) none
noncomputable def dq (CX:qO) (P:Program) (w:World) (K:yav) (mg:yew) (base:Heap) (N:List Str) (qual:Str) (scope:Scope) (f:Addr) (cd:Value) (A:Around) (outer:List Env) (s:Shared) (H:Hp) (E:XK):Cx where
 prog:=P
 w:=w
 K:=K
 mg:=mg
 base:=base
 A:=A.deeper (envOfC qual scope s.heap.objs.size f cd)
 N:=N
 s₀:=s
 H₀:=H
 env:=envOfC qual scope s.heap.objs.size f cd
 outer:=outer
 stack:=envOfC qual scope s.heap.objs.size f cd::outer
 ex:=[]
 calm:=true
 fn:=λ_=>true
 pn:=[]
 xe:=λe s'=>wpAny (model P w) (A.deeper (envOfC qual scope s.heap.objs.size f cd)) (leaving (envOfC qual scope s.heap.objs.size f cd) e) (λ_ s''=>CX outer H s E e s'') (λe' s''=>CX outer H s E e' s'') s'
theorem lN {sc:Scope} {n:Nat} (h:sc.names.lookup x=some .cell):∃c,(cellsFrom n sc.names []).lookup x=some c:=by
 have q:=PySem.W.cellsFrom_some sc.names n [] (.inl h);exact Option.isSome_iff_exists.mp q
theorem qP {CX:qO} {N ps:List Str} {qual:Str} {f:Addr} {cd:Value} {outer:List Env} {s s1:Shared} {H:Hp} {E:XK} {vs:List V}
 (S:bh N ps scope) (hd:A.handled=none) (e0:lM P w K mg base A outer s H) (hl:vs.length=ps.length) (r:aY vs us)
 (x:InCallC s s.heap.objs.size (bindL (envOfC qual scope s.heap.objs.size f cd).kindOf (ps.zip us) λ_=>none) (cellsFrom (s.heap.objs.size+1) scope.names []) (bindC (envOfC qual scope s.heap.objs.size f cd).kindOf (ps.zip us) λ_=>none) s1):
 aJ (dq CX P w K mg base N qual scope f cd A outer s H E) [] (start N vs) H s1:=by
 have hpl:ps.length<=N.length:=by have:=congrArg List.length S.pre;rw[length_take] at this;(clear hl;lia)
 obtain⟨h1,tk,rfl,hk⟩:=x.done;have noA:∀b:Addr,b∉(dq CX P w K mg base N qual scope f cd A outer s H E).ex:=λb z=>absurd (show b∈([]:List Addr) from z) (by simp);refine⟨⟨e0.mod,S.kind,rfl,rfl,ycx _,λy z c h1 h2=>?_,λy hy=>?_,λy c _ h=>?_,λ_=>hd,Around.frames_deeper e0.frames,.inr ⟨rfl,rfl⟩,λb z=>absurd z (noA b),e0.bs,e0.bsz,λb _ _=>noA b,λb z=>absurd z (noA b),e0.funs,e0.frf⟩,
  rfl,e0.bare,Un.kept hk,⟨_,x.toInCall.ns,λi y v h1 h2 h3=>?_⟩,λy c h=>⟨_,x.cell y c h⟩,e0.hok.fresh (ycx _),λy c h=>?_,λp hp=>absurd (show p∈([]:List (Addr×Obj)) from hp) (by simp),e0.hok.kept hk,?_⟩
 ·exact name_of_addr x.apart (PySem.mem_of_lookup h1) (PySem.mem_of_lookup h2)
 ·have hy:scope.names.lookup y=some .cell∨scope.names.lookup y=some .free:=hy;rcases hy with hy | hy
  ·exact lN hy
  ·exact absurd rfl (S.nofree _ (PySem.mem_of_lookup hy))
 ·exact Nat.le_of_lt (x.above y c (PySem.mem_of_lookup h))
 ·have hi:i<vs.length:=by
   unfold start at h2
   by_cases hi:i<vs.length
   ·exact hi
   ·rw[List.getElem?_append_right (by simpa using hi)] at h2;rw[List.getElem?_replicate] at h2;split at h2<;> cases h2
  have ha:vs[i]?=some v:=by
   unfold start at h2;rw[List.getElem?_append_left (by simpa using hi),List.getElem?_map] at h2;cases e:vs[i]? with
   | none=>rw[e] at h2;cases h2
   | some a=>rw[e] at h2;cases h2;rfl
  obtain⟨u,hu,rv⟩:=r.get ha;have hp:ps[i]?=some y:=by
   rw[←S.pre,List.getElem?_take_of_lt (by (clear hpl h1 h2 ha hu;lia))];exact h1
  have ndP:ps.Nodup:=by rw[←S.pre];exact S.nd.sublist (List.take_sublist _ _)
  refine⟨u,rv,?_⟩;rcases S.par y (List.mem_of_getElem? hp) with k | k
  ·exact .inl ⟨k,jG ndP hp hu k⟩
  ·obtain⟨c,e⟩:=lN (n:=s.heap.objs.size+1) k;refine .inr ⟨.inl k,c,e,?_⟩;have q:=x.cell y c e;rw[jH ndP hp hu (by show scope.names.lookup y≠_;rw[k];decide)] at q;exact q
 ·exact e0.hok.fresh (Nat.le_of_lt (x.above y c (PySem.mem_of_lookup h)))
 ·unfold start;show _=N.length;rw[length_append,length_map,List.length_replicate];lia
theorem o4 {CX:qO} {f:Addr} {name qual:Str} {params:Arguments} {dV kV doc pm cdv ct oc:Value} {an od:Option Addr}
 {osl:Array (Option Value)} {N ps:List Str} {sp:Sp} (lk:K.lookup f=some ⟨oc,od,.func (fnOf name qual params body scope dV kV doc pm an cdv ct),osl⟩) (hcd:codeIn K cdv qual=true) (S:bh N ps scope)
 (len:∀vs H Q E,sp vs H Q E->vs.length=ps.length)
 (hbody:∀(A:Around) (outer:List Env) (s:Shared) (H:Hp) (vs:List V) (Q:VK) (E:XK),ay k (A.deeper (envOfC qual scope s.heap.objs.size f cdv))->sp vs H Q E->
   ∃t,lF (dq CX P w K mg base N qual scope f cdv A outer s H E) body t/\t { nx:=λ_ H'=>Q .non H',rt:=Q } (start N vs) H):
 fS P w K mg base CX (k+1) f (fnOf name qual params body scope dV kV doc pm an cdv ct) ps sp:=by
 refine⟨len,λA outer s H args us vs Q E hr e0 hb r hsp=>?_⟩;have hl:=len _ _ _ _ hsp;have KX:K.In s.heap:=e0.mod.kin.keeps λb o e=>(e0.bs b o e).1;have lim:s.heap.NoLimit:=e0.mod.nolimit.keeps λb o e=>(e0.bs b o e).1;have hkind:∀y∈ps.zip us,scope.names.lookup y.1=some .local∨(scope.names.lookup y.1=some .cell/\((cellsFrom (s.heap.objs.size+1) scope.names []).lookup y.1).isSome=true):=λ⟨n,v⟩ hy=>by
  rcases S.par n (List.of_mem_zip hy).1 with q | q
  ·exact .inl q
  ·exact .inr ⟨q,PySem.W.cellsFrom_some _ _ _ (.inl q)⟩
 refine codeAny_call_function hr.depth (KX _ _ lk) rfl S.co S.gen rfl (PySem.W.codeRec_of KX hcd) (hb _ _ _ _ ?_);refine wpAny_newFunctionEnv_cells S.kind hkind λenv he s1 x=>?_;subst he;refine⟨lim.keeps x.toInCall.keep,codeAny_func ?_⟩;obtain⟨t,ht,hq⟩:=hbody A outer s H vs Q E (hr.deeper _) hsp;have I:aJ (dq CX P w K mg base N qual scope f cdv A outer s H E) [] (start N vs) H s1:=qP S hr.hd e0 hl r x;refine wpAny_mono (ht [] s1 (start N vs) H _ I hq) (λfl s' hs=>?_) λe s' hs=>hs;have fin:∀{σ':St} {H':Hp} {v:V} {u:Value},aJ (dq CX P w K mg base N qual scope f cdv A outer s H E) [] σ' H' s'->bo v u->Q v H'->CE outer P w H s Q u s':=
  λ{σ' H' v u} J rv q=>⟨v,H',J.os,J.bare,J.base,J.hok,rv,q⟩
 cases fl with
 | ret u=>
   obtain⟨v,σ',H',J,rv,q⟩:=hs;exact fin J rv q
 | next=>
   obtain⟨σ',H',J,q⟩:=hs;exact fin (v:=V.non) (u:=Value.none) J rfl q
 | brk=>
   obtain⟨_,_,_,q⟩:=hs;exact False.elim q
 | cont=>
   obtain⟨_,_,_,q⟩:=hs;exact False.elim q
section
variable {X:Cx} {x:Str} {p pos:Pos} {e:Expr} {es:List Expr} {t:TA} {id T:String} {r:List V->Hp->VK->Prop}
noncomputable def DG (r:List V->Hp->VK->Prop) (t:TA):TE:=λσ H Q=>t σ H λvs H1=>r vs H1 Q
theorem iP (hc:fM X (.builtin id) r) (hg:Gl X x) (hm:X.mg x=none) (hv:bootBuiltins x=some (.builtin id)) (ha:PA X (e::es) t) (hn:x≠"__name__":=by decide) (hdb:(x==("__debug__":Str))=false:=by decide)
 (he:starEach (e::es) X.env=(false,eval e X.env)::starEach es X.env:=by rfl) (hpl:(backTo pos (starEach es X.env)).any (·.1)=false:=by rfl):PE X (.Call (.Name x p) (e::es) [] pos) (DG r t):=by
 intro π s σ H Q I h;refine wpAny_Call_Name_kw (iL I hg hm hv ?_ hn hdb);exact PyProof.Rows.callWith_builtin1 (ca (ha pos π s σ H _ I h) λus s1 ⟨vs,H1,I1,r1,q1⟩=>hc π s1 σ H1 vs us Q I1 r1 q1) he hpl
theorem qQ (hc:fM X (.type T) r) (hg:Gl X x) (hm:X.mg x=none) (hv:bootBuiltins x=some (.type T)) (ha:PA X (e::es) t) (hn:x≠"__name__":=by decide) (hdb:(x==("__debug__":Str))=false:=by decide)
 (he:starEach (e::es) X.env=(false,eval e X.env)::starEach es X.env:=by rfl) (hpl:(backTo pos (starEach es X.env)).any (·.1)=false:=by rfl):PE X (.Call (.Name x p) (e::es) [] pos) (DG r t):=by
 intro π s σ H Q I h;refine wpAny_Call_Name_kw (iL I hg hm hv ?_ hn hdb);exact PyProof.Rows.callWith_type1 (ca (ha pos π s σ H _ I h) λus s1 ⟨vs,H1,I1,r1,q1⟩=>hc π s1 σ H1 vs us Q I1 r1 q1) he hpl
end
end L2
namespace HT
open PySem PyProof.Rows
theorem rcLt_int (A:Around) (s:Shared) (a:Int) (t:Tok) (c:Int) (u:Tok) (prog:Program) (w:World) (E:yey) (Q:yey) (h:Q (.bool (decide (a<c))) s):
 wpAny (model prog w) A (richCompare .Lt (.int a t) (.int c u)) Q E s:=
 (PyProof.Rows.lt_int h:wpAny (model prog w) A (compareOp .Lt (.int a t) (.int c u)) Q E s)
section
open PySem.SeqAt
open PySem.AutoSeq1 (wpAny_loadPart')
open PySem.MeetsSeq PySem.MeetsSeq2 PySem.MeetsSeq3
end
section
variable {prog:Program} {w:World} {A:Around} {E:yey} {s:Shared}
theorem cat_tup {t b:Addr} {vs ws:yez} (ht:IsTup s.heap t vs.toArray) (hb:IsTup s.heap b ws.toArray) (hv:vs≠[])
 (h1:ws=[]->Q (.ref t) s) (h2:ws≠[]->Q (.ref s.heap.objs.size) { s with heap:=s.heap.push { cls:= .type "tuple",data:= .seq (vs++ws).toArray } })
 (hsz:vs.length+ws.length<=sizeLine):wpAny (model prog w) A (binaryOp .Add (.ref t) (.ref b)) Q E s:=by
 obtain⟨⟨cls,dd,data,sl⟩,ho,hc,n,hd⟩:=id ht;obtain⟨⟨cls2,dd2,data2,sl2⟩,ho2,hc2,n2,hd2⟩:=id hb;simp only at hc hd hc2 hd2;subst hc hd hc2 hd2;have e:vs.toArray++ws.toArray=(vs++ws).toArray:=by simp
 by_cases hw:ws=[]
 ·exact concat_meets ⟨_,ho,rfl⟩ ⟨_,ho2,rfl⟩ noFill_tuple_add seq_tuple_add PySem.F.slot_tuple_add PySem.F.entry_tuple_add (PySem.F.args_tuple_add_2 _ _)
   (tuple_addW1 t b vs.toArray ws.toArray n n2 dd dd2 sl sl2 (by simpa using hv) (by simp[hw])) ⟨ho,ho2,h1 hw⟩
 ·refine concat_meets ⟨_,ho,rfl⟩ ⟨_,ho2,rfl⟩ noFill_tuple_add seq_tuple_add PySem.F.slot_tuple_add PySem.F.entry_tuple_add (PySem.F.args_tuple_add_2 _ _)
   (tuple_addW2 t b vs.toArray ws.toArray n n2 dd dd2 sl sl2 (by simpa using hv) (by simpa using hw) (by rw[size_toArray,size_toArray];exact hsz)) ⟨ho,ho2,?_⟩
  rw[e];exact h2 hw
noncomputable def sIx (n d:Nat):Option Int->Nat
 | none=>d
 | some v=>if v<0 then (v+(n:Int)).toNat else min v.toNat n
theorem sIx_none (n d:Nat):sIx n d none=d:=rfl
theorem sIx_nat (n d k:Nat):sIx n d (some (k:Int))=min k n:=by
 show(if (k:Int)<0 then ((k:Int)+(n:Int)).toNat else min (k:Int).toNat n)=min k n;rw[ycw (by lia),Int.toNat_natCast]
theorem yX (n d:Nat) (hd:d<=n) (o:Option Int):sIx n d o<=n:=by
 cases o with
 | none=>exact hd
 | some v=>
   show(if v<0 then (v+(n:Int)).toNat else min v.toNat n)<=n
   by_cases hv:v<0
   ·rw[ycv hv];lia
   ·rw[ycw hv];exact Nat.min_le_right _ _
theorem o5 (v:Int) (n d:Nat):(if v<0 then max (v+(n:Int)) 0 else min v (n:Int))=((sIx n d (some v):Nat):Int):=by
 show(if v<0 then max (v+(n:Int)) 0 else min v (n:Int))=(((if v<0 then (v+(n:Int)).toNat else min v.toNat n):Nat):Int)
 by_cases hv:v<0
 ·simp only[ycv hv];(clear hv;lia)
 ·simp only[ycw hv];lia
theorem nS (lo hi:Option Int) (n:Nat):Builtin.Slice.sliceAdjust lo hi 1 (n:Int)=(((sIx n 0 lo:Nat):Int),((sIx n n hi:Nat):Int)):=by
 have h1:¬((1:Int)<0):=by lia
 unfold Builtin.Slice.sliceAdjust;simp only[h1,if_false];refine Prod.ext ?_ ?_
 ·cases lo with
  | none=>rfl
  | some v=>exact o5 v n 0
 ·cases hi with
  | none=>rfl
  | some v=>exact o5 v n n
theorem nU (i j:Nat):Builtin.Slice.slicePlaces (i:Int) (j:Int) 1=j-i:=by
 unfold Builtin.Slice.slicePlaces;have h1:(1:Int) > 0:=by lia
 simp only[h1,if_true,Int.ediv_one];split<;> (clear h1;lia)
theorem iQ {v:Value} {o:Option Int} {Q:Option Int->Shared->Prop} (p:IsPart v o) (h:Q o s):wpAny (model prog w) A (Builtin.Slice.slicePartIndex v) Q E s:=by
 cases p with
 | none=>exact slicePart_none h
 | int i t=>exact slicePart_int h
theorem sliceApplied_gen {sl:Addr} {vl vu:Value} {lo hi:Option Int} {n:Nat} {Q:Int×Int×Nat->Shared->Prop} (hs:s.heap.IsSliceOf sl vl vu .none) (pl:IsPart vl lo) (pu:IsPart vu hi)
 (h:Q (((sIx n 0 lo:Nat):Int),1,sIx n n hi-sIx n 0 lo) s):wpAny (model prog w) A (Builtin.Slice.sliceApplied (.ref sl) (pure (n:Int))) Q E s:=by
 obtain⟨os,hos,hcs,hds⟩:=id hs;unfold Builtin.Slice.sliceApplied Builtin.Slice.sliceFields;refine wax (wax (wpAny_field hos hds (x:=vl) rfl (wax (wpAny_field hos hds (x:=vu) rfl (wax (wpAny_field hos hds (x:= .none) rfl (wpAny_pure ?_)))))));refine wax (slicePart_none ?_);show wpAny _ _ (if ((1:Int)==0)=true then _ else _) _ _ s;rw[ycw (by decide)];refine wax (iQ pl (wax (iQ pu (wax (wpAny_pure ?_)))));show wpAny _ _ (match Builtin.Slice.sliceAdjust lo hi 1 (n:Int) with | (lo,hi)=>pure (lo,(1:Int),Builtin.Slice.slicePlaces lo hi 1)) _ _ s;rw[nS lo hi n];show wpAny _ _ (pure (((sIx n 0 lo:Nat):Int),(1:Int),Builtin.Slice.slicePlaces ((sIx n 0 lo:Nat):Int) ((sIx n n hi:Nat):Int) 1)) _ _ s;rw[nU];exact wpAny_pure h
theorem sF (xs:Array Value) (i k:Nat):((List.range k).filterMap λ(m:Nat)=>xs[((i:Int)+(m:Int)*1).toNat]?).toArray=((xs.toList.drop i).take k).toArray:=by
 have e:(λ(m:Nat)=>xs[((i:Int)+(m:Int)*1).toNat]?)=λm=>xs[i+m]?:=by
  funext m
  have:((i:Int)+(m:Int)*1).toNat=i+m:=by lia
  rw[this]
 rw[e];have:=pick_run xs i k;rw[List.filterMap_map] at this;have e2:((λx=>xs[x]?) ∘ λx=>i+x)=λm=>xs[i+m]?:=rfl;rw[e2] at this;rw[this]
theorem getItem_tuple_cut {t sl:Addr} {vl vu:Value} {lo hi:Option Int} (ht:IsTup s.heap t items) (hs:s.heap.IsSliceOf sl vl vu .none) (pl:IsPart vl lo) (pu:IsPart vu hi)
 (hw:¬(sIx items.size 0 lo=0/\sIx items.size items.size hi=items.size))
 (h:Q (.ref s.heap.objs.size) { s with heap:=s.heap.push { cls:= .type "tuple",data:= .seq ((items.toList.drop (sIx items.size 0 lo)).take (sIx items.size items.size hi-sIx items.size 0 lo)).toArray } })
 (hsz:items.size<=sizeLine):wpAny (model prog w) A (getItem (.ref t) (.ref sl)) Q E s:=by
 have htake:sizeOk (.seq ((items.toList.drop (sIx items.size 0 lo)).take (sIx items.size items.size hi-sIx items.size 0 lo)).toArray):=by
  show((items.toList.drop (sIx items.size 0 lo)).take (sIx items.size items.size hi-sIx items.size 0 lo)).toArray.size<=sizeLine;rw[size_toArray,length_take,length_drop,Array.length_toList]
  (clear hw;lia)
 have hj:sIx items.size items.size hi<=items.size:=yX _ _ (ycx _) hi;obtain⟨os,hos,hcs,hds⟩:=id hs;have hTs:s.TypeIs (.ref sl) "slice":=⟨os,hos,hcs⟩;unfold getItem
 try with_reducible refine wpAny_holding ?_
 first | refine wax (wpAny_pure ?_) | skip
 refine wax (wpAny_sequenceKey ht.typeIs (by decide) ?_);refine wax (wpAny_callSpecial?_slot (name:=Str.ofString "__getitem__") ht.typeIs PyProof.Rows.slot_tuple_getitem
  (wpAny_call_entry PyProof.Rows.slot_tuple_getitem ht.typeIs entry_tuple_getitem ?_ (args_tuple_getitem _ _)))
 show wpAny _ _ (Builtin.Tuple.tupleItemsOf (.ref t) >>= _) _ _ s;refine wax (tupleItemsOf_ ht ?_);refine wax (wpAny_typeOf hTs ?_);rw[ycv (by decide)];refine wax (sliceApplied_gen hs pl pu ?_);have hno:¬((((sIx items.size 0 lo:Nat):Int)==0&&(1:Int)==1&&(sIx items.size items.size hi-sIx items.size 0 lo)==items.size)=true):=by
  intro q;rw[Bool.and_eq_true,Bool.and_eq_true] at q;have q1:((sIx items.size 0 lo:Nat):Int)=0:=eq_of_beq q.1.1;have q2:sIx items.size items.size hi-sIx items.size 0 lo=items.size:=eq_of_beq q.2;exact hw ⟨by (clear hw hsz hj q2;lia),by (clear hw hsz;lia)⟩
 show wpAny _ _ (if (((sIx items.size 0 lo:Nat):Int)==0&&(1:Int)==1&&(sIx items.size items.size hi-sIx items.size 0 lo)==items.size)=true then _ else _) _ _ s;rw[ycw hno,sF]
 first
  | exact wax (m:=Builtin.Tuple.tupleExact _) (wpAny_newObj_type (wpAny_pure ⟨_,rfl,wpAny_pure h⟩) htake)
  | exact wax (m:=Builtin.Tuple.tupleExact _) (wpAny_newObj_type (wax (wpAny_pure (wpAny_pure ⟨_,rfl,wpAny_pure h⟩))) htake)
  | exact wax (wax (m:=Builtin.Tuple.tupleExact _) (wpAny_newObj_type (wpAny_pure (wpAny_pure ⟨_,rfl,wpAny_pure h⟩)) htake))
  | exact wax (wax (m:=Builtin.Tuple.tupleExact _) (wpAny_newObj_type (wpAny_pure ⟨_,rfl,wpAny_pure h⟩) htake))
end
end HT
namespace L2
open PySem PySem.Spec PyProof.Rows
noncomputable abbrev TO:=St->Hp->(Option Int->Hp->Prop)->Prop
noncomputable def PO (X:Cx) (e:Option Expr) (t:TO):Prop:=
 ∀(π:List (Addr×Obj)) (s:Shared) (σ:St) (H:Hp) (Q:Option Int->Hp->Prop),aJ X π σ H s->t σ H Q->
  wpAny (model X.prog X.w) X.A (evalPart e X.env) (λu s'=>∃o H',aJ X π σ H' s'/\IsPart u o/\Q o H') X.xe s
noncomputable def vv:TO:=λ_ H Q=>Q none H
noncomputable def AT (t:TE):TO:=λσ H Q=>t σ H λx H1=>∃i,x=.int i/\Q (some i) H1
theorem intsAre_of {ns:List Int}:∀{us:yez},aY (ns.map V.int) us->IntsAre us ns:=by
 induction ns with
 | nil=>intro us r;rw[map_nil] at r;cases r;exact .nil
 | cons n ns ih=>
   intro us r;rw[map_cons] at r;cases r with
   | cons r1 r2=>
     obtain⟨t,e⟩:=r1;subst e;exact .cons n t (ih r2)
section
variable {X:Cx} {e:Expr} {te:TE} {lo hi:Option Expr} {tl th:TO} {pos p2:Pos}
theorem po_none:PO X none vv:=by
 intro π s σ H Q I h;rw[evalPart_none];exact wpAny_pure ⟨none,H,I,.none,h⟩
theorem vw (h:PE X e te):PO X (some e) (AT te):=by
 intro π s σ H Q I hw;rw[evalPart_some];refine ca (h π s σ H _ I hw) λu s1 z9=>?_;obtain⟨x,H1,I1,r1,q1⟩:=z9;obtain⟨i,rfl,q⟩:=q1;obtain⟨t,rfl⟩:=r1;exact⟨some i,H1,I1,.int i t,q⟩
noncomputable def At (X:Cx) (r:V->Option Int->Option Int->Hp->VK->Prop):Prop:=
 ∀(π:List (Addr×Obj)) (s:Shared) (σ:St) (H:Hp) (x:V) (v vl vu:Value) (lo hi:Option Int) (sl:Addr) (Q:VK),aJ X π σ H s->bo x v->s.heap.IsSliceOf sl vl vu .none->IsPart vl lo->IsPart vu hi->r x lo hi H Q->
  ∃T id,typeLookup (.type T) "__getitem__"=pure (some (.builtin id))/\s.TypeIs v T/\wpAny (model X.prog X.w) X.A (getItem v (.ref sl)) (EP X π σ Q) X.xe s
noncomputable def FD (r:V->Option Int->Option Int->Hp->VK->Prop) (te:TE) (tl th:TO):TE:=λσ H Q=>te σ H λx H1=>tl σ H1 λl H2=>th σ H2 λu H3=>r x l u H3 Q
theorem lO {r:V->Option Int->Option Int->Hp->VK->Prop} (hr:At X r) (he:PE X e te) (hl:PO X lo tl) (hu:PO X hi th):PE X (.Subscript e (.Slice lo hi none p2) pos) (FD r te tl th):=by
 intro π s σ H Q I h;refine Subscript_ (ca (he π s σ H _ I h) λv s1 z9=>?_);obtain⟨x,H1,I1,r1,q1⟩:=z9;refine wpAny_Slice (ca (hl π s1 σ H1 _ I1 q1) λvl s2 ⟨l,H2,I2,pl,q2⟩=>ca (hu π s2 σ H2 _ I2 q2) λvu s3 z9=>?_);obtain⟨u,H3,I3,pu,q3⟩:=z9;rw[evalPart_none];refine wpAny_pure ?_;have I4:aJ X π σ H3 { s3 with heap:=s3.heap.push { cls:= .type "slice",data:= .fields #[vl,vu,.none] } }:=I3.kept (t':=s3.toks) λb ob q=>ybz _ q;obtain⟨T,id,hT,ht,hg⟩:=hr π { s3 with heap:=s3.heap.push { cls:= .type "slice",data:= .fields #[vl,vu,.none] } } σ H3 x v vl vu l u s3.heap.objs.size Q I4 r1 (Heap.IsSliceOf.new ..) pl pu q3;show wpAny (model X.prog X.w) X.A (subscriptTail e (.Slice lo hi none p2) v (.ref s3.heap.objs.size)) (EP X π σ Q) X.xe { s3 with heap:=s3.heap.push { cls:= .type "slice",data:= .fields #[vl,vu,.none] } };exact tail_any (ops:=[.ref s3.heap.objs.size,v]) ht hT hg (by with_unfolding_all rfl)
noncomputable def lP (xs:List V) (lo hi:Option Int):List V:=(xs.drop (HT.sIx xs.length 0 lo)).take (HT.sIx xs.length xs.length hi-HT.sIx xs.length 0 lo)
theorem ig (xs:List V) (lo hi:Option Int):(lP xs lo hi).length<=xs.length:=by
 unfold lP;rw[length_take,length_drop];lia
noncomputable def DH (K:yav):V->Option Int->Option Int->Hp->VK->Prop:=λx lo hi H Q=>∃a xs,x=.ref a/\dQ K H a xs/\
 ¬(HT.sIx xs.length 0 lo=0/\HT.sIx xs.length xs.length hi=xs.length)/\∀p,H p=none->Q (.ref p) (upd H p (.tup (lP xs lo hi)))
theorem yY:At X (DH X.K):=by
 intro π s σ H x v vl vu lo hi sl Q I rx hs pl pu h;obtain⟨a,xs,rfl,hx,hw,q⟩:=h;cases rx;obtain⟨its,r,ht,hz⟩:=I.tuple hx;have hlen:its.toArray.size=xs.length:=by rw[size_toArray];exact r.length.symm
 refine⟨"tuple",_,PyProof.Rows.slot_tuple_getitem.lookup,ht.typeIs,?_⟩;refine HT.getItem_tuple_cut ht hs pl pu (by rw[hlen];exact hw) ?_ (by rw[hlen];exact hz);rw[hlen];refine⟨.ref s.heap.objs.size,_,I.laid (t':=s.toks) (o:= .tup (lP xs lo hi)) (λb ob q=>ybz _ q) (ycx _) ?_,rfl,q _ (I.hok.fresh (ycx _))⟩;exact⟨ycy (ig xs lo hi) hz,_,(r.drop (HT.sIx xs.length 0 lo)).take (HT.sIx xs.length xs.length hi-HT.sIx xs.length 0 lo),IsTup.new _ _⟩
noncomputable def AU (K:yav):R2:=λx y H Q=>∃a b xs ys,x=.ref a/\y=.ref b/\dQ K H a xs/\dQ K H b ys/\xs≠[]/\xs.length+ys.length<=sizeLine/\
 (ys=[]->Q (.ref a) H)/\(ys≠[]->∀p,H p=none->Q (.ref p) (upd H p (.tup (xs++ys))))
theorem aY.nil_iff {xs:List V} (r:aY xs us):us=[]↔xs=[]:=by
 cases r with
 | nil=>simp
 | cons _ _=>simp
theorem vz:gt X (binaryOp .Add) (AU X.K):=by
 intro π s σ H x y v u Q I rx ry h;obtain⟨a,b,xs,ys,rfl,rfl,ha,hb,hx,hz,q1,q2⟩:=h;cases rx;cases ry;obtain⟨its,r1,p1,_⟩:=I.tuple ha;obtain⟨its2,r2,p2,_⟩:=I.tuple hb;refine HT.cat_tup p1 p2 (λz=>hx (r1.nil_iff.mp z)) (λz=>⟨.ref a,H,I,rfl,q1 (r2.nil_iff.mp z)⟩) (λz=>?_) (by rw[←r1.length,←r2.length];exact hz);refine⟨.ref s.heap.objs.size,_,I.laid (t':=s.toks) (o:= .tup (xs++ys)) (λb ob q=>ybz _ q) (ycx _) ?_,rfl,q2 (λw=>z (r2.nil_iff.mpr w)) _ (I.hok.fresh (ycx _))⟩;exact⟨by rw[length_append];exact hz,_,r1.append r2,IsTup.new _ _⟩
end
noncomputable def sG (n:Nat) (i:Int):Option Nat:=if 0<=i then (if i<n then some i.toNat else none) else if -(n:Int)<=i then some (i+n).toNat else none
noncomputable def ei {α:Type} (xs:List α) (i:Int):Option α:=(sG xs.length i).bind λj=>xs[j]?
theorem vA {n:Nat} {i:Int} {j:Nat} (h:sG n i=some j):seqIndex? i n=some j/\j<n/\-(n:Int)<=i/\i<n:=by
 unfold sG at h
 by_cases h0:0<=i
 ·rw[ycv h0] at h
  by_cases h1:i<n
  ·rw[ycv h1] at h;have e:i.toNat=j:=Option.some.inj h;exact⟨by rw[seqIndex_of h0 h1,e],by lia,by (clear h1 e;lia),h1⟩
  ·rw[ycw h1] at h;cases h
 ·rw[ycw h0] at h
  by_cases h1: -(n:Int)<=i
  ·rw[ycv h1] at h;have e:(i+n).toNat=j:=Option.some.inj h;exact⟨by rw[seqIndex_neg (by (clear h1 e;lia)) h1,e],by lia,h1,by (clear e;lia)⟩
  ·rw[ycw h1] at h;cases h
theorem kC {α:Type} {xs:List α} {i:Int} {v:α} (h:ei xs i=some v):∃j,seqIndex? i xs.length=some j/\xs[j]?=some v/\j<xs.length/\-(xs.length:Int)<=i/\i<xs.length:=by
 unfold ei at h;cases e:sG xs.length i with
 | none=>rw[e] at h;cases h
 | some j=>
   rw[e] at h;obtain⟨h1,h2,h3,h4⟩:=vA e;exact⟨j,h1,h,h2,h3,h4⟩
theorem ce {α:Type} {xs:List α} {j:Nat} {v:α} (h:xs[j]?=some v):ei xs (j:Int)=some v:=by
 have hj:j<xs.length:=(List.getElem?_eq_some_iff.mp h).1;have e:sG xs.length (j:Int)=some j:=by
  unfold sG;rw[ycv (by (clear h hj;lia)),ycv (by (clear h;lia))];simp
 unfold ei;rw[e];exact h
noncomputable def o6 (b:Expr):Prop:=∀o i,subscripted b false o i=operate [o,i] (getItem o i)
noncomputable def AV (X:Cx) (r:R2):Prop:=
 ∀(value slice:Expr) (π:List (Addr×Obj)) (s:Shared) (σ:St) (H:Hp) (x y:V) (v u:Value) (Q:VK),aJ X π σ H s->bo x v->bo y u->r x y H Q->
  subscripted slice false v u=operate [v,u] (getItem v u)->wpAny (model X.prog X.w) X.A (subscriptTail value slice v u) (EP X π σ Q) X.xe s
noncomputable def Dc (X:Cx) (id:String) (r:V->List V->Hp->VK->Prop):Prop:=
 ∀(π:List (Addr×Obj)) (s:Shared) (σ:St) (H:Hp) (x:V) (xs:List V) (v:Value) (us:yez) (Q:VK),aJ X π σ H s->bo x v->aY xs us->r x xs H Q->
  wpAny (model X.prog X.w) X.A (call (.builtin id) (v::us)) (EP X π σ Q) X.xe s
section
variable {X:Cx} {a b:Expr} {ta tb:TE} {pos:Pos}
theorem AW {r:R2} (hr:AV X r) (ha:PE X a ta) (hb:PE X b tb) (hs:o6 b):PE X (.Subscript a b pos) (AK r ta tb):=by
 intro π s σ H Q I h;exact Subscript_ (yL ha hb I h λv u s2 x y H2 I2 rx ry q=>hr a b π s2 σ H2 x y v u Q I2 rx ry q (hs _ _))
noncomputable def DI (K:yav):R2:=λx y H Q=>∃p xs i v,x=.ref p/\y=.int i/\dP K H p xs/\ei xs i=some v/\Q v H
noncomputable def DJ (K:yav):R2:=λx y H Q=>∃p xs i v,x=.ref p/\y=.int i/\dQ K H p xs/\ei xs i=some v/\Q v H
noncomputable def DK:R2:=λx y H Q=>∃z i c,x=.str z/\y=.int i/\z.length<=sizeLine/\ei z.cps.toList i=some c/\Q (.str ⟨#[c]⟩) H
theorem o7:AV X (DI X.K):=by
 intro value slice π s σ H x y v u Q I rx ry h hs;obtain⟨p,xs,i,z,rfl,rfl,hq,he,q⟩:=h;cases rx;obtain⟨t,rfl⟩:=ry;obtain⟨its,r,pl,hz⟩:=I.list hq;obtain⟨j,h1,h2,h3,h4,h5⟩:=kC he;obtain⟨w,ew,rw'⟩:=r.get h2;have hl:=r.length;have hn:=iN;have fin:EP X π σ Q w s:=⟨z,H,I,rw',q⟩
 by_cases h0:0<=i
 ·have hj:i.toNat=j:=by
   rw[seqIndex_of h0 h5] at h1;exact Option.some.inj h1
  exact item_listR pl.isList h0 (by (clear h2 h3 h4 ew h0 hj;lia)) (by rw[hj];simpa using ew) fin hs
 ·have hj:(i+(its.toArray.size:Int)).toNat=j:=by
   rw[seqIndex_neg (by (clear hz h2 h3 h4 h5 ew hl hn;lia)) h4] at h1;rw[size_toArray,←hl];exact Option.some.inj h1
  exact subscriptTail_builtinR (x:=w) pl.isList.typeIs slot_list_getitem.lookup
   (wpAny_getItem_list_neg (Q:=λr s'=>r=w/\EP X π σ Q r s') pl.isList (by (clear hz h2 h3 h4 h5 ew hl hn hj;lia)) (by rw[size_toArray]<;> (clear hz h2 h3 h5 ew hn h0 hj;lia)) (by (clear h2 h3 h5 ew h0 hj;lia)) (by rw[hj];simpa using ew) ⟨rfl,fin⟩) hs
theorem yZ:AV X (DJ X.K):=by
 intro value slice π s σ H x y v u Q I rx ry h hs;obtain⟨p,xs,i,z,rfl,rfl,hq,he,q⟩:=h;cases rx;obtain⟨t,rfl⟩:=ry;obtain⟨its,r,pl,hz⟩:=I.tuple hq;obtain⟨j,h1,h2,h3,h4,h5⟩:=kC he;obtain⟨w,ew,rw'⟩:=r.get h2;have hl:=r.length;have hn:=iN;have fin:EP X π σ Q w s:=⟨z,H,I,rw',q⟩;exact subscriptTail_builtinR (x:=w) pl.typeIs slot_tuple_getitem.lookup
  (getItem_tuple (j:=j) (Q:=λr s'=>r=w/\EP X π σ Q r s') pl (by (clear h2 h5 ew;lia)) (by (clear h2 h4 ew;lia)) (by rw[size_toArray,←hl];exact h1) (by simpa using ew) ⟨rfl,fin⟩) hs
theorem y0:AV X DK:=by
 intro value slice π s σ H x y v u Q I rx ry h hs;obtain⟨z,i,c,rfl,rfl,hz,he,q⟩:=h;obtain⟨t,rfl⟩:=rx;obtain⟨t',rfl⟩:=ry;obtain⟨j,h1,h2,h3,h4,h5⟩:=kC he;have hl:z.cps.toList.length=z.length:=by simp[Str.length]
 rw[hl] at h1 h4 h5;have hn:=iN;exact tail_any (typeIs_str s z t) slot_str_getitem.lookup (getItem_str (c:=c) (by
  have e1:decide (i< -(2^63:Int))=false:=ydy (by (clear h2 h3 h5;lia));have e2:decide (i≥2^63)=false:=ydy (by (clear h2 h3 h4 e1;lia));rw[e1,e2,Bool.or_false]) (by rw[h1];simpa using h2) ⟨.str ⟨#[c]⟩,H,I.tok _,⟨_,rfl⟩,q⟩) hs
theorem kD (lo hi:Option Int) (n:Nat):(sliceBounds lo hi none n).1=((HT.sIx n 0 lo:Nat):Int)/\(sliceBounds lo hi none n).2.1=((HT.sIx n n hi:Nat):Int)/\(sliceBounds lo hi none n).2.2=1:=by
 refine⟨?_,?_,rfl⟩
 ·cases lo with
  | none=>simp[sliceBounds,HT.sIx]
  | some i=>
    simp only[sliceBounds,HT.sIx,Option.getD_none,show(1:Int) > 0 by decide,if_true]
    by_cases h:i<0
    ·simp only[h,if_true]<;> lia
    ·simp only[h,if_false]<;> lia
 ·cases hi with
  | none=>simp[sliceBounds,HT.sIx]
  | some i=>
    simp only[sliceBounds,HT.sIx,Option.getD_none,show(1:Int) > 0 by decide,if_true]
    by_cases h:i<0
    ·simp only[h,if_true]<;> lia
    ·simp only[h,if_false]<;> lia
theorem js (its:yez) (lo hi:Option Int):slicePick its.toArray lo hi none=((its.drop (HT.sIx its.length 0 lo)).take (HT.sIx its.length its.length hi-HT.sIx its.length 0 lo)).toArray:=by
 obtain⟨h1,h2,h3⟩:=kD lo hi its.toArray.size;unfold slicePick;rw[h1,h2,h3];simp only[sliceRange_one,pick_run,size_toArray]<;> rfl
noncomputable def DL (K:yav):V->Option Int->Option Int->Hp->VK->Prop:=λx lo hi H Q=>∃a xs,x=.ref a/\dP K H a xs/\∀p,H p=none->Q (.ref p) (upd H p (.lst (lP xs lo hi)))
theorem o8:At X (DL X.K):=by
 intro π s σ H x v vl vu lo hi sl Q I rx hs pl pu h;obtain⟨a,xs,rfl,hx,q⟩:=h;cases rx;obtain⟨its,r,ht,hz⟩:=I.list hx;have hlen:=r.length;refine⟨"list",_,slot_list_getitem.lookup,ht.isList.typeIs,?_⟩;refine wpAny_getItem_list_slice ht.isList hs pl pu .none (by simp) ?_ (by rw[size_toArray]<;> lia);rw[js,←hlen];refine⟨.ref s.heap.objs.size,_,I.laid (t':=s.toks) (o:= .lst (lP xs lo hi)) (λb ob q=>ybz _ q) (ycx _) ?_,rfl,q _ (I.hok.fresh (ycx _))⟩;exact⟨ycy (ig xs lo hi) hz,_,0,(r.drop (HT.sIx xs.length 0 lo)).take (HT.sIx xs.length xs.length hi-HT.sIx xs.length 0 lo),ybw _ rfl⟩
theorem eO:fM X (.builtin "len") (λxs H Q=>∃p ys,xs=[.ref p]/\(dP X.K H p ys∨dQ X.K H p ys)/\Q (.int ys.length) H):=by
 intro π s σ H xs us Q I r h;obtain⟨p,ys,rfl,hq,q⟩:=h;obtain⟨u,rfl,rx⟩:=eg r;cases rx;have hn:=iN;rcases hq with hq | hq
 ·obtain⟨its,r',pl,hz⟩:=I.list hq;have hlen:=r'.length;exact Calls.call_len_list pl.isList (by simp only[size_toArray]<;> lia) ⟨.int ys.length,H,I.tok _,⟨s.toks+1,by rw[size_toArray,hlen]⟩,q⟩
 ·obtain⟨its,r',pl,hz⟩:=I.tuple hq;have hlen:=r'.length;exact len_tuple pl (by simp only[size_toArray]<;> lia) ⟨.int ys.length,H,I.tok _,⟨s.toks+1,by rw[size_toArray,hlen]⟩,q⟩
theorem kE:fM X (.builtin "len") (λxs H Q=>∃z,xs=[.str z]/\z.length<=sizeLine/\Q (.int z.length) H):=by
 intro π s σ H xs us Q I r h;obtain⟨z,rfl,hz,q⟩:=h;obtain⟨u,rfl,t,rfl⟩:=eg r;have hn:=iN;exact len_str (by lia) ⟨.int z.length,H,I.tok _,⟨_,rfl⟩,q⟩
theorem fN:fM X (.type "tuple") (λxs H Q=>∃p ys,xs=[.ref p]/\((dP X.K H p ys/\∀l,H l=none->Q (.ref l) (upd H l (.tup ys)))∨(dQ X.K H p ys/\Q (.ref p) H))):=by
 intro π s σ H xs us Q I r h;obtain⟨p,ys,rfl,h⟩:=h;obtain⟨u,rfl,rx⟩:=eg r;cases rx;rcases h with⟨hq,q⟩ | ⟨hq,q⟩
 ·obtain⟨its,r',pl,hz⟩:=I.list hq;have hlen:=r'.length;refine call_tuple_list pl.isList (λh' kp=>?_) (by simp only[size_toArray]<;> lia);have I1:aJ X π σ H { s with heap:=h' }:=I.kept (t':=s.toks) kp;have I2:aJ X π σ (upd H h'.objs.size (.tup ys)) { s with heap:=h'.push { cls:= .type "tuple",data:= .seq its.toArray } }:=
   I1.laid (t':=s.toks) (λb o e=>ybz _ e) (ycx _) (show ck X.prog X.w _ _ _ (.tup ys) from ⟨hz,its,r',IsTup.new _ _⟩)
  exact⟨.ref h'.objs.size,_,I2,rfl,q _ (I1.hok.fresh (ycx _))⟩
 ·obtain⟨its,r',pl,hz⟩:=I.tuple hq;exact call_tuple_same pl ⟨.ref p,H,I,rfl,q⟩
noncomputable def DM (K:yav) (T:String) (x:V) (H:Hp):Prop:=match x with
 | .str _=>T="str"
 | .int _=>T="int"
 | .ref p=>(T="list"/\∃xs,dP K H p xs)∨(T="tuple"/\∃o,K.lookup p=some o/\o.cls=.type "tuple"/\o.dict=none)∨
    (T="dict"/\((∃kvs,H p=some (.dK kvs))∨∃kvs,H p=some (.dT kvs)))∨(T="set"/\∃S n,H p=some (.set S n))
 | _=>False
theorem sH {σ:St} {H:Hp} {T:String} {x:V} {v:Value} (I:aJ X π σ H s) (r:bo x v) (ty:DM X.K T x H):
 s.TypeIs v T/\∀a,v=.ref a->∃ob,s.heap.get? a=some ob/\ob.dict=none:=by
 cases x with
 | str z=>
   obtain⟨t,rfl⟩:=r;cases (show T="str" from ty);exact⟨typeIs_str s z t,λ_ e=>nomatch e⟩
 | int i=>
   obtain⟨t,rfl⟩:=r;cases (show T="int" from ty);exact⟨typeIs_int s i t,λ_ e=>nomatch e⟩
 | ref p=>
   cases r;rcases ty with⟨rfl,xs,hq⟩ | ⟨rfl,o,hk,hc,hd⟩ | ⟨rfl,hk⟩ | ⟨rfl,S,n,hk⟩
   ·obtain⟨its,_,pl,_⟩:=I.list hq;refine⟨pl.isList.typeIs,λa e=>?_⟩;cases e;obtain⟨o,n,e,c,hd,_⟩:=pl;exact⟨o,e,hd⟩
   ·refine⟨⟨o,I.kIn p o hk,hc⟩,λa e=>?_⟩;cases e;exact⟨o,I.kIn _ o hk,hd⟩
   ·have z:∃o,s.heap.get? p=some o/\o.ExactDict:=by
     rcases hk with⟨kvs,hk⟩ | ⟨kvs,hk⟩
     ·obtain⟨_,_,_,_,o,_,_,e,ex,_⟩:=I.hok p _ hk;exact⟨o,e,ex⟩
     ·obtain⟨_,_,_,_,o,_,_,e,ex,_⟩:=I.hok p _ hk;exact⟨o,e,ex⟩
    obtain⟨o,e,ex⟩:=z;refine⟨⟨o,e,ex.1⟩,λa e2=>?_⟩;cases e2;exact⟨o,e,ex.2.1⟩
   ·obtain⟨o,_,_,_,e,ex,_⟩:=I.hok p _ hk;refine⟨⟨o,e,ex.1⟩,λa e2=>?_⟩;cases e2;exact⟨o,e,ex.2.1⟩
 | _=>exact False.elim ty
noncomputable def DN (K:yav) (T:String) (r:V->List V->Hp->VK->Prop) (to:TE):TE:=λσ H Q=>to σ H λx H1=>DM K T x H1/\r x [] H1 Q
noncomputable def FE (K:yav) (T:String) (r:V->List V->Hp->VK->Prop) (to:TE) (t:TA):TE:=λσ H Q=>to σ H λx H1=>DM K T x H1/\t σ H1 λxs H2=>r x xs H2 Q
variable {o e:Expr} {es:List Expr} {to:TE} {t:TA} {name:Str} {apos cpos:Pos} {T id:String} {r:V->List V->Hp->VK->Prop}
theorem y3 (pa:PlainAttrs T) (slot:Slot T name id) (hty:typeOf (.builtin id)=pure (.type "method_descriptor")) (hm:Dc X id r) (ho:PE X o to)
 (hbase:attributeBase o name X.env (eval o X.env)=eval o X.env:=by rfl) (hline:(apos.endLine==cpos.line)=true:=by rfl):PE X (.Call (.Attribute o name apos) [] [] cpos) (DN X.K T r to):=by
 intro π s σ H Q I h;refine wpAny_Call_method0_late hbase hline (ca (ho π s σ H _ I h) λv s1 z9=>?_);obtain⟨x,H1,I1,r1,ty,q1⟩:=z9;obtain⟨h1,h2⟩:=sH I1 r1 ty;exact⟨T,id,pa,slot,hty,h1,h2,Calls.callWith_builtin rfl (PySem.evalArgs_none (hm π s1 σ H1 x [] v [] Q I1 r1 .nil q1))⟩
theorem o9 (pa:PlainAttrs T) (slot:Slot T name id) (hty:typeOf (.builtin id)=pure (.type "method_descriptor")) (hm:Dc X id r) (ho:PE X o to) (ha:PA X (e::es) t)
 (hbase:attributeBase o name X.env (eval o X.env)=eval o X.env:=by rfl)
 (hfew:((backTo cpos (starEach (e::es) X.env)).all (λx=>!x.1)&&(backToKw cpos (keywordEach [] X.env)).all (λx=>x.1.isSome)
   &&decide ((e::es).length+([]:List Keyword).length+(if ([]:List Keyword).isEmpty then 0 else 1)<30))=true:=by rfl)
 (hline:(apos.endLine==cpos.line)=true:=by rfl) (hs:starEach (e::es) X.env=(false,eval e X.env)::starEach es X.env:=by rfl) (hplain:(backTo cpos (starEach es X.env)).any (·.1)=false:=by rfl):
 PE X (.Call (.Attribute o name apos) (e::es) [] cpos) (FE X.K T r to t):=by
 intro π s σ H Q I h;refine wpAny_Call_method_late hbase hfew hline rfl (ca (ho π s σ H _ I h) λv s1 z9=>?_);obtain⟨x,H1,I1,r1,ty,q1⟩:=z9;obtain⟨h1,h2⟩:=sH I1 r1 ty;refine⟨T,id,pa,slot,hty,h1,h2,?_⟩;have hA:=ha cpos π s1 σ H1 _ I1 q1;rw[hs] at hA ⊢;refine Calls.callWith_builtin (by show(false||(backTo cpos (starEach es X.env)).any (·.1))=false;rw[hplain]<;> rfl) (Calls.evalArgs_plain ?_);exact ca hA λus s2 ⟨vs,H2,I2,r2,q2⟩=>hm π s2 σ H2 x vs v us Q I2 r1 r2 q2
end
noncomputable def DO (X:Cx) (id:String) (r:V->List V->Hp->VK->Prop):Prop:=
 ∀(π:List (Addr×Obj)) (s:Shared) (σ:St) (H:Hp) (x:V) (xs:List V) (v:Value) (us:yez) (Q:VK),aJ X π σ H s->bo x v->aY xs us->r x xs H Q->
  wpAny (model X.prog X.w) X.A (call (.builtin id) (v::us)) (EP X π σ Q) X.xe s
theorem aY.one:∀{x:V} {us:yez},aY [x] us->∃u,us=[u]/\bo x u
 | _,_,.cons r .nil=>⟨_,rfl,r⟩
theorem aY.zero:∀{us:yez},aY [] us->us=[]
 | _,.nil=>rfl
theorem aY.dropLast {xs:List V} (h:aY xs us):aY xs.dropLast us.dropLast:=by
 induction h with
 | nil=>exact .nil
 | cons r t ih=>
   cases t with
   | nil=>exact .nil
   | cons q t'=>exact .cons r ih
theorem aY.rep {xs:List V} {us:yez} (h:aY xs us):∀k:Nat,aY (List.replicate k xs).flatten (List.replicate k us).flatten
 | 0=> .nil
 | k+1=>by
   rw[replicate_succ,replicate_succ,flatten_cons,flatten_cons];exact aY.append h (aY.rep h k)
theorem nV {α:Type} (l:List α):l.eraseIdx (l.length-1)=l.dropLast:=by
 induction l with
 | nil=>rfl
 | cons a r ih=>
   cases r with
   | nil=>rfl
   | cons b r=>
     have e:(a::b::r).length-1=((b::r).length-1)+1:=by
      have h1:(a::b::r).length=r.length+2:=rfl;have h2:(b::r).length=r.length+1:=rfl;assumption
     rw[e,List.eraseIdx_cons_succ,ih]
     all_goals rfl
theorem gS (its:yez):∀(k:Nat) (acc:yez),
 List.foldl (λx1 x2=>x1++x2) acc.toArray (List.replicate k its.toArray)=(acc++(List.replicate k its).flatten).toArray
 | 0,acc=>by simp
 | k+1,acc=>by
   have e:acc.toArray++its.toArray=(acc++its).toArray:=by simp
   have e2:(acc++its)++(List.replicate k its).flatten=acc++(List.replicate (k+1) its).flatten:=by
    rw[replicate_succ,flatten_cons,append_assoc]
   rw[←e2,←gS its k (acc++its),←e,replicate_succ,foldl_cons]
section
variable {X:Cx} {π:List (Addr×Obj)} {σ:St} {H:Hp} {s:Shared} {l b:Addr} {xs ys zs:List V}
theorem aJ.lset {its its':yez} {n:Nat} {f:Array Value->Array Value} {t':Nat} (I:aJ X π σ H s) (hH:H l=some (.lst xs))
 (e:s.heap.get? l=some { cls:= .type "list",data:= .seq its.toArray n }) (hf:f its.toArray=its'.toArray) (hv:aY ys its') (hz:ys.length<=sizeLine):
 aJ X π σ (upd H l (.lst ys)) { s with heap:=s.heap.update l (Obj.mapSeq f),toks:=t' }:=by
 have q:=PySem.IsL.update e f;rw[hf] at q;refine I.write (x:=l) (e:=l) (by rw[hH];exact trivial) (.inl rfl) (λb' u hb hu=>(Heap.get?_update_other s.heap (Obj.mapSeq f) (Ne.symm hb)).trans hu) ⟨_,q⟩ ?_;exact⟨hz,its',_,hv,q⟩
theorem aJ.lnew {its:yez} {t':Nat} (I:aJ X π σ H s) (hv:aY ys its) (hz:ys.length<=sizeLine):
 aJ X π σ (upd H s.heap.objs.size (.lst ys)) { s with heap:=s.heap.push { cls:= .type "list",data:= .seq its.toArray },toks:=t' }:=
 I.laid (λ_ _ q=>ybz _ q) (ycx _) ⟨hz,its,0,hv,ybw _ rfl⟩
theorem aJ.fresh (I:aJ X π σ H s):H s.heap.objs.size=none:=I.hok.fresh (ycx _)
theorem aJ.lstM (I:aJ X π σ H s) (hH:H l=some (.lst xs)):xs.length<=sizeLine/\∃(its:yez) (n:Nat),aY xs its/\xs.length=its.length/\s.heap.get? l=some { cls:= .type "list",data:= .seq its.toArray n }:=by
 obtain⟨z,its,n,r,e⟩:=I.hok l _ hH;exact⟨z,its,n,r,r.length,e⟩
theorem lQ {n:Nat} (h:n<=sizeLine):Builtin.List.listTooLong n=false:=by
 unfold Builtin.List.listTooLong;exact ydy (by lia)
end
section
variable {X:Cx}
noncomputable def vB:V->List V->Hp->VK->Prop:=λx vs H Q=>∃l xs y,x=.ref l/\vs=[y]/\H l=some (.lst xs)/\xs.length<sizeLine/\Q .non (upd H l (.lst (xs++[y])))
theorem qR:DO X "list.append" vB:=by
 intro π s σ H x vs v us Q I rx rv h;obtain⟨l,xs,y,rfl,rfl,hH,hz,q⟩:=h;cases rx;obtain⟨u,rfl,ru⟩:=rv.one;obtain⟨z,its,n,r,hl,e⟩:=I.lstM hH;refine call_meets F.slot_list_append ⟨_,e,rfl⟩ F.entry_list_append (F.args_list_append_2 _ _) (PySem.list_append l its.toArray n u (by rw[size_toArray];(clear z;lia))) ⟨e,?_⟩;refine⟨.non,_,I.lset (its':=its++[u]) hH e (by simp) (r.append (.cons ru .nil)) ?_,rfl,q⟩;rw[length_append,length_singleton];assumption
noncomputable def vC:V->List V->Hp->VK->Prop:=λx vs H Q=>∃l b xs zs,x=.ref l/\vs=[.ref b]/\H l=some (.lst xs)/\H b=some (.lst zs)/\xs.length+zs.length<=sizeLine/\Q .non (upd H l (.lst (xs++zs)))
theorem qS:DO X "list.extend" vC:=by
 intro π s σ H x vs v us Q I rx rv h;obtain⟨l,b,xs,zs,rfl,rfl,hH,hB,hz,q⟩:=h;cases rx;obtain⟨u,rfl,ru⟩:=rv.one;cases ru;obtain⟨z,its,n,r,hl,e⟩:=I.lstM hH;obtain⟨z2,its2,n2,r2,hl2,e2⟩:=I.lstM hB;have hsz:its.toArray.size+its2.toArray.size<=sizeLine:=by rw[size_toArray,size_toArray];(clear z z2;lia)
 have hlong:¬(!its.toArray.isEmpty&&Builtin.List.listTooLong (its.toArray.size+its2.toArray.size))=true:=by
  rw[lQ hsz,Bool.and_false];exact ydx
 refine call_meets F.slot_list_extend ⟨_,e,rfl⟩ F.entry_list_extend (F.args_list_extend_2 _ _)
  (AutoSeq1.list_extend_list_list_0 l its.toArray n b its2.toArray n2 hlong (by rw[size_toArray];(clear hz z2 hl2 hsz;lia)) (by lia)) ⟨e,e2,?_⟩
 refine⟨.non,_,I.lset (its':=its++its2) hH e (by simp) (r.append r2) ?_,rfl,q⟩;rw[length_append];assumption
noncomputable def DQ:V->List V->Hp->VK->Prop:=λx vs H Q=>∃l xs y,x=.ref l/\vs=[]/\H l=some (.lst xs)/\xs[xs.length-1]?=some y/\Q y (upd H l (.lst xs.dropLast))
theorem y4:DO X "list.pop" DQ:=by
 intro π s σ H x vs v us Q I rx rv h;obtain⟨l,xs,y,rfl,rfl,hH,hy,q⟩:=h;cases rx;have hus:=rv.zero;subst hus;obtain⟨z,its,n,r,hl,e⟩:=I.lstM hH;obtain⟨u,hu,ru⟩:=r.get hy;have hy':its.toArray[its.toArray.size-1]?=some u:=by
  show its.toArray[its.length-1]?=some u;rw[←Array.getElem?_toList,←hl];exact hu
 refine call_meets F.slot_list_pop ⟨_,e,rfl⟩ F.entry_list_pop (F.args_list_pop_1 _) (MeetsSeq.list_pop_last l its.toArray n u hy' (by rw[size_toArray];(clear hy hu hy';lia))) ⟨e,?_⟩;refine⟨y,_,I.lset (its':=its.dropLast) hH e ?_ r.dropLast ?_,ru,q⟩
 ·show its.toArray.eraseIdxIfInBounds (its.toArray.size-1)=its.dropLast.toArray;rw[size_toArray,List.eraseIdxIfInBounds_toArray,nV]
 ·rw[List.length_dropLast]
  (clear hy hu hy';lia)
noncomputable def DR:R2:=λx y H Q=>∃l b xs zs,x=.ref l/\y=.ref b/\H l=some (.lst xs)/\H b=some (.lst zs)/\xs.length+zs.length<=sizeLine/\∀p,H p=none->Q (.ref p) (upd H p (.lst (xs++zs)))
theorem y6:gt X (binaryOp .Add) DR:=by
 intro π s σ H x y v u Q I rx ry h;obtain⟨l,b,xs,zs,rfl,rfl,hH,hB,hz,q⟩:=h;cases rx;cases ry;obtain⟨z,its,n,r,hl,e⟩:=I.lstM hH;obtain⟨z2,its2,n2,r2,hl2,e2⟩:=I.lstM hB;refine PySem.P.add_list e e2 ?_ (by rw[size_toArray,size_toArray];(clear z z2;lia));have ea:its.toArray++its2.toArray=(its++its2).toArray:=by simp
 rw[ea];exact⟨.ref _,_,I.lnew (t':=s.toks) (r.append r2) (by rw[length_append];assumption),rfl,q _ I.fresh⟩
noncomputable def DS:R2:=λx y H Q=>∃l k xs,x=.ref l/\y=.int k/\H l=some (.lst xs)/\-(2^63)<=k/\k<2^63/\xs.length*k.toNat<=sizeLine/\
 ∀p,H p=none->Q (.ref p) (upd H p (.lst (List.replicate k.toNat xs).flatten))
theorem iz {α:Type} (xs:List α) (k:Nat):(List.replicate k xs).flatten.length=k*xs.length:=by
 induction k with
 | zero=>simp
 | succ k ih=>rw[replicate_succ,flatten_cons,length_append,ih,Nat.succ_mul,Nat.add_comm]
theorem y7:gt X (binaryOp .Mult) DS:=by
 intro π s σ H x y v u Q I rx ry h;obtain⟨l,k,xs,rfl,rfl,hH,h1,h2,hz,q⟩:=h;cases rx;obtain⟨t,rfl⟩:=ry;obtain⟨z,its,n,r,hl,e⟩:=I.lstM hH;have hlen:its.toArray.size*k.toNat<=sizeLine:=by rw[size_toArray,←hl];exact hz
 have hcap:¬its.toArray.size*k.toNat > (2^63-1)/8:=by
  have:(sizeLine:Nat)<=(2^63-1)/8:=by decide
  (clear h1 h2 hz z hl;lia)
 have hfit:¬(!Builtin.List.listFitsIndex k)=true:=by
  rw[fitsIndex_both h1 h2];exact ydx
 have hlong:¬Builtin.List.listTooLong (its.toArray.size*k.toNat)=true:=by
  rw[lQ hlen];exact ydx
 have hnew:List.foldl (λx1 x2=>x1++x2) #[] (List.replicate (if its.toArray.isEmpty=true then 0 else k.toNat) its.toArray)=(List.replicate k.toNat its).flatten.toArray:=by
  have f0:∀m:Nat,List.foldl (λx1 x2=>x1++x2) #[] (List.replicate m its.toArray)=(List.replicate m its).flatten.toArray:=λm=>by
   have:=gS its m [];rw[nil_append] at this;exact this
  rw[f0];cases its with
  | nil=>simp
  | cons a r'=>rw[ycw (by simp)]
 refine wpAny_binaryOp_repeat_ref (T:="list") (U:="int") (by decide) ⟨_,e,rfl⟩ (λs'=>typeIs_int s' k t) noFill_list_mul F.fills_int_mul F.slot_int_rmul repeat_list F.slot_int_index.lookup
  (call_meets F.slot_int_rmul (typeIs_int s k t) F.entry_int_rmul (F.args_int_rmul_2 _ _) (int___rmul___int_list k t l its.toArray n)
    ⟨e,rfl,⟨_,e,rfl⟩,call_meets F.slot_list_mul ⟨_,e,rfl⟩ F.entry_list_mul (F.args_list_mul_2 _ _) (AutoListH.list___mul___list_int_3 l its.toArray n k t hfit hcap hlong) ⟨e,?_⟩⟩)
 rw[hnew];exact⟨.ref _,_,I.lnew (t':=s.toks) (r.rep k.toNat) (by rw[iz,Nat.mul_comm];exact hz),rfl,q _ I.fresh⟩
end
section
variable {prog:Program} {w:World} {A:Around} {E:yey} {s:Shared}
set_option maxRecDepth 100000 in
end
section
variable {X:Cx}
end
end L2
namespace Att
open PySem PySem.W PySem.Calls PyProof.Rows
theorem iv {P:Params} {h:Heap}:∀(ns:List Int) (vs:yez),WellAll P h vs (ns.map WData.int)->IntsAre vs ns:=by
 intro ns
 induction ns with
 | nil=>
   intro vs w;rw[map_nil] at w;cases w;exact .nil
 | cons n ns ih=>
   intro vs w;rw[map_cons] at w;cases w with
   | cons a b=>
     cases a;exact .cons _ _ (ih _ b)
theorem qU {l:OpenLaw} {n:Nat} (hn:l.most=some n) {P:Params} {h:Heap} {args:List WData} {vals:yez}
 (hpre:l.row.toRowW.claim.pre args=true) (hwl:WellAll P h vals args):
 ∃a vs ns,vals=[Value.ref a]/\args=[WData.list (ns.map WData.int)]/\h.get? a=some { cls:= .type "list",data:= .seq vs.toArray }/\IntsAre vs ns/\ns.length<=n:=by
 have hsh:WShape.hasAll [] args [.list .int]=true:=(pre_splitW hpre).1;have hc:l.pre.holds [] { args:=args }=true:=(pre_splitW hpre).2;obtain⟨d,r,rfl,h1,h2⟩:=hasAllW_cons hsh;obtain rfl:=hasAllW_nil h2;obtain⟨xs,rfl,h3⟩:=hasW_list h1;obtain⟨ns,rfl⟩:=items_int h3;have hlen:ns.length<=n:=by
  unfold OpenLaw.pre at hc;have h4:(WTm.not (.lt (.lit (.int (n:Int))) (.len (.arg 0)))).holds [] { args:=[.list (ns.map .int)] }=true:=by
   have h4:=(holds_andW hc).1;rw[hn] at h4;exact h4
  have h5:=condW_of h4 (w_not (w_lt w_lit (w_len_list (w_arg rfl))));rw[length_map] at h5;refine Nat.le_of_not_lt λq=>?_;have q':(n:Int)<((ns.length:Nat):Int):=by (clear h5;lia)
  first
   | (rw[ydz q'] at h5;exact absurd h5 (by decide))
   | (simp at h5;lia)
 cases hwl with
 | cons w1 w2=>
   cases w2;cases w1 with
   | list ho hall=>exact⟨_,_,ns,rfl,rfl,ho,iv ns _ hall,hlen⟩
theorem qV (l:OpenLaw) (args:List WData):l.row.toRowW.claim.post args (.bool true) args=true:=
 postW_of (r:=l.row.toRowW) (X:=(true==true))
  (show WShape.has [] (.bool true) .bool=true by first | rfl | decide | simp[WShape.has,WShape.arms,WShape.armsAll])
  (show(WTm.eq .res (.lit (.bool true))).value [] { args:=args,res:=some (.bool true),after:=args }=some (.bool (true==true)) from w_eq_bool (w_res rfl) w_lit) rfl
theorem attach_call {l:OpenLaw} {n:Nat} {q:Program} {loose:List Str} {XP:(Str->Option Value)->Heap->Prop} {YP:World->Heap->Prop} {d:DefRec}
 (hn:l.most=some n) (hdf:d.params.defaults=[])
 (call:∀(w:World) (s₀ s₁:Shared) (mg mb:yew) (fa:Addr) (o:Obj) (pm cd doc:Value) (a:Addr) (vs:yez) (ns:List Int),
   Ground q loose [] XP w s₀ mg mb s₁.heap->YP w s₁.heap->
   s₁.heap.get? fa=some o->o.data=.func (docDef d.name d.params d.body d.scope pm cd doc)->s₁.heap.CodeRec cd d.name->mg d.name=some (.ref fa)->
   s₁.heap.get? a=some { cls:= .type "list",data:= .seq vs.toArray }->IntsAre vs ns->ns.length<=n->s₁.gens= #[]->
   codeAny (model l.prog w) callerA (.call (.ref fa) ⟨[.ref a],[]⟩) (λr s'=>r=.ok (.ret (.bool true))/\OldK s₁.heap s'.heap/\s'.os=s₁.os/\AllBare s'.gens) s₁):
 WalkO q loose XP YP l.row.toRowW d [] (λf vs=>PySem.call f vs):=by
 intro w s₀ s₁ mg mb G Y fa o pm cd doc dV kV ho hd hcd hD hmg hg args vals as hpre hlay hrd hwl hlo;obtain rfl:dV=.none:=Dflts.none hD hdf;obtain rfl:kV=.none:=Dflts.noKw hD;obtain⟨a,vs,ns,rfl,rfl,hobj,hints,hlen⟩:=qU hn hpre hwl;refine enter_call (codeAny_mono (call w s₀ s₁ mg mb fa o pm cd doc a vs ns G Y ho (fd_plain hd) hcd hmg hobj hints hlen hg) λr s' hq=>?_);obtain⟨rfl,h2,h3,h4⟩:=hq;exact⟨.inl ⟨.bool true,.bool true,[],rfl,λ_=>rfl,.bool true,qV l _,λ_=>⟨List.Pairwise.nil,λ_ hm=>(nomatch hm)⟩⟩,h2,h3,h4⟩
section
variable {prog:Program} {w:World} {A:Around} {E:yey} {s:Shared} {K:Frag}
end
end Att
namespace L2
open PySem PySem.Spec PyProof.Rows
theorem jI:∀{vs:yez} {ns:List Int},IntsAre vs ns->aY (ns.map V.int) vs
 | _,_,.nil=> .nil
 | _,_,.cons n t h=> .cons ⟨t,rfl⟩ (jI h)
noncomputable def sI (H:Hp):Prop:=∀b,H b=none∨∃o xs,H b=some (.frz o (.lst xs))
theorem sJ {mg mb:yew} {CX:qO} {fa a:Addr} {sp:Sp} {s₁:Shared} {vs:yez} {ns:List Int}
 (KX:K.In s₁.heap) (hns:s₁.heap.Ns mainGlobals mg) (hb:s₁.heap.Ns builtinsNs mb) (hbb:∀x:Str,x≠"__name__"->mb x=bootBuiltins x) (hlim:s₁.heap.NoLimit) (hg:s₁.gens= #[])
 (ha:s₁.heap.get? a=some { cls:= .type "list",data:= .seq vs.toArray }) (hi:IntsAre vs ns) (hl:ns.length<=sizeLine) (hr:ay k callerA)
 (F:∀base:Heap,K.In base->base.Ns mainGlobals mg->fS P w K mg base CX k fa fd [x] sp) (hbind:∀(s:Shared) (u:Value),BindsTo s fd ⟨[u],[]⟩ [(x,u)])
 (hsp:∀H:Hp,sI H->dP K H a (ns.map V.int)->sp [.ref a] H (λv _=>v=.bl true) λ_ _ _=>False)
 (hCX:∀H e s',CX [] H s₁ (λ_ _ _=>False) e s'->False):
 codeAny (model P w) callerA (.call (.ref fa) ⟨[.ref a],[]⟩) (λr s'=>r=.ok (.ret (.bool true))/\OldK s₁.heap s'.heap/\s'.os=s₁.os/\AllBare s'.gens) s₁:=by
 have rv:=jI hi;have lenV:=hi.length
 -- from an abstract heap in which nothing but the script may be tracked
 have core:∀H:Hp,sI H->dP K H a (ns.map V.int)->gq P w H s₁.heap->(∀b,H b≠none->b=a)->(H a≠none->K.lookup a=none)->
  codeAny (model P w) callerA (.call (.ref fa) ⟨[.ref a],[]⟩) (λr s'=>r=.ok (.ret (.bool true))/\OldK s₁.heap s'.heap/\s'.os=s₁.os/\AllBare s'.gens) s₁:=by
  intro H hO hS hok hA hK;have base_of:∀{b:Addr} {o:Obj},s₁.heap.get? b=some o->H b=none->(kt s₁.heap H).get? b=some o:=λe n=>rW e n;have noA:∀{b:Addr} {o:Obj} {es:Array DictEntry} {ep:Nat},s₁.heap.get? b=some o->o.data=.dict es ep->H b=none:=λ{b o es ep} e d=>by
   cases q:H b with
   | none=>rfl
   | some u=>
     have e':b=a:=hA b (by rw[q];simp);subst e';rw[ha] at e;cases e;have d':Data.seq vs.toArray _=Data.dict es ep:=d;cases d'
  have nsK:∀{b:Addr} {m:yew},s₁.heap.Ns b m->(kt s₁.heap H).Ns b m:=λ{b m} ⟨o,es,ep,e,d,r⟩=>⟨o,es,ep,base_of e (noA e d),d,r⟩;have hKb:K.In (kt s₁.heap H):=λb o e=>base_of (KX b o e) (by
   cases q:H b with
   | none=>rfl
   | some u=>
     have e':b=a:=hA b (by rw[q];simp);subst e';rw[hK (by rw[q];simp)] at e;cases e)
  have hM:Mod K mg (kt s₁.heap H):=⟨hKb,nsK hns,⟨mb,nsK hb,hbb⟩,let ⟨mc,h1,h2⟩:=hlim;⟨mc,nsK h1,h2⟩⟩;have e0:lM P w K mg (kt s₁.heap H) callerA [] s₁ H:=⟨rfl,hM,λb o e=>u6 e,Nat.le_of_eq (qA _ _),trivial,λb hb=>absurd (show b∈([]:List Addr) from hb) (by simp),hok,.of_eq hg⟩;refine codeAny_mono ((F _ hKb (nsK hns)).run callerA [] s₁ H ⟨[.ref a],[]⟩ [.ref a] [.ref a] _ _ hr e0 (hbind s₁ (.ref a)) (.cons rfl .nil) (hsp H hO hS)) λr s' h=>?_;cases r with
  | error e=>exact(hCX H e s' h).elim
  | ok fl=>
    cases fl with
    | next=>exact False.elim h
    | brk=>exact False.elim h
    | cont=>exact False.elim h
    | ret u=>
      obtain⟨v,H',os,bare,un,hok',r',q⟩:=h;have q':v=.bl true:=q;subst q';obtain rfl:u=Value.bool true:=r';refine⟨rfl,OldK.of_keep λb o e=>?_,os,bare⟩;cases q:H b with
      | none=>exact un.keep b o e q (by intro z;exact absurd (show b∈([]:List Addr) from z) (by simp)) (by simp)
      | some u=>
        rcases hO b with z | ⟨ob,xs,z⟩
        ·rw[q] at z;cases z
        ·have z2:=un.frzs b ob _ z;obtain⟨e1,_⟩:=hok b _ z;obtain⟨e2,_⟩:=hok' b _ z2;rw[e] at e1;cases e1;exact e2
 cases hk:K.lookup a with
 | some o=>
   -- the script is one of the module's own objects
   have e:=KX a o hk;rw[ha] at e;cases e;refine core (λ_=>none) (λ_=> .inl rfl) (.inr ⟨_,vs.toArray,_,hk,rfl,rfl,rfl,by rw[size_toArray,lenV];exact hl,by simpa using rv⟩) (λb u z=>by have z':(none:Option HO)=some u:=z;cases z') (λb z=>absurd rfl z) λz=>absurd rfl z
 | none=>
   refine core (λb=>if b=a then some (.frz { cls:= .type "list",data:= .seq vs.toArray } (.lst (ns.map V.int))) else none) (λb=>?_) (.inl (.inr ⟨{ cls:= .type "list",data:= .seq vs.toArray },ycv rfl⟩)) (λb u z=>?_) (λb z=>?_) λ_=>hk
   ·by_cases hb:b=a
    ·exact .inr ⟨_,_,ycv hb⟩
    ·exact .inl (ycw hb)
   ·by_cases hb:b=a
    ·have z':=(ycv hb).symm.trans z;cases z';subst hb;exact⟨ha,by rw[length_map];exact hl,vs,_,rv,ha⟩
    ·have z':=(ycw hb).symm.trans z;cases z'
   ·by_cases hb:b=a
    ·exact hb
    ·exact absurd (ycw hb) z
theorem walk_of {l:PySem.W.OpenLaw} {n k:Nat} {q:Program} {loose:List Str} {XP:(Str->Option Value)->Heap->Prop} {YP:World->Heap->Prop} {d:DefRec} {K:Params->yav} {CX:World->qO} {sp:World->Sp}
 (hn:l.most=some n) (hn2:n<=sizeLine) (hdf:d.params.defaults=[]) (hr:ay k callerA)
 (hY:∀(w:World) (h:Heap),YP w h->(K w.params).In h)
 (F:∀(w:World) (mg:yew) (fa:Addr) (h:Heap),(K w.params).In h->h.Ns mainGlobals mg->mg d.name=some (.ref fa)->
   ∃fd:FuncData,(∀(s:Shared) (u:Value),BindsTo s fd ⟨[u],[]⟩ [(x,u)])/\
    ∀base:Heap,(K w.params).In base->base.Ns mainGlobals mg->fS l.prog w (K w.params) mg base (CX w) k fa fd [x] (sp w))
 (hsp:∀(w:World) (H:Hp) (a:Addr) (ns:List Int),ns.length<=n->sI H->dP (K w.params) H a (ns.map V.int)->sp w [.ref a] H (λv _=>v=.bl true) λ_ _ _=>False)
 (hCX:∀(w:World) (H:Hp) (s:Shared) (e:Value) (s':Shared),CX w [] H s (λ_ _ _=>False) e s'->False):
 PySem.W.WalkO q loose XP YP l.row.toRowW d [] (λf vs=>PySem.call f vs):=by
 refine Att.attach_call hn hdf λw s₀ s₁ mg mb fa o pm cd doc a vs ns G Y ho hd hcd hmg hobj hints hlen hg=>?_;have KX:=hY w _ Y;obtain⟨fd,hb,hF⟩:=F w mg fa _ KX G.T.g hmg;exact sJ KX G.T.g G.T.b G.T.builtins G.T.nolimit hg hobj hints (ycy hlen hn2) hr hF hb (λH hO hS=>hsp w H a ns hlen hO hS) λH e s'=>hCX w H s₁ e s'
noncomputable def ax (s:Stmt):Arguments:=match s with
 | .FunctionDef _ a _ _ _ _ _ _ _ _=>a
 | _=>{ posonlyargs:=[],args:=[],vararg:=none,kwonlyargs:=[],kw_defaults:=[],kwarg:=none,defaults:=[] }
noncomputable def aw (s:Stmt):List Stmt:=match s with
 | .FunctionDef _ _ b _ _ _ _ _ _ _=>b
 | _=>[]
noncomputable def al (s:Stmt):Scope:=match s with
 | .FunctionDef _ _ _ _ _ _ sc _ _ _=>sc
 | _=>{ kind:= .function,names:=[],isGenerator:=false,isCoroutine:=false }
noncomputable abbrev sK:qO:=λ_ _ _ _ _ _=>False
noncomputable abbrev E0:XK:=λ_ _ _=>False
theorem jJ {X:Cx}:eM sK X E0:=λ_ _ _ _ _ _ _ h=>h.elim
structure cv (K:yav) (x qual:Str) (st:Stmt) (f:Addr) (fd:FuncData):Prop where
 ex:∃(oc:Value) (od:Option Addr) (kV doc pm:Value) (an:Option Addr) (cdv ct:Value) (osl:Array (Option Value)),
  fd=fnOf x qual (ax st) (aw st) (al st) .none kV doc pm an cdv ct/\K.lookup f=some ⟨oc,od,.func fd,osl⟩/\codeIn K cdv qual=true
 kp:keepIn K (.ref f)=true
section
variable {P:Program} {w:World} {K:yav} {mg:yew} {base:Heap}
theorem cv.ok {x qual:Str} {f:Addr} {N ps:List Str} {sp:Sp} (F:cv K x qual st f fd) (S:bh N ps (al st)) (len:∀vs H Q E,sp vs H Q E->vs.length=ps.length)
 (hbody:∀(cdv:Value) (A:Around) (outer:List Env) (s:Shared) (H:Hp) (vs:List V) (Q:VK) (E:XK),ay k (A.deeper (envOfC qual (al st) s.heap.objs.size f cdv))->sp vs H Q E->
   ∃t,lF (dq sK P w K mg base N qual (al st) f cdv A outer s H E).nox (aw st) t/\t { nx:=λ_ H'=>Q .non H',rt:=Q } (start N vs) H):fS P w K mg base sK (k+1) f fd ps sp:=by
 obtain⟨oc,od,kV,doc,pm,an,cdv,ct,osl,rfl,lk,hcd⟩:=F.ex;refine o4 lk hcd S len λA outer s H vs Q E hr hsp=>?_;obtain⟨t,h,q⟩:=hbody cdv A outer s H vs Q E hr hsp;exact⟨t,h.nox,q⟩
theorem cv.binds {x qual:Str} {f:Addr} (F:cv K x qual st f fd)
 (h:∀(kV doc pm:Value) (an:Option Addr) (cdv ct:Value) (us:yez),us.length=ps.length->bindArgs (fnOf x qual (ax st) (aw st) (al st) .none kV doc pm an cdv ct) ⟨us,[]⟩=pure (ps.zip us)):bL K fd ps []:=by
 obtain⟨oc,od,kV,doc,pm,an,cdv,ct,osl,rfl,lk,hcd⟩:=F.ex;exact .all (h kV doc pm an cdv ct)
theorem aP {x qual:Str} {f:Addr} {oc:Value} {od an:Option Addr} {osl:Array (Option Value)} {kV doc pm cdv ct:Value} (l:K.lookup f=some ⟨oc,od,.func (fnOf x qual (ax st) (aw st) (al st) .none kV doc pm an cdv ct),osl⟩)
 (c:codeIn K cdv qual=true) (k:keepIn K (.ref f)=true):cv K x qual st f (fnOf x qual (ax st) (aw st) (al st) .none kV doc pm an cdv ct):=⟨⟨oc,od,kV,doc,pm,an,cdv,ct,osl,rfl,l,c⟩,k⟩
end
section
variable {X:Cx}
end
section
variable {κ:Type} [DecidableEq κ]
noncomputable def kF (kvs:List (κ×V)) (k:κ):Option V:=(kvs.find? λkv=>decide (kv.1=k)).map (·.2)
noncomputable def iR (kvs:List (κ×V)) (k:κ) (v:V):List (κ×V):=
 if (kvs.any λkv=>decide (kv.1=k))=true then kvs.map (λkv=>if kv.1=k then (kv.1,v) else kv) else kvs++[(k,v)]
theorem lR {p:κ×V} {r:List (κ×V)} {k:κ} (e:p.1=k):kF (p::r) k=some p.2:=by simp[kF,List.find?_cons,e]
theorem lS {p:κ×V} {r:List (κ×V)} {k:κ} (e:¬p.1=k):kF (p::r) k=kF r k:=by simp[kF,List.find?_cons,e]
theorem lT (kvs:List (κ×V)) (k:κ) (v:V):(iR kvs k v).length<=kvs.length+1:=by
 unfold iR;split
 ·rw[length_map];lia
 ·rw[length_append,length_cons,length_nil];lia
theorem fR.isSome_eq {o:Option V} {u:Option Value} (r:fR o u):o.isSome=u.isSome:=by
 cases o with
 | none=>cases u with
   | none=>rfl
   | some _=>exact(show False from r).elim
 | some _=>cases u with
   | none=>exact(show False from r).elim
   | some _=>rfl
theorem KV.val {kvs:List (κ×V)} {vs:List (κ×Value)} (r:KV kvs vs) (k:κ):fR (kF kvs k) (valueAt vs k):=by
 unfold KV at r
 induction r with
 | nil=>exact True.intro
 | @cons p q ps qs h t ih=>
   obtain⟨h1,h2⟩:=h
   by_cases e:p.1=k
   ·have e':q.1=k:=h1.symm.trans e;have b:valueAt (q::qs) k=some q.2:=by simp[valueAt,List.find?_cons,e']
    rw[lR e,b];exact h2
   ·have e':¬q.1=k:=λz=>e (h1.trans z);have b:valueAt (q::qs) k=valueAt qs k:=by simp[valueAt,List.find?_cons,e']
    rw[lS e,b];exact ih
theorem KV.any {kvs:List (κ×V)} {vs:List (κ×Value)} (r:KV kvs vs) (k:κ):(kvs.any λkv=>decide (kv.1=k))=vs.any λkv=>decide (kv.1=k):=by
 unfold KV at r
 induction r with
 | nil=>rfl
 | cons h t ih=>rw[any_cons,any_cons,ih,h.1]
theorem KV.repl {kvs:List (κ×V)} {vs:List (κ×Value)} (r:KV kvs vs) (k:κ) {y:V} (ry:bo y u):
 KV (kvs.map λkv=>if kv.1=k then (kv.1,y) else kv) (vs.map λkv=>if kv.1=k then (kv.1,u) else kv):=by
 unfold KV at r ⊢
 induction r with
 | nil=>exact .nil
 | @cons p q ps qs h t ih=>
   rw[map_cons,map_cons];refine .cons ?_ ih;obtain⟨h1,h2⟩:=h
   by_cases e:p.1=k
   ·rw[ycv e,ycv (h1.symm.trans e)];exact⟨h1,ry⟩
   ·rw[ycw e,ycw (λz=>e (h1.trans z))];exact⟨h1,h2⟩
theorem KV.put {kvs:List (κ×V)} {vs:List (κ×Value)} (r:KV kvs vs) (k:κ) {y:V} (ry:bo y u):KV (iR kvs k y) (stored vs k u):=by
 unfold iR stored;rw[r.any k]
 by_cases e:(vs.any λkv=>decide (kv.1=k))=true
 ·rw[ycv e,ycv e];exact r.repl k ry
 ·rw[ycw e,ycw e];exact Paired.snoc r ⟨rfl,ry⟩
theorem KV.length {kvs:List (κ×V)} {vs:List (κ×Value)} (r:KV kvs vs):kvs.length=vs.length:=Paired.length r
end
theorem pc {k:bE} (r:bo (kV k) u):(dw P w).is k u=true:=by
 cases k with
 | inl i=>obtain⟨t,e⟩:=(show ∃t,u=Value.int i t from r);subst e;exact lI P w i t
 | inr x=>obtain⟨t,e⟩:=(show ∃t,u=Value.str x t from r);subst e;exact lJ P w x t
section
variable {P:Program} {w:World} {H:Hp} {h:Heap} {a:Addr}
theorem AX {u:HO} (ok:gq P w H h) (e:Rd H a u):ck P w H h a u:=e.ok ok
theorem fq {kvs:List (bE×V)} (ok:gq P w H h) (e:Rd H a (.dK kvs)):kvs.length<=sizeLine/\(a==sysModules)=false/\∃vs,KV kvs vs/\h.DictOf (dw P w) a vs:=
 show ck P w H h a (.dK kvs) from AX ok e
theorem AY {kvs:List (bE×V)} (ok:gq P w H h) (e:H a=some (.dK kvs)):kvs.length<=sizeLine/\(a==sysModules)=false/\∃vs,KV kvs vs/\h.DictOf (dw P w) a vs:=fq ok (.inl e)
end
section
variable {X:Cx} {π:List (Addr×Obj)} {σ:St} {H:Hp} {s:Shared} {a:Addr} {y v:V} {u r:Value} {o:Option V} {A:Around} {E:yey}
theorem aJ.bigD (I:aJ X π σ H s):sysModules<s.heap.objs.size:=by
 have h:mainGlobals<s.heap.objs.size:=(I.mod.glob.keeps I.bk).lt;exact Nat.lt_trans (by decide) h
theorem vD {h':Heap} {t':Nat} {ob:HO} (I:aJ X π σ H s) (mu:Ay (H a)) (hs:Heap.SameBut a s.heap h') (he:∃q,h'.get? a=some q) (new:ck X.prog X.w (upd H a ob) h' a ob):
 aJ X π σ (upd H a ob) { s with heap:=h',toks:=t' }:=
 I.write (x:=a) (e:=a) mu (.inl rfl) (λb q hb z=>(hs.2 b hb).trans z) he new
theorem y8 {H':Hp} {h':Heap} {kvs:List (bE×V)} {vs:List (bE×Value)} (z:kvs.length<=sizeLine) (hd:(a==sysModules)=false) (rel:KV kvs vs) (dd:h'.DictOf (dw P w) a vs):
 ck P w H' h' a (.dK kvs):=⟨z,hd,vs,rel,dd⟩
end
section
variable {X:Cx} {π:List (Addr×Obj)} {σ:St} {H:Hp} {s:Shared} {a:Addr} {kvs:List (bE×V)} {k:bE} {u:Value} {A:Around} {E:yey}
theorem AZ (I:aJ X π σ H s) (e:Rd H a (.dK kvs)) (h:∀t s',aJ X π σ H s'->Q (.int kvs.length t) s'):wpAny (model X.prog X.w) A (call (.builtin "len") [.ref a]) Q E s:=by
 obtain⟨z,hd,vs,rel,dd⟩:=fq I.hok e;refine call_len_dict hd dd (by rw[←rel.length];rw[sizeLine_eq] at z;lia) ?_;rw[←rel.length];exact h _ _ (I.tok _)
end
section
variable {X:Cx} {o i e value:Expr} {pos pos' tpos:Pos} {td ty tv:TE}
end
theorem jK {H:Hp} (h:Heap) (hb:sysModules<h.objs.size):ck P w H (h.push { cls:= .type "dict",data:= .dict #[] }) h.objs.size (.dK []):=
 ⟨zero_le _,beq_eq_false_iff_ne.mpr (Ne.symm (ne_of_lt hb)),[],.nil,Heap.DictOf.new h⟩
noncomputable def y9:TE:=λ_ H Q=>∀p,H p=none->Q (.ref p) (upd H p (.dK []))
section
variable {X:Cx} {pos:Pos}
theorem pe_dnewK:PE X (.Dict [] [] pos) y9:=λπ s σ H Q I h=>
 wpAny_Dict_empty ⟨.ref s.heap.objs.size,_,I.laid (a:=s.heap.objs.size) (o:= .dK []) (t':=s.toks) (λ_ _ q=>ybz _ q) (ycx _) (jK s.heap I.bigD),rfl,h _ (I.hok.fresh (ycx _))⟩
end
noncomputable abbrev VV:List (V×V)->List (Value×Value)->Prop:=Paired λp q=>bo p.1 q.1/\bo p.2 q.2
noncomputable def fT (kvs more:List (bE×V)):List (bE×V):=more.foldl (λacc kv=>iR acc kv.1 kv.2) kvs
theorem KV.merge:∀{more:List (bE×V)} {rs:List (bE×Value)} {kvs:List (bE×V)} {vs:List (bE×Value)},KV more rs->KV kvs vs->KV (fT kvs more) (merged vs rs):=by
 intro more rs kvs vs r;unfold KV at r
 induction r generalizing kvs vs with
 | nil=>intro q;exact q
 | @cons p q ps qs h t ih=>
   intro r0;have e:KV (iR kvs p.1 p.2) (stored vs q.1 q.2):=by
    have:=r0.put p.1 h.2;rw[←h.1];exact this
   exact ih e
theorem fO:∀(more kvs:List (bE×V)),(fT kvs more).length<=kvs.length+more.length
 | [],kvs=>by show kvs.length<=kvs.length+0;lia
 | p::r,kvs=>by
   have h1:=fO r (iR kvs p.1 p.2);have h2:=lT kvs p.1 p.2;show(fT (iR kvs p.1 p.2) r).length<=_;rw[length_cons];lia
theorem iS {P:Program} {w:World}:∀{kvs:List (bE×V)} {ws:List (Value×Value)},VV (kvs.map λkv=>(kV kv.1,kv.2)) ws->∃rs,Carries (dw P w) ws rs/\KV kvs rs
 | [],_,r=>by rw[map_nil] at r;cases r;exact⟨[],True.intro,.nil⟩
 | p::kvs,_,r=>by
   rw[map_cons] at r;cases r with
   | @cons a b as bs h t=>
     obtain⟨rs,c,q⟩:=iS (P:=P) (w:=w) t;obtain⟨b1,b2⟩:=b;exact⟨(p.1,b2)::rs,⟨pc h.1,rfl,c⟩,.cons ⟨rfl,h.2⟩ q⟩
structure M1 (X:Cx) (o:Expr) (m:Str) (apos:Pos) (e:Expr) (cpos:Pos):Prop where
 base:attributeBase o m X.env (eval o X.env)=eval o X.env
 few:((backTo cpos (starEach [e] X.env)).all (λx=>!x.1)&&(backToKw cpos (keywordEach [] X.env)).all (λx=>x.1.isSome)
  &&decide (([e]:List Expr).length+([]:List Keyword).length+(if ([]:List Keyword).isEmpty then 0 else 1)<30))=true
 line:(apos.endLine==cpos.line)=true
 trees:backTo cpos (starEach [e] X.env)=[(false,eval e X.env)]
structure M2 (X:Cx) (o:Expr) (m:Str) (apos:Pos) (e f:Expr) (cpos:Pos):Prop where
 base:attributeBase o m X.env (eval o X.env)=eval o X.env
 few:((backTo cpos (starEach [e,f] X.env)).all (λx=>!x.1)&&(backToKw cpos (keywordEach [] X.env)).all (λx=>x.1.isSome)
  &&decide (([e,f]:List Expr).length+([]:List Keyword).length+(if ([]:List Keyword).isEmpty then 0 else 1)<30))=true
 line:(apos.endLine==cpos.line)=true
 trees:backTo cpos (starEach [e,f] X.env)=[(false,eval e X.env),(false,eval f X.env)]
section
variable {X:Cx} {π:List (Addr×Obj)} {σ:St} {H:Hp} {s:Shared} {a:Addr} {y d:V} {u r:Value} {o:Option V} {A:Around} {E:yey}
end
section
variable {X:Cx} {o e f:Expr} {apos cpos:Pos} {td ty tx:TE}
end
section
variable {X:Cx} {π:List (Addr×Obj)} {σ:St} {H:Hp} {s:Shared} {a:Addr} {kvs:List (bE×V)} {A:Around} {E:yey}
end
section
variable {X:Cx} {π:List (Addr×Obj)} {σ:St} {H:Hp} {s:Shared} {a:Addr} {y:V} {u:Value} {A:Around} {E:yey}
end
inductive W where
 | non | bl (b:Bool) | int (i:Int) | str (x:Str) | ref (a:Addr) | tup (xs:List W) | scr (ns:List Int)
inductive GO where
 | lst (ws:List W)
 | dct
 | exc (C:Addr)
 | dic (kvs:List (bE×W))
 | fdc (o:Obj) (us:List (bE×V)) (kvs:List (bE×W))
 | ins (C:Addr) (fs:List (Str×W))
 | tbl (ps:Array Value)
 | any (P:Hp->Addr->Prop)
noncomputable abbrev Gp:=Addr->Option GO
noncomputable def aX (G:Gp) (a:Addr) (g:GO):Gp:=λb=>if b=a then some g else G b
theorem ak {G:Gp} {g:GO}:aX G a g a=some g:=by unfold aX;rw[ycv rfl]
theorem aV {G:Gp} {a b:Addr} {g:GO} (h:b≠a):aX G a g b=G b:=by unfold aX;rw[ycw h]
noncomputable def xF (K:yav) (H:Hp) (a:Addr) (ns:List Int):Prop:=
 (∃o,H a=some (.frz o (.lst (ns.map V.int))))∨
   ∃(o:Obj) (its:Array Value) (n:Nat),K.lookup a=some o/\o.cls=.type "list"/\o.dict=none/\o.data=.seq its n/\its.size<=sizeLine/\aY (ns.map V.int) its.toList
theorem xF.sq {H:Hp} {ns:List Int} (h:xF K H a ns):dP K H a (ns.map V.int):=by
 rcases h with⟨o,h⟩ | h
 ·exact .inl (.inr ⟨o,h⟩)
 ·exact .inr h
structure aW (H H1:Hp):Prop where
 tup:∀a xs,H a=some (.tup xs)->H1 a=some (.tup xs)
 frz:∀a o xs,H a=some (.frz o (.lst xs))->H1 a=some (.frz o (.lst xs))
theorem aW.refl (H:Hp):aW H H:=⟨λ_ _ h=>h,λ_ _ _ h=>h⟩
theorem aW.trans {H H1 H2:Hp} (a:aW H H1) (b:aW H1 H2):aW H H2:=
 ⟨λx xs h=>b.tup x xs (a.tup x xs h),λx o u h=>b.frz x o u (a.frz x o u h)⟩
theorem aW.new {H:Hp} {p:Addr} (hp:H p=none) (o:HO):aW H (upd H p o):=
 ⟨λ_ _ h=>by rw[aO (bf h hp)];exact h,λ_ _ _ h=>by rw[aO (bf h hp)];exact h⟩
theorem aW.lst {H:Hp} {p:Addr} {xs:List V} (hp:H p=some (.lst xs)) (o:HO):aW H (upd H p o):=
 ⟨λ_ _ h=>by rw[aO (jB h hp (by intro z;cases z))];exact h,λ_ _ _ h=>by rw[aO (jB h hp (by intro z;cases z))];exact h⟩
mutual
inductive cr (K:yav) (H:Hp):W->V->Prop where
 | non:cr K H .non .non
 | bl (b:Bool):cr K H (.bl b) (.bl b)
 | int (i:Int):cr K H (.int i) (.int i)
 | str (x:Str):cr K H (.str x) (.str x)
 | ref (a:Addr):cr K H (.ref a) (.ref a)
 | tup {a:Addr} {ws:List W} {xs:List V} (h:H a=some (.tup xs)) (r:aT K H ws xs):cr K H (.tup ws) (.ref a)
 | scr {a:Addr} {ns:List Int} (h:xF K H a ns):cr K H (.scr ns) (.ref a)
inductive aT (K:yav) (H:Hp):List W->List V->Prop where
 | nil:aT K H [] []
 | cons {w:W} {v:V} {ws:List W} {vs:List V} (r:cr K H w v) (rs:aT K H ws vs):aT K H (w::ws) (v::vs)
end
section
variable {K:yav} {H H1:Hp}
theorem xF.mono {ns:List Int} (t:aW H H1) (h:xF K H a ns):xF K H1 a ns:=by
 rcases h with⟨o,h⟩ | h
 ·exact .inl ⟨o,t.frz _ _ _ h⟩
 ·exact .inr h
mutual
theorem cr.mono (t:aW H H1):∀{w:W} {v:V},cr K H w v->cr K H1 w v
 | _,_,.non=> .non
 | _,_,.bl b=> .bl b
 | _,_,.int i=> .int i
 | _,_,.str x=> .str x
 | _,_,.ref a=> .ref a
 | _,_,.tup h r=> .tup (t.tup _ _ h) (aT.mono t r)
 | _,_,.scr h=> .scr (h.mono t)
theorem aT.mono (t:aW H H1):∀{ws:List W} {vs:List V},aT K H ws vs->aT K H1 ws vs
 | _,_,.nil=> .nil
 | _,_,.cons r rs=> .cons (cr.mono t r) (aT.mono t rs)
end
theorem aT.length:∀{ws:List W} {vs:List V},aT K H ws vs->ws.length=vs.length
 | _,_,.nil=>rfl
 | _,_,.cons _ rs=>congrArg (·+1) rs.length
theorem aT.append:∀{ws us:List W} {vs xs:List V},aT K H ws vs->aT K H us xs->aT K H (ws++us) (vs++xs)
 | _,_,_,_,.nil,s=>s
 | _,_,_,_,.cons r rs,s=> .cons r (rs.append s)
theorem aT.take:∀{ws:List W} {vs:List V} (n:Nat),aT K H ws vs->aT K H (ws.take n) (vs.take n)
 | _,_,0,_=> .nil
 | _,_,_+1,.nil=> .nil
 | _,_,n+1,.cons r rs=> .cons r (rs.take n)
theorem aT.drop:∀{ws:List W} {vs:List V} (n:Nat),aT K H ws vs->aT K H (ws.drop n) (vs.drop n)
 | _,_,0,r=>r
 | _,_,_+1,.nil=> .nil
 | _,_,n+1,.cons _ rs=>rs.drop n
theorem aT.get:∀{ws:List W} {vs:List V} {i:Nat} {w:W},aT K H ws vs->ws[i]?=some w->∃v,vs[i]?=some v/\cr K H w v
 | _,_,_,_,.nil,e=>by simp at e
 | _,_,0,_,.cons r _,e=>by simp at e;subst e;exact⟨_,rfl,r⟩
 | _,_,i+1,w,.cons _ rs,e=>by
   obtain⟨v,h1,h2⟩:=aT.get (i:=i) (w:=w) rs (by simpa using e);exact⟨v,by simpa using h1,h2⟩
theorem aT.ints:∀ns:List Int,aT K H (ns.map W.int) (ns.map V.int)
 | []=> .nil
 | n::ns=> .cons (.int n) (aT.ints ns)
end
noncomputable abbrev bmV:List Value:=[.type "ValueError",.type "Exception",.type "BaseException",.type "object"]
structure XC (K:yav) (C:Addr) (bm:yez):Prop where
 obj:∀h:Heap,K.In h->∃N nm qn bs hdct sn sub ab col dd k0 k1 k2 k3 k5 mN,h.get? C=some (excClassObj nm qn C N bs bm hdct sn sub ab col dd k0 k1 k2 k3 k5 "ValueError.__new__")/\h.Ns N mN/\mN "__init__"=none/\OwnTail h bmV bm
 mro:∀v,mroIn K C v=some ((Value.ref C::bm).contains v)
structure XQ (K:yav) (C:Addr):Prop where
 ga:findIn K (.ref C) "__getattribute__"=some (some (.builtin "BaseException.__getattribute__"))
 gx:findIn K (.ref C) "__getattr__"=some none
 gc:findIn K (.ref C) "__class__"=some (some (.builtin "object.__class__"))
structure XD (K:yav) (D:Addr):Prop where
 cls:∃cd,clsIn K D=some cd
 ty:typeIn K (.ref D)=some (.type "type")
 ins:instIn K (.ref D) (.type "type")=some true
structure XO (K:yav) (C:Addr):Prop where
 c:∃bm,XC K C bm
 q:XQ K C
 d:XD K C
noncomputable def zc (K:yav) (H:Hp) (a:Addr):GO->Prop
 | .lst ws=>ws.length<=100000/\∃xs,H a=some (.lst xs)/\aT K H ws xs
 | .dct=>H a=some (.dK [])
 | .exc C=>XO K C/\H a=some (.ext λh=>∃o,h.get? a=some o/\o.cls=.ref C)
 | .dic kvs=>kvs.length<=100000/\∃kvs',H a=some (.dK kvs')/\kvs'.map (·.1)=kvs.map (·.1)/\aT K H (kvs.map (·.2)) (kvs'.map (·.2))
 | .fdc o us kvs=>kvs.length<=100000/\H a=some (.frz o (.dK us))/\us.map (·.1)=kvs.map (·.1)/\aT K H (kvs.map (·.2)) (us.map (·.2))
 | .ins C fs=>fs.length<=100/\∃dx fs',H a=some (.ins C dx fs')/\fs'.map (·.1)=fs.map (·.1)/\aT K H (fs.map (·.2)) (fs'.map (·.2))
 | .tbl ps=>H a=some (.tbl ps)
 | .any P=>P H a/\(∃o,H a=some o)/\∀H1 H2:Hp,aW H1 H2->H2 a=H1 a->P H1 a->P H2 a
noncomputable def aS (K:yav) (H:Hp) (G:Gp):Prop:=∀a g,G a=some g->zc K H a g
section
variable {K:yav} {H H1:Hp} {G:Gp} {p a:Addr} {g:GO}
theorem zc.has (h:zc K H a g):∃o,H a=some o:=by
 cases g with
 | lst ws=>obtain⟨_,_,e,_⟩:=h;exact⟨_,e⟩
 | dct=>exact⟨_,h⟩
 | exc C=>exact⟨_,h.2⟩
 | dic kvs=>obtain⟨_,_,e,_⟩:=h;exact⟨_,e⟩
 | fdc o us kvs=>obtain⟨_,e,_⟩:=h;exact⟨_,e⟩
 | ins C fs=>obtain⟨_,_,_,e,_⟩:=h;exact⟨_,e⟩
 | tbl ps=>exact⟨_,h⟩
 | any P=>exact h.2.1
theorem zc.mono (t:aW H H1) (e:H1 a=H a) (h:zc K H a g):zc K H1 a g:=by
 cases g with
 | lst ws=>obtain⟨l,xs,e1,r⟩:=h;exact⟨l,xs,e.trans e1,r.mono t⟩
 | dct=>exact e.trans h
 | exc C=>exact⟨h.1,e.trans h.2⟩
 | dic kvs=>obtain⟨l,xs,e1,n,r⟩:=h;exact⟨l,xs,e.trans e1,n,r.mono t⟩
 | fdc o us kvs=>obtain⟨l,e1,n,r⟩:=h;exact⟨l,e.trans e1,n,r.mono t⟩
 | ins C fs=>obtain⟨l,dx,xs,e1,n,r⟩:=h;exact⟨l,dx,xs,e.trans e1,n,r.mono t⟩
 | tbl ps=>exact e.trans h
 | any P=>exact⟨h.2.2 _ _ t e h.1,(let ⟨o,e1⟩:=h.2.1;⟨o,e.trans e1⟩),h.2.2⟩
theorem aS.fresh (h:aS K H G) (hp:H p=none):G p=none:=by
 cases e:G p with
 | none=>rfl
 | some g=>
   obtain⟨o,e1⟩:=(h p _ e).has;rw[hp] at e1;cases e1
theorem aS.upd (h:aS K H G) (t:aW H (upd H p o)) (hG:G p=none):aS K (L2.upd H p o) G:=λa g e=>by
 have hne:a≠p:=λz=>by rw[z,hG] at e;cases e
 exact(h a g e).mono t (aO hne)
theorem aS.keep (h:aS K H G) (hp:H p=none) (o:HO):aS K (L2.upd H p o) G:=h.upd (aW.new hp o) (h.fresh hp)
theorem aS.lay (h:aS K H G) {o:HO} (t:aW H (L2.upd H p o)) (n:zc K (L2.upd H p o) p g):aS K (L2.upd H p o) (aX G p g):=λa g' e=>by
 by_cases hb:a=p
 ·subst hb;rw[ak] at e;cases e;exact n
 ·rw[aV hb] at e;exact(h a g' e).mono t (aO hb)
theorem aS.put (h:aS K H G) {xs:List V} {ws:List W} (t:aW H (L2.upd H p (.lst xs))) (r:aT K H ws xs) (hl:ws.length<=100000):aS K (L2.upd H p (.lst xs)) (aX G p (.lst ws)):=h.lay t ⟨hl,xs,bt,r.mono t⟩
noncomputable def aC (G0 G:Gp):Prop:=∀a g,G0 a=some g->G a=some g
theorem aS.le {G0:Gp} (h:aS K H G) (l:aC G0 G):aS K H G0:=λa g e=>h a g (l a g e)
theorem aC.refl (G:Gp):aC G G:=λ_ _ h=>h
theorem aC.trans {G0 G1 G2:Gp} (a:aC G0 G1) (b:aC G1 G2):aC G0 G2:=λx g h=>b x g (a x g h)
theorem aC.new {g:GO} (hp:G p=none):aC G (aX G p g):=λa u e=>by
 rw[aV (λz=>by rw[z,hp] at e;cases e)];exact e
end
noncomputable abbrev dR:=List (Option W)
noncomputable def bn (K:yav) (H:Hp) (τ:dR) (σ:St):Prop:=τ.length=σ.length/\∀(i:Nat) (w:W),τ[i]?=some (some w)->∃v,σ[i]?=some (some v)/\cr K H w v
section
variable {K:yav} {H H1:Hp} {τ:dR} {σ:St}
theorem bn.mono (t:aW H H1) (h:bn K H τ σ):bn K H1 τ σ:=⟨h.1,λi w e=>let ⟨v,e1,r⟩:=h.2 i w e;⟨v,e1,r.mono t⟩⟩
theorem bn.set (h:bn K H τ σ) {w:W} {v:V} (r:cr K H w v) (i:Nat):bn K H (τ.set i (some w)) (σ.set i (some v)):=by
 refine⟨by simpa using h.1,λj u e=>?_⟩
 by_cases hj:i=j
 ·subst hj
  by_cases hl:i<τ.length
  ·rw[List.getElem?_set_self hl] at e;cases e;exact⟨v,List.getElem?_set_self (by rw[←h.1];exact hl),r⟩
  ·rw[List.getElem?_eq_none (by simpa using hl)] at e;cases e
 ·rw[List.getElem?_set_ne hj] at e;obtain⟨u',e1,r1⟩:=h.2 j u e;exact⟨u',by rw[List.getElem?_set_ne hj];exact e1,r1⟩
theorem bn.start {N:List Str} {ws:List W} {vs:List V} (r:aT K H ws vs):bn K H (ws.map some++List.replicate (N.length-ws.length) none) (L2.start N vs):=by
 unfold L2.start;refine⟨by simp[r.length],λi w e=>?_⟩
 by_cases hi:i<ws.length
 ·rw[List.getElem?_append_left (by simpa using hi),List.getElem?_map] at e;cases e1:ws[i]? with
  | none=>rw[e1] at e;cases e
  | some u=>
    rw[e1] at e;cases e;obtain⟨v,e2,rv⟩:=r.get e1;refine⟨v,?_,rv⟩;rw[List.getElem?_append_left (by simpa[←r.length] using hi),List.getElem?_map,e2]
    rfl
 ·rw[List.getElem?_append_right (by simpa using hi),List.getElem?_replicate] at e;split at e<;> cases e
end
noncomputable abbrev WK:=W->Gp->Prop
noncomputable abbrev WE:=dR->Gp->WK->Prop
noncomputable abbrev WT:=dR->Gp->(Bool->Gp->Prop)->Prop
noncomputable abbrev WA:=dR->Gp->(List W->Gp->Prop)->Prop
structure dI where
 nx:dR->Gp->Prop
 rt:WK
 bk:dR->Gp->Prop:=λ_ _=>False
 ct:dR->Gp->Prop:=λ_ _=>False
noncomputable abbrev WS:=dI->dR->Gp->Prop
noncomputable abbrev WG:=W->dR->Gp->(dR->Gp->Prop)->Prop
noncomputable abbrev xI:=List W->dR->Gp->(dR->Gp->Prop)->Prop
noncomputable def gU (K:yav) (t:WE):TE:=λσ H Q=>∃τ G q,bn K H τ σ/\aS K H G/\t τ G q/\∀v H1 w G1,aW H H1->cr K H1 w v->aS K H1 G1->q w G1->Q v H1
noncomputable def zd (K:yav) (t:WT):TT:=λσ H Q=>∃τ G q,bn K H τ σ/\aS K H G/\t τ G q/\∀b H1 G1,aW H H1->aS K H1 G1->q b G1->Q b H1
noncomputable def LA (K:yav) (t:WA):TA:=λσ H Q=>∃τ G q,bn K H τ σ/\aS K H G/\t τ G q/\∀vs H1 ws G1,aW H H1->aT K H1 ws vs->aS K H1 G1->q ws G1->Q vs H1
structure lU (K:yav) (H:Hp) (d:dI) (D:iu):Prop where
 nx:∀σ1 H1 τ1 G1,aW H H1->bn K H1 τ1 σ1->aS K H1 G1->d.nx τ1 G1->D.nx σ1 H1
 rt:∀v H1 w G1,aW H H1->cr K H1 w v->aS K H1 G1->d.rt w G1->D.rt v H1
 bk:∀σ1 H1 τ1 G1,aW H H1->bn K H1 τ1 σ1->aS K H1 G1->d.bk τ1 G1->D.bk σ1 H1
 ct:∀σ1 H1 τ1 G1,aW H H1->bn K H1 τ1 σ1->aS K H1 G1->d.ct τ1 G1->D.ct σ1 H1
noncomputable def LS (K:yav) (t:WS):TS:=λD σ H=>∃τ G d,bn K H τ σ/\aS K H G/\t d τ G/\lU K H d D
theorem gU.el {t:WE} {σ:St} {H:Hp} {Q:VK} {P:Prop} (h:gU K t σ H Q) (k:∀(τ:dR) (G:Gp) (q:WK),bn K H τ σ->aS K H G->t τ G q->(∀v H1 w G1,aW H H1->cr K H1 w v->aS K H1 G1->q w G1->Q v H1)->P):P:=by
 obtain⟨τ,G,q,a,b,c,d⟩:=h;exact k τ G q a b c d
theorem zd.el {t:WT} {σ:St} {H:Hp} {Q:Bool->Hp->Prop} {P:Prop} (h:zd K t σ H Q) (k:∀(τ:dR) (G:Gp) (q:Bool->Gp->Prop),bn K H τ σ->aS K H G->t τ G q->(∀b H1 G1,aW H H1->aS K H1 G1->q b G1->Q b H1)->P):P:=by
 obtain⟨τ,G,q,a,b,c,d⟩:=h;exact k τ G q a b c d
theorem LA.el {t:WA} {σ:St} {H:Hp} {Q:List V->Hp->Prop} {P:Prop} (h:LA K t σ H Q) (k:∀(τ:dR) (G:Gp) (q:List W->Gp->Prop),bn K H τ σ->aS K H G->t τ G q->(∀vs H1 ws G1,aW H H1->aT K H1 ws vs->aS K H1 G1->q ws G1->Q vs H1)->P):P:=by
 obtain⟨τ,G,q,a,b,c,d⟩:=h;exact k τ G q a b c d
theorem LS.el {t:WS} {D:iu} {σ:St} {H:Hp} {P:Prop} (h:LS K t D σ H) (k:∀(τ:dR) (G:Gp) (d:dI),bn K H τ σ->aS K H G->t d τ G->lU K H d D->P):P:=by
 obtain⟨τ,G,q,a,b,c,d⟩:=h;exact k τ G q a b c d
noncomputable def LG (K:yav) (t:WG):TG:=λv σ H Q=>∃w τ G q,cr K H w v/\bn K H τ σ/\aS K H G/\t w τ G q/\∀σ1 H1 τ1 G1,aW H H1->bn K H1 τ1 σ1->aS K H1 G1->q τ1 G1->Q σ1 H1
noncomputable def FF (K:yav) (t:xI):vg:=λvs σ H Q=>∃ws τ G q,aT K H ws vs/\bn K H τ σ/\aS K H G/\t ws τ G q/\∀σ1 H1 τ1 G1,aW H H1->bn K H1 τ1 σ1->aS K H1 G1->q τ1 G1->Q σ1 H1
noncomputable def QE (X:Cx) (e:Expr) (t:WE):Prop:=PE X e (gU X.K t)
noncomputable def QT (X:Cx) (e:Expr) (t:WT):Prop:=PT X e (zd X.K t)
noncomputable def QW (X:Cx) (e:Expr) (t:WT):Prop:=PW X e (zd X.K t)
noncomputable def QA (X:Cx) (es:List Expr) (t:WA):Prop:=PA X es (LA X.K t)
noncomputable def QS (X:Cx) (st:Stmt) (t:WS):Prop:=PS X st (LS X.K t)
noncomputable def lV (X:Cx) (st:List Stmt) (t:WS):Prop:=lF X st (LS X.K t)
noncomputable def QG (X:Cx) (e:Expr) (t:WG):Prop:=PG X e (LG X.K t)
noncomputable def A0 (X:Cx) (es:List Expr) (t:xI):Prop:=xA X es (FF X.K t)
section
variable {X:Cx}
theorem PE.imp {t t':TE} (h:PE X e t) (f:∀σ H Q,t' σ H Q->t σ H Q):PE X e t':=λπ s σ H Q I q=>h π s σ H Q I (f _ _ _ q)
theorem PT.imp {t t':TT} (h:PT X e t) (f:∀σ H Q,t' σ H Q->t σ H Q):PT X e t':=λπ s σ H Q I q=>h π s σ H Q I (f _ _ _ q)
theorem PW.imp {t t':TT} (h:PW X e t) (f:∀σ H Q,t' σ H Q->t σ H Q):PW X e t':=λwh π s σ H Q I q=>h wh π s σ H Q I (f _ _ _ q)
theorem PA.imp {e:List Expr} {t t':TA} (h:PA X e t) (f:∀σ H Q,t' σ H Q->t σ H Q):PA X e t':=λpos π s σ H Q I q=>h pos π s σ H Q I (f _ _ _ q)
theorem PS.imp {e:Stmt} {t t':TS} (h:PS X e t) (f:∀D σ H,t' D σ H->t D σ H):PS X e t':=λπ s σ H D I q=>h π s σ H D I (f _ _ _ q)
theorem lF.imp {e:List Stmt} {t t':TS} (h:lF X e t) (f:∀D σ H,t' D σ H->t D σ H):lF X e t':=λπ s σ H D I q=>h π s σ H D I (f _ _ _ q)
theorem PG.imp {t t':TG} (h:PG X e t) (f:∀v σ H Q,t' v σ H Q->t v σ H Q):PG X e t':=λπ s σ H v u Q I r q=>h π s σ H v u Q I r (f _ _ _ _ q)
theorem xA.imp {e:List Expr} {t t':vg} (h:xA X e t) (f:∀v σ H Q,t' v σ H Q->t v σ H Q):xA X e t':=λπ s σ H v u Q I r q=>h π s σ H v u Q I r (f _ _ _ _ q)
noncomputable def sL (i:Nat):WE:=λτ G q=>match τ[i]? with | some (some w)=>q w G | _=>False
noncomputable def wC (w:W):WE:=λ_ G q=>q w G
theorem aa (i:Nat) (hN:X.N[i]?=some x:=by exact rfl) (hv:C8 X.env.scope x:=by exact .inl rfl) (hd:(x==("__debug__":Str))=false:=by decide) (hcd:(x==("__classdict__":Str))=false:=by decide):QE X (.Name x pos) (sL i):=by
 refine(rX hN hv hd hcd).imp λσ H Q z0=>z0.el λτ G q hs hg ht hQ=>?_;unfold sL at ht;split at ht
 ·rename_i w e;obtain⟨v,e1,r⟩:=hs.2 i w e;exact⟨v,e1,hQ v H w G (aW.refl H) r hg ht⟩
 ·exact ht.elim
theorem eA {v:V} {w:W} (h:PE X e (tC v)) (r:∀H,cr X.K H w v):QE X e (wC w):=
 h.imp λσ H Q z0=>z0.el λτ G q hs hg ht hQ=>hQ v H w G (aW.refl H) (r H) hg ht
theorem ah {i j pos}:QE X (.Constant (.int i) j pos) (wC (.int i)):=eA yx λ_=> .int i
theorem cm {b j pos}:QE X (.Constant (.bool b) j pos) (wC (.bl b)):=eA Az λ_=> .bl b
theorem dr {j pos}:QE X (.Constant .none j pos) (wC .non):=eA yy λ_=> .non
theorem aF {x j pos}:QE X (.Constant (.str x) j pos) (wC (.str x)):=eA ku λ_=> .str x
noncomputable abbrev W2:=W->W->Gp->WK->Prop
noncomputable def LR (K:yav) (r:W2):R2:=λx y H Q=>∃wx wy G q,cr K H wx x/\cr K H wy y/\aS K H G/\r wx wy G q/\∀v H1 w G1,aW H H1->cr K H1 w v->aS K H1 G1->q w G1->Q v H1
noncomputable def fi (X:Cx) (f:Value->Value->Sem Value) (r:W2):Prop:=gt X f (LR X.K r)
noncomputable def A5 (X:Cx) (r:W2):Prop:=AV X (LR X.K r)
noncomputable def Au (r:W2) (ta tb:WE):WE:=λτ G q=>ta τ G λx G1=>tb τ G1 λy G2=>r x y G2 q
theorem gU.op {r:W2} {ta tb:WE} {σ:St} {H:Hp} {Q:VK} (h:gU K (Au r ta tb) σ H Q):AK (LR K r) (gU K ta) (gU K tb) σ H Q:=by
 obtain⟨τ,G,q,hs,hg,ht,hQ⟩:=h;refine⟨τ,G,_,hs,hg,ht,λv H1 w G1 t1 r1 g1 q1=>?_⟩;refine⟨τ,G1,_,hs.mono t1,g1,q1,λv2 H2 w2 G2 t2 r2 g2 q2=>?_⟩;exact⟨w,w2,G2,q,r1.mono t2,r2,g2,q2,λv3 H3 w3 G3 t3 r3 g3 q3=>hQ v3 H3 w3 G3 ((t1.trans t2).trans t3) r3 g3 q3⟩
theorem av {op:Operator} {r:W2} {a b:Expr} {ta tb:WE} (ho:fi X (binaryOp op) r) (ha:QE X a ta) (hb:QE X b tb):QE X (.BinOp a op b pos) (Au r ta tb):=
 (AL ho ha hb).imp λ_ _ _ h=>h.op
theorem cI {op:CmpOp} {r:W2} {a b:Expr} {ta tb:WE} (ho:fi X (compareOp op) r) (ha:QE X a ta) (hb:QE X b tb) (hm:behindInMarks op b=false:=by exact kz _):QE X (.Compare a [op] [b] pos) (Au r ta tb):=
 (vm ho ha hb hm).imp λ_ _ _ h=>h.op
theorem aG {r:W2} {a b:Expr} {ta tb:WE} (ho:A5 X r) (ha:QE X a ta) (hb:QE X b tb) (hs:o6 b:=by exact λ_ _=>rfl):QE X (.Subscript a b pos) (Au r ta tb):=
 (AW ho ha hb hs).imp λ_ _ _ h=>h.op
noncomputable def lW (t:WE):WT:=λτ G q=>t τ G λx G1=>match x with | .bl b=>q b G1 | _=>False
theorem zd.test {t:WE} {σ:St} {H:Hp} {Q:Bool->Hp->Prop} (h:zd K (lW t) σ H Q):sh (gU K t) σ H Q:=by
 obtain⟨τ,G,q,hs,hg,ht,hQ⟩:=h;refine⟨τ,G,_,hs,hg,ht,λv H1 w G1 t1 r1 g1 q1=>?_⟩;split at q1
 ·rename_i b;cases r1;exact⟨b,rfl,hQ b H1 G1 t1 g1 q1⟩
 ·exact q1.elim
theorem au {op:CmpOp} {r:W2} {a b:Expr} {ta tb:WE} (ho:fi X (compareOp op) r) (ha:QE X a ta) (hb:QE X b tb) (hm:behindInMarks op b=false:=by exact kz _):QT X (.Compare a [op] [b] pos) (lW (Au r ta tb)):=
 (vn ho ha hb hm).imp λσ H Q h=>by
   obtain⟨τ,G,q,hs,hg,ht,hQ⟩:=h.test;exact gU.op ⟨τ,G,q,hs,hg,ht,hQ⟩
theorem bx {t:WE} (h:QE X e t) (he:∀whole,isTrue e X.env whole=(do let v ←whole;standAt e.pos;holding [v] (truthy v)):=by intro _;rfl):QT X e (lW t):=
 (yz h he).imp λσ H Q h=>h.test
noncomputable def A6 (t u:WT):WT:=λτ G q=>t τ G λc G1=>if c=true then u τ G1 q else q false G1
noncomputable def Fm (t u:WT):WT:=λτ G q=>t τ G λc G1=>if c=true then q true G1 else u τ G1 q
noncomputable def A7 (t:WT):WT:=λτ G q=>t τ G λc G1=>q (!c) G1
theorem bV {a:Expr} {t:WT} (ha:QT X a t):QW X (.BoolOp .And [a] pos) t:=vd ha
theorem cP {a:Expr} {t:WT} (ha:QT X a t):QW X (.BoolOp .Or [a] pos) t:=yA ha
theorem cx {a b:Expr} {rest:List Expr} {t u:WT} (ha:QT X a t) (hb:QW X (.BoolOp .And (b::rest) pos) u):QW X (.BoolOp .And (a::b::rest) pos) (A6 t u):=
 (yB ha hb).imp λσ H Q z0=>z0.el λτ G q hs hg ht hQ=>⟨τ,G,_,hs,hg,ht,λc H1 G1 t1 g1 q1=>by
   cases c with
   | true=>rw[ycv rfl] at q1 ⊢;exact⟨τ,G1,q,hs.mono t1,g1,q1,λb H2 G2 t2 g2 q2=>hQ b H2 G2 (t1.trans t2) g2 q2⟩
   | false=>rw[ycw ydx] at q1 ⊢;exact hQ false H1 G1 t1 g1 q1⟩
theorem dA {a b:Expr} {rest:List Expr} {t u:WT} (ha:QT X a t) (hb:QW X (.BoolOp .Or (b::rest) pos) u):QW X (.BoolOp .Or (a::b::rest) pos) (Fm t u):=
 (AA ha hb).imp λσ H Q z0=>z0.el λτ G q hs hg ht hQ=>⟨τ,G,_,hs,hg,ht,λc H1 G1 t1 g1 q1=>by
   cases c with
   | true=>rw[ycv rfl] at q1 ⊢;exact hQ true H1 G1 t1 g1 q1
   | false=>rw[ycw ydx] at q1 ⊢;exact⟨τ,G1,q,hs.mono t1,g1,q1,λb H2 G2 t2 g2 q2=>hQ b H2 G2 (t1.trans t2) g2 q2⟩⟩
theorem cQ {t:WT} (h:QW X e t):QT X e t:=PW.pt h
theorem dt {a:Expr} {t:WT} (ha:QT X a t):QT X (.UnaryOp .Not a pos) (A7 t):=
 (yC ha).imp λσ H Q z0=>z0.el λτ G q hs hg ht hQ=>⟨τ,G,_,hs,hg,ht,λc H1 G1 t1 g1 q1=>hQ (!c) H1 G1 t1 g1 q1⟩
noncomputable def xJ (ta tb:WE):WE:=λτ G q=>ta τ G λx G1=>match x with | .bl c=>if c=true then tb τ G1 q else q (.bl false) G1 | _=>False
noncomputable def A8 (ta tb:WE):WE:=λτ G q=>ta τ G λx G1=>match x with | .bl c=>if c=true then q (.bl true) G1 else tb τ G1 q | _=>False
noncomputable def xK (ta:WE):WE:=λτ G q=>ta τ G λx G1=>match x with | .bl c=>q (.bl (!c)) G1 | _=>False
theorem kG {a:Expr} {op} {t:WE} (h:QE X a t):QE X (.BoolOp op [a] pos) t:=yD h
theorem sM {a b:Expr} {rest:List Expr} {ta tb:WE} (ha:QE X a ta) (hb:QE X (.BoolOp .And (b::rest) pos) tb):QE X (.BoolOp .And (a::b::rest) pos) (xJ ta tb):=
 (yE ha hb).imp λσ H Q z0=>z0.el λτ G q hs hg ht hQ=>⟨τ,G,_,hs,hg,ht,λv H1 w G1 t1 r1 g1 q1=>by
   split at q1
   ·rename_i c;cases r1;refine⟨c,rfl,?_⟩;cases c with
    | true=>rw[ycv rfl] at q1 ⊢;exact⟨τ,G1,q,hs.mono t1,g1,q1,λv2 H2 w2 G2 t2 r2 g2 q2=>hQ v2 H2 w2 G2 (t1.trans t2) r2 g2 q2⟩
    | false=>rw[ycw ydx] at q1 ⊢;exact hQ _ H1 _ G1 t1 (.bl false) g1 q1
   ·exact q1.elim⟩
theorem pe {a b:Expr} {rest:List Expr} {ta tb:WE} (ha:QE X a ta) (hb:QE X (.BoolOp .Or (b::rest) pos) tb):QE X (.BoolOp .Or (a::b::rest) pos) (A8 ta tb):=
 (AD ha hb).imp λσ H Q z0=>z0.el λτ G q hs hg ht hQ=>⟨τ,G,_,hs,hg,ht,λv H1 w G1 t1 r1 g1 q1=>by
   split at q1
   ·rename_i c;cases r1;refine⟨c,rfl,?_⟩;cases c with
    | true=>rw[ycv rfl] at q1 ⊢;exact hQ _ H1 _ G1 t1 (.bl true) g1 q1
    | false=>rw[ycw ydx] at q1 ⊢;exact⟨τ,G1,q,hs.mono t1,g1,q1,λv2 H2 w2 G2 t2 r2 g2 q2=>hQ v2 H2 w2 G2 (t1.trans t2) r2 g2 q2⟩
   ·exact q1.elim⟩
theorem ze {a:Expr} {ta:WE} (ha:QE X a ta):QE X (.UnaryOp .Not a pos) (xK ta):=
 (yF ha).imp λσ H Q z0=>z0.el λτ G q hs hg ht hQ=>⟨τ,G,_,hs,hg,ht,λv H1 w G1 t1 r1 g1 q1=>by
   split at q1
   ·rename_i c;cases r1;exact⟨c,rfl,hQ _ H1 _ G1 t1 (.bl _) g1 q1⟩
   ·exact q1.elim⟩
noncomputable def A9 (c:WT) (ta tb:WE):WE:=λτ G q=>c τ G λb G1=>if b=true then ta τ G1 q else tb τ G1 q
theorem iT {c a b:Expr} {tc:WT} {ta tb:WE} (hc:QT X c tc) (ha:QE X a ta) (hb:QE X b tb):QE X (.IfExp c a b pos) (A9 tc ta tb):=
 (rY hc ha hb).imp λσ H Q z0=>z0.el λτ G q hs hg ht hQ=>⟨τ,G,_,hs,hg,ht,λc H1 G1 t1 g1 q1=>by
   cases c with
   | true=>rw[ycv rfl] at q1 ⊢;exact⟨τ,G1,q,hs.mono t1,g1,q1,λv2 H2 w2 G2 t2 r2 g2 q2=>hQ v2 H2 w2 G2 (t1.trans t2) r2 g2 q2⟩
   | false=>rw[ycw ydx] at q1 ⊢;exact⟨τ,G1,q,hs.mono t1,g1,q1,λv2 H2 w2 G2 t2 r2 g2 q2=>hQ v2 H2 w2 G2 (t1.trans t2) r2 g2 q2⟩⟩
noncomputable def sN:WA:=λ_ G q=>q [] G
noncomputable def xL (ta:WE) (tr:WA):WA:=λτ G q=>ta τ G λx G1=>tr τ G1 λxs G2=>q (x::xs) G2
theorem ag:QA X [] sN:=pa_nil.imp λσ H Q z0=>z0.el λτ G q hs hg ht hQ=>hQ [] H [] G (aW.refl H) .nil hg ht
theorem ae {te:WE} {t:WA} (ha:QE X e te) (hr:QA X es t) (hs:starEach (e::es) X.env=(false,eval e X.env)::starEach es X.env:=by rfl):QA X (e::es) (xL te t):=
 (dy ha hr hs).imp λσ H Q z0=>z0.el λτ G q hs hg ht hQ=>⟨τ,G,_,hs,hg,ht,λv H1 w G1 t1 r1 g1 q1=>
   ⟨τ,G1,_,hs.mono t1,g1,q1,λvs H2 ws G2 t2 r2 g2 q2=>hQ (v::vs) H2 (w::ws) G2 (t1.trans t2) (.cons (r1.mono t2) r2) g2 q2⟩⟩
theorem bW {n:Nat} (h:n<=100000):n<=sizeLine:=by rw[sizeLine_eq];lia
noncomputable def Ba (t:WA):WE:=λτ G q=>t τ G λws G1=>ws.length<=100000/\q (.tup ws) G1
noncomputable def Bb (t:WA):WE:=λτ G q=>t τ G λws G1=>ws.length<=100000/\∀p,G1 p=none->q (.ref p) (aX G1 p (.lst ws))
theorem aU {x1} {t:WA} (h:QA X es t):QE X (.Tuple es x1 pos) (Ba t):=
 (yV h).imp λσ H Q z0=>z0.el λτ G q hs hg ht hQ=>⟨τ,G,_,hs,hg,ht,λvs H1 ws G1 t1 r1 g1 q1=>
   ⟨by rw[←r1.length];exact bW q1.1,λp hp=>hQ _ _ _ G1 (t1.trans (aW.new hp _)) (.tup bt (r1.mono (aW.new hp _))) (g1.keep hp _) q1.2⟩⟩
theorem bA {t:WA} (h:QA X es t):QE X (.List es pos) (Bb t):=
 (yW h).imp λσ H Q z0=>z0.el λτ G q hs hg ht hQ=>⟨τ,G,_,hs,hg,ht,λvs H1 ws G1 t1 r1 g1 q1=>
   ⟨by rw[←r1.length];exact bW q1.1,λp hp=>hQ _ _ _ _ (t1.trans (aW.new hp _)) (.ref p) (g1.put (aW.new hp _) r1 q1.1) (q1.2 p (g1.fresh hp))⟩⟩
noncomputable def sO:WS:=λd τ G=>d.nx τ G
noncomputable def vE (t u:WS):WS:=λd τ G=>t { d with nx:=u d } τ G
theorem lU.mono {H H1:Hp} {d:dI} {D:iu} (l:lU K H d D) (t:aW H H1):lU K H1 d D:=
 ⟨λσ2 H2 τ2 G2 t2=>l.nx σ2 H2 τ2 G2 (t.trans t2),λv H2 w G2 t2=>l.rt v H2 w G2 (t.trans t2),λσ2 H2 τ2 G2 t2=>l.bk σ2 H2 τ2 G2 (t.trans t2),λσ2 H2 τ2 G2 t2=>l.ct σ2 H2 τ2 G2 (t.trans t2)⟩
theorem af:lV X [] sO:=pss_nil.imp λD σ H z0=>z0.el λτ G d hs hg ht l=>l.nx σ H τ G (aW.refl H) hs hg ht
theorem ac {rest:List Stmt} {t u:WS} (h1:QS X st t) (h2:lV X rest u):lV X (st::rest) (vE t u):=
 (rZ h1 h2).imp λD σ H z0=>z0.el λτ G d hs hg ht l=>⟨τ,G,_,hs,hg,ht,⟨λσ1 H1 τ1 G1 t1 s1 g1 q1=>⟨τ1,G1,d,s1,g1,q1,l.mono t1⟩,l.rt,l.bk,l.ct⟩⟩
theorem aM {t:WS} (h1:QS X st t):lV X [st] t:=ve h1
noncomputable def xM (te:WE):WS:=λd τ G=>te τ G λ_ G1=>d.nx τ G1
theorem bu {te:WE} (he:QE X e te) (hs:swapsWith e none pos.line X.env=pure false:=by rfl):QS X (.Expr e pos) (xM te):=
 (vf he hs).imp λD σ H z0=>z0.el λτ G d hs hg ht l=>⟨τ,G,_,hs,hg,ht,λv H1 w G1 t1 r1 g1 q1=>l.nx σ H1 τ G1 t1 (hs.mono t1) g1 q1⟩
noncomputable def Bc (te:WE):WS:=λd τ G=>te τ G d.rt
theorem aq {te:WE} (he:QE X e te):QS X (.Return (some e) pos) (Bc te):=
 (yG he).imp λD σ H z0=>z0.el λτ G d hs hg ht l=>⟨τ,G,_,hs,hg,ht,λv H1 w G1 t1 r1 g1 q1=>l.rt v H1 w G1 t1 r1 g1 q1⟩
noncomputable def Fn (c:WT) (t u:WS):WS:=λd τ G=>c τ G λb G1=>if b=true then t d τ G1 else u d τ G1
theorem aL {c:Expr} {a b:List Stmt} {tc:WT} {t u:WS} (hc:QT X c tc) (ha:lV X a t) (hb:lV X b u):QS X (.If c a b pos) (Fn tc t u):=
 (AH hc ha hb).imp λD σ H z0=>z0.el λτ G d hs hg ht l=>⟨τ,G,_,hs,hg,ht,λc H1 G1 t1 g1 q1=>by
   cases c with
   | true=>rw[ycv rfl] at q1 ⊢;exact⟨τ,G1,d,hs.mono t1,g1,q1,l.mono t1⟩
   | false=>rw[ycw ydx] at q1 ⊢;exact⟨τ,G1,d,hs.mono t1,g1,q1,l.mono t1⟩⟩
noncomputable def fe (i:Nat):WG:=λw τ G q=>q (τ.set i (some w)) G
theorem cf (i:Nat) (hN:X.N.Nodup) (hi:X.N[i]?=some x) (hx:u9 X.env.scope x) (hf:X.fn x=true∨X.env.scope.names.lookup x=some .local:=by first | exact .inl rfl | exact .inr rfl | assumption):QG X (.Name x pos) (fe i):=
 (vh hN hi hx hf).imp λv σ H Q ⟨w,τ,G,q,r,hs,hg,ht,hQ⟩=>hQ _ H _ G (aW.refl H) (hs.set r i) hg ht
noncomputable def vF:xI:=λws τ G q=>match ws with | []=>q τ G | _=>False
noncomputable def pf (t:WG) (u:xI):xI:=λws τ G q=>match ws with | w::r=>t w τ G λτ1 G1=>u r τ1 G1 q | []=>False
theorem kH:A0 X [] vF:=pgs_nil.imp λvs σ H Q ⟨ws,τ,G,q,r,hs,hg,ht,hQ⟩=>by
 unfold vF at ht;cases r with
 | nil=>exact⟨rfl,hQ σ H τ G (aW.refl H) hs hg ht⟩
 | cons _ _=>exact ht.elim
theorem eB {t:WG} {u:xI} (h1:QG X e t) (h2:A0 X es u)
 (hs:(assignEach (e::es) X.env).map (·.2)=assign e X.env::(assignEach es X.env).map (·.2):=by rfl):A0 X (e::es) (pf t u):=
 (r6 h1 h2 hs).imp λvs σ H Q ⟨ws,τ,G,q,r,hs,hg,ht,hQ⟩=>by
   unfold pf at ht;cases r with
   | nil=>exact ht.elim
   | cons r rs=>
     exact⟨_,_,rfl,_,τ,G,_,r,hs,hg,ht,λσ1 H1 τ1 G1 t1 s1 g1 q1=>⟨_,τ1,G1,q,rs.mono t1,s1,g1,q1,λσ2 H2 τ2 G2 t2=>hQ σ2 H2 τ2 G2 (t1.trans t2)⟩⟩
noncomputable def vG (n:Nat) (t:xI):WG:=λw τ G q=>match w with | .tup ws=>ws.length=n/\t ws τ G q | _=>False
theorem nW {t:xI} (hc:X.calm=true) (h:A0 X es t)
 (hn:(assignEach es X.env).length=es.length:=by rfl) (hst:(assignEach es X.env).findIdx? (·.1)=none:=by rfl):QG X (.Tuple es k pos) (vG es.length t):=
 (yH hc h hn hst).imp λv σ H Q ⟨w,τ,G,q,r,hs,hg,ht,hQ⟩=>by
   unfold vG at ht;cases r with
   | tup h r=>exact⟨_,_,rfl,dQ.of h,by rw[←r.length];exact ht.1,_,τ,G,q,r,hs,hg,ht.2,hQ⟩
   | _=>exact ht.elim
noncomputable def sP (te:WE) (g:WG):WS:=λd τ G=>te τ G λx G1=>g x τ G1 d.nx
theorem ao (i:Nat) {te:WE} {pos' pos:Pos} (hN:X.N.Nodup) (hi:X.N[i]?=some x) (hx:u9 X.env.scope x) (he:QE X e te) (hs:swapsWith e (some (.Name x pos')) pos.line X.env=pure false:=by rfl) (hf:X.fn x=true∨X.env.scope.names.lookup x=some .local:=by first | exact .inl rfl | exact .inr rfl | assumption):
 QS X (.Assign [.Name x pos'] e pos) (sP te (fe i)):=
 (yI hN hi hx he hs hf).imp λD σ H z0=>z0.el λτ G d hs hg ht l=>
   ⟨τ,G,_,hs,hg,ht,λv H1 w G1 t1 r1 g1 q1=>l.nx _ H1 _ G1 t1 ((hs.mono t1).set r1 i) g1 q1⟩
noncomputable def sQ (c:WT) (tb:WS):WS:=λd τ G=>∃I:Nat->dR->Gp->Prop,(∃m,I m τ G)/\∀m τ G,I m τ G->
 c τ G λb G1=>if b=true then ∃N:dR->Gp->Prop,(∀τ1 G1,N τ1 G1->∃m1,m1<m/\I m1 τ1 G1)/\tb { d with nx:=N,ct:=N,bk:=d.nx } τ G1 else d.nx τ G1
theorem dB {c:Expr} {tc:WT} {tb:WS} (hp:PassesOwn (model X.prog X.w) X.A X.env X.xe) (hc:QT X c tc) (hb:lV X body tb):QS X (.While c body [] pos) (sQ tc tb):=
 (r9 hp hc hb).imp λD σ H ⟨τ,G,d,hs,hg,⟨I,⟨m,i0⟩,turn⟩,l⟩=>by
   refine⟨λm σ1 H1=>∃τ1 G1,aW H H1/\bn X.K H1 τ1 σ1/\aS X.K H1 G1/\I m τ1 G1,⟨m,τ,G,aW.refl H,hs,hg,i0⟩,?_⟩;rintro m1 σ1 H1 ⟨τ1,G1,t1,s1,g1,i1⟩;refine⟨τ1,G1,_,s1,g1,turn m1 τ1 G1 i1,λb H2 G2 t2 g2 q2=>?_⟩;cases b with
   | true=>
     rw[ycv rfl] at q2 ⊢;obtain⟨N,hN,q2⟩:=q2;refine⟨λσ3 H3=>∃τ3 G3,aW H H3/\bn X.K H3 τ3 σ3/\aS X.K H3 G3/\N τ3 G3,?_,τ1,G2,_,s1.mono t2,g2,q2,?_⟩
     ·rintro σ3 H3 ⟨τ3,G3,t3,s3,g3,n3⟩;obtain⟨m3,hm,i3⟩:=hN τ3 G3 n3;exact⟨m3,hm,τ3,G3,t3,s3,g3,i3⟩
     ·have tt:=t1.trans t2;exact⟨λσ3 H3 τ3 G3 t3 s3 g3 q3=>⟨τ3,G3,tt.trans t3,s3,g3,q3⟩,λv H3 w G3 t3=>l.rt v H3 w G3 (tt.trans t3),λσ3 H3 τ3 G3 t3=>l.nx σ3 H3 τ3 G3 (tt.trans t3),λσ3 H3 τ3 G3 t3 s3 g3 q3=>⟨τ3,G3,tt.trans t3,s3,g3,q3⟩⟩
   | false=>
     rw[ycw ydx] at q2 ⊢;exact l.nx σ1 H2 τ1 G2 (t1.trans t2) (s1.mono t2) g2 q2
end
section
variable {X:Cx}
noncomputable abbrev WX:=Value->Gp->Prop
noncomputable abbrev bJ:=List W->Gp->WK->WX->Prop
noncomputable def uY (K:yav) (sp:bJ):Sp:=λvs H Q E=>∃ws G q e,aT K H ws vs/\aS K H G/\sp ws G q e/\(∀v H1 w G1,aW H H1->cr K H1 w v->aS K H1 G1->q w G1->Q v H1)/\
 ∀c d H1 G1,aW H H1->aS K H1 G1->e c G1->E c d H1
noncomputable abbrev cB (P:Program) (w:World) (K:yav) (mg:yew) (base:Heap) (k:Nat) (f:Addr) (fd:FuncData) (ps:List Str) (sp:bJ):Prop:=fS P w K mg base sK k f fd ps (uY K sp)
noncomputable def ii (sp:bJ) (dws:List W) (t:WA):WE:=λτ G q=>t τ G λws G1=>sp (ws++dws) G1 q λ_ _=>False
theorem gU.call {sp:bJ} {dws:List W} {dvs:List V} {t:WA} {σ:St} {H:Hp} {Q:VK} {E:XK} (hd:∀H,aT K H dws dvs) (h:gU K (ii sp dws t) σ H Q):sy (uY K sp) dvs E (LA K t) σ H Q:=by
 obtain⟨τ,G,q,hs,hg,ht,hQ⟩:=h;exact⟨τ,G,_,hs,hg,ht,λvs H1 ws G1 t1 r1 g1 q1=>⟨ws++dws,G1,q,_,r1.append (hd H1),g1,q1,λv H2 w G2 t2=>hQ v H2 w G2 (t1.trans t2),λ_ _ _ _ _ _ z=>z.elim⟩⟩
theorem vH {f:Addr} {sp:bJ} {p pos:Pos} {t:WA} (F:cB X.prog X.w X.K X.mg X.base k f fd ps sp) (hr:ay k X.A) (hg:Gl X x) (hm:X.mg x=some (.ref f))
 (hk:keepIn X.K (.ref f)=true) (hb:bL X.K fd ps []) (ha:QA X (e::es) t) (hdb:(x==("__debug__":Str))=false:=by decide)
 (he:starEach (e::es) X.env=(false,eval e X.env)::starEach es X.env:=by rfl) (hpl:(backTo pos (starEach es X.env)).any (·.1)=false:=by rfl):QE X (.Call (.Name x p) (e::es) [] pos) (ii sp [] t):=
 (kB F hr hg hm hk hb .nil jJ ha hdb he hpl).imp λ_ _ _ h=>h.call λ_=> .nil
theorem sR {f:Addr} {sp:bJ} {p pos:Pos} (F:cB X.prog X.w X.K X.mg X.base k f fd ps sp) (hr:ay k X.A) (hg:Gl X x) (hm:X.mg x=some (.ref f))
 (hk:keepIn X.K (.ref f)=true) (hb:bL X.K fd ps []) (hdb:(x==("__debug__":Str))=false:=by decide):QE X (.Call (.Name x p) [] [] pos) (ii sp [] sN):=
 (sB F hr hg hm hk hb .nil jJ hdb).imp λ_ _ _ h=>by
   obtain⟨τ,G,q,hs,hg,ht,hQ⟩:=h;exact⟨[],G,q,_,.nil,hg,ht,hQ,λ_ _ _ _ _ _ z=>z.elim⟩
noncomputable def gW (N:List Str) (ws:List W):dR:=ws.map some++List.replicate (N.length-ws.length) none
theorem cB.none {f:Addr} {sp:bJ} (h:∀ws G q e,¬sp ws G q e):cB P w K mg base k f fd ps sp:=
 ⟨λ_ _ _ _ ⟨_,_,_,_,_,_,z,_⟩=>absurd z (h _ _ _ _),λ_ _ _ _ _ _ _ _ _ _ _ _ _ ⟨_,_,_,_,_,_,z,_⟩=>absurd z (h _ _ _ _)⟩
theorem zg {x qual:Str} {f:Addr} {N ps:List Str} {sp:bJ} (F:cv K x qual st f fd) (S:bh N ps (al st)) (len:∀ws G q e,sp ws G q e->ws.length=ps.length)
 (hbody:∀(cdv:Value) (A:Around) (outer:List Env) (s:Shared) (H:Hp) (E:XK),ay k (A.deeper (envOfC qual (al st) s.heap.objs.size f cdv))->
   ∃t,lV (dq sK P w K mg base N qual (al st) f cdv A outer s H E).nox (aw st) t/\
    ∀(ws:List W) (G:Gp) (q:WK) (e:WX),sp ws G q e->t { nx:=λ_ G1=>∃G0,aC G0 G1/\q .non G0,rt:=λw G1=>∃G0,aC G0 G1/\q w G0 } (gW N ws) G):cB P w K mg base (k+1) f fd ps sp:=by
 refine F.ok S (λvs H Q E ⟨ws,G,q,e,r,g,z,_⟩=>by rw[←r.length];exact len _ _ _ _ z) (λcdv A outer s H vs Q E hr ⟨ws,G,q,e,r,g,z,hQ,_⟩=>?_);obtain⟨t,ht,hq⟩:=hbody cdv A outer s H E hr;exact⟨_,ht,_,G,_,bn.start r,g,hq ws G q e z,⟨λσ1 H1 τ1 G1 t1 s1 g1 ⟨G0,l,q1⟩=>hQ .non H1 .non G0 t1 .non (g1.le l) q1,λv H1 w G1 t1 r1 g1 ⟨G0,l,q1⟩=>hQ v H1 w G0 t1 r1 (g1.le l) q1,λ_ _ _ _ _ _ _ z=>z.elim,λ_ _ _ _ _ _ _ z=>z.elim⟩⟩
noncomputable def xO (K:yav) (r:List W->Gp->WK->Prop):List V->Hp->VK->Prop:=λvs H Q=>∃ws G q,aT K H ws vs/\aS K H G/\r ws G q/\∀v H1 w G1,aW H H1->cr K H1 w v->aS K H1 G1->q w G1->Q v H1
noncomputable def eC (X:Cx) (f:Value) (r:List W->Gp->WK->Prop):Prop:=fM X f (xO X.K r)
noncomputable def Dd (r:List W->Gp->WK->Prop) (t:WA):WE:=λτ G q=>t τ G λws G1=>r ws G1 q
theorem gU.cb {r:List W->Gp->WK->Prop} {t:WA} {σ:St} {H:Hp} {Q:VK} (h:gU K (Dd r t) σ H Q):DG (xO K r) (LA K t) σ H Q:=by
 obtain⟨τ,G,q,hs,hg,ht,hQ⟩:=h;exact⟨τ,G,_,hs,hg,ht,λvs H1 ws G1 t1 r1 g1 q1=>⟨ws,G1,q,r1,g1,q1,λv H2 w G2 t2=>hQ v H2 w G2 (t1.trans t2)⟩⟩
theorem aR {id:String} {r:List W->Gp->WK->Prop} {p pos:Pos} {t:WA} (hc:eC X (.builtin id) r) (hg:Gl X x) (hm:X.mg x=none) (hv:bootBuiltins x=some (.builtin id)) (ha:QA X (e::es) t)
 (hn:x≠"__name__":=by decide) (hdb:(x==("__debug__":Str))=false:=by decide)
 (he:starEach (e::es) X.env=(false,eval e X.env)::starEach es X.env:=by rfl) (hpl:(backTo pos (starEach es X.env)).any (·.1)=false:=by rfl):QE X (.Call (.Name x p) (e::es) [] pos) (Dd r t):=
 (iP hc hg hm hv ha hn hdb he hpl).imp λ_ _ _ h=>h.cb
theorem cU {T:String} {r:List W->Gp->WK->Prop} {p pos:Pos} {t:WA} (hc:eC X (.type T) r) (hg:Gl X x) (hm:X.mg x=none) (hv:bootBuiltins x=some (.type T)) (ha:QA X (e::es) t)
 (hn:x≠"__name__":=by decide) (hdb:(x==("__debug__":Str))=false:=by decide)
 (he:starEach (e::es) X.env=(false,eval e X.env)::starEach es X.env:=by rfl) (hpl:(backTo pos (starEach es X.env)).any (·.1)=false:=by rfl):QE X (.Call (.Name x p) (e::es) [] pos) (Dd r t):=
 (qQ hc hg hm hv ha hn hdb he hpl).imp λ_ _ _ h=>h.cb
theorem aT.one {H:Hp} {w:W} {vs:List V} (r:aT K H [w] vs):∃v,vs=[v]/\cr K H w v:=by
 cases r with
 | cons r rs=>cases rs;exact⟨_,rfl,r⟩
theorem aT.two {H:Hp} {w u:W} {vs:List V} (r:aT K H [w,u] vs):∃v x,vs=[v,x]/\cr K H w v/\cr K H u x:=by
 cases r with
 | cons r rs=>
   obtain⟨x,rfl,r2⟩:=rs.one;exact⟨_,_,rfl,r,r2⟩
noncomputable def Bd:List W->Gp->WK->Prop:=λws G q=>match ws with
 | [.tup xs]=>q (.int xs.length) G
 | [.scr ns]=>q (.int ns.length) G
 | [.ref a]=>∃xs,G a=some (.lst xs)/\q (.int xs.length) G
 | _=>False
theorem xP:eC X (.builtin "len") Bd:=by
 rintro π s σ H xs us Q I r ⟨ws,G,q,rw',g,h,hQ⟩;cases rw' with
 | nil=>exact False.elim h
 | cons r1 rr'=>
   cases rr' with
   | cons _ _=>cases r1<;> exact False.elim h
   | nil=>
     cases r1 with
     | tup hh rr=>exact eO π s σ H _ us Q I r ⟨_,_,rfl,.inr (dQ.of hh),hQ _ H _ G (aW.refl H) (by rw[rr.length];exact .int _) g h⟩
     | scr hh=>exact eO π s σ H _ us Q I r ⟨_,_,rfl,.inl hh.sq,hQ _ H _ G (aW.refl H) (by rw[length_map];exact .int _) g h⟩
     | ref a=>
       obtain⟨ys,e,h⟩:=h;obtain⟨_,zs,e1,rr⟩:=g a _ e;exact eO π s σ H _ us Q I r ⟨_,_,rfl,.inl (dP.of e1),hQ _ H _ G (aW.refl H) (by rw[rr.length];exact .int _) g h⟩
     | _=>exact False.elim h
noncomputable def sS:List W->Gp->WK->Prop:=λws G q=>match ws with
 | [.tup xs]=>q (.tup xs) G
 | [.ref a]=>∃xs,G a=some (.lst xs)/\q (.tup xs) G
 | _=>False
theorem iA:eC X (.type "tuple") sS:=by
 rintro π s σ H xs us Q I r ⟨ws,G,q,rw',g,h,hQ⟩;cases rw' with
 | nil=>exact False.elim h
 | cons r1 rr'=>
   cases rr' with
   | cons _ _=>cases r1<;> exact False.elim h
   | nil=>
     cases r1 with
     | tup hh rr=>exact fN π s σ H _ us Q I r ⟨_,_,rfl,.inr ⟨dQ.of hh,hQ _ H _ G (aW.refl H) (.tup hh rr) g h⟩⟩
     | ref a=>
       obtain⟨ys,e,h⟩:=h;obtain⟨_,zs,e1,rr⟩:=g a _ e;exact fN π s σ H _ us Q I r ⟨_,_,rfl,.inl ⟨dP.of e1,λl hl=>hQ _ _ _ G (aW.new hl _) (.tup bt (rr.mono (aW.new hl _))) (g.keep hl _) h⟩⟩
     | _=>exact False.elim h
noncomputable def zh:List W->Gp->WK->Prop:=λws G q=>match ws with
 | [.int i]=>q (.int i) G
 | [.bl b]=>q (.int (if b then 1 else 0)) G
 | _=>False
theorem Be:eC X (.type "int") zh:=by
 rintro π s σ H xs us Q I r ⟨ws,G,q,rw',g,h,hQ⟩;cases rw' with
 | nil=>exact False.elim h
 | cons r1 rr'=>
   cases rr' with
   | cons _ _=>cases r1<;> exact False.elim h
   | nil=>
     cases r1 with
     | int i=>exact jD π s σ H _ us Q I r (.inl ⟨_,rfl,hQ _ H _ G (aW.refl H) (.int _) g h⟩)
     | bl b=>exact jD π s σ H _ us Q I r (.inr ⟨_,rfl,hQ _ H _ G (aW.refl H) (.int _) g h⟩)
     | _=>exact False.elim h
noncomputable def Bf:W2:=λx y G q=>match x,y with
 | .int i,.int j=>q (.int (i+j)) G
 | .tup xs,.tup ys=>xs.length+ys.length<=100000/\q (.tup (xs++ys)) G
 | .ref a,.ref b=>∃xs ys,G a=some (.lst xs)/\G b=some (.lst ys)/\xs.length+ys.length<=100000/\∀p,G p=none->q (.ref p) (aX G p (.lst (xs++ys)))
 | _,_=>False
theorem DT {σ:St} {H:Hp} {a b:Addr} {ys:List V} {Q:VK} (I:aJ X π σ H s) (ha:H a=some (.tup [])) (hb:H b=some (.tup ys)) (q:Q (.ref b) H):wpAny (model X.prog X.w) X.A (binaryOp .Add (.ref a) (.ref b)) (EP X π σ Q) X.xe s:=by
 obtain⟨its,r1,p1,_⟩:=I.tuple (dQ.of ha);obtain⟨its2,r2,p2,_⟩:=I.tuple (dQ.of hb);cases r1;obtain⟨⟨cls,dd,data,sl⟩,ho,hc,n,hd⟩:=id p1;obtain⟨⟨cls2,dd2,data2,sl2⟩,ho2,hc2,n2,hd2⟩:=id p2;simp only at hc hd hc2 hd2;subst hc hd hc2 hd2;exact concat_meets ⟨_,ho,rfl⟩ ⟨_,ho2,rfl⟩ noFill_tuple_add seq_tuple_add PySem.F.slot_tuple_add PySem.F.entry_tuple_add (PySem.F.args_tuple_add_2 _ _)
  (tuple_addW0 a b #[] its2.toArray n n2 dd dd2 sl sl2 rfl) ⟨ho,ho2,⟨.ref b,H,I,rfl,q⟩⟩
theorem Bg:fi X (binaryOp .Add) Bf:=by
 rintro π s σ H x y v u Q I rx ry ⟨wx,wy,G,q,r1,r2,g,h,hQ⟩;cases r1 with
 | int i=>
   cases r2 with
   | int j=>exact yN π s σ H _ _ v u Q I rx ry ⟨_,_,rfl,rfl,hQ _ H _ G (aW.refl H) (.int _) g h⟩
   | _=>exact False.elim h
 | @tup a ws xs ha ra=>
   cases r2 with
   | @tup b us ys hb rb=>
     cases xs with
     | nil=>
       cases ra;cases rx;cases ry;exact DT I ha hb (hQ _ H _ G (aW.refl H) (.tup hb rb) g h.2)
     | cons x0 xr=>
       refine vz π s σ H _ _ v u Q I rx ry ⟨a,b,_,_,rfl,rfl,dQ.of ha,dQ.of hb,by simp,by rw[←ra.length,←rb.length];exact bW h.1,λe=>?_,λ_ p hp=>?_⟩
       ·subst e;cases rb;have h2:=h.2;rw[append_nil] at h2;exact hQ _ H _ G (aW.refl H) (.tup ha ra) g h2
       ·exact hQ _ _ _ G (aW.new hp _) (.tup bt ((ra.append rb).mono (aW.new hp _))) (g.keep hp _) h.2
   | _=>exact False.elim h
 | ref a=>
   cases r2 with
   | ref b=>
     obtain⟨xs,ys,ea,eb,hl,h⟩:=h;obtain⟨_,xs',ha,ra⟩:=g _ _ ea;obtain⟨_,ys',hb,rb⟩:=g _ _ eb;refine y6 π s σ H _ _ v u Q I rx ry ⟨_,_,_,_,rfl,rfl,ha,hb,by rw[←ra.length,←rb.length];exact bW hl,λp hp=>?_⟩;exact hQ _ _ _ _ (aW.new hp _) (.ref p) (g.put (aW.new hp _) (ra.append rb) (by rw[length_append];exact hl)) (h p (g.fresh hp))
   | _=>exact False.elim h
 | _=>exact False.elim h
noncomputable def qW (C:Int->Int->Prop) (f:Int->Int->W):W2:=λx y G q=>match x,y with
 | .int i,.int j=>C i j/\q (f i j) G
 | _,_=>False
theorem nX {f:Value->Value->Sem Value} {C:Int->Int->Prop} {g:Int->Int->Int} (h:gt X f (rI C λi j=> .int (g i j))):fi X f (qW C λi j=> .int (g i j)):=by
 rintro π s σ H x y v u Q I rx ry ⟨wx,wy,G,q,r1,r2,gg,hh,hQ⟩;unfold qW at hh;split at hh
 ·cases r1;cases r2;exact h π s σ H _ _ v u Q I rx ry ⟨_,_,rfl,rfl,hh.1,hQ _ H _ G (aW.refl H) (.int _) gg hh.2⟩
 ·exact hh.elim
noncomputable def iU (f:Int->Int->W):W2:=λx y G q=>match x,y with
 | .int i,.int j=>q (f i j) G
 | _,_=>False
theorem ph {f:Value->Value->Sem Value} {g:Int->Int->Bool} (h:gt X f (vi λi j=> .bl (g i j))):fi X f (iU λi j=> .bl (g i j)):=by
 rintro π s σ H x y v u Q I rx ry ⟨wx,wy,G,q,r1,r2,gg,hh,hQ⟩;unfold iU at hh;split at hh
 ·cases r1;cases r2;exact h π s σ H _ _ v u Q I rx ry ⟨_,_,rfl,rfl,hQ _ H _ G (aW.refl H) (.bl _) gg hh⟩
 ·exact hh.elim
noncomputable abbrev DU:W2:=qW (λ_ j=>0<j) λi j=> .int (i%j)
theorem cy:fi X (binaryOp .Mod) DU:=nX yP
noncomputable abbrev FG:W2:=iU λi j=> .bl (decide (i<j))
noncomputable abbrev FH:W2:=iU λi j=> .bl (decide (i<=j))
noncomputable abbrev FI:W2:=iU λi j=> .bl (decide (j<i))
noncomputable abbrev FJ:W2:=iU λi j=> .bl (decide (j<=i))
theorem DV:fi X (compareOp .Lt) FG:=ph xD
theorem sT:fi X (compareOp .LtE) FH:=ph AQ
theorem gv:fi X (compareOp .Gt) FI:=ph AR
theorem zk:fi X (compareOp .GtE) FJ:=ph AS
noncomputable def Bh:W2:=λx y G q=>match x,y with
 | .tup xs,.int i=>∃w,ei xs i=some w/\q w G
 | .scr ns,.int i=>∃n,ei ns i=some n/\q (.int n) G
 | .ref a,.int i=>∃xs w,G a=some (.lst xs)/\ei xs i=some w/\q w G
 | _,_=>False
theorem aT.at {H:Hp} {ws:List W} {vs:List V} {i:Int} {w:W} (r:aT K H ws vs) (e:ei ws i=some w):∃v,ei vs i=some v/\cr K H w v:=by
 unfold ei at e ⊢;rw[r.length] at e;cases h:sG vs.length i with
 | none=>rw[h] at e;cases e
 | some j=>
   rw[h] at e;exact r.get e
theorem vI {α β:Type} (f:α->β) (xs:List α) (i:Int):ei (xs.map f) i=(ei xs i).map f:=by
 unfold ei;rw[length_map];cases sG xs.length i with
 | none=>rfl
 | some j=>simp
theorem DW:A5 X Bh:=by
 rintro value slice π s σ H x y v u Q I rx ry ⟨wx,wy,G,q,r1,r2,g,h,hQ⟩ hsl;cases r2 with
 | int i=>
   cases r1 with
   | tup hh rr=>
     obtain⟨w,e,h⟩:=h;obtain⟨v',e',r'⟩:=rr.at e;exact yZ value slice π s σ H _ _ v u Q I rx ry ⟨_,_,_,v',rfl,rfl,dQ.of hh,e',hQ _ H _ G (aW.refl H) r' g h⟩ hsl
   | scr hh=>
     obtain⟨n,e,h⟩:=h;exact o7 value slice π s σ H _ _ v u Q I rx ry ⟨_,_,_,.int n,rfl,rfl,hh.sq,by rw[vI,e];rfl,hQ _ H _ G (aW.refl H) (.int n) g h⟩ hsl
   | ref a=>
     obtain⟨xs,w,ea,e,h⟩:=h;obtain⟨_,zs,e1,rr⟩:=g _ _ ea;obtain⟨v',e',r'⟩:=rr.at e;exact o7 value slice π s σ H _ _ v u Q I rx ry ⟨_,_,_,v',rfl,rfl,dP.of e1,e',hQ _ H _ G (aW.refl H) r' g h⟩ hsl
   | _=>exact False.elim h
 | _=>cases r1<;> exact False.elim h
end
mutual
noncomputable def W.flat:W->Bool
 | .tup xs=>W.flats xs
 | .ref _=>false
 | .scr _=>false
 | _=>true
noncomputable def W.flats:List W->Bool
 | []=>true
 | x::xs=>W.flat x&&W.flats xs
end
mutual
noncomputable def W.dep:W->Nat
 | .tup xs=>W.deps xs+1
 | _=>0
noncomputable def W.deps:List W->Nat
 | []=>0
 | x::xs=>max (W.dep x) (W.deps xs)
end
mutual
noncomputable def W.eq:W->W->Bool
 | .non,.non=>true
 | .bl a,.bl b=>a==b
 | .bl a,.int j=>(if a then 1 else 0)==j
 | .int i,.bl b=>i==(if b then 1 else 0)
 | .int i,.int j=>i==j
 | .str x,.str y=>x==y
 | .tup xs,.tup ys=>W.eqs xs ys
 | _,_=>false
noncomputable def W.eqs:List W->List W->Bool
 | [],[]=>true
 | x::xs,y::ys=>W.eq x y&&W.eqs xs ys
 | _,_=>false
end
theorem du {P:Prop} (h:false=true):P:=Bool.noConfusion h
theorem W.eq_int (i j:Int):(W.int i).eq (W.int j)=(i==j):=rfl
theorem W.eq_tup (xs ys:List W):(W.tup xs).eq (W.tup ys)=W.eqs xs ys:=rfl
mutual
theorem W.eq_refl:∀w:W,w.flat=true->w.eq w=true
 | .non,_=>rfl
 | .bl b,_=>beq_self_eq_true b
 | .int i,_=>beq_self_eq_true i
 | .str x,_=>beq_self_eq_true x
 | .tup xs,h=>W.eqs_refl xs h
 | .ref _,h=>du h
 | .scr _,h=>du h
theorem W.eqs_refl:∀ws:List W,W.flats ws=true->W.eqs ws ws=true
 | [],_=>rfl
 | x::xs,h=>by
   have h':x.flat=true/\W.flats xs=true:=(Bool.and_eq_true _ _).mp h;exact(Bool.and_eq_true _ _).mpr ⟨W.eq_refl x h'.1,W.eqs_refl xs h'.2⟩
end
mutual
theorem cr.inj {K:yav} {H:Hp}:∀{w u:W} {v:V},w.flat=true->u.flat=true->cr K H w v->cr K H u v->w=u:=by
 intro w u v h1 h2 r1 r2;cases r1 with
 | non=>cases r2;rfl
 | bl _=>cases r2;rfl
 | int _=>cases r2;rfl
 | str _=>cases r2;rfl
 | ref _=>exact du h1
 | scr _=>exact du h1
 | tup e1 r1=>
   cases r2 with
   | ref _=>exact du h2
   | scr _=>exact du h2
   | tup e2 r2=>
     rw[e1] at e2;cases e2;rw[aT.inj h1 h2 r1 r2]
theorem aT.inj {K:yav} {H:Hp}:∀{ws us:List W} {vs:List V},W.flats ws=true->W.flats us=true->aT K H ws vs->aT K H us vs->ws=us:=by
 intro ws us vs h1 h2 r1 r2;cases r1 with
 | nil=>cases r2;rfl
 | cons r1 s1=>
   cases r2 with
   | cons r2 s2=>
     simp only[W.flats,Bool.and_eq_true] at h1 h2;rw[cr.inj h1.1 h2.1 r1 r2,aT.inj h1.2 h2.2 s1 s2]
end
theorem W.flats_get:∀{ws:List W} {j:Nat} {w:W},W.flats ws=true->ws[j]?=some w->w.flat=true
 | [],_,_,_,e=>by simp at e
 | x::xs,0,w,h,e=>by
   have h':x.flat=true/\W.flats xs=true:=by simpa[W.flats] using h
   simp at e;subst e;exact h'.1
 | x::xs,j+1,w,h,e=>by
   have h':x.flat=true/\W.flats xs=true:=by simpa[W.flats] using h
   exact W.flats_get h'.2 (by simpa using e)
theorem W.deps_get:∀{ws:List W} {j:Nat} {w:W},ws[j]?=some w->w.dep<=W.deps ws
 | [],_,_,e=>by simp at e
 | x::xs,0,w,e=>by simp at e;subst e;simp[W.deps];lia
 | x::xs,j+1,w,e=>by
   have:=W.deps_get (ws:=xs) (j:=j) (w:=w) (by simpa using e);simp only[W.deps];(clear e;lia)
theorem W.eqs_iff:∀(ws us:List W),W.eqs ws us=true↔ws.length=us.length/\∀(j:Nat) (a b:W),ws[j]?=some a->us[j]?=some b->W.eq a b=true
 | [],[]=>by simp[W.eqs]
 | [],_::_=>by simp[W.eqs]
 | _::_,[]=>by simp[W.eqs]
 | x::xs,y::ys=>by
   rw[W.eqs,Bool.and_eq_true,W.eqs_iff xs ys];constructor
   ·rintro⟨h1,h2,h3⟩;refine⟨by simp[h2],λj a b ea eb=>?_⟩;cases j with
    | zero=>simp at ea eb;subst ea eb;exact h1
    | succ j=>exact h3 j a b (by simpa using ea) (by simpa using eb)
   ·rintro⟨h1,h2⟩;exact⟨h2 0 x y rfl rfl,by simpa using h1,λj a b ea eb=>h2 (j+1) a b (by simpa using ea) (by simpa using eb)⟩
noncomputable def iV (ws us:List W) (j:Nat):Bool:=match ws[j]?,us[j]? with | some a,some b=>W.eq a b | _,_=>true
theorem fG (ws us:List W):((List.range (min ws.length us.length)).all (iV ws us)&&(ws.length==us.length))=W.eqs ws us:=by
 rw[Bool.eq_iff_iff,Bool.and_eq_true,W.eqs_iff,List.all_eq_true,beq_iff_eq];constructor
 ·rintro⟨h1,h2⟩;refine⟨h2,λj a b ea eb=>?_⟩;have hj:j<ws.length:=(List.getElem?_eq_some_iff.mp ea).1;have:=h1 j (List.mem_range.mpr (by (clear ea eb;lia)));unfold iV at this;rw[ea,eb] at this;exact this
 ·rintro⟨h1,h2⟩;refine⟨λj _=>?_,h1⟩;unfold iV;split
  ·rename_i a b ea eb;exact h2 j a b ea eb
  ·rfl
section
variable {X:Cx} {π:List (Addr×Obj)} {σ:St} {H:Hp} {s:Shared}
theorem aJ.tupH {xs:List V} (I:aJ X π σ H s) (h:H a=some (.tup xs)):∃its:List Value,aY xs its/\s.heap.IsTuple a its.toArray/\xs.length<=sizeLine:=I.tuple (dQ.of h)
theorem fU (I:aJ X π σ H s):∀(n:Nat) (A:Around) {w1 w2:W} {v1 v2:V} {u1 u2:Value},w1.dep<n->w1.flat=true->w2.flat=true->A.units+n<cLine->cr X.K H w1 v1->cr X.K H w2 v2->bo v1 u1->bo v2 u2->
 SeqAt.EqAt A s u1 u2 (w1.eq w2)/\SeqAt.RcAt A s u1 u2 (w1.eq w2)/\SeqAt.RcNeAt A s u1 u2 (!(w1.eq w2)):=by
 intro n
 induction n with
 | zero=>intro A w1 w2 v1 v2 u1 u2 h;lia
 | succ n ih=>
   intro A w1 w2 v1 v2 u1 u2 hd f1 f2 hu r1 r2 q1 q2;have hu0:A.units<cLine:=by lia
   have hui:A.in1.units+n<cLine:=by show A.units+1+n<cLine;(clear hd hu0;lia)
   cases r1 with
   | ref a=>exact du f1
   | scr a=>exact du f1
   | non=>
     cases (show u1=Value.none from q1);cases r2 with
     | ref a=>exact du f2
     | scr a=>exact du f2
     | non=>cases (show u2=Value.none from q2);exact⟨SeqAt.EqAt.same _,SeqAt.RcAt.none_none,SeqAt.RcNeAt.none_none⟩
     | bl b=>cases (show u2=Value.bool b from q2);exact⟨SeqAt.EqAt.none_bool b,SeqAt.RcAt.none_bool b,SeqAt.RcNeAt.none_bool b⟩
     | int b=>obtain⟨t,rfl⟩:=q2;exact⟨SeqAt.EqAt.none_int b t,SeqAt.RcAt.none_int b t,SeqAt.RcNeAt.none_int b t⟩
     | str b=>obtain⟨t,rfl⟩:=q2;exact⟨SeqAt.EqAt.none_str b t,SeqAt.RcAt.none_str b t,SeqAt.RcNeAt.none_str b t⟩
     | tup h r=>
       cases (show u2=Value.ref _ from q2);obtain⟨its,_,p,_⟩:=aJ.tupH I h;exact⟨SeqAt.EqAt.none_tuple p hu0,SeqAt.RcAt.none_tuple p hu0,SeqAt.RcNeAt.none_tuple p hu0⟩
   | bl a=>
     cases (show u1=Value.bool a from q1);cases r2 with
     | ref a=>exact du f2
     | scr a=>exact du f2
     | non=>cases (show u2=Value.none from q2);exact⟨SeqAt.EqAt.bool_none a,SeqAt.RcAt.bool_none a,SeqAt.RcNeAt.bool_none a⟩
     | bl b=>cases (show u2=Value.bool b from q2);exact⟨SeqAt.EqAt.bool_bool a b,SeqAt.RcAt.bool_bool a b,SeqAt.RcNeAt.bool_bool a b⟩
     | int b=>obtain⟨t,rfl⟩:=q2;exact⟨SeqAt.EqAt.bool_int a b t,SeqAt.RcAt.bool_int a b t,SeqAt.RcNeAt.bool_int a b t⟩
     | str b=>obtain⟨t,rfl⟩:=q2;exact⟨SeqAt.EqAt.bool_str a b t,SeqAt.RcAt.bool_str a b t,SeqAt.RcNeAt.bool_str a b t⟩
     | tup h r=>
       cases (show u2=Value.ref _ from q2);obtain⟨its,_,p,_⟩:=aJ.tupH I h;exact⟨SeqAt.EqAt.bool_tuple a p hu0,SeqAt.RcAt.bool_tuple a p hu0,SeqAt.RcNeAt.bool_tuple a p hu0⟩
   | int a=>
     obtain⟨ta,rfl⟩:=q1;cases r2 with
     | ref a=>exact du f2
     | scr a=>exact du f2
     | non=>cases (show u2=Value.none from q2);exact⟨SeqAt.EqAt.int_none a ta,SeqAt.RcAt.int_none a ta,SeqAt.RcNeAt.int_none a ta⟩
     | bl b=>cases (show u2=Value.bool b from q2);exact⟨SeqAt.EqAt.int_bool a ta b,SeqAt.RcAt.int_bool a ta b,SeqAt.RcNeAt.int_bool a ta b⟩
     | int b=>obtain⟨t,rfl⟩:=q2;exact⟨SeqAt.EqAt.int_int a ta b t,SeqAt.RcAt.int_int a ta b t,SeqAt.RcNeAt.int_int a ta b t⟩
     | str b=>obtain⟨t,rfl⟩:=q2;exact⟨SeqAt.EqAt.int_str a ta b t,SeqAt.RcAt.int_str a ta b t,SeqAt.RcNeAt.int_str a ta b t⟩
     | tup h r=>
       cases (show u2=Value.ref _ from q2);obtain⟨its,_,p,_⟩:=aJ.tupH I h;exact⟨SeqAt.EqAt.int_tuple a ta p hu0,SeqAt.RcAt.int_tuple a ta p hu0,SeqAt.RcNeAt.int_tuple a ta p hu0⟩
   | str a=>
     obtain⟨ta,rfl⟩:=q1;cases r2 with
     | ref a=>exact du f2
     | scr a=>exact du f2
     | non=>cases (show u2=Value.none from q2);exact⟨SeqAt.EqAt.str_none a ta,SeqAt.RcAt.str_none a ta,SeqAt.RcNeAt.str_none a ta⟩
     | bl b=>cases (show u2=Value.bool b from q2);exact⟨SeqAt.EqAt.str_bool a ta b,SeqAt.RcAt.str_bool a ta b,SeqAt.RcNeAt.str_bool a ta b⟩
     | int b=>obtain⟨t,rfl⟩:=q2;exact⟨SeqAt.EqAt.str_int a ta b t,SeqAt.RcAt.str_int a ta b t,SeqAt.RcNeAt.str_int a ta b t⟩
     | str b=>obtain⟨t,rfl⟩:=q2;exact⟨SeqAt.EqAt.str_str a ta b t,SeqAt.RcAt.str_str a ta b t,SeqAt.RcNeAt.str_str a ta b t⟩
     | tup h r=>
       cases (show u2=Value.ref _ from q2);obtain⟨its,_,p,_⟩:=aJ.tupH I h;exact⟨SeqAt.EqAt.str_tuple a ta p hu0,SeqAt.RcAt.str_tuple a ta p hu0,SeqAt.RcNeAt.str_tuple a ta p hu0⟩
   | @tup a ws xs h r=>
     cases (show u1=Value.ref _ from q1);obtain⟨its,rv,p,_⟩:=aJ.tupH I h;cases r2 with
     | ref a=>exact du f2
     | scr a=>exact du f2
     | non=>cases (show u2=Value.none from q2);exact⟨SeqAt.EqAt.tuple_none p hu0,SeqAt.RcAt.tuple_none p hu0,SeqAt.RcNeAt.tuple_none p hu0⟩
     | bl b=>cases (show u2=Value.bool b from q2);exact⟨SeqAt.EqAt.tuple_bool b p hu0,SeqAt.RcAt.tuple_bool b p hu0,SeqAt.RcNeAt.tuple_bool b p hu0⟩
     | int b=>obtain⟨t,rfl⟩:=q2;exact⟨SeqAt.EqAt.tuple_int b t p hu0,SeqAt.RcAt.tuple_int b t p hu0,SeqAt.RcNeAt.tuple_int b t p hu0⟩
     | str b=>obtain⟨t,rfl⟩:=q2;exact⟨SeqAt.EqAt.tuple_str b t p hu0,SeqAt.RcAt.tuple_str b t p hu0,SeqAt.RcNeAt.tuple_str b t p hu0⟩
     | @tup b us ys h2 r2=>
       cases (show u2=Value.ref _ from q2);obtain⟨its2,rv2,p2,_⟩:=aJ.tupH I h2;have g1:W.flats ws=true:=f1;have g2:W.flats us=true:=f2;have hd':W.deps ws<n:=by simp only[W.dep] at hd;(clear hu hu0 hui;lia)
       have e1:its.length=ws.length:=by rw[←rv.length,r.length]
       have e2:its2.length=us.length:=by rw[←rv2.length,r2.length]
       have he:∀j (h1:j<its.toArray.size) (h2:j<its2.toArray.size),SeqAt.EqAt A.in1 s its.toArray[j] its2.toArray[j] (iV ws us j):=λj j1 j2=>by
        rw[size_toArray] at j1 j2;have ea:ws[j]?=some ws[j]:=ycz (by (clear hu hu0 hui hd hd' e2 j2;lia));have eb:us[j]?=some us[j]:=ycz (by lia);obtain⟨va,ea1,ra⟩:=r.get ea;obtain⟨vb,eb1,rb⟩:=r2.get eb;obtain⟨ua,ea2,qa⟩:=rv.get ea1;obtain⟨ub,eb2,qb⟩:=rv2.get eb1;have za:its.toArray[j]=ua:=by
         have:=(List.getElem?_eq_some_iff.mp ea2).2;simpa using this
        have zb:its2.toArray[j]=ub:=by
         have:=(List.getElem?_eq_some_iff.mp eb2).2;simpa using this
        rw[za,zb];have:=(ih A.in1 (w1:=ws[j]) (w2:=us[j]) (Nat.lt_of_le_of_lt (W.deps_get ea) hd') (W.flats_get g1 ea) (W.flats_get g2 eb) hui ra rb qa qb).1;unfold iV;rw[ea,eb];exact this
       have er:=fG ws us;have c1:=SeqAt.RcAt.tuples p p2 hu0 he;have c2:=SeqAt.RcNeAt.tuples p p2 hu0 he;rw[size_toArray,size_toArray,e1,e2,er] at c1 c2;have ee:(W.tup ws).eq (W.tup us)=W.eqs ws us:=rfl;rw[ee];refine⟨?_,c1,c2⟩
       by_cases hab:a=b
       ·subst hab;have z:=cr.inj f1 f2 (cr.tup h r) (cr.tup h2 r2);have t:W.eqs ws us=true:=by
         cases z;exact W.eqs_refl ws g1
        rw[t];exact SeqAt.EqAt.same _
       ·exact SeqAt.EqAt.of_refs hab c1
end
section
variable {X:Cx}
noncomputable def vJ:W2:=λx y G q=>x.flat=true/\y.flat=true/\x.dep<=150/\q (.bl (x.eq y)) G
noncomputable def vK:W2:=λx y G q=>x.flat=true/\y.flat=true/\x.dep<=150/\q (.bl (!(x.eq y))) G
theorem zm (hr:ay k X.A):fi X (compareOp .Eq) vJ:=by
 rintro π s σ H x y v u Q I rx ry ⟨wx,wy,G,q,r1,r2,g,⟨f1,f2,hd,h⟩,hQ⟩;exact(fU I 151 X.A (by lia) f1 f2 (by have:=hr.un;(clear hd;lia)) r1 r2 rx ry).2.1 X.prog X.w X.xe _ ⟨.bl _,H,I,rfl,hQ _ H _ G (aW.refl H) (.bl _) g h⟩
theorem zn (hr:ay k X.A):fi X (compareOp .NotEq) vK:=by
 rintro π s σ H x y v u Q I rx ry ⟨wx,wy,G,q,r1,r2,g,⟨f1,f2,hd,h⟩,hQ⟩;exact(fU I 151 X.A (by lia) f1 f2 (by have:=hr.un;(clear hd;lia)) r1 r2 rx ry).2.2 X.prog X.w X.xe _ ⟨.bl _,H,I,rfl,hQ _ H _ G (aW.refl H) (.bl _) g h⟩
noncomputable def sU:W2:=λx y G q=>match x,y with
 | .int i,.int j=>q (.int (i-j)) G
 | .bl a,.bl b=>q (.int (b2i a-b2i b)) G
 | _,_=>False
theorem pk:fi X (binaryOp .Sub) sU:=by
 rintro π s σ H x y v u Q I rx ry ⟨wx,wy,G,q,r1,r2,g,h,hQ⟩;cases r1 with
 | int i=>
   cases r2 with
   | int j=>exact yO π s σ H _ _ v u Q I rx ry ⟨_,_,rfl,rfl,hQ _ H _ G (aW.refl H) (.int _) g h⟩
   | _=>exact False.elim h
 | bl a=>
   cases r2 with
   | bl b=>
     cases rx;cases ry;exact sub_bool ⟨.int _,H,I.tok _,⟨_,rfl⟩,hQ _ H _ G (aW.refl H) (.int _) g h⟩
   | _=>exact False.elim h
 | _=>exact False.elim h
noncomputable def gy:W->Bool
 | .non=>true
 | _=>false
noncomputable def Bi (neg:Bool):W2:=λx y G q=>y=.non/\q (.bl (neg ^^ gy x)) G
theorem pp:fi X (compareOp .Is) (Bi false):=by
 rintro π s σ H x y v u Q I rx ry ⟨wx,wy,G,q,r1,r2,g,⟨e,h⟩,hQ⟩;subst e;cases r2;refine yS π s σ H _ _ v u Q I rx ry ⟨rfl,?_⟩;have z:decide (x=V.non)=gy wx:=by cases r1<;> simp[gy]
 rw[z];exact hQ _ H _ G (aW.refl H) (.bl _) g (by simpa using h)
noncomputable abbrev WO:=dR->Gp->(Option Int->Gp->Prop)->Prop
noncomputable def LO (K:yav) (t:WO):TO:=λσ H Q=>∃τ G q,bn K H τ σ/\aS K H G/\t τ G q/\∀o H1 G1,aW H H1->aS K H1 G1->q o G1->Q o H1
noncomputable def QO (X:Cx) (e:Option Expr) (t:WO):Prop:=PO X e (LO X.K t)
theorem PO.imp {e:Option Expr} {t t':TO} (h:PO X e t) (f:∀σ H Q,t' σ H Q->t σ H Q):PO X e t':=λπ s σ H Q I q=>h π s σ H Q I (f _ _ _ q)
noncomputable def pq:WO:=λ_ G q=>q none G
noncomputable def xQ (t:WE):WO:=λτ G q=>t τ G λx G1=>match x with | .int i=>q (some i) G1 | _=>False
theorem bK:QO X none pq:=po_none.imp λσ H Q ⟨τ,G,q,hs,hg,ht,hQ⟩=>hQ none H G (aW.refl H) hg ht
theorem bc {te:WE} (h:QE X e te):QO X (some e) (xQ te):=
 (vw h).imp λσ H Q ⟨τ,G,q,hs,hg,ht,hQ⟩=>⟨τ,G,_,hs,hg,ht,λv H1 w G1 t1 r1 g1 q1=>by
   split at q1
   ·cases r1;exact⟨_,rfl,hQ _ H1 G1 t1 g1 q1⟩
   ·exact q1.elim⟩
noncomputable def dF (xs:List W) (lo hi:Option Int):List W:=(xs.drop (HT.sIx xs.length 0 lo)).take (HT.sIx xs.length xs.length hi-HT.sIx xs.length 0 lo)
theorem aT.cut {H:Hp} {ws:List W} {vs:List V} (r:aT K H ws vs) (lo hi:Option Int):aT K H (dF ws lo hi) (lP vs lo hi):=by
 unfold dF lP;rw[r.length];exact(r.drop _).take _
noncomputable abbrev W3:=W->Option Int->Option Int->Gp->WK->Prop
noncomputable def lX:W3:=λx lo hi G q=>match x with
 | .tup xs=>q (.tup (dF xs lo hi)) G
 | .scr ns=>ns.length<=100000/\∀p,G p=none->q (.ref p) (aX G p (.lst (dF (ns.map W.int) lo hi)))
 | .ref a=>∃xs,G a=some (.lst xs)/\∀p,G p=none->q (.ref p) (aX G p (.lst (dF xs lo hi)))
 | _=>False
theorem ik (xs:List W) (lo hi:Option Int):(dF xs lo hi).length<=xs.length:=by
 unfold dF;rw[length_take,length_drop];exact ycy (Nat.min_le_right _ _) (Nat.sub_le _ _)
theorem nY {xs:List W} {lo hi:Option Int} (h:HT.sIx xs.length 0 lo=0/\HT.sIx xs.length xs.length hi=xs.length):dF xs lo hi=xs:=by
 unfold dF;rw[h.1,h.2,drop_zero,Nat.sub_zero,take_length]
theorem qX {t sl:Addr} {vl vu:Value} {lo hi:Option Int} (ht:IsTup s.heap t items) (hs:s.heap.IsSliceOf sl vl vu .none) (pl:IsPart vl lo) (pu:IsPart vu hi)
 (hw:HT.sIx items.size 0 lo=0/\HT.sIx items.size items.size hi=items.size) (h:Q (.ref t) s):wpAny (model prog w) A (getItem (.ref t) (.ref sl)) Q E s:=by
 obtain⟨os,hos,hcs,hds⟩:=id hs;have hTs:s.TypeIs (.ref sl) "slice":=⟨os,hos,hcs⟩;unfold getItem
 try with_reducible refine wpAny_holding ?_
 first | refine wax (wpAny_pure ?_) | skip
 refine wax (wpAny_sequenceKey ht.typeIs (by decide) ?_);refine wax (wpAny_callSpecial?_slot (name:=Str.ofString "__getitem__") ht.typeIs PyProof.Rows.slot_tuple_getitem
  (wpAny_call_entry PyProof.Rows.slot_tuple_getitem ht.typeIs entry_tuple_getitem ?_ (args_tuple_getitem _ _)))
 show wpAny _ _ (Builtin.Tuple.tupleItemsOf (.ref t) >>= _) _ _ s;refine wax (tupleItemsOf_ ht ?_);refine wax (wpAny_typeOf hTs ?_);rw[ycv (by decide)];refine wax (HT.sliceApplied_gen hs pl pu ?_);have hyes:(((HT.sIx items.size 0 lo:Nat):Int)==0&&(1:Int)==1&&(HT.sIx items.size items.size hi-HT.sIx items.size 0 lo)==items.size)=true:=by
  rw[hw.1,hw.2];simp
 show wpAny _ _ (if (((HT.sIx items.size 0 lo:Nat):Int)==0&&(1:Int)==1&&(HT.sIx items.size items.size hi-HT.sIx items.size 0 lo)==items.size)=true then _ else _) _ _ s;rw[ycv hyes];refine wax ?_;show wpAny _ _ (typeOf (.ref t) >>= _) _ _ s;refine wax (wpAny_typeOf ht.typeIs (wpAny_pure ?_));rw[ycv (by simp)];exact wax (wpAny_rule (wpAny_pure ⟨_,rfl,wpAny_pure h⟩))
noncomputable def DX (K:yav) (r:W3):V->Option Int->Option Int->Hp->VK->Prop:=λx lo hi H Q=>∃w G q,cr K H w x/\aS K H G/\r w lo hi G q/\∀v H1 w G1,aW H H1->cr K H1 w v->aS K H1 G1->q w G1->Q v H1
theorem Bj:At X (DX X.K lX):=by
 rintro π s σ H x v vl vu lo hi sl Q I rx hs pl pu ⟨w,G,q,r,g,h,hQ⟩;unfold lX at h;split at h
 ·cases r with
  | @tup a ws xs hh rr=>
    by_cases hw:HT.sIx xs.length 0 lo=0/\HT.sIx xs.length xs.length hi=xs.length
    ·cases rx;obtain⟨its,rv,ht,hz⟩:=I.tuple (dQ.of hh);have hlen:its.toArray.size=xs.length:=by rw[size_toArray];exact rv.length.symm
     refine⟨"tuple",_,PyProof.Rows.slot_tuple_getitem.lookup,ht.typeIs,?_⟩;refine qX ht hs pl pu (by rw[hlen];exact hw) ⟨.ref a,H,I,rfl,?_⟩;rw[nY (by rw[rr.length];exact hw)] at h;exact hQ _ H _ G (aW.refl H) (.tup hh rr) g h
    ·exact yY π s σ H _ v vl vu lo hi sl Q I rx hs pl pu ⟨a,xs,rfl,dQ.of hh,hw,λp hp=>hQ _ _ _ G (aW.new hp _) (.tup bt ((rr.cut lo hi).mono (aW.new hp _))) (g.keep hp _) h⟩
 ·rename_i ns;cases r with
  | scr hh=>
    refine o8 π s σ H _ v vl vu lo hi sl Q I rx hs pl pu ⟨_,_,rfl,hh.sq,λp hp=>hQ _ _ _ _ (aW.new hp _) (.ref p) (g.put (aW.new hp _) ((aT.ints ns).cut lo hi) ?_) (h.2 p (g.fresh hp))⟩;exact ycy (ik _ _ _) (by rw[length_map];exact h.1)
 ·obtain⟨xs,e,h⟩:=h;cases r;obtain⟨hl,zs,e1,rr⟩:=g _ _ e;exact o8 π s σ H _ v vl vu lo hi sl Q I rx hs pl pu ⟨_,zs,rfl,dP.of e1,λp hp=>hQ _ _ _ _ (aW.new hp _) (.ref p) (g.put (aW.new hp _) (rr.cut lo hi) (ycy (ik _ _ _) hl)) (h p (g.fresh hp))⟩
 ·exact h.elim
theorem lY:bootBuiltins "isinstance"=some (.builtin "isinstance"):=by decide+kernel
noncomputable def pv (G:Gp):W->Option String
 | .non=>some "NoneType"
 | .bl _=>some "bool"
 | .int _=>some "int"
 | .str _=>some "str"
 | .tup _=>some "tuple"
 | .ref a=>match G a with | some (.lst _)=>some "list" | some .dct=>some "dict" | some (.dic _)=>some "dict" | _=>none
 | .scr _=>none
noncomputable def fK:String->String->Bool
 | "int","int"=>true
 | "bool","int"=>true
 | "bool","bool"=>true
 | "tuple","tuple"=>true
 | "list","list"=>true
 | "str","str"=>true
 | _,_=>false
noncomputable def jt (T:String):Prop:=T="int"∨T="bool"∨T="tuple"∨T="list"∨T="str"
theorem zo {t T:String} (ht:t="NoneType"∨t="bool"∨t="int"∨t="str"∨t="tuple"∨t="list"∨t="dict") (hT:jt T):PySem.W.kitOne K (.type t) (.type T)=some (fK t T):=by
 rcases ht with rfl | rfl | rfl | rfl | rfl | rfl | rfl<;> rcases hT with rfl | rfl | rfl | rfl | rfl<;> first | rfl | kernel_rfl | decide+kernel
noncomputable def Bk (T:String) (te:WE):WE:=λτ G q=>te τ G λx G1=>match pv G1 x with | some t=>q (.bl (fK t T)) G1 | none=>False
theorem sV {H:Hp} {G:Gp} {w:W} {v:V} {t:String} (g:aS K H G) (r:cr K H w v) (e:pv G w=some t):gR K H v (.type t)/\(t="NoneType"∨t="bool"∨t="int"∨t="str"∨t="tuple"∨t="list"∨t="dict"):=by
 unfold pv at e;cases r with
 | non=>cases e;exact⟨.non,by simp⟩
 | bl b=>cases e;exact⟨.bl b,by simp⟩
 | int i=>cases e;exact⟨.int i,by simp⟩
 | str x=>cases e;exact⟨.str x,by simp⟩
 | tup h _=>cases e;exact⟨.tup h,by simp⟩
 | scr h=>cases e
 | ref a=>
   simp only at e;split at e
   ·rename_i ws e1;cases e;obtain⟨_,xs,e2,_⟩:=g a _ e1;exact⟨.lst e2,by simp⟩
   ·rename_i e1;cases e;exact⟨.dK (g a _ e1),by simp⟩
   ·rename_i kvs e1;cases e;obtain⟨_,kvs',e2,_⟩:=g a _ e1;exact⟨.dK e2,by simp⟩
   ·cases e
theorem Bl {T:String} (hT:jt T) {σ:St} {H:Hp} {v:V} {w:W} {G:Gp} {q:WK} {Q:VK} (I:aJ X π σ H s) (ru:bo v u) (r:cr X.K H w v) (g:aS X.K H G)
 (h:match pv G w with | some t=>q (.bl (fK t T)) G | none=>False) (hQ:∀v H1 w G1,aW H H1->cr X.K H1 w v->aS X.K H1 G1->q w G1->Q v H1):
 wpAny (model X.prog X.w) X.A (call (.builtin "isinstance") [u,.type T]) (EP X π σ Q) X.xe s:=by
 split at h
 ·rename_i t e;obtain⟨ty,hk⟩:=sV g r e;exact qM I ru ty (zo hk hT) λtk=>⟨.bl _,H,I.tok tk,rfl,hQ _ H _ G (aW.refl H) (.bl _) g h⟩
 ·exact h.elim
theorem fV {T:String} {te:WE} {p p2 pos:Pos} (hT:jt T) (hv:bootBuiltins x=some (.type T)) (hm:X.mg x=none) (hgx:Gl X x) (hm1:X.mg "isinstance"=none) (hg1:Gl X "isinstance") (he:QE X e te) (hn:x≠"__name__":=by decide) (hd:(x==("__debug__":Str))=false:=by decide)
 (hs1:starEach [e,.Name x p2] X.env=(false,eval e X.env)::starEach [.Name x p2] X.env:=by rfl) (hs2:starEach [.Name x p2] X.env=(false,eval (.Name x p2) X.env)::starEach [] X.env:=by rfl)
 (hpl:(backTo pos (starEach [.Name x p2] X.env)).any (·.1)=false:=by rfl):QE X (.Call (.Name "isinstance" p) [e,.Name x p2] [] pos) (Bk T te):=by
 have hb:PE X (.Name x p2) (tC (.ty T)):=vc hgx hm hv rfl hn hd;have ha:PA X [e,.Name x p2] (lK (gU X.K te) (lK (tC (.ty T)) sw)):=dy he (dy hb pa_nil hs2) hs1;have hc:fM X (.builtin "isinstance") (λvs H Q=>∃(v:V) (w:W) (G:Gp) (q:WK),vs=[v,.ty T]/\cr X.K H w v/\aS X.K H G/\(match pv G w with | some t=>q (.bl (fK t T)) G | none=>False)/\∀v H1 w G1,aW H H1->cr X.K H1 w v->aS X.K H1 G1->q w G1->Q v H1):=by
  rintro π s σ H xs us Q I r ⟨v,w,G,q,e1,r1,g1,h,hQ⟩;subst e1;obtain⟨u,u2,rfl,ru,ru2⟩:=sk r;cases (show u2=Value.type T from ru2);exact Bl hT I ru r1 g1 h hQ
 exact(iP hc hg1 hm1 lY ha (by decide) (by decide) hs1 hpl).imp λσ H Q z0=>z0.el λτ G q hs hg ht hQ=>⟨τ,G,_,hs,hg,ht,λv H1 w G1 t1 r1 g1 q1=>
  ⟨v,w,G1,q,rfl,r1,g1,q1,λv2 H2 w2 G2 t2=>hQ v2 H2 w2 G2 (t1.trans t2)⟩⟩
noncomputable def zq:List W->Gp->WK->Prop:=λws G q=>match ws with
 | [.ref a]=>∃ns:List Int,G a=some (.lst (ns.map W.int))/\q (.int ns.sum) G
 | _=>False
theorem aT.ints_of {K:yav} {H:Hp}:∀{ns:List Int} {vs:List V},aT K H (ns.map W.int) vs->vs=ns.map V.int
 | [],_,r=>by cases r;rfl
 | n::ns,_,r=>by
   cases r with
   | cons r rs=>
     cases r;rw[aT.ints_of rs]
     rfl
theorem xR (hc:X.calm=true):eC X (.builtin "sum") zq:=by
 rintro π s σ H xs us Q I r ⟨ws,G,q,rw',g,h,hQ⟩;unfold zq at h;split at h
 ·rename_i a;obtain⟨ns,e,h⟩:=h;obtain⟨v,rfl,r1⟩:=rw'.one;cases r1;obtain⟨_,zs,e1,rr⟩:=g a _ e;obtain rfl:=rr.ints_of;obtain⟨u,rfl,ru⟩:=eg r;cases (show u=Value.ref a from ru);obtain⟨its,rv,p,hz⟩:=I.list (dP.of e1);have hi:IntsAre its ns:=L2.intsAre_of rv;obtain⟨ys,ey⟩:=hi.allInts.items;have hn:(ys.toList.map (·.1))=ns:=by rw[←nums_intItems,←ey,←hi.numsOf]
  have hl:s.heap.IsList a (intItems ys):=by rw[←ey];exact p.isList
  refine sum_intListG (I.ok.hd hc) hl λh' tk t' hk=>⟨.int _,H,I.kept hk,⟨t',rfl⟩,?_⟩;have es:preSum (numAt ys) ys.size=ns.sum:=by rw[preSum_eq,take_of_length_le (by simp),hn]
  rw[es];exact hQ _ H _ G (aW.refl H) (.int _) g h
 ·exact h.elim
noncomputable def Bm (to te:WE):WE:=λτ G q=>to τ G λx G1=>match x with
 | .ref a=>(∃xs,G1 a=some (.lst xs))/\te τ G1 λy G2=>∃ys,G2 a=some (.lst ys)/\ys.length+1<=100000/\q .non (aX G2 a (.lst (ys++[y])))
 | _=>False
theorem cR {o e:Expr} {to te:WE} {apos cpos:Pos} (ho:QE X o to) (he:QE X e te)
 (hbase:attributeBase o "append" X.env (eval o X.env)=eval o X.env:=by rfl)
 (hfew:((backTo cpos (starEach [e] X.env)).all (λx=>!x.1)&&(backToKw cpos (keywordEach [] X.env)).all (λx=>x.1.isSome)
   &&decide (([e]:List Expr).length+([]:List Keyword).length+(if ([]:List Keyword).isEmpty then 0 else 1)<30))=true:=by rfl)
 (hline:(apos.endLine==cpos.line)=true:=by rfl) (hs:starEach [e] X.env=(false,eval e X.env)::starEach [] X.env:=by rfl):
 QE X (.Call (.Attribute o "append" apos) [e] [] cpos) (Bm to te):=
 (o9 PySem.F.plainAttrs_list PySem.F.slot_list_append PySem.F.type_list_append qR ho (dy he pa_nil hs) hbase hfew hline hs rfl).imp λσ H Q z0=>z0.el λτ G q hs hg ht hQ=>
   ⟨τ,G,_,hs,hg,ht,λv H1 w G1 t1 r1 g1 q1=>by
     split at q1
     ·rename_i a;cases r1;obtain⟨⟨xs,e1⟩,q1⟩:=q1;obtain⟨_,xs',h1,_⟩:=g1 a _ e1;refine⟨.inl ⟨rfl,xs',dP.of h1⟩,τ,G1,_,hs.mono t1,g1,q1,λv2 H2 w2 G2 t2 r2 g2 q2=>?_⟩;obtain⟨ys,e2,hl,q2⟩:=q2;obtain⟨_,ys',h2,rr⟩:=g2 a _ e2;refine⟨a,ys',v2,rfl,rfl,h2,?_,?_⟩
      ·rw[←rr.length];exact bW hl
      ·exact hQ _ _ _ _ ((t1.trans t2).trans (aW.lst h2 _)) .non (g2.put (aW.lst h2 _) (rr.append (.cons r2 .nil)) (by rw[length_append];exact hl)) q2
     ·exact q1.elim⟩
end
structure uZ (K:yav) (J:It) (ws:List W) (C:Gp->Prop) (H0:Hp):Prop where
 stop:∀i H G,aW H0 H->aS K H G->C G->ws.length<=i->J.stop i H
 go:∀i w H G,aW H0 H->aS K H G->C G->ws[i]?=some w->J.go i H/\∀x H',J.yld i H x H'->aW H H'/\cr K H' w x/\aS K H' G
noncomputable abbrev WI:=dR->Gp->(List W->(Gp->Prop)->Gp->Prop)->Prop
noncomputable def LI (K:yav) (t:WI):TI:=λσ H R=>∃τ G r,bn K H τ σ/\aS K H G/\t τ G r/\∀J H1 ws C G1,aW H H1->aS K H1 G1->uZ K J ws C H1->r ws C G1->R J H1
noncomputable def QI (X:Cx) (tg iter:Expr) (t:WI):Prop:=PI X tg iter (LI X.K t)
section
variable {X:Cx} {tg:Expr}
theorem PI.imp {t t':TI} (h:PI X tg e t) (f:∀σ H R,t' σ H R->t σ H R):PI X tg e t':=λπ s σ H R I q=>h π s σ H R I (f _ _ _ q)
theorem vL {ws:List W} {xs:List V} {H:Hp} (h:H a=some (.tup xs)) (r:aT K H ws xs):uZ K (Dy K a) ws (λ_=>True) H where
 stop:=λi H1 G t g _ hl=>⟨xs,dQ.of (t.tup _ _ h),by rw[←r.length];exact hl⟩
 go:=λi w H1 G t g _ e=>by
  obtain⟨v,e1,rv⟩:=r.get e;refine⟨⟨xs,v,dQ.of (t.tup _ _ h),e1⟩,λx H' z9=>?_⟩;obtain⟨eH,hy⟩:=z9;subst eH;have e2:=hy xs (dQ.of (t.tup _ _ h));rw[e1] at e2;cases e2;exact⟨aW.refl _,rv.mono t,g⟩
theorem vM {ws:List W} {H:Hp}:uZ K (C9 K a) ws (λG=>G a=some (.lst ws)) H where
 stop:=λi H1 G t g e hl=>by
  obtain⟨_,xs,h1,r⟩:=g a _ e;exact⟨xs,dP.of h1,by rw[←r.length];exact hl⟩
 go:=λi w H1 G t g eG e=>by
  obtain⟨_,xs,h1,r⟩:=g a _ eG;obtain⟨v,e1,rv⟩:=r.get e;refine⟨⟨xs,v,dP.of h1,e1⟩,λx H' z9=>?_⟩;obtain⟨eH,hy⟩:=z9;subst eH;have e2:=hy xs (dP.of h1);rw[e1] at e2;cases e2;exact⟨aW.refl _,rv,g⟩
theorem vN {ns:List Int} {H:Hp} (h:xF K H a ns):uZ K (C9 K a) (ns.map W.int) (λ_=>True) H where
 stop:=λi H1 G t g _ hl=>⟨_,(h.mono t).sq,by simpa using hl⟩
 go:=λi w H1 G t g _ e=>by
  have r:aT K H1 (ns.map W.int) (ns.map V.int):=aT.ints ns;obtain⟨v,e1,rv⟩:=r.get e;refine⟨⟨_,v,(h.mono t).sq,e1⟩,λx H' z9=>?_⟩;obtain⟨eH,hy⟩:=z9;subst eH;have e2:=hy _ (h.mono t).sq;rw[e1] at e2;cases e2;exact⟨aW.refl _,rv,g⟩
noncomputable def rV (n:Nat):List W:=(List.range n).map λ(i:Nat)=>W.int (i:Int)
theorem vO {n:Nat} {H:Hp}:uZ K (Da 0 n) (rV n) (λ_=>True) H where
 stop:=λi H1 G t g _ hl=>by have h:n<=i:=(by simpa[rV] using hl);exact h
 go:=λi w H1 G t g _ e=>by
  unfold rV at e;rw[List.getElem?_map] at e;have hi:i<n:=by
   cases h:(List.range n)[i]? with
   | none=>rw[h] at e;cases e
   | some k=>
     have:=(List.getElem?_eq_some_iff.mp h).1;simpa using this
  rw[List.getElem?_range hi] at e;cases e;refine⟨hi,λx H' z9=>?_⟩;obtain⟨eH,hy⟩:=z9;subst eH;subst hy;exact⟨aW.refl _,by simpa using cr.int _,g⟩
noncomputable def Bn (ta:WA):WI:=λτ G r=>ta τ G λws G1=>match ws with
 | [.int j]=> -(2^62)<=j/\j<2^62/\r (rV j.toNat) (λ_=>True) G1
 | _=>False
theorem iW {a:Expr} {ta:WA} {p pos:Pos} (hg:Gl X "range") (hm:X.mg "range"=none) (ha:QA X [a] ta) (hs:starEach [a] X.env=[(false,eval a X.env)]:=by rfl):QI X tg (.Call (.Name "range" p) [a] [] pos) (Bn ta):=
 (qD hg hm ha hs).imp λσ H R ⟨τ,G,r,hs,hg,ht,hR⟩=>⟨τ,G,_,hs,hg,ht,λvs H1 ws G1 t1 r1 g1 q1=>by
   split at q1
   ·obtain⟨v,rfl,r2⟩:=r1.one;cases r2 with
    | int j=>exact⟨_,rfl,q1.1,q1.2.1,hR _ H1 _ _ G1 t1 g1 vO q1.2.2⟩
   ·exact q1.elim⟩
noncomputable def iX (C:Gp->Prop) (g:WG) (tb:WS) (d:dI):List W->dR->Gp->Prop
 | [],τ,G=>C G/\d.nx τ G
 | w::ws,τ,G=>C G/\g w τ G λτ2 G2=>tb { d with nx:=iX C g tb d ws,ct:=iX C g tb d ws,bk:=d.nx } τ2 G2
noncomputable def Bo (wi:WI) (g:WG) (tb:WS):WS:=λd τ G=>wi τ G λws C G1=>iX C g tb d ws τ G1
theorem dW {iter:Expr} {wi:WI} {g:WG} {tb:WS} (hp:PassesOwn (model X.prog X.w) X.A X.env X.xe) (hc:X.calm=true) (hi:QI X tg iter wi) (hg:QG X tg g) (hb:lV X body tb)
 (hs:∀x,foldedSetIterable iter X.env x=pure x:=by intro _;rfl):QS X (.For tg iter body [] pos) (Bo wi g tb):=
 (yK hp hc hi hg hb hs).imp λD σ H z0=>z0.el λτ G d hs hg ht l=>⟨τ,G,_,hs,hg,ht,λJ H1 ws C G1 t1 g1 it q1=>by
   refine⟨λi m σ2 H2=>∃τ2 G2,m=ws.length-i/\i<=ws.length/\aW H1 H2/\bn X.K H2 τ2 σ2/\aS X.K H2 G2/\iX C g tb d (ws.drop i) τ2 G2,⟨ws.length,τ,G1,by simp,zero_le _,aW.refl _,hs.mono t1,g1,by simpa using q1⟩,?_⟩;rintro i m σ2 H2 ⟨τ2,G2,rfl,hi,t2,s2,g2,q2⟩
   by_cases hlt:i<ws.length
   ·have ed:ws.drop i=ws[i]::ws.drop (i+1):=drop_eq_getElem_cons hlt;rw[ed] at q2;obtain⟨c2,q2⟩:=q2;obtain⟨go,yl⟩:=it.go i ws[i] H2 G2 t2 g2 c2 (ycz hlt);refine .inr ⟨go,λσ3 H3=>∃τ3 G3,aW H1 H3/\bn X.K H3 τ3 σ3/\aS X.K H3 G3/\iX C g tb d (ws.drop (i+1)) τ3 G3,?_,λx H' hy=>?_⟩
    ·rintro σ3 H3 ⟨τ3,G3,t3,s3,g3,q3⟩;exact⟨ws.length- (i+1),by (clear hi ed;lia),τ3,G3,rfl,hlt,t3,s3,g3,q3⟩
    ·obtain⟨tx,rx,gx⟩:=yl x H' hy;refine⟨ws[i],τ2,G2,_,rx,s2.mono tx,gx,q2,λσ3 H3 τ3 G3 t3 s3 g3 q3=>?_⟩;have tt:=(t2.trans tx).trans t3;have t0:=t1.trans tt;exact⟨τ3,G3,_,s3,g3,q3,⟨λσ4 H4 τ4 G4 t4 s4 g4 q4=>⟨τ4,G4,tt.trans t4,s4,g4,q4⟩,λv H4 w G4 t4=>l.rt v H4 w G4 (t0.trans t4),λσ4 H4 τ4 G4 t4=>l.nx σ4 H4 τ4 G4 (t0.trans t4),λσ4 H4 τ4 G4 t4 s4 g4 q4=>⟨τ4,G4,tt.trans t4,s4,g4,q4⟩⟩⟩
   ·have e:i=ws.length:=by lia
    subst e;rw[List.drop_length] at q2;exact .inl ⟨it.stop _ H2 G2 t2 g2 q2.1 (ycx _),l.nx σ2 H2 τ2 G2 (t1.trans t2) s2 g2 q2.2⟩⟩
end
section
variable {prog:Program} {w:World} {A:Around} {E:yey} {s:Shared}
theorem fW {it t:Addr} {x:Value} (a:s.heap.IsTupleIter it t i) (b:s.heap.IsTuple t items) (e:items[i]?=some x) (q:∀h',h'.IsTupleIter it t (i+1)->Heap.SameBut it s.heap h'->Q x { s with heap:=h' }):wpAny (model prog w) A (Builtin.SmallTypes.nextOf (.ref it)) Q E s:=by
 obtain⟨o,ho,hc,hd⟩:=id a;obtain⟨ol,hol,_,nl,hdl⟩:=b;unfold Builtin.SmallTypes.nextOf;refine wax (wpAny_callSpecial?_slot (name:=Str.ofString "__next__") a.typeIs F.slot_tuple_iterator_next (wpAny_call_entry F.slot_tuple_iterator_next a.typeIs F.entry_tuple_iterator_next ?_ (F.args_tuple_iterator_next_1 _)));show wpAny _ _ (field (.ref it) 0 >>= _) _ _ s;refine wax (wpAny_field ho hd (x:= .ref t) rfl ?_);show wpAny _ _ (if (Value.ref t==Value.none)=true then _ else _) _ _ s;rw[ycw (show ¬((Value.ref t==Value.none)=true) from ydx)];show wpAny _ _ (field (.ref it) 1 >>= _) _ _ s;refine wax (wpAny_field ho hd (x:= .int i 0) rfl ?_);show wpAny _ _ (seqItems? (.ref t) >>= _) _ _ s;refine wax (wpAny_seqItems hol hdl ?_);simp only[Int.toNat_natCast,e];refine wax (wpAny_setField ho hd (by simp) (wpAny_pure ⟨x,rfl,wpAny_pure (q _ ⟨_,Heap.get?_update_self _ ho (Obj.isFreed_of_fields (Obj.data_mapFields hd _)),(Obj.cls_mapFields ..).trans hc,by rw[Obj.data_mapFields hd];simp[rawInt]⟩ (Heap.SameBut.update ..))⟩))
theorem jL {it t:Addr} (hh:A.handled=none) (a:s.heap.IsTupleIter it t i) (b:s.heap.IsTuple t items) (e:items[i]?=none) (q:∀h' x,Heap.ExtBut it s.heap h'->(∃o,h'.get? x=some o/\o.cls=.type "StopIteration")->E (.ref x) { s with heap:=h' }):wpAny (model prog w) A (Builtin.SmallTypes.nextOf (.ref it)) Q E s:=by
 obtain⟨o,ho,hc,hd⟩:=id a;obtain⟨ol,hol,_,nl,hdl⟩:=b;unfold Builtin.SmallTypes.nextOf;refine wax (wpAny_callSpecial?_slot (name:=Str.ofString "__next__") a.typeIs F.slot_tuple_iterator_next (wpAny_call_entry F.slot_tuple_iterator_next a.typeIs F.entry_tuple_iterator_next ?_ (F.args_tuple_iterator_next_1 _)));show wpAny _ _ (field (.ref it) 0 >>= _) _ _ s;refine wax (wpAny_field ho hd (x:= .ref t) rfl ?_);show wpAny _ _ (if (Value.ref t==Value.none)=true then _ else _) _ _ s;rw[ycw (show ¬((Value.ref t==Value.none)=true) from ydx)];show wpAny _ _ (field (.ref it) 1 >>= _) _ _ s;refine wax (wpAny_field ho hd (x:= .int i 0) rfl ?_);show wpAny _ _ (seqItems? (.ref t) >>= _) _ _ s;refine wax (wpAny_seqItems hol hdl ?_);simp only[Int.toNat_natCast,e];refine wax (wpAny_rule (wax (wpAny_setField ho hd (by simp) ?_)));show wpAny _ _ (newExc (.type "StopIteration") [] >>= _) _ _ _;refine wax ?_;simp only[newExc,newTuple];refine wax (wpAny_newObj_type ?_ (by size_fits));refine wax (m:=firstArgMember _ _) (wpAny_of_eq (a:=Value.none) (by first | rfl | (simp only[firstArgMember];rfl)) ?_);refine wpAny_newObj_type ?_ (by size_fits);simp only[raiseNew];refine wax (wpAny_handled ?_);first | rw[show A.in1.handled=none from hh] | rw[hh]
 refine wax (wpAny_pure (wpAny_throw ?_));exact q _ _ (((Heap.SameBut.update ..).extBut.push _).push _) ⟨_,ybw _ rfl,rfl⟩
structure ZA (z p r i j a b:Addr):Prop where
 zp:p≠z
 zr:r≠z
 zi:i≠z
 zj:j≠z
 pr:p≠r
 pi:p≠i
 pj:p≠j
 ri:r≠i
 rj:r≠j
 ij:i≠j
 az:a≠z
 ar:a≠r
 ai:a≠i
 aj:a≠j
 bz:b≠z
 br:b≠r
 bi:b≠i
 bj:b≠j
structure ZT (z p r i j a b:Addr) (n:Nat) (f:Value) (h:Heap):Prop where
 hz:IsZip h z p r f
 hp:IsPair h p (.ref i) (.ref j)
 hr:∃x y,IsPair h r x y
 hi:h.IsTupleIter i a n
 hj:h.IsTupleIter j b n
theorem qY {z p r i j a b:Addr} {n:Nat} {xs ys:Array Value} {x y:Value} {Q:Option Value->Shared->Prop} (D:ZA z p r i j a b) (T:ZT z p r i j a b n .none s.heap) (ha:s.heap.IsTuple a xs) (hb:s.heap.IsTuple b ys) (hx:xs[n]?=some x) (hy:ys[n]?=some y)
 (q:∀h',ZT z p r i j a b (n+1) (rawInt s.heap.objs.size) h'->IsPair h' s.heap.objs.size x y->(∀c o,c≠z->c≠r->c≠i->c≠j->s.heap.get? c=some o->h'.get? c=some o)->Q (some (.ref s.heap.objs.size)) { s with heap:=h' }):wpAny (model prog w) A (pyNext (.ref z)) Q E s:=by
 obtain⟨hz,hp,⟨u,v,hr⟩,hi,hj⟩:=T;have hT:s.TypeIs (.ref z) "zip":=⟨_,hz,rfl⟩;unfold pyNext;refine wax (wpAny_attempt (wpAny_callSpecial?_slot (name:=Str.ofString "__next__") hT F.slot_zip_next (wpAny_call_entry F.slot_zip_next hT F.entry_zip_next ?_ (F.args_zip_next_1 _))));show wpAny _ _ (field (.ref z) 2 >>= _) _ _ _;refine wax (wpAny_field hz rfl (x:= .bool false) rfl ?_);show wpAny _ _ (field (.ref z) 3 >>= _) _ _ _;refine wax (wpAny_field hz rfl (x:= .ref p) rfl ?_);refine wax (wpAny_seqItems hp rfl ?_);show wpAny _ _ (Builtin.SmallTypes.ownedTupleIsFree (.ref z) >>= _) _ _ _;refine wax ?_;unfold Builtin.SmallTypes.ownedTupleIsFree;refine wax (wpAny_field hz rfl (x:= .none) rfl (wpAny_pure ?_));simp only[if_true];refine wax (wpAny_rule ?_);refine wax (wpAny_field hz rfl (x:= .ref r) rfl ?_);refine wax (wpAny_setField_rec hz (by simp) λh1 z1 b1=>?_);have z1:IsZip h1 z p r .ellipsis:=z1;refine wax ?_;simp only[List.zipIdx_cons,List.zipIdx_nil,forIn_cons,List.forIn_nil];refine wax (wax (wpAny_onRaise ?_));show wpAny _ _ (Builtin.SmallTypes.nextOf (.ref i) >>= _) _ _ _;refine wax (fW (hi.extBut b1.extBut D.zi) (ha.extBut b1.extBut D.az) hx λh2 i2 b2=>wpAny_pure ?_);have r2:IsPair h2 r u v:=b2.extBut _ _ D.ri (b1.extBut _ _ D.zr hr);refine wax (wpAny_seqItems r2 rfl ?_);refine wax (wpAny_updateSeq_pair r2 λh3 r3 b3=>?_);have r3:IsPair h3 r x v:=r3;refine wax (wpAny_letGo (wpAny_pure ?_));refine wax (wax (wpAny_onRaise ?_));show wpAny _ _ (Builtin.SmallTypes.nextOf (.ref j) >>= _) _ _ _;refine wax (fW (((hj.extBut b1.extBut D.zj).extBut b2.extBut D.ij.symm).extBut b3.extBut D.rj.symm) (((hb.extBut b1.extBut D.bz).extBut b2.extBut D.bi).extBut b3.extBut D.br) hy λh4 j4 b4=>wpAny_pure ?_);have r4:IsPair h4 r x v:=b4.extBut _ _ D.rj r3;refine wax (wpAny_seqItems r4 rfl ?_);refine wax (wpAny_updateSeq_pair r4 λh5 r5 b5=>?_);have r5:IsPair h5 r x y:=r5;refine wax (wpAny_letGo (wpAny_pure (wpAny_pure ?_)));refine wax (wpAny_seqItems r5 rfl ?_);refine wax (wpAny_newTuple ?_);have sz:h5.objs.size=s.heap.objs.size:=by rw[b5.1,b4.1,b3.1,b2.1,b1.1]
 have z5:IsZip h5 z p r .ellipsis:=b5.extBut _ _ D.zr.symm (b4.extBut _ _ D.zj.symm (b3.extBut _ _ D.zr.symm (b2.extBut _ _ D.zi.symm z1)));have k5:∀c o,c≠z->c≠r->c≠i->c≠j->s.heap.get? c=some o->h5.get? c=some o:=λc o c1 c2 c3 c4 e=>b5.extBut _ _ c2 (b4.extBut _ _ c4 (b3.extBut _ _ c2 (b2.extBut _ _ c3 (b1.extBut _ _ c1 e))));have i5:h5.IsTupleIter i a (n+1):=((i2.extBut b3.extBut D.ri.symm).extBut b4.extBut D.ij).extBut b5.extBut D.ri.symm;have j5:h5.IsTupleIter j b (n+1):=j4.extBut b5.extBut D.rj.symm;have ltz:z<h5.objs.size:=ybv z5;show wpAny _ _ (Builtin.SmallTypes.ownedTupleHandOut (.ref z) (.ref h5.objs.size) >>= _) _ _ _;refine wax ?_;unfold Builtin.SmallTypes.ownedTupleHandOut;have z6:IsZip (h5.push { cls:= .type "tuple",data:= .seq #[x,y] }) z p r .ellipsis:=ybz _ z5;refine wax (wpAny_setField_rec z6 (by simp) λh7 z7 b7=>?_);have z7:IsZip h7 z p r (rawInt h5.objs.size):=z7;refine wpAny_setField_rec z7 (by simp) λh8 z8 b8=>?_;have z8:IsZip h8 z p r (rawInt h5.objs.size):=z8;have up:∀c o,c≠z->h5.get? c=some o->h8.get? c=some o:=λc o c1 e=>b8.extBut _ _ c1 (b7.extBut _ _ c1 (ybz _ e));have t8:IsPair h8 h5.objs.size x y:=b8.extBut _ _ (Nat.ne_of_gt ltz) (b7.extBut _ _ (Nat.ne_of_gt ltz) (ybw _ rfl));rw[sz] at z8 t8;refine wpAny_pure ⟨_,rfl,wpAny_pure ?_⟩;show Q (some (.ref h5.objs.size)) _;rw[sz];exact q h8 ⟨z8,up _ _ D.zp (k5 _ _ D.zp D.pr D.pi D.pj hp),⟨_,_,up _ _ D.zr r5⟩,i5.at λo e=>up _ o D.zi e,j5.at λo e=>up _ o D.zj e⟩ t8 λc o c1 c2 c3 c4 e=>up c o c1 (k5 c o c1 c2 c3 c4 e)
theorem sW {z p r i j a b:Addr} {n:Nat} {xs ys:Array Value} {Q:Option Value->Shared->Prop} (hh:A.handled=none) (D:ZA z p r i j a b) (T:ZT z p r i j a b n .none s.heap) (ha:s.heap.IsTuple a xs) (hb:s.heap.IsTuple b ys) (hx:xs[n]?=none∨ys[n]?=none)
 (q:∀h',(∀c o,c≠z->c≠r->c≠i->c≠j->s.heap.get? c=some o->h'.get? c=some o)->Q none { s with heap:=h' }):wpAny (model prog w) A (pyNext (.ref z)) Q E s:=by
 obtain⟨hz,hp,⟨u,v,hr⟩,hi,hj⟩:=T;have hT:s.TypeIs (.ref z) "zip":=⟨_,hz,rfl⟩;unfold pyNext;have fin:∀(h':Heap) (e:Addr),(∀c o,c≠z->c≠r->c≠i->c≠j->s.heap.get? c=some o->h'.get? c=some o)->(∃o,h'.get? e=some o/\o.cls=.type "StopIteration")->wpAny (model prog w) A (do if (←isInstance (.ref e) (.type "StopIteration")) then pure none else throw (.ref e)) Q E { s with heap:=h' }:=λh' e k he=>by
  obtain⟨o,ho,hc⟩:=he;exact wax (wpAny_isInstance (T:="StopIteration") (b:=true) ⟨o,ho,hc⟩ isSubtype_stop (wpAny_pure (q _ k)))
 refine wax (wpAny_attempt (wpAny_callSpecial?_slot (name:=Str.ofString "__next__") hT F.slot_zip_next (wpAny_call_entry F.slot_zip_next hT F.entry_zip_next ?_ (F.args_zip_next_1 _))));show wpAny _ _ (field (.ref z) 2 >>= _) _ _ _;refine wax (wpAny_field hz rfl (x:= .bool false) rfl ?_);show wpAny _ _ (field (.ref z) 3 >>= _) _ _ _;refine wax (wpAny_field hz rfl (x:= .ref p) rfl ?_);refine wax (wpAny_seqItems hp rfl ?_);show wpAny _ _ (Builtin.SmallTypes.ownedTupleIsFree (.ref z) >>= _) _ _ _;refine wax ?_;unfold Builtin.SmallTypes.ownedTupleIsFree;refine wax (wpAny_field hz rfl (x:= .none) rfl (wpAny_pure ?_));simp only[if_true];refine wax (wpAny_rule ?_);refine wax (wpAny_field hz rfl (x:= .ref r) rfl ?_);refine wax (wpAny_setField_rec hz (by simp) λh1 z1 b1=>?_);have z1:IsZip h1 z p r .ellipsis:=z1;refine wax ?_;simp only[List.zipIdx_cons,List.zipIdx_nil,forIn_cons,List.forIn_nil];refine wax (wax (wpAny_onRaise ?_));show wpAny _ _ (Builtin.SmallTypes.nextOf (.ref i) >>= _) _ _ _;cases e1:xs[n]? with
 | none=>
   refine wax (jL hh (hi.extBut b1.extBut D.zi) (ha.extBut b1.extBut D.az) e1 λh2 e b2 he=>?_);obtain⟨oe,hoe,hce⟩:=he;have z2:IsZip h2 z p r .ellipsis:=b2 _ _ D.zi.symm z1;have ez:e≠z:=λx=>by subst x;rw[z2] at hoe;cases hoe;simp at hce
   exact wpAny_setField_rec z2 (by simp) λh3 _ b3=>fin h3 e (λc o c1 _ c3 _ x=>b3.extBut _ _ c1 (b2 _ _ c3 (b1.extBut _ _ c1 x))) ⟨oe,b3.extBut _ _ ez hoe,hce⟩
 | some x=>
   have e2:ys[n]?=none:=by rcases hx with h | h; ·rw[e1] at h;cases h
                           ·exact h
   refine wax (fW (hi.extBut b1.extBut D.zi) (ha.extBut b1.extBut D.az) e1 λh2 i2 b2=>wpAny_pure ?_);have r2:IsPair h2 r u v:=b2.extBut _ _ D.ri (b1.extBut _ _ D.zr hr);refine wax (wpAny_seqItems r2 rfl ?_);refine wax (wpAny_updateSeq_pair r2 λh3 r3 b3=>?_);refine wax (wpAny_letGo (wpAny_pure ?_));refine wax (wax (wpAny_onRaise ?_));show wpAny _ _ (Builtin.SmallTypes.nextOf (.ref j) >>= _) _ _ _;refine wax (jL hh (((hj.extBut b1.extBut D.zj).extBut b2.extBut D.ij.symm).extBut b3.extBut D.rj.symm) (((hb.extBut b1.extBut D.bz).extBut b2.extBut D.bi).extBut b3.extBut D.br) e2 λh4 e b4 he=>?_);obtain⟨oe,hoe,hce⟩:=he;have z4:IsZip h4 z p r .ellipsis:=b4 _ _ D.zj.symm (b3.extBut _ _ D.zr.symm (b2.extBut _ _ D.zi.symm z1));have ez:e≠z:=λx=>by subst x;rw[z4] at hoe;cases hoe;simp at hce
   exact wpAny_setField_rec z4 (by simp) λh5 _ b5=>fin h5 e (λc o c1 c2 c3 c4 x=>b5.extBut _ _ c1 (b4 _ _ c4 (b3.extBut _ _ c2 (b2.extBut _ _ c3 (b1.extBut _ _ c1 x))))) ⟨oe,b5.extBut _ _ ez hoe,hce⟩
end
noncomputable def Dg (h:Heap) (a:Addr):Heap:=h.push { cls:= .type "tuple_iterator",data:= .fields #[.ref a,.int 0 0] }
noncomputable def Bp (h:Heap) (a b:Addr):Heap:=(Dg h a).push { cls:= .type "tuple_iterator",data:= .fields #[.ref b,.int 0 0] }
noncomputable def Bq (h:Heap) (a b:Addr):Heap:=(Bp h a b).push { cls:= .type "tuple",data:= .seq #[.ref h.objs.size,.ref (Dg h a).objs.size] }
noncomputable def Br (h:Heap) (a b:Addr):Heap:=(Bq h a b).push { cls:= .type "tuple",data:= .seq #[.none,.none] }
noncomputable def Av (h:Heap) (a b:Addr):Heap:=(Br h a b).push { cls:= .type "zip",data:= .fields #[.none,.bool false,.bool false,.ref (Bp h a b).objs.size,.ref (Bq h a b).objs.size] }
theorem sX (a b:Addr) (xs ys:Array Value):Meets (Builtin.«zip.__new__» ⟨[.type "zip",.ref a,.ref b],[]⟩) (λ_ R s=>s.heap.IsTuple a xs/\s.heap.IsTuple b ys/\R (.ok (.ret (.ref (Br s.heap a b).objs.size))) { s with heap:=Av s.heap a b }):=
 .of_wp λprog w A R s h=>by
  obtain⟨hp,g,d,tk,os⟩:=s;obtain⟨ha,hb,h⟩:=h;have hsub:=sub_zip;have h1:Heap.IsTuple (Shared.heap ⟨hp,g,d,tk,os⟩) a xs:=ha;have h2:Heap.IsTuple (Shared.heap ⟨hp.push { cls:= .type "tuple_iterator",data:= .fields #[.ref a,.int 0 0] },g,d,tk,os⟩) b ys:=Heap.IsTuple.push hb _
  wp_walk using wpAny_pyIter_tuple h1,wpAny_pyIter_tuple h2
  exact⟨_,rfl,h⟩
theorem qZ {a b:Addr} {xs ys:Array Value} (ha:s.heap.IsTuple a xs) (hb:s.heap.IsTuple b ys)
 (q:∀h',ZT (s.heap.objs.size+4) (s.heap.objs.size+2) (s.heap.objs.size+3) s.heap.objs.size (s.heap.objs.size+1) a b 0 .none h'->(∀c o,s.heap.get? c=some o->h'.get? c=some o)->Q (.ref (s.heap.objs.size+4)) { s with heap:=h' }):
 wpAny (model prog w) A (call (.type "zip") [.ref a,.ref b]) Q E s:=by
 refine callType_new F.called_zip (by decide) (F.typeCall_zip_2 _ _) (F.newCall_zip_2 _ _) (λobj=>F.args_object_init_3 obj _ _) F.entry_zip_new (sX a b xs ys) ⟨ha,hb,?_⟩;have z1:(Dg s.heap a).objs.size=s.heap.objs.size+1:=Heap.size_push ..;have z2:(Bp s.heap a b).objs.size=s.heap.objs.size+2:=by unfold Bp;rw[Heap.size_push,z1]
 have z3:(Bq s.heap a b).objs.size=s.heap.objs.size+3:=by unfold Bq;rw[Heap.size_push,z2]
 have z4:(Br s.heap a b).objs.size=s.heap.objs.size+4:=by unfold Br;rw[Heap.size_push,z3]
 have g5:(Av s.heap a b).get? (Br s.heap a b).objs.size=some _:=ybw _ rfl;have g4:(Av s.heap a b).get? (Bq s.heap a b).objs.size=some _:=ybz _ (ybw _ rfl);have g3:(Av s.heap a b).get? (Bp s.heap a b).objs.size=some _:=ybz _ (ybz _ (ybw _ rfl));have g2:(Av s.heap a b).get? (Dg s.heap a).objs.size=some _:=ybz _ (ybz _ (ybz _ (ybw _ rfl)));have g1:(Av s.heap a b).get? s.heap.objs.size=some _:=ybz _ (ybz _ (ybz _ (ybz _ (ybw _ rfl))));rw[z2,z3,z4] at g5;rw[z1,z2] at g3;rw[z3] at g4;rw[z1] at g2;show _/\_;rw[z4];exact⟨⟨_,g5,rfl⟩,q _ ⟨g5,g3,⟨_,_,g4⟩,⟨_,g1,rfl,rfl⟩,⟨_,g2,rfl,rfl⟩⟩ λc o x=>ybz _ (ybz _ (ybz _ (ybz _ (ybz _ x))))⟩
theorem zt {n a b:Nat} (ha:a<n) (hb:b<n):ZA (n+4) (n+2) (n+3) n (n+1) a b:=by
 constructor<;> (show(_:Nat)≠(_:Nat);lia)
section
variable {prog:Program} {w:World} {A:Around} {R:Result->Shared->Prop} {s:Shared}
noncomputable abbrev nox:Value->Shared->Prop:=λ_ _=>False
noncomputable abbrev xS (ifs:List Expr) (env:Env):Sem Bool:=forIn ifs true λc r=>if r=true then do let ok ←isTrue c env (eval c env);pure (ForInStep.yield ok) else pure (ForInStep.yield r)
theorem rc {elt tg iter:Expr} {ifs:List Expr} {it acc:Value} {env:Env} (I:Nat->Shared->Prop)
 (turn:∀n s,I n s->wpAny (model prog w) A (pyNext it) (λr s1=>match r with
   | none=>R (.ok .next) s1
   | some v=>wpAny (model prog w) A (letOwnedTupleGo tg it v) (λ_ s2=>wpAny (model prog w) A (assign tg env v) (λ_ s3=>wpAny (model prog w) A (xS ifs env) (λok s4=>
      if ok=true then wpAny (model prog w) A (eval elt env) (λx s5=>wpAny (model prog w) A (call (.builtin "list.append") [acc,x]) (λ_ s6=>∃m,m<n/\I m s6) nox s5) nox s4
      else ∃m,m<n/\I m s4) nox s3) nox s2) nox s1) nox s) (n:Nat) (h:I n s):
 codeAny (model prog w) A (.compLoop (.ListComp elt [⟨tg,iter,ifs,0⟩] scope pos) 0 it acc env) R s:=by
 refine codeAny_loop rfl I (λn s hI=>?_) n h;show wpAny _ A ((compTurn (.ListComp elt [⟨tg,iter,ifs,0⟩] scope pos) 0 it acc env).onRaise (λx=>do noteFrame x env;theTreesLotGoes x)) _ _ s;refine wpAny_noted ?_;rw[compTurn_list];refine wax (wpAny_standAt (wax (wpAny_mono (turn n s hI) (λr s1 h1=>?_) λ_ _ z=>z.elim)));cases r with
 | none=>exact wpAny_pure h1
 | some v=>
   refine wax (wpAny_mono h1 (λ_ s2 h2=>wax (wpAny_mono h2 (λ_ s3 h3=>wax (wpAny_mono h3 (λok s4 h4=>?_) λ_ _ z=>z.elim)) λ_ _ z=>z.elim)) λ_ _ z=>z.elim);cases ok with
   | false=>exact wpAny_pure ⟨rfl,h4⟩
   | true=>
     refine wax (wax (wpAny_mono h4 (λx s5 h5=>?_) λ_ _ z=>z.elim));exact wax (wpAny_mono h5 (λ_ s6 h6=>wpAny_pure (wpAny_pure ⟨rfl,h6⟩)) λ_ _ z=>z.elim)
end
noncomputable def gz (env:Env):List (Str×NameKind)->List (Str×Addr)->List (Str×Addr)
 | [],cs=>cs
 | (n,k)::r,cs=>if k== .free then gz env r ((n,(env.cells.lookup n).getD 0)::cs) else gz env r cs
theorem iY {env:Env} (h:∀y∈scope.names,y.2=.free->∃c,env.cells.lookup y.1=some c):closureFor scope env=pure (gz env scope.names []):=by
 unfold closureFor;have key:∀(l:List (Str×NameKind)) (cs:List (Str×Addr)),(∀y∈l,y.2=.free->∃c,env.cells.lookup y.1=some c)->
  (forIn l cs λ(x:Str×NameKind) (r:List (Str×Addr))=>(if (x.2==NameKind.free)=true then (do let y ←cellOf env x.1;pure (ForInStep.yield ((x.1,y)::r))) else pure (ForInStep.yield r):Sem (ForInStep (List (Str×Addr)))))=(pure (gz env l cs):Sem (List (Str×Addr))):=by
  intro l
  induction l with
  | nil=>intro cs _;rfl
  | cons y r ih=>
    intro cs hl;obtain⟨n,k⟩:=y;rw[forIn_cons];unfold gz
    by_cases hk:(k==NameKind.free)=true
    ·have hk':k=.free:=by simpa using hk
     obtain⟨c,hc⟩:=hl (n,k) yby hk';simp only[hk,if_true];have e:cellOf env n=pure c:=by unfold cellOf;rw[hc]
     rw[e,hc];simp only[pure_bind,Option.getD_some];exact ih _ λy hy=>hl y (ybx _ hy)
    ·simp only[hk,if_false,Bool.false_eq_true];simp only[pure_bind];exact ih _ λy hy=>hl y (ybx _ hy)
 have:=key scope.names [] h;simp only[bind_pure];exact this
theorem d4 {env:Env}:∀{l:List (Str×NameKind)} {cs:List (Str×Addr)},(∀y∈l,y.2=.free->∃c,env.cells.lookup y.1=some c)->(∀x c,cs.lookup x=some c->env.cells.lookup x=some c)->∀x c,(gz env l cs).lookup x=some c->env.cells.lookup x=some c
 | [],_,_,hc,x,c,e=>hc x c e
 | (n,k)::r,cs,hl,hc,x,c,e=>by
   unfold gz at e;have hr:∀y∈r,y.2=.free->∃c,env.cells.lookup y.1=some c:=λy hy=>hl y (ybx _ hy);split at e
   ·rename_i hk;obtain⟨c0,hc0⟩:=hl (n,k) yby (by simpa using hk);refine d4 hr (λx' c' e'=>?_) x c e;rw[lookup_cons] at e';cases hx:x'==n with
    | true=>
      rw[hx] at e';have:x'=n:=by simpa using hx
      subst this;rw[hc0] at e';simp at e';subst e';exact hc0
    | false=>rw[hx] at e';exact hc x' c' e'
   ·exact d4 hr hc x c e
theorem ft {env:Env}:∀{l:List (Str×NameKind)} {cs:List (Str×Addr)} {x:Str},((x,NameKind.free)∈l∨∃c,cs.lookup x=some c)->∃c,(gz env l cs).lookup x=some c
 | [],_,_,h=>by
   rcases h with h | h
   ·simp at h
   ·exact h
 | (n,k)::r,cs,x,h=>by
   unfold gz;have keep:(∃c,cs.lookup x=some c)->∃c,((n,(env.cells.lookup n).getD 0)::cs).lookup x=some c:=λ⟨c,e⟩=>by
    rw[lookup_cons];cases hx:x==n with
    | true=>exact⟨_,rfl⟩
    | false=>exact⟨c,e⟩
   split
   ·rename_i hk;refine ft ?_;rcases h with h | h
    ·rcases mem_cons.mp h with h | h
     ·cases h;exact .inr ⟨(env.cells.lookup n).getD 0,by rw[lookup_cons];simp⟩
     ·exact .inl h
    ·exact .inr (keep h)
   ·rename_i hk;refine ft ?_;rcases h with h | h
    ·rcases mem_cons.mp h with h | h
     ·cases h;exact absurd rfl hk
     ·exact .inl h
    ·exact .inr h
theorem dX {env:Env}:∀{l:List (Str×NameKind)} {x:Str} {k:NameKind},(l.map λ(n,k)=>if (k==NameKind.free&&env.scope.kind== .function&&env.kindOf n==some .cell) then (n,NameKind.cell) else (n,k)).lookup x=some k->(k=.cell∨k=.free)->(∀y∈l,y.2≠ .cell)->(x,NameKind.free)∈l
 | [],_,_,e,_,_=>by simp at e
 | (n,k0)::r,x,k,e,hk,hc=>by
   rw[map_cons,lookup_cons] at e;have hr:∀y∈r,y.2≠ .cell:=λy hy=>hc y (ybx _ hy);have hn:(if (k0==NameKind.free&&env.scope.kind== .function&&env.kindOf n==some .cell)=true then (n,NameKind.cell) else (n,k0)).1=n:=by split<;> rfl
   rw[hn] at e;cases hx:x==n with
   | false=>rw[hx] at e;exact ybx _ (dX e hk hr)
   | true=>
     rw[hx] at e;have hxn:x=n:=by simpa using hx
     subst hxn;have e':(if (k0==NameKind.free&&env.scope.kind== .function&&env.kindOf x==some .cell)=true then (x,NameKind.cell) else (x,k0)).2=k:=Option.some.inj e
     by_cases hf:k0=.free
     ·subst hf;exact yby
     ·rw[ycw (by simp[hf])] at e';have e'':k0=k:=e';subst e'';rcases hk with h | h
      ·exact absurd h (hc _ yby)
      ·exact absurd h hf
theorem fP {env:Env}:∀{l:List (Str×NameKind)} {x:Str},(l.map λ(n,k)=>if (k==NameKind.free&&env.scope.kind== .function&&env.kindOf n==some .cell) then (n,NameKind.cell) else (n,k)).lookup x=some .local->l.lookup x=some .local
 | [],_,e=>by simp at e
 | (n,k0)::r,x,e=>by
   rw[map_cons,lookup_cons] at e;rw[lookup_cons];have hn:(if (k0==NameKind.free&&env.scope.kind== .function&&env.kindOf n==some .cell)=true then (n,NameKind.cell) else (n,k0)).1=n:=by split<;> rfl
   rw[hn] at e;cases hx:x==n with
   | false=>rw[hx] at e;exact fP e
   | true=>
     rw[hx] at e;have e':(if (k0==NameKind.free&&env.scope.kind== .function&&env.kindOf n==some .cell)=true then (n,NameKind.cell) else (n,k0)).2=NameKind.local:=Option.some.inj e;split at e'
     ·cases e'
     ·exact congrArg some e'
noncomputable def iB (X:Cx) (N:List Str) (scope:Scope) (C:Addr) (fp:List Addr) (s₀:Shared) (H₀:Hp):Cx where
 prog:=X.prog
 w:=X.w
 K:=X.K
 mg:=X.mg
 base:=X.base
 A:=X.A
 N:=N
 s₀:=s₀
 H₀:=H₀
 env:=compEnvC scope (gz X.env scope.names []) C X.env
 outer:=X.stack
 stack:=X.stack
 ex:=fp
 fn:=λ_=>false
 calm:=X.calm
 pn:=[]
 xe:=nox
structure fX (X:Cx) (scope:Scope) (N:List Str) (fv:List (Option Nat)):Prop where
 kind:scope.kind=.function
 nocell:∀y∈scope.names,y.2≠ .cell
 names:∀x∈scope.names,x.2=.local->scope.names.lookup x.1=some .local
 free:∀y∈scope.names,y.2=.free->X.env.scope.names.lookup y.1=some .cell
 fvs:∀(i j:Nat) (x:Str),N[i]?=some x->fv[i]?=some (some j)->X.N[j]?=some x/\X.env.scope.names.lookup x=some .cell/\(x,NameKind.free)∈scope.names
 len:fv.length=N.length
 fvl:∀{x:Str},(x,NameKind.free)∈scope.names->scope.names.lookup x≠some .local
noncomputable def fj {α:Type} (fv:List (Option Nat)) (σ:List (Option α)):List (Option α):=fv.map λo=>o.bind λj=>(σ[j]?).join
theorem lZ {α:Type} {fv:List (Option Nat)} {σ:List (Option α)} {v:α} (h:(fj fv σ)[i]?=some (some v)):∃j,fv[i]?=some (some j)/\σ[j]?=some (some v):=by
 unfold fj at h;rw[List.getElem?_map] at h;cases e:fv[i]? with
 | none=>rw[e] at h;cases h
 | some o=>
   rw[e] at h;cases o with
   | none=>cases h
   | some j=>
     have h':(σ[j]?).join=some v:=Option.some.inj h;refine⟨j,rfl,?_⟩;cases e2:σ[j]? with
     | none=>rw[e2] at h';cases h'
     | some o=>rw[e2] at h';exact congrArg some h'
theorem sY {H:Hp} {τ:dR} {σ:St} {fv:List (Option Nat)} (h:bn K H τ σ):bn K H (fj fv τ) (fj fv σ):=by
 refine⟨by simp[fj],λi w e=>?_⟩;obtain⟨j,ej,ew⟩:=lZ e;obtain⟨v,ev,r⟩:=h.2 j w ew;refine⟨v,?_,r⟩;unfold fj;rw[List.getElem?_map,ej];show some ((σ[j]?).join)=_;rw[ev]
 rfl
section
variable {X:Cx} {π:List (Addr×Obj)} {σ:St} {H H2:Hp} {s s2:Shared} {scope:Scope} {N:List Str} {fv:List (Option Nat)} {fp:List Addr} {C D:Addr}
theorem fX.cells (S:fX X scope N fv) (I:aJ X π σ H s):∀y∈scope.names,y.2=.free->∃c,X.env.cells.lookup y.1=some c:=λy hy hk=>I.ok.has y.1 (.inl (S.free y hy hk))
theorem re {h4:Heap} {t4:Nat} {m:yew} (I:aJ X π σ H2 s2) (S:fX X scope N fv) (hf:∀b∈fp,ky X π H2 b) (hfo:∀b∈fp,b<s2.heap.objs.size) (keep:∀b o,s2.heap.get? b=some o->h4.get? b=some o)
 (hC:s2.heap.objs.size<=C) (ns:h4.Ns C m):aJ (iB X N scope C fp s2 H2) [] (fj fv σ) H2 { s2 with heap:=h4,toks:=t4 }:=by
 have look:∀x c,(gz X.env scope.names []).lookup x=some c->X.env.cells.lookup x=some c:=d4 (S.cells I) (λx c e=>by simp at e);refine⟨⟨I.ok.mod,S.kind,I.ok.glob,I.ok.blt,hC,λx y c e1 e2=>I.ok.inj x y c (look x c e1) (look y c e2),λx hx=>?_,λx c h=>absurd (show false=true from h) ydx,I.ok.hd,I.ok.frames,.inl rfl,λb hb=>?_,I.bs,ycy I.ok.bsz I.sz,λb o e hb=>?_,λb hb hx=>?_,I.stack,I.stkFree⟩,
  rfl,I.bare,Un.kept keep,⟨m,ns,λi x v e1 e2 e3=>?_⟩,λx c e=>?_,I.hok.fresh hC,λx c e=>I.freeC x c (look x c e),λp hp=>absurd (show p∈([]:List (Addr×Obj)) from hp) (by simp),I.hok.kept keep,?_⟩
 ·rcases hx with hx | hx
  ·exact ft (.inl (dX hx (.inl rfl) S.nocell))
  ·exact ft (.inl (dX hx (.inr rfl) S.nocell))
 ·exact⟨ne_of_lt (ydw (hfo b hb) hC),λx c e=>(hf b hb).2.2.2.2.1 x c (look x c e)⟩
 ·rcases(hf b hb).2.2.2.1 with z | z
  ·exact I.ok.noex b o e z
  ·exact absurd (ydw (ybv e) (ycy I.ok.bsz z)) (lt_irrefl _)
 ·rcases mem_cons.mp (I.stkSub b hx) with z | z
  ·exact(hf b hb).2.1 z
  ·exact(hf b hb).2.2.1 z
 ·obtain⟨j,ej,ev⟩:=lZ e2;obtain⟨h1,h2,h3⟩:=S.fvs i j x e1 ej;obtain⟨m0,_,hl⟩:=I.loc;obtain⟨u,r,l⟩:=hl j x v h1 ev (.inr (.inl h2));refine⟨u,r,.inr ?_⟩;rcases l with⟨k,_⟩ | ⟨_,c,ec,o,ho,hd⟩
  ·exact absurd (h2.symm.trans k) (by intro z;cases z)
  ·obtain⟨c',ec'⟩:=ft (env:=X.env) (l:=scope.names) (cs:=[]) (x:=x) (.inl h3);have e':=look x c' ec';rw[ec] at e';cases e';refine⟨?_,c,ec',o,keep _ _ ho,hd⟩;rcases e3 with e3 | e3 | e3
   ·exact absurd (fP e3) λz=>S.fvl h3 z
   ·exact .inl e3
   ·exact .inr e3
 ·obtain⟨v,o,ho,hd⟩:=I.cell x c (look x c e);exact⟨v,o,keep _ _ ho,hd⟩
 ·show(fj fv σ).length=N.length;unfold fj;rw[length_map,S.len]
end
noncomputable def cF (C:Gp->Prop) (g:WG) (tt:WT) (te:WE):List W->dR->Gp->List W->(List W->Gp->Prop)->Prop
 | [],_,G,acc,q=>C G/\q acc G
 | w::ws,τ,G,acc,q=>C G/\g w τ G λτ2 G2=>tt τ2 G2 λb G3=>if b=true then te τ2 G3 λv G4=>acc.length+1<=100000/\cF C g tt te ws τ2 G4 (acc++[v]) q else cF C g tt te ws τ2 G3 acc q
noncomputable def Aw (X:Cx) (ifs:List Expr) (t:WT):Prop:=
 ∀(π:List (Addr×Obj)) (s:Shared) (σ:St) (H:Hp) (Q:Bool->Hp->Prop),aJ X π σ H s->zd X.K t σ H Q->wpAny (model X.prog X.w) X.A (xS ifs X.env) (TP X π σ Q) X.xe s
noncomputable def sZ:WT:=λ_ G q=>q true G
theorem eP {X:Cx}:Aw X [] sZ:=λπ s σ H Q I ⟨τ,G,q,hs,hg,ht,hQ⟩=>wpAny_tests_nil ⟨H,I,hQ true H G (aW.refl H) hg ht⟩
theorem kI {X:Cx} {c:Expr} {t:WT} (h:QT X c t):Aw X [c] t:=λπ s σ H Q I hw=>wpAny_tests_one (h π s σ H Q I hw)
theorem aS.track {H:Hp} {G:Gp} {p:Addr} {xs:List V} {ws:List W} (h:aS K H G) (e:H p=some (.lst xs)) (r:aT K H ws xs) (hl:ws.length<=100000):aS K H (aX G p (.lst ws)):=λa g ea=>by
 by_cases hb:a=p
 ·subst hb;rw[ak] at ea;cases ea;exact⟨hl,xs,e,r⟩
 ·rw[aV hb] at ea;exact h a g ea
section
variable {X:Cx} {π:List (Addr×Obj)} {σ:St} {H2:Hp} {s2:Shared} {scope:Scope} {N:List Str} {fv:List (Option Nat)} {fp:List Addr} {tg elt iter:Expr} {ifs:List Expr} {pos:Pos} {J:It} {it:Addr} {tn:Nat->Heap->Prop}
 {g:WG} {tt:WT} {te:WE} {ws:List W} {Cd:Gp->Prop} {τ:dR} {G:Gp} {q:List W->Gp->Prop}
structure vP (X:Cx) (π:List (Addr×Obj)) (σ:St) (H2:Hp) (s2:Shared) (G:Gp) (q:List W->Gp->Prop) (D C:Addr) (s':Shared):Prop where
 ex:∃(Hf:Hp) (Gf:Gp) (rs:List W),(∃m,s'.heap.Ns C m)/\aJ X π σ Hf s'/\Hf C=none/\s2.heap.objs.size<=C/\aW H2 Hf/\aS X.K Hf (aX Gf D (.lst rs))/\G D=none/\Gf D=none/\q rs Gf
structure Bs (Y:Cx) (fp:List Addr) (tn:Nat->Heap->Prop) (ws:List W) (H2:Hp) (D:Addr) (R:List W->dR->Gp->List W->Prop) (n:Nat) (s:Shared) (i:Nat) (σ1:St) (H1:Hp) (τ1:dR) (G1:Gp) (acc:List W) (vs:List V) (its:yez):Prop where
 hn:n=ws.length-i
 hi:i<=ws.length
 inv:aJ Y [] σ1 H1 s
 st:tn i s.heap
 fr:∀b∈fp,H1 b=none
 hd:H1 D=none
 pl:s.heap.PlainList D its.toArray
 rv:aY vs its
 ra:aT Y.K H1 acc vs
 tl:aW H2 H1
 rs:bn Y.K H1 τ1 σ1
 rg:aS Y.K H1 G1
 cw:R (ws.drop i) τ1 G1 acc
 hl:acc.length<=100000
theorem iZ (I:aJ X π σ H2 s2) (S:fX X scope N fv) (hc:X.calm=true) (T:nH X.prog X.w X.K tg J fp it tn) (st:tn 0 s2.heap) (hf:∀b∈fp,ky X π H2 b)
 (hg:∀C,QG (iB X N scope C fp s2 H2) tg g) (htt:∀C,Aw (iB X N scope C fp s2 H2) ifs tt) (hte:∀C,QE (iB X N scope C fp s2 H2) elt te)
 (itn:uZ X.K J ws Cd H2) (hs:bn X.K H2 τ σ) (gr:aS X.K H2 G) (hw:cF Cd g tt te ws (fj fv τ) G [] q) {RR:Value->Addr->Result->Shared->Prop} {E:yey}
 (hRR:∀D C s',vP X π σ H2 s2 G q D C s'->RR (.ref D) C (.ok .next) s'):
 wpAny (model X.prog X.w) X.A (newList []) (λacc s3=>wpAny (model X.prog X.w) X.A (newFunctionEnv scope X.env.globals (gz X.env scope.names []) [] X.env.qual none .none (some X.env)) (λcenv s4=>
  codeAny (model X.prog X.w) X.A (.compStart (.ListComp elt [⟨tg,iter,ifs,0⟩] scope pos) 0 (.ref it) acc { cenv with scope:=relabel scope X.env }) (RR acc cenv.locals) s4) E s3) E s2:=by
 have hfo:∀b∈fp,b<s2.heap.objs.size:=λb hb=>let ⟨o,e,_⟩:=T.obj _ _ st b hb;ybv e;refine wpAny_newObj_type (wpAny_newFunctionEnv S.nocell (by intro y hy;simp at hy) (λh1 hns1 hsb1=>?_) S.kind);dsimp only at hns1 hsb1 ⊢;generalize hP:s2.heap.push { cls:= .type "list",dict:=none,data:= .seq ([]:yez).toArray }=P at hns1 hsb1 ⊢;generalize hD:s2.heap.objs.size=D at*;have hC:P.objs.size=D+1:=by rw[←hP,Heap.size_push,hD]
 generalize hCC:P.objs.size=C at*;have hDC:D≠C:=by rw[hC];exact ne_of_lt (Nat.lt_succ_self _)
 have hDleC:D<=C:=by rw[hC];exact Nat.le_succ _
 have old:∀b o,s2.heap.get? b=some o->h1.get? b=some o:=λb o e=>hsb1.extBut b o (ne_of_lt (ydw (ybv e) (by rw[hD];exact hDleC))) (ybz _ (hP▸ybz _ e));have hacc:h1.PlainList D #[]:=⟨0,hsb1.extBut _ _ hDC (ybz _ (by rw[←hP,←hD];exact ybw _ rfl))⟩;have look:∀x c,(gz X.env scope.names []).lookup x=some c->X.env.cells.lookup x=some c:=d4 (S.cells I) (λx c e=>by simp at e);have cD:∀x c,(gz X.env scope.names []).lookup x=some c->c≠D:=λx c e z=>by
  obtain⟨v,o,ho,_⟩:=I.cell x c (look x c e);exact absurd (ybv ho) (by rw[z,hD];exact lt_irrefl _)
 have sD:D∉eK X.stack:=λhb=>by
  rcases mem_cons.mp (I.stkSub D hb) with z | z
  ·exact absurd I.lt (by rw[←z,hD];exact lt_irrefl _)
  ·exact I.nofs (by rw[hD];exact ycx _) z
 have fD:D∉fp:=λhb=>absurd (hfo D hb) (lt_irrefl _);have fpX:∀{H1:Hp} {ps:List (Addr×Obj)},(∀b∈fp,H1 b=none)->(∀p∈ps,p.1∉fp)->∀b∈fp,ky (iB X N scope C fp s2 H2) ps H1 b:=λ{H1 ps} hn hp b hb=>by
  refine⟨hn b hb,ne_of_lt (ydw (hfo b hb) hDleC),λhx=>?_,.inl hb,λx c e=>(hf b hb).2.2.2.2.1 x c (look x c e),λp hp' z=>hp p hp' (z▸hb)⟩;rcases mem_cons.mp (I.stkSub b hx) with z | z
  ·exact(hf b hb).2.1 z
  ·exact(hf b hb).2.2.1 z
 have J0:aJ (iB X N scope C fp s2 H2) [] (fj fv σ) H2 { s2 with heap:=h1,toks:=s2.toks+([]:List (Str×Value)).length }:=re I S hf (by rw[hD];exact hfo) old (by rw[hD];exact hDleC) hns1;have loop:codeAny (model X.prog X.w) X.A (.compLoop (.ListComp elt [⟨tg,iter,ifs,0⟩] scope pos) 0 (.ref it) (.ref D) (iB X N scope C fp s2 H2).env) (RR (.ref D) C) { s2 with heap:=h1,toks:=s2.toks+([]:List (Str×Value)).length }:=by
  refine rc (λn s=>∃i σ1 H1 τ1 G1 acc vs its,Bs (iB X N scope C fp s2 H2) fp tn ws H2 D (λl τ1 G1 acc=>cF Cd g tt te l τ1 G1 acc q) n s i σ1 H1 τ1 G1 acc vs its) ?_ ws.length
   ⟨0,_,H2,_,G,[],[],[],by simp,zero_le _,J0,T.keep _ _ _ st λb _ o e=>old b o e,λb hb=>(hf b hb).1,I.hok.fresh (by rw[hD];exact ycx _),hacc,.nil,.nil,aW.refl _,sY hs,gr,by simpa using hw,by simp⟩
  rintro n s ⟨i,σ1,H1,τ1,G1,acc,vs,its,rfl,hi,J1,st1,fr1,d1,pl1,rv1,ra1,t1,s1,g1,q1,hl1⟩;obtain⟨kk,eD⟩:=pl1;have J1p:aJ (iB X N scope C fp s2 H2) [(D,{ cls:= .type "list",data:= .seq its.toArray kk })] σ1 H1 s:=J1.pins_of λp hp=>by
   have e:=mem_singleton.mp hp;subst e;exact⟨eD,d1,hDC,sD,λv z=>by cases z⟩
  have pnf:∀p∈[((D,{ cls:= .type "list",data:= .seq its.toArray kk }):Addr×Obj)],p.1∉fp:=λp hp=>by
   have e:=mem_singleton.mp hp;subst e;exact fD
  by_cases hlt:i<ws.length
  ·have ed:ws.drop i=ws[i]::ws.drop (i+1):=drop_eq_getElem_cons hlt;rw[ed] at q1;obtain⟨c1,q1⟩:=q1;obtain⟨go,yl⟩:=itn.go i ws[i] H1 G1 t1 g1 c1 (ycz hlt);refine ca (T.item (iB X N scope C fp s2 H2) rfl rfl rfl hc i _ s σ1 H1 nox J1p (fpX fr1 pnf) st1 go) λr s4 z9=>?_;obtain⟨u,hr,h4⟩:=z9;subst hr;refine ca h4 λ_ s5 z9=>?_;obtain⟨x,H5,I5,r5,y5,st5,fr5⟩:=z9;obtain⟨tx,rx,gx⟩:=yl x H5 y5;have I5':=I5.pinned (fpX fr5 pnf) (T.obj _ _ st5);refine ca (hg C _ s5 σ1 H5 x u (λσ6 H6=>∃τ6 G6,aW H5 H6/\bn X.K H6 τ6 σ6/\aS X.K H6 G6/\tt τ6 G6 λb G3=>if b=true then te τ6 G3 λv G4=>acc.length+1<=100000/\cF Cd g tt te (ws.drop (i+1)) τ6 G4 (acc++[v]) q else cF Cd g tt te (ws.drop (i+1)) τ6 G3 acc q) I5' r5
    ⟨ws[i],τ1,G1,_,rx,s1.mono tx,gx,q1,λσ6 H6 τ6 G6 t6 s6 g6 q6=>⟨τ6,G6,t6,s6,g6,q6⟩⟩) λ_ s6 ⟨σ6,H6,I6,τ6,G6,t6,rs6,g6,q6⟩=>?_
   refine ca (htt C _ s6 σ6 H6 (λb H7=>∃G7,aW H6 H7/\aS X.K H7 G7/\(if b=true then te τ6 G7 λv G4=>acc.length+1<=100000/\cF Cd g tt te (ws.drop (i+1)) τ6 G4 (acc++[v]) q else cF Cd g tt te (ws.drop (i+1)) τ6 G7 acc q)) I6
    ⟨τ6,G6,_,rs6,g6,q6,λb H7 G7 t7 g7 q7=>⟨G7,t7,g7,q7⟩⟩) λok s7 ⟨H7,I7,G7,t7,g7,q7⟩=>?_
   have t17:aW H1 H7:=(tx.trans t6).trans t7
   -- what the π keep up to a later state
   have keepFp:∀{σ8:St} {H8:Hp} {s8:Shared},aJ (iB X N scope C fp s2 H2) ([(D,{ cls:= .type "list",data:= .seq its.toArray kk })]++iM fp s5.heap) σ8 H8 s8->tn (i+1) s8.heap/\(∀b∈fp,H8 b=none)/\H8 D=none/\s8.heap.get? D=some { cls:= .type "list",data:= .seq its.toArray kk }/\∀b∈fp,∃o,s8.heap.get? b=some o:=λ{σ8 H8 s8} I8=>by
    refine⟨T.keep _ _ _ st5 λb hb o e=>(I8.pin (b,o) (yex _ (yex _ (dU hb e)))).1,λb hb=>?_,(I8.pin (D,_) (yex _ (mem_append_left _ yby))).2.1,(I8.pin (D,_) (yex _ (mem_append_left _ yby))).1,λb hb=>?_⟩
    ·obtain⟨o,e,_⟩:=T.obj _ _ st5 b hb;exact(I8.pin (b,o) (yex _ (yex _ (dU hb e)))).2.1
    ·obtain⟨o,e,_⟩:=T.obj _ _ st5 b hb;exact⟨o,(I8.pin (b,o) (yex _ (yex _ (dU hb e)))).1⟩
   cases ok with
   | false=>
     rw[ycw ydx] at q7 ⊢;obtain⟨k1,k2,k3,k4,_⟩:=keepFp I7;exact⟨ws.length- (i+1),by (clear hD hCC hC hDC hDleC hi hl1 ed;lia),i+1,σ6,H7,τ6,G7,acc,vs,its,rfl,hlt,I7.pins_of λp hp=>absurd hp (by simp),k1,k2,k3,⟨kk,k4⟩,rv1,ra1.mono t17,t1.trans t17,rs6.mono t7,g7,q7,hl1⟩
   | true=>
     rw[ycv rfl] at q7 ⊢;refine ca (hte C _ s7 σ6 H7 (λv H8=>∃w8 G8,aW H7 H8/\cr X.K H8 w8 v/\aS X.K H8 G8/\acc.length+1<=100000/\cF Cd g tt te (ws.drop (i+1)) τ6 G8 (acc++[w8]) q) I7
      ⟨τ6,G7,_,rs6.mono t7,g7,q7,λv H8 w8 G8 t8 r8 g8 q8=>⟨w8,G8,t8,r8,g8,q8⟩⟩) λu8 s8 ⟨v8,H8,I8,rv8,w8,G8,t8,r8,g8,hl8,q8⟩=>?_
     obtain⟨k1,k2,k3,k4,k5⟩:=keepFp I8;have t18:aW H1 H8:=t17.trans t8;refine wpAny_list_append_plain ⟨kk,k4⟩ (λh9 pl9 sb9=>?_) (by rw[size_toArray,←rv1.length,←ra1.length];exact bW hl1);have I9:aJ (iB X N scope C fp s2 H2) [] σ6 H8 { s8 with heap:=h9 }:=(I8.pins_of (pins':=[]) λp hp=>absurd hp (by simp)).turned (t':=s8.toks) (λb o hb e=>(sb9.2 b hb).trans e) k3 hDC (.inr (by show s2.heap.objs.size<=D;rw[hD];exact ycx _)) (λx c e=>cD x c e) λp hp=>absurd (show p∈([]:List (Addr×Obj)) from hp) (by simp);refine⟨ws.length- (i+1),by (clear hD hCC hC hDC hDleC hi hl1 ed hl8;lia),i+1,σ6,H8,τ6,G8,acc++[w8],vs++[v8],its++[u8],rfl,hlt,I9,T.keep _ _ _ k1 λb hb o e=>(sb9.2 b (λz=>fD (z▸hb))).trans e,k2,k3,by simpa using pl9,rv1.append (.cons rv8 .nil),(ra1.mono t18).append (.cons r8 .nil),t1.trans t18,(rs6.mono t7).mono t8,g8,q8,by rw[length_append];exact hl8⟩
  ·have e:i=ws.length:=by (clear hD hCC hC hDC hDleC hl1;lia)
   subst e;rw[List.drop_length] at q1;refine ca (T.done (iB X N scope C fp s2 H2) rfl rfl rfl hc _ _ s σ1 H1 nox J1p (fpX fr1 pnf) st1 (itn.stop _ H1 G1 t1 g1 q1.1 (ycx _))) λr s4 z9=>?_;obtain⟨hr,I4⟩:=z9;subst hr;have eD4:=(I4.pin (D,_) (yex _ yby)).1;have zl:vs.length<=sizeLine:=by rw[←ra1.length];exact bW hl1
   have hb2:∀b o,s2.heap.get? b=some o->b≠D:=λb o e=>by
    have:=ybv e;rw[hD] at this;exact ne_of_lt this
   refine hRR D C s4 ⟨upd H1 D (.lst vs),G1,acc,let ⟨m,hn,_⟩:=I4.loc;⟨m,hn⟩,?_,?_,by rw[hD];exact hDleC,t1.trans (aW.new d1 _),?_,gr.fresh (I.hok.fresh (by rw[hD];exact ycx _)),g1.fresh d1,q1.2⟩
   ·refine I.call' (ch:=fp) I4.os ⟨λb o e n hb hx=>I4.base.keep b o e n hb hx,λb o e n hb hx=>I4.base.slot b o e n hb hx,λb o e n hx=>?_,λb o e hx=>I4.base.there b o e hx,λb xs e=>?_,λb o u e=>?_,λb ps e=>?_⟩ ?_ I4.bare λb hb=>⟨(hf b hb).2.2.2.1,(hf b hb).2.1,λx c e=>(hf b hb).2.2.2.2.1 x c e,λp hp=>(hf b hb).2.2.2.2.2 p hp⟩
    ·rw[aO (hb2 b o e)];exact I4.base.free b o e n hx
    ·rw[aO (bf (I4.base.tups b xs e) d1)];exact I4.base.tups b xs e
    ·rw[aO (bf (I4.base.frzs b o u e) d1)];exact I4.base.frzs b o u e
    ·obtain⟨more,e'⟩:=I4.base.tbls b ps e;exact⟨more,by rw[aO (bf e' d1)];exact e'⟩
    ·intro b u e
     by_cases hbD:b=D
     ·subst hbD;rw[bt] at e;cases e;exact⟨zl,its,kk,rv1,eD4⟩
     ·rw[aO hbD] at e;exact(I4.hok b u e).stay (λc v _ q=>q) (λc q=>by rw[aO (bf q d1)];exact q) λc xs q=>by rw[aO (bf q d1)];exact q
   ·rw[aO (Ne.symm hDC)];exact I4.free
   ·exact(g1.upd (aW.new d1 _) (g1.fresh d1)).track bt (ra1.mono (aW.new d1 _)) hl1
 exact codeAny_compStart_list loop (T.self _ 0 _ _ _ (T.keep _ _ _ st λb _ o e=>old b o e) loop)
noncomputable def s9 (wi:WI) (fv:List (Option Nat)) (g:WG) (tt:WT) (te:WE):WE:=λτ G q=>wi τ G λws Cd G1=>cF Cd g tt te ws (fj fv τ) G1 [] λrs G2=>∀p,G1 p=none->q (.ref p) (aX G2 p (.lst rs))
theorem eQ {wi:WI} (S:fX X scope N fv) (hc:X.calm=true) (hi:QI X tg iter wi) (hg:∀C fp s2 H2,QG (iB X N scope C fp s2 H2) tg g) (htt:∀C fp s2 H2,Aw (iB X N scope C fp s2 H2) ifs tt) (hte:∀C fp s2 H2,QE (iB X N scope C fp s2 H2) elt te)
 (hs:∀x,foldedSetIterable iter X.env x=pure x:=by intro _;rfl):QE X (.ListComp elt [⟨tg,iter,ifs,0⟩] scope pos) (s9 wi fv g tt te):=by
 rintro π s σ H Q I ⟨τ,G,q,hτ,hG,ht,hQ⟩;rw[eval_ListComp];refine wpAny_comprehension_free (use:=none) rfl hs (iY (S.cells I)) S.kind S.names (ca (hi π s σ H (λJ H1=>∃ws Cd G1,aW H H1/\aS X.K H1 G1/\uZ X.K J ws Cd H1/\cF Cd g tt te ws (fj fv τ) G1 [] λrs G2=>∀p,G1 p=none->q (.ref p) (aX G2 p (.lst rs))) I
  ⟨τ,G,_,hτ,hG,ht,λJ H1 ws C G1 t1 g1 it r1=>⟨ws,C,G1,t1,g1,it,r1⟩⟩) λv s1 h1=>ca h1 λitv s2 h2=>?_)
 obtain⟨it,fp,tn,J,H2,e,I2,T,st2,f2,ws,Cd,G1,t1,g1,itn,hw⟩:=h2;subst e;refine iZ (RR:=λacc C=>compPost (model X.prog X.w) X.A X.xe none (EP X π σ Q) acc C) I2 S hc T st2 f2 (λC=>hg C fp s2 H2) (λC=>htt C fp s2 H2) (λC=>hte C fp s2 H2) itn (hτ.mono t1) g1 hw λD C s' z9=>?_;obtain⟨Hf,Gf,rs,⟨m,hn⟩,I5,hC,hCs,t5,g5,hD,hD2,q5⟩:=z9;refine⟨m,hn,λh' sb=>?_⟩;have hlt:C≠X.env.locals:=λz=>absurd I2.lt (not_lt.mpr (z▸hCs));have I6:aJ X π σ Hf { s' with heap:=h' }:=I5.turned (t':=s'.toks) (λb o hb e=>(sb.2 b hb).trans e) hC hlt (.inr (ycy I2.sz hCs)) (λx c e z=>by
  obtain⟨v,o,ho,_⟩:=I2.cell x c e;exact absurd (ybv ho) (not_lt.mpr (z▸hCs))) λp hp z=>absurd (ybv (I2.pin p hp).1) (not_lt.mpr (z▸hCs))
 exact⟨.ref D,Hf,I6,rfl,hQ _ Hf _ _ (t1.trans t5) (.ref D) g5 (q5 D hD)⟩
theorem kJ (i:Nat) {y:Str} {py spos:Pos} {wi:WI} (S:fX X scope N fv) (hc:X.calm=true) (hN:X.N.Nodup) (hiN:X.N[i]?=some y) (hy:u9 X.env.scope y) (hi:QI X tg iter wi) (hg:∀C fp s2 H2,QG (iB X N scope C fp s2 H2) tg g) (htt:∀C fp s2 H2,Aw (iB X N scope C fp s2 H2) ifs tt) (hte:∀C fp s2 H2,QE (iB X N scope C fp s2 H2) elt te)
 (hsw:swapsWith (.ListComp elt [⟨tg,iter,ifs,0⟩] scope pos) (some (.Name y py)) spos.line X.env=pure true:=by rfl) (hs:∀x,foldedSetIterable iter X.env x=pure x:=by intro _;rfl) (hfn:X.fn y=true∨X.env.scope.names.lookup y=some .local:=by first | exact .inl rfl | exact .inr rfl | assumption):
 QS X (.Assign [.Name y py] (.ListComp elt [⟨tg,iter,ifs,0⟩] scope pos) spos) (sP (s9 wi fv g tt te) (fe i)):=by
 rintro π s σ H D0 I ⟨τ,G,d,hτ,hG,ht,l⟩;rw[exec_Assign_Name_used _ _ _ _ hsw];refine wax (wpAny_standAt (wax ?_));show wpAny _ _ (do let _ ←comprehension (.ListComp elt [⟨tg,iter,ifs,0⟩] scope pos) scope X.env _ (newList []) false (eval iter X.env) (some (assign (.Name y py) X.env))) _ _ s;refine wax (wpAny_mono (wpAny_comprehension_free (use:=some (assign (.Name y py) X.env)) (Q:=λ_ s'=>SP X π D0 .next s') rfl hs (iY (S.cells I)) S.kind S.names (ca (hi π s σ H (λJ H1=>∃ws Cd G1,aW H H1/\aS X.K H1 G1/\uZ X.K J ws Cd H1/\cF Cd g tt te ws (fj fv τ) G1 [] λrs G2=>∀p,G1 p=none->fe i (.ref p) τ (aX G2 p (.lst rs)) d.nx) I
  ⟨τ,G,_,hτ,hG,ht,λJ H1 ws C G1 t1 g1 it r1=>⟨ws,C,G1,t1,g1,it,r1⟩⟩) λv s1 h1=>ca h1 λitv s2 h2=>?_)) (λ_ s' hq=>wpAny_pure (wpAny_pure hq)) λ_ _ e=>e)
 obtain⟨it,fp,tn,J,H2,e,I2,T,st2,f2,ws,Cd,G1,t1,g1,itn,hw⟩:=h2;subst e;refine iZ (RR:=λacc C=>compPost (model X.prog X.w) X.A X.xe (some (assign (.Name y py) X.env)) (λ_ s'=>SP X π D0 .next s') acc C) I2 S hc T st2 f2 (λC=>hg C fp s2 H2) (λC=>htt C fp s2 H2) (λC=>hte C fp s2 H2) itn (hτ.mono t1) g1 hw λD C s' z9=>?_;obtain⟨Hf,Gf,rs,⟨m,hn⟩,I5,hC,hCs,t5,g5,hD,hD2,q5⟩:=z9;have hlt:C≠X.env.locals:=λz=>absurd I2.lt (not_lt.mpr (z▸hCs));have hcell:∀x c,X.env.cells.lookup x=some c->c≠C:=λx c e z=>by
  obtain⟨v,o,ho,_⟩:=I2.cell x c e;exact absurd (ybv ho) (not_lt.mpr (z▸hCs))
 show wpAny _ _ (assign (.Name y py) X.env (.ref D)) _ _ s';refine wpAny_assign_Name (jC I5 hN hiN hy (v:= .ref D) rfl (λs6 I6 z9=>?_) hfn);obtain⟨a,sb6,ha⟩:=z9;have haC:C≠a:=by
  rcases ha with z | z
  ·rw[z];exact hlt
  ·exact Ne.symm (hcell y a z)
 refine⟨m,hn.sameBut sb6 haC,λh' sb=>?_⟩;have I7:aJ X π (σ.set i (some (.ref D))) Hf { s6 with heap:=h' }:=I6.turned (t':=s6.toks) (λb o hb e=>(sb.2 b hb).trans e) hC hlt (.inr (ycy I2.sz hCs)) hcell λp hp z=>absurd (ybv (I2.pin p hp).1) (not_lt.mpr (z▸hCs));exact⟨_,Hf,I7,l.nx _ Hf _ _ (t1.trans t5) ((hτ.mono (t1.trans t5)).set (.ref D) i) g5 (q5 D hD)⟩
end
noncomputable def Fo (K:yav) (a b:Addr):It:=
 ⟨λi H=>∃xs ys x y,dQ K H a xs/\dQ K H b ys/\xs[i]?=some x/\ys[i]?=some y,
  λi H v H'=>∃p x y,H p=none/\(∀xs,dQ K H a xs->xs[i]?=some x)/\(∀ys,dQ K H b ys->ys[i]?=some y)/\v=.ref p/\H'=upd H p (.tup [x,y]),
  λi H=>∃xs ys,dQ K H a xs/\dQ K H b ys/\(xs.length<=i∨ys.length<=i)⟩
section
variable {P:Program} {w:World} {K:yav}
theorem tf {elts:List Expr} {z p r i j a b:Addr} (D:ZA z p r i j a b):nH P w K (.Tuple elts k pos) (Fo K a b) [z,p,r,i,j] z (λn h=>ZT z p r i j a b n .none h) where
 mem:=by simp
 obj:=λn h T c hc=>by
  obtain⟨hz,hp,⟨x,y,hr⟩,⟨oi,hi,_,di⟩,⟨oj,hj,_,dj⟩⟩:=T;simp only[mem_cons,mem_nil_iff,or_false] at hc;rcases hc with rfl | rfl | rfl | rfl | rfl
  ·exact⟨_,hz,λv q=>by cases q⟩
  ·exact⟨_,hp,λv q=>by cases q⟩
  ·exact⟨_,hr,λv q=>by cases q⟩
  ·exact⟨_,hi,λv q=>by rw[di] at q;cases q⟩
  ·exact⟨_,hj,λv q=>by rw[dj] at q;cases q⟩
 keep:=λn h h' T kk=>by
  obtain⟨hz,hp,⟨x,y,hr⟩,hi,hj⟩:=T;exact⟨kk z (by simp) _ hz,kk p (by simp) _ hp,⟨x,y,kk r (by simp) _ hr⟩,hi.at λo e=>kk i (by simp) o e,hj.at λo e=>kk j (by simp) o e⟩
 item:=by
  intro X hP hw hK hc n π s σ H E I hf T hg;subst hP hw hK;obtain⟨xs,ys,x,y,qa,qb,ex,ey⟩:=hg;obtain⟨its,rv,pa,hza⟩:=I.tuple qa;obtain⟨its2,rv2,pb,hzb⟩:=I.tuple qb;obtain⟨ux,eux,rx⟩:=rv.get ex;obtain⟨uy,euy,ry⟩:=rv2.get ey;refine qY D T (show s.heap.IsTuple a its.toArray from pa) (show s.heap.IsTuple b its2.toArray from pb) (by simpa using eux) (by simpa using euy) λh1 T1 t1 k1=>⟨_,rfl,?_⟩;refine wpAny_letOwnedTupleGo_zip T1.hz λh2 hz2 sb2=>?_;have lt:∀{c:Addr} {o:Obj},s.heap.get? c=some o->c≠s.heap.objs.size:=λe=>ne_of_lt (ybv e);have hnew:H s.heap.objs.size=none:=I.hok.fresh (ycx _);have zne:z≠s.heap.objs.size:=lt T.hz;have keep:∀c o,c≠z->c≠r->c≠i->c≠j->s.heap.get? c=some o->h2.get? c=some o:=λc o c1 c2 c3 c4 e=>sb2.extBut c o c1 (k1 c o c1 c2 c3 c4 e);have tn:h2.get? s.heap.objs.size=some { cls:= .type "tuple",data:= .seq #[ux,uy] }:=sb2.extBut _ _ (Ne.symm zne) t1;have inZ:∀c∈[z,r,i,j],c∈[z,p,r,i,j]:=λc hc=>by
   simp only[mem_cons,mem_nil_iff,or_false] at hc ⊢;rcases hc with h | h | h | h<;> simp[h]
  have notin:∀{c:Addr},c∉[z,r,i,j]->c≠z/\c≠r/\c≠i/\c≠j:=λ{c} hc=>by
   simp only[mem_cons,mem_nil_iff,or_false,not_or] at hc;exact hc
  have tracked:∀c u,H c=some u->c∉[z,r,i,j]:=λc u e hc=>by
   rw[(hf c (inZ c hc)).1] at e;cases e
  refine⟨.ref s.heap.objs.size,upd H s.heap.objs.size (.tup [x,y]),?_,rfl,⟨_,x,y,hnew,λzs hz=>by rw[I.tuple_inj hz qa];exact ex,λzs hz=>by rw[I.tuple_inj hz qb];exact ey,rfl,rfl⟩,⟨hz2,?_,?_,?_,?_⟩,λc hc=>?_⟩
  ·show aJ X π σ _ { s with heap:=h2,gens:=s.gens,drawn:=s.drawn,toks:=s.toks };refine I.step (g':=s.gens) (d':=s.drawn) (t':=s.toks) (ch:=[z,r,i,j]) (λc hc=>?_) (λc o _ _ hc e _=>?_) (λc o _ _ hc e _=>⟨o.slots,?_⟩) (λc o _ e n=>?_) (λc o hc e=>⟨o,?_⟩) (λc xs e=>?_) (λc o u e=>?_) (λc ps e=>⟨#[],?_⟩) (λm hm=>?_) (λc u e=>?_) I.bare
   ·obtain⟨_,f1,_,f3,f4,f5⟩:=hf c (inZ c hc);exact⟨f3,f1,f4,f5⟩
   ·obtain⟨c1,c2,c3,c4⟩:=notin hc;exact keep c o c1 c2 c3 c4 e
   ·obtain⟨c1,c2,c3,c4⟩:=notin hc;exact keep c o c1 c2 c3 c4 e
   ·rw[aO (lt e)];exact n
   ·obtain⟨c1,c2,c3,c4⟩:=notin hc;exact keep c o c1 c2 c3 c4 e
   ·rw[aO (bf e hnew)];exact e
   ·rw[aO (bf e hnew)];exact e
   ·rw[aO (bf e hnew),e];simp
   ·obtain⟨o,es,ep,ho,rest⟩:=hm;have nl:∀c∈[z,r,i,j],X.env.locals≠c:=λc hc=>Ne.symm (hf c (inZ c hc)).2.1;exact⟨o,es,ep,keep _ o (nl z (by simp)) (nl r (by simp)) (nl i (by simp)) (nl j (by simp)) ho,rest⟩
   ·by_cases hcs:c=s.heap.objs.size
    ·subst hcs;rw[bt] at e;cases e;exact⟨by show 2<=sizeLine;decide,[ux,uy],.cons rx (.cons ry .nil),⟨_,tn,rfl,_,rfl⟩⟩
    ·rw[aO hcs] at e;refine(I.hok c u e).stay (λc' v hc' q=>?_) (λc' q=>by rw[aO (bf q hnew)];exact q) λc' xs q=>by rw[aO (bf q hnew)];exact q
     have nt:c'∉[z,r,i,j]:=by
      rcases hc' with rfl | hc'
      ·exact tracked _ _ e
      ·exact tracked _ _ hc'
     obtain⟨c1,c2,c3,c4⟩:=notin nt;exact keep c' v c1 c2 c3 c4 q
  ·exact sb2.extBut _ _ D.zp T1.hp
  ·obtain⟨x',y',hr⟩:=T1.hr;exact⟨x',y',sb2.extBut _ _ D.zr hr⟩
  ·exact T1.hi.extBut sb2.extBut D.zi
  ·exact T1.hj.extBut sb2.extBut D.zj
  ·obtain⟨o,e,_⟩:∃o,s.heap.get? c=some o/\True:=by
    obtain⟨hz,hp,⟨x,y,hr⟩,⟨oi,hi,_,di⟩,⟨oj,hj,_,dj⟩⟩:=T;simp only[mem_cons,mem_nil_iff,or_false] at hc;rcases hc with rfl | rfl | rfl | rfl | rfl
    ·exact⟨_,hz,trivial⟩
    ·exact⟨_,hp,trivial⟩
    ·exact⟨_,hr,trivial⟩
    ·exact⟨_,hi,trivial⟩
    ·exact⟨_,hj,trivial⟩
   rw[aO (lt e)];exact(hf c hc).1
 done:=by
  intro X hP hw hK hc n π s σ H E I hf T hg;subst hP hw hK;obtain⟨xs,ys,qa,qb,hl⟩:=hg;obtain⟨its,rv,pa,hza⟩:=I.tuple qa;obtain⟨its2,rv2,pb,hzb⟩:=I.tuple qb;have la:=rv.length;have lb:=rv2.length;have hx:its.toArray[n]?=none∨its2.toArray[n]?=none:=by
   rcases hl with h | h
   ·exact .inl (by simp;(clear hza hzb lb;lia))
   ·exact .inr (by simp;(clear hza hzb la;lia))
  refine sW (I.ok.hd hc) D T (show s.heap.IsTuple a its.toArray from pa) (show s.heap.IsTuple b its2.toArray from pb) hx λh' k1=>⟨rfl,?_⟩;have inZ:∀c∈[z,r,i,j],c∈[z,p,r,i,j]:=λc hc=>by
   simp only[mem_cons,mem_nil_iff,or_false] at hc ⊢;rcases hc with h | h | h | h<;> simp[h]
  have notin:∀{c:Addr},c∉[z,r,i,j]->c≠z/\c≠r/\c≠i/\c≠j:=λ{c} hc=>by
   simp only[mem_cons,mem_nil_iff,or_false,not_or] at hc;exact hc
  have tracked:∀c u,H c=some u->c∉[z,r,i,j]:=λc u e hc=>by
   rw[(hf c (inZ c hc)).1] at e;cases e
  have kk:∀c o,c∉[z,r,i,j]->s.heap.get? c=some o->h'.get? c=some o:=λc o hc e=>by
   obtain⟨c1,c2,c3,c4⟩:=notin hc;exact k1 c o c1 c2 c3 c4 e
  refine I.step (g':=s.gens) (d':=s.drawn) (t':=s.toks) (ch:=[z,r,i,j]) (λc hc=>?_) (λc o _ _ hc e _=>kk c o hc e) (λc o _ _ hc e _=>⟨o.slots,kk c o hc e⟩) (λ_ _ _ _ n=>n) (λc o hc e=>⟨o,kk c o hc e⟩) (λ_ _ e=>e) (λ_ _ _ e=>e) (λc ps e=>⟨#[],by rw[e];simp⟩) (λm hm=>?_) (λc u e=>?_) I.bare
  ·obtain⟨_,f1,_,f3,f4,f5⟩:=hf c (inZ c hc);exact⟨f3,f1,f4,f5⟩
  ·obtain⟨o,es,ep,ho,rest⟩:=hm;have nl:X.env.locals∉[z,r,i,j]:=λhc=>(hf _ (inZ _ hc)).2.1 rfl;exact⟨o,es,ep,kk _ o nl ho,rest⟩
  ·refine(I.hok c u e).stay (λc' v hc' q=>kk c' v ?_ q) (λ_ q=>q) λ_ _ q=>q;rcases hc' with rfl | hc'
   ·exact tracked _ _ e
   ·exact tracked _ _ hc'
 self:=λ_ _ _ _ _ T h=>wpAny_pyIter_zip T.hz h
end
noncomputable def d7:List W->List W->List W
 | x::xs,y::ys=> .tup [x,y]::d7 xs ys
 | _,_=>[]
theorem md:∀{xs ys:List W} {i:Nat} {w:W},(d7 xs ys)[i]?=some w->∃x y,xs[i]?=some x/\ys[i]?=some y/\w=.tup [x,y]
 | [],_,_,_,e=>by simp[d7] at e
 | _::_,[],_,_,e=>by simp[d7] at e
 | x::xs,y::ys,0,w,e=>by simp[d7] at e;exact⟨x,y,rfl,rfl,e.symm⟩
 | x::xs,y::ys,i+1,w,e=>by
   obtain⟨a,b,h1,h2,h3⟩:=md (xs:=xs) (ys:=ys) (i:=i) (w:=w) (by simpa[d7] using e);exact⟨a,b,by simpa using h1,by simpa using h2,h3⟩
theorem il:∀(xs ys:List W),(d7 xs ys).length=min xs.length ys.length
 | [],_=>by simp[d7]
 | _::_,[]=>by simp[d7]
 | _::xs,_::ys=>by simp only[d7,length_cons,il xs ys];exact(Nat.succ_min_succ _ _).symm
section
variable {X:Cx}
theorem vQ {a b:Addr} {ws us:List W} {xs ys:List V} {H:Hp} (ha:H a=some (.tup xs)) (hb:H b=some (.tup ys)) (ra:aT K H ws xs) (rb:aT K H us ys):uZ K (Fo K a b) (d7 ws us) (λ_=>True) H where
 stop:=λi H1 G t g _ hl=>⟨xs,ys,dQ.of (t.tup _ _ ha),dQ.of (t.tup _ _ hb),by
  rw[il] at hl;rw[←ra.length,←rb.length];lia⟩
 go:=λi w H1 G t g _ e=>by
  obtain⟨x,y,ex,ey,rfl⟩:=md e;obtain⟨vx,e1,r1⟩:=ra.get ex;obtain⟨vy,e2,r2⟩:=rb.get ey;refine⟨⟨xs,ys,vx,vy,dQ.of (t.tup _ _ ha),dQ.of (t.tup _ _ hb),e1,e2⟩,λv H' z9=>?_⟩;obtain⟨p,x',y',hp,h1,h2,ev,eH⟩:=z9;have z1:=h1 _ (dQ.of (t.tup _ _ ha));have z2:=h2 _ (dQ.of (t.tup _ _ hb));rw[e1] at z1;cases z1;rw[e2] at z2;cases z2;subst ev eH;have tn:=aW.new hp (HO.tup [vx,vy]);exact⟨tn,.tup bt (.cons ((r1.mono t).mono tn) (.cons ((r2.mono t).mono tn) .nil)),g.keep hp _⟩
noncomputable def Bt (ta:WA):WI:=λτ G r=>ta τ G λws G1=>match ws with
 | [.tup xs,.tup ys]=>r (d7 xs ys) (λ_=>True) G1
 | _=>False
theorem ti:bootBuiltins "zip"=some (.type "zip"):=by decide+kernel
theorem zu {ws:List W} {f:List W->List W->Prop} (h:match ws with | [.tup xs,.tup ys]=>f xs ys | _=>False):∃xs ys,ws=[.tup xs,.tup ys]/\f xs ys:=by
 rcases ws with _ | ⟨a,_ | ⟨b,r⟩⟩
 ·exact h.elim
 ·cases a<;> exact h.elim
 ·cases a with
  | tup i=>
    cases b with
    | tup j=>cases r with
      | nil=>exact⟨i,j,rfl,h⟩
      | cons _ _=>exact h.elim
    | _=>exact h.elim
  | _=>exact h.elim
theorem zv {elts:List Expr} {tp:Pos} {a b:Expr} {ta:WA} {p pos:Pos} (hg:Gl X "zip") (hm:X.mg "zip"=none) (ha:QA X [a,b] ta) (hs:starEach [a,b] X.env=[(false,eval a X.env),(false,eval b X.env)]:=by rfl) (hs2:starEach [b] X.env=[(false,eval b X.env)]:=by rfl):
 QI X (.Tuple elts k tp) (.Call (.Name "zip" p) [a,b] [] pos) (Bt ta):=by
 rintro π s σ H R I ⟨τ,G,r,hτ,hG,ht,hR⟩;refine Call_ (iL I hg hm ti (PyProof.Rows.callWith_type1 (ca (ha pos π s σ H (λvs H1=>∃ws G1,aW H H1/\aT X.K H1 ws vs/\aS X.K H1 G1/\match ws with | [.tup xs,.tup ys]=>r (d7 xs ys) (λ_=>True) G1 | _=>False) I ⟨τ,G,_,hτ,hG,ht,λvs H1 ws G1 t1 r1 g1 q1=>⟨ws,G1,t1,r1,g1,q1⟩⟩) λus s1 ⟨vs,H1,I1,ru,ws,G1,t1,r1,g1,q1⟩=>?_) (by rw[hs,hs2]) (by rw[hs2];rfl)));obtain⟨xs,ys,rfl,q1⟩:=zu q1;obtain⟨v1,v2,rfl,ra,rb⟩:=r1.two;cases ra with
 | @tup pa _ xs' ha' ra=>
   cases rb with
   | @tup pb _ ys' hb' rb=>
     obtain⟨u1,u2,rfl,w1,w2⟩:=sk ru;cases (show u1=Value.ref pa from w1);cases (show u2=Value.ref pb from w2);obtain⟨its,_,p1,_⟩:=I1.tuple (dQ.of ha');obtain⟨its2,_,p2,_⟩:=I1.tuple (dQ.of hb');refine qZ (show s1.heap.IsTuple pa its.toArray from p1) (show s1.heap.IsTuple pb its2.toArray from p2) λh' T kk=>?_;refine wpAny_pyIter_zip T.hz ?_;have I2:aJ X π σ H1 { s1 with heap:=h' }:=I1.kept (t':=s1.toks) kk;refine⟨_,[s1.heap.objs.size+4,s1.heap.objs.size+2,s1.heap.objs.size+3,s1.heap.objs.size,s1.heap.objs.size+1],_,_,H1,rfl,I2,tf (zt p1.lt p2.lt),T,λc hc=>?_,hR _ H1 _ _ G1 t1 g1 (vQ ha' hb' ra rb) q1⟩;have hle:s1.heap.objs.size<=c:=by
      simp only[mem_cons,mem_nil_iff,or_false] at hc;rcases hc with rfl | rfl | rfl | rfl | rfl
      ·exact Nat.le_add_right _ _
      ·exact Nat.le_add_right _ _
      ·exact Nat.le_add_right _ _
      ·exact ycx _
      ·exact Nat.le_add_right _ _
     exact I1.fpOk hle (I1.hok.fresh hle)
noncomputable def Bu (te:WE):WE:=λτ G q=>te τ G λx G1=>match x with | .int i=>q (.int (-i)) G1 | _=>False
theorem dY {a:Expr} {ta:WE} (ha:QE X a ta):QE X (.UnaryOp .USub a pos) (Bu ta):=
 (AM yQ ha).imp λσ H Q z0=>z0.el λτ G q hs hg ht hQ=>⟨τ,G,_,hs,hg,ht,λv H1 w G1 t1 r1 g1 q1=>by
   split at q1
   ·cases r1;exact⟨_,rfl,hQ _ H1 _ G1 t1 (.int _) g1 q1⟩
   ·exact q1.elim⟩
noncomputable def Fx (P:Program) (w:World) (K:yav) (mg:yew) (base:Heap) (x:Str) (ps:List Str) (k:Nat) (sp:bJ):Prop:=
 ∃(f:Addr) (fd:FuncData),cB P w K mg base k f fd ps sp/\mg x=some (.ref f)/\keepIn K (.ref f)=true/\bL K fd ps []
theorem Bv {sp:bJ} {p pos:Pos} {t:WA} (F:Fx X.prog X.w X.K X.mg X.base x ps k sp) (hr:ay k X.A) (hg:Gl X x) (ha:QA X (e::es) t) (hdb:(x==("__debug__":Str))=false:=by decide)
 (he:starEach (e::es) X.env=(false,eval e X.env)::starEach es X.env:=by rfl) (hpl:(backTo pos (starEach es X.env)).any (·.1)=false:=by rfl):QE X (.Call (.Name x p) (e::es) [] pos) (ii sp [] t):=by
 obtain⟨f,fd,h1,h2,h3,h4⟩:=F;exact vH h1 hr hg h2 h3 h4 ha hdb he hpl
theorem zw {sp:bJ} {p pos:Pos} (F:Fx X.prog X.w X.K X.mg X.base x ps k sp) (hr:ay k X.A) (hg:Gl X x) (hdb:(x==("__debug__":Str))=false:=by decide):QE X (.Call (.Name x p) [] [] pos) (ii sp [] sN):=by
 obtain⟨f,fd,h1,h2,h3,h4⟩:=F;exact sR h1 hr hg h2 h3 h4 hdb
noncomputable def tj (scope:Scope):List Str:=scope.names.map (·.1)
noncomputable def nZ (N:List Str) (scope:Scope):List (Option Nat):=scope.names.map λy=>if y.2== .free then N.findIdx? (·==y.1) else none
noncomputable def tm (outer scope:Scope):Bool:=
 scope.kind== .function&&scope.names.all (λy=>y.2 !=.cell)&&scope.names.all (λy=>y.2 !=.local||scope.names.lookup y.1==some .local)&&
  scope.names.all (λy=>y.2 !=.free||(outer.names.lookup y.1==some .cell&&scope.names.lookup y.1 !=some .local))
theorem d8 (h:tm X.env.scope scope=true):fX X scope (tj scope) (nZ X.N scope):=by
 unfold tm at h;simp only[Bool.and_eq_true,List.all_eq_true,Bool.or_eq_true,bne_iff_ne,beq_iff_eq,ne_eq] at h;obtain⟨⟨⟨h1,h2⟩,h3⟩,h4⟩:=h;refine⟨h1,h2,λx hx hk=>(h3 x hx).resolve_left λz=>z hk,λy hy hk=>((h4 y hy).resolve_left λz=>z hk).1,λi j x e1 e2=>?_,by simp[tj,nZ],λ{x} hx=>((h4 _ hx).resolve_left λz=>z rfl).2⟩;unfold tj at e1;unfold nZ at e2;rw[List.getElem?_map] at e1 e2;cases e:scope.names[i]? with
 | none=>rw[e] at e1;cases e1
 | some y=>
   rw[e] at e1 e2;have e1':y.1=x:=Option.some.inj e1;have e2':(if (y.2==NameKind.free)=true then X.N.findIdx? (·==y.1) else none)=some j:=Option.some.inj e2;have hm:y∈scope.names:=List.mem_of_getElem? e;split at e2'
   ·rename_i hk;have hk':y.2=.free:=by simpa using hk
    have hy:y=(x,NameKind.free):=by rw[←e1',←hk']
    have:=List.findIdx?_eq_some_iff_getElem.mp e2';obtain⟨hj,hj2,_⟩:=this;refine⟨?_,?_,hy▸hm⟩
    ·rw[ycz hj];have:X.N[j]=y.1:=by simpa using hj2
     rw[this,e1']
    ·have:=((h4 y hm).resolve_left λz=>z hk').1;rw[e1'] at this;exact this
   ·cases e2'
theorem cK (i:Nat) {N:List Str} {C:Addr} {fp:List Addr} {s2:Shared} {H2:Hp} (hN:N.Nodup) (hi:N[i]?=some x) (hx:u9 (iB X N scope C fp s2 H2).env.scope x) (hf:(iB X N scope C fp s2 H2).fn x=true∨(iB X N scope C fp s2 H2).env.scope.names.lookup x=some .local:=by first | exact .inl rfl | exact .inr rfl):
 QG (iB X N scope C fp s2 H2) (.Name x pos) (fe i):=cf (X:=iB X N scope C fp s2 H2) i hN hi hx hf
theorem eR:bootBuiltins "tuple"=some (.type "tuple"):=by decide+kernel
theorem tq:bootBuiltins "max"=some (.builtin "max"):=by decide+kernel
theorem xU:bootBuiltins "sum"=some (.builtin "sum"):=by decide+kernel
theorem aN {R:WS->Prop} {t:WS} (h:lV X body t) (g:R t):∃t,lV X body t/\R t:=⟨t,h,g⟩
end
mutual
noncomputable def W.lt:W->W->Bool
 | .int i,.int j=>decide (i<j)
 | .tup xs,.tup ys=>W.lts xs ys
 | _,_=>false
noncomputable def W.lts:List W->List W->Bool
 | [],[]=>false
 | [],_::_=>true
 | _::_,[]=>false
 | x::xs,y::ys=>if W.eq x y=true then W.lts xs ys else W.lt x y
end
mutual
noncomputable def W.ord:W->W->Bool
 | .int _,.int _=>true
 | .tup xs,.tup ys=>W.ords xs ys
 | _,_=>false
noncomputable def W.ords:List W->List W->Bool
 | x::xs,y::ys=>if W.eq x y=true then W.ords xs ys else W.ord x y
 | _,_=>true
end
noncomputable def rf (A:Around) (s:Shared) (y x:Value) (b:Bool):Prop:=
 ∀(prog:Program) (w:World) (E:yey) (Q:yey),Q (.bool b) s->wpAny (model prog w) A (richCompare .Lt y x) Q E s
inductive gX (A:Around) (s:Shared):List Value->List Value->Bool->Prop where
 | nn:gX A s [] [] false
 | nc {y:Value} {ys:yez}:gX A s [] (y::ys) true
 | cn {x:Value} {xs:yez}:gX A s (x::xs) [] false
 | eq {x y:Value} {xs ys:yez} {r:Bool} (h:SeqAt.EqAt A s x y true) (t:gX A s xs ys r):gX A s (x::xs) (y::ys) r
 | ne {x y:Value} {xs ys:yez} {r:Bool} (h:SeqAt.EqAt A s x y false) (t:rf A s x y r):gX A s (x::xs) (y::ys) r
section
open PySem.SeqAt
open PySem.AutoSeq1 (wpAny_loadPart')
open PySem.MeetsSeq PySem.MeetsSeq2 PySem.MeetsSeq3
theorem n5 (l b:Addr) (items items2:Array Value) (n n2:Nat) (dd dd2:Option Addr) (sl sl2:Array (Option Value)) (r:Bool):
 Meets (Builtin.«tuple.__lt__» ⟨[.ref l,.ref b],[]⟩)
  (λA R s=>s.heap.get? l=some { cls:= .type "tuple",dict:=dd,data:= .seq items n,slots:=sl }/\s.heap.get? b=some { cls:= .type "tuple",dict:=dd2,data:= .seq items2 n2,slots:=sl2 }/\
    gX A.in1 s items.toList items2.toList r/\R (.ok (.ret (.bool r))) s):=
 .of_wp λprog w A R s h=>by
  obtain⟨hp,g,d,tk,os⟩:=s;obtain⟨hl,hb,hc,h⟩:=h;have f2:=AutoSeq1.sub_tuple_tuple
  wp_walk using wpAny_loadPart' hl,wpAny_loadPart' hb,wpAny_forIn_list _ (λrest b s'=>b.1=none/\s'=⟨hp,g,d,tk,os⟩/\∃(vs ws:yez),rest=vs.zip ws/\
   gX A.in1 ⟨hp,g,d,tk,os⟩ vs ws r/\vs.length+items2.size=ws.length+items.size) _
  case turn=>
   rintro⟨y,x⟩ rest b s' ⟨hb',rfl,vs,ws,hz,hC,hlen⟩;cases hC with
   | nn=>rw[List.zip_nil_left] at hz;cases hz
   | nc=>rw[List.zip_nil_left] at hz;cases hz
   | cn=>rw[List.zip_nil_right] at hz;cases hz
   | eq he ht=>
     rw[zip_cons_cons] at hz;injection hz with hyx hrest
     injection hyx with hy hx
     subst hy hx;simp only[length_cons] at hlen;refine wax (he prog w _ _ ?_)
     wp_walk
     exact⟨rfl,rfl,_,_,hrest,ht,by lia⟩
   | ne he ht=>
     rw[zip_cons_cons] at hz;injection hz with hyx hrest
     injection hyx with hy hx
     subst hy hx;refine wax (he prog w _ _ ?_);have hri:=ht prog w
     wp_walk using hri
     exact⟨_,rfl,by simpa using h⟩
  case fin=>
   rintro⟨b1,b2⟩ s' ⟨hb',rfl,vs,ws,hz,hC,hlen⟩;simp only at hb';subst hb';have hv:r=decide (items.size<items2.size):=by
    cases hC with
    | nn=>simp only[length_nil] at hlen;exact(ydy (by lia)).symm
    | nc=>simp only[length_nil,length_cons] at hlen;exact(ydz (by lia)).symm
    | cn=>simp only[length_nil,length_cons] at hlen;exact(ydy (by lia)).symm
    | eq he ht=>rw[zip_cons_cons] at hz;cases hz
    | ne he ht=>rw[zip_cons_cons] at hz;cases hz
   rw[hv] at h
   wp_walk
   exact⟨_,rfl,by simpa[Builtin.Tuple.tupleCompareSizes] using h⟩
  case h=>
   exact⟨rfl,rfl,_,_,rfl,hc,by simp;lia⟩
end
theorem rf.tuples {l b:Addr} {items items2:Array Value} {r:Bool} (hl:s.heap.IsTuple l items) (hb:s.heap.IsTuple b items2) (hu:A.units<cLine)
 (hc:gX A.in1 s items.toList items2.toList r):rf A s (.ref l) (.ref b) r:=λprog w E Q h=>by
 obtain⟨⟨cls,dd,data,sl⟩,ho,hcl,n,hd⟩:=id hl;obtain⟨⟨cls2,dd2,data2,sl2⟩,ho2,hc2,n2,hd2⟩:=id hb;simp only at hcl hd hc2 hd2;subst hcl hd hc2 hd2;exact richCompare_meets_room (op:= .Lt) ⟨_,ho,rfl⟩ ⟨_,ho2,rfl⟩ PySem.F.slot_tuple_lt PySem.F.entry_tuple_lt (PySem.F.args_tuple_lt_2 _ _) (n5 l b items items2 n n2 dd dd2 sl sl2 r)
  ⟨ho,ho2,hc,show Value.bool r≠Value.notImplemented/\Q (.bool r) s from ⟨(λx=>nomatch x),h⟩⟩ hu
section
variable {X:Cx} {π:List (Addr×Obj)} {σ:St} {H:Hp} {s:Shared}
theorem vR (I:aJ X π σ H s) (n:Nat) (A:Around)
 (ih:∀{w1 w2:W} {v1 v2:V} {u1 u2:Value},w1.dep<n->w1.flat=true->w2.flat=true->W.ord w1 w2=true->cr X.K H w1 v1->cr X.K H w2 v2->bo v1 u1->bo v2 u2->rf A s u1 u2 (w1.lt w2)) (hu:A.units+n<cLine):
 ∀{ws us:List W} {xs ys:List V} {its its2:yez},W.deps ws<n->W.flats ws=true->W.flats us=true->W.ords ws us=true->aT X.K H ws xs->aT X.K H us ys->aY xs its->aY ys its2->gX A s its its2 (W.lts ws us):=by
 intro ws
 induction ws with
 | nil=>
   intro us xs ys its its2 hd f1 f2 ho r1 r2 q1 q2;cases r1;cases q1;cases r2 with
   | nil=>cases q2;simpa[W.lts] using gX.nn
   | cons _ _=>cases q2;simpa[W.lts] using gX.nc
 | cons x xs IH=>
   intro us vs1 vs2 its its2 hd f1 f2 ho r1 r2 q1 q2;cases r1 with
   | cons r1 s1=>
     cases q1 with
     | cons q1 t1=>
       cases r2 with
       | nil=>cases q2;simpa[W.lts] using gX.cn
       | @cons y ys _ _ r2 s2=>
         cases q2 with
         | cons q2 t2=>
           simp only[W.deps] at hd;simp only[W.flats,Bool.and_eq_true] at f1 f2;have e:=(fU I n A (w1:=x) (w2:=y) (by (clear hu;lia)) f1.1 f2.1 hu r1 r2 q1 q2).1;rw[W.ords] at ho;rw[W.lts];cases he:W.eq x y with
           | true=>
             rw[he] at e ho;rw[ycv rfl] at ho ⊢;exact .eq e (IH (by (clear hu;lia)) f1.2 f2.2 ho s1 s2 t1 t2)
           | false=>
             rw[he] at e ho;rw[ycw ydx] at ho ⊢;exact .ne e (ih (by (clear hu;lia)) f1.1 f2.1 ho r1 r2 q1 q2)
theorem zx (I:aJ X π σ H s):∀(n:Nat) (A:Around) {w1 w2:W} {v1 v2:V} {u1 u2:Value},w1.dep<n->w1.flat=true->w2.flat=true->W.ord w1 w2=true->A.units+n<cLine->cr X.K H w1 v1->cr X.K H w2 v2->bo v1 u1->bo v2 u2->
 rf A s u1 u2 (w1.lt w2):=by
 intro n
 induction n with
 | zero=>intro A w1 w2 v1 v2 u1 u2 h;lia
 | succ n ih=>
   intro A w1 w2 v1 v2 u1 u2 hd f1 f2 ho hu r1 r2 q1 q2;cases r1 with
   | ref a=>simp[W.flat] at f1
   | scr a=>simp[W.flat] at f1
   | non=>simp[W.ord] at ho
   | bl b=>simp[W.ord] at ho
   | str b=>simp[W.ord] at ho
   | int a=>
     cases r2 with
     | int b=>
       obtain⟨t,rfl⟩:=q1;obtain⟨t',rfl⟩:=q2;rw[W.lt];exact λprog w E Q h=>HT.rcLt_int A s a t b t' prog w E Q h
     | _=>simp[W.ord] at ho
   | @tup a ws xs h r=>
     cases r2 with
     | @tup b us ys h2 r2=>
       cases (show u1=Value.ref _ from q1);cases (show u2=Value.ref _ from q2);obtain⟨its,rv,p,_⟩:=aJ.tupH I h;obtain⟨its2,rv2,p2,_⟩:=aJ.tupH I h2;have g1:W.flats ws=true:=by simpa[W.flat] using f1
       have g2:W.flats us=true:=by simpa[W.flat] using f2
       have ho':W.ords ws us=true:=by simpa[W.ord] using ho
       have hd':W.deps ws<n:=by simp only[W.dep] at hd;(clear hu;lia)
       have hui:A.in1.units+n<cLine:=by show A.units+1+n<cLine;(clear hd hd';lia)
       rw[W.lt];exact rf.tuples p p2 (by (clear hd hd' hui;lia)) (vR I n A.in1 (λh1 h2 h3 h4=>ih A.in1 h1 h2 h3 h4 hui) hui hd' g1 g2 ho' r r2 rv rv2)
     | _=>simp[W.ord] at ho
end
section
variable {X:Cx}
noncomputable def vS:W2:=λx y G q=>match x,y with
 | .int i,.int j=>q (.bl (decide (i<j))) G
 | .tup xs,.tup ys=>W.flats xs=true/\W.flats ys=true/\W.deps xs<=149/\W.ords xs ys=true/\q (.bl (W.lts xs ys)) G
 | _,_=>False
theorem ff (hr:ay k X.A):fi X (compareOp .Lt) vS:=by
 rintro π s σ H x y v u Q I rx ry ⟨wx,wy,G,q,r1,r2,g,h,hQ⟩;unfold vS at h;split at h
 ·cases r1;cases r2;exact xD π s σ H _ _ v u Q I rx ry ⟨_,_,rfl,rfl,hQ _ H _ G (aW.refl H) (.bl _) g h⟩
 ·rename_i xs ys;obtain⟨f1,f2,hd,ho,h⟩:=h;have z:=zx I 151 X.A (w1:= .tup xs) (w2:= .tup ys) (by simp only[W.dep];lia) (by simpa[W.flat] using f1) (by simpa[W.flat] using f2) (by simpa[W.ord] using ho) (by have:=hr.un;(clear hd;lia)) r1 r2 rx ry;rw[W.lt] at z;exact z X.prog X.w X.xe _ ⟨.bl _,H,I,rfl,hQ _ H _ G (aW.refl H) (.bl _) g h⟩
 ·exact h.elim
end
section
variable {X:Cx}
end
section
variable {X:Cx} {π:List (Addr×Obj)} {σ:St} {H:Hp} {s:Shared}
theorem DY (I:aJ X π σ H s) {n:Nat} {ws us:List W} {xs ys:List V} {its its2:yez} (hd:W.deps ws<n) (g1:W.flats ws=true) (g2:W.flats us=true) (hu:A.in1.units+n<cLine) (r:aT X.K H ws xs) (r2:aT X.K H us ys) (rv:aY xs its) (rv2:aY ys its2):
 ∀j (h1:j<its.toArray.size) (h2:j<its2.toArray.size),SeqAt.EqAt A.in1 s its.toArray[j] its2.toArray[j] (iV ws us j):=λj j1 j2=>by
 have e1:its.length=ws.length:=by rw[←rv.length,r.length]
 have e2:its2.length=us.length:=by rw[←rv2.length,r2.length]
 rw[size_toArray] at j1 j2;have ea:ws[j]?=some ws[j]:=ycz (by (clear hd hu j2 e2;lia));have eb:us[j]?=some us[j]:=ycz (by lia);obtain⟨va,ea1,ra⟩:=r.get ea;obtain⟨vb,eb1,rb⟩:=r2.get eb;obtain⟨ua,ea2,qa⟩:=rv.get ea1;obtain⟨ub,eb2,qb⟩:=rv2.get eb1;have za:its.toArray[j]=ua:=by
  have:=(List.getElem?_eq_some_iff.mp ea2).2;simpa using this
 have zb:its2.toArray[j]=ub:=by
  have:=(List.getElem?_eq_some_iff.mp eb2).2;simpa using this
 rw[za,zb];have:=(fU I n A.in1 (w1:=ws[j]) (w2:=us[j]) (Nat.lt_of_le_of_lt (W.deps_get ea) hd) (W.flats_get g1 ea) (W.flats_get g2 eb) hu ra rb qa qb).1;unfold iV;rw[ea,eb];exact this
theorem kK {ws us:List W} (h:ws.length≠us.length):W.eqs ws us=false:=by
 cases e:W.eqs ws us with
 | false=>rfl
 | true=>exact absurd ((W.eqs_iff ws us).mp e).1 h
end
section
variable {X:Cx}
noncomputable def Bw:W2:=λx y G q=>match x,y with
 | .ref a,.ref b=>∃xs ys,G a=some (.lst xs)/\G b=some (.lst ys)/\W.flats xs=true/\W.flats ys=true/\W.deps xs<=149/\q (.bl (W.eqs xs ys)) G
 | x,y=>vJ x y G q
noncomputable def Bx:W2:=λx y G q=>match x,y with
 | .ref a,.ref b=>∃xs ys,G a=some (.lst xs)/\G b=some (.lst ys)/\W.flats xs=true/\W.flats ys=true/\W.deps xs<=149/\q (.bl (!(W.eqs xs ys))) G
 | x,y=>vK x y G q
theorem By (hr:ay k X.A):fi X (compareOp .Eq) Bw:=by
 rintro π s σ H x y v u Q I rx ry ⟨wx,wy,G,q,r1,r2,g,h,hQ⟩;unfold Bw at h;split at h
 ·obtain⟨ws,us,ea,eb,f1,f2,hd,h⟩:=h;cases r1;cases r2;cases rx;cases ry;obtain⟨_,xs,e1,ra⟩:=g _ _ ea;obtain⟨_,ys,e2,rb⟩:=g _ _ eb;obtain⟨its,rv,p,_⟩:=I.list (dP.of e1);obtain⟨its2,rv2,p2,_⟩:=I.list (dP.of e2);have l1:its.length=ws.length:=by rw[←rv.length,ra.length]
  have l2:its2.length=us.length:=by rw[←rv2.length,rb.length]
  have hu:=hr.un;have fin:EP X π σ Q (.bool (W.eqs ws us)) s:=⟨.bl _,H,I,rfl,hQ _ H _ G (aW.refl H) (.bl _) g h⟩
  by_cases hl:ws.length=us.length
  ·have c1:=SeqAt.RcAt.lists p.isList p2.isList (by rw[size_toArray,size_toArray,l1,l2,hl]) (A:=X.A) (by (clear hd l1 l2 hl;lia)) (DY I (n:=150) (by (clear l1 l2 hu hl;lia)) f1 f2 (by show X.A.units+1+150<cLine;(clear hd l1 l2 hl;lia)) ra rb rv rv2);have er:=fG ws us;rw[←hl,Nat.min_self,beq_self_eq_true,Bool.and_true] at er;rw[size_toArray,l1,er] at c1;exact c1 X.prog X.w X.xe _ fin
  ·rw[kK hl] at fin;exact SeqAt.RcAt.lists_lengths p.isList p2.isList (by rw[size_toArray,size_toArray,l1,l2];simpa using hl) (A:=X.A) (by (clear hd l1 l2 hl;lia)) X.prog X.w X.xe _ fin
 ·exact zm hr π s σ H x y v u Q I rx ry ⟨wx,wy,G,q,r1,r2,g,h,hQ⟩
theorem Bz (hr:ay k X.A):fi X (compareOp .NotEq) Bx:=by
 rintro π s σ H x y v u Q I rx ry ⟨wx,wy,G,q,r1,r2,g,h,hQ⟩;unfold Bx at h;split at h
 ·obtain⟨ws,us,ea,eb,f1,f2,hd,h⟩:=h;cases r1;cases r2;cases rx;cases ry;obtain⟨_,xs,e1,ra⟩:=g _ _ ea;obtain⟨_,ys,e2,rb⟩:=g _ _ eb;obtain⟨its,rv,p,_⟩:=I.list (dP.of e1);obtain⟨its2,rv2,p2,_⟩:=I.list (dP.of e2);have l1:its.length=ws.length:=by rw[←rv.length,ra.length]
  have l2:its2.length=us.length:=by rw[←rv2.length,rb.length]
  have hu:=hr.un;have fin:EP X π σ Q (.bool (!(W.eqs ws us))) s:=⟨.bl _,H,I,rfl,hQ _ H _ G (aW.refl H) (.bl _) g h⟩
  by_cases hl:ws.length=us.length
  ·have c1:=SeqAt.RcNeAt.lists p.isList p2.isList (by rw[size_toArray,size_toArray,l1,l2,hl]) (A:=X.A) (by (clear hd l1 l2 hl;lia)) (DY I (n:=150) (by (clear l1 l2 hu hl;lia)) f1 f2 (by show X.A.units+1+150<cLine;(clear hd l1 l2 hl;lia)) ra rb rv rv2);have er:=fG ws us;rw[←hl,Nat.min_self,beq_self_eq_true,Bool.and_true] at er;rw[size_toArray,l1,er] at c1;exact c1 X.prog X.w X.xe _ fin
  ·rw[kK hl] at fin;exact SeqAt.RcNeAt.lists_lengths p.isList p2.isList (by rw[size_toArray,size_toArray,l1,l2];simpa using hl) (A:=X.A) (by (clear hd l1 l2 hl;lia)) X.prog X.w X.xe _ fin
 ·exact zn hr π s σ H x y v u Q I rx ry ⟨wx,wy,G,q,r1,r2,g,h,hQ⟩
end
structure GS (lo hi c:Int):Prop where
 c0:0<c
 c1:c<1000
 l0: -(2^40)<=lo
 l1:lo<2^40
 h0: -(2^40)<=hi
 h1:hi<2^40
section
variable {X:Cx} {tg:Expr}
end
section
variable {X:Cx}
noncomputable def DZ (i j:Int):Prop:=i.natAbs<2^4000/\j.natAbs<2^4000
noncomputable def D1 (j:Int):Prop:=0<j/\j.natAbs<2^4000
noncomputable def px (i j:Int):Prop:=vk i j∨DZ i j
theorem px.ok {i j:Int} (h:px i j):IntMulOk i j:=by
 rcases h with h | ⟨h1,h2⟩
 ·exact h.ok
 ·have b1:=PyProof.Rows.intBits_le h1;have b2:=PyProof.Rows.intBits_le h2;unfold IntMulOk Builtin.Int.intTooBig;have:¬(((Builtin.Int.intBits i+Builtin.Int.intBits j:Int)) > bitsLine):=by
   have hb:(8000:Int)<=bitsLine:=by decide
   (clear h1 h2;lia)
  simp[this]
noncomputable def tu (i j:Int):Prop:=AO i j∨D1 j
theorem tw:gt X (binaryOp .FloorDiv) (rI tu λi j=> .int (i/j)):=Db λi j _ _ _ _ _ hc q=>by
 rcases hc with hc | ⟨h0,h1⟩
 ·have h1:(0:Int)<j:=hc.1;have h2:j<1073741824:=hc.2;exact floordiv_int (by lia) (by rw[Int.fdiv_eq_ediv_of_nonneg i (by lia)];exact q) (.inl (PyProof.noPylong_small (by lia)))
 ·refine floordiv_int (by (clear h1;lia)) (by rw[Int.fdiv_eq_ediv_of_nonneg i (by (clear h1;lia))];exact q) (.inl (PyProof.noPylong_of_log2 ?_));have hne:j.natAbs≠0:=by (clear h1;lia)
  exact ydw ((Nat.log2_lt hne).mpr h1) (by decide)
noncomputable abbrev BA:W2:=qW tu λi j=> .int (i/j)
theorem cS:fi X (binaryOp .FloorDiv) BA:=nX tw
end
section
variable {X:Cx}
end
structure fY (K:yav) (x qual:Str) (st:Stmt) (f:Addr) (fd:FuncData) (T:Addr) (ds:yez):Prop where
 ex:∃(oc:Value) (od:Option Addr) (kV doc pm:Value) (an:Option Addr) (cdv ct:Value) (osl:Array (Option Value)) (ot:Obj) (nt:Nat),
  fd=fnOf x qual (ax st) (aw st) (al st) (.ref T) kV doc pm an cdv ct/\K.lookup f=some ⟨oc,od,.func fd,osl⟩/\codeIn K cdv qual=true/\K.lookup T=some ot/\ot.data=.seq ds.toArray nt
 kp:keepIn K (.ref f)=true
section
variable {P:Program} {w:World} {K:yav} {mg:yew} {base:Heap} {x qual:Str} {st:Stmt} {f T:Addr} {fd:FuncData} {ds:yez}
theorem kL {oc:Value} {od an:Option Addr} {osl:Array (Option Value)} {kV doc pm cdv ct:Value} {ot:Obj} {nt:Nat} (l:K.lookup f=some ⟨oc,od,.func (fnOf x qual (ax st) (aw st) (al st) (.ref T) kV doc pm an cdv ct),osl⟩)
 (c:codeIn K cdv qual=true) (k:keepIn K (.ref f)=true) (t:K.lookup T=some ot) (h:ot.data=.seq ds.toArray nt):fY K x qual st f (fnOf x qual (ax st) (aw st) (al st) (.ref T) kV doc pm an cdv ct) T ds:=
 ⟨⟨oc,od,kV,doc,pm,an,cdv,ct,osl,ot,nt,rfl,l,c,t,h⟩,k⟩
theorem fY.binds {es:yez} (F:fY K x qual st f fd T ds)
 (h:∀(kV doc pm:Value) (an:Option Addr) (cdv ct:Value) (us:yez),(us++es).length=ps.length->∃k,bindArgs (fnOf x qual (ax st) (aw st) (al st) (.ref T) kV doc pm an cdv ct) ⟨us,[]⟩=seqItems? (.ref T) >>= k/\k (some ds.toArray)=pure (ps.zip (us++es))):bL K fd ps es:=by
 obtain⟨oc,od,kV,doc,pm,an,cdv,ct,osl,ot,nt,rfl,lk,hcd,ht,hd⟩:=F.ex;intro s us KX hl;obtain⟨k,h1,h2⟩:=h kV doc pm an cdv ct us hl;exact BindsTo.of_defaults (T:=T) rfl (KX _ _ ht) hd h1 h2
theorem BB {N ps:List Str} {sp:bJ} (F:fY K x qual st f fd T ds) (S:bh N ps (al st)) (len:∀ws G q e,sp ws G q e->ws.length=ps.length)
 (hbody:∀(cdv:Value) (A:Around) (outer:List Env) (s:Shared) (H:Hp) (E:XK),ay k (A.deeper (envOfC qual (al st) s.heap.objs.size f cdv))->
   ∃t,lV (dq sK P w K mg base N qual (al st) f cdv A outer s H E).nox (aw st) t/\
    ∀(ws:List W) (G:Gp) (q:WK) (e:WX),sp ws G q e->t { nx:=λ_ G1=>∃G0,aC G0 G1/\q .non G0,rt:=λw G1=>∃G0,aC G0 G1/\q w G0 } (gW N ws) G):cB P w K mg base (k+1) f fd ps sp:=by
 obtain⟨oc,od,kV,doc,pm,an,cdv,ct,osl,ot,nt,rfl,lk,hcd,ht,hd⟩:=F.ex;refine o4 lk hcd S (λvs H Q E ⟨ws,G,q,e,r,g,z,_⟩=>by rw[←r.length];exact len _ _ _ _ z) (λA outer s H vs Q E hr ⟨ws,G,q,e,r,g,z,hQ,_⟩=>?_);obtain⟨t,ht,hq⟩:=hbody cdv A outer s H E hr;have ht':lF (dq sK P w K mg base N qual (al st) f cdv A outer s H E).nox (aw st) (LS K t):=ht;exact⟨_,ht'.nox,_,G,_,bn.start r,g,hq ws G q e z,⟨λσ1 H1 τ1 G1 t1 s1 g1 ⟨G0,l,q1⟩=>hQ .non H1 .non G0 t1 .non (g1.le l) q1,λv H1 w G1 t1 r1 g1 ⟨G0,l,q1⟩=>hQ v H1 w G0 t1 r1 (g1.le l) q1,λ_ _ _ _ _ _ _ z=>z.elim,λ_ _ _ _ _ _ _ z=>z.elim⟩⟩
noncomputable def BC (P:Program) (w:World) (K:yav) (mg:yew) (base:Heap) (x:Str) (ps:List Str) (k:Nat) (sp:bJ) (dws:List W):Prop:=
 ∃(f:Addr) (fd:FuncData) (ds:yez) (dvs:List V),cB P w K mg base k f fd ps sp/\mg x=some (.ref f)/\keepIn K (.ref f)=true/\bL K fd ps ds/\aY dvs ds/\∀H,aT K H dws dvs
noncomputable def vT (K:yav) (mg:yew) (x:Str) (st:Stmt) (ps:List Str) (dws:List W):Prop:=
 ∃(f:Addr) (fd:FuncData) (T:Addr) (ds:yez) (dvs:List V),fY K x x st f fd T ds/\bL K fd ps []/\bL K fd ps ds/\mg x=some (.ref f)/\aY dvs ds/\∀H,aT K H dws dvs
theorem vT.fx {sp:bJ} {dws:List W} (D:vT K mg x st ps dws) (h:∀(f:Addr) (fd:FuncData) (T:Addr) (ds:yez),fY K x x st f fd T ds->cB P w K mg base k f fd ps sp):Fx P w K mg base x ps k sp:=by
 obtain⟨f,fd,T,ds,dvs,F,b,b',m,_,_⟩:=D;exact⟨f,fd,h f fd T ds F,m,F.kp,b⟩
theorem vT.fxd {sp:bJ} {dws:List W} (D:vT K mg x st ps dws) (h:∀(f:Addr) (fd:FuncData) (T:Addr) (ds:yez),fY K x x st f fd T ds->cB P w K mg base k f fd ps sp):BC P w K mg base x ps k sp dws:=by
 obtain⟨f,fd,T,ds,dvs,F,b,b',m,v,r⟩:=D;exact⟨f,fd,ds,dvs,h f fd T ds F,m,F.kp,b',v,r⟩
end
section
variable {X:Cx}
theorem aD {sp:bJ} {p pos:Pos} {t:WA} (F:Fx X.prog X.w X.K X.mg X.base x ps k sp) (hr:ay k X.A) (hg:Gl X x) (ha:QA X (e::es) t) (_hn:(e::es).length=ps.length:=by rfl) (hdb:(x==("__debug__":Str))=false:=by decide)
 (he:starEach (e::es) X.env=(false,eval e X.env)::starEach es X.env:=by rfl) (hpl:(backTo pos (starEach es X.env)).any (·.1)=false:=by rfl):QE X (.Call (.Name x p) (e::es) [] pos) (ii sp [] t):=Bv F hr hg ha hdb he hpl
theorem kM {sp:bJ} {dws:List W} {p pos:Pos} {t:WA} (F:BC X.prog X.w X.K X.mg X.base x ps k sp dws) (hr:ay k X.A) (hg:Gl X x) (ha:QA X (e::es) t) (_hn:(e::es).length+dws.length=ps.length:=by rfl) (hdb:(x==("__debug__":Str))=false:=by decide)
 (he:starEach (e::es) X.env=(false,eval e X.env)::starEach es X.env:=by rfl) (hpl:(backTo pos (starEach es X.env)).any (·.1)=false:=by rfl):QE X (.Call (.Name x p) (e::es) [] pos) (ii sp dws t):=by
 obtain⟨f,fd,ds,dvs,h1,h2,h3,h4,h5,h6⟩:=F;exact(kB h1 hr hg h2 h3 h4 h5 jJ ha hdb he hpl).imp λ_ _ _ h=>h.call h6
noncomputable def tz:WS:=λ_ _ _=>False
theorem me:QS X st tz:=λ_ _ _ _ _ _ ⟨_,_,_,_,_,z,_⟩=>z.elim
end
variable {X:Cx}
noncomputable def tD:List W->Gp->WK->Prop:=λws G q=>match ws with
 | [.int i,.int j]=>q (.int (if j > i then j else i)) G
 | [.int i,.int j,.int k]=>q (.int (if j > i then (if k > j then k else j) else if k > i then k else i)) G
 | [.ref a]=>∃ns:List Int,G a=some (.lst (ns.map W.int))/\ns≠[]/\∀m:Int,m∈ns->(∀x,x∈ns->x<=m)->q (.int m) G
 | _=>False
theorem n6 (hc:X.calm=true):eC X (.builtin "max") tD:=by
 rintro π s σ H xs us Q I r ⟨ws,G,q,rw',g,h,hQ⟩;unfold tD at h;split at h
 ·obtain⟨v,u,rfl,r1,r2⟩:=rw'.two;cases r1;cases r2;exact qI hc π s σ H _ us Q I r ⟨_,_,rfl,hQ _ H _ G (aW.refl H) (.int _) g h⟩
 ·rename_i i j k;cases rw' with
  | cons r1 rw'=>
    cases rw' with
    | cons r2 rw'=>
      cases rw' with
      | cons r3 rw'=>
        cases rw';cases r1;cases r2;cases r3;cases r with
        | cons a1 r=>
          cases r with
          | cons a2 r=>
            cases r with
            | cons a3 r=>
              cases r;obtain⟨t1,rfl⟩:=a1;obtain⟨t2,rfl⟩:=a2;obtain⟨t3,rfl⟩:=a3;refine max_three_ints (I.ok.hd hc) λh' tk k'=>⟨.int (if j > i then (if k > j then k else j) else if k > i then k else i),H,I.kept k',?_,hQ _ H _ G (aW.refl H) (.int _) g h⟩
              by_cases h1:j > i
              ·by_cases h2:k > j
               ·rw[ycv h1,ycv h2,ycv h1,ycv h2];exact⟨_,rfl⟩
               ·rw[ycv h1,ycw h2,ycv h1,ycw h2];exact⟨_,rfl⟩
              ·by_cases h2:k > i
               ·rw[ycw h1,ycv h2,ycw h1,ycv h2];exact⟨_,rfl⟩
               ·rw[ycw h1,ycw h2,ycw h1,ycw h2];exact⟨_,rfl⟩
 ·rename_i a;obtain⟨ns,e,hne,h⟩:=h;obtain⟨v,rfl,r1⟩:=rw'.one;cases r1;obtain⟨_,zs,e1,rr⟩:=g a _ e;obtain rfl:=rr.ints_of;obtain⟨u,rfl,ru⟩:=eg r;cases (show u=Value.ref a from ru);obtain⟨its,rv,p,hz⟩:=I.list (dP.of e1);have hi:IntsAre its ns:=L2.intsAre_of rv;obtain⟨ys,ey⟩:=hi.allInts.items;have hn:(ys.toList.map (·.1))=ns:=by rw[←nums_intItems,←ey,←hi.numsOf]
  have hl:s.heap.IsList a (intItems ys):=by rw[←ey];exact p.isList
  have hsz:ys.size=ns.length:=by rw[←hn];simp
  have hpos:0<ys.size:=by
   rw[hsz];exact List.length_pos_iff.mpr hne
  refine max_intList (I.ok.hd hc) hl hpos λv h' tk hv hk=>?_;have ab:=argBest_gt (numAt ys) (ys.size-1);generalize argBest (λi j=>decide (numAt ys i > numAt ys j)) (ys.size-1)=ix at hv ab;have hix:ix<ys.size:=by (clear hz hv;lia)
  have hna:∀j (hj:j<ys.size),numAt ys j=ns[j]'(by (clear hz hpos hv ab hix;lia)):=λj hj=>by
   unfold numAt;rw[Array.getElem?_eq_getElem hj];simp[←hn]
  have hv2:v=Value.int (ys[ix].1) (ys[ix].2):=by
   unfold intItems at hv;rw[Array.getElem?_map,Array.getElem?_eq_getElem hix] at hv;simpa using hv.symm
  have hm:ys[ix].1=ns[ix]'(by (clear hz hpos hv ab hv2;lia)):=by
   have:=hna ix hix;unfold numAt at this;rw[Array.getElem?_eq_getElem hix] at this;simpa using this
  rw[hm] at hv2;subst hv2;refine⟨.int _,H,I.kept hk,⟨_,rfl⟩,hQ _ H _ G (aW.refl H) (.int _) g (h _ (getElem_mem _) λx hx=>?_)⟩;obtain⟨j,hj,rfl⟩:=List.mem_iff_getElem.mp hx;have:=ab.2 j (by (clear hz ab hm hv;lia));rw[hna j (by (clear hz hpos ab hm hv this;lia)),hna ix hix] at this;exact this
 ·exact h.elim
theorem dS {i:Int} {t:Tok} (hg:Gl X x) (hm:X.mg x=some (.int i t)) (hd:(x==("__debug__":Str))=false:=by decide):QE X (.Name x pos) (wC (.int i)):=eA (kx (v:= .int i) hg hm ⟨t,rfl⟩ hd) λ_=> .int i
end L2
namespace L2
open PySem PySem.Spec PyProof.Rows
theorem XC.of {C:Addr} (q:excIn K C bmV "ValueError.__new__"=true):∃bm,XC K C bm:=by
 unfold excIn at q;cases lk:List.lookup C K with
 | none=>rw[lk] at q;exact du q
 | some o=>
   rw[lk] at q;obtain⟨cls,d1,data,⟨ls⟩⟩:=o;cases cls with
   | type s=>
     by_cases hs:s="type"
     ·subst hs;cases data with
      | cls cl=>
        obtain⟨nm,bs,mro,ns,qn,hd,sn,sb,ab,co,del⟩:=cl;rcases mro with _ | ⟨v,tl⟩
        ·exact du q
        cases v with
        | ref C2=>
          rcases ls with _ | ⟨j0,_ | ⟨j1,_ | ⟨j2,_ | ⟨j3,_ | ⟨(_ | j4),r⟩⟩⟩⟩⟩
          any_goals first | exact du q | skip
          cases j4 with
          | builtin id=>
            rcases r with _ | ⟨j5,_ | _⟩
            any_goals first | exact du q | skip
            replace q:(C2==C&&id=="ValueError.__new__"&&!del&&W.tailIn K bmV tl&&W.nsOkIn K ns&&W.nsIn K ns (Str.ofString "__init__")==some none)=true:=q
            simp only[beq_iff_eq,Bool.not_eq_true',Bool.and_eq_true] at q;obtain⟨⟨⟨⟨⟨e1,e2⟩,e3⟩,e4⟩,e5⟩,e6⟩:=q;subst e1 e2;subst e3;refine⟨tl,λh X=>⟨ns,nm,qn,bs,hd,sn,sb,ab,co,d1,j0,j1,j2,j3,j5,_,X _ _ lk,.of_isNs (PySem.W.isNs_of_in X e5),PySem.W.nsMap_none_of_in X e5 e6,PySem.W.tail_of_in X e4⟩,λv=>?_⟩;unfold mroIn clsIn;rw[lk]
            rfl
          | _=>exact du q
        | _=>exact du q
      | _=>exact du q
     ·delta PySem.W.excIn.match_6 at q
      change (dite (s="type") _ _:Bool)=true at q;rw[dif_neg hs] at q;exact du q
   | _=>exact du q
theorem XC.has {C:Addr} (x:XC K C bm) {h:Heap} (X:K.In h) {t:String} {b:Bool} (hb:bmV.contains (.type t)=b):(Value.ref C::bm).contains (.type t)=b:=by
 obtain⟨_,_,_,_,_,_,_,_,_,_,_,_,_,_,_,_,_,_,_,T⟩:=x.obj h X;rw[List.contains_cons,T.hasType hb]
 rfl
section
variable {M:Model} {A:Around} {E:yey} {K:yav} {C D a:Addr} {bm bmD:yez} {oe:Obj}
theorem rh {Q:Bool->Shared->Prop} {b:Bool} (X:K.In s.heap) (hC:XC K C bm) (hD:XC K D bmD) (he:s.heap.get? a=some oe) (hcls:oe.cls=.ref C) (hs:mroIn K C (.ref D)=some b) (hq:Q b s):
 wpAny M A (excMatches (.ref a) (.ref D)) Q E s:=by
 obtain⟨h,g,d,t,os⟩:=s;have hb:=hD.has X (t:="BaseException") (b:=true) rfl;have hcd:(Value.ref C::bm).contains (.ref D)=b:=by
  have:=(hC.mro (.ref D)).symm.trans hs;exact Option.some.inj this
 obtain⟨N1,n1,q1,b1,d1,s1,u1,a1,c1,f1,g0,g1,g2,g3,g5,m1,gC,_,_,_⟩:=hC.obj h X;obtain⟨N2,n2,q2,b2,d2,s2,u2,a2,c2,f2,l0,l1,l2,l3,l5,m2,gD,_,_,_⟩:=hD.obj h X;have nt:=tc_notTuple;unfold excMatches
 repeat (first | (with_reducible refine wpAny_loadPart_at he ?_;rw[hcls]) | with_reducible refine wpAny_loadPart_at gD ?_ | (with_reducible refine wpAny_isSubtype_exc gD ?_;rw[hb]) | (with_reducible refine wpAny_isSubtype_exc gC ?_;rw[hcd]) | wp_step)
 cases b with
 | true=>wp_walk;exact hq
 | false=>wp_walk;exact hq
end
theorem gq.none_of {H:Hp} {h:Heap} (x:gq P w H h) (e:h.get? a=none):H a=none:=by
 cases q:H a with
 | none=>rfl
 | some o=>
   have y:=x a o q;cases o with
   | lst xs=>obtain⟨_,_,_,_,z⟩:=y;rw[e] at z;cases z
   | tup xs=>obtain⟨_,_,_,p,z,_⟩:=y;rw[e] at z;cases z
   | dK kvs=>obtain⟨_,_,_,_,o,_,_,z,_⟩:=y;rw[e] at z;cases z
   | dT kvs=>obtain⟨_,_,_,_,o,_,_,z,_⟩:=y;rw[e] at z;cases z
   | set S n=>obtain⟨o,_,_,_,z,_⟩:=y;rw[e] at z;cases z
   | ins C dx fs=>obtain⟨_,_,_,z,_⟩:=y;rw[e] at z;cases z
   | own y2=>obtain⟨_,z⟩:=y;rw[e] at z;cases z
   | xd fs=>obtain⟨_,⟨_,_,_,z,_⟩,_⟩:=y;rw[e] at z;cases z
   | rng lo hi=>obtain⟨_,_,_,z⟩:=y;rw[e] at z;cases z
   | frz ob u=>obtain⟨z,_⟩:=y;rw[e] at z;cases z
   | tbl ps=>have z:h.get? a=some _:=y;rw[e] at z;cases z
   | met f y2=>have z:h.get? a=some _:=y;rw[e] at z;cases z
   | ext φ=>obtain⟨_,⟨_,z⟩,_⟩:=y;rw[e] at z;cases z
theorem fu {h B:Heap} {m:List Addr}:∀{l:List Env},h.FunFrames B l->(∀b∈eK l,b∈m)->h.FunFrames (hideAll h m) l
 | [],_,_=>trivial
 | env::r,⟨e0,⟨L,o,e1,_,e3,e4⟩,e5⟩,hm=>
   have hl:eK (env::r)=L::eK r:=by unfold eK;rw[filterMap_cons,e1]
   ⟨e0,⟨L,o,e1,hideAll_none m (hm L (by rw[hl];exact .head _)),e3,e4⟩,fu e5 λb hb=>hm b (by rw[hl];exact .tail _ hb)⟩
structure Fl (P:Program) (w:World) (fs:List Addr) (H H':Hp) (h0 h:Heap) (a T:Addr) (c fl:Value):Prop where
 un:Un fs [] H H' h0 h
 hok:gq P w H' h
 na:h0.get? a=none
 nT:h0.get? T=none
 ha:H' a=none
 hT:H' T=none
 tr:∃oe vs oT ts a0,h.get? a=some oe/\(oe.cls=c/\vs[0]?=some a0)/\oe.data=.fields vs/\vs[1]?=some (.ref T)/\T≠a/\h.get? T=some oT/\oT.data=.fields ts/\ts[3]?=some fl
section
variable {P:Program} {w:World} {fs:List Addr} {H H':Hp} {h0 h h':Heap} {a T:Addr} {c fl fl':Value}
theorem Fl.traced (F:Fl P w fs H H' h0 h a T c fl):∃a0,h.TracedAtW (hideAll h (a::T::fs)) a c a0 fl:=by
 obtain⟨oe,vs,oT,ts,a0,e1,e2,e3,e4,e5,e6,e7,e8⟩:=F.tr;exact⟨a0,oe,vs,T,oT,ts,e1,e2,e3,e4,hideAll_none _ (.tail _ (.head _)),e5,e6,e7,e8⟩
theorem Fl.move {a0:Value} (F:Fl P w fs H H' h0 h a T c fl) (hfs:∀b∈fs,H' b=none/\∃o,h.get? b=some o/\∀vs,o.data≠ .fields vs)
 (k1:(hideAll h (a::T::fs)).StaysIn h') (k3:h'.TracedAtW (hideAll h (a::T::fs)) a c a0 fl') (k4:h.UpToSlots h'):∃T',Fl P w fs H H' h0 h' a T' c fl':=by
 have keep:∀b o,b≠a->b≠T->b∉fs->h.get? b=some o->h'.get? b=some o:=λb o n1 n2 n3 e=>k1 b o (hideAll_get _ e (by simp[n1,n2,n3]));have slot:∀b o,b∈fs->h.get? b=some o->∃sl,h'.get? b=some { o with slots:=sl }:=λb o hb e=>by
  obtain⟨_,o2,e2,d2⟩:=hfs b hb;rw[e] at e2;cases e2;exact k4 b o e d2
 obtain⟨oe,vs,T',oT,ts,q1,q2,q3,q4,q5,q6,q7,q8,q9⟩:=k3;have hT':T'=T∨h.get? T'=none:=by
  by_cases z:T'=T
  ·exact .inl z
  ·refine .inr ?_;cases e:h.get? T' with
   | none=>rfl
   | some o=>
     by_cases zf:T'∈fs
     ·obtain⟨_,o2,e2,d2⟩:=hfs T' zf;obtain⟨sl,e3⟩:=k4 T' o2 e2 d2;rw[q7] at e3;cases e3;exact absurd q8 (d2 ts)
     ·rw[hideAll_get _ e (by simp[z,zf,q6])] at q5;cases q5
 have back:∀b,h.get? b=none->h0.get? b=none:=λb e=>by
  cases q:h0.get? b with
  | none=>rfl
  | some o=>
    obtain⟨o',e'⟩:=F.un.there b o q (by simp);rw[e] at e';cases e'
 refine⟨T',⟨⟨λb o q n hb hx=>?_,λb o q n hb hx=>?_,F.un.free,λb o q hx=>?_,F.un.tups,F.un.frzs,F.un.tbls⟩,λb u e=>?_,F.na,?_,F.ha,?_,⟨oe,vs,oT,ts,a0,q1,q2,q3,q4,q6,q7,q8,q9⟩⟩⟩
 ·exact keep b o (λz=>by rw[z,F.na] at q;cases q) (λz=>by rw[z,F.nT] at q;cases q) hb (F.un.keep b o q n hb hx)
 ·obtain⟨sl,e1⟩:=F.un.slot b o q n hb hx;obtain⟨sl2,e2⟩:=slot b _ hb e1;exact⟨sl2,e2⟩
 ·obtain⟨o1,e1⟩:=F.un.there b o q hx
  by_cases hb:b∈fs
  ·obtain⟨sl,e2⟩:=slot b o1 hb e1;exact⟨_,e2⟩
  ·exact⟨o1,keep b o1 (λz=>by rw[z,F.na] at q;cases q) (λz=>by rw[z,F.nT] at q;cases q) hb e1⟩
 ·have nn:∀x v,H' x=some v->x≠a/\x≠T/\x∉fs:=λx v e=>⟨λz=>(by rw[z,F.ha] at e;cases e),λz=>(by rw[z,F.hT] at e;cases e),λz=>(by rw[(hfs x z).1] at e;cases e)⟩;refine(F.hok b u e).stay (λx v hc q=>?_) (λ_ q=>q) λ_ _ q=>q;rcases hc with hc | hc
  ·obtain⟨z1,z2,z3⟩:=nn b u e;rw[hc] at q ⊢;exact keep b v z1 z2 z3 q
  ·obtain⟨z1,z2,z3⟩:=nn x _ hc;exact keep x v z1 z2 z3 q
 ·rcases hT' with z | z
  ·rw[z];exact F.nT
  ·exact back T' z
 ·rcases hT' with z | z
  ·rw[z];exact F.hT
  ·exact F.hok.none_of z
end
noncomputable def kN (P:Program) (w:World):qO:=λouter H s E e s'=>∃a T C H',e=.ref a/\s'.os=s.os/\AllBare s'.gens/\Fl P w (eK outer) H H' s.heap s'.heap a T (.ref C) .none/\E (.ref C) none H'
noncomputable abbrev ju (P:Program) (w:World) (K:yav) (mg:yew) (base:Heap) (k:Nat) (f:Addr) (fd:FuncData) (ps:List Str) (sp:bJ):Prop:=fS P w K mg base (kN P w) k f fd ps (uY K sp)
section
variable {P:Program} {w:World} {K:yav} {mg:yew} {base:Heap} {N:List Str} {qual:Str} {scope:Scope} {f:Addr} {cdv:Value} {A:Around} {outer:List Env} {s:Shared} {H:Hp} {E:XK}
theorem zy {σ:St} {H2:Hp} {s2:Shared} {h':Heap} {e C:Addr} {vs:yez} (I:aJ (dq (kN P w) P w K mg base N qual scope f cdv A outer s H E) π σ H2 s2)
 (mx:Heap.MadeExcOf s2.heap h' e (.ref C) vs) (hE:E (.ref C) none H2):(dq (kN P w) P w K mg base N qual scope f cdv A outer s H E).xe (.ref e) { s2 with heap:=h' }:=by
 have ST:=I.stack;have SF:=I.stkFree;refine wpAny_leaves_madeW (base:=hideAll s2.heap (eK (envOfC qual scope s.heap.objs.size f cdv::outer))) (h:=s2.heap) (L:=s.heap.objs.size) I.ok.frames rfl (λb o q=>of_hideAll _ q) (fu ST λ_ z=>z) mx λh3 t fly _ _ ups=>?_;obtain⟨k1,_,_,k3⟩:=fly;obtain⟨oe,ws,T,oT,ts,q1,q2,q3,q4,q5,q6,q7,q8,q9⟩:=k3;have keep:∀b o,b∉eK (envOfC qual scope s.heap.objs.size f cdv::outer)->s2.heap.get? b=some o->h3.get? b=some o:=λb o hb q=>k1 b o (hideAll_get _ q hb);have slot:∀b o,b∈eK (envOfC qual scope s.heap.objs.size f cdv::outer)->s2.heap.get? b=some o->(∃sl,h3.get? b=some { o with slots:=sl })/\∀vs,o.data≠ .fields vs:=λb o hb q=>by
  obtain⟨_,o2,e2,d2⟩:=ST.mem hb;rw[q] at e2;cases e2;exact⟨ups b o (mx.keeps b o q) d2,d2⟩
 have nL:∀b o,s.heap.get? b=some o->b∉eK outer->b∉eK (envOfC qual scope s.heap.objs.size f cdv::outer):=λb o q hb z=>by
  rcases mem_cons.mp (show b∈s.heap.objs.size::eK outer from z) with z | z
  ·exact absurd (ybv q) (by rw[z];exact lt_irrefl _)
  ·exact hb z
 have back:∀b,s2.heap.get? b=none->s.heap.get? b=none:=λb q=>by
  cases z:s.heap.get? b with
  | none=>rfl
  | some o=>
    obtain⟨o',e'⟩:=I.base.there b o z (by intro y;cases y);rw[q] at e';cases e'
 have nT:s2.heap.get? T=none:=by
  cases z:s2.heap.get? T with
  | none=>rfl
  | some o=>
    by_cases zf:T∈eK (envOfC qual scope s.heap.objs.size f cdv::outer)
    ·obtain⟨⟨sl,e3⟩,d2⟩:=slot T o zf z;rw[q7] at e3;cases e3;exact absurd q8 (d2 ts)
    ·rw[hideAll_get _ z zf] at q5;cases q5
 refine⟨e,T,C,H2,rfl,I.os,I.bare,⟨⟨λb o q n hb hx=>?_,λb o q n hb hx=>?_,λb o q n hx=>I.base.free b o q n (by intro y;cases y),λb o q hx=>?_,I.base.tups,I.base.frzs,I.base.tbls⟩,λb u q=>?_,back e mx.new,back T nT,I.hok.none_of mx.new,I.hok.none_of nT,
  ⟨oe,ws,oT,ts,_,q1,q2,q3,q4,q6,q7,q8,q9⟩⟩,hE⟩
 ·exact keep b o (nL b o q hb) (I.base.keep b o q n hb (by intro y;cases y))
 ·obtain⟨sl,e1⟩:=I.base.slot b o q n hb (by intro y;cases y);obtain⟨⟨sl2,e2⟩,_⟩:=slot b _ (ybx _ hb) e1;exact⟨sl2,e2⟩
 ·obtain⟨o1,e1⟩:=I.base.there b o q (by intro y;cases y)
  by_cases hb:b∈eK (envOfC qual scope s.heap.objs.size f cdv::outer)
  ·obtain⟨⟨sl,e2⟩,_⟩:=slot b o1 hb e1;exact⟨_,e2⟩
  ·exact⟨o1,keep b o1 hb e1⟩
 ·have nn:∀x v,H2 x=some v->x∉eK (envOfC qual scope s.heap.objs.size f cdv::outer):=λx v q z=>by rw[SF x z] at q;cases q
  refine(I.hok b u q).stay (λx v hc q2=>?_) (λ_ q=>q) λ_ _ q=>q;rcases hc with hc | hc
  ·rw[hc] at q2 ⊢;exact keep b v (nn b u q) q2
  ·exact keep x v (nn x _ hc) q2
noncomputable def tE (C:Addr) (e:WX):WS:=λ_ _ G=>e (.ref C) G
theorem dC {x msg:Str} {C:Addr} {e:WX} {np cpos pos p1:Pos} {j} (hm:mg x=some (.ref C)) (hC:XC K C bm) (hE:∀H1 G1,aW H H1->aS K H1 G1->e (.ref C) G1->E (.ref C) none H1)
 (hg:Gl (dq (kN P w) P w K mg base N qual scope f cdv A outer s H E) x) (hd:(x==("__debug__":Str))=false:=by decide):
 QS (dq (kN P w) P w K mg base N qual scope f cdv A outer s H E) (.Raise (some (.Call (.Name x np) [.Constant (.str msg) j p1] [] cpos)) none pos) (tE C e):=by
 rintro π s2 σ H2 D I ⟨τ,G,d,hs,hgG,ht,l⟩;obtain⟨N1,n1,q1,b1,d1,s1,u1,a1,c1,f1,g0,g1,g2,g3,g5,m1,gC,gN,gi,gT⟩:=hC.obj _ I.ok.mod.kin;refine wpAny_Raise_call_subT (C:=C) (nm:=n1) (q:=q1) (N:=N1) (bs:=b1) (bm:=bm) (hdct:=d1) (sn:=s1) (sub:=u1) (ab:=a1) (col:=c1) (dd:=f1) (k0:=g0) (k1:=g1) (k2:=g2) (k3:=g3) (k5:=g5) PySem.F.excBase_ValueError (mN:=m1) (gT.hasType rfl) (I.ok.hd rfl) rfl gi
  (eL I hg hm ⟨rfl,?_⟩ hd)
 have ha:=(dy (X:=dq (kN P w) P w K mg base N qual scope f cdv A outer s H E) (ku (x:=msg) (j:=j) (pos:=p1)) pa_nil) cpos π s2 σ H2 (λvs H'=>vs.length=1/\H'=H2) I ⟨rfl,rfl⟩;refine Calls.evalArgs_plain (wpAny_mono ha (λus s3 h3=>?_) λ_ _ y=>y);obtain⟨vs,H3,I3,rv,hl,rfl⟩:=h3;refine⟨rfl,?_,I3.bk _ _ gC,gN.keeps I3.bk,gT.keeps I3.bk,λh' a mx=>zy I3 mx (hE _ G ⟨I3.base.tups,λb o u q=>I3.base.frzs b o _ q⟩ hgG ht)⟩;show us.length<=sizeLine;rw[←rv.length,hl];decide
end
theorem jv {x qual:Str} {f:Addr} {N ps:List Str} {sp:bJ} (F:cv K x qual st f fd) (S:bh N ps (al st)) (len:∀ws G q e,sp ws G q e->ws.length=ps.length)
 (hbody:∀(cdv:Value) (A:Around) (outer:List Env) (s:Shared) (H:Hp) (E:XK) (ws:List W) (G:Gp) (q:WK) (e:WX),ay k (A.deeper (envOfC qual (al st) s.heap.objs.size f cdv))->sp ws G q e->(∀c H1 G1,aW H H1->aS K H1 G1->e c G1->E c none H1)->
   ∃t,lV (dq (kN P w) P w K mg base N qual (al st) f cdv A outer s H E) (aw st) t/\t { nx:=λ_ G1=>∃G0,aC G0 G1/\q .non G0,rt:=λw G1=>∃G0,aC G0 G1/\q w G0 } (gW N ws) G):ju P w K mg base (k+1) f fd ps sp:=by
 obtain⟨oc,od,kV,doc,pm,an,cdv,ct,osl,rfl,lk,hcd⟩:=F.ex;refine o4 lk hcd S (λvs H Q E ⟨ws,G,q,e,r,g,z,_⟩=>by rw[←r.length];exact len _ _ _ _ z) (λA outer s H vs Q E hr ⟨ws,G,q,e,r,g,z,hQ,hX⟩=>?_);obtain⟨t,ht,hq⟩:=hbody cdv A outer s H E ws G q e hr z λc H1 G1 t1 g1 z1=>hX c none H1 G1 t1 g1 z1;exact⟨_,ht,_,G,_,bn.start r,g,hq,⟨λσ1 H1 τ1 G1 t1 s1 g1 ⟨G0,l,q1⟩=>hQ .non H1 .non G0 t1 .non (g1.le l) q1,λv H1 w G1 t1 r1 g1 ⟨G0,l,q1⟩=>hQ v H1 w G0 t1 r1 (g1.le l) q1,λ_ _ _ _ _ _ _ z=>z.elim,λ_ _ _ _ _ _ _ z=>z.elim⟩⟩
theorem BD {x qual:Str} {f T:Addr} {ds:yez} {N ps:List Str} {sp:bJ} (F:fY K x qual st f fd T ds) (S:bh N ps (al st)) (len:∀ws G q e,sp ws G q e->ws.length=ps.length)
 (hbody:∀(cdv:Value) (A:Around) (outer:List Env) (s:Shared) (H:Hp) (E:XK) (ws:List W) (G:Gp) (q:WK) (e:WX),ay k (A.deeper (envOfC qual (al st) s.heap.objs.size f cdv))->sp ws G q e->(∀c H1 G1,aW H H1->aS K H1 G1->e c G1->E c none H1)->
   ∃t,lV (dq (kN P w) P w K mg base N qual (al st) f cdv A outer s H E) (aw st) t/\t { nx:=λ_ G1=>∃G0,aC G0 G1/\q .non G0,rt:=λw G1=>∃G0,aC G0 G1/\q w G0 } (gW N ws) G):ju P w K mg base (k+1) f fd ps sp:=by
 obtain⟨oc,od,kV,doc,pm,an,cdv,ct,osl,ot,nt,rfl,lk,hcd,ht,hd⟩:=F.ex;refine o4 lk hcd S (λvs H Q E ⟨ws,G,q,e,r,g,z,_⟩=>by rw[←r.length];exact len _ _ _ _ z) (λA outer s H vs Q E hr ⟨ws,G,q,e,r,g,z,hQ,hX⟩=>?_);obtain⟨t,ht,hq⟩:=hbody cdv A outer s H E ws G q e hr z λc H1 G1 t1 g1 z1=>hX c none H1 G1 t1 g1 z1;exact⟨_,ht,_,G,_,bn.start r,g,hq,⟨λσ1 H1 τ1 G1 t1 s1 g1 ⟨G0,l,q1⟩=>hQ .non H1 .non G0 t1 .non (g1.le l) q1,λv H1 w G1 t1 r1 g1 ⟨G0,l,q1⟩=>hQ v H1 w G0 t1 r1 (g1.le l) q1,λ_ _ _ _ _ _ _ z=>z.elim,λ_ _ _ _ _ _ _ z=>z.elim⟩⟩
noncomputable def Rx (P:Program) (w:World) (K:yav) (mg:yew) (base:Heap) (x:Str) (ps:List Str) (k:Nat) (sp:bJ) (dws:List W):Prop:=
 ∃(f:Addr) (fd:FuncData) (ds:yez) (dvs:List V),ju P w K mg base k f fd ps sp/\mg x=some (.ref f)/\keepIn K (.ref f)=true/\bL K fd ps ds/\aY dvs ds/\∀H,aT K H dws dvs
noncomputable abbrev Cx.xmk (X:Cx) (a:Addr) (oe:Obj):Cx:={ X with A:=X.A.mark (some (.ref a)),calm:=false,xe:=λ_ _=>False,pn:=(a,oe)::X.pn }
section
variable {X:Cx} {π:List (Addr×Obj)} {σ:St} {H:Hp} {s:Shared} {a:Addr} {oe:Obj}
theorem aJ.xmk (I:aJ X π σ H s) (e:s.heap.get? a=some oe) (n:H a=none) (hl:a≠X.env.locals) (hf:a∉X.fs) (hd:∀v,oe.data≠ .cell v):aJ (X.xmk a oe) π σ H s:=
 ⟨⟨I.ok.mod,I.ok.kind,I.ok.glob,I.ok.blt,I.ok.above,I.ok.inj,I.ok.has,I.ok.cab,λz=>(ydx z).elim,I.ok.frames,I.ok.stk,I.ok.exf,I.ok.bs,I.ok.bsz,I.ok.noex,I.ok.exfs,I.ok.funs,I.ok.frf⟩,I.os,I.bare,I.base,I.loc,I.cell,I.free,I.freeC,
   λp hp=>by
    rcases mem_cons.mp (show p∈(a,oe)::(X.pn++π) from hp) with z | z
    ·rw[z];exact⟨e,n,hl,hf,hd⟩
    ·exact I.pin p z,I.hok,I.len⟩
end
noncomputable def QH (X:Cx) (C:Addr) (hs:List ExceptHandler) (th:WS):Prop:=
 ∀(π:List (Addr×Obj)) (s0:Shared) (σ:St) (H0:Hp) (s:Shared) (H:Hp) (a T:Addr) (D:iu),aJ X π σ H0 s0->Fl X.prog X.w (eK X.stack) H0 H s0.heap s.heap a T (.ref C) .none->s.os=s0.os->AllBare s.gens->LS X.K th D σ H->
  wpAny (model X.prog X.w) X.A (handleBy (.ref a) X.env hs) (SP X π D) X.xe s
section
variable {X:Cx} {π:List (Addr×Obj)} {σ:St} {H0 H:Hp} {s0 s:Shared} {a T:Addr} {c fl:Value}
theorem Fl.inv (F:Fl X.prog X.w (eK X.stack) H0 H s0.heap s.heap a T c fl) (I:aJ X π σ H0 s0) (os:s.os=s0.os) (bare:AllBare s.gens):aJ X π σ H s:=I.call' (ch:=[]) os F.un F.hok bare λb z=>absurd z (by simp)
theorem aJ.frmem (I:aJ X π σ H s):∀b∈eK X.stack,H b=none/\∃o,s.heap.get? b=some o/\∀vs,o.data≠ .fields vs:=λb hb=>⟨I.stkFree b hb,(I.stack.mem hb).2⟩
theorem Fl.there (F:Fl X.prog X.w (eK X.stack) H0 H s0.heap s.heap a T c fl) (I:aJ X π σ H0 s0):∃oe,s.heap.get? a=some oe/\oe.cls=c/\H a=none/\a≠X.env.locals/\a∉X.fs/\∀v,oe.data≠ .cell v:=by
 obtain⟨oe,vs,oT,ts,a0,e1,e2,e3,_⟩:=F.tr;refine⟨oe,e1,e2.1,F.ha,λz=>?_,λz=>?_,λv z=>by rw[e3] at z;cases z⟩
 ·obtain⟨m,⟨o,_,_,ho,_⟩,_⟩:=I.loc;rw[←z,F.na] at ho;cases ho
 ·obtain⟨_,o,ho,_⟩:=I.funs.mem z;rw[F.na] at ho;cases ho
theorem Fl.lands {M:Model} {Q:Unit->Shared->Prop} (F:Fl X.prog X.w (eK X.stack) H0 H s0.heap s.heap a T c fl) (I:aJ X π σ H0 s0) (os:s.os=s0.os) (bare:AllBare s.gens)
 (h:∀h' T',Fl X.prog X.w (eK X.stack) H0 H s0.heap h' a T' c .none->Q () { s with heap:=h' }):wpAny M A (setFlight (.ref a) none) Q E s:=by
 have I1:=F.inv I os bare;obtain⟨a0,tr⟩:=F.traced;refine wpAny_setFlight_noneW (base:=hideAll s.heap (a::T::eK X.stack)) (λb o q=>of_hideAll _ q) (fu I1.stack λb z=> .tail _ (.tail _ z)) tr λh' k1 _ k3 k4=>?_;obtain⟨T',F'⟩:=F.move I1.frmem k1 k3 λb o e n=>⟨o.slots,k4 b o e n⟩;exact h h' T' F'
variable {C D:Addr} {bm bmD:yez} {x:Str} {p pos:Pos} {name:Option Str} {body:List Stmt} {rest:List ExceptHandler} {b0:Stmt} {th:WS}
theorem fH {M:Model} {Q:Unit->Shared->Prop} {n:Str} (I:aJ X π σ H s) (hN:X.N.Nodup) (hi:X.N[i]?=some n) (hl:X.env.scope.names.lookup n=some .local)
 (h:∀s',aJ X π (σ.set i none) H s'->Q () s'):wpAny M A (do bindName X.env n .none;unbindBehindTheSuite X.env n pos) Q E s:=by
 obtain⟨m,hn,hlk⟩:=id I.loc;obtain⟨oL,_,_,hoL,_⟩:=id hn;refine wpAny_nameGoes_keeps hl hn (by rw[I.ok.kind];rfl) λh' v hn' hs=>h _ ?_;have ne0:∀b o,X.s₀.heap.get? b=some o->b≠X.env.locals:=λb o e=>ne_of_lt (ydw (ybv e) I.ok.above);refine⟨I.ok,I.os,I.bare,⟨λb o e n hb hx=>?_,λb o e n hb hx=>?_,I.base.free,λb o e hx=>?_,I.base.tups,I.base.frzs,I.base.tbls⟩,⟨_,hn',λj y v' e1 e2 e3=>?_⟩,λy c e=>?_,I.free,I.freeC,λp hp=>?_,λb ob e=>?_,by simpa using I.len⟩
 ·exact(hs.2 b (ne0 b o e)).trans (I.base.keep b o e n hb hx)
 ·obtain⟨sl,z⟩:=I.base.slot b o e n hb hx;exact⟨sl,(hs.2 b (ne0 b o e)).trans z⟩
 ·obtain⟨o',z⟩:=I.base.there b o e hx;exact⟨o',(hs.2 b (ne0 b o e)).trans z⟩
 ·have hj:j≠i:=λz=>by
   subst z
   by_cases hjl:j<σ.length
   ·rw[List.getElem?_set_self hjl] at e2;cases e2
   ·rw[List.getElem?_eq_none (by simpa using hjl)] at e2;cases e2
  rw[List.getElem?_set_ne (Ne.symm hj)] at e2;obtain⟨u',r',q⟩:=hlk j y v' e1 e2 e3;refine⟨u',r',?_⟩;rcases q with⟨k,e⟩ | ⟨k,c,e,z⟩
  ·refine .inl ⟨k,?_⟩;have:y≠n:=λe=>hj (iK hN e1 (e▸hi));simp[this,e]
  ·exact .inr ⟨k,c,e,z.sameBut hs (I.cne y c e)⟩
 ·obtain⟨w',z⟩:=I.cell y c e;exact⟨w',z.sameBut hs (I.cne y c e)⟩
 ·obtain⟨e,n,ne,nf,d⟩:=I.pin p hp;exact⟨(hs.2 p.1 ne).trans e,n,ne,nf,d⟩
 ·refine(I.hok b ob e).stay (λx w' hc q=>(hs.2 x ?_).trans q) (λ_ q=>q) λ_ _ q=>q;intro z;rcases hc with hc | hc
  ·rw[←hc,z,I.free] at e;cases e
  ·rw[z,I.free] at hc;cases hc
theorem bn.drop {H:Hp} {τ:dR} {σ:St} (h:bn K H τ σ) (i:Nat):bn K H (τ.set i none) (σ.set i none):=by
 refine⟨by simpa using h.1,λj u e=>?_⟩
 by_cases hj:i=j
 ·subst hj
  by_cases hl:i<τ.length
  ·rw[List.getElem?_set_self hl] at e;cases e
  ·rw[List.getElem?_eq_none (by simpa using hl)] at e;cases e
 ·rw[List.getElem?_set_ne hj] at e;obtain⟨u',e1,r1⟩:=h.2 j u e;exact⟨u',by rw[List.getElem?_set_ne hj];exact e1,r1⟩
end
section
variable {X:Cx} {a:Addr} {oe:Obj} {C D:Addr} {bm bmD:yez}
theorem n8 {x y:V} (r:aY [x,y] us):∃u v,us=[u,v]/\bo x u/\bo y v:=by
 cases r with
 | cons r1 r=>
   cases r with
   | cons r2 r=>cases r;exact⟨_,_,rfl,r1,r2⟩
end
theorem XC.self {C:Addr} (x:XC K C bm):mroIn K C (.ref C)=some true:=by rw[x.mro];simp
section
variable {prog:Program} {w:World} {A:Around} {R:Result->Shared->Prop} {I:Addr} {fp wr:List Addr} {n:Nat} {P:Nat->Value->Prop} {St:Nat->Heap->Prop} {kw:List (Str×Value)}
end
section
variable {prog:Program} {w:World} {A:Around} {E:yey} {s:Shared} {l:Addr} {xs:Array (Int×Tok)} {d:Value}
end
section
variable {X:Cx}
end
section
variable {P:Program} {w:World} {K:yav} {mg:yew} {base:Heap} {N:List Str} {qual:Str} {scope:Scope} {f:Addr} {cdv:Value} {A:Around} {outer:List Env} {s:Shared} {H:Hp} {E:XK}
theorem pz {E':XK} (hE:∀C H1,aW H H1->E' (.ref C) none H1->E (.ref C) none H1):eM (kN P w) (dq (kN P w) P w K mg base N qual scope f cdv A outer s H E) E':=by
 intro π σ H2 s2 e s3 I hx;obtain⟨a,T,C,H',rfl,os,bare,F,hw⟩:=hx;have I':=F.inv I os bare;obtain⟨a0,tr⟩:=F.traced;show wpAny _ _ (leaving (envOfC qual scope s.heap.objs.size f cdv) (.ref a)) _ _ s3;refine wpAny_leaving_nextW (base:=hideAll s3.heap (a::T::eK (envOfC qual scope s.heap.objs.size f cdv::outer))) (outer:=outer) (L:=s.heap.objs.size) I'.ok.frames (fu I'.stack λb z=> .tail _ (.tail _ z)) rfl tr (λb o q=>of_hideAll _ q) (hideAll_none _ (.head _)) λh3 left=>?_;obtain⟨k1,_,k3,k4⟩:=left;obtain⟨T',F'⟩:=F.move I'.frmem k1 k3 k4;have nL:∀b o,s.heap.get? b=some o->b∉eK outer->b∉eK (envOfC qual scope s.heap.objs.size f cdv::outer):=λb o q hb z=>by
  rcases mem_cons.mp (show b∈s.heap.objs.size::eK outer from z) with z | z
  ·exact absurd (ybv q) (by rw[z];exact lt_irrefl _)
  ·exact hb z
 have no:∀b:Addr,b∉(dq (kN P w) P w K mg base N qual scope f cdv A outer s H E).ex:=λb y=>nomatch y;have back:∀b,s2.heap.get? b=none->s.heap.get? b=none:=λb q=>by
  cases z:s.heap.get? b with
  | none=>rfl
  | some o=>
    obtain⟨o',e'⟩:=I.base.there b o z (no b);rw[q] at e';cases e'
 have tl:aW H H':=⟨λb xs q=>F.un.tups b xs (I.base.tups b xs q),λb o u q=>F.un.frzs b o _ (I.base.frzs b o _ q)⟩;refine⟨a,T',C,H',rfl,os.trans I.os,bare,⟨⟨λb o q n hb hx=>?_,λb o q n hb hx=>?_,λb o q n hx=>?_,λb o q hx=>?_,λb xs q=>F.un.tups b xs (I.base.tups b xs q),λb o u q=>F.un.frzs b o u (I.base.frzs b o u q),λb ps q=>?_⟩,F'.hok,back a F'.na,back T' F'.nT,F'.ha,F'.hT,F'.tr⟩,hE C H' tl hw⟩
 ·exact F'.un.keep b o (I.base.keep b o q n hb (no b)) (I.base.free b o q n (no b)) (nL b o q hb) (by simp)
 ·obtain⟨sl,e1⟩:=I.base.slot b o q n hb (no b);obtain⟨sl2,e2⟩:=F'.un.slot b _ e1 (I.base.free b o q n (no b)) (ybx _ hb) (by simp);exact⟨sl2,e2⟩
 ·obtain⟨o',e'⟩:=I.base.there b o q (no b);exact F'.un.free b o' e' (I.base.free b o q n (no b)) (by simp)
 ·obtain⟨o',e'⟩:=I.base.there b o q (no b);exact F'.un.there b o' e' (by simp)
 ·obtain⟨m1,e1⟩:=I.base.tbls b ps q;obtain⟨m2,e2⟩:=F.un.tbls b _ e1;exact⟨m1++m2,by rw[e2,Array.append_assoc]⟩
noncomputable def tF (sp:bJ) (dws:List W) (t:WA) (e:WX):WE:=λτ G q=>t τ G λws G1=>sp (ws++dws) G1 q e
theorem eE {sp:bJ} {dws:List W} {p pos:Pos} {e0:Expr} {t:WA} {e:WX} (F:Rx P w K mg base x ps k sp dws) (hr:ay k (A.deeper (envOfC qual scope s.heap.objs.size f cdv)))
 (hE:∀c H1 G1,aW H H1->aS K H1 G1->e c G1->E c none H1) (hg:Gl (dq (kN P w) P w K mg base N qual scope f cdv A outer s H E) x) (ha:QA (dq (kN P w) P w K mg base N qual scope f cdv A outer s H E) (e0::es) t) (hdb:(x==("__debug__":Str))=false:=by decide)
 (he:starEach (e0::es) (envOfC qual scope s.heap.objs.size f cdv)=(false,eval e0 (envOfC qual scope s.heap.objs.size f cdv))::starEach es (envOfC qual scope s.heap.objs.size f cdv):=by rfl) (hpl:(backTo pos (starEach es (envOfC qual scope s.heap.objs.size f cdv))).any (·.1)=false:=by rfl):
 QE (dq (kN P w) P w K mg base N qual scope f cdv A outer s H E) (.Call (.Name x p) (e0::es) [] pos) (tF sp dws t e):=by
 obtain⟨f1,fd,ds,dvs,F1,h2,h3,h4,h5,h6⟩:=F;refine(kB (X:=dq (kN P w) P w K mg base N qual scope f cdv A outer s H E) (E:=λc _ H1=>∃G1,aS K H1 G1/\e c G1) F1 hr hg h2 h3 h4 h5 (pz λC H1 t1 z=>?_) ha hdb he hpl).imp λσ H2 Q h=>?_
 ·obtain⟨G1,g1,z1⟩:=z;exact hE _ H1 G1 t1 g1 z1
 ·obtain⟨τ,G,q,hs,hgG,ht,hQ⟩:=h;exact⟨τ,G,_,hs,hgG,ht,λvs H1 ws G1 t1 r1 g1 q1=>⟨ws++dws,G1,q,e,r1.append (h6 H1),g1,q1,λv H3 w G3 t3=>hQ v H3 w G3 (t1.trans t3),λc d H3 G3 _ g3 z=>⟨G3,g3,z⟩⟩⟩
end
section
variable {X:Cx} {π:List (Addr×Obj)} {σ:St} {H:Hp} {s:Shared}
end
section
variable {prog:Program} {w:World} {A:Around} {E:yey} {s:Shared} {I l:Addr} {items:Array Value}
end
section
variable {X:Cx}
end
section
variable {X:Cx} {tg:Expr}
noncomputable def D2 (i j:Int):Prop:=0<=j/\j<=1000/\i.natAbs<2^4000
noncomputable def tG (i j:Int):Prop:=yM i j∨D2 i j
noncomputable abbrev BE:W2:=qW tG λi j=> .int (i^j.toNat)
theorem vU:gt X (binaryOp .Pow) (rI tG λi j=> .int (i^j.toNat)):=Db λi j _ _ _ _ _ hc q=>by
 rcases hc with hc | ⟨h0,h1,h2⟩
 ·exact pow_int_small hc.1 hc.2.1 hc.2.2 q
 ·refine pow_int h0 ?_ q;have b1:=PyProof.Rows.intBits_le h2;have b2:(Builtin.Int.intBits i:Int)*j<=4000*1000:=Int.mul_le_mul (by (clear h0 h1 h2;lia)) h1 h0 (by decide);have hb:(4000000:Int)<=bitsLine:=by decide
  first | (clear h0 h1 h2 b1 hb;lia) | (simp[Builtin.Int.intTooBig];lia)
theorem gY:fi X (binaryOp .Pow) BE:=nX vU
end
section
variable {X:Cx} {C:Addr} {th:WS} {x:Str} {p pos:Pos}
end
theorem ju.none {f:Addr} {sp:bJ} (h:∀ws G q e,¬sp ws G q e):ju P w K mg base k f fd ps sp:=
 ⟨λ_ _ _ _ ⟨_,_,_,_,_,_,z,_⟩=>absurd z (h _ _ _ _),λ_ _ _ _ _ _ _ _ _ _ _ _ _ ⟨_,_,_,_,_,_,z,_⟩=>absurd z (h _ _ _ _)⟩
section
variable {X:Cx}
end
theorem gZ:fillsNumberSlot (.type "tuple") "mul"=pure false:=
 PySem.fillsNumberSlot_seq (id:="tuple.__mul__") (r:=some (.builtin "tuple.__rmul__")) F.slot_tuple_mul.lookup (by decide+kernel) F.slot_tuple_rmul.lookup (by decide+kernel)
theorem kO:seqRepeat? (.type "tuple")=pure (some (.builtin "tuple.__mul__")):=by
 unfold seqRepeat?;rw[PySem.seqSlot_of (T:="tuple") (name:="__mul__") (id:="tuple.__mul__") F.slot_tuple_mul.lookup (by decide+kernel),PySem.seqSlot_of (T:="tuple") (name:="__rmul__") (id:="tuple.__rmul__") F.slot_tuple_rmul.lookup (by decide+kernel)]
 rfl
theorem i4 (a:Int) (t:Tok) (l:Addr) (items:Array Value) (n:Nat) (dd:Option Addr) (sl:Array (Option Value)):
 Meets (Builtin.«int.__rmul__» ⟨[.int a t,.ref l],[]⟩) (λ_ R s=>s.heap.get? l=some { cls:= .type "tuple",dict:=dd,data:= .seq items n,slots:=sl }/\R (.ok (.ret Value.notImplemented)) s):=
 .of_wp λprog w A R s h=>by obtain⟨hp,g,d,tk,os⟩:=s;obtain⟨hl,h⟩:=h;wp_walk;exact⟨_,rfl,h⟩
theorem n9 (l:Addr) (items:Array Value) (n:Nat) (dd:Option Addr) (sl:Array (Option Value)) (u:Tok):
 Meets (Builtin.«tuple.__mul__» ⟨[.ref l,.int 1 u],[]⟩) (λ_ R s=>s.heap.get? l=some { cls:= .type "tuple",dict:=dd,data:= .seq items n,slots:=sl }/\R (.ok (.ret (.ref l))) s):=
 .of_wp λprog w A R s h=>by
  obtain⟨hp,g,d,tk,os⟩:=s;obtain⟨hl,h⟩:=h
  wp_walk
  exact⟨_,rfl,h⟩
theorem oa (l:Addr) (items:Array Value) (n:Nat) (dd:Option Addr) (sl:Array (Option Value)) (x:Int) (u:Tok) (h0:items.isEmpty=false) (h1:(x==1)=false) (h2:0<x) (hf:(decide (x< -(2^63))||decide (x≥2^63))=false) (hm:decide ((items.size:Int)*x > (2^63-1)/8)=false) (ht:Builtin.Tuple.tupleTooMany ((items.size:Int)*x)=false) (hsz:((List.replicate x.toNat items).foldl (·++ ·) #[]).size<=sizeLine):
 Meets (Builtin.«tuple.__mul__» ⟨[.ref l,.int x u],[]⟩) (λ_ R s=>s.heap.get? l=some { cls:= .type "tuple",dict:=dd,data:= .seq items n,slots:=sl }/\R (.ok (.ret (.ref s.heap.objs.size))) { s with heap:=s.heap.push { cls:= .type "tuple",data:= .seq ((List.replicate x.toNat items).foldl (·++ ·) #[]) } }):=
 .of_wp λprog w A R s h=>by
  obtain⟨hp,g,d,tk,os⟩:=s;obtain⟨hl,h⟩:=h;have c1:(items.isEmpty||x==1)=false:=by rw[h0,h1];rfl
  have c2:(decide (x<=0)||items.isEmpty)=false:=by rw[h0,ydy (by (clear hf hm hsz;lia))];rfl
  wp_walk
  refine wpAny_ite_false (by rw[hf];rfl) ?_
  wp_walk
  refine wpAny_ite_false hm ?_
  wp_walk
  exact⟨_,rfl,h⟩
theorem og (l:Addr) (items:Array Value) (n:Nat) (dd:Option Addr) (sl:Array (Option Value)) (u:Tok) (h0:items.isEmpty=false):
 Meets (Builtin.«tuple.__mul__» ⟨[.ref l,.int 0 u],[]⟩) (λ_ R s=>s.heap.get? l=some { cls:= .type "tuple",dict:=dd,data:= .seq items n,slots:=sl }/\R (.ok (.ret (.ref s.heap.objs.size))) { s with heap:=s.heap.push { cls:= .type "tuple",data:= .seq #[] } }):=
 .of_wp λprog w A R s h=>by
  obtain⟨hp,g,d,tk,os⟩:=s;obtain⟨hl,h⟩:=h;have c1:(items.isEmpty||(0:Int)==1)=false:=by rw[h0];rfl
  wp_walk
  exact⟨_,rfl,h⟩
section
variable {X:Cx}
noncomputable def BF (K:yav):R2:=λx y H Q=>∃a k xs,x=.ref a/\y=.int k/\dQ K H a xs/\xs≠[]/\0<=k/\k<=100000/\xs.length*k.toNat<=sizeLine/\
 (k=1->Q (.ref a) H)/\(k≠1->∀p,H p=none->Q (.ref p) (upd H p (.tup (List.replicate k.toNat xs).flatten)))
theorem vV:gt X (binaryOp .Mult) (BF X.K):=by
 intro π s σ H x y v u Q I rx ry h;obtain⟨a,k,xs,rfl,rfl,ha,hx,h0,h1,hz,q1,q2⟩:=h;cases rx;obtain⟨t,rfl⟩:=ry;obtain⟨its,r1,p1,_⟩:=I.tuple ha;have hl:=r1.length;obtain⟨⟨cls,dd,data,sl⟩,ho,hc,n,hd⟩:=id p1;simp only at hc hd;subst hc hd;have he:its.toArray.isEmpty=false:=by
  cases its with
  | nil=>exact absurd (r1.nil_iff.mp rfl) hx
  | cons _ _=>rfl
 refine wpAny_binaryOp_repeat_ref (T:="tuple") (U:="int") (by decide) ⟨_,ho,rfl⟩ (λs'=>typeIs_int s' k t) gZ F.fills_int_mul F.slot_int_rmul kO F.slot_int_index.lookup
  (call_meets F.slot_int_rmul (typeIs_int s k t) F.entry_int_rmul (F.args_int_rmul_2 _ _) (i4 k t a its.toArray n dd sl) ⟨ho,rfl,⟨_,ho,rfl⟩,?_⟩)
 by_cases hk1:k=1
 ·subst hk1;exact call_meets F.slot_tuple_mul ⟨_,ho,rfl⟩ F.entry_tuple_mul (F.args_tuple_mul_2 _ _) (n9 a its.toArray n dd sl t) ⟨ho,⟨.ref a,H,I,rfl,q1 rfl⟩⟩
 ·by_cases hk0:k=0
  ·subst hk0;refine call_meets F.slot_tuple_mul ⟨_,ho,rfl⟩ F.entry_tuple_mul (F.args_tuple_mul_2 _ _) (og a its.toArray n dd sl t he) ⟨ho,?_⟩;refine⟨.ref s.heap.objs.size,_,I.laid (t':=s.toks) (o:= .tup []) (λb ob q=>ybz _ q) (ycx _) ?_,rfl,q2 (by decide) _ (I.hok.fresh (ycx _))⟩;exact⟨zero_le _,[],.nil,IsTup.new _ _⟩
  ·have hsz:(its.toArray.size:Int)*k<=(sizeLine:Int):=by
    rw[size_toArray,←hl,←Int.toNat_of_nonneg h0]
    exact_mod_cast hz
   have hnew:List.foldl (λx1 x2=>x1++x2) #[] (List.replicate k.toNat its.toArray)=(List.replicate k.toNat its).flatten.toArray:=by
    have:=gS its k.toNat [];rw[nil_append] at this;exact this
   refine call_meets F.slot_tuple_mul ⟨_,ho,rfl⟩ F.entry_tuple_mul (F.args_tuple_mul_2 _ _) (oa a its.toArray n dd sl k t he (by simpa using hk1) (by (clear hz hl hk1 hsz;lia)) ?_ ?_ ?_ ?_) ⟨ho,?_⟩
   ·rw[ydy (by (clear hz hl hk1 hk0 hsz;lia)),ydy (by (clear hz hl hk1 hk0 hsz;lia))];rfl
   ·refine ydy (Int.not_lt.mpr (ydv hsz ?_));decide
   ·unfold Builtin.Tuple.tupleTooMany;exact ydy (Int.not_lt.mpr hsz)
   ·rw[hnew,size_toArray,iz,Nat.mul_comm,←hl];exact hz
   ·rw[hnew];refine⟨.ref s.heap.objs.size,_,I.laid (t':=s.toks) (o:= .tup (List.replicate k.toNat xs).flatten) (λb ob q=>ybz _ q) (ycx _) ?_,rfl,q2 hk1 _ (I.hok.fresh (ycx _))⟩;exact⟨by rw[iz,Nat.mul_comm];exact hz,_,r1.rep k.toNat,IsTup.new _ _⟩
end
section
variable {X:Cx}
end
noncomputable abbrev vW:=Addr->dR->Gp->Prop
noncomputable def XP (X:Cx) (π:List (Addr×Obj)) (H:Hp) (ex:vW) (e:Value) (s':Shared):Prop:=
 ∃a T C H0 s0 σ H' τ G,e=.ref a/\aJ X π σ H0 s0/\Fl X.prog X.w (eK X.stack) H0 H' s0.heap s'.heap a T (.ref C) .none/\s'.os=s0.os/\AllBare s'.gens/\aW H H'/\bn X.K H' τ σ/\aS X.K H' G/\ex C τ G
noncomputable def QY (X:Cx) (st:Stmt) (t:vW->WS):Prop:=
 ∀(ex:vW) (π:List (Addr×Obj)) (s:Shared) (σ:St) (H:Hp) (D:iu),aJ X π σ H s->LS X.K (t ex) D σ H->wpAny (model X.prog X.w) X.A (exec st X.env) (SP X π D) (XP X π H ex) s
noncomputable def Fp (X:Cx) (st:List Stmt) (t:vW->WS):Prop:=
 ∀(ex:vW) (π:List (Addr×Obj)) (s:Shared) (σ:St) (H:Hp) (D:iu),aJ X π σ H s->LS X.K (t ex) D σ H->wpAny (model X.prog X.w) X.A (execs st X.env) (SP X π D) (XP X π H ex) s
section
variable {X:Cx} {x:Str} {p pos:Pos}
theorem vX {t:vW->WS} (h:QY X st t):Fp X [st] t:=by
 intro ex π s σ H D I hl;refine wpAny_execs_cons (ca (h ex π s σ H D I hl) λf s1 q=>?_);cases f with
 | next=>exact wpAny_execs_nil q
 | ret v=>exact q
 | brk=>exact q
 | cont=>exact q
noncomputable def tH (i:Nat) (sp:bJ) (dws:List W) (t:WA):vW->WS:=λex d τ G=>t τ G λws G1=>sp (ws++dws) G1 (λv G2=>d.nx (τ.set i (some v)) G2) λc G2=>∀C,c=.ref C->ex C τ G2
theorem zz (i:Nat) {y:Str} {sp:bJ} {dws:List W} {t:WA} {cpos epos ypos:Pos} (hnx:∀e s,¬X.xe e s)
 (hN:X.N.Nodup) (hi:X.N[i]?=some y) (hy:u9 X.env.scope y)
 (F:Rx X.prog X.w X.K X.mg X.base x ps k sp dws) (hr:ay k X.A) (hg:Gl X x) (ha:QA X (e::es) t) (hdb:(x==("__debug__":Str))=false:=by decide)
 (he:starEach (e::es) X.env=(false,eval e X.env)::starEach es X.env:=by rfl) (hpl:(backTo cpos (starEach es X.env)).any (·.1)=false:=by rfl) (hsw:swapsWith (.Call (.Name x p) (e::es) [] cpos) (some (.Name y ypos)) epos.line X.env=pure false:=by rfl)
 (hf:X.fn y=true∨X.env.scope.names.lookup y=some .local:=by first | exact .inl rfl | exact .inr rfl | assumption):
 QY X (.Assign [.Name y ypos] (.Call (.Name x p) (e::es) [] cpos) epos) (tH i sp dws t):=by
 rintro ex π s σ H D I ⟨τ,G,d,rs,rg,ht,l⟩;obtain⟨f,fd,ds,dvs,F,hm,hk,hb,hd,hrep⟩:=F;refine wpAny_Assign_Name (wpAny_Call_Name_kw (eL I hg hm ?_ hdb)) hsw;have go:=ha cpos π s σ H (λvs H1=>uY X.K sp (vs++dvs) H1 (λv H2=>D.nx (σ.set i (some v)) H2) λc _ H2=>∀C,c=.ref C->aW H H2/\∃G2,bn X.K H2 τ σ/\aS X.K H2 G2/\ex C τ G2) I ⟨τ,G,_,rs,rg,ht,λvs H1 ws G1 t1 r1 g1 q1=>
  ⟨ws++dws,G1,_,_,r1.append (hrep H1),g1,q1,λv H2 w G2 t2 r2 g2 q2=>l.nx _ H2 _ G2 (t1.trans t2) ((rs.mono (t1.trans t2)).set r2 i) g2 q2,
    λc dd H2 G2 t2 g2 q2 C ec=>⟨t1.trans t2,G2,rs.mono (t1.trans t2),g2,q2 C ec⟩⟩⟩
 refine callWith_K (h₀:=X.base) I.ok.mod.kin hk (wpAny_mono go (λus s1 h1=>?_) λe s1 z=>(hnx e s1 z).elim) he hpl;obtain⟨vs,H1,I1,r,q⟩:=h1;refine⟨I1.kIn,?_⟩;have r2:aY (vs++dvs) (us++ds):=r.append hd;have hl:(us++ds).length=ps.length:=by rw[←r2.length];exact F.len _ _ _ _ q
 refine wpAny_call (codeAny_mono (F.run X.A X.stack s1 H1 ⟨us,[]⟩ (us++ds) (vs++dvs) _ _ hr I1.env0 (hb s1 us I1.kIn hl) r2 q) λr s' hq=>?_);cases r with
 | ok fl=>
   cases fl with
   | ret u=>
     obtain⟨v,H',I',rv,q'⟩:=I1.after hq;exact gs I' hN hi hy rv (λs2 I2=>⟨_,H',I2,q'⟩) hf
   | next=>exact False.elim hq
   | brk=>exact False.elim hq
   | cont=>exact False.elim hq
 | error e=>
   obtain⟨a,T,C',H',rfl,os,bare,F1,hx⟩:=hq;obtain⟨tl,G2,rs2,rg2,hx⟩:=hx C' rfl;exact⟨a,T,C',H1,s1,σ,H',τ,G2,rfl,I1,F1,os,bare,tl,rs2,rg2,hx⟩
noncomputable def xV (t:vW->WS) (cs:List (Addr×WS)):WS:=λd τ G=>t (λC τ1 G1=>∃th,(C,th)∈cs/\th d τ1 G1) d τ G
theorem vY {h0:ExceptHandler} {hs:List ExceptHandler} {t:vW->WS} {cs:List (Addr×WS)} (hst:X.stack=X.env::X.outer) (hfr:X.env.frame=some X.env.locals) (hb:Fp X body t) (hh:∀c,c∈cs->QH X c.1 (h0::hs) c.2):
 QS X (.Try body (h0::hs) [] [] pos) (xV t cs):=by
 rintro π s σ H D I ⟨τ,G,d,rs,rg,ht,l⟩;refine wpAny_Try_except (wpAny_mono (hb _ π s σ H D I ⟨τ,G,d,rs,rg,ht,l⟩) (λf s1 q=>?_) λe s' hx=>?_)
 ·cases f with
  | next=>exact wpAny_execs_nil q
  | ret v=>exact q
  | brk=>exact q
  | cont=>exact q
 ·obtain⟨a,T,C,H1,s1,σ1,H',τ1,G1,rfl,I1,F1,os,bare,tl,rs1,rg1,th,hc,hx⟩:=hx;have I':=F1.inv I1 os bare;obtain⟨a0,tr⟩:=F1.traced;refine wpAny_noteFrame_onW (base:=hideAll s'.heap (a::T::eK X.stack)) (outer:=X.outer) (by rw[←hst];exact I'.ok.frames) (by rw[←hst];exact fu I'.stack λb z=> .tail _ (.tail _ z)) hfr tr (λb o q=>of_hideAll _ q) (hideAll_none _ (.head _)) λh2 N2=>?_;obtain⟨k1,_,k3,k4⟩:=N2;obtain⟨T2,F2⟩:=F1.move I'.frmem k1 k3 k4;refine Fl.lands (s:={ s' with heap:=h2 }) F2 I1 os bare λh3 T3 F3=>?_;exact hh _ hc π s1 σ1 H1 { s' with heap:=h3 } H' a T3 D I1 F3 os bare ⟨τ1,G1,d,rs1,rg1,hx,l.mono tl⟩
theorem vZ {hs:List ExceptHandler}:∀c:Addr×WS,c∈([]:List (Addr×WS))->QH X c.1 hs c.2:=λ_ h=>nomatch h
theorem i6 {hs:List ExceptHandler} {C:Addr} {th:WS} {cs:List (Addr×WS)} (h1:QH X C hs th) (h2:∀c:Addr×WS,c∈cs->QH X c.1 hs c.2):∀c:Addr×WS,c∈(C,th)::cs->QH X c.1 hs c.2:=λc h=>by
 rcases mem_cons.mp h with z | z
 ·rw[z];exact h1
 ·exact h2 c z
end
section
variable {prog:Program} {w:World} {A:Around} {E:yey} {s:Shared}
end
section
variable {prog:Program} {w:World} {A:Around} {E:yey} {s:Shared}
end
mutual
noncomputable def W.ge:W->W->Bool
 | .int i,.int j=>decide (i≥j)
 | .tup xs,.tup ys=>W.ges xs ys
 | _,_=>false
noncomputable def W.ges:List W->List W->Bool
 | [],[]=>true
 | [],_::_=>false
 | _::_,[]=>true
 | x::xs,y::ys=>if W.eq x y=true then W.ges xs ys else W.ge x y
end
noncomputable def D3 (A:Around) (s:Shared) (y x:Value) (b:Bool):Prop:=
 ∀(prog:Program) (w:World) (E:yey) (Q:yey),Q (.bool b) s->wpAny (model prog w) A (richCompare .GtE y x) Q E s
inductive rl (A:Around) (s:Shared):List Value->List Value->Bool->Prop where
 | nn:rl A s [] [] true
 | nc {y:Value} {ys:yez}:rl A s [] (y::ys) false
 | cn {x:Value} {xs:yez}:rl A s (x::xs) [] true
 | eq {x y:Value} {xs ys:yez} {r:Bool} (h:SeqAt.EqAt A s x y true) (t:rl A s xs ys r):rl A s (x::xs) (y::ys) r
 | ne {x y:Value} {xs ys:yez} {r:Bool} (h:SeqAt.EqAt A s x y false) (t:D3 A s x y r):rl A s (x::xs) (y::ys) r
section
open PySem.SeqAt
open PySem.AutoSeq1 (wpAny_loadPart')
open PySem.MeetsSeq PySem.MeetsSeq2 PySem.MeetsSeq3
end
section
variable {X:Cx} {π:List (Addr×Obj)} {σ:St} {H:Hp} {s:Shared}
end
section
variable {X:Cx}
noncomputable def D4:W2:=λx y G q=>match x,y with
 | .int i,.int j=>q (.bl (decide (i≥j))) G
 | .tup xs,.tup ys=>W.flats xs=true/\W.flats ys=true/\W.deps xs<=149/\W.ords xs ys=true/\q (.bl (W.ges xs ys)) G
 | _,_=>False
end
section
variable {X:Cx}
noncomputable def BG (to te:WE):WE:=λτ G q=>to τ G λx G1=>match x with
 | .ref a=>(∃xs,G1 a=some (.lst xs))/\te τ G1 λy G2=>match y with
   | .ref b=>∃ys zs,G2 a=some (.lst ys)/\G2 b=some (.lst zs)/\ys.length+zs.length<=100000/\q .non (aX G2 a (.lst (ys++zs)))
   | _=>False
 | _=>False
theorem zA {o e:Expr} {to te:WE} {apos cpos:Pos} (ho:QE X o to) (he:QE X e te)
 (hbase:attributeBase o "extend" X.env (eval o X.env)=eval o X.env:=by rfl)
 (hfew:((backTo cpos (starEach [e] X.env)).all (λx=>!x.1)&&(backToKw cpos (keywordEach [] X.env)).all (λx=>x.1.isSome)
   &&decide (([e]:List Expr).length+([]:List Keyword).length+(if ([]:List Keyword).isEmpty then 0 else 1)<30))=true:=by rfl)
 (hline:(apos.endLine==cpos.line)=true:=by rfl) (hs:starEach [e] X.env=(false,eval e X.env)::starEach [] X.env:=by rfl):
 QE X (.Call (.Attribute o "extend" apos) [e] [] cpos) (BG to te):=
 (o9 PySem.F.plainAttrs_list PySem.F.slot_list_extend PySem.F.type_list_extend qS ho (dy he pa_nil hs) hbase hfew hline hs rfl).imp λσ H Q z0=>z0.el λτ G q hs hg ht hQ=>
   ⟨τ,G,_,hs,hg,ht,λv H1 w G1 t1 r1 g1 q1=>by
     split at q1
     ·rename_i a;cases r1;obtain⟨⟨xs,e1⟩,q1⟩:=q1;obtain⟨_,xs',h1,_⟩:=g1 a _ e1;refine⟨.inl ⟨rfl,xs',dP.of h1⟩,τ,G1,_,hs.mono t1,g1,q1,λv2 H2 w2 G2 t2 r2 g2 q2=>?_⟩;split at q2
      ·rename_i b;cases r2;obtain⟨ys,zs,e2,e3,hl,q2⟩:=q2;obtain⟨_,ys',h2,rr⟩:=g2 a _ e2;obtain⟨_,zs',h3,rz⟩:=g2 b _ e3;refine⟨a,b,ys',zs',rfl,rfl,h2,h3,?_,?_⟩
       ·rw[←rr.length,←rz.length];exact bW hl
       ·exact hQ _ _ _ _ ((t1.trans t2).trans (aW.lst h2 _)) .non (g2.put (aW.lst h2 _) (rr.append rz) (by rw[length_append];exact hl)) q2
      ·exact q2.elim
     ·exact q1.elim⟩
end
section
variable {prog:Program} {w:World} {A:Around} {E:yey} {h:Heap} {g:Array GenState} {d:Drawn} {t:Nat} {os:OsState} {a C:Addr} {o:Obj} {K:yav} {bm:yez}
theorem mf {R:Result->Shared->Prop} (X:K.In h) (hC:XC K C bm) (hx:h.get? a=some o) (hc:o.cls=.ref C) (hq:R (.ok (.ret (.ref C))) ⟨h,g,d,t,os⟩):
 codeAny (model prog w) A (.call (.builtin "getset_descriptor.__get__") ⟨[.builtin "object.__class__",.ref a,.ref C],[]⟩) R ⟨h,g,d,t,os⟩:=by
 have hT5:(⟨h,g,d,t,os⟩:Shared).TypeIs (.builtin "object.__class__") "getset_descriptor":=F.typeOf_object_class;have hcB:(Value.ref C::bm).contains (.type (".".intercalate ("object.__class__".cutAt '.').dropLast))=true:=by
  rw[F.owner_object_class];exact hC.has X rfl
 obtain⟨N1,n1,q1,b1,d1,s1,u1,a1,c1,f1,g0,g1,g2,g3,g5,m1,gC,_,_,_⟩:=hC.obj h X;refine codeAny_call_builtin F.slot_gs_get.plain F.entry_gs_get (F.slot_gs_get.check _ _ _ _ _ _ _ _ hT5 (F.args_gs_get _ _ _) ?_)
 repeat (any_goals (first | assumption | (with_reducible refine wpAny_loadPart_at hx ?_;rw[hc]) | (with_reducible refine wpAny_isSubtype_exc gC ?_;rw[hcB]) | wp_step))
 refine⟨Code.quiet_builtin _ (by decide+kernel),codeAny_builtin F.entry_object_class ?_⟩
 repeat (any_goals (first | assumption | (with_reducible refine wpAny_loadPart_at hx ?_;rw[hc]) | wp_step))
theorem jw {tk:Tok} {Q:Fin->Shared->Prop} (X:K.In h) (hC:XC K C bm) (hQ:XQ K C) (hx:h.get? a=some o) (hc:o.cls=.ref C) (hq:Q (.done (.ret (.ref C))) ⟨h,g,d,t,os⟩):
 wpAny (model prog w) A (Builtin.«object.__getattribute__» ⟨[.ref a,.str "__class__" tk],[]⟩) Q E ⟨h,g,d,t,os⟩:=by
 have hT5:(⟨h,g,d,t,os⟩:Shared).TypeIs (.builtin "object.__class__") "getset_descriptor":=F.typeOf_object_class;have f5:=F.typeOf_object_class;have f6:=F.slot_gs_get.lookup;have f7:=F.slot_gs_set.lookup;have L1:=looks_findIn (M:=model prog w) X hQ.gc
 repeat (any_goals (first | assumption | (with_reducible refine wpAny_loadPart_at hx ?_;rw[hc]) | with_reducible refine L1.at ?_ | wp_step))
 refine mf X hC hx hc ?_
 repeat (any_goals (first | assumption | wp_step))
theorem oh {M:Model} {nameV:Value} {Q:Unit->Shared->Prop} (X:K.In h) (hC:XC K C bm) (hx:h.get? a=some o) (hc:o.cls=.ref C) (hq:Q () ⟨h,g,d,t,os⟩):wpAny M A (checkBuiltinCall "BaseException.__getattribute__" ⟨[.ref a,nameV],[]⟩) Q E ⟨h,g,d,t,os⟩:=by
 have hk:builtinKind "BaseException.__getattribute__"=some .slot:=by decide+kernel
 have hsplit:splitId "BaseException.__getattribute__"=some ("BaseException","__getattribute__"):=by decide+kernel
 have hcB:(Value.ref C::bm).contains (.type "BaseException")=true:=hC.has X rfl;have ha:=F.args_bexc_ga (.ref a) nameV;obtain⟨N1,n1,q1,b1,d1,s1,u1,a1,c1,f1,g0,g1,g2,g3,g5,m1,gC,_,_,_⟩:=hC.obj h X;simp only[checkBuiltinCall,hk,hsplit];refine wax ?_
 ·unfold isInstance
  repeat (first | (with_reducible refine wpAny_loadPart_at hx ?_;rw[hc]) | (with_reducible refine wpAny_isSubtype_exc gC ?_;rw[hcB]) | wp_step)
  exact hq
theorem kP {tk:Tok} {R:Result->Shared->Prop} (X:K.In h) (hC:XC K C bm) (hQ:XQ K C) (hx:h.get? a=some o) (hc:o.cls=.ref C) (hq:R (.ok (.ret (.ref C))) ⟨h,g,d,t,os⟩):
 codeAny (model prog w) A (.call (.builtin "BaseException.__getattribute__") ⟨[.ref a,.str "__class__" tk],[]⟩) R ⟨h,g,d,t,os⟩:=
 codeAny_call_builtin F.excAttr_ValueError.ga.plain F.entry_bexc_ga (oh X hC hx hc (jw X hC hQ hx hc hq))
theorem oo {tk:Tok} {fill expr:Bool} (X:K.In h) (hC:XC K C bm) (hQ:XQ K C) (hx:h.get? a=some o) (hc:o.cls=.ref C) (hq:Q (.ref C) ⟨h,g,d,t,os⟩):
 wpAny (model prog w) A (getAttrBy (.ref a) (.str "__class__" tk) fill expr) Q E ⟨h,g,d,t,os⟩:=by
 have f3:=F.excAttr_ValueError.ga.bind (.ref a);have hx0:(expr&&onTheHeap (Value.builtin "BaseException.__getattribute__"))=false:=by cases expr<;> rfl
 have hx2:(Value.builtin "BaseException.__getattribute__"==Value.builtin "object.__getattribute__")=false:=by decide+kernel
 have hx1:(onTheHeap (Value.ref C)&&Value.builtin "BaseException.__getattribute__"==Value.builtin "object.__getattribute__")=false:=by rw[hx2];rfl
 have L1:=looks_findIn (M:=model prog w) X hQ.ga;have L2:=looks_findIn (M:=model prog w) X hQ.gx
 repeat (any_goals (first | assumption | (with_reducible refine wpAny_loadPart_at hx ?_;rw[hc]) | with_reducible refine L1.at ?_ | with_reducible refine L2.at ?_ | wp_step))
 refine kP X hC hQ hx hc ?_
 repeat (any_goals (first | assumption | wp_step))
theorem kQ {Q:Option Value->Shared->Prop} (X:K.In h) (hC:XC K C bm) (hQ:XQ K C) (hx:h.get? a=some o) (hc:o.cls=.ref C) (hq:Q (some (.ref C)) ⟨h,g,d,t+1,os⟩):
 wpAny (model prog w) A (getAttr? (.ref a) "__class__") Q E ⟨h,g,d,t,os⟩:=by
 unfold getAttr? getAttrBy?
 repeat (any_goals (first | assumption | with_reducible apply oo X hC hQ hx hc | wp_step))
end
section
variable {prog:Program} {w:World} {A:Around} {E:yey} {s:Shared} {a C D:Addr} {o:Obj} {K:yav} {bm:yez}
theorem jx {dep:Int} {tk:Tok} {Q:Fin->Shared->Prop} (X:K.In s.heap) (hC:XC K C bm) (hQ:XQ K C) (hE:XD K C) (hD:XD K D) (hs:mroIn K C (.ref D)=some false) (hne:C≠D) (hx:s.heap.get? a=some o) (hc:o.cls=.ref C)
 (h:Q (.done (.ret (.bool false))) { s with toks:=s.toks+1 }):
 wpAny (model prog w) A (Builtin.«isinstance.nested» ⟨[.ref a,.ref D,.int dep tk],[]⟩) Q E s:=by
 obtain⟨hh,g,d,tt,os⟩:=s;have ht:Looks (model prog w) hh (typeOf (.ref a)) (.ref C):=hc▸(PySem.W.Looks.ld hx).andThen .now;unfold Builtin.«isinstance.nested»;refine wax (ht.at ?_);rw[ycw (λq=>by cases beq_iff_eq.mp q;exact hne rfl)];have L1:=PySem.W.looks_typeIn (M:=model prog w) X hD.ty;have L2:=PySem.W.looks_instIn (M:=model prog w) X hD.ins;have L4:Looks (model prog w) hh (isSubtype (.ref C) (.ref D)) false:=PySem.W.looks_subIn X hs;have L3:Looks (model prog w) hh (isInstance (.ref a) (.ref D)) false:=ht.andThen L4;refine wax (L1.at ?_);rw[ycv (by decide)]
 k_delta "plainIsInstance"
 obtain⟨cd,e0⟩:=hD.cls;obtain⟨cd',e1⟩:=hE.cls;have L5:=PySem.W.looks_typeIn (M:=model prog w) X hE.ty;have L6:=PySem.W.looks_instIn (M:=model prog w) X hE.ins;unfold isType
 repeat lk
 unfold clsIn at e0 e1;split at e0
 ·rename_i ho;split at e1
  ·rename_i ho1;refine PySem.W.nd_load (X _ _ ho) (PySem.W.nd_pure (wpAny_pure ?_));simp only[Bool.not_true,Bool.false_eq_true,if_false];refine wax (L3.at ?_);simp only[Bool.false_eq_true,if_false];refine wax (kQ X hC hQ hx hc ?_);dsimp only;refine wax ?_;refine PySem.W.nd_load (X _ _ ho1) (PySem.W.nd_pure ?_);simp only[Bool.not_true,Bool.false_eq_true,if_false];refine wax (wpAny_rule ?_);refine L4.at ?_;exact wpAny_pure h
  ·cases e1
 ·cases e0
theorem mh (X:K.In s.heap) (hC:XC K C bm) (hQ:XQ K C) (hE:XD K C) (hD:XD K D) (hs:mroIn K C (.ref D)=some false) (hne:C≠D) (hx:s.heap.get? a=some o) (hc:o.cls=.ref C)
 (h:Q (.bool false) { s with toks:=s.toks+1 }):wpAny (model prog w) A (call (.builtin "isinstance") [.ref a,.ref D]) Q E s:=
 call_isinstance (S:=λ_ R s=>(K.In s.heap/\s.heap.get? a=some o)/\R (.ok (.ret (.bool false))) { s with toks:=s.toks+1 })
  (λ_ _ _ _ _ hs1=>isinstance_outer (jx hs1.1.1 hC hQ hE hD hs hne hs1.1.2 hc hs1.2) (λz=>nomatch z)) ⟨⟨X,hx⟩,h⟩
end
theorem rm {C D:Addr} (hC:XC K C bm) (hs:mroIn K C (.ref D)=some false):C≠D:=λz=>by
 subst z;rw[hC.self] at hs;cases hs
section
variable {X:Cx} {a:Addr} {oe:Obj} {C D:Addr} {bm:yez}
end
section
variable {prog:Program} {w:World} {A:Around} {E:yey} {s:Shared} {I l:Addr} {items:Array Value}
end
section
variable {X:Cx}
end
section
variable {X:Cx}
end
noncomputable abbrev Cx.xmq (X:Cx) (a:Addr):Cx:={ X with A:=X.A.mark (some (.ref a)),calm:=false,xe:=λ_ _=>False }
noncomputable abbrev zB (a C:Addr):HO:= .ext λh=>∃o,h.get? a=some o/\o.cls=.ref C
section
variable {X:Cx} {π:List (Addr×Obj)} {σ:St} {H0 H:Hp} {s0 s:Shared} {a T C D:Addr}
theorem aJ.takeX (I0:aJ X π σ H0 s0) (F:Fl X.prog X.w (eK X.stack) H0 H s0.heap s.heap a T (.ref C) .none) (os:s.os=s0.os) (bare:AllBare s.gens):
 aJ (X.xmq a) π σ (upd H a (zB a C)) s:=by
 have I:=F.inv I0 os bare;obtain⟨oe,e1,e2,e3,e4,e5,e6⟩:=F.there I0;have ne:∀b o,X.s₀.heap.get? b=some o->b∉X.ex->b≠a:=λb o q hx z=>by
  obtain⟨o',e'⟩:=I0.base.there b o q hx;rw[z,F.na] at e';cases e'
 have nh:∀b u,H b=some u->b≠a:=λb u q z=>by rw[z,e3] at q;cases q
 refine⟨⟨I.ok.mod,I.ok.kind,I.ok.glob,I.ok.blt,I.ok.above,I.ok.inj,I.ok.has,I.ok.cab,λz=>(ydx z).elim,I.ok.frames,I.ok.stk,I.ok.exf,I.ok.bs,I.ok.bsz,I.ok.noex,I.ok.exfs,I.ok.funs,I.ok.frf⟩,I.os,I.bare,
  ⟨I.base.keep,I.base.slot,λb o q n hx=>?_,I.base.there,λb xs q=>?_,λb o u q=>?_,λb ps q=>?_⟩,I.loc,I.cell,?_,λx c q=>?_,λp hp=>?_,λb u q=>?_,I.len⟩
 ·rw[aO (ne b o q hx)];exact I.base.free b o q n hx
 ·have:=I.base.tups b xs q;rw[aO (nh b _ this)];exact this
 ·have:=I.base.frzs b o u q;rw[aO (nh b _ this)];exact this
 ·obtain⟨m,this⟩:=I.base.tbls b ps q;exact⟨m,by rw[aO (nh b _ this)];exact this⟩
 ·rw[aO (Ne.symm e4)];exact I.free
 ·have hc:c≠a:=λz=>by
   obtain⟨v,o,h1,h2⟩:=I.cell x c q;rw[z,e1] at h1;cases h1;exact e6 _ h2
  rw[aO hc];exact I.freeC x c q
 ·obtain⟨p1,p2,p3,p4,p5⟩:=I.pin p hp;have hp0:=(I0.pin p hp).1;have hne:p.1≠a:=λz=>by rw[z,F.na] at hp0;cases hp0
  exact⟨p1,by rw[aO hne];exact p2,p3,p4,p5⟩
 ·by_cases hb:b=a
  ·subst hb;rw[bt] at q;cases q;exact⟨⟨oe,e1,e2⟩,⟨oe,e1⟩,λh1 h2 ⟨o,z1,z2⟩ k=>⟨o,k o z1,z2⟩⟩
  ·rw[aO hb] at q;exact(I.hok b u q).stay (λ_ _ _ z=>z) (λx z=>by rw[aO (nh x _ z)];exact z) λx xs z=>by rw[aO (nh x _ z)];exact z
theorem aJ.unq (I:aJ (X.xmq a) π σ H s) (hh:X.calm=true->X.A.handled=none):aJ X π σ H s:=
 ⟨⟨I.ok.mod,I.ok.kind,I.ok.glob,I.ok.blt,I.ok.above,I.ok.inj,I.ok.has,I.ok.cab,hh,I.ok.frames,I.ok.stk,I.ok.exf,I.ok.bs,I.ok.bsz,I.ok.noex,I.ok.exfs,I.ok.funs,I.ok.frf⟩,I.os,I.bare,I.base,I.loc,I.cell,I.free,I.freeC,I.pin,I.hok,I.len⟩
theorem SP.unq {D:iu} {f:Flow} {s':Shared} (h:SP (X.xmq a) π D f s') (hh:X.calm=true->X.A.handled=none):SP X π D f s':=by
 cases f with
 | next=>obtain⟨σ',H',I,q⟩:=h;exact⟨σ',H',I.unq hh,q⟩
 | brk=>obtain⟨σ',H',I,q⟩:=h;exact⟨σ',H',I.unq hh,q⟩
 | cont=>obtain⟨σ',H',I,q⟩:=h;exact⟨σ',H',I.unq hh,q⟩
 | ret u=>obtain⟨v,σ',H',I,r,q⟩:=h;exact⟨v,σ',H',I.unq hh,r,q⟩
noncomputable def zC (i:Nat) (C:Addr) (ts:WS):WS:=λd τ G=>∀a,G a=none->ts { nx:=λτ1 G1=>d.nx (τ1.set i none) G1,rt:=d.rt,bk:=λτ1 G1=>d.bk (τ1.set i none) G1,ct:=λτ1 G1=>d.ct (τ1.set i none) G1 } (τ.set i (some (.ref a))) (aX G a (.exc C))
variable {bm bmD:yez} {x:Str} {p pos:Pos} {name:Option Str} {body:List Stmt} {rest:List ExceptHandler} {b0:Stmt} {th:WS}
theorem oq (i:Nat) {n:Str} {ts:WS} (hm:X.mg x=some (.ref D)) (hg:Gl X x) (hO:XO X.K C) (hD:XC X.K D bmD) (hs:mroIn X.K C (.ref D)=some true) (hN:X.N.Nodup) (hi:X.N[i]?=some n) (hl:X.env.scope.names.lookup n=some .local)
 (hb:∀a,lV (X.xmq a) (b0::body) ts) (hd:(x==("__debug__":Str))=false:=by decide):
 QH X C (.ExceptHandler (some (.Name x p)) (some n) (b0::body) pos::rest) (zC i C ts):=by
 rintro π s0 σ H0 s H a T D' I0 F os bare ⟨τ,G,d,rs,rg,ht,l⟩;have I:=F.inv I0 os bare;obtain⟨bm,hC⟩:=hO.c;obtain⟨oe,e1,e2,e3,e4,e5,e6⟩:=F.there I0;refine wpAny_handleBy_cons (codeAny_handlers_test (eL (X:=X.xmk a oe) (I.xmk e1 e3 e4 e5 e6) hg hm ?_ hd)) (by intro q;cases q);refine rh I.kIn hC hD e1 e2 hs ?_;refine codeAny_handlers_suite_as (F.lands I0 os bare λh' T' F'=>?_);obtain⟨oe',q1,q2,q3,q4,q5,q6⟩:=Fl.there (s:={ s with heap:=h' }) F' I0;have J:=aJ.takeX (s:={ s with heap:=h' }) I0 F' os bare;have tl:aW H (upd H a (zB a C)):=aW.new q3 _;refine gs (X:=X.xmq a) (v:= .ref a) J hN hi (.inl hl) rfl (λs3 I3=>?_) (.inr hl);have rs':bn X.K (upd H a (zB a C)) (τ.set i (some (.ref a))) (σ.set i (some (.ref a))):=(rs.mono tl).set (.ref a) i;have rg':aS X.K (upd H a (zB a C)) (aX G a (.exc C)):=rg.lay tl ⟨hO,bt⟩;refine wpAny_mono (hb a π s3 _ _ { nx:=λσ1 H1=>D'.nx (σ1.set i none) H1,rt:=D'.rt,bk:=λσ1 H1=>D'.bk (σ1.set i none) H1,ct:=λσ1 H1=>D'.ct (σ1.set i none) H1 } I3
  ⟨_,_,_,rs',rg',ht a (rg.fresh q3),⟨λσ1 H1 τ1 G1 t1 r1 g1 z=>l.nx _ H1 _ G1 (tl.trans t1) (r1.drop i) g1 z,λv H1 w G1 t1=>l.rt v H1 w G1 (tl.trans t1),λσ1 H1 τ1 G1 t1 r1 g1 z=>l.bk _ H1 _ G1 (tl.trans t1) (r1.drop i) g1 z,λσ1 H1 τ1 G1 t1 r1 g1 z=>l.ct _ H1 _ G1 (tl.trans t1) (r1.drop i) g1 z⟩⟩) (λf s2 z=>?_) λ_ _ z=>z.elim
 have z2:=z.unq I0.ok.hd;cases f with
 | next=>obtain⟨σ',H',I2,q⟩:=z2;exact fH I2 hN hi hl λs' I4=>⟨_,H',I4,q⟩
 | brk=>obtain⟨σ',H',I2,q⟩:=z2;exact fH I2 hN hi hl λs' I4=>⟨_,H',I4,q⟩
 | cont=>obtain⟨σ',H',I2,q⟩:=z2;exact fH I2 hN hi hl λs' I4=>⟨_,H',I4,q⟩
 | ret u=>obtain⟨v,σ',H',I2,r,q⟩:=z2;exact fH I2 hN hi hl λs' I4=>⟨v,_,H',I4,r,q⟩
theorem aJ.excAt (I:aJ X π σ H s) (e:H a=some (zB a C)):∃o,s.heap.get? a=some o/\o.cls=.ref C:=(I.hok a _ e).1
theorem aJ.excTyG (I:aJ X π σ H s) (e:H a=some (zB a C)) (M:Model):Looks M s.heap (typeOf (.ref a)) (.ref C):=by
 obtain⟨o,e,hc⟩:=I.excAt e;exact hc▸(PySem.W.Looks.ld e).andThen .now
noncomputable def tI (K:yav) (i:Nat) (D:Addr):WE:=λτ G q=>∃a C b,τ[i]?=some (some (.ref a))/\G a=some (.exc C)/\mroIn K C (.ref D)=some b/\q (.bl b) G
theorem v0 {C D:Addr} (hD:XD K D) (h:mroIn K C (.ref D)=some true):PySem.W.isIn K (.ref C) D=true:=by
 unfold PySem.W.isIn;obtain⟨cd,e⟩:=hD.cls;have hs:PySem.W.subIn K (.ref C) (.ref D)=some true:=h;rw[e,hD.ty,hD.ins,hs];simp
theorem ou {n y:Str} {p p1 p2 pos:Pos} (hi:X.N[i]?=some n) (hv:C8 X.env.scope n) (hym:X.mg y=some (.ref D)) (hD:XD X.K D) (hgy:Gl X y)
 (hm1:X.mg "isinstance"=none) (hg1:Gl X "isinstance") (hdy:(y==("__debug__":Str))=false:=by decide) (hd:(n==("__debug__":Str))=false:=by decide) (hcd:(n==("__classdict__":Str))=false:=by decide)
 (hs1:starEach [.Name n p1,.Name y p2] X.env=(false,eval (.Name n p1) X.env)::starEach [.Name y p2] X.env:=by rfl) (hs2:starEach [.Name y p2] X.env=(false,eval (.Name y p2) X.env)::starEach [] X.env:=by rfl)
 (hpl:(backTo pos (starEach [.Name y p2] X.env)).any (·.1)=false:=by rfl):QE X (.Call (.Name "isinstance" p) [.Name n p1,.Name y p2] [] pos) (tI X.K i D):=by
 have hv1:PE X (.Name n p1) (yw i):=rX hi hv hd hcd;have ha:PA X [.Name n p1,.Name y p2] (lK (yw i) (lK (tC (.ref D)) sw)):=dy hv1 (dy (kx hgy hym rfl hdy) pa_nil hs2) hs1;have hCR:fM X (.builtin "isinstance") (λvs H Q=>∃a C b,vs=[.ref a,.ref D]/\XO X.K C/\H a=some (zB a C)/\mroIn X.K C (.ref D)=some b/\Q (.bl b) H):=by
  rintro π s σ H xs us Q I r ⟨a,C,b,e1,hO,hH,hb,q⟩;subst e1;obtain⟨u,u2,rfl,ru,ru2⟩:=n8 r;cases (show u=Value.ref a from ru);cases (show u2=Value.ref D from ru2);obtain⟨bm,hC⟩:=hO.c;cases b with
  | true=>exact PySem.W.isi_call I.kIn (I.excTyG hH) (v0 hD hb) (λz=>nomatch z) ⟨.bl true,H,I,rfl,q⟩
  | false=>
    obtain⟨o,e,hc⟩:=I.excAt hH;exact mh I.kIn hC hO.q hO.d hD hb (rm hC hb) e hc ⟨.bl false,H,I.tok _,rfl,q⟩
 exact(iP hCR hg1 hm1 lY ha (by decide) (by decide) hs1 hpl).imp λσ H Q ⟨τ,G,q,hs,hg,⟨a,C,b,ht,hG,hb,hq⟩,hQ⟩=>by
  obtain⟨v,e1,r⟩:=hs.2 i _ ht;cases r;obtain⟨hO,hH⟩:=hg a _ hG;exact⟨_,e1,a,C,b,rfl,hO,hH,hb,hQ _ H _ G (aW.refl H) (.bl b) hg hq⟩
theorem aT.bools_of {K:yav} {H:Hp}:∀{bs:List Bool} {vs:List V},aT K H (bs.map W.bl) vs->vs=bs.map V.bl
 | [],_,r=>by cases r;rfl
 | n::ns,_,r=>by
   cases r with
   | cons r rs=>
     cases r;rw[aT.bools_of rs]
     rfl
theorem mq {bs:List Bool}:∀{us:yez},aY (bs.map V.bl) us->LSm.BoolsAre us bs:=by
 induction bs with
 | nil=>intro us r;rw[map_nil] at r;cases r;exact .nil
 | cons n ns ih=>
   intro us r;rw[map_cons] at r;cases r with
   | @cons _ u _ _ r1 r2=>
     cases (show u=Value.bool n from r1);exact .cons n (ih r2)
end
structure BH (k:Nat) (A:Around):Prop where
 dp:A.depth+3*k+5<recursionLimit
 un:A.units+16*k+200<cLine
structure GU (P:Program) (w:World) (K:yav) (mg:yew) (base:Heap) (CX:qO) (k:Nat) (f:Addr) (fd:FuncData) (ps:List Str) (sp:Sp):Prop where
 len:∀vs H Q E,sp vs H Q E->vs.length=ps.length
 run:∀(A:Around) (outer:List Env) (s:Shared) (H:Hp) (args:Args) (us:yez) (vs:List V) (Q:VK) (E:XK),BH k A->lM P w K mg base A outer s H->BindsTo s fd args (ps.zip us)->aY vs us->sp vs H Q E->
  codeAny (model P w) A (.call (.ref f) args) (CR CX outer P w H s Q E) s
section
variable {X:Cx}
end
section
variable {P:Program} {w:World} {K:yav} {mg:yew} {base:Heap} {k:Nat} {f:Addr} {fd:FuncData} {ps:List Str} {sp sp':bJ}
end
theorem aW.ins {H:Hp} {p C dx:Addr} {fs:List (Str×V)} (hp:H p=some (.ins C dx fs)) (o:HO):aW H (upd H p o):=
 ⟨λ_ _ h=>by rw[aO (jB h hp (by intro z;cases z))];exact h,λ_ _ _ h=>by rw[aO (jB h hp (by intro z;cases z))];exact h⟩
noncomputable def mv (f:Str) (v:W):List (Str×W)->List (Str×W)
 | []=>[(f,v)]
 | (g,x)::r=>if g=f then (g,v)::r else (g,x)::mv f v r
section
variable {K:yav} {H:Hp}
theorem im {f:Str} {w:W}:∀{fs:List (Str×W)} {fs':List (Str×V)},fs'.map (·.1)=fs.map (·.1)->aT K H (fs.map (·.2)) (fs'.map (·.2))->fs.lookup f=some w->∃v,fs'.lookup f=some v/\cr K H w v
 | [],_,_,_,e=>by cases e
 | (g,x)::r,[],n,_,_=>by cases n
 | (g,x)::r,(g',x')::r',n,rs,e=>by
   rw[map_cons,map_cons,List.cons.injEq] at n;obtain⟨n1,n2⟩:=n;have n1:g'=g:=n1;subst n1;cases rs with
   | cons r1 r2=>
     rw[lookup_cons] at e ⊢;cases h:f==g' with
     | true=>rw[h] at e;cases e;exact⟨x',rfl,r1⟩
     | false=>rw[h] at e;exact im n2 r2 e
theorem fI {f:Str}:∀{fs:List (Str×W)} {fs':List (Str×V)},fs'.map (·.1)=fs.map (·.1)->fs.lookup f=none->fs'.lookup f=none
 | [],[],_,_=>rfl
 | [],_::_,n,_=>by cases n
 | _::_,[],n,_=>by cases n
 | (g,x)::r,(g',x')::r',n,e=>by
   rw[map_cons,map_cons,List.cons.injEq] at n;obtain⟨n1,n2⟩:=n;have n1:g'=g:=n1;subst n1;rw[lookup_cons] at e ⊢;cases h:f==g' with
   | true=>rw[h] at e;cases e
   | false=>rw[h] at e;exact fI n2 e
theorem mw {f:Str} {w:W} {v:V} (rv:cr K H w v):∀{fs:List (Str×W)} {fs':List (Str×V)},fs'.map (·.1)=fs.map (·.1)->aT K H (fs.map (·.2)) (fs'.map (·.2))->(eh f v fs').map (·.1)=(mv f w fs).map (·.1)/\aT K H ((mv f w fs).map (·.2)) ((eh f v fs').map (·.2))/\(mv f w fs).length<=fs.length+1
 | [],[],_,_=>⟨rfl,.cons rv .nil,ycx _⟩
 | [],_::_,n,_=>by cases n
 | _::_,[],n,_=>by cases n
 | (g,x)::r,(g',x')::r',n,rs=>by
   rw[map_cons,map_cons,List.cons.injEq] at n;obtain⟨n1,n2⟩:=n;have n1:g'=g:=n1;subst n1;cases rs with
   | cons r1 r2=>
     obtain⟨a1,a2,a3⟩:=mw (f:=f) rv n2 r2;unfold eh mv
     by_cases h:g'=f
     ·rw[ycv h,ycv h];refine⟨?_,.cons rv r2,by simp⟩;rw[map_cons,map_cons,n2]
     ·rw[ycw h,ycw h];refine⟨?_,.cons r1 a2,by simp;assumption⟩;rw[map_cons,map_cons,a1]
end
section
variable {X:Cx}
noncomputable def BI (K:yav) (to:WE) (f:Str):WE:=λτ G q=>to τ G λx G1=>∃a C fs v,x=.ref a/\G1 a=some (.ins C fs)/\(lG K C/\cW K C f)/\fs.lookup f=some v/\q v G1
theorem dv {o:Expr} {to:WE} {f:Str} (ho:QE X o to) (hb:attributeBase o f X.env (eval o X.env)=eval o X.env:=by rfl):QE X (.Attribute o f pos) (BI X.K to f):=
 (yT ho hb).imp λσ H Q z0=>z0.el λτ G q hs hg ht hQ=>⟨τ,G,_,hs,hg,ht,λv H1 w G1 t1 r1 g1 q1=>by
   obtain⟨a,C,fs,v',rfl,hG,hc,hl,q1⟩:=q1;cases r1;obtain⟨_,dx,fs',hH,hn,hr⟩:=g1 a _ hG;obtain⟨v2,hv2,rv2⟩:=im hn hr hl;exact⟨a,C,dx,fs',v2,rfl,hH,hc.1,hc.2,hv2,hQ v2 H1 v' G1 t1 rv2 g1 q1⟩⟩
noncomputable def xW (K:yav) (to te:WE) (f:Str):WS:=λd τ G=>te τ G λy G1=>to τ G1 λx G2=>∃a C fs,x=.ref a/\G2 a=some (.ins C fs)/\(lG K C/\cW K C f)/\fs.length<100/\d.nx τ (aX G2 a (.ins C (mv f y fs)))
theorem i7 {o e:Expr} {to te:WE} {f:Str} {pos pos':Pos} (ho:QE X o to) (he:QE X e te) (hs:swapsWith e (some (.Attribute o f pos')) pos.line X.env=pure false:=by rfl):QS X (.Assign [.Attribute o f pos'] e pos) (xW X.K to te f):=
 (yU ho he hs).imp λD σ H z0=>z0.el λτ G d rs rg ht l=>⟨τ,G,_,rs,rg,ht,λy H1 w G1 t1 r1 g1 q1=>⟨τ,G1,_,rs.mono t1,g1,q1,λv H2 w2 G2 t2 r2 g2 q2=>by
   obtain⟨a,C,fs,rfl,hG,hc,hlen,q2⟩:=q2;cases r2;obtain⟨_,dx,fs',hH,hn,hr⟩:=g2 a _ hG;obtain⟨a1,a2,a3⟩:=mw (f:=f) (r1.mono t2) hn hr;have tl:=aW.ins hH (.ins C dx (eh f y fs'));have hlen':fs'.length=fs.length:=by simpa using congrArg List.length hn
   refine⟨a,C,dx,fs',rfl,hH,hc.1,hc.2,by (clear a3;lia),l.nx σ _ τ _ ((t1.trans t2).trans tl) (((rs.mono t1).mono t2).mono tl) (g2.lay (g:= .ins C (mv f w fs)) tl ⟨by lia,dx,_,bt,a1,a2.mono tl⟩) q2⟩⟩⟩
noncomputable def pA (C:Addr) (sp:bJ) (dws:List W) (t:WA):WE:=λτ G q=>t τ G λws G1=>∀p,G1 p=none->sp (.ref p::(ws++dws)) (aX G1 p (.ins C [])) (λv G2=>v=.non/\q (.ref p) G2) λ_ _=>False
theorem gU.make {C:Addr} {sp:bJ} {dws:List W} {dvs:List V} {t:WA} {σ:St} {H:Hp} {Q:VK} {E:XK} (hd:∀H,aT K H dws dvs) (h:gU K (pA C sp dws t) σ H Q):xE C (uY K sp) dvs E (LA K t) σ H Q:=by
 obtain⟨τ,G,q,hs,hg,ht,hQ⟩:=h;refine⟨τ,G,_,hs,hg,ht,λvs H1 ws G1 t1 r1 g1 q1 x dx hx hdx hne=>?_⟩;have hdx':upd H1 dx (.own x) x=none:=by rw[aO (Ne.symm hne)];exact hx
 have tl:=(aW.new hdx (.own x)).trans (aW.new hdx' (.ins C dx []));have g2:aS K (upd (upd H1 dx (.own x)) x (.ins C dx [])) (aX G1 x (.ins C [])):=(g1.keep hdx (.own x)).lay (aW.new hdx' _) ⟨by simp,dx,[],bt,rfl,.nil⟩;exact⟨.ref x::(ws++dws),_,_,_,.cons (.ref x) ((r1.mono tl).append (hd _)),g2,q1 x (g1.fresh hx),λv H2 w G2 t2 r2 g2 q2=>by
  obtain⟨e,q2⟩:=q2;subst e;cases r2;exact⟨rfl,hQ _ H2 _ G2 ((t1.trans tl).trans t2) (.ref x) g2 q2⟩,λ_ _ _ _ _ _ z=>z.elim⟩
theorem v6 {C f:Addr} {sp:bJ} {p pos:Pos} {t:WA} (M:Mk X.K C f) (F:cB X.prog X.w X.K X.mg X.base k f fd ps sp) (hr:ay (k+1) X.A) (hg:Gl X x) (hm:X.mg x=some (.ref C)) (hb:bL X.K fd ps [])
 (ha:QA X (e::es) t) (hdb:(x==("__debug__":Str))=false:=by decide) (he:starEach (e::es) X.env=(false,eval e X.env)::starEach es X.env:=by rfl) (hpl:(backTo pos (starEach es X.env)).any (·.1)=false:=by rfl):
 QE X (.Call (.Name x p) (e::es) [] pos) (pA C sp [] t):=
 (vt (dvs:=[]) M F hr hg hm hb .nil (jJ (X:=X)) ha hdb he hpl).imp λ_ _ _ h=>gU.make (λ_=> .nil) h
noncomputable def pB (C:Addr) (m:Str) (sp:bJ) (dws:List W) (to:WE) (t:WA):WE:=λτ G q=>to τ G λx G1=>∃a fs,x=.ref a/\G1 a=some (.ins C fs)/\fs.lookup m=none/\t τ G1 λws G2=>sp (x::(ws++dws)) G2 q λ_ _=>False
theorem gU.meth {C:Addr} {m:Str} {sp:bJ} {dws:List W} {dvs:List V} {to:WE} {t:WA} {σ:St} {H:Hp} {Q:VK} {E:XK} (hd:∀H,aT K H dws dvs) (h:gU K (pB C m sp dws to t) σ H Q):sA C m (uY K sp) dvs E (gU K to) (LA K t) σ H Q:=by
 obtain⟨τ,G,q,hs,hg,ht,hQ⟩:=h;refine⟨τ,G,_,hs,hg,ht,λx H1 w G1 t1 r1 g1 q1=>?_⟩;obtain⟨a,fs,rfl,hG,hl,q1⟩:=q1;cases r1;obtain⟨_,dx,fs',hH,hn,_⟩:=g1 a _ hG;refine⟨a,dx,fs',rfl,hH,fI hn hl,τ,G1,_,hs.mono t1,g1,q1,λvs H2 ws G2 t2 r2 g2 q2=>?_⟩;exact⟨.ref a::(ws++dws),G2,q,_,.cons (.ref a) (r2.append (hd _)),g2,q2,λv H3 w3 G3 t3=>hQ v H3 w3 G3 ((t1.trans t2).trans t3),λ_ _ _ _ _ _ z=>z.elim⟩
structure Mt (P:Program) (w:World) (K:yav) (mg:yew) (base:Heap) (C:Addr) (m:Str) (ps:List Str) (k:Nat) (sp:bJ) (dws:List W):Prop where
 ex:∃(f:Addr) (fd:FuncData) (ds:yez) (dvs:List V),qL K C m f/\cB P w K mg base k f fd ps sp/\bL K fd ps ds/\aY dvs ds/\∀H,aT K H dws dvs
 cl:lG K C
theorem gA {C:Addr} {m:Str} {sp:bJ} {dws:List W} {o e:Expr} {to:WE} {t:WA} {apos pos:Pos} {pl:Sem Bool} (ho:QE X o to) (M:Mt X.prog X.w X.K X.mg X.base C m ps k sp dws) (hr:ay k X.A) (ha:QA X (e::es) t)
 (hst:starEach (e::es) X.env=(false,eval e X.env)::starEach es X.env:=by rfl) (hpl:(backTo pos (starEach es X.env)).any (·.1)=false:=by rfl)
 (ht:eval (.Call (.Attribute o m apos) (e::es) [] pos) X.env=(do
   let ov ←eval o X.env
   standAt apos.atName
   let (f,first) ←holding [ov] (getMethod ov m pl)
   callWith pos f first (backTo pos (starEach (e::es) X.env)) (backToKw pos (keywordEach [] X.env))):=by rfl):QE X (.Call (.Attribute o m apos) (e::es) [] pos) (pB C m sp dws to t):=by
 obtain⟨⟨f,fd,ds,dvs,hm,F,hb,hd,hrep⟩,c⟩:=M;exact(o0 (pl:=pl) ho c hm F hr hb hd (jJ (X:=X)) ha hst hpl ht).imp λ_ _ _ h=>gU.meth hrep h
theorem fy {C:Addr} {m:Str} {sp:bJ} {dws:List W} {o:Expr} {to:WE} {apos pos:Pos} {pl:Sem Bool} (ho:QE X o to) (M:Mt X.prog X.w X.K X.mg X.base C m ps k sp dws) (hr:ay k X.A)
 (ht:eval (.Call (.Attribute o m apos) [] [] pos) X.env=(do
   let ov ←eval o X.env
   standAt apos.atName
   let (f,first) ←holding [ov] (getMethod ov m pl)
   callWith pos f first (backTo pos (starEach [] X.env)) (backToKw pos (keywordEach [] X.env))):=by rfl):QE X (.Call (.Attribute o m apos) [] [] pos) (pB C m sp dws to sN):=by
 obtain⟨⟨f,fd,ds,dvs,hm,F,hb,hd,hrep⟩,c⟩:=M;refine(sC (pl:=pl) ho c hm F hr hb hd (jJ (X:=X)) ht).imp λσ H Q z0=>z0.el λτ G q hs hg ht hQ=>?_;refine⟨τ,G,_,hs,hg,ht,λx H1 w G1 t1 r1 g1 q1=>?_⟩;obtain⟨a,fs,rfl,hG,hl,q1⟩:=q1;cases r1;obtain⟨_,dx,fs',hH,hn,_⟩:=g1 a _ hG;exact⟨a,dx,fs',rfl,hH,fI hn hl,.ref a::([]++dws),G1,q,_,.cons (.ref a) (hrep _),g1,q1,λv H3 w3 G3 t3=>hQ v H3 w3 G3 (t1.trans t3),λ_ _ _ _ _ _ z=>z.elim⟩
noncomputable def zD (to:WE):WE:=λτ G q=>to τ G λx G1=>match x with
 | .ref a=>∃ys y,G1 a=some (.lst (ys++[y]))/\q y (aX G1 a (.lst ys))
 | _=>False
theorem aT.snoc {K:yav} {H:Hp}:∀{ys:List W} {y:W} {xs:List V},aT K H (ys++[y]) xs->∃v,xs[xs.length-1]?=some v/\cr K H y v/\aT K H ys xs.dropLast
 | [],y,xs,r=>by
   obtain⟨v,rfl,rv⟩:=r.one;exact⟨v,rfl,rv,.nil⟩
 | w::ys,y,_,.cons (v:=v) (vs:=vs) r rs=>by
   obtain⟨u,h1,h2,h3⟩:=aT.snoc rs;have hl:=rs.length;cases vs with
   | nil=>simp at hl
   | cons v2 vs2=>
     refine⟨u,?_,h2,?_⟩
     ·simpa using h1
     ·rw[List.dropLast_cons₂];exact .cons r h3
theorem ow {o:Expr} {to:WE} {apos cpos:Pos} (ho:QE X o to)
 (hbase:attributeBase o "pop" X.env (eval o X.env)=eval o X.env:=by rfl) (hline:(apos.endLine==cpos.line)=true:=by rfl):QE X (.Call (.Attribute o "pop" apos) [] [] cpos) (zD to):=
 (y3 PySem.F.plainAttrs_list PySem.F.slot_list_pop PySem.F.type_list_pop y4 ho hbase hline).imp λσ H Q z0=>z0.el λτ G q hs hg ht hQ=>
   ⟨τ,G,_,hs,hg,ht,λv H1 w G1 t1 r1 g1 q1=>by
     split at q1
     ·rename_i a;cases r1;obtain⟨ys,y,e1,q1⟩:=q1;obtain⟨hl,xs',h1,rr⟩:=g1 a _ e1;obtain⟨u,hu,ru,rd⟩:=rr.snoc;refine⟨.inl ⟨rfl,xs',dP.of h1⟩,a,xs',u,rfl,rfl,h1,hu,?_⟩;have tl:=aW.lst h1 (.lst xs'.dropLast);exact hQ _ _ _ _ (t1.trans tl) (ru.mono tl) (g1.put tl rd (by simp at hl;lia)) q1
     ·exact q1.elim⟩
noncomputable def D5:Stmt->List Stmt
 | .ClassDef _ _ _ b _ _ _ _ _ _ _=>b
 | _=>[]
noncomputable def Md (K:yav) (C:Addr) (m qual:Str) (st:Stmt) (ps:List Str):Prop:=∃(f:Addr) (fd:FuncData),qL K C m f/\cv K m qual st f fd/\bL K fd ps []
noncomputable def Dh (K:yav) (C:Addr) (qual:Str) (st:Stmt) (ps:List Str):Prop:=∃(f:Addr) (fd:FuncData),Mk K C f/\cv K "__init__" qual st f fd/\bL K fd ps []
section
variable {P:Program} {w:World} {K:yav} {mg:yew} {base:Heap} {C:Addr} {m qual:Str} {st:Stmt} {ps:List Str} {k:Nat} {sp:bJ} {dws:List W}
theorem Md.mt (D:Md K C m qual st ps) (c:lG K C) (h:∀(f:Addr) (fd:FuncData),cv K m qual st f fd->cB P w K mg base k f fd ps sp):Mt P w K mg base C m ps k sp []:=by
 obtain⟨f,fd,hm,F,b⟩:=D;exact⟨⟨f,fd,[],[],hm,h f fd F,b,.nil,λ_=> .nil⟩,c⟩
noncomputable def D6 (P:Program) (w:World) (K:yav) (mg:yew) (base:Heap) (x:Str) (C:Addr) (ps:List Str) (k:Nat) (sp:bJ):Prop:=∃(f:Addr) (fd:FuncData),Mk K C f/\cB P w K mg base k f fd ps sp/\mg x=some (.ref C)/\bL K fd ps []
theorem Dh.new (D:Dh K C qual st ps) (hm:mg x=some (.ref C)) (h:∀(f:Addr) (fd:FuncData),cv K "__init__" qual st f fd->cB P w K mg base k f fd ps sp):D6 P w K mg base x C ps k sp:=by
 obtain⟨f,fd,M,F,b⟩:=D;exact⟨f,fd,M,h f fd F,hm,b⟩
end
theorem zE {C:Addr} {sp:bJ} {p pos:Pos} {t:WA} (M:D6 X.prog X.w X.K X.mg X.base x C ps k sp) (hr:ay (k+1) X.A) (hg:Gl X x)
 (ha:QA X (e::es) t) (hdb:(x==("__debug__":Str))=false:=by decide) (he:starEach (e::es) X.env=(false,eval e X.env)::starEach es X.env:=by rfl) (hpl:(backTo pos (starEach es X.env)).any (·.1)=false:=by rfl):
 QE X (.Call (.Name x p) (e::es) [] pos) (pA C sp [] t):=by
 obtain⟨f,fd,M,F,hm,b⟩:=M;exact v6 M F hr hg hm b ha hdb he hpl
theorem Fx.alias {x y:Str} {sp:bJ} (F:Fx P w K mg base x ps k sp) (h:mg y=mg x):Fx P w K mg base y ps k sp:=by
 obtain⟨f,fd,h1,h2,h3,h4⟩:=F;exact⟨f,fd,h1,h.trans h2,h3,h4⟩
theorem dg {α:Type} {p:List α->Prop} (h:p []) (us:List α) (e:us.length=0):p us:=by
 rw[List.eq_nil_of_length_eq_zero e];exact h
theorem bO {α:Type} {n:Nat} {p:List α->Prop} (h:∀a,∀us:List α,us.length=n->p (a::us)) (us:List α) (e:us.length=n+1):p us:=by
 cases us with
 | nil=>exact absurd e (Nat.succ_ne_zero n).symm
 | cons a us=>exact h a us (Nat.succ.inj e)
end
structure pC (P:Program) (w:World) (K:yav) (mg:yew) (base:Heap) (C:Addr) (m:Str) (ps:List Str) (k:Nat) (sp:bJ) (dws:List W):Prop where
 ex:∃(f:Addr) (fd:FuncData) (ds:yez) (dvs:List V),qL K C m f/\ju P w K mg base k f fd ps sp/\bL K fd ps ds/\aY dvs ds/\∀H,aT K H dws dvs
 cl:lG K C
section
variable {X:Cx} {x:Str} {p pos:Pos}
theorem v7 {D:Addr} {y:Str} {p:Pos} (hg:Gl X y) (hm:X.mg y=some (.ref D)) (hd:(y==("__debug__":Str))=false:=by decide):QE X (.Name y p) (wC (.ref D)):=eA (v:= .ref D) (kx (v:= .ref D) hg hm rfl hd) λ_=> .ref D
end
section
variable {X:Cx} {p pos:Pos}
noncomputable def zF:List W->Gp->WK->Prop:=λws G q=>match ws with
 | [.ref a]=>∃bs:List Bool,G a=some (.lst (bs.map W.bl))/\q (.bl (bs.all id)) G
 | _=>False
theorem xX (hc:X.calm=true):eC X (.builtin "all") zF:=by
 rintro π s σ H xs us Q I r ⟨ws,G,q,rw',g,h,hQ⟩;unfold zF at h;split at h
 ·rename_i a;obtain⟨bs,e,h⟩:=h;obtain⟨v,rfl,r1⟩:=rw'.one;cases r1;obtain⟨_,zs,e1,rr⟩:=g a _ e;obtain rfl:=rr.bools_of;obtain⟨u,rfl,ru⟩:=eg r;cases (show u=Value.ref a from ru);obtain⟨its,rv,p,hz⟩:=I.list (dP.of e1);have hb:=mq rv;have hl:s.heap.IsList a its.toArray:=p.isList;have hlt:a<s.heap.objs.size:=by obtain⟨_,e,_⟩:=hl;exact ybv e
  refine call_all_walk (wpAny_pyIter_list hl ?_);refine⟨s.heap.objs.size,[s.heap.objs.size,a],[s.heap.objs.size],its.toArray.size,_,_,λi=>(bs[i]?).getD true,rfl,Walks.list (A:=X.A.in1) (I.ok.hd hc) _ a (ne_of_lt hlt) its.toArray,
   ⟨⟨_,ybw _ rfl,rfl,rfl⟩,hl.push _⟩,λi v s' Q' E' hP hQ=>?_,λh' tk hk=>?_⟩
  ·obtain⟨b,e,rfl⟩:=hb.get i v (by simpa using hP);simp only[e,Option.getD_some] at hQ;exact wpAny_truthy_bool hQ
  ·have e:((List.range its.toArray.size).all λi=>(bs[i]?).getD true)=bs.all id:=by
    rw[size_toArray,hb.length];exact LSm.range_all bs
   rw[e];exact⟨.bl _,H,I.kept (LSm.kept_iter hk),rfl,hQ _ H _ G (aW.refl H) (.bl _) g h⟩
 ·exact h.elim
end
section
variable {X:Cx}
end
section
variable {P:Program} {w:World} {K:yav} {mg:yew} {base:Heap} {N:List Str} {qual:Str} {scope:Scope} {f:Addr} {cdv:Value} {A:Around} {outer:List Env} {s:Shared} {H:Hp} {E:XK}
noncomputable def eS (C:Addr) (m:Str) (sp:bJ) (dws:List W) (to:WE) (t:WA) (e:WX):WE:=λτ G q=>to τ G λx G1=>∃a fs,x=.ref a/\G1 a=some (.ins C fs)/\fs.lookup m=none/\t τ G1 λws G2=>sp (x::(ws++dws)) G2 q e
theorem dD {C:Addr} {m:Str} {sp:bJ} {dws:List W} {o e0:Expr} {to:WE} {t:WA} {apos pos:Pos} {pl:Sem Bool} {e:WX} (ho:QE (dq (kN P w) P w K mg base N qual scope f cdv A outer s H E) o to) (M:pC P w K mg base C m ps k sp dws) (hr:ay k (A.deeper (envOfC qual scope s.heap.objs.size f cdv)))
 (hE:∀c H1 G1,aW H H1->aS K H1 G1->e c G1->E c none H1) (ha:QA (dq (kN P w) P w K mg base N qual scope f cdv A outer s H E) (e0::es) t)
 (hst:starEach (e0::es) (envOfC qual scope s.heap.objs.size f cdv)=(false,eval e0 (envOfC qual scope s.heap.objs.size f cdv))::starEach es (envOfC qual scope s.heap.objs.size f cdv):=by rfl) (hpl:(backTo pos (starEach es (envOfC qual scope s.heap.objs.size f cdv))).any (·.1)=false:=by rfl)
 (ht:eval (.Call (.Attribute o m apos) (e0::es) [] pos) (envOfC qual scope s.heap.objs.size f cdv)=(do
   let ov ←eval o (envOfC qual scope s.heap.objs.size f cdv)
   standAt apos.atName
   let (fn,first) ←holding [ov] (getMethod ov m pl)
   callWith pos fn first (backTo pos (starEach (e0::es) (envOfC qual scope s.heap.objs.size f cdv))) (backToKw pos (keywordEach [] (envOfC qual scope s.heap.objs.size f cdv)))):=by rfl):QE (dq (kN P w) P w K mg base N qual scope f cdv A outer s H E) (.Call (.Attribute o m apos) (e0::es) [] pos) (eS C m sp dws to t e):=by
 obtain⟨⟨f1,fd,ds,dvs,hm,F,hb,hd,hrep⟩,c⟩:=M;refine(o0 (X:=dq (kN P w) P w K mg base N qual scope f cdv A outer s H E) (E:=λc _ H1=>∃G1,aS K H1 G1/\e c G1) (pl:=pl) ho c hm F hr hb hd (pz λC H1 t1 z=>?_) ha hst hpl ht).imp λσ H2 Q h=>?_
 ·obtain⟨G1,g1,z1⟩:=z;exact hE _ H1 G1 t1 g1 z1
 ·obtain⟨τ,G,q,hs,hg,ht,hQ⟩:=h;refine⟨τ,G,_,hs,hg,ht,λx H1 w G1 t1 r1 g1 q1=>?_⟩;obtain⟨a,fs,rfl,hG,hl,q1⟩:=q1;cases r1;obtain⟨_,dx,fs',hH,hn,_⟩:=g1 a _ hG;refine⟨a,dx,fs',rfl,hH,fI hn hl,τ,G1,_,hs.mono t1,g1,q1,λvs H2 ws G2 t2 r2 g2 q2=>?_⟩;exact⟨.ref a::(ws++dws),G2,q,e,.cons (.ref a) (r2.append (hrep _)),g2,q2,λv H3 w3 G3 t3=>hQ v H3 w3 G3 ((t1.trans t2).trans t3),λc d H3 G3 _ g3 z=>⟨G3,g3,z⟩⟩
end
section
variable {X:Cx} {π:List (Addr×Obj)} {σ:St} {H:Hp} {s:Shared} {h':Heap} {ch:List Addr}
end
structure ZL (z p r i j a b:Addr) (n:Nat) (f:Value) (h:Heap):Prop where
 hz:IsZip h z p r f
 hp:IsPair h p (.ref i) (.ref j)
 hr:∃x y,IsPair h r x y
 hi:h.IsListIter i a n
 hj:h.IsListIter j b n
section
variable {P:Program} {w:World} {K:yav}
end
section
variable {X:Cx}
end
end L2
namespace Nm
inductive O where
 | z
 | c (e:O) (n:Int) (r:O)
 deriving DecidableEq
namespace O
noncomputable def cmp:O->O->Int
 | z,z=>0
 | z,c _ _ _=> -1
 | c _ _ _,z=>1
 | c e n r,c e' n' r'=>
   if cmp e e'≠0 then cmp e e' else if n<n' then -1 else if n'<n then 1 else cmp r r'
noncomputable def size:O->Nat
 | z=>0
 | c e _ r=>1+size e+size r
noncomputable def dp:O->Nat
 | z=>0
 | c e _ r=>max (dp e+1) (dp r)
noncomputable def len:O->Nat
 | z=>0
 | c _ _ r=>len r+1
noncomputable def app:O->O->O
 | z,b=>b
 | c e n r,b=>c e n (app r b)
noncomputable def filt (p:O->Int->Bool):O->O
 | z=>z
 | c e n r=>if p e n then c e n (filt p r) else filt p r
noncomputable def same (x:O):O->Int
 | z=>0
 | c e n r=>if e=x then n+same x r else same x r
noncomputable def withO (a e:O) (n:Int):O:=app (filt (λx _=>decide (0<cmp x e)) a) (c e (same e a+n) (filt (λx _=>decide (cmp x e<0)) a))
noncomputable def init:O->O
 | z=>z
 | c _ _ z=>z
 | c e n r=>c e n (init r)
noncomputable def last:O->O
 | z=>z
 | c e n z=>c e n z
 | c _ _ r=>last r
theorem cmp_self:∀a:O,cmp a a=0
 | z=>rfl
 | c e n r=>by simp[cmp,cmp_self e,cmp_self r]
theorem cmp_eq:∀a b:O,cmp a b=0->a=b
 | z,z,_=>rfl
 | z,c _ _ _,h=>by simp[cmp] at h
 | c _ _ _,z,h=>by simp[cmp] at h
 | c e n r,c e' n' r',h=>by
   unfold cmp at h
   by_cases he:cmp e e'=0
   ·rw[ycw (by simpa using he)] at h
    by_cases h1:n<n'
    ·rw[ycv h1] at h;(clear he h1;lia)
    ·rw[ycw h1] at h
     by_cases h2:n'<n
     ·rw[ycv h2] at h;(clear he h1 h2;lia)
     ·rw[ycw h2] at h;have:=cmp_eq e e' he;have:=cmp_eq r r' h;have:n=n':=by (clear h he;lia)
      subst_vars
      rfl
   ·rw[ycv he] at h;exact absurd h he
theorem cmp_range:∀a b:O,cmp a b= -1∨cmp a b=0∨cmp a b=1
 | z,z=>by simp[cmp]
 | z,c _ _ _=>by simp[cmp]
 | c _ _ _,z=>by simp[cmp]
 | c e n r,c e' n' r'=>by
   have h1:=cmp_range e e';have h2:=cmp_range r r';unfold cmp;split
   ·exact h1
   ·split
    ·exact .inl rfl
    ·split
     ·exact .inr (.inr rfl)
     ·exact h2
theorem bd:∀a b:O,cmp b a= -cmp a b
 | z,z=>rfl
 | z,c _ _ _=>rfl
 | c _ _ _,z=>rfl
 | c e n r,c e' n' r'=>by
   have h1:=bd e e';have h2:=bd r r';unfold cmp;rw[h1,h2]
   by_cases he:cmp e e'=0
   ·rcases Int.lt_trichotomy n n' with k | k | k
    ·have k':¬n'<n:=by (clear h1 h2 he;lia)
     simp[he,k,k']
    ·subst k;simp[he]
    ·have k':¬n<n':=by (clear h1 h2 he;lia)
     simp[he,k,k']
   ·have he':¬-cmp e e'=0:=by (clear h1 h2;lia)
    simp[he,he']
theorem ci:∀a b d:O,cmp a b<0->cmp b d<0->cmp a d<0
 | z,z,_,h,_=>by simp[cmp] at h
 | z,c _ _ _,z,_,h=>by simp[cmp] at h
 | z,c _ _ _,c _ _ _,_,_=>by simp[cmp]
 | c _ _ _,z,_,h,_=>by simp[cmp] at h
 | c _ _ _,c _ _ _,z,_,h=>by simp[cmp] at h
 | c e n r,c e' n' r',c f m t,h1,h2=>by
   have ih1:=ci e e' f;have ih2:=ci r r' t;have r1:=cmp_range e e';have r2:=cmp_range e' f;unfold cmp at h1 h2 ⊢
   by_cases k1:cmp e e'=0
   ·have e1:=cmp_eq e e' k1;subst e1;rw[ycw (by (clear r1 r2 h1 h2;lia))] at h1
    by_cases k2:cmp e f=0
    ·rw[ycw (by (clear r1 r2 h1 h2 k1;lia))] at h2 ⊢
     by_cases a1:n<n'
     ·by_cases a2:n'<m
      ·rw[ycv (by (clear r1 r2 h1 h2 k1 k2;lia))];(clear r1 r2 h1 h2 k1 k2 a1 a2;lia)
      ·rw[ycw a2] at h2
       by_cases a3:m<n'
       ·rw[ycv a3] at h2;(clear r1 r2 h1 k1 k2 a1 a2 a3;lia)
       ·rw[ycv (by (clear r1 r2 h1 h2 k1 k2;lia))];(clear r1 r2 h1 h2 k1 k2 a1 a2 a3;lia)
     ·rw[ycw a1] at h1
      by_cases a2:n'<n
      ·rw[ycv a2] at h1;(clear r1 r2 h2 k1 k2 a1 a2;lia)
      ·rw[ycw a2] at h1
       by_cases a3:n'<m
       ·rw[ycv (by (clear r1 r2 h1 h2 k1 k2;lia))];(clear r1 r2 h1 h2 k1 k2 a1 a2 a3;lia)
       ·rw[ycw a3] at h2
        by_cases a4:m<n'
        ·rw[ycv a4] at h2;(clear r1 r2 h1 k1 k2 a1 a2 a3 a4;lia)
        ·rw[ycw a4] at h2;rw[ycw (by (clear r1 r2 h1 h2 k1 k2;lia)),ycw (by (clear r1 r2 h1 h2 k1 k2;lia))];exact ih2 h1 h2
    ·rw[ycv k2] at h2 ⊢;exact h2
   ·rw[ycv k1] at h1
    by_cases k2:cmp e' f=0
    ·have e2:=cmp_eq e' f k2;subst e2;rw[ycv k1];exact h1
    ·rw[ycv k2] at h2;have:=ih1 h1 h2;rw[ycv (by (clear r1 r2 h1 h2 k1 k2;lia))];exact this
theorem dp_le_size:∀a:O,dp a<=size a
 | z=>ycx _
 | c e n r=>by
   have:=dp_le_size e;have:=dp_le_size r;simp only[dp,size];lia
theorem len_le_size:∀a:O,len a<=size a
 | z=>ycx _
 | c e n r=>by
   have:=len_le_size r;simp only[len,size];lia
theorem my:∀a b:O,size (app a b)=size a+size b
 | z,b=>by simp[app,size]
 | c e n r,b=>by simp[app,size,my r b];lia
theorem g9 (p:O->Int->Bool):∀a:O,size (filt p a)<=size a
 | z=>ycx _
 | c e n r=>by
   have:=g9 p r;unfold filt;split<;> simp only[size]<;> lia
theorem size_init:∀a:O,size (init a)<=size a
 | z=>ycx _
 | c _ _ z=>by simp[init,size]
 | c e n (c e' n' r')=>by
   have h:=size_init (c e' n' r');have e0:init (c e n (c e' n' r'))=c e n (init (c e' n' r')):=by simp[init]
   rw[e0];simp only[size] at h ⊢;lia
theorem size_last:∀a:O,size (last a)<=size a
 | z=>ycx _
 | c _ _ z=>by simp[last]
 | c e n (c e' n' r')=>by
   have h:=size_last (c e' n' r');have e0:last (c e n (c e' n' r'))=last (c e' n' r'):=by simp[last]
   rw[e0];simp only[size] at h ⊢;lia
noncomputable def Lt (e:O):O->Prop
 | z=>True
 | c x _ r=>cmp x e<0/\Lt e r
noncomputable def NF:O->Prop
 | z=>True
 | c e n r=>NF e/\1<=n/\Lt e r/\NF r
theorem Lt.app {e:O}:∀{a b:O},Lt e a->Lt e b->Lt e (app a b)
 | z,_,_,h=>h
 | c _ _ _,_,h1,h2=>⟨h1.1,Lt.app h1.2 h2⟩
theorem Lt.filt {e:O} (p:O->Int->Bool):∀{a:O},Lt e a->Lt e (O.filt p a)
 | z,_=>trivial
 | c _ _ _,h=>by
   unfold O.filt;split
   ·exact⟨h.1,Lt.filt p h.2⟩
   ·exact Lt.filt p h.2
theorem Lt.of_filt {e x:O} (hx:0<cmp x e):∀{a:O},Lt x (O.filt (λy _=>decide (cmp y e<0)) a)
 | z=>trivial
 | c y n r=>by
   unfold O.filt;split
   ·rename_i h;have h':cmp y e<0:=by simpa using h
    have hs:=bd x e;exact⟨ci y e x h' (by (clear h h';lia)),Lt.of_filt hx⟩
   ·exact Lt.of_filt hx
theorem Lt.below (e:O):∀{a:O},Lt e (O.filt (λy _=>decide (cmp y e<0)) a)
 | z=>trivial
 | c y n r=>by
   unfold O.filt;split
   ·rename_i h;exact⟨by simpa using h,Lt.below e⟩
   ·exact Lt.below e
theorem NF.filt (p:O->Int->Bool):∀{a:O},NF a->NF (O.filt p a)
 | z,_=>trivial
 | c _ _ _,h=>by
   unfold O.filt;split
   ·exact⟨h.1,h.2.1,h.2.2.1.filt p,NF.filt p h.2.2.2⟩
   ·exact NF.filt p h.2.2.2
theorem same_nonneg (x:O):∀{a:O},NF a->0<=same x a
 | z,_=>by simp[same]
 | c e n r,h=>by
   have h1:=h.2.1;have h2:=same_nonneg x h.2.2.2;unfold same;split<;> lia
theorem NF.join {e:O} {n:Int} {b:O} (he:NF e) (hn:1<=n) (hb:NF b) (hl:Lt e b) (hx:∀x,0<cmp x e->Lt x b):∀{a:O},NF a->NF (O.app (O.filt (λx _=>decide (0<cmp x e)) a) (c e n b))
 | z,_=>⟨he,hn,hl,hb⟩
 | c x k r,h=>by
   unfold O.filt;split
   ·rename_i hp;have hp':0<cmp x e:=by simpa using hp
    have hs:=bd x e;exact⟨h.1,h.2.1,Lt.app (h.2.2.1.filt _) ⟨by (clear hn hp;lia),hx x hp'⟩,NF.join he hn hb hl hx h.2.2.2⟩
   ·exact NF.join he hn hb hl hx h.2.2.2
theorem NF.withO {a e:O} {n:Int} (ha:NF a) (he:NF e) (hn:1<=n):NF (O.withO a e n):=by
 have:=same_nonneg e ha;exact NF.join he (by lia) (ha.filt _) (Lt.below e) (λx hx=>Lt.of_filt hx) ha
theorem Lt.init {e:O}:∀{a:O},Lt e a->Lt e (O.init a)
 | z,_=>trivial
 | c _ _ z,_=>trivial
 | c x n (c x' n' r'),h=>by
   have e0:O.init (c x n (c x' n' r'))=c x n (O.init (c x' n' r')):=by simp[O.init]
   rw[e0];exact⟨h.1,Lt.init h.2⟩
theorem NF.init:∀{a:O},NF a->NF (O.init a)
 | z,_=>trivial
 | c _ _ z,_=>trivial
 | c x n (c x' n' r'),h=>by
   have e0:O.init (c x n (c x' n' r'))=c x n (O.init (c x' n' r')):=by simp[O.init]
   rw[e0];exact⟨h.1,h.2.1,h.2.2.1.init,NF.init h.2.2.2⟩
theorem NF.last:∀{a:O},NF a->NF (O.last a)
 | z,_=>trivial
 | c _ _ z,h=>⟨h.1,h.2.1,trivial,trivial⟩
 | c x n (c x' n' r'),h=>by
   have e0:O.last (c x n (c x' n' r'))=O.last (c x' n' r'):=by simp[O.last]
   rw[e0];exact NF.last h.2.2.2
end O
namespace O
theorem d5 (a:O):¬cmp a a<0:=by rw[cmp_self];lia
theorem ox (x:O):same x z=0:=rfl
theorem same_eq (e:O) (n:Int) (r:O):same e (c e n r)=n+same e r:=by simp[same]
theorem same_ne {x e:O} (h:e≠x) (n:Int) (r:O):same x (c e n r)=same x r:=by simp[same,h]
theorem cz {e x:O} (hx:¬cmp x e<0):∀{r:O},Lt e r->same x r=0
 | z,_=>rfl
 | c y n t,h=>by
   have hy:y≠x:=λk=>hx (k▸h.1);rw[same_ne hy];exact cz hx h.2
theorem same_self {e:O} {n:Int} {r:O} (h:Lt e r):same e (c e n r)=n:=by
 rw[same_eq,cz (d5 e) h];lia
theorem bp {x e:O} {n:Int} {r:O} (h:Lt e r) (hx:0<cmp x e):same x (c e n r)=0:=by
 have hne:e≠x:=λk=>by subst k;rw[cmp_self] at hx;lia
 rw[same_ne hne,cz (by lia) h]
theorem fz {x:O}:∀{a b:O},NF a->NF b->same x a<same x b->(∀y,0<cmp y x->same y a=same y b)->cmp a b<0
 | z,z,_,_,h,_=>by simp[same] at h
 | z,c _ _ _,_,_,_,_=>by simp[cmp]
 | c e n r,z,ha,_,h,_=>by
   have:=same_nonneg x ha;rw[ox] at h;lia
 | c e n r,c e' n' r',ha,hb,h,hy=>by
   rcases cmp_range e e' with k | k | k
   ·rw[cmp,ycv (by (clear h;lia))];(clear h;lia)
   ·have k':=cmp_eq _ _ k;subst k';rw[cmp,ycw (by (clear h;lia))];rcases cmp_range x e with q | q | q
    ·have hne:e≠x:=λz=>by subst z;rw[cmp_self] at q;(clear k h;lia)
     have h1:=hy e (by have:=bd x e;(clear h k;lia));rw[same_self ha.2.2.1,same_self hb.2.2.1] at h1;subst h1;rw[ycw (by (clear k q h;lia)),ycw (by (clear k q h;lia))];rw[same_ne hne,same_ne hne] at h;refine fz ha.2.2.2 hb.2.2.2 h λy hyx=>?_
     by_cases hye:e=y
     ·subst hye;rw[cz (d5 e) ha.2.2.1,cz (d5 e) hb.2.2.1]
     ·have:=hy y hyx;rw[same_ne hye,same_ne hye] at this;exact this
    ·have q':=cmp_eq _ _ q;subst q';rw[same_self ha.2.2.1,same_self hb.2.2.1] at h;rw[ycv h];(clear h k q;lia)
    ·rw[bp ha.2.2.1 (by (clear h k;lia)),bp hb.2.2.1 (by (clear h k;lia))] at h
     (clear k q;lia)
   ·have hn:=ha.2.1;rcases cmp_range e x with q | q | q
    ·have qx:0<cmp x e:=by have:=bd e x;(clear h k hn;lia)
     have qx':0<cmp x e':=by
      have:=ci e' e x (by have:=bd e e';(clear h hn q qx;lia)) (by (clear h k hn qx;lia));have:=bd e' x
      (clear h k hn q qx;lia)
     rw[bp ha.2.2.1 qx,bp hb.2.2.1 qx'] at h
     (clear k hn q qx qx';lia)
    ·have q':=cmp_eq _ _ q;subst q';rw[same_self ha.2.2.1,bp hb.2.2.1 (by (clear hn h q;lia))] at h
     (clear k q;lia)
    ·have h1:=hy e (by (clear h k hn;lia));rw[same_self ha.2.2.1,bp hb.2.2.1 (by (clear h hn q h1;lia))] at h1
     (clear h k q;lia)
theorem d6:∀{a b:O},NF a->NF b->cmp a b<0->∃x,same x a<same x b/\∀y,0<cmp y x->same y a=same y b
 | z,z,_,_,h=>by simp[cmp] at h
 | z,c e n r,_,hb,_=>by
   refine⟨e,?_,λy hy=>?_⟩
   ·rw[same_self hb.2.2.1,ox];have:=hb.2.1;assumption
   ·rw[bp hb.2.2.1 hy,ox]
 | c _ _ _,z,_,_,h=>by simp[cmp] at h
 | c e n r,c e' n' r',ha,hb,h=>by
   rcases cmp_range e e' with k | k | k
   ·refine⟨e',?_,λy hy=>?_⟩
    ·rw[same_self hb.2.2.1,bp ha.2.2.1 (by have:=bd e e';(clear h;lia))];have:=hb.2.1;assumption
    ·have hy2:0<cmp y e:=by
      have:=ci e e' y (by (clear h hy;lia)) (by have:=bd y e';(clear h k;lia));have:=bd e y
      (clear h k hy;lia)
     rw[bp hb.2.2.1 hy,bp ha.2.2.1 hy2]
   ·have k':=cmp_eq _ _ k;subst k';rw[cmp,ycw (by (clear h;lia))] at h
    by_cases h1:n<n'
    ·refine⟨e,?_,λy hy=>?_⟩
     ·rw[same_self ha.2.2.1,same_self hb.2.2.1];exact h1
     ·rw[bp hb.2.2.1 hy,bp ha.2.2.1 hy]
    ·rw[ycw h1] at h
     by_cases h2:n'<n
     ·rw[ycv h2] at h;(clear k h1 h2;lia)
     ·rw[ycw h2] at h;have hn:n=n':=by (clear h k;lia)
      subst hn;obtain⟨x,hx,hy⟩:=d6 ha.2.2.2 hb.2.2.2 h;have hxe:cmp x e<0:=by
       refine Classical.byContradiction λq=>?_;rw[cz q ha.2.2.1,cz q hb.2.2.1] at hx
       (clear h k h1 h2 q;lia)
      have hne:e≠x:=λz=>by subst z;rw[cmp_self] at hxe;(clear h k h1 h2 hx;lia)
      refine⟨x,by rw[same_ne hne,same_ne hne];exact hx,λy hyx=>?_⟩
      by_cases hye:e=y
      ·subst hye;rw[same_self ha.2.2.1,same_self hb.2.2.1]
      ·rw[same_ne hye,same_ne hye];exact hy y hyx
   ·rw[cmp,ycv (by (clear h;lia))] at h;lia
theorem oy {a b:O} (ha:NF a) (hb:NF b) (h:∀x,same x a<=same x b):cmp a b<=0:=by
 rcases cmp_range a b with k | k | k
 ·lia
 ·lia
 ·have hs:=bd a b;obtain⟨x,hx,_⟩:=d6 hb ha (by lia);have:=h x
  (clear k hs;lia)
noncomputable def plusO:O->O->O
 | a,z=>a
 | a,c e n r=>app (filt (λx _=>decide (0<cmp x e)) a) (c e (same e a+n) r)
theorem mB:∀(x a b:O),same x (app a b)=same x a+same x b
 | x,z,b=>by simp[app,same]
 | x,c e n r,b=>by
   have:=mB x r b;show same x (c e n (app r b))=_
   by_cases h:e=x
   ·subst h;rw[same_eq,same_eq,this];(clear this;lia)
   ·rw[same_ne h,same_ne h,this]
theorem jM (p:O->Bool):∀(x a:O),same x (filt (λy _=>p y) a)=if p x then same x a else 0
 | x,z=>by simp[filt,same]
 | x,c e n r=>by
   have ih:=jM p x r;unfold filt
   by_cases hp:p e=true
   ·rw[ycv hp]
    by_cases h:e=x
    ·subst h;rw[same_eq,same_eq,ih,ycv hp,ycv hp]
    ·rw[same_ne h,same_ne h,ih]
   ·rw[ycw hp,ih]
    by_cases h:e=x
    ·subst h;rw[ycw hp,ycw hp]
    ·rw[same_ne h]
theorem NF.join' {e:O} {n:Int} {b:O} (he:NF e) (hn:1<=n) (hb:NF b) (hl:Lt e b) {a:O} (ha:NF a):NF (O.app (O.filt (λx _=>decide (0<cmp x e)) a) (c e n b)):=by
 refine NF.join he hn hb hl (λx hx=>?_) ha;have:∀{b:O},Lt e b->Lt x b:=by
  intro b
  induction b with
  | z=>exact λ_=>trivial
  | c y m t _ ih=>exact λh=>⟨ci y e x h.1 (by have:=bd x e;(clear hn;lia)),ih h.2⟩
 exact this hl
theorem NF.plus {a b:O} (ha:NF a) (hb:NF b):NF (plusO a b):=by
 cases b with
 | z=>exact ha
 | c e n r=>
   have:=same_nonneg e ha;exact NF.join' hb.1 (by have:=hb.2.1;lia) hb.2.2.2 hb.2.2.1 ha
theorem hJ {a e:O} {n:Int} {r:O} (hr:Lt e r) (x:O):same x (plusO a (c e n r))=if 0<cmp x e then same x a else if cmp x e<0 then same x (c e n r) else same x a+same x (c e n r):=by
 show same x (app _ _)=_;rw[mB,jM (λy=>decide (0<cmp y e))]
 by_cases h1:0<cmp x e
 ·rw[ycv (by simpa using h1),ycv h1,bp hr h1];(clear h1;lia)
 ·rw[ycw (by simpa using h1),ycw h1]
  by_cases h2:cmp x e<0
  ·have hne:e≠x:=λz=>by subst z;rw[cmp_self] at h2;(clear h1;lia)
   rw[ycv h2,same_ne hne,same_ne hne];(clear h1 h2;lia)
  ·have:cmp x e=0:=by lia
   have h3:=cmp_eq _ _ this;subst h3;rw[ycw h2,same_self hr,same_self hr];(clear h1 h2 this;lia)
end O
namespace O
noncomputable def xY (b y:O):Prop:=∃w,cmp y w<0/\same w b≠0
theorem BJ (y:O):¬xY z y:=λ⟨_,_,h⟩=>h rfl
theorem xZ {e:O} {n:Int} {r y:O} (hn:1<=n) (hr:Lt e r):xY (c e n r) y↔cmp y e<0:=by
 constructor
 ·rintro⟨w,hw,hs⟩;have:¬0<cmp w e:=λk=>hs (bp hr k);rcases cmp_range w e with k | k | k
  ·exact ci y w e hw (by (clear hn hw hs this;lia))
  ·rw[cmp_eq _ _ k] at hw;exact hw
  ·(clear hn hw hs;lia)
 ·intro h;exact⟨e,h,by rw[same_self hr];(clear h;lia)⟩
theorem dz {a b y:O} (hb:NF b) (h:xY b y):same y (plusO a b)=same y b:=by
 cases b with
 | z=>exact absurd h (BJ y)
 | c e n r=>
   have h':=(xZ hb.2.1 hb.2.2.1).mp h;rw[hJ hb.2.2.1,ycw (by lia),ycv h']
theorem cX {a b y:O} (hb:NF b) (h:¬xY b y):same y (plusO a b)=same y b+same y a:=by
 cases b with
 | z=>show same y a=0+same y a;lia
 | c e n r=>
   have h':¬cmp y e<0:=λk=>h ((xZ hb.2.1 hb.2.2.1).mpr k);rw[hJ hb.2.2.1]
   by_cases k:0<cmp y e
   ·rw[ycv k,bp hb.2.2.1 k];(clear h' k;lia)
   ·rw[ycw k,ycw h'];(clear h' k;lia)
theorem jN {b d x y:O} (h:∀y,0<cmp y x->same y b=same y d) (hy:¬cmp y x<0):xY b y↔xY d y:=by
 have go:∀w,cmp y w<0->0<cmp w x:=λw hw=>by
  have hs:=bd w x;rcases cmp_range y x with k | k | k
  ·(clear hw hs;lia)
  ·rw[cmp_eq _ _ k] at hw;(clear hy k;lia)
  ·have h3:=ci x y w (by have:=bd y x;(clear hy hw hs;lia)) hw
   (clear hy hw k;lia)
 constructor
 ·rintro⟨w,hw,hs⟩;exact⟨w,hw,by rw[←h w (go w hw)];exact hs⟩
 ·rintro⟨w,hw,hs⟩;exact⟨w,hw,by rw[h w (go w hw)];exact hs⟩
theorem pD {a b d:O} (ha:NF a) (hb:NF b) (hd:NF d) (h:cmp b d<0):cmp (plusO a b) (plusO a d)<0:=by
 obtain⟨x,hx,hy⟩:=d6 hb hd h;refine fz (x:=x) (ha.plus hb) (ha.plus hd) ?_ λy hyx=>?_
 ·have q:=jN hy (d5 x)
  by_cases k:xY b x
  ·rw[dz hb k,dz hd (q.mp k)];exact hx
  ·rw[cX hb k,cX hd (λz=>k (q.mpr z))];(clear h;lia)
 ·have q:=jN (y:=y) hy (by (clear h hx;lia))
  by_cases k:xY b y
  ·rw[dz hb k,dz hd (q.mp k)];exact hy y hyx
  ·rw[cX hb k,cX hd (λz=>k (q.mpr z)),hy y hyx]
theorem rn {f:O->O} {b d:O} (h1:cmp b d<0->cmp (f b) (f d)<0) (h2:cmp d b<0->cmp (f d) (f b)<0):cmp (f b) (f d)=cmp b d:=by
 rcases cmp_range b d with k | k | k
 ·have:=h1 (by lia);rcases cmp_range (f b) (f d) with q | q | q<;> lia
 ·rw[cmp_eq _ _ k,cmp_self,cmp_self]
 ·have:=h2 (by have:=bd b d;lia);have:=bd (f d) (f b);rcases cmp_range (f b) (f d) with q | q | q<;> lia
theorem i8 {a b d:O} (ha:NF a) (hb:NF b) (hd:NF d):cmp (plusO a b) (plusO a d)=cmp b d:=rn (pD ha hb hd) (pD ha hd hb)
theorem Lt.mono {e f:O} (h:cmp e f<0):∀{r:O},Lt e r->Lt f r
 | z,_=>trivial
 | c _ _ _,k=>⟨ci _ _ _ k.1 h,Lt.mono h k.2⟩
end O
namespace O
noncomputable def getP:O->Nat->Option (O×Int)
 | z,_=>none
 | c e n _,0=>some (e,n)
 | c _ _ r,i+1=>getP r i
noncomputable def dropO:Nat->O->O
 | 0,a=>a
 | _+1,z=>z
 | i+1,c _ _ r=>dropO i r
theorem getP_none:∀{a:O} {i:Nat},getP a i=none↔a.len<=i
 | z,i=>by simp[getP,len]
 | c e n r,0=>by simp[getP,len]
 | c e n r,i+1=>by
   have:=getP_none (a:=r) (i:=i);simp only[getP,len,this];(clear this;lia)
theorem getP_some {a:O} (h:i<a.len):∃e n,getP a i=some (e,n):=by
 cases k:getP a i with
 | none=>rw[getP_none] at k;lia
 | some p=>exact⟨p.1,p.2,rfl⟩
theorem dropO_get:∀{a:O} {i:Nat} {e:O} {n:Int},getP a i=some (e,n)->dropO i a=c e n (dropO (i+1) a)
 | z,_,_,_,h=>by simp[getP] at h
 | c e n r,0,_,_,h=>by simp[getP] at h;obtain⟨rfl,rfl⟩:=h;simp[dropO]
 | c e n r,i+1,x,m,h=>by
   have:=dropO_get (a:=r) (i:=i) (e:=x) (n:=m) (by simpa[getP] using h);simpa[dropO] using this
theorem len_dropO:∀(i:Nat) (a:O),(dropO i a).len=a.len-i
 | 0,a=>rfl
 | _+1,z=>by simp[dropO,len]
 | i+1,c e n r=>by
   have:=len_dropO i r;simp only[dropO,len,this];lia
theorem getP_size:∀{a:O} {i:Nat} {e:O} {n:Int},getP a i=some (e,n)->e.size<a.size/\e.dp<a.dp
 | z,_,_,_,h=>by simp[getP] at h
 | c e n r,0,_,_,h=>by simp[getP] at h;obtain⟨rfl,rfl⟩:=h;simp only[size,dp];lia
 | c e n r,i+1,x,m,h=>by
   have:=getP_size (a:=r) (i:=i) (e:=x) (n:=m) (by simpa[getP] using h);simp only[size,dp];lia
theorem pE:∀{a:O} {i:Nat} {e:O} {n:Int},NF a->getP a i=some (e,n)->NF e/\1<=n
 | z,_,_,_,_,h=>by simp[getP] at h
 | c e n r,0,_,_,ha,h=>by simp[getP] at h;obtain⟨rfl,rfl⟩:=h;exact⟨ha.1,ha.2.1⟩
 | c e n r,i+1,x,m,ha,h=>pE (a:=r) (i:=i) ha.2.2.2 (by simpa[getP] using h)
noncomputable def stay (e a:O):Nat:=(filt (λx _=>decide (0<cmp x e)) a).len
theorem cY {y e:O} (h:¬0<cmp y e):∀{r:O},Lt y r->filt (λx _=>decide (0<cmp x e)) r=z
 | z,_=>rfl
 | c x n t,k=>by
   have hx:¬0<cmp x e:=λq=>by
    have h1:=bd x e;have h2:=ci e x y (by (clear h;lia)) k.1;have h3:=bd e y
    (clear q h1;lia)
   unfold filt;rw[ycw (by simpa using hx)];exact cY h k.2
theorem filt_c (p:O->Int->Bool) (e:O) (n:Int) (r:O):filt p (c e n r)=if p e n then c e n (filt p r) else filt p r:=rfl
theorem eT {e y:O} {n:Int} {r:O} (h:0<cmp y e):stay e (c y n r)=stay e r+1:=by
 unfold stay;rw[filt_c,ycv (by simpa using h)]
 rfl
theorem eU {e y:O} {n:Int} {r:O} (h:¬0<cmp y e) (hr:Lt y r):stay e (c y n r)=0:=by
 unfold stay;rw[filt_c,ycw (by simpa using h),cY h hr]
 rfl
theorem stay_le {e:O}:∀{a:O},stay e a<=a.len
 | z=>ycx _
 | c y n r=>by
   have:=stay_le (e:=e) (a:=r);unfold stay at this ⊢;unfold filt;split<;> simp only[len]<;> lia
theorem above_iff {e:O}:∀{a:O} {i:Nat} {x:O} {n:Int},NF a->getP a i=some (x,n)->(0<cmp x e↔i<stay e a)
 | z,_,_,_,_,h=>by simp[getP] at h
 | c y m r,0,x,n,ha,h=>by
   simp[getP] at h;obtain⟨rfl,rfl⟩:=h
   by_cases k:0<cmp y e
   ·rw[eT k];exact⟨λ_=>by (clear k;lia),λ_=>k⟩
   ·rw[eU k ha.2.2.1];exact⟨λq=>absurd q k,λq=>by (clear k;lia)⟩
 | c y m r,i+1,x,n,ha,h=>by
   have h':getP r i=some (x,n):=by simpa[getP] using h
   have ih:=above_iff (e:=e) ha.2.2.2 h'
   by_cases k:0<cmp y e
   ·rw[eT k,ih];(clear ih k;lia)
   ·rw[eU k ha.2.2.1];constructor
    ·intro q;have z0:stay e r=0:=by unfold stay;rw[cY k ha.2.2.1];rfl
     have:=ih.mp q
     (clear ih k q;lia)
    ·intro q;(clear ih k;lia)
theorem same_stay {e:O}:∀{a:O},NF a->same e a=match getP a (stay e a) with | some (x,m)=>if x=e then m else 0 | none=>0
 | z,_=>rfl
 | c y n r,ha=>by
   by_cases k:0<cmp y e
   ·have hne:y≠e:=λq=>by subst q;rw[cmp_self] at k;lia
    rw[eT k,same_ne hne,same_stay ha.2.2.2]
    rfl
   ·rw[eU k ha.2.2.1];show _=if y=e then n else 0
    by_cases q:y=e
    ·subst q;rw[ycv rfl,same_self ha.2.2.1]
    ·rw[ycw q,same_ne q];refine cz (λhl=>?_) ha.2.2.1;have h1:=bd e y;lia
noncomputable def takeO:Nat->O->O
 | 0,_=>z
 | _+1,z=>z
 | i+1,c e n r=>c e n (takeO i r)
theorem take_stay {e:O}:∀{a:O},NF a->takeO (stay e a) a=filt (λx _=>decide (0<cmp x e)) a
 | z,_=>rfl
 | c y n r,ha=>by
   by_cases k:0<cmp y e
   ·rw[eT k,filt_c,ycv (by simpa using k),takeO,take_stay ha.2.2.2]
   ·rw[eU k ha.2.2.1,filt_c,ycw (by simpa using k),cY k ha.2.2.1]
    rfl
theorem size_with (a e:O) (n:Int):(withO a e n).size<=2*a.size+e.size+1:=by
 unfold withO;rw[my];have h1:=g9 (λx _=>decide (0<cmp x e)) a;have h2:=g9 (λx _=>decide (cmp x e<0)) a;simp only[size];lia
end O
namespace O
noncomputable def mx:O->Int
 | z=>0
 | c e n r=>max n (max (mx e) (mx r))
theorem mx_c (e:O) (n:Int) (r:O):mx (c e n r)=max n (max (mx e) (mx r)):=rfl
theorem mx_hn {e:O} {n:Int} {r:O}:n<=mx (c e n r):=Int.le_max_left _ _
theorem mx_he {e:O} {n:Int} {r:O}:mx e<=mx (c e n r):=ydv (Int.le_max_left _ _) (Int.le_max_right _ _)
theorem mx_hr {e:O} {n:Int} {r:O}:mx r<=mx (c e n r):=ydv (Int.le_max_right _ _) (Int.le_max_right _ _)
theorem oz {e:O} {n:Int} {r:O} {B:Int} (h1:n<=B) (h2:mx e<=B) (h3:mx r<=B):mx (c e n r)<=B:=Int.max_le.mpr ⟨h1,Int.max_le.mpr ⟨h2,h3⟩⟩
theorem mx_nonneg:∀a:O,0<=mx a
 | z=>Int.le_refl _
 | c _ _ r=>ydv (mx_nonneg r) mx_hr
theorem oA:∀a b:O,mx (app a b)=max (mx a) (mx b)
 | z,b=>by have:=mx_nonneg b;show mx b=max 0 (mx b);lia
 | c e n r,b=>by
   show mx (c e n (app r b))=_;rw[mx_c,oA r b,mx_c,Int.max_assoc,Int.max_assoc]
theorem mx_filt (p:O->Int->Bool):∀a:O,mx (filt p a)<=mx a
 | z=>Int.le_refl _
 | c e n r=>by
   have:=mx_filt p r;rw[filt_c];split
   ·exact oz mx_hn mx_he (ydv this mx_hr)
   ·exact ydv this mx_hr
theorem same_le_mx (x:O):∀{a:O},NF a->same x a<=mx a
 | z,_=>Int.le_refl _
 | c e n r,h=>by
   have h1:=same_le_mx x h.2.2.2;rw[mx_c]
   by_cases k:e=x
   ·subst k;rw[same_self h.2.2.1];(clear h1;lia)
   ·rw[same_ne k];lia
theorem v9 {a e:O} {n:Int} (ha:NF a):mx (withO a e n)<=max (mx a+max n 0) (mx e):=by
 unfold withO;have h1:=mx_filt (λx _=>decide (0<cmp x e)) a;have h2:=mx_filt (λx _=>decide (cmp x e<0)) a;have h3:=same_le_mx e ha;have h4:=mx_nonneg a;rw[oA,mx_c]
 (clear h4;lia)
theorem pF:∀a:O,mx (init a)<=mx a
 | z=>Int.le_refl _
 | c _ _ z=>by simp only[init];exact mx_nonneg _
 | c e n (c e' n' r')=>by
   have h:=pF (c e' n' r');have e0:init (c e n (c e' n' r'))=c e n (init (c e' n' r')):=by simp[init]
   rw[e0,mx_c,mx_c e];lia
theorem pG:∀a:O,mx (last a)<=mx a
 | z=>Int.le_refl _
 | c _ _ z=>by simp[last]
 | c e n (c e' n' r')=>by
   have h:=pG (c e' n' r');have e0:last (c e n (c e' n' r'))=last (c e' n' r'):=by simp[last]
   rw[e0,mx_c e];lia
theorem pH:∀{a:O} {i:Nat} {e:O} {n:Int},getP a i=some (e,n)->mx e<=mx a/\n<=mx a
 | z,_,_,_,h=>by simp[getP] at h
 | c e n r,0,_,_,h=>by simp[getP] at h;obtain⟨rfl,rfl⟩:=h;rw[mx_c];lia
 | c e n r,i+1,x,m,h=>by
   have:=pH (a:=r) (i:=i) (e:=x) (n:=m) (by simpa[getP] using h);rw[mx_c];lia
theorem oC:∀a b:O,dp (app a b)=max (dp a) (dp b)
 | z,b=>by show dp b=max 0 (dp b);lia
 | c e n r,b=>by
   show dp (c e n (app r b))=_;simp only[dp,oC r b];rw[Nat.max_assoc]
theorem dp_filt (p:O->Int->Bool):∀a:O,dp (filt p a)<=dp a
 | z=>ycx _
 | c e n r=>by
   have:=dp_filt p r;rw[filt_c];split<;> simp only[dp]<;> lia
theorem dp_with (a e:O) (n:Int):dp (withO a e n)<=max (dp a) (dp e+1):=by
 unfold withO;have h1:=dp_filt (λx _=>decide (0<cmp x e)) a;have h2:=dp_filt (λx _=>decide (cmp x e<0)) a;rw[oC];simp only[dp];lia
theorem dp_plus (a b:O):dp (plusO a b)<=max (dp a) (dp b):=by
 cases b with
 | z=>show dp a<=_;lia
 | c e n r=>
   show dp (app _ _)<=_;rw[oC];have:=dp_filt (λx _=>decide (0<cmp x e)) a;simp only[dp];lia
structure Good (B:Int) (o:O):Prop where
 nf:NF o
 sz:o.size<=24
 mx:O.mx o<=B
theorem Good.dp {B:Int} {o:O} (h:Good B o):o.dp<=24:=ycy (dp_le_size o) h.sz
theorem Good.mono {B B':Int} {o:O} (h:Good B o) (k:B<=B'):Good B' o:=⟨h.nf,h.sz,ydv h.mx k⟩
theorem Good.init {B:Int} {o:O} (h:Good B o):Good B (O.init o):=⟨h.nf.init,ycy (size_init o) h.sz,ydv (pF o) h.mx⟩
theorem Good.last {B:Int} {o:O} (h:Good B o):Good B (O.last o):=⟨h.nf.last,ycy (size_last o) h.sz,ydv (pG o) h.mx⟩
theorem Good.whole {B n:Int} (h1:1<=n) (h2:n<=B):Good B (c z n z):=⟨⟨trivial,h1,trivial,trivial⟩,by simp[size],by rw[mx_c];show max n (max 0 0)<=B;lia⟩
theorem Good.part {B:Int} {o e:O} {n:Int} (h:Good B o) (k:getP o i=some (e,n)):Good B e/\1<=n/\n<=B:=by
 have h1:=getP_size k;have h2:=pE h.nf k;have h3:=pH k;have:=h.mx;have:=h.sz;exact⟨⟨h2.1,by (clear h2 h3;lia),by (clear h1 h2 this;lia)⟩,h2.2,by (clear h1 h2 this;lia)⟩
theorem Good.with {B n:Int} {o e:O} (h:Good B o) (he:Good B e) (hn:1<=n) (hs:(withO o e n).size<=24):Good (B+n) (withO o e n):=
 ⟨h.nf.withO he.nf hn,hs,by have:=v9 (e:=e) (n:=n) h.nf;have:=h.mx;have:=he.mx;(clear hs;lia)⟩
end O
namespace O
theorem tJ:∀a:O,plusO z a=a
 | z=>rfl
 | c e n r=>by
   simp[plusO,filt,app,same]
theorem oE (a:O):plusO a z=a:=rfl
theorem plus_c (a e:O) (n:Int) (r:O):plusO a (c e n r)=app (filt (λx _=>decide (0<cmp x e)) a) (c e (same e a+n) r):=rfl
noncomputable def minusO:O->O->O
 | a,z=>a
 | z,_=>z
 | c e n r,c e' n' r'=>if e=e' then (if n=n' then minusO r r' else c e (n-n') r) else c e n r
theorem eV (a:O):minusO a z=a:=by cases a<;> rfl
theorem Lt.minus {g:O}:∀{a b:O},Lt g a->Lt g (minusO a b)
 | a,z,h=>by rw[eV];exact h
 | z,c _ _ _,h=>h
 | c e n r,c e' n' r',h=>by
   unfold minusO;split
   ·split
    ·exact Lt.minus h.2
    ·exact h
   ·exact h
theorem NF.minus:∀{a b:O},NF a->cmp b a<=0->NF (minusO a b)
 | a,z,h,_=>by rw[eV];exact h
 | z,c _ _ _,h,_=>h
 | c e n r,c e' n' r',h,k=>by
   unfold minusO;split
   ·rename_i q;subst q;rw[cmp,ycw (by rw[cmp_self];simp)] at k;split
    ·rename_i q2;subst q2;rw[ycw (by (clear k;lia)),ycw (by (clear k;lia))] at k;exact NF.minus h.2.2.2 k
    ·rename_i q2;have:n'<n:=by
      rcases Int.lt_trichotomy n' n with j | j | j
      ·exact j
      ·exact absurd j.symm q2
      ·rw[ycw (by (clear k q2;lia)),ycv j] at k;(clear q2 j;lia)
     exact⟨h.1,by (clear k q2;lia),h.2.2.1,h.2.2.2⟩
   ·exact h
theorem io {e:O} {n:Int} {r:O} (hr:Lt e r) {f:O} (h:cmp e f<=0):filt (λx _=>decide (0<cmp x f)) (c e n r)=z:=by
 rw[filt_c,ycw (by simp;assumption),cY (by lia) hr]
theorem fZ:∀{a b:O},NF a->NF b->cmp b a<=0->plusO b (minusO a b)=a
 | a,z,_,_,_=>by rw[eV,tJ]
 | z,c _ _ _,_,_,h=>by simp[cmp] at h
 | c e n r,c e' n' r',ha,hb,h=>by
   unfold minusO
   by_cases q:e=e'
   ·subst q;rw[cmp,ycw (by rw[cmp_self];simp)] at h;rw[ycv rfl]
    by_cases q2:n=n'
    ·subst q2;rw[ycw (by (clear h;lia)),ycw (by (clear h;lia))] at h;rw[ycv rfl];have ih:=fZ ha.2.2.2 hb.2.2.2 h;have hl:Lt e (minusO r r'):=ha.2.2.1.minus;cases k:minusO r r' with
     | z=>
       rw[k,oE] at ih;rw[oE,ih]
     | c f m t=>
       rw[k] at ih hl;have hf:0<cmp e f:=by have:=bd e f;have:=hl.1;(clear h;lia)
       have hne:e≠f:=λz=>by subst z;rw[cmp_self] at hf;(clear h;lia)
       rw[plus_c] at ih ⊢;rw[filt_c,ycv (by simpa using hf),same_ne hne];show c e n (app _ _)=_;rw[ih]
    ·rw[ycw q2];have hlt:n'<n:=by
      rcases Int.lt_trichotomy n' n with j | j | j
      ·exact j
      ·exact absurd j.symm q2
      ·rw[ycw (by (clear h q2;lia)),ycv j] at h;(clear q2 j;lia)
     rw[plus_c,io hb.2.2.1 (by rw[cmp_self];(clear h q2 hlt;lia)),same_self hb.2.2.1];show c e (n'+(n-n')) r=_;have e1:n'+(n-n')=n:=by (clear h q2 hlt;lia)
     rw[e1]
   ·rw[ycw q];have hk:cmp e' e<0:=by
     rcases cmp_range e' e with j | j | j
     ·(clear h;lia)
     ·exact absurd (cmp_eq _ _ j).symm q
     ·rw[cmp,ycv (by (clear h;lia))] at h;lia
    rw[plus_c,io hb.2.2.1 (by (clear h;lia)),bp hb.2.2.1 (by have:=bd e' e;(clear h;lia))];show c e (0+n) r=_;rw[Int.zero_add]
theorem wc {a:O} (h:a≠z):cmp z a<0:=by
 cases a with
 | z=>exact absurd rfl h
 | c _ _ _=>simp[cmp]
theorem pI {e f:O} (he:NF e) (hf:NF f) (h:f≠z):cmp e (plusO e f)<0:=by
 have:=i8 (b:=z) he trivial hf;rw[oE] at this;have:=wc h;lia
noncomputable def mulP (e:O) (n:Int) (r:O):O->O
 | z=>z
 | c f d t=>if f=z then c e (n*d) r else c (plusO e f) d (mulP e n r t)
noncomputable def timesO:O->O->O
 | z,_=>z
 | c e n r,b=>mulP e n r b
theorem mulP_c (e:O) (n:Int) (r f:O) (d:Int) (t:O):mulP e n r (c f d t)=if f=z then c e (n*d) r else c (plusO e f) d (mulP e n r t):=rfl
theorem pJ {e:O} {n:Int} {r:O} (he:NF e) (hr:Lt e r) {f:O} (hf:NF f) (h0:f≠z):∀{t:O},NF t->Lt f t->Lt (plusO e f) (mulP e n r t)
 | z,_,_=>trivial
 | c g d u,ht,hl=>by
   rw[mulP_c];split
   ·exact⟨pI he hf h0,hr.mono (pI he hf h0)⟩
   ·exact⟨by rw[i8 he ht.1 hf];exact hl.1,pJ he hr hf h0 ht.2.2.2 hl.2⟩
theorem oF {a b:Int} (ha:1<=a) (hb:1<=b):1<=a*b:=by
 have:=Int.mul_le_mul ha hb (by (clear ha hb;lia)) (by (clear hb;lia));simpa using this
theorem pK {e:O} {n:Int} {r:O} (h:NF (c e n r)):∀{t:O},NF t->NF (mulP e n r t)
 | z,_=>trivial
 | c g d u,ht=>by
   rw[mulP_c];split
   ·exact⟨h.1,oF h.2.1 ht.2.1,h.2.2.1,h.2.2.2⟩
   ·rename_i hg;exact⟨h.1.plus ht.1,ht.2.1,pJ h.1 h.2.2.1 ht.1 hg ht.2.2.2 ht.2.2.1,pK h ht.2.2.2⟩
theorem NF.times {a b:O} (ha:NF a) (hb:NF b):NF (timesO a b):=by
 cases a with
 | z=>exact trivial
 | c e n r=>exact pK ha hb
theorem Lt_z {t:O} (h:Lt z t):t=z:=by
 cases t with
 | z=>rfl
 | c x _ _=>
   have:=h.1;cases x<;> simp[cmp] at this
section
variable {e:O} {n:Int} {r:O}
end
end O
namespace O
section
variable {e:O} {n:Int} {r:O}
end
end O
namespace O
end O
namespace O
noncomputable def hw:O->Nat
 | z=>0
 | c e _ r=>max (len r+1) (max (hw e) (hw r))
theorem hw_c (e:O) (n:Int) (r:O):hw (c e n r)=max (len r+1) (max (hw e) (hw r)):=rfl
theorem len_le_hw:∀a:O,len a<=hw a
 | z=>ycx _
 | c e n r=>by rw[hw_c];simp only[len];lia
theorem hw_le_size:∀a:O,hw a<=size a
 | z=>ycx _
 | c e n r=>by
   have h1:=hw_le_size e;have h2:=hw_le_size r;have h3:=len_le_size r;rw[hw_c];simp only[size];lia
theorem mD:∀a b:O,(app a b).len=a.len+b.len
 | z,b=>by simp[app,len]
 | c e n r,b=>by have:=mD r b;simp only[app,len];lia
theorem hV (p:O->Int->Bool):∀a:O,(a.filt p).len<=a.len
 | z=>ycx _
 | c e n r=>by
   have:=hV p r;rw[filt_c];split<;> simp only[len]<;> lia
theorem tK:∀a b:O,hw (app a b)<=max (len a+len b) (max (hw a) (hw b))
 | z,b=>by show hw b<=_;lia
 | c e n r,b=>by
   have ih:=tK r b;show hw (c e n (app r b))<=_;have l0:len (c e n r)=len r+1:=rfl;have b1:hw e<=hw (c e n r):=ycy (le_max_left _ _) (le_max_right _ _);have b2:hw r<=hw (c e n r):=ycy (le_max_right _ _) (le_max_right _ _);have c1:len (c e n r)+len b<=max (len (c e n r)+len b) (max (hw (c e n r)) (hw b)):=le_max_left _ _;have c2:hw (c e n r)<=max (len (c e n r)+len b) (max (hw (c e n r)) (hw b)):=ycy (le_max_left _ _) (le_max_right _ _);have c3:hw b<=max (len (c e n r)+len b) (max (hw (c e n r)) (hw b)):=ycy (le_max_right _ _) (le_max_right _ _);generalize max (len (c e n r)+len b) (max (hw (c e n r)) (hw b))=R at c1 c2 c3 ⊢;rw[hw_c,mD];refine max_le.mpr ⟨by (clear ih b1 b2 c2 c3;lia),max_le.mpr ⟨ycy b1 c2,ycy ih (max_le.mpr ⟨by (clear ih b1 b2 c2 c3;lia),max_le.mpr ⟨ycy b2 c2,c3⟩⟩)⟩⟩
theorem hw_filt (p:O->Int->Bool):∀a:O,hw (filt p a)<=hw a
 | z=>ycx _
 | c e n r=>by
   have ih:=hw_filt p r;have h:=hV p r;rw[filt_c];split
   ·rw[hw_c,hw_c];exact max_le.mpr ⟨ycy (Nat.succ_le_succ h) (le_max_left _ _),ycy (max_le.mpr ⟨le_max_left _ _,ycy ih (le_max_right _ _)⟩) (le_max_right _ _)⟩
   ·exact ycy ih (ycy (le_max_right _ _) (le_max_right _ _))
theorem hw_plus (a b:O):hw (plusO a b)<=hw a+hw b:=by
 cases b with
 | z=>show hw a<=_;lia
 | c e n r=>
   rw[plus_c];have h1:=tK (filt (λx _=>decide (0<cmp x e)) a) (c e (same e a+n) r);have h2:=hw_filt (λx _=>decide (0<cmp x e)) a;have h3:=hV (λx _=>decide (0<cmp x e)) a;have h4:=len_le_hw a;have h5:=len_le_hw (c e n r);have e1:hw (c e (same e a+n) r)=hw (c e n r):=rfl;have e2:len (c e (same e a+n) r)=len (c e n r):=rfl;rw[e1,e2] at h1;exact ycy h1 (max_le.mpr ⟨by (clear h1 h2;lia),max_le.mpr ⟨by (clear h1 h3 h4 h5 e2;lia),by (clear h1 h3 h4 h5 e1 e2;lia)⟩⟩)
theorem pL (e:O) (n:Int) (r:O):∀b:O,(mulP e n r b).len<=b.len+r.len
 | z=>by simp[mulP,len]
 | c f d t=>by
   have ih:=pL e n r t;rw[mulP_c];split<;> simp only[len]<;> lia
theorem tL (e:O) (n:Int) (r:O):∀b:O,hw (mulP e n r b)<=hw (c e n r)+hw b
 | z=>by simp[mulP,hw]
 | c f d t=>by
   have ih:=tL e n r t;have h1:=hw_plus e f;have h2:=pL e n r t;have h3:=len_le_hw t;have h4:hw e<=hw (c e n r):=ycy (le_max_left _ _) (le_max_right _ _);have h5:len r+1<=hw (c e n r):=le_max_left _ _;have h6:hw f<=hw (c f d t):=ycy (le_max_left _ _) (le_max_right _ _);have h7:hw t<=hw (c f d t):=ycy (le_max_right _ _) (le_max_right _ _);have h8:len t+1<=hw (c f d t):=le_max_left _ _;rw[mulP_c];split
   ·have e1:hw (c e (n*d) r)=hw (c e n r):=rfl;rw[e1];(clear ih h1 h2 h3 h4 h5 h6 h7 h8 e1;lia)
   ·rw[hw_c (plusO e f)];exact max_le.mpr ⟨by (clear ih h1 h3 h4 h6 h7;lia),max_le.mpr ⟨by (clear ih h2 h3 h5 h7 h8;lia),by (clear h1 h2 h3 h4 h5 h6 h8;lia)⟩⟩
theorem hw_times (a b:O):hw (timesO a b)<=hw a+hw b:=by
 cases a with
 | z=>show hw z<=_;exact zero_le _
 | c e n r=>exact tL e n r b
theorem pM (e:O) (n:Int) (r:O):∀b:O,(mulP e n r b).dp<=max (dp (c e n r)) (b.dp)
 | z=>by simp[mulP,dp]
 | c f d t=>by
   have ih:=pM e n r t;have h:=dp_plus e f;have h1:dp e+1<=dp (c e n r):=le_max_left _ _;have h2:dp f+1<=dp (c f d t):=le_max_left _ _;have h3:dp t<=dp (c f d t):=le_max_right _ _;rw[mulP_c];split
   ·have e1:dp (c e (n*d) r)=dp (c e n r):=rfl;rw[e1];exact le_max_left _ _
   ·refine max_le.mpr ⟨?_,ycy ih (max_le.mpr ⟨le_max_left _ _,ycy h3 (le_max_right _ _)⟩)⟩;rcases Nat.le_total (dp e) (dp f) with k | k
    ·rw[Nat.max_eq_right k] at h;exact ycy (Nat.succ_le_succ h) (ycy h2 (le_max_right _ _))
    ·rw[Nat.max_eq_left k] at h;exact ycy (Nat.succ_le_succ h) (ycy h1 (le_max_left _ _))
theorem dp_times (a b:O):dp (timesO a b)<=max (dp a) (dp b):=by
 cases a with
 | z=>show dp z<=_;exact zero_le _
 | c e n r=>exact pM e n r b
theorem wd {a b:O} (ha:NF a):mx (plusO a b)<=mx a+mx b:=by
 have h0:=mx_nonneg a;cases b with
 | z=>show mx a<=mx a+0;(clear h0;lia)
 | c e n r=>
   rw[plus_c,oA,mx_c,mx_c];have h2:=mx_filt (λx _=>decide (0<cmp x e)) a;have h3:=same_le_mx e ha;have e1:n<=max n (max (mx e) (mx r)):=mx_hn (e:=e) (r:=r);have e2:max (mx e) (mx r)<=max n (max (mx e) (mx r)):=Int.le_max_right _ _;have e3:0<=max n (max (mx e) (mx r)):=mx_nonneg (c e n r);generalize max n (max (mx e) (mx r))=M at e1 e2 e3 ⊢;refine Int.max_le.mpr ⟨ydv h2 (Int.le_add_of_nonneg_right e3),Int.max_le.mpr ⟨Int.add_le_add h3 e1,ydv e2 (Int.le_add_of_nonneg_left h0)⟩⟩
theorem tM {e:O} {n:Int} {r:O} (h:NF (c e n r)):∀{b:O},NF b->mx (mulP e n r b)<=(mx (c e n r)+1)*(mx b+1)
 | z,_=>by
   have:=mx_nonneg (c e n r);show(0:Int)<=(mx (c e n r)+1)*(0+1);lia
 | c f d t,hb=>by
   have ih:=tM h hb.2.2.2;have hp:=wd (a:=e) (b:=f) h.1;have n0:=mx_nonneg (c e n r);have n1:=mx_nonneg f;have n2:=mx_nonneg t;have hd:=hb.2.1;have hn:=h.2.1;obtain⟨A,hA⟩:∃A,A=mx (c e n r):=⟨_,rfl⟩;rw[←hA] at ih n0 ⊢;rw[mx_c] at hA;have k1:(A+1)*(mx t+1)<=(A+1)*(mx (c f d t)+1):=Int.mul_le_mul_of_nonneg_left (Int.add_le_add_right mx_hr 1) (Int.le_add_one n0);have e1:mx e<=A:=by rw[hA];exact mx_he
   have e2:mx r<=A:=by rw[hA];exact mx_hr
   have e3:n<=A:=by rw[hA];exact mx_hn
   have e4:mx f<=mx (c f d t):=mx_he;have e5:d<=mx (c f d t):=mx_hn;have e6:=mx_nonneg (c f d t);clear hA n1 n2 hn;generalize mx (c f d t)=M at k1 e4 e5 e6 ⊢;have k2:A+M<=(A+1)*(M+1):=by
    have:=Int.mul_nonneg n0 e6;rw[Int.mul_add,Int.add_mul];generalize A*M=P at this ⊢;clear ih hp hd k1 e1 e2 e3 e4 e5
    (clear n0 e6;lia)
   have k5:A<=(A+1)*(M+1):=ydv (Int.le_add_of_nonneg_right e6) k2;rw[mulP_c];split
   ·exact oz (Int.mul_le_mul (ydv e3 (Int.le_add_one (Int.le_refl A))) (ydv e5 (Int.le_add_one (Int.le_refl M))) (Int.le_of_lt hd) (Int.le_add_one n0)) (ydv e1 k5) (ydv e2 k5)
   ·exact oz (ydv (ydv e5 (Int.le_add_of_nonneg_left n0)) k2) (ydv (ydv hp (Int.add_le_add e1 e4)) k2) (ydv ih k1)
end O
namespace O
noncomputable def jO:O->O
 | z=>z
 | c e n z=>if n=1 then z else c e (n-1) z
 | c e n (c e' n' r')=>c e n (jO (c e' n' r'))
noncomputable def ip:O->O
 | z=>z
 | c e _ z=>e
 | c _ _ (c e' n' r')=>ip (c e' n' r')
noncomputable def Fq (a:O):Prop:=a≠z/\same z a=0
inductive Ax:O->Int->O->Prop where
 | suc {a:O} {n:Int} (h0:a≠z) (h:ip a=z):Ax a n (jO a)
 | lim {a:O} {n:Int} {o:O} (h0:a≠z) (h:Fq (ip a)) (k:Ax (ip a) n o):Ax a n (app (jO a) (c o 1 z))
 | one {a:O} {n:Int} (h0:a≠z) (h:ip a≠z) (h':¬Fq (ip a)):Ax a n (app (jO a) (if n=0 then z else c (jO (ip a)) n z))
end O
namespace O
end O
namespace O
structure Rg (a b:O) (n:Int):Prop where
 pos:0<=n
 pass:∀o,Ax a n o->cmp b o<0
 least:0<n->∀o,Ax a (n-1) o->¬cmp b o<0
end O
namespace O
noncomputable def alike:O->O->Nat
 | c e n r,c e' n' r'=>if e=e'/\n=n' then alike r r'+1 else 0
 | _,_=>0
theorem gB (e:O) (n:Int) (r e':O) (n':Int) (r':O):alike (c e n r) (c e' n' r')=if e=e'/\n=n' then alike r r'+1 else 0:=by rw[alike]
theorem alike_le:∀a b:O,alike a b<=a.len/\alike a b<=b.len
 | z,b=>by simp[alike]
 | c _ _ _,z=>by simp[alike]
 | c e n r,c e' n' r'=>by
   have:=alike_le r r';rw[gB];simp only[len];split<;> lia
theorem alike_at:∀{a b:O} {i:Nat} {e:O} {n:Int} {e':O} {n':Int},getP a i=some (e,n)->getP b i=some (e',n')->i<=alike a b->(i<alike a b↔e=e'/\n=n')
 | z,_,_,_,_,_,_,h,_,_=>by simp[getP] at h
 | c _ _ _,z,_,_,_,_,_,_,h,_=>by simp[getP] at h
 | c x k r,c x' k' r',0,e,n,e',n',h1,h2,_=>by
   simp only[getP,Option.some.injEq,Prod.mk.injEq] at h1 h2;obtain⟨rfl,rfl⟩:=h1;obtain⟨rfl,rfl⟩:=h2;rw[gB];split<;> simp_all
 | c x k r,c x' k' r',i+1,e,n,e',n',h1,h2,h3=>by
   simp only[getP] at h1 h2;rw[gB] at h3 ⊢;split at h3
   ·rename_i q;have:=alike_at h1 h2 (by (clear q;lia));rw[ycv q,←this]
    (clear q this;lia)
   ·lia
theorem minus_end:∀{a b:O},alike a b=b.len->minusO a b=dropO (alike a b) a
 | a,z,_=>by
   rw[eV];cases a<;> rfl
 | z,c _ _ _,h=>by simp[alike,len] at h
 | c e n r,c e' n' r',h=>by
   rw[gB] at h ⊢;simp only[len] at h;split at h
   ·rename_i q;rw[ycv q,minusO,ycv q.1,ycv q.2];exact minus_end (by (clear q;lia))
   ·lia
theorem alike_more:∀{a b:O},cmp b a<=0->alike a b<b.len->∃e n e' n',getP a (alike a b)=some (e,n)/\getP b (alike a b)=some (e',n')/\minusO a b=if e=e' then c e (n-n') (dropO (alike a b+1) a) else dropO (alike a b) a
 | a,z,_,h=>by simp[len] at h
 | z,c _ _ _,h,_=>by simp[cmp] at h
 | c e n r,c e' n' r',hc,h=>by
   rw[gB] at h ⊢;simp only[len] at h
   by_cases q:e=e'/\n=n'
   ·obtain⟨rfl,rfl⟩:=q;rw[ycv ⟨rfl,rfl⟩] at h ⊢;rw[cmp,ycw (by rw[cmp_self];simp),ycw (by (clear hc h;lia)),ycw (by (clear hc h;lia))] at hc;obtain⟨x,k,x',k',h1,h2,h3⟩:=alike_more hc (by (clear hc;lia));refine⟨x,k,x',k',h1,h2,?_⟩;rw[minusO,ycv rfl,ycv rfl,h3]
    rfl
   ·rw[ycw q];refine⟨e,n,e',n',rfl,rfl,?_⟩;rw[minusO]
    by_cases q1:e=e'
    ·rw[ycv q1,ycv q1,ycw (λk=>q ⟨q1,k⟩)]
     rfl
    ·rw[ycw q1,ycw q1]
     rfl
theorem mE:∀a b:O,(minusO a b).dp<=a.dp
 | a,z=>by rw[eV];exact ycx _
 | z,c _ _ _=>ycx _
 | c e n r,c e' n' r'=>by
   have:=mE r r';unfold minusO;split
   ·split
    ·simp only[dp];lia
    ·simp only[dp];(clear this;lia)
   ·exact ycx _
theorem mF:∀a b:O,hw (minusO a b)<=hw a
 | a,z=>by rw[eV];exact ycx _
 | z,c _ _ _=>ycx _
 | c e n r,c e' n' r'=>by
   have:=mF r r';unfold minusO;split
   ·split
    ·rw[hw_c];lia
    ·rw[hw_c,hw_c];(clear this;lia)
   ·exact ycx _
end O
namespace O
end O
namespace O
noncomputable def wh (m:Int):O:=if m=0 then z else c z m z
theorem NF.wh {m:Int} (h:0<=m):NF (wh m):=by
 unfold O.wh;split
 ·exact trivial
 ·exact⟨trivial,by lia,trivial,trivial⟩
theorem zG {a b:O} (ha:NF a) (hb:NF b) (h:cmp a b<0):cmp (plusO a (c z 1 z)) b<=0:=by
 have n1:NF (c z 1 z):=⟨trivial,by (clear h;lia),trivial,trivial⟩;have sm:∀y,same y (plusO a (c z 1 z))=same y a+(if y=z then 1 else 0):=λy=>by
  rw[hJ (show Lt z z from trivial)]
  by_cases q:y=z
  ·subst q;rw[cmp_self,ycw (by (clear h;lia)),ycw (by (clear h;lia)),same_eq,ycv rfl]
   rfl
  ·have:0<cmp y z:=by have:=wc q;have:=bd z y;(clear h;lia)
   rw[ycv this,ycw q]
   (clear h this;lia)
 obtain⟨x,h1,h2⟩:=d6 ha hb h
 by_cases q:x=z
 ·subst q;refine oy (ha.plus n1) hb λy=>?_;rw[sm]
  by_cases q:y=z
  ·subst q;rw[ycv rfl];assumption
  ·have:0<cmp y z:=by have:=wc q;have:=bd z y;(clear h h1;lia)
   rw[ycw q,h2 y this]
   (clear h h1 this;lia)
 ·have:cmp (plusO a (c z 1 z)) b<0:=by
   refine fz (x:=x) (ha.plus n1) hb (by rw[sm,ycw q];(clear h;lia)) λy hy=>?_;have hyz:y≠z:=λk=>by subst k;cases x<;> simp[cmp] at hy
   rw[sm,ycw hyz,h2 y hy]
   (clear h h1 hy;lia)
  (clear h h1;lia)
end O
namespace O
noncomputable abbrev one:O:=c z 1 z
theorem NF.one:NF one:=⟨trivial,by lia,trivial,trivial⟩
theorem one_le_ne {f:O} (hf:NF f) (h:f≠z):cmp one f<=0:=by
 have:=zG (a:=z) trivial hf (wc h);rw[tJ] at this;exact this
theorem tN {e x y:O} (he:NF e) (hx:NF x) (hy:NF y) (h1:cmp e x<=0) (h2:cmp e y<=0) (h:cmp y x<0):cmp (minusO y e) (minusO x e)<0:=by
 have p1:=fZ hx he h1;have p2:=fZ hy he h2;have:=i8 he (hy.minus h2) (hx.minus h1);rw[p1,p2] at this
 (clear h1 h2;lia)
noncomputable def Lm:O->Prop
 | z=>True
 | c f _ t=>f≠z/\Lm t
theorem Lm.filt:∀(b:O),Lm (O.filt (λy _=>decide (¬y=z)) b)
 | z=>trivial
 | c f d t=>by
   rw[filt_c];split
   ·rename_i h;exact⟨by simpa using h,Lm.filt t⟩
   ·exact Lm.filt t
noncomputable def decr:O->O
 | z=>z
 | c f d t=>c (minusO f one) d (decr t)
theorem pN {f:O} (hf:NF f) (h0:f≠z):∀{t:O},NF t->Lm t->Lt f t->Lt (minusO f one) (decr t)
 | z,_,_,_=>trivial
 | c g d t,ht,hl,h=>⟨tN NF.one hf ht.1 (one_le_ne hf h0) (one_le_ne ht.1 hl.1) h.1,pN hf h0 ht.2.2.2 hl.2 h.2⟩
theorem NF.decr:∀{t:O},NF t->Lm t->NF (O.decr t)
 | z,_,_=>trivial
 | c f d t,ht,hl=>⟨ht.1.minus (one_le_ne ht.1 hl.1),ht.2.1,pN ht.1 hl.1 ht.2.2.2 hl.2 ht.2.2.1,NF.decr ht.2.2.2 hl.2⟩
noncomputable def npow (a:O):Nat->O
 | 0=>one
 | n+1=>timesO (npow a n) a
theorem NF.npow {a:O} (ha:NF a):∀n:Nat,NF (O.npow a n)
 | 0=>NF.one
 | n+1=>(NF.npow ha n).times ha
noncomputable def endP (e L:O):O:=if e=z then c (decr L) 1 z else c (timesO e L) 1 z
noncomputable abbrev lim (b:O):O:=filt (λy _=>decide (¬y=z)) b
noncomputable def BK (a e b:O):O:=timesO (endP e (lim b)) (npow a (same z b).toNat)
noncomputable def D7 (a b:O):O:=
 if b=z then one else if a=one then a else match a with
 | z=>z
 | c e n z=>if e=z then BK (c e n z) e b else c (timesO e b) (if 0<same z b then n else 1) z
 | c e n r=>BK (c e n r) e b
theorem NF.endP {e L:O} (he:NF e) (hL:NF L) (hl:Lm L):NF (O.endP e L):=by
 unfold O.endP;split
 ·exact⟨hL.decr hl,by lia,trivial,trivial⟩
 ·exact⟨he.times hL,by lia,trivial,trivial⟩
theorem jP:∀t:O,(decr t).dp<=t.dp/\hw (decr t)<=hw t/\(decr t).len=t.len
 | z=>⟨ycx _,ycx _,rfl⟩
 | c f d t=>by
   have h:=jP t;have h1:=mE f one;have h2:=mF f one;simp only[decr,dp,len];rw[hw_c,hw_c];lia
theorem zH:hw one=1:=rfl
theorem npow_hw (a:O):∀n:Nat,hw (npow a n)<=1+n*hw a
 | 0=>by show hw one<=_;rw[zH];lia
 | n+1=>by
   have h1:=npow_hw a n;have h2:=hw_times (npow a n) a;have e1:(n+1)*hw a=n*hw a+hw a:=by rw[Nat.add_mul,Nat.one_mul]
   show hw (timesO (npow a n) a)<=_;lia
theorem npow_dp (a:O):∀n:Nat,(npow a n).dp<=max 1 a.dp
 | 0=>by show(1:Nat)<=_;lia
 | n+1=>by
   have h1:=npow_dp a n;have h2:=dp_times (npow a n) a;show(timesO (npow a n) a).dp<=_;lia
theorem mI {a b:O} (ha:NF a) (hb:NF b):mx (timesO a b)<=(mx a+1)*(mx b+1):=by
 cases a with
 | z=>
   have:=mx_nonneg b;show(0:Int)<=(0+1)*(mx b+1);lia
 | c e n r=>exact tM ha hb
theorem npow_mx {a:O} {A:Int} (ha:NF a) (hA:mx a<=A):∀n:Nat,mx (npow a n)+1<=2*(A+2)^n
 | 0=>by rw[Int.pow_zero];show mx (c z 1 z)+1<=2*1;decide
 | n+1=>by
   have h1:=npow_mx ha hA n;have h2:=mI (NF.npow ha n) ha;have m0:=mx_nonneg a;have m1:=mx_nonneg (npow a n);show mx (timesO (npow a n) a)+1<=_;have h3:(mx (npow a n)+1)*(mx a+1)+1<=(mx (npow a n)+1)*(A+2):=by
    have e1:(mx (npow a n)+1)*(A+2)=(mx (npow a n)+1)*(A+1)+(mx (npow a n)+1):=by
     rw[show A+2=(A+1)+1 by (clear hA h1 h2 m0 m1;lia),Int.mul_add,Int.mul_one]
    have e2:(mx (npow a n)+1)*(mx a+1)<=(mx (npow a n)+1)*(A+1):=Int.mul_le_mul_of_nonneg_left (by (clear h1 h2 m0 m1 e1;lia)) (by (clear hA h1 h2 m0;lia))
    (clear hA h1 h2 m0;lia)
   have h4:(mx (npow a n)+1)*(A+2)<=2*(A+2)^n*(A+2):=Int.mul_le_mul_of_nonneg_right h1 (by (clear h1 h2 m1 h3;lia));have e3:2*(A+2)^ (n+1)=2*(A+2)^n*(A+2):=by rw[Int.pow_succ,Int.mul_assoc]
   (clear hA h1 m0 m1;lia)
theorem ro {f:O} (h:NF f) (h0:f≠z):minusO f one=match f with | z=>z | c e n r=>if e=z then (if n=1 then r else c e (n-1) r) else c e n r:=by
 cases f with
 | z=>exact absurd rfl h0
 | c e n r=>
   show minusO (c e n r) (c z 1 z)=_;rw[minusO];simp only
   by_cases k:e=z
   ·rw[ycv k,ycv k]
    by_cases k2:n=1
    ·rw[ycv k2,ycv k2,eV]
    ·rw[ycw k2,ycw k2]
   ·rw[ycw k,ycw k]
theorem ipow_mono {B:Int} (h:1<=B) {n:Nat}:∀k:Nat,B^n<=B^ (n+k)
 | 0=>Int.le_refl _
 | k+1=>by
   have h1:=ipow_mono h (n:=n) k;have h2:0<=B^ (n+k):=Int.pow_nonneg (by (clear h1;lia));have h3:B^ (n+k)*1<=B^ (n+k)*B:=Int.mul_le_mul_of_nonneg_left h h2;rw[show n+(k+1)=n+k+1 by (clear h h1 h2 h3;lia),Int.pow_succ]
   (clear h h2;lia)
theorem kR {f:O} (h:NF f) (h0:f≠z):mx (minusO f one)<=mx f:=by
 rw[ro h h0];cases f with
 | z=>exact absurd rfl h0
 | c e n r=>
   have:=h.2.1;simp only;split
   ·split
    ·rw[mx_c];(clear this;lia)
    ·rw[mx_c,mx_c];(clear this;lia)
   ·exact Int.le_refl _
theorem pO:∀{t:O},NF t->Lm t->mx (decr t)<=mx t
 | z,_,_=>Int.le_refl _
 | c f d t,ht,hl=>by
   have h1:=pO ht.2.2.2 hl.2;have h2:=kR ht.1 hl.1;show mx (c (minusO f one) d (decr t))<=_;rw[mx_c,mx_c];lia
theorem endP_more {e L:O} (he:NF e) (hL:NF L) (hl:Lm L):(endP e L).dp<=1+max e.dp L.dp/\hw (endP e L)<=1+hw e+hw L/\mx (endP e L)<=(mx e+1)*(mx L+1):=by
 have h1:=jP L;have h2:=pO hL hl;have h3:=dp_times e L;have h4:=hw_times e L;have h5:=mI he hL;have m0:=mx_nonneg e;have m1:=mx_nonneg L;have h6:(mx L+1)<=(mx e+1)*(mx L+1):=by
  have:1*(mx L+1)<=(mx e+1)*(mx L+1):=Int.mul_le_mul_of_nonneg_right (by (clear h1 h2 h3 h4 h5 m1;lia)) (by (clear h1 h2 h3 h4 h5 m0;lia))
  (clear h1 h2 h3 h4 h5 m0 m1;lia)
 unfold endP;split
 ·simp only[dp];rw[hw_c,mx_c];simp only[hw,len,mx]
  (clear h3 h5 m0;lia)
 ·simp only[dp];rw[hw_c,mx_c];simp only[hw,len,mx]
  (clear h1 h2 m0;lia)
end O
namespace O
section
variable {x:O} {n m:Int}
end
end O
namespace O
noncomputable abbrev w1:O:=c one 1 z
end O
namespace O
end O
namespace O
noncomputable def ot:O->Int
 | z=>0
 | c _ n r=>max n (ot r)
theorem ot_c (e:O) (n:Int) (r:O):ot (c e n r)=max n (ot r):=rfl
end O
namespace O
end O
namespace O
noncomputable def val (b:Nat):O->Nat
 | z=>0
 | c e n r=>n.toNat*b^val b e+val b r
structure Wr (b:Nat) (a:O):Prop where
 nf:NF a
 mx:O.mx a<b
end O
namespace O
noncomputable def tp (b:Nat):O->Nat
 | z=>0
 | c e _ _=>val b e+1
end O
namespace O
open Classical in
noncomputable def rep (b s:Nat):O:=if h:∃o,Wr b o/\val b o=s then choose h else z
noncomputable def tl (b:Nat):Nat->O
 | 0=>z
 | s+1=>c (rep b s) ((b:Int)-1) (tl b s)
noncomputable def dn (b:Nat) (a:O):O:=app (jO a) (tl b (val b (ip a)))
end O
open O
mutual
inductive Rw (α:Type) where
 | set (b:α) (n:Int)
 | copy (b o:α)
 | add (b o:α)
 | less (b:α)
 | times (b:α) (rs:rp α)
 | count (rs:rp α) (n:Int)
inductive rp (α:Type) where
 | nil
 | cons (r:Rw α) (rs:rp α)
end
noncomputable def om:O:= .c (O.wh 1) 1 .z
section
variable {α:Type}
mutual
noncomputable def Rw.wt:Rw α->O
 | .times _ rs=>O.timesO (O.plusO rs.wt (O.wh 1)) om
 | .count rs n=>O.plusO (O.timesO (O.plusO rs.wt (O.wh 1)) (O.wh n)) (O.wh 1)
 | _=>O.wh 1
noncomputable def rp.wt:rp α->O
 | .nil=> .z
 | .cons r rs=>O.plusO rs.wt r.wt
end
mutual
noncomputable def Rw.hb:Rw α->Nat
 | .times _ rs=>rs.hb+2
 | .count rs _=>rs.hb+3
 | _=>1
noncomputable def rp.hb:rp α->Nat
 | .nil=>0
 | .cons r rs=>rs.hb+r.hb
end
mutual
noncomputable def Rw.mb:Rw α->Nat
 | .times _ rs=>(rs.mb+2)*2
 | .count rs n=>(rs.mb+2)*(n.toNat+1)+1
 | _=>1
noncomputable def rp.mb:rp α->Nat
 | .nil=>0
 | .cons r rs=>rs.mb+r.mb
end
mutual
noncomputable def Rw.lb:Rw α->Nat
 | .count rs _=>rs.lb+2
 | _=>1
noncomputable def rp.lb:rp α->Nat
 | .nil=>0
 | .cons r rs=>rs.lb+r.lb
end
mutual
noncomputable def Rw.nn:Rw α->Prop
 | .times _ rs=>rs.nn
 | .count rs n=>rs.nn/\0<=n
 | _=>True
noncomputable def rp.nn:rp α->Prop
 | .nil=>True
 | .cons r rs=>r.nn/\rs.nn
end
structure Wb (o:O) (h m l:Nat):Prop where
 nf:o.NF
 dp:o.dp<=3
 hw:O.hw o<=h
 mx:O.mx o<=m
 ln:o.len<=l
end
inductive cA where
 | num (a:O)
 | nam (l:List Nat)
 | op (y:Nat)
deriving DecidableEq
noncomputable def bY (y:Nat):Bool:=decide (48<=y/\y<=57)
noncomputable def cq (y:Nat):Bool:=decide (97<=y/\y<=122)
noncomputable def dJ (y:Nat):Bool:=bY y||cq y
noncomputable def bM:List Nat->List Nat
 | []=>[]
 | y::l=>if dJ y then y::bM l else []
noncomputable def mJ:List Nat->List Nat
 | []=>[]
 | y::l=>if dJ y then mJ l else y::l
theorem eW:∀l,bM l++mJ l=l
 | []=>rfl
 | y::l=>by
   unfold bM mJ;split
   ·show y::(bM l++mJ l)=_;rw[eW l]
   ·rfl
noncomputable def tO (l:List Nat):Nat:=l.foldl (λa y=>a*10+(y-48)) 0
noncomputable def cj (l:List Nat):Bool:=decide (1<=l.length/\l.length<=60)&&l.all bY&&(decide (l=[48])||decide (l.head?≠some 48))
noncomputable def dZ (l:List Nat):Bool:=decide (1<=l.length/\l.length<=8)&&decide (l≠[119])&&l.all cq
noncomputable def jQ (l:List Nat):Option cA:=
 if l=[119] then some (.num om) else if cj l then some (.num (O.wh (tO l))) else if dZ l then some (.nam l) else none
noncomputable abbrev Rd:=Option (List cA×List Nat)
noncomputable def aZ (rd:List Nat->Rd):List Nat->Rd
 | 40::l=>match rd l with
   | some (s,41::r)=>some (s,r)
   | _=>none
 | l=>match jQ (bM l) with
   | some x=>some ([x],mJ l)
   | none=>none
noncomputable def bU (rd:List Nat->Rd) (l:List Nat):Rd:=
 match aZ rd l with
 | some (s,94::r)=>match aZ rd r with
   | some (s2,r2)=>some (s++s2++[.op 94],r2)
   | none=>none
 | x=>x
noncomputable def bF (one:List Nat->Rd) (y:Nat):Nat->List cA->List Nat->Rd
 | 0,s,l=>some (s,l)
 | n+1,s,l=>if l.head?=some y then match one l.tail with
    | some (s2,r)=>bF one y n (s++s2++[.op y]) r
    | none=>none
   else some (s,l)
noncomputable def cJ (rd:List Nat->Rd) (l:List Nat):Rd:=
 match bU rd l with
 | some (s,r)=>bF (bU rd) 42 r.length s r
 | none=>none
noncomputable def cZ (rd:List Nat->Rd) (l:List Nat):Rd:=
 match cJ rd l with
 | some (s,r)=>bF (cJ rd) 43 r.length s r
 | none=>none
noncomputable def dc:Nat->List Nat->Rd
 | 0=>cZ λ_=>none
 | d+1=>cZ (dc d)
noncomputable def d0 (l:List Nat):Option (List cA):=
 match dc 20 l with
 | some (s,[])=>some s
 | _=>none
structure D8 (fg:Nat->List Nat):Prop where
 ok:∀m,m<10^60->cj (fg m)=true
 val:∀m,tO (fg m)=m
noncomputable def BL (e:O):Bool:=match e with
 | z=>true
 | c z _ z=>true
 | _=>false
section
variable (fg:Nat->List Nat)
noncomputable def rq (e:O) (te:List Nat):List Nat:=
 if e=c z 1 z then [119] else if BL e=true∨e=om then 119::94::te else 119::94::40::(te++[41])
noncomputable def gf (e:O) (n:Int) (te:List Nat):List Nat:=
 if e=z then fg n.toNat else if n=1 then rq e te else rq e te++42::fg n.toNat
noncomputable def dL:O->List Nat
 | z=>[48]
 | c e n r=>gf fg e n (dL e)++(match r with | z=>[] | c _ _ _=>43::dL r)
end
noncomputable def BM (e:O) (se:List cA):List cA:=if e=c z 1 z then [.num om] else .num om::(se++[.op 94])
noncomputable def BN (e:O) (n:Int) (se:List cA):List cA:=
 if e=z then [.num (wh n)] else if n=1 then BM e se else BM e se++[.num (wh n),.op 42]
mutual
noncomputable def D9:O->List cA
 | z=>[.num z]
 | c e n r=>BN e n (D9 e)++Ea r
noncomputable def Ea:O->List cA
 | z=>[]
 | c e n r=>BN e n (D9 e)++ .op 43::Ea r
end
noncomputable def Eb:O->Nat
 | z=>0
 | c e _ r=>max (if BL e=true∨e=om then 0 else Eb e+1) (Eb r)
noncomputable def Nx (cs:List Nat) (l:List Nat):Prop:=∀x,l.head?=some x->dJ x=false/\x∉cs
noncomputable def Tm:O->Prop
 | z=>True
 | c e n r=>Tm e/\(1<=n/\n<10^60)/\Tm r
section
variable {fg:Nat->List Nat}
noncomputable def fh (fg:Nat->List Nat):O->List Nat
 | z=>[]
 | c e n r=>43::dL fg (c e n r)
theorem pP (e:O) (n:Int) (r:O):dL fg (c e n r)=gf fg e n (dL fg e)++fh fg r:=by
 cases r<;> rfl
noncomputable def bw:Nat->List Nat->Rd
 | 0=>λ_=>none
 | d+1=>dc d
theorem eF (d:Nat):dc d=cZ (bw d):=by cases d<;> rfl
noncomputable def TT (fg:Nat->List Nat) (r:O):Prop:=∀(d k:Nat) (s:List cA) (rest:List Nat),Eb r<=d->Tm r->Nx [42,43,94] rest->(fh fg r++rest).length<=k->bF (cJ (bw d)) 43 k s (fh fg r++rest)=some (s++Ea r,rest)
end
noncomputable def zI (a:O):Prop:=size a<=400/\mx a<10^100/\dp a<=30
noncomputable instance (a:O):Decidable (zI a):=by unfold zI;infer_instance
noncomputable def x4 (x:Nat) (a b:O):O:=if x=43 then plusO a b else if x=42 then timesO a b else D7 a b
noncomputable def we:List cA->List O->Option (List O)
 | [],st=>some st
 | .num a::s,st=>we s (a::st)
 | .op x::s,b::a::st=>if zI (x4 x a b)/\(x=94->a=om) then we s (x4 x a b::st) else none
 | _,_=>none
noncomputable def RR (a:O):Prop:=NF a->zI a->∀(s:List cA) (st:List O),we (D9 a++s) st=we s (a::st)
section
variable {fg:Nat->List Nat}
end
noncomputable def gP (l r:List Nat):Prop:=∃p,l=p++r
theorem gP.refl (l:List Nat):gP l l:=⟨[],rfl⟩
theorem gP.trans {l m r:List Nat} (h:gP l m) (g:gP m r):gP l r:=by
 obtain⟨p,rfl⟩:=h;obtain⟨q,rfl⟩:=g;exact⟨p++q,by rw[append_assoc]⟩
theorem gP.cons (x:Nat) (l:List Nat):gP (x::l) l:=⟨[x],rfl⟩
theorem gP.len {l r:List Nat} (h:gP l r):r.length<=l.length:=by
 obtain⟨p,rfl⟩:=h;rw[length_append];lia
theorem gP.drop {l r:List Nat} (h:gP l r):l.drop (l.length-r.length)=r:=by
 obtain⟨p,rfl⟩:=h;rw[length_append,Nat.add_sub_cancel];simp
noncomputable def pQ (f:List Nat->Rd):Prop:=∀l s r,f l=some (s,r)->gP l r/\s.length+r.length<=l.length
theorem wf (l:List Nat):gP l (mJ l):=⟨bM l,(eW l).symm⟩
theorem tP {l:List Nat} {x:cA} (h:jQ l=some x):1<=l.length:=by
 cases l with
 | nil=>simp[jQ,cj,dZ] at h
 | cons y l=>simp
theorem jR {rd:List Nat->Rd} (h:pQ rd):pQ (aZ rd):=λl s r e=>by
 unfold aZ at e;split at e
 ·rename_i l';split at e
  ·rename_i s' r' e';cases e;obtain⟨h1,h2⟩:=h _ _ _ e';refine⟨(gP.cons 40 l').trans (h1.trans (gP.cons 41 r)),?_⟩;rw[length_cons] at h2 ⊢;lia
  ·cases e
 ·split at e
  ·rename_i x e';cases e;refine⟨wf l,?_⟩;have h1:=tP e';have h2:=congrArg List.length (eW l);rw[length_append] at h2;simp only[length_cons,length_nil];lia
  ·cases e
theorem iC {rd:List Nat->Rd} (h:pQ rd):pQ (bU rd):=λl s r e=>by
 have ht:=jR h;unfold bU at e;split at e
 ·rename_i s1 r1 e1;obtain⟨a1,a2⟩:=ht _ _ _ e1;split at e
  ·rename_i s2 r2 e2;cases e;obtain⟨b1,b2⟩:=ht _ _ _ e2;refine⟨a1.trans ((gP.cons 94 r1).trans b1),?_⟩;rw[length_cons] at a2;simp only[length_append,length_cons,length_nil];lia
  ·cases e
 ·exact ht _ _ _ e
theorem i9 {one:List Nat->Rd} (h:pQ one) (x:Nat):∀(k:Nat) (s0:List cA) (l:List Nat) (s:List cA) (r:List Nat),bF one x k s0 l=some (s,r)->gP l r/\s.length+r.length<=s0.length+l.length
 | 0,s0,l,s,r,e=>by cases e;exact⟨gP.refl _,ycx _⟩
 | k+1,s0,l,s,r,e=>by
   unfold bF at e;split at e
   ·rename_i hx;split at e
    ·rename_i s2 r2 e2;obtain⟨a1,a2⟩:=h _ _ _ e2;obtain⟨b1,b2⟩:=i9 h x k _ _ _ _ e;cases l with
     | nil=>cases hx
     | cons y l=>
       refine⟨(gP.cons y l).trans (a1.trans b1),?_⟩;simp only[length_append,length_cons,length_nil,List.tail_cons] at a2 b2 ⊢;lia
    ·cases e
   ·cases e;exact⟨gP.refl _,ycx _⟩
theorem gE {rd:List Nat->Rd} (h:pQ rd):pQ (cJ rd):=λl s r e=>by
 unfold cJ at e;split at e
 ·rename_i s1 r1 e1;obtain⟨a1,a2⟩:=iC h _ _ _ e1;obtain⟨b1,b2⟩:=i9 (iC h) 42 _ _ _ _ _ e;exact⟨a1.trans b1,ycy b2 a2⟩
 ·cases e
theorem rA {rd:List Nat->Rd} (h:pQ rd):pQ (cZ rd):=λl s r e=>by
 unfold cZ at e;split at e
 ·rename_i s1 r1 e1;obtain⟨a1,a2⟩:=gE h _ _ _ e1;obtain⟨b1,b2⟩:=i9 (gE h) 43 _ _ _ _ _ e;exact⟨a1.trans b1,ycy b2 a2⟩
 ·cases e
theorem cV:∀d,pQ (bw d)
 | 0=>λ_ _ _ e=>by cases e
 | d+1=>by
   show pQ (dc d);rw[eF];exact rA (cV d)
noncomputable def mK:cA->Prop
 | .num a=>a.NF/\zI a
 | .nam l=>dZ l=true
 | .op x=>x=43∨x=42∨x=94
noncomputable def tQ (f:List Nat->Rd):Prop:=∀l s r,f l=some (s,r)->∀x,x∈s->mK x
theorem pR:∀(l:List Nat) (a:Nat),l.all bY=true->l.foldl (λa c=>a*10+(c-48)) a<(a+1)*10^l.length
 | [],a,_=>by simp
 | x::l,a,h=>by
   rw[all_cons,Bool.and_eq_true] at h;have hx:x<=57:=(of_decide_eq_true h.1).2;have:=pR l (a*10+(x-48)) h.2;rw[foldl_cons,length_cons];refine ydw this ?_;rw[Nat.pow_succ,Nat.mul_comm (10^l.length) 10,←Nat.mul_assoc];exact Nat.mul_le_mul_right _ (by (clear this;lia))
theorem zJ {n:Int} (h0:0<=n) (h1:n<10^100):(wh n).NF/\zI (wh n):=by
 by_cases hz:n=0
 ·subst hz;exact⟨trivial,by decide⟩
 ·have e:wh n=c z n z:=ycw hz;rw[e];refine⟨⟨trivial,by lia,trivial,trivial⟩,show 1+0+0<=400 by decide,?_,show max (0+1) 0<=30 by decide⟩;rw[mx_c];simp only[mx]
  (clear hz;lia)
theorem tR {l:List Nat} {x:cA} (h:jQ l=some x):mK x:=by
 unfold jQ at h;split at h
 ·cases h;exact⟨⟨⟨trivial,by decide,trivial,trivial⟩,by decide,trivial,trivial⟩,by decide⟩
 ·split at h
  ·rename_i hf;cases h;refine zJ (Int.natCast_nonneg _) ?_;unfold cj at hf;simp only[Bool.and_eq_true,decide_eq_true_eq] at hf;have h1:=pR l 0 hf.1.2;have h2:(0+1)*10^l.length<=10^60:=by rw[Nat.zero_add,Nat.one_mul];exact Nat.pow_le_pow_right (by decide) hf.1.1.2
   have h3:tO l<10^60:=ydw h1 h2;have h4:((tO l:Nat):Int)<((10^60:Nat):Int):=Int.ofNat_lt.mpr h3;exact Int.lt_of_lt_of_le h4 (by decide)
  ·split at h
   ·rename_i hn;cases h;exact hn
   ·cases h
theorem rB {rd:List Nat->Rd} (h:tQ rd):tQ (aZ rd):=λl s r e x hx=>by
 unfold aZ at e;split at e
 ·split at e
  ·rename_i s' r' e';cases e;exact h _ _ _ e' x hx
  ·cases e
 ·split at e
  ·rename_i y e';cases e;rw[mem_singleton.mp hx];exact tR e'
  ·cases e
theorem pS {rd:List Nat->Rd} (h:tQ rd):tQ (bU rd):=λl s r e x hx=>by
 have ht:=rB h;unfold bU at e;split at e
 ·rename_i s1 r1 e1;split at e
  ·rename_i s2 r2 e2;cases e;rcases mem_append.mp hx with hx | hx
   ·rcases mem_append.mp hx with hx | hx
    ·exact ht _ _ _ e1 x hx
    ·exact ht _ _ _ e2 x hx
   ·rw[mem_singleton.mp hx];exact Or.inr (.inr rfl)
  ·cases e
 ·exact ht _ _ _ e x hx
theorem ja {one:List Nat->Rd} (h:tQ one) {y:Nat} (hy:mK (.op y)):∀(k:Nat) (s0:List cA) (l:List Nat) (s:List cA) (r:List Nat),bF one y k s0 l=some (s,r)->(∀x,x∈s0->mK x)->∀x,x∈s->mK x
 | 0,s0,l,s,r,e,h0=>by cases e;exact h0
 | k+1,s0,l,s,r,e,h0=>by
   unfold bF at e;split at e
   ·split at e
    ·rename_i s2 r2 e2;refine ja h hy k _ _ _ _ e λx hx=>?_;rcases mem_append.mp hx with hx | hx
     ·rcases mem_append.mp hx with hx | hx
      ·exact h0 x hx
      ·exact h _ _ _ e2 x hx
     ·rw[mem_singleton.mp hx];exact hy
    ·cases e
   ·cases e;exact h0
theorem mM {rd:List Nat->Rd} (h:tQ rd):tQ (cJ rd):=λl s r e=>by
 unfold cJ at e;split at e
 ·rename_i s1 r1 e1;exact ja (pS h) (Or.inr (.inl rfl)) _ _ _ _ _ e (pS h _ _ _ e1)
 ·cases e
theorem rC {rd:List Nat->Rd} (h:tQ rd):tQ (cZ rd):=λl s r e=>by
 unfold cZ at e;split at e
 ·rename_i s1 r1 e1;exact ja (mM h) (Or.inl rfl) _ _ _ _ _ e (mM h _ _ _ e1)
 ·cases e
theorem jS:∀d,tQ (bw d)
 | 0=>λ_ _ _ e=>by cases e
 | d+1=>by
   show tQ (dc d);rw[eF];exact rC (jS d)
theorem wg {l:List Nat} {s:List cA} (h:d0 l=some s):∀x,x∈s->mK x:=by
 unfold d0 at h;split at h
 ·rename_i s' e;cases h;exact jS 21 _ _ _ e
 ·cases h
noncomputable def iD (nm:List Nat->Option O):List cA->Option (List cA)
 | []=>some []
 | .nam l::s=>match nm l with
   | some b=>(iD nm s).map (.num b:: ·)
   | none=>none
 | x::s=>(iD nm s).map (x:: ·)
noncomputable def mO (a:O):Prop:=a.NF/\a.size<=12/\mx a<=10^52
section
variable {fg:Nat->List Nat} (F:D8 fg) {a b:O}
end
noncomputable def fo:List cA->List (List Nat)
 | []=>[]
 | .nam l::s=>l::fo s
 | .num _::s=>fo s
 | .op _::s=>fo s
theorem gF:∀s t:List cA,fo (s++t)=fo s++fo t
 | [],_=>rfl
 | .nam l::s,t=>by show l::fo (s++t)=l::fo s++fo t;rw[gF s t];rfl
 | .num _::s,t=>gF s t
 | .op _::s,t=>gF s t
noncomputable def bP (p:Nat->Bool):List Nat->Nat
 | []=>0
 | cc::l=>if p cc then bP p l+1 else 0
noncomputable def de (l:List Nat):Option Nat:=
 if 0<bP cq l/\bP cq l<=8 then some (bP cq l)
 else if 0<bP bY l/\bP bY l<=60/\(l.head?≠some 48∨bP bY l=1) then some (bP bY l)
 else none
noncomputable def iw (l:List Nat) (f:List (List Nat)):List (List Nat):=if l.head?.any cq=true/\l≠[119] then l::f else f
noncomputable def cL:Nat->Bool->List Bool->Bool->List Nat->Option (List (List Nat))
 | _,w,ab,_,[]=>if w=true∨ab≠[] then none else some []
 | 0,_,_,_,_::_=>none
 | n+1,w,ab,x,cc::l=>
   if cc=40 then (if w=true/\ab.length<20 then cL n true (x::ab) false l else none)
   else if w=true then match de (cc::l) with
    | some k=>(cL n false ab x ((cc::l).drop k)).map (iw ((cc::l).take k))
    | none=>none
   else if cc=41 then match ab with
    | y::ab=>cL n false ab y l
    | []=>none
   else if cc=94 then (if x=true then none else cL n true ab true l)
   else if cc=43∨cc=42 then cL n true ab false l
   else none
theorem hW {l:List Nat} (h:de l=some k):1<=k:=by
 unfold de at h;split at h
 ·cases h;lia
 ·split at h
  ·cases h;lia
  ·cases h
theorem jT:∀(n m:Nat) (w:Bool) (ab:List Bool) (x:Bool) (l:List Nat),l.length<=n->l.length<=m->cL n w ab x l=cL m w ab x l
 | 0,m,w,ab,x,[],_,_=>by cases m<;> rfl
 | n+1,m,w,ab,x,[],_,_=>by cases m<;> rfl
 | 0,m,w,ab,x,cc::l,h,_=>by simp at h
 | n+1,0,w,ab,x,cc::l,_,h=>by simp at h
 | n+1,m+1,w,ab,x,cc::l,h1,h2=>by
   rw[length_cons] at h1 h2;have ih:=λw ab x (l':List Nat) (hl:l'.length<=l.length)=>jT n m w ab x l' (by (clear h2;lia)) (by (clear h1;lia));unfold cL;rw[ih true (x::ab) false l (ycx _),ih true ab true l (ycx _),ih true ab false l (ycx _)];have e2:∀ab:List Bool,(match ab with | y::ab=>cL n false ab y l | []=>none)=(match ab with | y::ab=>cL m false ab y l | []=>none):=λab=>by
    cases ab with
    | nil=>rfl
    | cons y ab=>exact ih false ab y l (ycx _)
   have e1:(match de (cc::l) with | some k=>(cL n false ab x ((cc::l).drop k)).map (iw ((cc::l).take k)) | none=>none)=(match de (cc::l) with | some k=>(cL m false ab x ((cc::l).drop k)).map (iw ((cc::l).take k)) | none=>none):=by
    cases e:de (cc::l) with
    | none=>rfl
    | some k=>
      have:=hW e;show(cL n false ab x ((cc::l).drop k)).map _=(cL m false ab x ((cc::l).drop k)).map _;rw[ih false ab x ((cc::l).drop k) (by rw[length_drop,length_cons];(clear h1 h2;lia))]
   rw[e1,e2 ab]
noncomputable def sc (w:Bool) (ab:List Bool) (x:Bool) (l:List Nat):Option (List (List Nat)):=cL l.length w ab x l
theorem pT {ab:List Bool} {x:Bool} {l:List Nat} (h:ab.length<20):sc true ab x (40::l)=sc true (x::ab) false l:=by
 unfold sc;rw[length_cons]
 conv=>lhs;unfold cL
 rw[ycv rfl,ycv ⟨rfl,h⟩]
theorem pU {ab:List Bool} {x:Bool} {l:List Nat} (h:¬ab.length<20):sc true ab x (40::l)=none:=by
 unfold sc;rw[length_cons]
 conv=>lhs;unfold cL
 rw[ycv rfl,ycw (λz=>h z.2)]
theorem iE {ab:List Bool} {x:Bool} {cc:Nat} {l:List Nat} (hc:cc≠40):sc true ab x (cc::l)=match de (cc::l) with | some k=>(sc false ab x ((cc::l).drop k)).map (iw ((cc::l).take k)) | none=>none:=by
 unfold sc;rw[length_cons]
 conv=>lhs;unfold cL
 rw[ycw hc,ycv rfl];cases e:de (cc::l) with
 | none=>rfl
 | some k=>
   have:=hW e;show(cL l.length false ab x ((cc::l).drop k)).map _=(cL ((cc::l).drop k).length false ab x ((cc::l).drop k)).map _;rw[jT l.length _ false ab x ((cc::l).drop k) (by rw[length_drop,length_cons];(clear hc;lia)) (ycx _)]
theorem mP {y:Bool} {ab:List Bool} {x:Bool} {l:List Nat}:sc false (y::ab) x (41::l)=sc false ab y l:=by
 unfold sc;rw[length_cons]
 conv=>lhs;unfold cL
 rw[ycw (by decide),ycw (by decide),ycv rfl]
theorem tS {ab:List Bool} {l:List Nat}:sc false ab false (94::l)=sc true ab true l:=by
 unfold sc;rw[length_cons]
 conv=>lhs;unfold cL
 rw[ycw (by decide),ycw (by decide),ycw (by decide),ycv rfl,ycw (by decide)]
theorem pV {ab:List Bool} {x:Bool} {cc:Nat} {l:List Nat} (hc:cc=43∨cc=42):sc false ab x (cc::l)=sc true ab false l:=by
 unfold sc;rw[length_cons]
 conv=>lhs;unfold cL
 rw[ycw (by lia),ycw (by decide),ycw (by lia),ycw (by lia),ycv hc]
noncomputable def BO (x:Bool) (r:List Nat):Prop:=r.head?≠some 43/\r.head?≠some 42/\(r.head?=some 94->x=true)
theorem mQ {ab:List Bool} {x:Bool} {r:List Nat} (h:BO x r) (hc:r.head?≠some 41∨ab=[]) (hr:r≠[]∨ab≠[]):sc false ab x r=none:=by
 cases r with
 | nil=>
   have:ab≠[]:=hr.elim (λz=>absurd rfl z) id;unfold sc cL;rw[ycv (.inr this)]
 | cons cc l=>
   obtain⟨h1,h2,h3⟩:=h;unfold sc;rw[length_cons];unfold cL
   by_cases c40:cc=40
   ·rw[ycv c40,ycw (by simp)]
   rw[ycw c40,ycw (by decide)]
   by_cases c41:cc=41
   ·rw[ycv c41];rcases hc with hc | hc
    ·exact absurd (congrArg some c41) hc
    ·rw[hc]
   rw[ycw c41]
   by_cases c94:cc=94
   ·rw[ycv c94,ycv (h3 (congrArg some c94))]
   rw[ycw c94,ycw (λz=>z.elim (λz=>h1 (congrArg some z)) λz=>h2 (congrArg some z))]
theorem zK {ab:List Bool} {x:Bool} {cc:Nat} {l:List Nat} (h:dJ cc=true):sc false ab x (cc::l)=none:=by
 have hc:cc≠40/\cc≠41/\cc≠94/\cc≠43/\cc≠42:=by
  refine⟨?_,?_,?_,?_,?_⟩<;> (intro z;subst z;exact absurd h (by decide))
 unfold sc;rw[length_cons];unfold cL;rw[ycw hc.1,ycw (by decide),ycw hc.2.1,ycw hc.2.2.1,ycw (λz=>z.elim hc.2.2.2.1 hc.2.2.2.2)]
theorem jb {p:Nat->Bool} (hp:∀cc,p cc=true->dJ cc=true):∀l:List Nat,bP p l<=(bM l).length/\(bM l).take (bP p l)=l.take (bP p l)/\(l.take (bP p l)).all p=true/\(bP p l<(bM l).length->∃cc m,l.drop (bP p l)=cc::m/\dJ cc=true)/\(bP p l=(bM l).length->l.drop (bP p l)=mJ l)
 | []=>⟨ycx _,rfl,rfl,λh=>absurd h (lt_irrefl _),λ_=>rfl⟩
 | cc::l=>by
   obtain⟨h1,h2,h3,h4,h5⟩:=jb hp l;unfold bP bM mJ
   by_cases hc:p cc=true
   ·rw[ycv hc,ycv (hp cc hc),ycv (hp cc hc)];refine⟨by rw[length_cons];lia,by rw[take_succ_cons,take_succ_cons,h2],?_,λh=>h4 (by rw[length_cons] at h;(clear h1;lia)),λh=>h5 (by rw[length_cons] at h;(clear h1;lia))⟩;rw[take_succ_cons,all_cons,hc,h3]
    rfl
   ·rw[ycw hc];refine⟨zero_le _,rfl,rfl,λh=>⟨cc,l,rfl,?_⟩,λh=>?_⟩
    ·by_cases hw:dJ cc=true
     ·exact hw
     ·rw[ycw hw] at h;exact absurd h (lt_irrefl _)
    ·by_cases hw:dJ cc=true
     ·rw[ycv hw] at h;exact absurd h.symm (by simp)
     ·rw[ycw hw]
      rfl
theorem kS {p:Nat->Bool}:∀{l:List Nat},(bM l).all p=true->(bM l).length<=bP p l
 | [],_=>ycx _
 | cc::l,h=>by
   unfold bM at h ⊢;unfold bP
   by_cases hw:dJ cc=true
   ·rw[ycv hw] at h ⊢;rw[all_cons,Bool.and_eq_true] at h;rw[ycv h.1,length_cons];have:=kS (l:=l) h.2;lia
   ·rw[ycw hw];exact zero_le _
theorem x5 (cc:Nat) (h:bY cc=true):dJ cc=true:=by unfold dJ;rw[h];rfl
theorem x6 (cc:Nat) (h:cq cc=true):dJ cc=true:=by unfold dJ;rw[h];exact Bool.or_true _
theorem pW {cc:Nat} (h:bY cc=true):cq cc=false:=by
 have:48<=cc/\cc<=57:=of_decide_eq_true h;exact ydy (by lia)
theorem oG {l:List Nat} (h:bM l≠[]):(bM l).head?=l.head?:=by
 cases l with
 | nil=>exact absurd rfl h
 | cons cc l=>
   unfold bM at h ⊢;split
   ·rfl
   ·rename_i hc;rw[ycw hc] at h;exact absurd rfl h
theorem rD {L:List Nat} {x:cA} (h:jQ (bM L)=some x):de L=some (bM L).length/\L.take (bM L).length=bM L/\L.drop (bM L).length=mJ L/\∀f,iw (bM L) f=fo [x]++f:=by
 have hne:bM L≠[]:=λz=>by rw[z] at h;cases h
 have hlen:0<(bM L).length:=List.length_pos_iff.mpr hne;have htd:L.take (bM L).length=bM L/\L.drop (bM L).length=mJ L:=by
  have:=eW L;have t1:=List.take_left (l₁:=bM L) (l₂:=mJ L);have t2:=List.drop_left (l₁:=bM L) (l₂:=mJ L);rw[this] at t1 t2;exact⟨t1,t2⟩
 have lets:(bM L).all cq=true->(bM L).length<=8->de L=some (bM L).length:=λha hl=>by
  have h1:=kS ha;have h2:=(jb x6 L).1;have e:bP cq L=(bM L).length:=by (clear hlen hl;lia)
  unfold de;rw[e,ycv ⟨hlen,hl⟩]
 unfold jQ at h
 by_cases hw:bM L=[119]
 ·rw[ycv hw] at h;cases h;refine⟨lets (by rw[hw];rfl) (by rw[hw];decide),htd.1,htd.2,λf=>?_⟩;rw[hw]
  rfl
 rw[ycw hw] at h
 by_cases hf:cj (bM L)=true
 ·rw[ycv hf] at h;cases h;unfold cj at hf;simp only[Bool.and_eq_true,Bool.or_eq_true,decide_eq_true_eq] at hf;obtain⟨⟨⟨f1,f2⟩,f3⟩,f4⟩:=hf;have h1:=kS f3;have h2:=(jb x5 L).1;have e:bP bY L=(bM L).length:=by (clear hlen f1 f2;lia)
  obtain⟨cc,m,ec⟩:∃cc m,bM L=cc::m:=by
   cases e:bM L with
   | nil=>exact absurd e hne
   | cons cc m=>exact⟨cc,m,rfl⟩
  have hc:bY cc=true:=by rw[ec] at f3;simp only[all_cons,Bool.and_eq_true] at f3;exact f3.1
  have hL:L.head?=some cc:=by rw[←oG hne,ec];rfl
  have e0:bP cq L=0:=by
   cases L with
   | nil=>rfl
   | cons y L=>
     cases hL;unfold bP;rw[pW hc]
     rfl
  have hd:L.head?≠some 48∨(bM L).length=1:=by
   rcases f4 with f4 | f4
   ·exact .inr (by rw[f4];rfl)
   ·exact .inl (by rw[←oG hne];exact f4)
  refine⟨?_,htd.1,htd.2,λf=>?_⟩
  ·unfold de;rw[e0,e,ycw (by (clear hlen f1 f2 h1 h2 e e0 hd;lia)),ycv ⟨hlen,f2,hd⟩]
  ·unfold iw;rw[if_neg]
   ·rfl
   ·rintro⟨z,_⟩;rw[ec] at z;have:cq cc=true:=z;rw[pW hc] at this;cases this
 rw[ycw hf] at h
 by_cases hn:dZ (bM L)=true
 ·rw[ycv hn] at h;cases h;unfold dZ at hn;simp only[Bool.and_eq_true,decide_eq_true_eq] at hn;obtain⟨⟨⟨n1,n2⟩,n3⟩,n4⟩:=hn;refine⟨lets n4 n2,htd.1,htd.2,λf=>?_⟩;have hl:(bM L).head?.any cq=true:=by
   cases e:bM L with
   | nil=>exact absurd e hne
   | cons cc m=>
     rw[e] at n4;simp only[all_cons,Bool.and_eq_true] at n4;exact n4.1
  unfold iw;rw[ycv ⟨hl,n3⟩]
  rfl
 ·rw[ycw hn] at h;cases h
theorem tT {ab:List Bool} {x:Bool} {cc:Nat} {l:List Nat} (hc:cc≠40) (h:jQ (bM (cc::l))=none):sc true ab x (cc::l)=none:=by
 rw[iE hc];cases e:de (cc::l) with
 | none=>rfl
 | some k=>
   show(sc false ab x ((cc::l).drop k)).map _=none;have key:k<(bM (cc::l)).length∨k=(bM (cc::l)).length->(k<(bM (cc::l)).length->∃y m,(cc::l).drop k=y::m/\dJ y=true)->k≠(bM (cc::l)).length->(sc false ab x ((cc::l).drop k)).map (iw ((cc::l).take k))=none:=λh1 h2 h3=>by
    obtain⟨y,m,e1,e2⟩:=h2 (h1.resolve_right h3);rw[e1,zK e2]
    rfl
   unfold de at e;split at e
   ·rename_i hk;cases e;obtain⟨h1,h2,h3,h4,h5⟩:=jb x6 (cc::l);refine key (by (clear hc hk;lia)) h4 λz=>?_;have ht:(cc::l).take (bP cq (cc::l))=bM (cc::l):=by rw[←h2,z,take_length]
    rw[ht] at h3;unfold jQ at h;split at h
    ·cases h
    ·rename_i hw;split at h
     ·cases h
     ·rw[if_pos] at h
      ·cases h
      ·unfold dZ;rw[h3,ydz ⟨by (clear hc h1;lia),by (clear hc h1;lia)⟩,ydz hw]
       rfl
   ·split at e
    ·rename_i hk;cases e;obtain⟨h1,h2,h3,h4,h5⟩:=jb x5 (cc::l);refine key (by (clear hc hk;lia)) h4 λz=>?_;have ht:(cc::l).take (bP bY (cc::l))=bM (cc::l):=by rw[←h2,z,take_length]
     rw[ht] at h3;have hne:bM (cc::l)≠[]:=λy=>by rw[y] at z;simp only[length_nil] at z;(clear hc h1;lia)
     unfold jQ at h;split at h
     ·cases h
     ·rw[if_pos] at h
      ·cases h
      ·unfold cj;rw[h3,ydz ⟨by (clear hc h1;lia),by (clear hc h1;lia)⟩];simp only[Bool.true_and,Bool.or_eq_true,decide_eq_true_eq];rcases hk.2.2 with q | q
       ·right
        rw[oG hne];exact q
       ·by_cases q0:(bM (cc::l)).head?=some 48
        ·left
         match e:bM (cc::l),q0,z with
         | [y],q0,_=>cases q0;rfl
         | [],_,_=>exact absurd e hne
         | y::y'::m,_,z=>rw[q] at z;simp at z
        ·exact .inr q0
    ·cases e
theorem pX {ab:List Bool} {x:Bool} {m:List Nat}:sc false ab x (40::m)=none:=by
 unfold sc;rw[length_cons];unfold cL;rw[ycv rfl,ycw (by simp)]
theorem BP {ab:List Bool} {x:Bool} {y:Nat} {m:List Nat} (h:¬(y=43∨y=42∨y=94∨y=41)):sc false ab x (y::m)=none:=by
 by_cases h4:y=40
 ·subst h4;exact pX
 ·unfold sc;rw[length_cons];unfold cL;rw[ycw h4,ycw (by decide),ycw (λz=>h (.inr (.inr (.inr z)))),ycw (λz=>h (.inr (.inr (.inl z)))),ycw (λz=>z.elim (λz=>h (.inl z)) λz=>h (.inr (.inl z)))]
theorem wj {z:Bool} {ab:List Bool} {x:Bool}:sc false (z::ab) x []=none:=by
 unfold sc cL;rw[ycv (.inr (by simp))]
theorem oH {x:Bool} {m:List Nat}:sc false [] x (41::m)=none:=by
 unfold sc;rw[length_cons];unfold cL;rw[ycw (by decide),ycw (by decide),ycv rfl]
theorem tU {ab:List Bool} {m:List Nat}:sc false ab true (94::m)=none:=by
 unfold sc;rw[length_cons];unfold cL;rw[ycw (by decide),ycw (by decide),ycw (by decide),ycv rfl,ycv rfl]
theorem tV {l:List Nat} (h:de l=some k):k<=l.length:=by
 have run:∀(p:Nat->Bool) (l:List Nat),bP p l<=l.length:=λp l=>by
  induction l with
  | nil=>exact ycx _
  | cons y l ih=>
    unfold bP;split
    ·rw[length_cons];lia
    ·exact zero_le _
 unfold de at h;split at h
 ·cases h;exact run _ _
 ·split at h
  ·cases h;exact run _ _
  ·cases h
theorem tW {y:Nat} {m:List Nat} {j:Nat} (hj:1<=j) (f:List (List Nat)):iw ((y::m).take j) f=if cq y=true/\(y::m).take j≠[119] then (y::m).take j::f else f:=by
 obtain⟨i,rfl⟩:∃i,j=i+1:=⟨j-1,by lia⟩
 rfl
noncomputable def u0 (ab:List Bool) (x0:Bool) (f:List Nat->Rd) (ok:Bool->List Nat->Prop):Prop:=∀l,
 (∀s r,f l=some (s,r)->∃x',sc true ab x0 l=(sc false ab x' r).map (fo s++ ·)/\ok x' r)/\(f l=none->sc true ab x0 l=none)
theorem tX (ab:List Bool) (x:Bool):sc true ab x []=none:=by
 unfold sc cL;rw[ycv (.inl rfl)]
theorem tY (x:Bool):sc false [] x []=some []:=rfl
theorem pY (s t:List cA) (o:Option (List (List Nat))):(o.map (fo t++ ·)).map (fo s++ ·)=o.map (fo (s++t)++ ·):=by
 cases o with
 | none=>rfl
 | some f=>show some (fo s++(fo t++f))=some (fo (s++t)++f);rw[gF,append_assoc]
theorem tZ (s:List cA) (cc:Nat) (o:Option (List (List Nat))):o.map (fo (s++[.op cc])++ ·)=o.map (fo s++ ·):=by
 rw[gF];show o.map ((fo s++[])++ ·)=_;rw[append_nil]
theorem mS {d:Nat} {ab:List Bool} (hd:ab.length+d=20) (IH:∀e,d=e+1->∀x0,u0 (x0::ab) false (dc e) BO) (x0:Bool):u0 ab x0 (aZ (bw d)) λx' _=>x'=x0:=λl=>by
 cases l with
 | nil=>
   refine⟨λs r h=>?_,λ_=>tX ab x0⟩;have:aZ (bw d) []=none:=rfl;rw[this] at h;cases h
 | cons cc l=>
   by_cases hc:cc=40
   ·subst hc;show(∀s r,(match bw d l with | some (s,41::r)=>some (s,r) | _=>none)=some (s,r)->_)/\((match bw d l with | some (s,41::r)=>some (s,r) | _=>none)=none->_);cases d with
    | zero=>
      refine⟨λs r h=>?_,λ_=>pU (by lia)⟩;cases h
    | succ e=>
      rw[pT (by lia)];obtain⟨h1,h2⟩:=IH e rfl x0 l;show(∀s r,(match dc e l with | some (s,41::r)=>some (s,r) | _=>none)=some (s,r)->_)/\((match dc e l with | some (s,41::r)=>some (s,r) | _=>none)=none->_);cases er:dc e l with
      | none=>exact⟨λs r h=>(by cases h),λ_=>h2 er⟩
      | some p=>
        obtain⟨s,r⟩:=p;obtain⟨x',g1,g2⟩:=h1 s r er
        by_cases hr:r.head?=some 41
        ·obtain⟨r2,rfl⟩:∃r2,r=41::r2:=by
          cases r with
          | nil=>cases hr
          | cons y r2=>cases hr;exact⟨r2,rfl⟩
         refine⟨λs' r' h=>?_,λh=>(by cases h)⟩;cases h;exact⟨x0,by rw[g1,mP],rfl⟩
        ·have hn:sc true (x0::ab) false l=none:=by
          rw[g1,mQ g2 (.inl hr) (.inr (by simp))]
          rfl
         refine⟨λs' r' h=>?_,λ_=>hn⟩;split at h
         ·rename_i e2;cases e2;exact absurd rfl hr
         ·cases h
   ·have e1:aZ (bw d) (cc::l)=match jQ (bM (cc::l)) with | some x=>some ([x],mJ (cc::l)) | none=>none:=by
     unfold aZ;split
     ·rename_i h;cases h;exact absurd rfl hc
     ·rfl
    rw[e1];cases et:jQ (bM (cc::l)) with
    | none=>exact⟨λs r h=>(by cases h),λ_=>tT hc et⟩
    | some x=>
      refine⟨λs r h=>?_,λh=>(by cases h)⟩;cases h;obtain⟨w1,w2,w3,w4⟩:=rD et;refine⟨x0,?_,rfl⟩;rw[iE hc,w1];show(sc false ab x0 ((cc::l).drop (bM (cc::l)).length)).map (iw ((cc::l).take (bM (cc::l)).length))=_;rw[w2,w3]
      congr 1
      funext f
      exact w4 f
noncomputable def Ft (x:Bool) (r:List Nat):Prop:=r.head?=some 94->x=true
noncomputable def Ec (x:Bool) (r:List Nat):Prop:=r.head?≠some 42/\(r.head?=some 94->x=true)
theorem t9 {d:Nat} {ab:List Bool} (T:∀x0,u0 ab x0 (aZ (bw d)) λx' _=>x'=x0):u0 ab false (bU (bw d)) Ft:=λl=>by
 obtain⟨h1,h2⟩:=T false l;cases e:aZ (bw d) l with
 | none=>
   have:bU (bw d) l=none:=by unfold bU;rw[e]
   rw[this];exact⟨λs r h=>(by cases h),λ_=>h2 e⟩
 | some p=>
   obtain⟨s,r⟩:=p;obtain⟨x',g1,rfl⟩:=h1 s r e
   by_cases hr:r.head?=some 94
   ·obtain⟨r2,rfl⟩:∃r2,r=94::r2:=by
     cases r with
     | nil=>cases hr
     | cons y r2=>cases hr;exact⟨r2,rfl⟩
    rw[tS] at g1;obtain⟨k1,k2⟩:=T true r2;cases e2:aZ (bw d) r2 with
    | none=>
      have:bU (bw d) l=none:=by
       unfold bU;rw[e];show(match aZ (bw d) r2 with | some (s2,r2)=>some (s++s2++[cA.op 94],r2) | none=>none)=_;rw[e2]
      rw[this];exact⟨λs r h=>(by cases h),λ_=>by rw[g1,k2 e2];rfl⟩
    | some q=>
      obtain⟨s2,r3⟩:=q;have:bU (bw d) l=some (s++s2++[.op 94],r3):=by
       unfold bU;rw[e];show(match aZ (bw d) r2 with | some (s2,r2)=>some (s++s2++[cA.op 94],r2) | none=>none)=_;rw[e2]
      rw[this];refine⟨λs' r' h=>?_,λh=>(by cases h)⟩;cases h;obtain⟨x2,g2,rfl⟩:=k1 s2 r3 e2;exact⟨true,by rw[g1,g2,pY,tZ],λ_=>rfl⟩
   ·have:bU (bw d) l=some (s,r):=by
     unfold bU;rw[e];split
     ·rename_i h;cases h;exact absurd rfl hr
     ·rfl
    rw[this];refine⟨λs' r' h=>?_,λh=>(by cases h)⟩;cases h;exact⟨false,g1,λz=>absurd z hr⟩
theorem kT {ab:List Bool} {one:List Nat->Rd} {cc:Nat} {ok ok':Bool->List Nat->Prop} (hc:cc=43∨cc=42) (H:u0 ab false one ok) (hlen:pQ one) (hok:∀x r,ok x r->r.head?≠some cc->ok' x r):∀(n:Nat) (s0:List cA) (x:Bool) (r0:List Nat),r0.length<=n->ok x r0->
 (∀s r,bF one cc n s0 r0=some (s,r)->∃x',(sc false ab x r0).map (fo s0++ ·)=(sc false ab x' r).map (fo s++ ·)/\ok' x' r)/\(bF one cc n s0 r0=none->sc false ab x r0=none)
 | 0,s0,x,r0,hn,ho=>by
   have:r0=[]:=List.eq_nil_of_length_eq_zero (by (clear hc;lia));subst this;refine⟨λs r h=>?_,λh=>(by cases h)⟩;cases h;exact⟨x,rfl,hok x [] ho (by simp)⟩
 | n+1,s0,x,r0,hn,ho=>by
   unfold bF
   by_cases hr:r0.head?=some cc
   ·obtain⟨r2,rfl⟩:∃r2,r0=cc::r2:=by
     cases r0 with
     | nil=>cases hr
     | cons y r2=>cases hr;exact⟨r2,rfl⟩
    rw[ycv hr,pV hc];obtain⟨k1,k2⟩:=H r2;show(∀s r,(match one r2 with | some (s2,r)=>bF one cc n (s0++s2++[cA.op cc]) r | none=>none)=some (s,r)->_)/\((match one r2 with | some (s2,r)=>bF one cc n (s0++s2++[cA.op cc]) r | none=>none)=none->_);cases e:one r2 with
    | none=>exact⟨λs r h=>(by cases h),λ_=>k2 e⟩
    | some q=>
      obtain⟨s2,r3⟩:=q;obtain⟨x2,g2,o2⟩:=k1 s2 r3 e;have hl:=(hlen _ _ _ e).1.len;rw[length_cons] at hn;obtain⟨m1,m2⟩:=kT hc H hlen hok n (s0++s2++[.op cc]) x2 r3 (by (clear hc;lia)) o2;refine⟨λs r h=>?_,λh=>?_⟩
      ·obtain⟨x3,g3,o3⟩:=m1 s r h;refine⟨x3,?_,o3⟩;rw[←g3,g2,pY,tZ]
      ·rw[g2,m2 h]
       rfl
   ·rw[ycw hr];refine⟨λs r h=>?_,λh=>(by cases h)⟩;cases h;exact⟨x,rfl,hok x r0 ho hr⟩
theorem pZ {d:Nat} {ab:List Bool} (T:u0 ab false (bU (bw d)) Ft):u0 ab false (cJ (bw d)) Ec:=λl=>by
 obtain⟨h1,h2⟩:=T l;unfold cJ;cases e:bU (bw d) l with
 | none=>exact⟨λs r h=>(by cases h),λ_=>h2 e⟩
 | some p=>
   obtain⟨s,r⟩:=p;obtain⟨x',g1,o1⟩:=h1 s r e;obtain⟨m1,m2⟩:=kT (cc:=42) (ok':=Ec) (.inr rfl) T (iC (cV d)) (λx r h1 h2=>⟨h2,h1⟩) r.length s x' r (ycx _) o1;rw[g1];refine⟨λs2 r2 h=>m1 s2 r2 h,λh=>?_⟩;rw[m2 h]
   rfl
theorem mU {d:Nat} {ab:List Bool} (T:u0 ab false (cJ (bw d)) Ec):u0 ab false (cZ (bw d)) BO:=λl=>by
 obtain⟨h1,h2⟩:=T l;unfold cZ;cases e:cJ (bw d) l with
 | none=>exact⟨λs r h=>(by cases h),λ_=>h2 e⟩
 | some p=>
   obtain⟨s,r⟩:=p;obtain⟨x',g1,o1⟩:=h1 s r e;obtain⟨m1,m2⟩:=kT (cc:=43) (ok':=BO) (.inl rfl) T (gE (cV d)) (λx r h1 h2=>⟨h2,h1.1,h1.2⟩) r.length s x' r (ycx _) o1;rw[g1];refine⟨λs2 r2 h=>m1 s2 r2 h,λh=>?_⟩;rw[m2 h]
   rfl
theorem uc:∀(d:Nat) (ab:List Bool),ab.length+d=20->u0 ab false (dc d) BO
 | 0,ab,h=>by
   rw[eF];exact mU (pZ (t9 (mS h λe z=>by cases z)))
 | d+1,ab,h=>by
   rw[eF];exact mU (pZ (t9 (mS h λe z x0=>by
    cases z;exact uc d (x0::ab) (by rw[length_cons];lia))))
theorem oI (l:List Nat):sc true [] false l=(d0 l).map fo:=by
 obtain⟨h1,h2⟩:=uc 20 [] rfl l;unfold d0;cases e:dc 20 l with
 | none=>exact h2 e
 | some p=>
   obtain⟨s,r⟩:=p;obtain⟨x',g1,o1⟩:=h1 s r e;rw[g1];cases r with
   | nil=>
     rw[tY];show some (fo s++[])=some (fo s);rw[append_nil]
   | cons y r=>
     rw[mQ o1 (.inr rfl) (.inl (by simp))]
     rfl
noncomputable def lH:List cA->Nat->Option Nat
 | [],k=>some k
 | .op _::s,k+2=>lH s (k+1)
 | .op _::_,_=>none
 | .num _::s,k=>lH s (k+1)
 | .nam _::s,k=>lH s (k+1)
theorem gG:∀(s t:List cA) (k j:Nat),lH s k=some j->lH (s++t) k=lH t j
 | [],t,k,j,h=>by cases h;rfl
 | .num _::s,t,k,j,h=>gG s t (k+1) j h
 | .nam _::s,t,k,j,h=>gG s t (k+1) j h
 | .op _::s,t,0,j,h=>by cases h
 | .op _::s,t,1,j,h=>by cases h
 | .op _::s,t,k+2,j,h=>gG s t (k+1) j h
noncomputable def ud (f:List Nat->Rd):Prop:=∀l s r,f l=some (s,r)->∀k,lH s k=some (k+1)
theorem wk {l:List Nat} {x:cA} (h:jQ l=some x) (k:Nat):lH [x] k=some (k+1):=by
 have:=tR h;unfold jQ at h;split at h
 ·cases h;rfl
 ·split at h
  ·cases h;rfl
  ·split at h
   ·cases h;rfl
   ·cases h
theorem rE {rd:List Nat->Rd} (h:ud rd):ud (aZ rd):=λl s r e=>by
 unfold aZ at e;split at e
 ·split at e
  ·rename_i s' r' e';cases e;exact h _ _ _ e'
  ·cases e
 ·split at e
  ·rename_i y e';cases e;exact wk e'
  ·cases e
theorem p0 {s t:List cA} {y k:Nat} (h1:lH s k=some (k+1)) (h2:lH t (k+1)=some (k+2)):lH (s++t++[.op y]) k=some (k+1):=by
 rw[append_assoc,gG s _ k _ h1,gG t _ _ _ h2]
 rfl
theorem p7 {rd:List Nat->Rd} (h:ud rd):ud (bU rd):=λl s r e k=>by
 have ht:=rE h;unfold bU at e;split at e
 ·rename_i s1 r1 e1;split at e
  ·rename_i s2 r2 e2;cases e;exact p0 (ht _ _ _ e1 k) (ht _ _ _ e2 (k+1))
  ·cases e
 ·exact ht _ _ _ e k
theorem jc {one:List Nat->Rd} (h:ud one) (y:Nat):∀(n:Nat) (s0:List cA) (l:List Nat) (s:List cA) (r:List Nat),bF one y n s0 l=some (s,r)->(∀k,lH s0 k=some (k+1))->∀k,lH s k=some (k+1)
 | 0,s0,l,s,r,e,h0=>by cases e;exact h0
 | n+1,s0,l,s,r,e,h0=>by
   unfold bF at e;split at e
   ·split at e
    ·rename_i s2 r2 e2;exact jc h y n _ _ _ _ e λk=>p0 (h0 k) (h _ _ _ e2 (k+1))
    ·cases e
   ·cases e;exact h0
theorem mV {rd:List Nat->Rd} (h:ud rd):ud (cJ rd):=λl s r e=>by
 unfold cJ at e;split at e
 ·rename_i s1 r1 e1;exact jc (p7 h) _ _ _ _ _ _ e (p7 h _ _ _ e1)
 ·cases e
theorem rF {rd:List Nat->Rd} (h:ud rd):ud (cZ rd):=λl s r e=>by
 unfold cZ at e;split at e
 ·rename_i s1 r1 e1;exact jc (mV h) _ _ _ _ _ _ e (mV h _ _ _ e1)
 ·cases e
theorem jU:∀d,ud (bw d)
 | 0=>λ_ _ _ e=>by cases e
 | d+1=>by
   show ud (dc d);rw[eF];exact rF (jU d)
theorem wm {l:List Nat} {s:List cA} (h:d0 l=some s):lH s 0=some 1:=by
 unfold d0 at h;split at h
 ·rename_i s' e;cases h;exact jU 21 _ _ _ e 0
 ·cases h
theorem gH (nm:List Nat->Option O):∀s:List cA,iD nm s=none↔∃l,l∈fo s/\nm l=none
 | []=>⟨λh=>(by cases h),λ⟨l,h,_⟩=>by cases h⟩
 | .num a::s=>by
   show(iD nm s).map _=none↔_;rw[Option.map_eq_none_iff];exact gH nm s
 | .op a::s=>by
   show(iD nm s).map _=none↔_;rw[Option.map_eq_none_iff];exact gH nm s
 | .nam l::s=>by
   show(match nm l with | some b=>(iD nm s).map (cA.num b:: ·) | none=>none)=none↔_;cases e:nm l with
   | none=>exact⟨λ_=>⟨l,mem_cons_self,e⟩,λ_=>rfl⟩
   | some b=>
     show(iD nm s).map _=none↔_;rw[Option.map_eq_none_iff,gH nm s];constructor
     ·rintro⟨m,h1,h2⟩;exact⟨m,ybx _ h1,h2⟩
     ·rintro⟨m,h1,h2⟩;rcases mem_cons.mp h1 with rfl | h1
      ·rw[e] at h2;cases h2
      ·exact⟨m,h1,h2⟩
theorem kU (nm:List Nat->Option O):∀(s s':List cA),iD nm s=some s'->(∀k,lH s' k=lH s k)/\s'.length=s.length/\∀x,x∈s'->(∃l b,x=.num b/\nm l=some b)∨(x∈s/\∀l,x≠ .nam l)
 | [],s',h=>by cases h;exact⟨λ_=>rfl,rfl,λx hx=>by cases hx⟩
 | .num a::s,s',h=>by
   have h:(iD nm s).map (cA.num a:: ·)=some s':=h;obtain⟨t,ht,rfl⟩:=Option.map_eq_some_iff.mp h;obtain⟨h1,h2,h3⟩:=kU nm s t ht;refine⟨λk=>h1 (k+1),by rw[length_cons,length_cons,h2],λx hx=>?_⟩;rcases mem_cons.mp hx with rfl | hx
   ·exact .inr ⟨yby,λl z=>by cases z⟩
   ·exact(h3 x hx).imp id λz=>⟨ybx _ z.1,z.2⟩
 | .op a::s,s',h=>by
   have h:(iD nm s).map (cA.op a:: ·)=some s':=h;obtain⟨t,ht,rfl⟩:=Option.map_eq_some_iff.mp h;obtain⟨h1,h2,h3⟩:=kU nm s t ht;refine⟨λk=>?_,by rw[length_cons,length_cons,h2],λx hx=>?_⟩
   ·match k with
    | 0=>rfl
    | 1=>rfl
    | k+2=>exact h1 (k+1)
   ·rcases mem_cons.mp hx with rfl | hx
    ·exact .inr ⟨yby,λl z=>by cases z⟩
    ·exact(h3 x hx).imp id λz=>⟨ybx _ z.1,z.2⟩
 | .nam l::s,s',h=>by
   have h:(match nm l with | some b=>(iD nm s).map (cA.num b:: ·) | none=>none)=some s':=h;cases e:nm l with
   | none=>rw[e] at h;cases h
   | some b=>
     rw[e] at h;obtain⟨t,ht,rfl⟩:=Option.map_eq_some_iff.mp h;obtain⟨h1,h2,h3⟩:=kU nm s t ht;refine⟨λk=>h1 (k+1),by rw[length_cons,length_cons,h2],λx hx=>?_⟩;rcases mem_cons.mp hx with rfl | hx
     ·exact .inl ⟨l,b,rfl,e⟩
     ·exact(h3 x hx).imp id λz=>⟨ybx _ z.1,z.2⟩
end Nm
namespace L2
open PySem PySem.Spec PyProof.Rows Nm
noncomputable def am:O->List W
 | .z=>[]
 | .c e n r=> .tup [.tup (am e),.int n]::am r
noncomputable def fk (o:O):W:= .tup (am o)
noncomputable def dh (e:O) (n:Int):W:= .tup [fk e,.int n]
theorem zL:am .z=[]:=rfl
theorem bv (e:O) (n:Int) (r:O):am (.c e n r)=dh e n::am r:=rfl
theorem aH:∀a:O,(am a).length=a.len
 | .z=>rfl
 | .c e n r=>by rw[bv,length_cons,aH r];rfl
theorem mW {e:O} {n:Int} (h:W.flats (am e)=true):(dh e n).flat=true:=by
 simp[dh,fk,W.flat,W.flats,h]
theorem cC:∀a:O,W.flats (am a)=true
 | .z=>by simp[am,W.flats]
 | .c e n r=>by
   rw[bv];simp[W.flats,mW (cC e),cC r]
theorem ue (a:O):(fk a).flat=true:=by simp[fk,W.flat,cC a]
theorem jV (e:O) (n:Int):(dh e n).flat=true:=mW (cC e)
theorem gI:∀a:O,W.deps (am a)<=2*a.dp
 | .z=>by simp[am,W.deps]
 | .c e n r=>by
   have h1:=gI e;have h2:=gI r;rw[bv];simp only[W.deps,dh,fk,W.dep,O.dp];lia
theorem p8 (a:O):(fk a).dep<=2*a.dp+1:=by
 have:=gI a;simp only[fk,W.dep];lia
theorem wn (e:O) (n:Int):(dh e n).dep<=2*e.dp+2:=by
 have:=p8 e;simp only[dh,W.dep,W.deps];lia
theorem iF:∀a b:O,W.eqs (am a) (am b)=decide (a=b)
 | .z,.z=>by simp[am,W.eqs]
 | .z,.c _ _ _=>by simp[am,W.eqs]
 | .c _ _ _,.z=>by simp[am,W.eqs]
 | .c e n r,.c e' n' r'=>by
   have h1:=iF e e';have h2:=iF r r';simp only[am,W.eqs,W.eq_tup,W.eq_int,h1,h2,Bool.and_true];rw[Bool.eq_iff_iff];simp only[Bool.and_eq_true,decide_eq_true_eq,beq_iff_eq,O.c.injEq];constructor
   ·rintro⟨⟨a,b⟩,c⟩;exact⟨a,b,c⟩
   ·rintro⟨a,b,c⟩;exact⟨⟨a,b⟩,c⟩
theorem oJ (a b:O):(fk a).eq (fk b)=decide (a=b):=iF a b
theorem uf (e e':O) (n n':Int):(dh e n).eq (dh e' n')=(decide (e=e')&&decide (n=n')):=by
 have:=oJ e e';simp only[dh,W.eq_tup,W.eq_int,W.eqs,this,Bool.and_true]
 congr 1
theorem gh (a b:O):(W.tup (am a)).eq (W.tup (am b))=decide (a=b):=oJ a b
theorem bb (a:O):(W.tup (am a)).flat=true:=ue a
theorem bX (a:O):(W.tup (am a)).dep<=2*a.dp+1:=p8 a
noncomputable def hZ (n m:Int):Int:=if n<m then -1 else if m<n then 1 else 0
noncomputable def oK (e:O) (n:Int) (e':O) (n':Int):Int:=if O.cmp e e'≠0 then O.cmp e e' else hZ n n'
theorem x8 (e:O) (n:Int) (r e':O) (n':Int) (r':O):O.cmp (.c e n r) (.c e' n' r')=if oK e n e' n'≠0 then oK e n e' n' else O.cmp r r':=by
 unfold oK hZ;rw[O.cmp]
 by_cases h:O.cmp e e'=0
 ·rcases Int.lt_trichotomy n n' with k | k | k
  ·have k':¬n'<n:=by (clear h;lia)
   simp[h,k]
  ·subst k;simp[h]
  ·have k':¬n<n':=by (clear h;lia)
   simp[h,k,k']
 ·simp[h]
theorem p9 (n m:Int):b2i (decide (m<n))-b2i (decide (n<m))=hZ n m:=by
 unfold hZ;rcases Int.lt_trichotomy n m with k | k | k
 ·have k':¬m<n:=by lia
  simp[b2i,k,k']
 ·subst k;simp[b2i]
 ·have k':¬n<m:=by lia
  simp[b2i,k,k']
theorem mX {a b:O} (h:am a=am b):a=b:=by
 have:=iF a b;rw[h,W.eqs_refl _ (cC b)] at this;simpa using this.symm
theorem fA:∀a b:O,am (a.app b)=am a++am b
 | .z,b=>by simp[O.app,am]
 | .c e n r,b=>by
   show am (.c e n (r.app b))=_;rw[bv,bv,fA r b]
   rfl
theorem BQ {α:Type} (x:α) (xs:List α):ei (x::xs) 0=some x:=by
 simp[ei,sG]
theorem BR {α:Type} (x y:α) (xs:List α):ei (x::y::xs) 1=some y:=by
 have h:(1:Int)<((xs.length:Int)+1+1):=by lia
 simp[ei,sG,h]
theorem ug (i:Int):(W.int i).flat=true:=by simp[W.flat]
theorem wo (i:Int):(W.int i).dep=0:=by simp[W.dep]
theorem oM (i j:Int):(W.int i).eq (W.int j)=(i==j):=rfl
theorem uh:(W.tup []).flat=true:=by simp[W.flat,W.flats]
theorem wp:(W.tup []).dep=1:=by simp[W.dep,W.deps]
theorem bI (a:O):(W.tup (am a)).eq (W.tup [])=decide (a=.z):=oJ a .z
theorem Ee (i j:Int):(i==j)=decide (i=j):=by
 by_cases h:i=j<;> simp[h]
theorem aC.done {G:Gp} {q:Gp->Prop} (h:q G):∃G0,aC G0 G/\q G0:=⟨G,aC.refl G,h⟩
theorem bZ {C:Gp->Prop} {g:WG} {tb:WS} {d:dI} (Iv:List W->dR->Gp->Prop) (stop:∀τ G,Iv [] τ G->C G/\d.nx τ G)
 (step:∀w ws τ G (k:dR->Gp->Prop),Iv (w::ws) τ G->(∀τ3 G3,Iv ws τ3 G3->k τ3 G3)->C G/\g w τ G λτ2 G2=>tb { d with nx:=k,ct:=k,bk:=d.nx } τ2 G2):∀ws τ G,Iv ws τ G->iX C g tb d ws τ G
 | [],τ,G,h=>stop τ G h
 | w::ws,τ,G,h=>step w ws τ G _ h λτ3 G3 h3=>bZ Iv stop step ws τ3 G3 h3
theorem wq {x y:O} (h:d7 (am x) (am y)=[]):x=.z∨y=.z:=by
 cases x with
 | z=>exact .inl rfl
 | c e n r=>
   cases y with
   | z=>exact .inr rfl
   | c e' n' r'=>simp[am,d7] at h
theorem ui {x y:O} {w:W} {ws:List W} (h:d7 (am x) (am y)=w::ws):∃e n r e' n' r',x=.c e n r/\y=.c e' n' r'/\w=.tup [dh e n,dh e' n']/\ws=d7 (am r) (am r'):=by
 cases x with
 | z=>simp[am,d7] at h
 | c e n r=>
   cases y with
   | z=>simp[am,d7] at h
   | c e' n' r'=>
     rw[bv,bv] at h;simp only[d7,List.cons.injEq] at h;exact⟨e,n,r,e',n',r',rfl,rfl,h.1.symm,h.2.symm⟩
theorem kX {n m:Int} (h:n<m):hZ n m= -1:=by unfold hZ;rw[ycv h]
theorem kY {n m:Int} (h:m<n):hZ n m=1:=by unfold hZ;rw[ycw (by lia),ycv h]
theorem jW (n:Int):hZ n n=0:=by unfold hZ;simp
theorem mY {x y:O} (h:x=.z∨y=.z):O.cmp x y=hZ x.len y.len:=by
 rcases h with rfl | rfl
 ·cases y with
  | z=>rfl
  | c e n r=>rw[kX (by simp only[O.len];lia)];rfl
 ·cases x with
  | z=>rfl
  | c e n r=>rw[kY (by simp only[O.len];lia)];rfl
theorem oN {a b x y:Nat} (h:a+y=b+x):hZ (a:Int) (b:Int)=hZ (x:Int) (y:Int):=by
 rcases Nat.lt_trichotomy x y with k | k | k
 ·rw[kX (by lia),kX (by (clear h;lia))]
 ·have:a=b:=by lia
  subst k this;rw[jW,jW]
 ·rw[kY (by lia),kY (by (clear h;lia))]
theorem jd:∀(a:O) (i:Nat),(am a)[i]?=(a.getP i).map λp=>dh p.1 p.2
 | .z,i=>by simp[am,O.getP]
 | .c e n r,0=>by rw[bv];rfl
 | .c e n r,i+1=>by
   rw[bv];simpa[O.getP] using jd r i
theorem eX {a:O} {e:O} {n:Int} (h:a.getP i=some (e,n)):ei (am a) (i:Int)=some (dh e n):=ce (by rw[jd,h];rfl)
theorem ia:∀(i:Nat) (a:O),(am a).drop i=am (O.dropO i a)
 | 0,a=>rfl
 | i+1,.z=>by simp[am,O.dropO]
 | i+1,.c e n r=>by
   rw[bv];simpa[O.dropO] using ia i r
theorem ib:∀(i:Nat) (a:O),(am a).take i=am (O.takeO i a)
 | 0,a=>by simp[O.takeO,am]
 | i+1,.z=>by simp[am,O.takeO]
 | i+1,.c e n r=>by
   rw[bv,take_succ_cons,ib i r]
   rfl
theorem uj (xs:List W) (k:Nat):dF xs none (some (k:Int))=xs.take k:=by
 unfold dF;rw[HT.sIx_none,HT.sIx_nat,drop_zero,Nat.sub_zero];rcases Nat.le_total k xs.length with h | h
 ·rw[Nat.min_eq_left h]
 ·rw[Nat.min_eq_right h,take_length,take_of_length_le h]
theorem gJ (xs:List W) (k:Nat):dF xs (some (k:Int)) none=xs.drop k:=by
 unfold dF;rw[HT.sIx_none,HT.sIx_nat];rcases Nat.le_total k xs.length with h | h
 ·rw[Nat.min_eq_left h];exact take_of_length_le (by rw[length_drop];(clear h;lia))
 ·rw[Nat.min_eq_right h,List.drop_length,List.drop_of_length_le h];simp
theorem qc (xs:List W):dF xs none (some (-1))=xs.take (xs.length-1):=by
 unfold dF;have e:HT.sIx xs.length xs.length (some (-1))=xs.length-1:=by
  show(if (-1:Int)<0 then ((-1:Int)+(xs.length:Int)).toNat else min (-1:Int).toNat xs.length)=_;rw[ycv (by lia)];lia
 rw[HT.sIx_none,e,drop_zero,Nat.sub_zero]
theorem rG (xs:List W):dF xs (some (-1)) none=xs.drop (xs.length-1):=by
 unfold dF;have e:HT.sIx xs.length 0 (some (-1))=xs.length-1:=by
  show(if (-1:Int)<0 then ((-1:Int)+(xs.length:Int)).toNat else min (-1:Int).toNat xs.length)=_;rw[ycv (by lia)];lia
 rw[HT.sIx_none,e];exact take_of_length_le (by rw[length_drop];(clear e;lia))
theorem jX:∀a:O,O.takeO (a.len-1) a=O.init a
 | .z=>rfl
 | .c _ _ .z=>rfl
 | .c e n (.c e' n' r')=>by
   have h:=jX (.c e' n' r');simp only[O.len,Nat.add_sub_cancel] at h ⊢;rw[O.takeO,h];simp[O.init]
theorem jY:∀a:O,O.dropO (a.len-1) a=O.last a
 | .z=>rfl
 | .c _ _ .z=>rfl
 | .c e n (.c e' n' r')=>by
   have h:=jY (.c e' n' r');simp only[O.len,Nat.add_sub_cancel] at h ⊢;rw[O.dropO,h];simp[O.last]
theorem mZ (a:O):dF (am a) none (some (-1))=am (O.init a):=by rw[qc,aH,ib,jX]
theorem uk (a:O):dF (am a) (some (-1)) none=am (O.last a):=by rw[rG,aH,ia,jY]
theorem oO:∀{a:O},a≠ .z->∃e n,O.last a=.c e n .z/\a.getP (a.len-1)=some (e,n)
 | .z,h=>absurd rfl h
 | .c e n .z,_=>⟨e,n,rfl,rfl⟩
 | .c e n (.c e' n' r'),_=>by
   obtain⟨x,m,h1,h2⟩:=oO (a:= .c e' n' r') (by simp);refine⟨x,m,?_,?_⟩
   ·rw[←h1];simp[O.last]
   ·simp only[O.len,Nat.add_sub_cancel] at h2 ⊢;rw[←h2];simp[O.getP]
theorem m8 {xs:List W} {w:W} (h:xs[xs.length-1]?=some w):ei xs (-1)=some w:=by
 have hl:xs.length-1<xs.length:=(List.getElem?_eq_some_iff.mp h).1;unfold ei sG;rw[ycw (by (clear h hl;lia)),ycv (by (clear h;lia))];show xs[((-1:Int)+(xs.length:Int)).toNat]?=some w;rw[←h]
 congr 1
 (clear h;lia)
theorem eY {a:O} {e:O} {n:Int} (h:a.getP (a.len-1)=some (e,n)):ei (am a) (-1)=some (dh e n):=m8 (by rw[aH,jd,h];rfl)
theorem je:∀a b:O,W.ords (am a) (am b)=true/\W.lts (am a) (am b)=decide (O.cmp a b<0)
 | .z,.z=>by simp[am,W.ords,W.lts,O.cmp]
 | .z,.c _ _ _=>by simp[am,W.ords,W.lts,O.cmp]
 | .c _ _ _,.z=>by simp[am,W.ords,W.lts,O.cmp]
 | .c e n r,.c e' n' r'=>by
   obtain⟨o1,l1⟩:=je e e';obtain⟨o2,l2⟩:=je r r';rw[bv,bv,W.ords,W.lts,uf]
   by_cases h:(decide (e=e')&&decide (n=n'))=true
   ·rw[ycv h,ycv h];have h':e=e'/\n=n':=by simpa using h
    obtain⟨rfl,rfl⟩:=h';refine⟨o2,?_⟩;rw[l2,O.cmp,ycw (by rw[O.cmp_self];simp),ycw (by (clear l2 l1 h;lia)),ycw (by (clear l2 l1 h;lia))]
   ·rw[ycw h,ycw h];have ee:(W.tup (am e)).eq (W.tup (am e'))=decide (e=e'):=gh e e';unfold dh fk;rw[W.ord,W.lt,W.ords,W.lts,ee]
    by_cases q:e=e'
    ·subst q;rw[ycv (by simp),ycv (by simp),W.ords,W.lts];have hn:¬n=n':=λz=>h (by simp[z]);rw[oM,ycw (by simpa using hn),ycw (by simpa using hn),W.ord,W.lt];refine⟨rfl,?_⟩;rw[O.cmp,ycw (by rw[O.cmp_self];simp)]
     by_cases k:n<n'
     ·rw[ycv k];simp[k]
     ·rw[ycw k,ycv (by (clear l2 l1 h;lia))];simp[k]
    ·rw[ycw (by simpa using q),ycw (by simpa using q),W.ord,W.lt];refine⟨o1,?_⟩;rw[l1,O.cmp,ycv (λz=>q (O.cmp_eq _ _ z))]
theorem jZ (a:O) (h:a.dp<=70):W.deps (am a)<=149:=by
 have:=gI a;lia
noncomputable def Df (K:yav) (mg:yew) (x:Str) (st:Stmt) (ps:List Str):Prop:=∃(f:Addr) (fd:FuncData),cv K x x st f fd/\bL K fd ps []/\mg x=some (.ref f)
theorem Df.fx {sp:bJ} (D:Df K mg x st ps) (h:∀(f:Addr) (fd:FuncData),cv K x x st f fd->cB P w K mg base k f fd ps sp):Fx P w K mg base x ps k sp:=by
 obtain⟨f,fd,F,b,m⟩:=D;exact⟨f,fd,h f fd F,m,F.kp,b⟩
noncomputable def j6:bJ:=λws _ q _=>∃ns:List Int,ws=[.scr ns]/\ns.length<=63/\∀G',q (.bl true) G'
theorem zM {H:Hp} {ns:List Int} (hO:sI H) (hS:dP K H a (ns.map V.int)):xF K H a ns:=by
 rcases hS with(h | h) | h
 ·rcases hO a with z | ⟨o,xs,z⟩
  ·rw[z] at h;cases h
  ·rw[z] at h;cases h
 ·exact .inl h
 ·exact .inr h
theorem rH {H:Hp} {ns:List Int} (hO:sI H) (hS:dP K H a (ns.map V.int)) (hl:ns.length<=63):uY K j6 [.ref a] H (λv _=>v=.bl true) λ_ _ _=>False:=
 ⟨[.scr ns],λ_=>none,λw _=>w=.bl true,λ_ _=>False,.cons (.scr (zM hO hS)) .nil,λ_ _ e=>(by cases e),⟨ns,rfl,hl,λ_=>rfl⟩,λv H1 w G1 _ r _ e=>(by subst e;cases r;rfl),λ_ _ _ _ _ _ z=>z⟩
noncomputable def cu (os:List O):List W:=os.map λo=> .tup (am o)
theorem bR (os:List O):(cu os).length=os.length:=length_map _
theorem m9 {os:List O} {o:O} (h:os[i]?=some o):(cu os)[i]?=some (.tup (am o)):=by
 unfold cu;rw[List.getElem?_map,h];rfl
theorem wu {os:List O} {i:Int} (h0:0<=i) (h1:i<os.length):∃o,o∈os/\ei (cu os) i=some (.tup (am o)):=by
 have hl:i.toNat<os.length:=by lia
 have e:((i.toNat:Nat):Int)=i:=Int.toNat_of_nonneg h0;have q:=ce (m9 (ycz hl));rw[e] at q;exact⟨_,getElem_mem hl,q⟩
theorem eI (os:List O) (o:O):cu os++[.tup (am o)]=cu (os++[o]):=by simp[cu]
theorem gj {i j:Int} (h:0<j):0<=i%j/\i%j<j:=⟨Int.emod_nonneg _ (by lia),Int.emod_lt_of_pos _ h⟩
theorem ng {os:List O} {X n:Int} {R:W->Prop} (hn:n=(os.length:Int)) (h0:0<os.length) (hR:∀o,o∈os->R (.tup (am o))):∃w,ei (cu os) (X%n)=some w/\R w:=by
 have h:=gj (i:=X) (j:=n) (by lia);obtain⟨o,m,e⟩:=wu (os:=os) (i:=X%n) h.1 (by (clear h0;lia));exact⟨_,e,hR o m⟩
theorem ul {os:List O} {R:W->Prop} (h:i<os.length) (hR:∀o,o∈os->os[i]?=some o->R (.tup (am o))):∃w,ei (cu os) (i:Int)=some w/\R w:=
 ⟨_,ce (m9 (ycz h)),hR _ (getElem_mem h) (ycz h)⟩
theorem um {A B X lo hi:Int} {R:W->Prop} (hA:lo<=A/\A<hi) (hB:lo<=B/\B<hi) (hR:∀m,lo<=m->m<hi->R (.int m)):∃w,ei [W.int A,W.int B] (X%2)=some w/\R w:=by
 have h:=gj (i:=X) (j:=2) (by (clear hA hB;lia));have k:X%2=0∨X%2=1:=by (clear hA hB;lia)
 rcases k with k | k
 ·rw[k];exact⟨_,BQ _ _,hR A hA.1 hA.2⟩
 ·rw[k];exact⟨_,BR _ _ _,hR B hB.1 hB.2⟩
theorem zN (j:Int):yM 10 j=(0<=j/\j<=1000000):=by
 unfold yM;have:(10:Int).natAbs<2^64:=by decide
 simp[this]
theorem aB {t u:WS} {d:dI} {τ:dR} {G:Gp} (h:∀U:WS,U=u->t { d with nx:=U d } τ G):vE t u d τ G:=h u rfl
theorem aK {G:Gp} {a b:Addr} {g g':GO} (h:G b=some g') (ha:G a=none):aX G a g b=some g':=by
 rw[aV (λz=>by rw[z,ha] at h;cases h)];exact h
theorem fB (p:O->Int->Bool):∀a:O,(a.filt p).len<=a.len
 | .z=>ycx _
 | .c e n r=>by
   have:=fB p r;rw[O.filt_c];split<;> simp only[O.len]<;> lia
theorem x9 {xs:List W} {i:Int} {R:List W->W->Prop} (h:∃w,ei xs i=some w/\R xs w):∃xs' w,xs=xs'/\ei xs' i=some w/\R xs' w:=by
 obtain⟨w,e,r⟩:=h;exact⟨xs,w,rfl,e,r⟩
theorem jf {g:Option GO} {xs:List W} {i:Int} {R:List W->W->Prop} (e:g=some (.lst xs)) (h:∃w,ei xs i=some w/\R xs w):∃xs' w,g=some (.lst xs')/\ei xs' i=some w/\R xs' w:=by
 obtain⟨w,e',r⟩:=h;exact⟨xs,w,e,e',r⟩
theorem wv (G:Gp) (i:Int):pv G (.int i)=some "int":=rfl
theorem zO (G:Gp) (b:Bool):pv G (.bl b)=some "bool":=rfl
theorem ww (G:Gp) (ws:List W):pv G (.tup ws)=some "tuple":=rfl
theorem wz (G:Gp):pv G .non=some "NoneType":=rfl
theorem wA:fK "int" "int"=true:=by decide
theorem wB:fK "int" "bool"=false:=by decide
theorem wD:fK "int" "tuple"=false:=by decide
theorem wE:fK "bool" "int"=true:=by decide
theorem wF:fK "bool" "bool"=true:=by decide
theorem wG:fK "bool" "tuple"=false:=by decide
theorem wH:fK "tuple" "tuple"=true:=by decide
theorem wI:fK "tuple" "int"=false:=by decide
theorem wJ:fK "tuple" "bool"=false:=by decide
theorem wK:fK "list" "list"=true:=by decide
theorem wL:fK "NoneType" "tuple"=false:=by decide
theorem zP:((0:Nat):Int)=0:=rfl
theorem zQ:((1:Nat):Int)=1:=rfl
theorem zR:((2:Nat):Int)=2:=rfl
theorem zS:((3:Nat):Int)=3:=rfl
theorem gk {c:WT} {tb:WS} {d:dI} {τ:dR} {G:Gp} (I:Nat->dR->Gp->Prop) (h0:∃m,I m τ G)
 (h:∀m τ G,I m τ G->∀B:WS,B=tb->c τ G λb G1=>if b=true then ∃N:dR->Gp->Prop,(∀τ1 G1,N τ1 G1->∃m1,m1<m/\I m1 τ1 G1)/\B { d with nx:=N,ct:=N,bk:=d.nx } τ G1 else d.nx τ G1):sQ c tb d τ G:=
 ⟨I,h0,λm τ G hI=>h m τ G hI tb rfl⟩
theorem Ef {α:Type} (x y v:α) (xs:List α):ei (x::y::v::xs) 2=some v:=ce (j:=2) rfl
theorem ni (n i:Nat) (h:i<n):(rV n).drop i=.int (i:Int)::(rV n).drop (i+1):=by
 have hl:i<(rV n).length:=by simp[rV,h]
 rw[drop_eq_getElem_cons hl]
 congr 1
 simp[rV]
theorem kZ {C:Gp->Prop} {g:WG} {tb:WS} {d:dI} {τ:dR} {G:Gp} (n:Nat) (Iv:Nat->dR->Gp->Prop) (h0:Iv 0 τ G) (stop:∀τ G,Iv n τ G->C G/\d.nx τ G)
 (step:∀(i:Nat) τ G (k:dR->Gp->Prop),i<n->Iv i τ G->(∀τ3 G3,Iv (i+1) τ3 G3->k τ3 G3)->C G/\g (.int (i:Int)) τ G λτ2 G2=>tb { d with nx:=k,ct:=k,bk:=d.nx } τ2 G2):iX C g tb d (rV n) τ G:=by
 refine bZ (λws τ G=>∃i,i<=n/\ws=(rV n).drop i/\Iv i τ G) ?_ ?_ _ _ _ ⟨0,zero_le _,rfl,h0⟩
 ·rintro τ G ⟨i,hi,hw,hI⟩;have:i=n:=by
   rcases Nat.lt_or_ge i n with k | k
   ·rw[ni n i k] at hw;cases hw
   ·lia
  subst this;exact stop τ G hI
 ·rintro w ws τ G k ⟨i,hi,hw,hI⟩ hk;have hlt:i<n:=by
   rcases Nat.lt_or_ge i n with j | j
   ·exact j
   ·rw[List.drop_of_length_le (by simp[rV];assumption)] at hw;cases hw
  rw[ni n i hlt] at hw;cases hw;exact step i τ G k hlt hI λτ3 G3 h3=>hk τ3 G3 ⟨i+1,hlt,rfl,h3⟩
noncomputable def jy (Pd:O->Int->Prop):O->Prop
 | .z=>True
 | .c e n r=>Pd e n/\jy Pd r
theorem jy.imp {Pd Pd':O->Int->Prop} (h:∀e n,Pd e n->Pd' e n):∀{a:O},jy Pd a->jy Pd' a
 | .z,_=>trivial
 | .c _ _ _,k=>⟨h _ _ k.1,jy.imp h k.2⟩
theorem eZ:∀a:O,jy (λe _=>e.dp<a.dp/\e.size<a.size) a
 | .z=>trivial
 | .c e n r=>⟨by simp only[O.dp,O.size];lia,(eZ r).imp λx m h=>by simp only[O.dp,O.size];lia⟩
theorem qd:∀a:O,jy (λe _=>e.dp<a.dp/\O.hw e<=O.hw a) a
 | .z=>trivial
 | .c e n r=>⟨by rw[O.hw_c];simp only[O.dp];lia,(qd r).imp λx m h=>by rw[O.hw_c];simp only[O.dp];lia⟩
noncomputable def mapP (p:O->Int->Bool) (f:O->Int->W):O->List W
 | .z=>[]
 | .c e n r=>if p e n then f e n::mapP p f r else mapP p f r
theorem jg (p:O->Int->Bool):∀a:O,mapP p dh a=am (a.filt p)
 | .z=>rfl
 | .c e n r=>by
   rw[mapP,O.filt_c,jg p r];split
   ·rw[bv]
   ·rfl
theorem j7:∀a:O,∃ns:List Int,mapP (λ_ _=>true) (λe _=> .int e.size) a=ns.map W.int/\(a.len:Int)+ns.sum=a.size
 | .z=>⟨[],rfl,rfl⟩
 | .c e n r=>by
   obtain⟨ns,h1,h2⟩:=j7 r;refine⟨(e.size:Int)::ns,by rw[mapP,h1];rfl,?_⟩;simp only[O.len,O.size,sum_cons];lia
theorem j8 (x:O):∀a:O,∃ns:List Int,mapP (λe _=>decide (e=x)) (λ_ n=> .int n) a=ns.map W.int/\ns.sum=O.same x a
 | .z=>⟨[],rfl,rfl⟩
 | .c e n r=>by
   obtain⟨ns,h1,h2⟩:=j8 x r
   by_cases h:e=x
   ·subst h;refine⟨n::ns,by rw[mapP,ycv (by simp),h1];rfl,?_⟩;rw[O.same_eq,sum_cons,h2]
   ·refine⟨ns,by rw[mapP,ycw (by simpa using h),h1],?_⟩;rw[O.same_ne h,h2]
theorem cM {C:Gp->Prop} {tt:WT} {te:WE} {i:Nat} {τ0:dR} {G:Gp} {q:List W->Gp->Prop} {Pd:O->Int->Prop} (p:O->Int->Bool) (f:O->Int->W) (hC:C G):∀{a:O} {acc:List W} {τ:dR},jy Pd a->
 (∀e n,Pd e n->∀k:Bool->Gp->Prop,k (p e n) G->tt (τ0.set i (some (dh e n))) G k)->(∀e n,Pd e n->p e n=true->∀k:W->Gp->Prop,k (f e n) G->te (τ0.set i (some (dh e n))) G k)->acc.length+a.len<=100000->(∀x,τ.set i x=τ0.set i x)->
 q (acc++mapP p f a) G->cF C (fe i) tt te (am a) τ G acc q
 | .z,acc,τ,_,_,_,_,_,hq=>⟨hC,by simpa[mapP] using hq⟩
 | .c e n r,acc,τ,hP,ht,he,hl,hτ,hq=>by
   rw[bv];refine⟨hC,?_⟩;show tt (τ.set i (some (dh e n))) G _;rw[hτ];refine ht e n hP.1 _ ?_;have hτ':∀x,(τ0.set i (some (dh e n))).set i x=τ0.set i x:=λx=>List.set_set ..;simp only[O.len] at hl;rw[mapP] at hq;cases hp:p e n with
   | true=>
     rw[ycv rfl];refine he e n hP.1 hp _ ⟨by lia,?_⟩;rw[hp,ycv rfl] at hq;exact cM p f hC hP.2 ht he (by rw[length_append];simp;lia) hτ' (by simpa using hq)
   | false=>
     rw[ycw ydx];rw[hp,ycw ydx] at hq;exact cM p f hC hP.2 ht he (by lia) hτ' hq
theorem aC.put {G G1:Gp} {p:Addr} {g:GO} (h:aC G G1) (hp:G p=none):aC G (aX G1 p g):=λa u e=>by
 have:=h a u e;unfold aX;split
 ·rename_i q;subst q;rw[hp] at e;cases e
 ·exact this
noncomputable def wM:Int:=(10^172)^7
theorem qe {i:Int} (h0:0<=i) (h:i<=wM):i.natAbs<2^4000:=by
 have h2:wM<((2^4000:Nat):Int):=by decide+kernel
 generalize (2:Nat)^4000=B at h2 ⊢;lia
theorem zT:(10:Int)^200<=wM:=by decide+kernel
theorem wN:(2:Int)*(10^50+3)^24<=wM:=by decide+kernel
end L2
namespace Nm
namespace O
end O
end Nm
namespace L2
open PySem PySem.Spec PyProof.Rows Nm
section
variable {P:Program} {w:World} {K:yav} {mg:yew} {base:Heap} {x:Str} {st:Stmt} {ps:List Str} {k:Nat} {sp:bJ}
theorem Df.rx (D:Df K mg x st ps) (h:∀(f:Addr) (fd:FuncData),cv K x x st f fd->ju P w K mg base k f fd ps sp):Rx P w K mg base x ps k sp []:=by
 obtain⟨f,fd,F,b,m⟩:=D;exact⟨f,fd,[],[],h f fd F,m,F.kp,b,.nil,λ_=> .nil⟩
theorem vT.rx {dws:List W} (D:vT K mg x st ps dws) (h:∀(f:Addr) (fd:FuncData) (T:Addr) (ds:yez),fY K x x st f fd T ds->ju P w K mg base k f fd ps sp):Rx P w K mg base x ps k sp []:=by
 obtain⟨f,fd,T,ds,dvs,F,b,b',m,_,_⟩:=D;exact⟨f,fd,[],[],h f fd T ds F,m,F.kp,b,.nil,λ_=> .nil⟩
end
open PySem PySem.Spec PyProof.Rows PySem.W
@[irreducible] def FK (i:Int):Prop:=i.natAbs<2^1048576
@[irreducible] def Wide (i:Int):Prop:=i.natAbs<2^1048577
set_option exponentiation.threshold 500 in
noncomputable def BS (i j:Int):Prop:=(Wide i/\j.natAbs<2^4000)∨(i.natAbs<2^4000/\Wide j)
noncomputable def jh (i j:Int):Prop:=px i j∨BS i j
theorem jh.ok {i j:Int} (h:jh i j):IntMulOk i j:=by
 have key:∀{x y:Int},Wide x->y.natAbs<2^4000->¬(((Builtin.Int.intBits x+Builtin.Int.intBits y:Int)) > bitsLine):=λ{x y} h1 h2=>by
  unfold Wide at h1;have b1:=PyProof.Rows.intBits_le h1;have b2:=PyProof.Rows.intBits_le h2;have hb:(1053000:Int)<=bitsLine:=by decide
  (clear h1 h2;lia)
 rcases h with h | ⟨h1,h2⟩ | ⟨h1,h2⟩
 ·exact h.ok
 ·have:=key h1 h2;unfold IntMulOk Builtin.Int.intTooBig;simp[this]
 ·have:=key h2 h1;rw[Int.add_comm] at this;unfold IntMulOk Builtin.Int.intTooBig;simp[this]
theorem lg {n:Nat} (h:n<10^7000):Wide (n:Int):=by
 unfold Wide;have h1:(10:Nat)^7000<=2^24000:=by decide+kernel
 have h2:(2:Nat)^24000<=2^1048577:=Nat.pow_le_pow_right (by decide) (by decide);exact ydw h (ycy h1 h2)
section
variable {X:Cx}
theorem wO:gt X (binaryOp .Mult) (rI jh λi j=> .int (i*j)):=Db λ_ _ _ _ _ _ _ hc q=>mul_int q hc.ok
end
open PySem PySem.Spec PyProof.Rows
theorem aT.rep {K:yav} {H:Hp} {ws:List W} {vs:List V} (r:aT K H ws vs):∀k:Nat,aT K H (List.replicate k ws).flatten (List.replicate k vs).flatten
 | 0=> .nil
 | k+1=>by
   rw[replicate_succ,flatten_cons,replicate_succ,flatten_cons];exact r.append (aT.rep r k)
section
variable {X:Cx}
noncomputable def ya:W2:=λx y G q=>match x,y with
 | .int i,.int j=>jh i j/\q (.int (i*j)) G
 | .ref a,.int k=>∃xs,G a=some (.lst xs)/\0<=k/\k<=100000/\xs.length*k.toNat<=100000/\∀p,G p=none->q (.ref p) (aX G p (.lst (List.replicate k.toNat xs).flatten))
 | .tup xs,.int k=>xs≠[]/\0<=k/\k<=100000/\xs.length*k.toNat<=100000/\q (.tup (List.replicate k.toNat xs).flatten) G
 | _,_=>False
theorem zU:fi X (binaryOp .Mult) ya:=by
 rintro π s σ H x y v u Q I rx ry ⟨wx,wy,G,q,r1,r2,g,h,hQ⟩;cases r2 with
 | int k=>
   cases r1 with
   | int i=>exact wO π s σ H _ _ v u Q I rx ry ⟨_,_,rfl,rfl,h.1,hQ _ H _ G (aW.refl H) (.int _) g h.2⟩
   | ref a=>
     obtain⟨xs,ea,h0,h1,hl,h⟩:=h;obtain⟨_,xs',ha,ra⟩:=g _ _ ea;refine y7 π s σ H _ _ v u Q I rx ry ⟨_,_,_,rfl,rfl,ha,ydv (by decide) h0,Int.lt_of_le_of_lt h1 (by decide),by rw[←ra.length];exact bW hl,λp hp=>?_⟩;exact hQ _ _ _ _ (aW.new hp _) (.ref p) (g.put (aW.new hp _) (ra.rep _) (by rw[iz,Nat.mul_comm];exact hl)) (h p (g.fresh hp))
   | @tup a ws xs ha ra=>
     obtain⟨hne,h0,h1,hl,h⟩:=h;refine vV π s σ H _ _ v u Q I rx ry ⟨a,_,_,rfl,rfl,dQ.of ha,λz=>?_,h0,h1,by rw[←ra.length];exact bW hl,λe=>?_,λ_ p hp=>?_⟩
     ·subst z;cases ra;exact hne rfl
     ·subst e;have e1:∀zs:List W,(List.replicate (Int.toNat 1) zs).flatten=zs:=λzs=>by simp
      rw[e1] at h;exact hQ _ H _ G (aW.refl H) (.tup ha ra) g h
     ·exact hQ _ _ _ G (aW.new hp _) (.tup bt ((ra.rep _).mono (aW.new hp _))) (g.keep hp _) h
   | _=>exact False.elim h
 | _=>cases r1<;> exact False.elim h
end
end L2
namespace Nm
namespace O
end O
end Nm
namespace L2
open PySem PySem.Spec PyProof.Rows
section
variable {X:Cx}
theorem fJ (z:Str):z.cps.toList.length=z.length:=by simp[Str.length]
noncomputable def j9:W2:=λx y G q=>match x,y with
 | .str a,.str b=>a.length+b.length<=100000/\q (.str (a++b)) G
 | x,y=>Bf x y G q
theorem aE:fi X (binaryOp .Add) j9:=by
 rintro π s σ H x y v u Q I rx ry ⟨wx,wy,G,q,r1,r2,g,h,hQ⟩;unfold j9 at h;split at h
 ·cases r1;cases r2;exact nM π s σ H _ _ v u Q I rx ry ⟨_,_,rfl,rfl,bW h.1,hQ _ H _ G (aW.refl H) (.str _) g h.2⟩
 ·exact Bg π s σ H x y v u Q I rx ry ⟨wx,wy,G,q,r1,r2,g,h,hQ⟩
noncomputable def kc:W2:=λx y G q=>match x,y with
 | .str a,.int k=>0<=k/\k<=100000/\a.length*k.toNat<=100000/\∀z:Str,z.length<=a.length*k.toNat->q (.str z) G
 | x,y=>ya x y G q
theorem kd (a:Array Nat):∀(n:Nat) (b:Array Nat),(List.foldl (λx1 x2=>x1++x2) b (List.replicate n a)).size=b.size+a.size*n
 | 0,b=>by simp
 | n+1,b=>by
   rw[replicate_succ,foldl_cons,kd a n,Array.size_append,Nat.mul_succ];lia
theorem wP (x:Str) {n:Int} (h:0<=n):(Txt.mul x n).length<=x.length*n.toNat:=by
 unfold Txt.mul;split
 ·exact zero_le _
 ·split
  ·rename_i h1 h2;have:1<=n.toNat:=by (clear h;lia)
   exact Nat.le_mul_of_pos_right _ this
  ·show Array.size _<=x.cps.size*n.toNat;rw[kd];simp
theorem e9:fi X (binaryOp .Mult) kc:=by
 rintro π s σ H x y v u Q I rx ry ⟨wx,wy,G,q,r1,r2,g,h,hQ⟩;unfold kc at h;split at h
 ·rename_i a k;obtain⟨h0,h1,hl,h⟩:=h;cases r1;cases r2;obtain⟨t,rfl⟩:=rx;obtain⟨t',rfl⟩:=ry;refine SB.mul ?_ λt' tk=>⟨.str _,H,I.tok _,⟨_,rfl⟩,hQ _ H _ G (aW.refl H) (.str _) g (h _ (wP a h0))⟩;have hk:(k.toNat:Int)=k:=by (clear hl;lia)
  refine⟨?_,λh2 h3=>?_,λh2 h3=>?_⟩
  ·have e1:decide (k< -(2^63:Int))=false:=ydy (by (clear hl;lia));have e2:decide (k≥2^63)=false:=ydy (by (clear hl e1;lia));rw[e1,e2,Bool.or_false]
  ·have h4:((a.length*k.toNat:Nat):Int)<=((100000:Nat):Int):=Int.ofNat_le.mpr hl;rw[Int.natCast_mul,hk] at h4;have h5:(a.length:Int)<=(2^63-1)/k:=by
    rw[Int.le_ediv_iff_mul_le (by (clear hl h4;lia))];exact ydv h4 (by decide)
   exact Int.not_lt.mpr h5
  ·exact ydy (not_lt.mpr (bW hl))
 ·exact zU π s σ H x y v u Q I rx ry ⟨wx,wy,G,q,r1,r2,g,h,hQ⟩
noncomputable def uo:W2:=λx y G q=>match x,y with
 | .str z,.int i=>z.length<=100000/\∃c,ei z.cps.toList i=some c/\q (.str ⟨#[c]⟩) G
 | x,y=>Bh x y G q
theorem BU:A5 X uo:=by
 rintro value slice π s σ H x y v u Q I rx ry ⟨wx,wy,G,q,r1,r2,g,h,hQ⟩ hsl;unfold uo at h;split at h
 ·obtain⟨hz,c,e,h⟩:=h;cases r1;cases r2;exact y0 value slice π s σ H _ _ v u Q I rx ry ⟨_,_,c,rfl,rfl,bW hz,e,hQ _ H _ G (aW.refl H) (.str _) g h⟩ hsl
 ·exact DW value slice π s σ H x y v u Q I rx ry ⟨wx,wy,G,q,r1,r2,g,h,hQ⟩ hsl
noncomputable def wQ:W3:=λx lo hi G q=>match x with
 | .str z=>z.length<=100000/\∀y:Str,y.length<=z.length->q (.str y) G
 | x=>lX x lo hi G q
theorem qf {vl:Value} {lo:Option Int} (p:IsPart vl lo):∃l:Option (Int×Tok),vl=partValue l:=by
 cases p with
 | none=>exact⟨none,rfl⟩
 | int i t=>exact⟨some (i,t),rfl⟩
theorem BV:At X (DX X.K wQ):=by
 rintro π s σ H x v vl vu lo hi sl Q I rx hs pl pu ⟨w,G,q,r,g,h,hQ⟩;unfold wQ at h;split at h
 ·rename_i z;obtain⟨hz,h⟩:=h;cases r;obtain⟨t,rfl⟩:=rx;refine⟨"str",_,slot_str_getitem.lookup,typeIs_str s z t,?_⟩;obtain⟨l,rfl⟩:=qf pl;obtain⟨u,rfl⟩:=qf pu;refine wpAny_getItem_str_slice (l:=l) (u:=u) (st:=none) ?_ rfl ?_
  ·obtain⟨o,e1,e2,e3⟩:=hs;exact⟨o,e1,e2,e3⟩
  ·have hle:=Txt.slice_le z (l.map (·.1)) (u.map (·.1));unfold sliceMade;split
   ·exact⟨.str z,H,I,⟨_,rfl⟩,hQ _ H _ G (aW.refl H) (.str _) g (h _ (ycx _))⟩
   ·rename_i hn;unfold Txt.slice at hle;split at hle
    ·rename_i hy;exact absurd hy hn
    ·exact⟨ycy hle (bW hz),.str _,H,I.tok _,⟨_,rfl⟩,hQ _ H _ G (aW.refl H) (.str _) g (h _ hle)⟩
 ·exact Bj π s σ H x v vl vu lo hi sl Q I rx hs pl pu ⟨w,G,q,r,g,h,hQ⟩
noncomputable def BW (te:WE) (tl th:WO):WE:=λτ G q=>te τ G λx G1=>tl τ G1 λl G2=>th τ G2 λu G3=>wQ x l u G3 q
theorem cE {lo hi:Option Expr} {te:WE} {tl th:WO} {pos p2:Pos} (he:QE X e te) (hl:QO X lo tl) (hu:QO X hi th):QE X (.Subscript e (.Slice lo hi none p2) pos) (BW te tl th):=
 (lO BV he hl hu).imp λσ H Q z0=>z0.el λτ G q hs hg ht hQ=>⟨τ,G,_,hs,hg,ht,λv H1 w G1 t1 r1 g1 q1=>⟨τ,G1,_,hs.mono t1,g1,q1,λl H2 G2 t2 g2 q2=>
   ⟨τ,G2,_,(hs.mono t1).mono t2,g2,q2,λu H3 G3 t3 g3 q3=>⟨w,G3,q,(r1.mono t2).mono t3,g3,q3,λv4 H4 w4 G4 t4=>hQ v4 H4 w4 G4 (((t1.trans t2).trans t3).trans t4)⟩⟩⟩⟩
noncomputable def uq:List W->Gp->WK->Prop:=λws G q=>match ws with
 | [.str z]=>z.length<=100000/\q (.int z.length) G
 | ws=>Bd ws G q
theorem zV:eC X (.builtin "len") uq:=by
 rintro π s σ H xs us Q I r ⟨ws,G,q,rw',g,h,hQ⟩;unfold uq at h;split at h
 ·obtain⟨v,rfl,r1⟩:=rw'.one;cases r1;exact kE π s σ H _ us Q I r ⟨_,rfl,bW h.1,hQ _ H _ G (aW.refl H) (.int _) g h.2⟩
 ·exact xP π s σ H xs us Q I r ⟨ws,G,q,rw',g,h,hQ⟩
theorem fC (c:Nat):∀l:List Nat,Spec.countIn (PyData.str ⟨#[c]⟩) (l.map λn=>PyData.str ⟨#[n]⟩)=((l.count c:Nat):Int)
 | []=>rfl
 | n::l=>by
   rw[map_cons];show(if Spec.same (PyData.str ⟨#[n]⟩) (PyData.str ⟨#[c]⟩)=true then (1:Int) else 0)+Spec.countIn (PyData.str ⟨#[c]⟩) (l.map λn=>PyData.str ⟨#[n]⟩)=_;have e:Spec.same (PyData.str ⟨#[n]⟩) (PyData.str ⟨#[c]⟩)=(n==c):=by
    by_cases h:n=c
    ·subst h;simp[Spec.same]
    ·have h2:(n==c)=false:=by simpa using h
     rw[h2];simp only[Spec.same];rw[beq_eq_false_iff_ne];intro h3;exact h (by simpa using congrArg (λs:Str=>s.cps) h3)
   rw[fC c l,e,List.count_cons];split<;> lia
theorem wR (x:Str) (c:Nat):(Builtin.Str.occurrences x ⟨#[c]⟩ 0 x.length 1).isEmpty=!(decide (c∈x.cps.toList)):=by
 cases h:(Builtin.Str.occurrences x ⟨#[c]⟩ 0 x.length 1).isEmpty with
 | true=>
   have:=isIn_false (y:=⟨#[c]⟩) (c:=c) h rfl;rw[fC] at this;have h2:x.cps.toList.count c=0:=by
    have:=of_decide_eq_false this;lia
   rw[List.count_eq_zero] at h2;simp only[h2,decide_false,Bool.not_false]
 | false=>
   have:=isIn_true (y:=⟨#[c]⟩) (c:=c) h rfl;rw[fC] at this;have h2:x.cps.toList.count c≠0:=by
    have:=of_decide_eq_true this;lia
   have h3:c∈x.cps.toList:=by
    by_cases h4:c∈x.cps.toList
    ·exact h4
    ·exact absurd (List.count_eq_zero.mpr h4) h2
   simp only[h3,decide_true,Bool.not_true]
noncomputable def Eg (x:Str):It:=⟨λi _=>i<x.cps.toList.length,λi H y H'=>H'=H/\∃c,x.cps.toList[i]?=some c/\y=.str ⟨#[c]⟩,λi _=>x.cps.toList.length<=i⟩
theorem kf (hA:A.handled=none) (it:Addr) (x:Str) (t:Tok):Walks P w A it [it] [it] x.cps.size (SignAt x) (λi h=>h.IsStrIter it (strIterType x) x t i):=by
 unfold strIterType;split
 ·exact Walks.strAscii hA it x t
 ·exact Walks.strWide hA it x t
theorem ur {tg:Expr} (it:Addr) (x:Str) (t:Tok):nH P w K tg (Eg x) [it] it (λi h=>i<=x.cps.size/\h.IsStrIter it (strIterType x) x t i) where
 mem:=by simp
 obj:=λi h st b hb=>by
  have e:b=it:=by simpa using hb
  subst e;obtain⟨_,o,e1,e2,e3⟩:=st;exact⟨_,e1,λv z=>by rw[e3] at z;cases z⟩
 keep:=λi h h' st k=>by
  obtain⟨hi,o,e1,e2,e3⟩:=st;exact⟨hi,o,k it (by simp) _ e1,e2,e3⟩
 item:=by
  intro X hP hw hK hc i π s σ H E I hf st hg;subst hP hw hK;obtain⟨f0,f1,f2,f3,f4,f5⟩:=hf it (by simp);have hg':i<x.cps.size:=by
   have h:i<x.cps.toList.length:=hg;simpa using h
  refine(kf (I.ok.hd hc) it x t).item i s _ _ hg' st.2 λv h' tk hv st' kk=>?_;obtain⟨c,u,e,rfl⟩:=hv;have I1:aJ X π σ H { s with heap:=h',toks:=tk }:=I.turned (λb o hb e=>kk b o (by simpa using hb) e) f0 f1 f3 f4 f5;obtain⟨o,e1,e2,e3⟩:=id st';refine⟨_,rfl,oZ (s:={ s with heap:=h',toks:=tk }) (n:=strIterType x) e1 e2 e3 ?_ ⟨.str ⟨#[c]⟩,H,I1,⟨u,rfl⟩,⟨rfl,c,by simpa using e,rfl⟩,⟨hg',st'⟩,λb hb=>(hf b hb).1⟩⟩;unfold strIterType;split<;> decide
 done:=by
  intro X hP hw hK hc i π s σ H E I hf st hg;subst hP hw hK;obtain⟨f0,f1,f2,f3,f4,f5⟩:=hf it (by simp);have hg':x.cps.size<=i:=by
   have h:x.cps.toList.length<=i:=hg;simpa using h
  have hi:i=x.cps.size:=Nat.le_antisymm st.1 hg';subst hi;exact(kf (I.ok.hd hc) it x t).done s _ _ st.2 λh' tk kk=>⟨rfl,I.turned (t':=tk) (λb o hb e=>kk b o (by simpa using hb) e) f0 f1 f3 f4 f5⟩
 self:=λA i s Q E st h=>by
  obtain⟨_,o,e1,e2,e3⟩:=st;unfold strIterType at e2;split at e2
  ·exact wpAny_pyIter_striter_ascii ⟨o,e1,e2,e3⟩ h
  ·exact wpAny_pyIter_striter_wide ⟨o,e1,e2,e3⟩ h
noncomputable def Di (l:List Nat):List W:=l.map λc=> .str ⟨#[c]⟩
theorem wS {H:Hp}:uZ K (Eg x) (Di x.cps.toList) (λ_=>True) H where
 stop:=λi H1 G t g _ hl=>by
  have h:x.cps.toList.length<=i:=by simpa[Di] using hl
  exact h
 go:=λi w H1 G t g _ e=>by
  unfold Di at e;rw[List.getElem?_map] at e;cases h:x.cps.toList[i]? with
  | none=>rw[h] at e;cases e
  | some c=>
    rw[h] at e;cases e;refine⟨(List.getElem?_eq_some_iff.mp h).1,λy H' ⟨eH,c',hc,hy⟩=>?_⟩;subst eH hy;rw[h] at hc;cases hc;exact⟨aW.refl _,.str _,g⟩
variable {tg:Expr}
theorem wT {l:Expr} {tl:TE} (hl:PE X l tl):PI X tg l (λσ H R=>tl σ H λx H1=>(∃z,x=.str z/\R (Eg z) H1)∨∃a,x=.ref a/\(((∃xs,dP X.K H1 a xs)/\R (C9 X.K a) H1)∨((∃xs,dQ X.K H1 a xs)/\R (Dy X.K a) H1))):=by
 intro π s σ H R I h;refine ca (hl π s σ H _ I h) λv s1 z9=>?_;obtain⟨x,H1,I1,r1,q1⟩:=z9;rcases q1 with⟨z,rfl,q⟩ | ⟨a,e,q1⟩
 ·obtain⟨t,rfl⟩:=r1;refine wpAny_pyIter_strU ?_;refine⟨s1.heap.objs.size,[s1.heap.objs.size],_,_,H1,rfl,I1.kept (t':=s1.toks) λb o e=>ybz _ e,ur _ z t,⟨zero_le _,_,ybw _ rfl,rfl,rfl⟩,λb hb=>?_,q⟩;have e:b=s1.heap.objs.size:=by simpa using hb
  subst e;exact I1.fpOk (ycx _) (I1.hok.fresh (ycx _))
 ·subst e;cases r1;rcases q1 with⟨⟨xs,hq⟩,q⟩ | ⟨⟨xs,hq⟩,q⟩
  ·obtain⟨its,rv,p,hz⟩:=I1.list hq;refine wpAny_pyIter_list p.isList ?_;refine⟨s1.heap.objs.size,[s1.heap.objs.size],_,_,H1,rfl,I1.kept (t':=s1.toks) λb o e=>ybz _ e,qC a _,⟨_,ybw _ rfl,rfl,rfl⟩,λb hb=>?_,q⟩;have e:b=s1.heap.objs.size:=by simpa using hb
   subst e;exact I1.fpOk (ycx _) (I1.hok.fresh (ycx _))
  ·obtain⟨its,rv,p,hz⟩:=I1.tuple hq;refine wpAny_pyIter_tuple (show s1.heap.IsTuple a its.toArray from p) ?_;refine⟨s1.heap.objs.size,[s1.heap.objs.size],_,_,H1,rfl,I1.kept (t':=s1.toks) λb o e=>ybz _ e,nI a _,⟨_,ybw _ rfl,rfl,rfl⟩,λb hb=>?_,q⟩;have e:b=s1.heap.objs.size:=by simpa using hb
   subst e;exact I1.fpOk (ycx _) (I1.hok.fresh (ycx _))
noncomputable def yb (te:WE):WI:=λτ G r=>te τ G λx G1=>match x with
 | .str z=>r (Di z.cps.toList) (λ_=>True) G1
 | .tup ws=>r ws (λ_=>True) G1
 | .scr ns=>r (ns.map W.int) (λ_=>True) G1
 | .ref a=>∃ws,G1 a=some (.lst ws)/\r ws (λG=>G a=some (.lst ws)) G1
 | _=>False
theorem bS {l:Expr} {te:WE} (hl:QE X l te):QI X tg l (yb te):=
 (wT hl).imp λσ H R ⟨τ,G,r,hs,hg,ht,hR⟩=>⟨τ,G,_,hs,hg,ht,λv H1 w G1 t1 r1 g1 q1=>by
   split at q1
   ·cases r1;exact .inl ⟨_,rfl,hR _ H1 _ _ G1 t1 g1 wS q1⟩
   ·cases r1 with
    | tup h rr=>exact .inr ⟨_,rfl,.inr ⟨⟨_,dQ.of h⟩,hR _ H1 _ _ G1 t1 g1 (vL h rr) q1⟩⟩
   ·cases r1 with
    | scr h=>exact .inr ⟨_,rfl,.inl ⟨⟨_,h.sq⟩,hR _ H1 _ _ G1 t1 g1 (vN h) q1⟩⟩
   ·obtain⟨ws,e,q1⟩:=q1;cases r1;obtain⟨_,xs,h1,_⟩:=g1 _ _ e;exact .inr ⟨_,rfl,.inl ⟨⟨xs,dP.of h1⟩,hR _ H1 _ _ G1 t1 g1 vM q1⟩⟩
   ·exact q1.elim⟩
noncomputable def rJ (ts:List Str):Str:=⟨(ts.map λt=>t.cps.toList).flatten.toArray⟩
theorem iq:∀(ts:List Str) (b:Array Nat),List.foldl (λacc (p:Str)=>acc++(#[]:Array Nat)++p.cps) b ts=b++(ts.map λt=>t.cps.toList).flatten.toArray
 | [],b=>by simp
 | t::ts,b=>by
   rw[foldl_cons,iq ts];apply Array.toList_inj.mp;simp
theorem ut (ts:List Str):Txt.join ⟨#[]⟩ ts=rJ ts:=by
 unfold Txt.join Builtin.Str.glued rJ;cases ts with
 | nil=>rfl
 | cons t ts=>
   show Str.mk (List.foldl (λacc (p:Str)=>acc++(#[]:Array Nat)++p.cps) t.cps ts)=_;rw[iq];apply congrArg;apply Array.toList_inj.mp;simp
noncomputable def BX (K:yav):V->List V->Hp->VK->Prop:=λx vs H Q=>∃l ts,x=.str ⟨#[]⟩/\vs=[.ref l]/\dP K H l (ts.map V.str)/\(ts.map λt=>t.length).sum<=100000/\Q (.str (rJ ts)) H
theorem ji:∀{ts:List Str} {its:yez},aY (ts.map V.str) its->StrsAre its ts
 | [],_,h=>by cases h;exact .nil
 | t::ts,_,h=>by
   cases h with
   | cons r rs=>
     obtain⟨k,rfl⟩:=r;exact .cons _ _ (ji rs)
theorem wU:Dc X "str.join" (BX X.K):=by
 intro π s σ H x vs v us Q I rx rv h;obtain⟨l,ts,rfl,rfl,hl,hs,q⟩:=h;obtain⟨t,rfl⟩:=rx;obtain⟨u1,rfl,r1⟩:=eg rv;cases r1;obtain⟨its,rv,p,hz⟩:=I.list hl;refine join_list (ys:=ts) p.isList (ji rv) ?_ λt' k=>?_
 ·have e:ts.length*(Str.mk #[]).length=0:=Nat.mul_zero _;rw[e];exact ycy hs (by decide)
 ·rw[ut];exact⟨.str _,H,I.tok _,⟨_,rfl⟩,q⟩
noncomputable def yc (te:WE):WE:=λτ G q=>te τ G λy G2=>∃a ts,y=.ref a/\G2 a=some (.lst (ts.map W.str))/\(ts.map λt=>t.length).sum<=100000/\q (.str (rJ ts)) G2
theorem jj {K:yav} {H:Hp}:∀{ts:List Str} {vs:List V},aT K H (ts.map W.str) vs->vs=ts.map V.str
 | [],_,h=>by cases h;rfl
 | t::ts,_,h=>by
   cases h with
   | cons r rs=>
     cases r;rw[jj rs]
     rfl
theorem wV {z:Str} {op:Pos} {te:WE} {apos cpos:Pos} (he:QE X e te) (hz:z=⟨#[]⟩:=by rfl)
 (hbase:attributeBase (.Constant (.str z) k op) "join" X.env (eval (.Constant (.str z) k op) X.env)=eval (.Constant (.str z) k op) X.env:=by rfl)
 (hfew:((backTo cpos (starEach [e] X.env)).all (λx=>!x.1)&&(backToKw cpos (keywordEach [] X.env)).all (λx=>x.1.isSome)
   &&decide (([e]:List Expr).length+([]:List Keyword).length+(if ([]:List Keyword).isEmpty then 0 else 1)<30))=true:=by rfl)
 (hline:(apos.endLine==cpos.line)=true:=by rfl) (hs:starEach [e] X.env=(false,eval e X.env)::starEach [] X.env:=by rfl) (hpl:(backTo cpos (starEach [] X.env)).any (·.1)=false:=by rfl):
 QE X (.Call (.Attribute (.Constant (.str z) k op) "join" apos) [e] [] cpos) (yc te):=
 (o9 PySem.F.plainAttrs_str PySem.F.slot_str_join PySem.F.type_str_join wU ku (dy he pa_nil hs) hbase hfew hline hs hpl).imp λσ H Q z0=>z0.el λτ G q hs hg ht hQ=>by
   subst hz;refine⟨rfl,τ,G,_,hs,hg,ht,λv2 H2 w2 G2 t2 r2 g2 q2=>?_⟩;obtain⟨a,ts,rfl,e2,hl,q2⟩:=q2;cases r2;obtain⟨_,xs,h1,rr⟩:=g2 _ _ e2;rw[jj rr] at h1;exact⟨_,ts,rfl,rfl,dP.of h1,hl,hQ _ _ _ _ t2 (.str _) g2 q2⟩
theorem add_len (a b:Str):(a++b).length=a.length+b.length:=by
 show(a.cps++b.cps).size=_;simp[Str.length]
end
open PySem PySem.Spec PyProof.Rows Nm
theorem lh {β:Type} {C:Gp->Prop} {te:WE} {i:Nat} {τ0:dR} {G:Gp} {q:List W->Gp->Prop} (key val:β->W) (hC:C G):∀{ps:List β} {acc:List W} {τ:dR},
 (∀p,p∈ps->∀k:W->Gp->Prop,k (val p) G->te (τ0.set i (some (key p))) G k)->acc.length+ps.length<=100000->(∀x,τ.set i x=τ0.set i x)->q (acc++ps.map val) G->cF C (fe i) sZ te (ps.map key) τ G acc q
 | [],acc,τ,_,_,_,hq=>⟨hC,by simpa using hq⟩
 | p::ps,acc,τ,ht,hl,hτ,hq=>by
   refine⟨hC,?_⟩;show te (τ.set i (some (key p))) G _;rw[hτ];refine ht p yby _ ?_;rw[length_cons] at hl;refine⟨by lia,lh key val hC (λu hu=>ht u (ybx _ hu)) (by rw[length_append];simp only[length_cons,length_nil];lia) (λx=>?_) (by simpa using hq)⟩;rw[List.set_set]
theorem gl {G:Gp} {p:Addr} {g g':GO}:aX (aX G p g) p g'=aX G p g':=by
 funext b
 unfold aX;split<;> rfl
theorem cg {c A B:Prop} {d:Decidable c} (h1:c->A) (h2:¬c->B): @ite Prop c d A B:=by
 cases d with
 | isTrue h=>exact h1 h
 | isFalse h=>exact h2 h
section
variable {X:Cx} {π:List (Addr×Obj)} {σ:St} {H:Hp} {s:Shared} {a:Addr} {o:Obj} {kvs:List (bE×V)}
variable {tg:Expr}
end
noncomputable def fE (kvs:List (bE×W)) (k:bE):Option W:=(kvs.find? λkv=>decide (kv.1=k)).map (·.2)
noncomputable def jk (kvs:List (bE×W)) (k:bE) (w:W):List (bE×W):=
 if (kvs.any λkv=>decide (kv.1=k))=true then kvs.map (λkv=>if kv.1=k then (kv.1,w) else kv) else kvs++[(k,w)]
inductive DP (K:yav) (H:Hp):List (bE×W)->List (bE×V)->Prop where
 | nil:DP K H [] []
 | cons {k:bE} {w:W} {v:V} {kvs:List (bE×W)} {us:List (bE×V)} (r:cr K H w v) (t:DP K H kvs us):DP K H ((k,w)::kvs) ((k,v)::us)
section
variable {K:yav} {H H1:Hp}
theorem DP.of:∀{kvs:List (bE×W)} {us:List (bE×V)},us.map (·.1)=kvs.map (·.1)->aT K H (kvs.map (·.2)) (us.map (·.2))->DP K H kvs us
 | [],[],_,_=> .nil
 | [],_::_,h,_=>by simp at h
 | _::_,[],h,_=>by simp at h
 | (k,w)::kvs,(k',v)::us,h,r=>by
   simp only[map_cons,List.cons.injEq] at h;obtain⟨rfl,h⟩:=h;cases r with
   | cons r rs=>exact .cons r (DP.of h rs)
theorem DP.keys {kvs:List (bE×W)} {us:List (bE×V)} (d:DP K H kvs us):us.map (·.1)=kvs.map (·.1):=by
 induction d with
 | nil=>rfl
 | cons r t ih=>rw[map_cons,map_cons,ih]
theorem DP.vals {kvs:List (bE×W)} {us:List (bE×V)} (d:DP K H kvs us):aT K H (kvs.map (·.2)) (us.map (·.2)):=by
 induction d with
 | nil=>exact .nil
 | cons r t ih=>exact .cons r ih
theorem DP.len {kvs:List (bE×W)} {us:List (bE×V)} (d:DP K H kvs us):us.length=kvs.length:=by
 have:=congrArg List.length d.keys;simpa using this
theorem DP.mono {kvs:List (bE×W)} {us:List (bE×V)} (t:aW H H1) (d:DP K H kvs us):DP K H1 kvs us:=DP.of d.keys (d.vals.mono t)
theorem DP.val {kvs:List (bE×W)} {us:List (bE×V)} (d:DP K H kvs us) (k:bE):(fE kvs k=none/\kF us k=none)∨∃w v,fE kvs k=some w/\kF us k=some v/\cr K H w v:=by
 induction d with
 | nil=>exact .inl ⟨rfl,rfl⟩
 | @cons k' w v kvs us r t ih=>
   by_cases e:k'=k
   ·exact .inr ⟨w,v,by simp[fE,List.find?_cons,e],lR e,r⟩
   ·rw[show fE ((k',w)::kvs) k=fE kvs k by simp[fE,List.find?_cons,e],lS (p:=(k',v)) e];exact ih
theorem DP.any {kvs:List (bE×W)} {us:List (bE×V)} (d:DP K H kvs us) (k:bE):(us.any λkv=>decide (kv.1=k))=kvs.any λkv=>decide (kv.1=k):=by
 induction d with
 | nil=>rfl
 | cons r t ih=>rw[any_cons,any_cons,ih]
theorem DP.put {kvs:List (bE×W)} {us:List (bE×V)} (d:DP K H kvs us) (k:bE) {w:W} {v:V} (r:cr K H w v):DP K H (jk kvs k w) (iR us k v):=by
 unfold jk iR;rw[d.any k]
 by_cases e:(kvs.any λkv=>decide (kv.1=k))=true
 ·rw[ycv e,ycv e];clear e
  induction d with
  | nil=>exact .nil
  | @cons k' w' v' kvs us r' t ih=>
    rw[map_cons,map_cons]
    by_cases e:k'=k
    ·rw[ycv e,ycv e];exact .cons r ih
    ·rw[ycw e,ycw e];exact .cons r' ih
 ·rw[ycw e,ycw e];clear e
  induction d with
  | nil=>exact .cons r .nil
  | cons r' t ih=>exact .cons r' ih
end
theorem uu (kvs:List (bE×W)) (k:bE) (w:W):(jk kvs k w).length<=kvs.length+1:=by
 unfold jk;split
 ·rw[length_map];lia
 ·rw[length_append,length_cons,length_nil];lia
noncomputable def GD (G:Gp) (a:Addr) (kvs:List (bE×W)):Prop:=G a=some (.dic kvs)∨∃o us,G a=some (.fdc o us kvs)
section
variable {K:yav} {H:Hp} {G:Gp} {a:Addr} {kvs:List (bE×W)}
theorem GD.rd (h:GD G a kvs) (g:aS K H G):kvs.length<=100000/\∃us,Rd H a (.dK us)/\DP K H kvs us:=by
 rcases h with h | ⟨o,us,h⟩
 ·obtain⟨l,us,e,n,r⟩:=g a _ h;exact⟨l,us,.inl e,DP.of n r⟩
 ·obtain⟨l,e,n,r⟩:=g a _ h;exact⟨l,us,.inr ⟨o,e⟩,DP.of n r⟩
theorem aW.dk {us:List (bE×V)} (hp:H a=some (.dK us)) (o:HO):aW H (upd H a o):=
 ⟨λ_ _ h=>by rw[aO (jB h hp (by intro z;cases z))];exact h,λ_ _ _ h=>by rw[aO (jB h hp (by intro z;cases z))];exact h⟩
end
section
variable {X:Cx} {π:List (Addr×Obj)} {σ:St} {H:Hp} {s:Shared} {A:Around} {E:yey}
noncomputable def oP:W2:=λx y G q=>match x,y with
 | .ref a,.str z=>∃kvs w,GD G a kvs/\fE kvs (.inr z)=some w/\q w G
 | x,y=>uo x y G q
theorem aI:A5 X oP:=by
 rintro value slice π s σ H x y v u Q I rx ry ⟨wx,wy,G,q,r1,r2,g,h,hQ⟩ hsl;unfold oP at h;split at h
 ·rename_i a z;obtain⟨kvs,w,hd,hv,h⟩:=h;cases r1;cases r2;cases rx;obtain⟨_,us,rd,dp⟩:=hd.rd g;obtain⟨hl,hm,vs,rel,dd⟩:=fq I.hok rd;rcases dp.val (.inr z) with⟨e,_⟩ | ⟨w',v',e,e',r⟩
  ·rw[e] at hv;cases hv
  ·rw[e] at hv;cases hv;obtain⟨u',hw,ru⟩:=fR.some_of (v:=v') (o:=valueAt vs (.inr z)) (by rw[←e'];exact rel.val (.inr z));exact tail_any dd.typeIs PySem.F.slot_dict_getitem.lookup (wpAny_getItem_of (pc (P:=X.prog) (w:=X.w) (k:= .inr z) ry) dd.mapOf hw ⟨v',H,I.tok _,ru,hQ _ H _ G (aW.refl H) r g h⟩) hsl
 ·exact BU value slice π s σ H x y v u Q I rx ry ⟨wx,wy,G,q,r1,r2,g,h,hQ⟩ hsl
structure Fu (ws:List W) (x:W):Prop where
 fx:x.flat=true
 fs:W.flats ws=true
 hd:W.deps ws<=149
inductive Dj (G:Gp) (a:Addr):W->Bool->Prop where
 | dic {kvs:List (bE×W)} {z:Str} (h:GD G a kvs):Dj G a (.str z) (fE kvs (.inr z)).isSome
 | lst {ws:List W} {x:W} (h:G a=some (.lst ws)) (l:Fu ws x):Dj G a x (ws.any λw=>w.eq x)
noncomputable def zW:W2:=λx y G q=>match y with
 | .ref a=>∃b,Dj G a x b/\q (.bl b) G
 | _=>False
noncomputable def uv:W2:=λx y G q=>match y with
 | .ref a=>∃b,Dj G a x b/\q (.bl (!b)) G
 | _=>False
theorem DP.isSome {kvs:List (bE×W)} {us:List (bE×V)} (d:DP K H kvs us) (k:bE):(kF us k).isSome=(fE kvs k).isSome:=by
 rcases d.val k with⟨e,e'⟩ | ⟨w',v',e,e',r⟩
 ·rw[e,e'];rfl
 ·rw[e,e'];rfl
open Classical in
theorem uw (hr:ay k X.A) {wx:W} {x:V} {v:Value} {ws:List W} {G:Gp} (I:aJ X π σ H s) (rx:bo x v) (r1:cr X.K H wx x) (g:aS X.K H G) (ea:G a=some (.lst ws)) (l:Fu ws wx):
 ∃(e:Value->Bool) (its:yez),s.heap.IsList a its.toArray/\(∀y,y∈its.toArray->SeqAt.EqAt X.A.in1 s y v (e y))/\(its.toArray.any e=ws.any λw=>w.eq wx)/\its.length=ws.length/\∀(i:Nat) (w:W) (z:Value),ws[i]?=some w->its[i]?=some z->e z=w.eq wx:=by
 obtain⟨_,xs,e1,ra⟩:=g _ _ ea;obtain⟨its,rv,p,_⟩:=I.list (dP.of e1);have l1:its.length=ws.length:=by rw[←rv.length,ra.length]
 have hu:=hr.un;have hd:=l.hd;have key:∀(i:Nat) (w:W) (z:Value),ws[i]?=some w->its[i]?=some z->decide (∃w',w'∈ws/\(∃v',cr X.K H w' v'/\bo v' z)/\w'.eq wx=true)=w.eq wx/\SeqAt.EqAt X.A.in1 s z v (w.eq wx):=λi w z ew ez=>by
  obtain⟨va,ea1,rva⟩:=ra.get ew;obtain⟨ua,eua,qa⟩:=rv.get ea1;rw[ez] at eua;cases eua;have fw:=W.flats_get l.fs ew;refine⟨?_,(fU I 150 X.A.in1 (w1:=w) (w2:=wx) (Nat.lt_of_le_of_lt (W.deps_get ew) (by (clear l1 hu ew ez ea1;lia))) fw l.fx (by show X.A.units+1+150<cLine;(clear l1 hd ew ez ea1;lia)) rva r1 qa rx).1⟩
  by_cases hw:w.eq wx=true
  ·rw[hw];exact ydz ⟨w,List.mem_of_getElem? ew,⟨va,rva,qa⟩,hw⟩
  ·have:¬∃w',w'∈ws/\(∃v',cr X.K H w' v'/\bo v' z)/\w'.eq wx=true:=λ⟨w',hm,⟨v',rv',qv'⟩,he⟩=>by
    obtain⟨j,hj⟩:=List.getElem?_of_mem hm;have hv:=qv'.inj qa;subst hv;have:=cr.inj (W.flats_get l.fs hj) fw rv' rva;subst this;exact hw he
   rw[ydy this];simpa using hw
 refine⟨λz=>decide (∃w',w'∈ws/\(∃v',cr X.K H w' v'/\bo v' z)/\w'.eq wx=true),its,p.isList,λz hz=>?_,?_,l1,λi w z ew ez=>(key i w z ew ez).1⟩
 ·obtain⟨i,hi⟩:=List.getElem?_of_mem (show z∈its by simpa using hz);have hi2:i<ws.length:=by rw[←l1];exact(List.getElem?_eq_some_iff.mp hi).1
  obtain⟨k1,k2⟩:=key i _ z (ycz hi2) hi;show SeqAt.EqAt _ s z v (decide _);rw[k1];exact k2
 ·rw[show its.toArray.any (λz=>decide (∃w',w'∈ws/\(∃v',cr X.K H w' v'/\bo v' z)/\w'.eq wx=true))=its.any (λz=>decide (∃w',w'∈ws/\(∃v',cr X.K H w' v'/\bo v' z)/\w'.eq wx=true)) by simp];rw[Bool.eq_iff_iff,List.any_eq_true,List.any_eq_true];constructor
  ·rintro⟨z,hz,he⟩;obtain⟨w',hm,_,he'⟩:=of_decide_eq_true he;exact⟨w',hm,he'⟩
  ·rintro⟨w,hm,he⟩;obtain⟨i,hi⟩:=List.getElem?_of_mem hm;have hi2:i<its.length:=by rw[l1];exact(List.getElem?_eq_some_iff.mp hi).1
   have k1:=(key i w its[i] hi (ycz hi2)).1;exact⟨its[i],getElem_mem hi2,k1.trans he⟩
theorem BY (hr:ay k X.A):fi X (compareOp .In) zW:=by
 rintro π s σ H x y v u Q I rx ry ⟨wx,wy,G,q,r1,r2,g,h,hQ⟩;unfold zW at h;split at h
 ·obtain⟨b,hb,h⟩:=h;cases r2;cases ry;cases hb with
  | dic hd=>
    cases r1;obtain⟨_,us,rd,dp⟩:=hd.rd g;obtain⟨hl,hm,vs,rel,dd⟩:=fq I.hok rd;refine wpAny_in_of (pc (P:=X.prog) (w:=X.w) (k:= .inr _) rx) hm dd.mapOf ⟨.bl _,H,I.tok _,rfl,hQ _ H _ G (aW.refl H) ?_ g h⟩;rw[←(rel.val _).isSome_eq,dp.isSome];exact .bl _
  | lst ea l=>
    obtain⟨e,its,p,he,ha,_⟩:=uw hr I rx r1 g ea l;refine SeqAt.in_listAt e p he ?_;rw[ha];exact⟨.bl _,H,I,rfl,hQ _ H _ G (aW.refl H) (.bl _) g h⟩
 ·exact h.elim
theorem uz (hr:ay k X.A):fi X (compareOp .NotIn) uv:=by
 rintro π s σ H x y v u Q I rx ry ⟨wx,wy,G,q,r1,r2,g,h,hQ⟩;unfold uv at h;split at h
 ·obtain⟨b,hb,h⟩:=h;cases r2;cases ry;cases hb with
  | dic hd=>
    cases r1;obtain⟨_,us,rd,dp⟩:=hd.rd g;obtain⟨hl,hm,vs,rel,dd⟩:=fq I.hok rd;refine wpAny_notIn_of (pc (P:=X.prog) (w:=X.w) (k:= .inr _) rx) hm dd.mapOf ⟨.bl _,H,I.tok _,rfl,hQ _ H _ G (aW.refl H) ?_ g h⟩;rw[←(rel.val _).isSome_eq,dp.isSome];exact .bl _
  | lst ea l=>
    obtain⟨e,its,p,he,ha,_⟩:=uw hr I rx r1 g ea l;refine SeqAt.notIn_listAt e p he ?_;rw[ha];exact⟨.bl _,H,I,rfl,hQ _ H _ G (aW.refl H) (.bl _) g h⟩
 ·exact h.elim
noncomputable def yd:WE:=λ_ G q=>∀p,G p=none->q (.ref p) (aX G p (.dic []))
theorem iG:QE X (.Dict [] [] pos) yd:=
 pe_dnewK.imp λσ H Q z0=>z0.el λτ G q hs hg ht hQ p hp=>hQ _ _ _ _ (aW.new hp _) (.ref p) (hg.lay (g:= .dic []) (aW.new hp _) ⟨zero_le _,[],bt,rfl,.nil⟩) (ht p (hg.fresh hp))
noncomputable def kW:bE->W
 | .inl i=> .int i
 | .inr x=> .str x
variable {tg:Expr}
end
section
variable {X:Cx} {elts:List Expr} {k:Nat} {tp:Pos}
end
section
variable {X:Cx} {π:List (Addr×Obj)} {σ:St} {H:Hp} {s:Shared}
inductive wW (G:Gp) (a:Addr):Nat->Prop where
 | lst {ws:List W} (h:G a=some (.lst ws)):wW G a ws.length
 | dic {kvs:List (bE×W)} (h:GD G a kvs):wW G a kvs.length
noncomputable def kg:List W->Gp->WK->Prop:=λws G q=>match ws with
 | [.ref a]=>∃n:Nat,wW G a n/\q (.int n) G
 | ws=>uq ws G q
theorem bB:eC X (.builtin "len") kg:=by
 rintro π s σ H xs us Q I r ⟨ws,G,q,rw',g,h,hQ⟩;unfold kg at h;split at h
 ·obtain⟨n,hn,h⟩:=h;cases hn with
  | lst e=>exact xP π s σ H xs us Q I r ⟨_,G,q,rw',g,⟨_,e,h⟩,hQ⟩
  | dic hd=>
    obtain⟨v,rfl,r1⟩:=rw'.one;cases r1;obtain⟨u,rfl,ru⟩:=eg r;cases ru;obtain⟨_,us,rd,dp⟩:=hd.rd g;refine AZ I rd λt s' I'=>⟨.int us.length,H,I',⟨t,rfl⟩,hQ _ H _ G (aW.refl H) ?_ g h⟩;rw[dp.len];exact .int _
 ·exact zV π s σ H xs us Q I r ⟨ws,G,q,rw',g,h,hQ⟩
inductive BZ (G:Gp) (a:Addr):List W->Prop where
 | lst {ws:List W} (h:G a=some (.lst ws)):BZ G a ws
 | dic {kvs:List (bE×W)} (h:GD G a kvs):BZ G a (kvs.map λp=>kW p.1)
inductive kh (G:Gp):W->W->Prop where
 | int (i:Int):kh G (.int i) (.int i)
 | lst {a b:Addr} {ws us:List W} (ea:G a=some (.lst ws)) (eb:G b=some (.lst us)) (f1:W.flats ws=true) (f2:W.flats us=true) (hd:W.deps ws<=8) (he:W.eqs ws us=true):kh G (.ref a) (.ref b)
inductive B0 (G:Gp) (a b:Addr):Bool->Prop where
 | lst {ws us:List W} (ea:G a=some (.lst ws)) (eb:G b=some (.lst us)) (f1:W.flats ws=true) (f2:W.flats us=true) (hd:W.deps ws<=149):B0 G a b (W.eqs ws us)
 | dic {kvs us:List (bE×W)} (ea:GD G a kvs) (eb:GD G b us) (hl:kvs.length=us.length) (hv:∀p,p∈kvs->∃w',fE us p.1=some w'/\kh G p.2 w'):B0 G a b true
noncomputable def B1:W2:=λx y G q=>match x,y with
 | .ref a,.ref b=>∃r,B0 G a b r/\q (.bl r) G
 | x,y=>vJ x y G q
noncomputable def B2:W2:=λx y G q=>match x,y with
 | .ref a,.ref b=>∃r,B0 G a b r/\q (.bl (!r)) G
 | x,y=>vK x y G q
theorem wX (hu:A.units+20<cLine) {G:Gp} {w1 w2:W} {v1 v2:V} {u1 u2:Value} (I:aJ X π σ H s) (g:aS X.K H G) (h:kh G w1 w2) (r1:cr X.K H w1 v1) (r2:cr X.K H w2 v2) (q1:bo v1 u1) (q2:bo v2 u2):SeqAt.EqAt A s u1 u2 true:=by
 cases h with
 | int i=>
   cases r1;cases r2;have:=(fU I 10 A (w1:= .int i) (w2:= .int i) (by show 0<10;decide) rfl rfl (by lia) (.int i) (.int i) q1 q2).1;rw[oM] at this;simpa using this
 | @lst a b ws us ea eb f1 f2 hd he=>
   cases r1;cases r2;cases q1;cases q2
   by_cases hne:a=b
   ·subst hne;exact SeqAt.EqAt.same _
   obtain⟨_,xs,e1,ra⟩:=g _ _ ea;obtain⟨_,ys,e2,rb⟩:=g _ _ eb;obtain⟨its,rv,p,_⟩:=I.list (dP.of e1);obtain⟨its2,rv2,p2,_⟩:=I.list (dP.of e2);have l1:its.length=ws.length:=by rw[←rv.length,ra.length]
   have l2:its2.length=us.length:=by rw[←rv2.length,rb.length]
   have hl:ws.length=us.length:=by
    by_cases hl:ws.length=us.length
    ·exact hl
    ·rw[kK hl] at he;cases he
   have c1:=SeqAt.RcAt.lists p.isList p2.isList (by rw[size_toArray,size_toArray,l1,l2,hl]) (A:=A) (by (clear hd l1 l2 hl;lia)) (DY I (n:=10) (by (clear hu l1 l2 hl;lia)) f1 f2 (by show A.units+1+10<cLine;(clear hd l1 l2 hl;lia)) ra rb rv rv2);have er:=fG ws us;rw[←hl,Nat.min_self,beq_self_eq_true,Bool.and_true] at er;rw[size_toArray,l1,er,he] at c1;exact SeqAt.EqAt.of_refs hne c1
theorem li (hu:A.units+20<cLine) {G:Gp} (I:aJ X π σ H s) (g:aS X.K H G) {kb:List (bE×Value)} {us:List (bE×W)} {ub:List (bE×V)} (db:DP X.K H us ub) (rb:KV ub kb):
 ∀{kvs:List (bE×W)} {ua:List (bE×V)} {ka:List (bE×Value)},DP X.K H kvs ua->KV ua ka->(∀p,p∈kvs->∃w',fE us p.1=some w'/\kh G p.2 w')->PySem.W.KeqHits A s kb ka true:=by
 intro kvs ua ka d
 induction d generalizing ka with
 | nil=>
   intro r _;cases r;exact .nil
 | @cons k w v kvs ua rw' t ih=>
   intro r hv;cases r with
   | @cons _ b _ bs r1 rt=>
     obtain⟨b1,b2⟩:=b;obtain⟨e1,r2⟩:=r1;cases (show k=b1 from e1);obtain⟨w',hw,sv⟩:=hv _ yby;rcases db.val k with⟨e,_⟩ | ⟨w2,v2,e,e',r3⟩
     ·rw[e] at hw;cases hw
     ·rw[e] at hw;cases hw;obtain⟨y,hy,ry⟩:=fR.some_of (v:=v2) (o:=valueAt kb k) (by rw[←e'];exact rb.val k);exact .hit (e:=true) (b:=true) hy (wX hu I g sv rw' r3 r2 ry) (ih rt λp hp=>hv p (ybx _ hp))
theorem B3 (hr:ay k X.A):fi X (compareOp .Eq) B1:=by
 rintro π s σ H x y v u Q I rx ry ⟨wx,wy,G,q,r1,r2,g,h,hQ⟩;unfold B1 at h;split at h
 ·obtain⟨r,he,h⟩:=h;cases he with
  | lst ea eb f1 f2 hd=>exact By hr π s σ H x y v u Q I rx ry ⟨_,_,G,q,r1,r2,g,⟨_,_,ea,eb,f1,f2,hd,h⟩,hQ⟩
  | dic ea eb hl hv=>
    cases r1;cases r2;cases rx;cases ry;have hu:=hr.un;obtain⟨_,ua,ra,da⟩:=ea.rd g;obtain⟨_,ub,rb,db⟩:=eb.rd g;obtain⟨_,ma,ka,qa,dda⟩:=fq I.hok ra;obtain⟨_,mb,kb,qb,ddb⟩:=fq I.hok rb;have hlen:ka.length=kb.length:=by rw[←qa.length,←qb.length,da.len,db.len,hl]
    refine PySem.W.keq_eq ma mb dda ddb (by (clear hl hlen;lia)) (λ_=>li (A:=X.A.in1) (by show X.A.units+1+20<cLine;(clear hl hlen;lia)) I g db qb da qa hv) ?_;rw[hlen,beq_self_eq_true,Bool.true_and];exact⟨.bl _,H,I,rfl,hQ _ H _ G (aW.refl H) (.bl _) g h⟩
 ·exact zm hr π s σ H x y v u Q I rx ry ⟨wx,wy,G,q,r1,r2,g,h,hQ⟩
theorem B4 (hr:ay k X.A):fi X (compareOp .NotEq) B2:=by
 rintro π s σ H x y v u Q I rx ry ⟨wx,wy,G,q,r1,r2,g,h,hQ⟩;unfold B2 at h;split at h
 ·obtain⟨r,he,h⟩:=h;cases he with
  | lst ea eb f1 f2 hd=>exact Bz hr π s σ H x y v u Q I rx ry ⟨_,_,G,q,r1,r2,g,⟨_,_,ea,eb,f1,f2,hd,h⟩,hQ⟩
  | dic ea eb hl hv=>
    cases r1;cases r2;cases rx;cases ry;have hu:=hr.un;obtain⟨_,ua,ra,da⟩:=ea.rd g;obtain⟨_,ub,rb,db⟩:=eb.rd g;obtain⟨_,ma,ka,qa,dda⟩:=fq I.hok ra;obtain⟨_,mb,kb,qb,ddb⟩:=fq I.hok rb;have hlen:ka.length=kb.length:=by rw[←qa.length,←qb.length,da.len,db.len,hl]
    refine PySem.W.keq_ne ma mb dda ddb (by (clear hl hlen;lia)) (λ_=>li (A:=X.A.in1) (by show X.A.units+1+20<cLine;(clear hl hlen;lia)) I g db qb da qa hv) ?_;rw[hlen,beq_self_eq_true,Bool.true_and];exact⟨.bl _,H,I,rfl,hQ _ H _ G (aW.refl H) (.bl _) g h⟩
 ·exact zn hr π s σ H x y v u Q I rx ry ⟨wx,wy,G,q,r1,r2,g,h,hQ⟩
structure GV (ws:List W) (x:W) (j:Nat):Prop where
 hit:∃w,ws[j]?=some w/\w.eq x=true
 no:∀m w,m<j->ws[m]?=some w->w.eq x=false
end
section
variable {prog:Program} {w:World} {A:Around} {R:Result->Shared->Prop} {I:Addr} {fp wr:List Addr} {Gn:Array GenState->Array GenState->Prop} {n:Nat} {P:Nat->Value->Prop} {St:Nat->Shared->Prop}
end
section
variable {prog:Program} {w:World} {A:Around} {E:yey} {s:Shared}
set_option maxHeartbeats 3200000 in
end
section
variable {X:Cx}
end
section
variable {X:Cx} {π:List (Addr×Obj)} {σ:St} {H:Hp} {s:Shared}
set_option maxHeartbeats 4000000 in
inductive B5 (G:Gp) (a:Addr) (kvs:List (bE×W)):Prop where
 | dic (h:GD G a kvs):B5 G a kvs
 | lst {ps:List (bE×W)} (h:G a=some (.lst (ps.map λp=> .tup [kW p.1,p.2]))) (e:kvs=ps.foldl (λa p=>jk a p.1 p.2) []):B5 G a kvs
end
section
variable {prog:Program} {w:World} {A:Around} {s:Shared}
noncomputable def jl (prog:Program) (w:World) (A:Around) (s:Shared) (u v:Value):Prop:=∀(E:yey) (Q:Bool->Shared->Prop),Q true s->wpAny (model prog w) A (eqBool u v) Q E s
theorem jl.of {u v:Value} (h:SeqAt.EqAt A s u v true):jl prog w A s u v:=λE Q q=>h prog w E Q q
theorem jl.refs {l b:Addr} (h:l≠b->∀(E:yey) (Q:yey),Q (.bool true) s->wpAny (model prog w) A (richCompare .Eq (.ref l) (.ref b)) Q E s):jl prog w A s (.ref l) (.ref b):=by
 by_cases hne:l=b
 ·subst hne;exact .of (SeqAt.EqAt.same _)
 ·exact λE Q q=>wpAny_holding (wpAny_ite_split (λhab=>absurd (by have:=eq_of_beq hab;injection this) hne) λ_=>wax (h hne E _ (wpAny_truthy_bool q)))
theorem wY {l b:Addr} {x1 x2 y1 y2:Value} (hl:s.heap.IsTuple l #[x1,x2]) (hb:s.heap.IsTuple b #[y1,y2]) (hu:A.units<cLine) (h1:jl prog w A.in1 s x1 y1) (h2:jl prog w A.in1 s x2 y2) (E:yey) (Q:yey) (q:Q (.bool true) s):
 wpAny (model prog w) A (richCompare .Eq (.ref l) (.ref b)) Q E s:=by
 obtain⟨o1,e1,c1,n1,d1⟩:=id hl;obtain⟨o2,e2,c2,n2,d2⟩:=id hb;refine wpAny_richCompare_same_room (T:="tuple") ⟨o1,e1,c1⟩ ⟨o2,e2,c2⟩ PySem.F.slot_tuple_eq (wpAny_call_entry PySem.F.slot_tuple_eq ⟨o1,e1,c1⟩ PySem.F.entry_tuple_eq ?_ (PySem.F.args_tuple_eq_2 _ _)) hu;unfold Builtin.«tuple.__eq__»
 k_delta "compare"
 refine wax ?_;unfold slotArgs;refine wpAny_ite_false (by rfl) (wpAny_ite_false (by rfl) (wpAny_pure ?_));dsimp only;refine wax (wpAny_isInstance (T:="tuple") (b:=true) ⟨o2,e2,c2⟩ (by rfl) ?_);refine wpAny_ite_false (by rfl) ?_;refine wax (wpAny_tupleItemsOf e1 d1 ?_);refine wax (wpAny_tupleItemsOf e2 d2 ?_);rw[show(#[x1,x2]:Array Value).toList.zip (#[y1,y2]:Array Value).toList=[(x1,y1),(x2,y2)] from rfl];simp only[forIn_cons,List.forIn_nil];refine wax (wax (wax (h1 _ _ ?_)));refine wpAny_ite_false (by rfl) (wpAny_pure ?_);dsimp only;refine wax (wax (h2 _ _ ?_));refine wpAny_ite_false (by rfl) (wpAny_pure ?_);refine wpAny_pure ?_;dsimp only;exact wpAny_pure ⟨.bool true,rfl,(λz=>nomatch z),q⟩
theorem lj {c:Int} {r:Bool} (hc:(c=2/\r=true)∨(c=3/\r=false)) {l b:Addr} {items items2:Array Value} {o1 o2:Obj} {n1 n2:Nat} (e1:s.heap.get? l=some o1) (d1:o1.data=.seq items n1) (e2:s.heap.get? b=some o2) (d2:o2.data=.seq items2 n2) (hz:items.size=items2.size) {R:Result->Shared->Prop}
 (he:∀(j:Nat) (u v:Value),items[j]?=some u->items2[j]?=some v->jl prog w A.in1 s u v) (hR:R (.ok (.ret (.bool r))) s):
 ∀(m i:Nat) (t t':Tok),i+m=items.size->codeAny (model prog w) A (.builtin "list.__eq__.loop" ⟨[.ref l,.ref b,.int (i:Int) t,.int c t'],[]⟩) R s
 | 0,i,t,t',hi=>by
   refine codeAny_builtin PySem.MeetsSeq3.entry_eq_loop ?_;have n1:items[i]?=none:=by simp;(clear hc;lia)
   unfold Builtin.«list.__eq__.loop»
   k_delta "cmpOps"
   rcases hc with⟨rfl,rfl⟩ | ⟨rfl,rfl⟩
   ·dsimp only;rw[show(([CmpOp.Lt,CmpOp.LtE,CmpOp.Eq,CmpOp.NotEq,CmpOp.Gt,CmpOp.GtE]:List CmpOp)[Int.toNat 2]?)=some CmpOp.Eq from rfl];refine wax (wpAny_listItems e1 d1 (wax (wpAny_listItems e2 d2 ?_)));rw[Int.toNat_natCast,n1];refine wax (wpAny_listItems e1 d1 (wax (wpAny_listItems e2 d2 ?_)));refine wpAny_pure ?_;show R (Except.ok (Flow.ret (Value.bool (items.size==items2.size)))) s;rw[hz,beq_self_eq_true];exact hR
   ·dsimp only;rw[show(([CmpOp.Lt,CmpOp.LtE,CmpOp.Eq,CmpOp.NotEq,CmpOp.Gt,CmpOp.GtE]:List CmpOp)[Int.toNat 3]?)=some CmpOp.NotEq from rfl];refine wax (wpAny_listItems e1 d1 (wax (wpAny_listItems e2 d2 ?_)));rw[Int.toNat_natCast,n1];refine wax (wpAny_listItems e1 d1 (wax (wpAny_listItems e2 d2 ?_)));refine wpAny_pure ?_;show R (Except.ok (Flow.ret (Value.bool (items.size !=items2.size)))) s;rw[hz,bne_self_eq_false];exact hR
 | m+1,i,t,t',hi=>by
   have ih:=lj hc e1 d1 e2 d2 hz he hR m (i+1) 0 0 (by (clear hc;lia));refine codeAny_builtin PySem.MeetsSeq3.entry_eq_loop ?_;have l1:i<items.size:=by (clear hc;lia)
   have n1:items[i]?=some items[i]:=by simp
   have n2:items2[i]?=some (items2[i]'(by (clear hc l1 n1;lia))):=by simp
   unfold Builtin.«list.__eq__.loop»
   k_delta "cmpOps"
   rcases hc with⟨rfl,rfl⟩ | ⟨rfl,rfl⟩
   ·dsimp only;rw[show(([CmpOp.Lt,CmpOp.LtE,CmpOp.Eq,CmpOp.NotEq,CmpOp.Gt,CmpOp.GtE]:List CmpOp)[Int.toNat 2]?)=some CmpOp.Eq from rfl];refine wax (wpAny_listItems e1 d1 (wax (wpAny_listItems e2 d2 ?_)));rw[Int.toNat_natCast,n1,n2];refine wax (he i _ _ n1 n2 _ _ ?_);refine wpAny_ite_true (by rfl) ?_;exact wpAny_pure ⟨PySem.plainId_quiet PySem.MeetsSeq3.plain_eq_loop _,ih⟩
   ·dsimp only;rw[show(([CmpOp.Lt,CmpOp.LtE,CmpOp.Eq,CmpOp.NotEq,CmpOp.Gt,CmpOp.GtE]:List CmpOp)[Int.toNat 3]?)=some CmpOp.NotEq from rfl];refine wax (wpAny_listItems e1 d1 (wax (wpAny_listItems e2 d2 ?_)));rw[Int.toNat_natCast,n1,n2];refine wax (he i _ _ n1 n2 _ _ ?_);refine wpAny_ite_true (by rfl) ?_;exact wpAny_pure ⟨PySem.plainId_quiet PySem.MeetsSeq3.plain_eq_loop _,ih⟩
theorem wZ {op:CmpOp} {r:Bool} (hop:(op=.Eq/\r=true)∨(op=.NotEq/\r=false)) {l b:Addr} {items items2:Array Value} (hl:s.heap.IsList l items) (hb:s.heap.IsList b items2) (hz:items.size=items2.size) (hu:A.units<cLine)
 (he:∀(j:Nat) (u v:Value),items[j]?=some u->items2[j]?=some v->jl prog w A.in1 s u v) (E:yey) (Q:yey) (q:Q (.bool r) s):
 wpAny (model prog w) A (richCompare op (.ref l) (.ref b)) Q E s:=by
 obtain⟨o1,e1,c1,n1,d1⟩:=id hl;obtain⟨o2,e2,c2,n2,d2⟩:=id hb;rcases hop with⟨rfl,rfl⟩ | ⟨rfl,rfl⟩
 ·refine wpAny_richCompare_same_room (T:="list") ⟨o1,e1,c1⟩ ⟨o2,e2,c2⟩ PySem.F.slot_list_eq (call_meetsIn PySem.F.slot_list_eq ⟨o1,e1,c1⟩ PySem.F.entry_list_eq (PySem.F.args_list_eq_2 _ _) (S:=λA' R s'=>A'=A/\s'=s/\R (.ok (.ret (.bool true))) s) ?_ ⟨rfl,rfl,(λz=>nomatch z),q⟩) hu;rintro A' R s' ⟨rfl,rfl,hR⟩;unfold Builtin.«list.__eq__»
  k_delta "listCompare"
  refine wax ?_;unfold slotArgs;refine wpAny_ite_false (by rfl) (wpAny_ite_false (by rfl) (wpAny_pure ?_));dsimp only;refine wax (wpAny_isInstance (T:="list") (b:=true) ⟨o2,e2,c2⟩ PySem.AutoSeq1.sub_list_list ?_);refine wpAny_ite_false (by rfl) ?_;refine wpAny_ite_true (by rfl) ?_;refine wax (wpAny_listItems e1 d1 (wax (wpAny_listItems e2 d2 ?_)));refine wpAny_ite_false (by rw[hz,bne_self_eq_false];rfl) ?_;exact wpAny_pure ⟨PySem.plainId_quiet PySem.MeetsSeq3.plain_eq_loop _,lj (.inl ⟨rfl,rfl⟩) e1 d1 e2 d2 hz he hR items.size 0 0 0 (by (clear hz hu;lia))⟩
 ·refine wpAny_richCompare_same_room (T:="list") ⟨o1,e1,c1⟩ ⟨o2,e2,c2⟩ PySem.F.slot_list_ne (call_meetsIn PySem.F.slot_list_ne ⟨o1,e1,c1⟩ PySem.F.entry_list_ne (PySem.F.args_list_ne_2 _ _) (S:=λA' R s'=>A'=A/\s'=s/\R (.ok (.ret (.bool false))) s) ?_ ⟨rfl,rfl,(λz=>nomatch z),q⟩) hu;rintro A' R s' ⟨rfl,rfl,hR⟩;unfold Builtin.«list.__ne__»
  k_delta "listCompare"
  refine wax ?_;unfold slotArgs;refine wpAny_ite_false (by rfl) (wpAny_ite_false (by rfl) (wpAny_pure ?_));dsimp only;refine wax (wpAny_isInstance (T:="list") (b:=true) ⟨o2,e2,c2⟩ PySem.AutoSeq1.sub_list_list ?_);refine wpAny_ite_false (by rfl) ?_;refine wpAny_ite_true (by rfl) ?_;refine wax (wpAny_listItems e1 d1 (wax (wpAny_listItems e2 d2 ?_)));refine wpAny_ite_false (by rw[hz,bne_self_eq_false];rfl) ?_;exact wpAny_pure ⟨PySem.plainId_quiet PySem.MeetsSeq3.plain_eq_loop _,lj (.inr ⟨rfl,rfl⟩) e1 d1 e2 d2 hz he hR items.size 0 0 0 (by (clear hz hu;lia))⟩
end
section
variable {X:Cx} {π:List (Addr×Obj)} {σ:St} {H:Hp} {s:Shared}
inductive gK (G:Gp):Nat->W->W->Prop where
 | flat {n:Nat} {x y:W} (f1:x.flat=true) (f2:y.flat=true) (hd:x.dep<=140) (he:x.eq y=true):gK G n x y
 | same {n:Nat} {a:Addr}:gK G n (.ref a) (.ref a)
 | dic {n:Nat} {a b:Addr} {kvs us:List (bE×W)} (ea:GD G a kvs) (eb:GD G b us) (hl:kvs.length=us.length) (hv:∀p,p∈kvs->∃w',fE us p.1=some w'/\kh G p.2 w'):gK G n (.ref a) (.ref b)
 | pair {n:Nat} {x1 x2 y1 y2:W} (h1:gK G n x1 y1) (h2:gK G n x2 y2):gK G (n+1) (.tup [x1,x2]) (.tup [y1,y2])
theorem rK {G:Gp} (I:aJ X π σ H s) (g:aS X.K H G) {n:Nat} {w1 w2:W} (h:gK G n w1 w2):∀{A:Around} {v1 v2:V} {u1 u2:Value},A.units+n+160<cLine->cr X.K H w1 v1->cr X.K H w2 v2->bo v1 u1->bo v2 u2->jl X.prog X.w A s u1 u2:=by
 induction h with
 | @flat n x y f1 f2 hd he=>
   intro A v1 v2 u1 u2 hu r1 r2 q1 q2;have:=(fU I 150 A (w1:=x) (w2:=y) (by (clear hu;lia)) f1 f2 (by (clear hd;lia)) r1 r2 q1 q2).1;rw[he] at this;exact .of this
 | same=>
   intro A v1 v2 u1 u2 hu r1 r2 q1 q2;cases r1;cases r2;cases q1;cases q2;exact .of (SeqAt.EqAt.same _)
 | @dic n a b kvs us ea eb hl hv=>
   intro A v1 v2 u1 u2 hu r1 r2 q1 q2;cases r1;cases r2;cases q1;cases q2;obtain⟨_,ua,ra,da⟩:=ea.rd g;obtain⟨_,ub,rb,db⟩:=eb.rd g;obtain⟨_,ma,ka,qa,dda⟩:=fq I.hok ra;obtain⟨_,mb,kb,qb,ddb⟩:=fq I.hok rb;have hlen:ka.length=kb.length:=by rw[←qa.length,←qb.length,da.len,db.len,hl]
   refine jl.refs λhne E Q q=>?_;refine PySem.W.keq_eq ma mb dda ddb (by (clear hl hlen;lia)) (λ_=>li (A:=A.in1) (by show A.units+1+20<cLine;(clear hl hlen;lia)) I g db qb da qa hv) ?_;rw[hlen,beq_self_eq_true,Bool.true_and];exact q
 | @pair n x1 x2 y1 y2 h1 h2 ih1 ih2=>
   intro A v1 v2 u1 u2 hu r1 r2 q1 q2;cases r1 with
   | @tup a _ xs hT rr=>
     cases r2 with
     | @tup b _ ys hT2 rr2=>
       cases (show u1=Value.ref a from q1);cases (show u2=Value.ref b from q2);obtain⟨its,rv,hp,_⟩:=I.tuple (dQ.of hT);obtain⟨its2,rv2,hp2,_⟩:=I.tuple (dQ.of hT2);cases rr with
       | cons a1 rr=>
         cases rr with
         | cons a2 rr=>
           cases rr;cases rr2 with
           | cons b1 rr2=>
             cases rr2 with
             | cons b2 rr2=>
               cases rr2;obtain⟨p1,p2,rfl,c1,c2⟩:=n8 rv;obtain⟨t1,t2,rfl,d1,d2⟩:=n8 rv2;exact jl.refs λhne E Q q=>wY hp hp2 (by lia) (ih1 (A:=A.in1) (by show A.units+1+n+160<cLine;lia) a1 b1 c1 d1) (ih2 (A:=A.in1) (by show A.units+1+n+160<cLine;lia) a2 b2 c2 d2) E Q q
inductive ye (G:Gp) (a b:Addr):Bool->Prop where
 | old {r:Bool} (h:B0 G a b r):ye G a b r
 | nil {ws:List W} (ea:G a=some (.lst ws)) (eb:G b=some (.lst [])):ye G a b ws.isEmpty
 | deep {ws us:List W} (ea:G a=some (.lst ws)) (eb:G b=some (.lst us)) (hl:ws.length=us.length) (he:∀(j:Nat) (x y:W),ws[j]?=some x->us[j]?=some y->gK G 9 x y):ye G a b true
noncomputable def lq:W2:=λx y G q=>match x,y with
 | .ref a,.ref b=>∃r,ye G a b r/\q (.bl r) G
 | x,y=>vJ x y G q
noncomputable def nj:W2:=λx y G q=>match x,y with
 | .ref a,.ref b=>∃r,ye G a b r/\q (.bl (!r)) G
 | x,y=>vK x y G q
theorem iH (hr:ay k X.A) {op:CmpOp} {r:Bool} (hop:(op=.Eq/\r=true)∨(op=.NotEq/\r=false)) {G:Gp} (I:aJ X π σ H s) (g:aS X.K H G) {a b:Addr} {ws us:List W} (ea:G a=some (.lst ws)) (eb:G b=some (.lst us)) (hl:ws.length=us.length)
 (he:∀(j:Nat) (x y:W),ws[j]?=some x->us[j]?=some y->gK G 9 x y) (E:yey) (Q:yey) (q:Q (.bool r) s):wpAny (model X.prog X.w) X.A (richCompare op (.ref a) (.ref b)) Q E s:=by
 have hu:=hr.un;obtain⟨_,xs,e1,ra⟩:=g _ _ ea;obtain⟨_,ys,e2,rb⟩:=g _ _ eb;obtain⟨its,rv,p,_⟩:=I.list (dP.of e1);obtain⟨its2,rv2,p2,_⟩:=I.list (dP.of e2);have l1:its.length=ws.length:=by rw[←rv.length,ra.length]
 have l2:its2.length=us.length:=by rw[←rv2.length,rb.length]
 refine wZ hop p.isList p2.isList (by rw[size_toArray,size_toArray,l1,l2,hl]) (by (clear hl l1 l2;lia)) (λj u v hj hv=>?_) E Q q;rw[List.getElem?_toArray] at hj hv;have j1:j<ws.length:=by
  rw[←l1];exact(List.getElem?_eq_some_iff.mp hj).1
 have gw:=ycz j1;have gu:=ycz (show j<us.length by (clear hu hj hv gw;lia));obtain⟨x,hx,rx⟩:=ra.get gw;obtain⟨y,hy,ry⟩:=rb.get gu;obtain⟨u',hu',qu⟩:=rv.get hx;obtain⟨v',hv',qv⟩:=rv2.get hy;rw[hj] at hu';rw[hv] at hv';cases hu';cases hv';exact rK I g (he j _ _ gw gu) (A:=X.A.in1) (by show X.A.units+1+9+160<cLine;lia) rx ry qu qv
theorem uA (hr:ay k X.A) {G:Gp} (I:aJ X π σ H s) (g:aS X.K H G) {a b:Addr} {x:W} {ws:List W} (ea:G a=some (.lst (x::ws))) (eb:G b=some (.lst [])) (E:yey) (Q:yey):
 (Q (.bool false) s->wpAny (model X.prog X.w) X.A (richCompare .Eq (.ref a) (.ref b)) Q E s)/\(Q (.bool true) s->wpAny (model X.prog X.w) X.A (richCompare .NotEq (.ref a) (.ref b)) Q E s):=by
 have hu:=hr.un;obtain⟨_,xs,e1,ra⟩:=g _ _ ea;obtain⟨_,ys,e2,rb⟩:=g _ _ eb;obtain⟨its,rv,p,_⟩:=I.list (dP.of e1);obtain⟨its2,rv2,p2,_⟩:=I.list (dP.of e2);have l1:its.length=(x::ws).length:=by rw[←rv.length,ra.length]
 have l2:its2.length=([]:List W).length:=by rw[←rv2.length,rb.length]
 have ne:(its.toArray.size !=its2.toArray.size)=true:=by rw[size_toArray,size_toArray,l1,l2];simp
 exact⟨λq=>SeqAt.RcAt.lists_lengths p.isList p2.isList (by simpa using ne) (A:=X.A) (by (clear l1 l2;lia)) X.prog X.w E Q q,λq=>SeqAt.RcNeAt.lists_lengths p.isList p2.isList (by simpa using ne) (A:=X.A) (by (clear l1 l2;lia)) X.prog X.w E Q q⟩
theorem ba (hr:ay k X.A):fi X (compareOp .Eq) lq:=by
 rintro π s σ H x y v u Q I rx ry ⟨wx,wy,G,q,r1,r2,g,h,hQ⟩;unfold lq at h;split at h
 ·rename_i a b;obtain⟨r,he,h⟩:=h;have fin:EP X π σ Q (.bool r) s:=⟨.bl _,H,I,rfl,hQ _ H _ G (aW.refl H) (.bl _) g h⟩;cases he with
  | old he=>exact B3 hr π s σ H x y v u Q I rx ry ⟨_,_,G,q,r1,r2,g,⟨r,he,h⟩,hQ⟩
  | @nil ws ea eb=>
    cases r1;cases r2;cases rx;cases ry;cases ws with
    | nil=>exact iH hr (.inl ⟨rfl,rfl⟩) I g ea eb rfl (λj x y z=>by cases z) X.xe _ fin
    | cons x ws=>exact(uA hr I g ea eb X.xe _).1 fin
  | deep ea eb hl he=>
    cases r1;cases r2;cases rx;cases ry;exact iH hr (.inl ⟨rfl,rfl⟩) I g ea eb hl he X.xe _ fin
 ·exact zm hr π s σ H x y v u Q I rx ry ⟨wx,wy,G,q,r1,r2,g,h,hQ⟩
theorem dM (hr:ay k X.A):fi X (compareOp .NotEq) nj:=by
 rintro π s σ H x y v u Q I rx ry ⟨wx,wy,G,q,r1,r2,g,h,hQ⟩;unfold nj at h;split at h
 ·rename_i a b;obtain⟨r,he,h⟩:=h;have fin:EP X π σ Q (.bool (!r)) s:=⟨.bl _,H,I,rfl,hQ _ H _ G (aW.refl H) (.bl _) g h⟩;cases he with
  | old he=>exact B4 hr π s σ H x y v u Q I rx ry ⟨_,_,G,q,r1,r2,g,⟨r,he,h⟩,hQ⟩
  | @nil ws ea eb=>
    cases r1;cases r2;cases rx;cases ry;cases ws with
    | nil=>exact iH hr (.inr ⟨rfl,rfl⟩) I g ea eb rfl (λj x y z=>by cases z) X.xe _ fin
    | cons x ws=>exact(uA hr I g ea eb X.xe _).2 fin
  | deep ea eb hl he=>
    cases r1;cases r2;cases rx;cases ry;exact iH hr (.inr ⟨rfl,rfl⟩) I g ea eb hl he X.xe _ fin
 ·exact zn hr π s σ H x y v u Q I rx ry ⟨wx,wy,G,q,r1,r2,g,h,hQ⟩
end
section
variable {X:Cx} {pos:Pos}
noncomputable abbrev yf:=dR->Gp->(List (Str×W)->Gp->Prop)->Prop
noncomputable def FL (K:yav) (t:yf) (σ:St) (H:Hp) (Q:List (V×V)->Hp->Prop):Prop:=
 ∃τ G q,bn K H τ σ/\aS K H G/\t τ G q/\∀(kvs:List (Str×V)) (H1:Hp) (kws:List (Str×W)) (G1:Gp),aW H H1->kvs.map (·.1)=kws.map (·.1)->aT K H1 (kws.map (·.2)) (kvs.map (·.2))->aS K H1 G1->q kws G1->Q (kvs.map λp=>(.str p.1,p.2)) H1
noncomputable def Dk (X:Cx) (pos:Pos) (keys:List (Option Expr)) (values:List Expr) (t:yf):Prop:=
 ∀(π:List (Addr×Obj)) (s:Shared) (σ:St) (H:Hp) (Q:List (V×V)->Hp->Prop),aJ X π σ H s->FL X.K t σ H Q->
  wpAny (model X.prog X.w) X.A (evalPairs (pairTrees keys values X.env pos)) (λvs s'=>∃ps H',aJ X π σ H' s'/\VV ps vs/\Q ps H') X.xe s
noncomputable def Fv:yf:=λ_ G q=>q [] G
theorem w6:Dk X pos [] [] Fv:=λπ s σ H Q I ⟨τ,G,q,hs,hg,ht,hQ⟩=>pairTrees_nil_walk ⟨[],H,I,.nil,hQ [] H [] G (aW.refl H) rfl .nil hg ht⟩
noncomputable def putAll (a:List (bE×W)) (kws:List (Str×W)):List (bE×W):=kws.foldl (λa p=>jk a (.inr p.1) p.2) a
theorem uB {K:yav} {H:Hp}:∀{kws:List (Str×W)} {kvs:List (Str×V)} {a:List (bE×W)} {b:List (bE×V)},DP K H a b->kvs.map (·.1)=kws.map (·.1)->aT K H (kws.map (·.2)) (kvs.map (·.2))->DP K H (putAll a kws) (fT b (kvs.map λp=>(.inr p.1,p.2)))
 | [],[],_,_,d,_,_=>d
 | [],_::_,_,_,_,e,_=>by cases e
 | _::_,[],_,_,_,e,_=>by cases e
 | p::kws,r::kvs,a,b,d,e,rr=>by
   rw[map_cons,map_cons] at e rr;obtain⟨e1,e2⟩:=List.cons.inj e;cases rr with
   | cons r1 r2=>
     have:=uB (d.put (.inr p.1) r1) e2 r2;show DP K H (putAll (jk a (.inr p.1) p.2) kws) (fT (iR b (.inr r.1) r.2) _);rw[e1];exact this
theorem jm:∀(kws:List (Str×W)) (a:List (bE×W)),(putAll a kws).length<=a.length+kws.length
 | [],a=>ycx _
 | p::kws,a=>by
   have h1:=jm kws (jk a (.inr p.1) p.2);have h2:=uu a (.inr p.1) p.2;show(putAll (jk a (.inr p.1) p.2) kws).length<=_;rw[length_cons];lia
noncomputable def yg (t:yf):WE:=λτ G q=>∀p,G p=none->t τ (aX G p (.dic [])) λkws G2=>G2 p=some (.dic [])/\kws.length<=15/\q (.ref p) (aX G2 p (.dic (putAll [] kws)))
theorem w9 {keys:List (Option Expr)} {values:List Expr} {t:yf} (h:Dk X pos keys values t) (hall:keys.all (·.isSome)=true:=by rfl) (hl:keys.length=values.length:=by rfl) (h0:keys≠[]:=by exact λz=>nomatch z)
 (h15:keys.length<=15:=by decide):QE X (.Dict keys values pos) (yg t):=by
 rintro π s σ H Q I ⟨τ,G,q,hs,hg,ht,hQ⟩;have hn:=I.hok.fresh (ycx s.heap.objs.size);have I1:=I.laid (a:=s.heap.objs.size) (o:= .dK []) (h':=s.heap.push { cls:= .type "dict",data:= .dict #[] }) (t':=s.toks) (λ_ _ q=>ybz _ q) (ycx _) (jK s.heap I.bigD);have t1:aW H (upd H s.heap.objs.size (.dK [])):=aW.new hn _;have g1:aS X.K (upd H s.heap.objs.size (.dK [])) (aX G s.heap.objs.size (.dic [])):=hg.lay (g:= .dic []) t1 ⟨zero_le _,[],bt,rfl,.nil⟩;refine wpAny_Dict_walk (knd:=dw X.prog X.w) hall hl h0 h15 (ca (h π _ σ _ (λps H2=>∃(kvs:List (Str×V)) (kws:List (Str×W)) (G2:Gp),ps=kvs.map (λp=>(.str p.1,p.2))/\aW (upd H s.heap.objs.size (.dK [])) H2/\kvs.map (·.1)=kws.map (·.1)/\aT X.K H2 (kws.map (·.2)) (kvs.map (·.2))/\aS X.K H2 G2/\G2 s.heap.objs.size=some (.dic [])/\kws.length<=15/\q (.ref s.heap.objs.size) (aX G2 s.heap.objs.size (.dic (putAll [] kws)))) I1 ⟨τ,_,_,hs.mono t1,g1,ht _ (hg.fresh hn),λkvs H2 kws G2 t2 e2 r2 g2 q2=>⟨kvs,kws,G2,rfl,t2,e2,r2,g2,q2⟩⟩) λws s2 z9=>?_);obtain⟨ps,H2,I2,rel,kvs,kws,G2,ep,t2,e2,r2,g2,gp,lk,q2⟩:=z9;subst ep;have lv:kvs.length=kws.length:=by have:=congrArg List.length e2;rwa [length_map,length_map] at this
 have em:(kvs.map λp=>((.str p.1:V),p.2))=(kvs.map λp=>((.inr p.1:bE),p.2)).map (λkv=>(kV kv.1,kv.2)):=by rw[map_map];rfl
 rw[em] at rel;obtain⟨rs,c,rk⟩:=iS (P:=X.prog) (w:=X.w) rel;obtain⟨_,us,e,n4,_⟩:=g2 _ _ gp;have eu:us=[]:=List.map_eq_nil_iff.mp n4;subst eu;obtain⟨z,hd,vs0,r0,dd⟩:=AY I2.hok e;cases r0;have t3:=aW.dk e (.dK (fT [] (kvs.map λp=>((.inr p.1:bE),p.2))));have dp:=(uB (K:=X.K) (H:=H2) (a:=[]) (b:=[]) (DP.of rfl .nil) e2 r2).mono t3;refine⟨rs,c,dd,λh' dd' hs'=>⟨.ref s.heap.objs.size,_,?_,rfl,hQ _ _ _ _ ((t1.trans t2).trans t3) (.ref _) (g2.lay (g:= .dic _) t3 ⟨?_,_,bt,dp.keys,dp.vals⟩) q2⟩⟩
 ·have hz:(fT [] (kvs.map λp=>((.inr p.1:bE),p.2))).length<=sizeLine:=by
   have h1:=fO (kvs.map λp=>((.inr p.1:bE),p.2)) [];rw[length_nil,length_map] at h1;rw[sizeLine_eq];(clear hl h15 z;lia)
  have he:∃q,h'.get? s.heap.objs.size=some q:=let ⟨q,_,_,hq,_⟩:=dd';⟨q,hq⟩;exact vD I2 (by rw[e];exact True.intro) hs' he (y8 hz hd (rk.merge .nil) dd')
 ·have:=jm kws [];rw[length_nil] at this
  (clear hl h15 z;lia)
end
section
variable {X:Cx} {tg:Expr}
end
section
variable {P:Program} {w:World} {K:yav} {mg:yew} {base:Heap} {N:List Str} {qual:Str} {scope:Scope} {f:Addr} {cdv:Value} {A:Around} {outer:List Env} {s:Shared} {H:Hp} {E:XK}
end
section
variable {X:Cx} {pos:Pos}
noncomputable def B6 (tk tv:WE) (tr:yf):yf:=λτ G q=>tk τ G λkw G1=>∃z,kw=.str z/\tv τ G1 λw G2=>tr τ G2 λkws G3=>q ((z,w)::kws) G3
theorem rL {ke v:Expr} {ks:List (Option Expr)} {vs:List Expr} {tk tv:WE} {tr:yf} (hk:QE X ke tk) (hv:QE X v tv) (hr:Dk X pos ks vs tr):Dk X pos (some ke::ks) (v::vs) (B6 tk tv tr):=
 λπ s σ H Q I ⟨τ,G,q,hs,hg,ht,hQ⟩=>
  pairTrees_cons_walk (ca (hk π s σ H (λv H1=>∃z G1,v=.str z/\aW H H1/\aS X.K H1 G1/\tv τ G1 λw G2=>tr τ G2 λkws G3=>q ((z,w)::kws) G3) I ⟨τ,G,_,hs,hg,ht,λv H1 w G1 t1 r1 g1 q1=>by
   obtain⟨z,ez,q1⟩:=q1;subst ez;cases r1;exact⟨z,G1,rfl,t1,g1,q1⟩⟩) λu s1 ⟨x,H1,I1,rx,z,G1,e1,t0,g0,q0⟩=>by
   subst e1;refine ca (hv π s1 σ H1 (λv H2=>∃w G2,aW H1 H2/\cr X.K H2 w v/\aS X.K H2 G2/\tr τ G2 λkws G3=>q ((z,w)::kws) G3) I1 ⟨τ,G1,_,hs.mono t0,g0,q0,λv H2 w G2 t2 r2 g2 q2=>⟨w,G2,t2,r2,g2,q2⟩⟩) λw2 s2 z9=>?_;obtain⟨y,H2,I2,ry,w,G2,t2,r2,g2,q2⟩:=z9;refine ca (hr π s2 σ H2 (λps H3=>Q ((.str z,y)::ps) H3) I2 ⟨τ,G2,_,(hs.mono t0).mono t2,g2,q2,λkvs H3 kws G3 t3 e3 r3 g3 q3=>?_⟩) λws s3 ⟨ps,H3,I3,rel,q3⟩=>⟨_,H3,I3,.cons ⟨rx,ry⟩ rel,q3⟩;exact hQ ((z,y)::kvs) H3 ((z,w)::kws) G3 (t0.trans (t2.trans t3)) (by rw[map_cons,map_cons,e3]) (.cons (r2.mono t3) r3) g3 q3)
end
mutual
inductive Eh (h:Heap):Nat->W->Value->Prop where
 | int {d:Nat} (n:Int) (t:Tok):Eh h d (.int n) (.int n t)
 | tup {d:Nat} {a:Addr} {o:Obj} {items:Array Value} {n:Nat} {ws:List W} (gO:h.get? a=some o) (hc:o.cls=.type "tuple") (dO:o.data=.seq items n) (hs:xb h d ws items.toList):Eh h (d+1) (.tup ws) (.ref a)
inductive xb (h:Heap):Nat->List W->List Value->Prop where
 | nil {d:Nat}:xb h d [] []
 | cons {d:Nat} {w:W} {v:Value} {ws:List W} {vs:yez} (r:Eh h d w v) (rs:xb h d ws vs):xb h d (w::ws) (v::vs)
end
section
variable {h h':Heap}
end
section
variable (P:Program) (w:World)
end
section
variable {prog:Program} {w:World}
inductive Sh:W->W->Prop where
 | int (n m:Int):Sh (.int n) (.int m)
 | tup {xs ys:List W} (h:∀p,p∈xs.zip ys->Sh p.1 p.2):Sh (.tup xs) (.tup ys)
end
section
variable {X:Cx} {π:List (Addr×Obj)} {σ:St} {H:Hp} {s:Shared}
end
inductive Ei (K:yav) (H:Hp):List (O×W)->List (O×Addr×Value)->Prop where
 | nil:Ei K H [] []
 | cons {k:O} {a:Addr} {w:W} {v:V} {u:Value} {kvs:List (O×W)} {xs:List (O×Addr×Value)} (rk:cr K H (.tup (am k)) (.ref a)) (rv:cr K H w v) (ru:bo v u) (t:Ei K H kvs xs):Ei K H ((k,w)::kvs) ((k,a,u)::xs)
section
variable {X:Cx} {π:List (Addr×Obj)} {σ:St} {H:Hp} {s:Shared}
end
open PySem PySem.Spec PyProof.Rows Nm PySem.W
section
variable {X:Cx} {π:List (Addr×Obj)} {σ:St} {H:Hp} {s:Shared}
end
section
variable {prog:Program} {w:World} {A:Around} {E:yey} {s:Shared} {it d:Addr} {i ep:Nat} {es:Array DictEntry}
end
end L2
set_option maxHeartbeats 1000000
namespace L2
open PySem PySem.Spec PyProof.Rows Nm PySem.W
inductive NV (K:yav) (H:Hp):List O->List Value->Prop where
 | nil:NV K H [] []
 | cons {o:O} {a:Addr} {os:List O} {us:yez} (r:cr K H (.tup (am o)) (.ref a)) (hd:o.dp<=3) (t:NV K H os us):NV K H (o::os) (.ref a::us)
section
variable {X:Cx} {π:List (Addr×Obj)} {σ:St} {H:Hp} {s:Shared}
end
section
variable {X:Cx} {π:List (Addr×Obj)} {σ:St} {H:Hp} {s:Shared}
end
open PySem PySem.Spec PyProof.Rows
section
variable {G:Gp} {q:WK} {a b:Addr} {i j:Int} {xs ys:List W} {z z':PySem.Str} {ns:List Int} {y:W} {c d:Bool}
theorem FM:j9 (.int i) (.int j) G q=q (.int (i+j)) G:=rfl
theorem FN:j9 (.tup xs) (.tup ys) G q=(xs.length+ys.length<=100000/\q (.tup (xs++ys)) G):=rfl
theorem FO:j9 (.ref a) (.ref b) G q=(∃xs ys,G a=some (.lst xs)/\G b=some (.lst ys)/\xs.length+ys.length<=100000/\∀p,G p=none->q (.ref p) (aX G p (.lst (xs++ys)))):=rfl
theorem FP:j9 (.str z) (.str z') G q=(z.length+z'.length<=100000/\q (.str (z++z')) G):=rfl
theorem FQ:kc (.int i) (.int j) G q=(jh i j/\q (.int (i*j)) G):=rfl
theorem FR:kc (.ref a) (.int j) G q=(∃xs,G a=some (.lst xs)/\0<=j/\j<=100000/\xs.length*j.toNat<=100000/\∀p,G p=none->q (.ref p) (aX G p (.lst (List.replicate j.toNat xs).flatten))):=rfl
theorem FS:kc (.tup xs) (.int j) G q=(xs≠[]/\0<=j/\j<=100000/\xs.length*j.toNat<=100000/\q (.tup (List.replicate j.toNat xs).flatten) G):=rfl
theorem FT:kc (.str z) (.int j) G q=(0<=j/\j<=100000/\z.length*j.toNat<=100000/\∀z':PySem.Str,z'.length<=z.length*j.toNat->q (.str z') G):=rfl
theorem FU:oP (.ref a) (.str z) G q=(∃kvs w,GD G a kvs/\fE kvs (.inr z)=some w/\q w G):=rfl
theorem FV:oP (.str z) (.int i) G q=(z.length<=100000/\∃c,ei z.cps.toList i=some c/\q (.str ⟨#[c]⟩) G):=rfl
theorem FW:oP (.tup xs) (.int i) G q=(∃w,ei xs i=some w/\q w G):=rfl
theorem FX:oP (.scr ns) (.int i) G q=(∃n,ei ns i=some n/\q (.int n) G):=rfl
theorem FY:oP (.ref a) (.int i) G q=(∃xs w,G a=some (.lst xs)/\ei xs i=some w/\q w G):=rfl
theorem FZ:lq (.ref a) (.ref b) G q=(∃r,ye G a b r/\q (.bl r) G):=rfl
theorem F0:lq (.tup xs) y G q=((W.tup xs).flat=true/\y.flat=true/\(W.tup xs).dep<=150/\q (.bl ((W.tup xs).eq y)) G):=rfl
theorem Gg:lq (.int i) y G q=((W.int i).flat=true/\y.flat=true/\(W.int i).dep<=150/\q (.bl ((W.int i).eq y)) G):=rfl
theorem Gh:lq (.str z) y G q=((W.str z).flat=true/\y.flat=true/\(W.str z).dep<=150/\q (.bl ((W.str z).eq y)) G):=rfl
theorem Gi:lq (.bl c) y G q=((W.bl c).flat=true/\y.flat=true/\(W.bl c).dep<=150/\q (.bl ((W.bl c).eq y)) G):=rfl
theorem Gj:lq .non y G q=(W.non.flat=true/\y.flat=true/\W.non.dep<=150/\q (.bl (W.non.eq y)) G):=rfl
theorem Gk:nj (.ref a) (.ref b) G q=(∃r,ye G a b r/\q (.bl (!r)) G):=rfl
theorem Gm:nj (.tup xs) y G q=((W.tup xs).flat=true/\y.flat=true/\(W.tup xs).dep<=150/\q (.bl (!(W.tup xs).eq y)) G):=rfl
theorem Go:nj (.int i) y G q=((W.int i).flat=true/\y.flat=true/\(W.int i).dep<=150/\q (.bl (!(W.int i).eq y)) G):=rfl
theorem Gq:nj (.str z) y G q=((W.str z).flat=true/\y.flat=true/\(W.str z).dep<=150/\q (.bl (!(W.str z).eq y)) G):=rfl
theorem Gr:nj (.bl c) y G q=((W.bl c).flat=true/\y.flat=true/\(W.bl c).dep<=150/\q (.bl (!(W.bl c).eq y)) G):=rfl
theorem Gs:nj .non y G q=(W.non.flat=true/\y.flat=true/\W.non.dep<=150/\q (.bl (!W.non.eq y)) G):=rfl
theorem Gu:vS (.int i) (.int j) G q=q (.bl (decide (i<j))) G:=rfl
theorem Gv:vS (.tup xs) (.tup ys) G q=(W.flats xs=true/\W.flats ys=true/\W.deps xs<=149/\W.ords xs ys=true/\q (.bl (W.lts xs ys)) G):=rfl
theorem Gw:sU (.int i) (.int j) G q=q (.int (i-j)) G:=rfl
theorem Gx:sU (.bl c) (.bl d) G q=q (.int (b2i c-b2i d)) G:=rfl
theorem Gy {C:Int->Int->Prop} {f:Int->Int->W}:qW C f (.int i) (.int j) G q=(C i j/\q (f i j) G):=rfl
theorem Gz {f:Int->Int->W}:iU f (.int i) (.int j) G q=q (f i j) G:=rfl
theorem GA:kg [.ref a] G q=(∃n:Nat,wW G a n/\q (.int n) G):=rfl
theorem GB:kg [.str z] G q=(z.length<=100000/\q (.int z.length) G):=rfl
theorem GC:kg [.tup xs] G q=q (.int xs.length) G:=rfl
theorem GF:kg [.scr ns] G q=q (.int ns.length) G:=rfl
theorem GG:D4 (.int i) (.int j) G q=q (.bl (decide (i≥j))) G:=rfl
theorem GH:lq (.ref a) (.int i) G q=((W.ref a).flat=true/\(W.int i).flat=true/\(W.ref a).dep<=150/\q (.bl ((W.ref a).eq (.int i))) G):=rfl
end
section
variable {τ:dR} {G:Gp} {d:dI} {i:Nat} {k:Int} {a b:Str} {ws:List W} {t u v:WS} {c:WT}
end
section
variable {X:Cx} {pos:Pos}
noncomputable def lr (r r':W2) (ta tb tc:WE):WE:=λτ G q=>ta τ G λx G1=>tb τ G1 λy G2=>r x y G2 λz G3=>∃k,z=.bl k/\(if k=true then tc τ G3 λv G4=>r' y v G4 q else q (.bl false) G3)
theorem gU.chain {r r':W2} {ta tb tc:WE} {σ:St} {H:Hp} {Q:VK} (h:gU K (lr r r' ta tb tc) σ H Q):nK (LR K r) (LR K r') (gU K ta) (gU K tb) (gU K tc) σ H Q:=by
 obtain⟨τ,G,q,hs,hg,ht,hQ⟩:=h;refine⟨τ,G,_,hs,hg,ht,λv H1 w G1 t1 r1 g1 q1=>?_⟩;refine⟨τ,G1,_,hs.mono t1,g1,q1,λv2 H2 w2 G2 t2 r2 g2 q2=>?_⟩;refine⟨w,w2,G2,_,r1.mono t2,r2,g2,q2,λv3 H3 w3 G3 t3 r3 g3 q3=>?_⟩;obtain⟨k,rfl,q3⟩:=q3;cases r3;refine⟨k,rfl,?_⟩;have tt:=(t1.trans t2).trans t3;cases k with
 | false=>exact hQ _ H3 _ G3 tt (.bl false) g3 q3
 | true=>
   refine⟨τ,G3,_,hs.mono tt,g3,q3,λv4 H4 w4 G4 t4 r4 g4 q4=>?_⟩;exact⟨w2,w4,G4,q,(r2.mono t3).mono t4,r4,g4,q4,λv5 H5 w5 G5 t5 r5 g5 q5=>hQ v5 H5 w5 G5 ((tt.trans t4).trans t5) r5 g5 q5⟩
theorem nk {op op':CmpOp} {r r':W2} {a b c:Expr} {ta tb tc:WE} (ho:fi X (compareOp op) r) (ho':fi X (compareOp op') r') (ha:QE X a ta) (hb:QE X b tb) (hc:QE X c tc)
 (hm:lastMarks [op,op'] [b,c]=false:=by with_unfolding_all rfl):QE X (.Compare a [op,op'] [b,c] pos) (lr r r' ta tb tc):=
 (si ho ho' ha hb hc hm).imp λ_ _ _ h=>h.chain
theorem gL {op op':CmpOp} {r r':W2} {a b c:Expr} {ta tb tc:WE} (ho:fi X (compareOp op) r) (ho':fi X (compareOp op') r') (ha:QE X a ta) (hb:QE X b tb) (hc:QE X c tc)
 (hm:lastMarks [op,op'] [b,c]=false:=by with_unfolding_all rfl):QT X (.Compare a [op,op'] [b,c] pos) (lW (lr r r' ta tb tc)):=
 (sj ho ho' ha hb hc hm).imp λσ H Q h=>by
   obtain⟨τ,G,q,hs,hg,ht,hQ⟩:=h.test;exact gU.chain ⟨τ,G,q,hs,hg,ht,hQ⟩
noncomputable def xc:W2:=λx y G q=>match x,y with
 | .str a,.str b=>q (.bl (!decide (b.cps.toList<a.cps.toList))) G
 | .int i,.int j=>q (.bl (decide (i<=j))) G
 | _,_=>False
theorem fQ:fi X (compareOp .LtE) xc:=by
 rintro π s σ H x y v u Q I rx ry ⟨wx,wy,G,q,r1,r2,g,h,hQ⟩;unfold xc at h;split at h
 ·cases r1;cases r2;obtain⟨t,rfl⟩:=rx;obtain⟨t',rfl⟩:=ry;exact P.le_str ⟨.bl _,H,I,rfl,hQ _ H _ G (aW.refl H) (.bl _) g h⟩
 ·exact sT π s σ H x y v u Q I rx ry ⟨_,_,G,q,r1,r2,g,h,hQ⟩
 ·exact h.elim
end
section
variable {X:Cx} {pos:Pos}
noncomputable def bg (m:Nat):List Nat:=(Nat.toDigits 10 m).map Char.toNat
theorem uC (m:Nat):PySem.Str.ofString (toString ((m:Nat):Int))=⟨(bg m).toArray⟩:=by
 have h:=W.KIN.signs_num m;generalize PySem.Str.ofString (toString ((m:Nat):Int))=z at h ⊢;obtain⟨a⟩:=z;show Str.mk a=_;have h:a.toList=bg m:=h;rw[←h]
noncomputable def B7:List W->Gp->WK->Prop:=λws G q=>match ws with
 | [.int i]=>∃m:Nat,i=(m:Int)/\m<2^1900/\q (.str ⟨(bg m).toArray⟩) G
 | _=>False
theorem log2_lt {m:Nat} (h:m<2^1900):m.log2<1920:=by
 by_cases h0:m=0
 ·rw[h0];decide
 ·exact Nat.lt_trans ((Nat.log2_lt h0).mpr h) (by decide)
theorem uD:eC X (.type "str") B7:=by
 rintro π s σ H xs us Q I r ⟨ws,G,q,rw',g,h,hQ⟩;cases rw' with
 | nil=>exact False.elim h
 | cons r1 rr'=>
   cases rr' with
   | cons _ _=>cases r1<;> exact False.elim h
   | nil=>
     cases r1 with
     | int i=>
       obtain⟨m,rfl,hm,hq⟩:=h;obtain⟨u,rfl,t,rfl⟩:=eg r;refine PySem.P.str_of_int (log2_lt hm) ⟨.str _,H,I.tok _,⟨_,rfl⟩,hQ _ H _ G (aW.refl H) ?_ g hq⟩;rw[uC];exact .str _
     | _=>exact False.elim h
noncomputable def uE:List W->Gp->WK->Prop:=λws G q=>match ws with
 | [.str z]=>PySem.NumText.AllDigits z.cps.toList/\z.cps.toList≠[]/\z.length<=600/\q (.int ((PySem.NumText.digitsVal z.cps.toList:Nat):Int)) G
 | ws=>zh ws G q
theorem zX:eC X (.type "int") uE:=by
 rintro π s σ H xs us Q I r ⟨ws,G,q,rw',g,h,hQ⟩;unfold uE at h;split at h
 ·rename_i z;obtain⟨h1,h2,h3,h4⟩:=h;cases rw' with
  | cons r1 rr'=>
    cases rr';cases r1;obtain⟨u,rfl,t,rfl⟩:=eg r;exact W.KIN.call_text (PySem.intText_digits h1 h2 (ycy h3 (by decide))) (ycy h3 (by decide)) ⟨.int _,H,I.tok _,⟨_,rfl⟩,hQ _ H _ G (aW.refl H) (.int _) g h4⟩
 ·exact Be π s σ H xs us Q I r ⟨_,G,q,rw',g,h,hQ⟩
end
section
variable {G:Gp} {q:WK} {a b:Str} {i j:Int}
theorem GI:xc (.str a) (.str b) G q=q (.bl (!decide (b.cps.toList<a.cps.toList))) G:=rfl
theorem GJ:xc (.int i) (.int j) G q=q (.bl (decide (i<=j))) G:=rfl
end
noncomputable def Ej (K:yav) (mg:yew) (u x:Str) (st:Stmt) (ps:List Str):Prop:=∃(f:Addr) (fd:FuncData),cv K x x st f fd/\bL K fd ps []/\mg u=some (.ref f)
section
variable {P:Program} {w:World} {K:yav} {mg:yew} {base:Heap} {u x:Str} {st:Stmt} {ps:List Str} {k:Nat} {sp:bJ}
theorem Ej.fx (D:Ej K mg u x st ps) (h:∀(f:Addr) (fd:FuncData),cv K x x st f fd->cB P w K mg base k f fd ps sp):Fx P w K mg base u ps k sp:=by
 obtain⟨f,fd,F,b,m⟩:=D;exact⟨f,fd,h f fd F,m,F.kp,b⟩
end
theorem lu {a b:Int} {p m:Nat} (ha:a=(p:Int)) (hb:b=(m:Int)):sliceRange a b 1=(List.range (m-p)).map λk=>p+k:=by
 subst ha hb;unfold sliceRange;simp only[show(1:Int) > 0 by decide,if_true];have ec:(if (p:Int)<(m:Int) then ((m:Int)-p+1-1)/1 else 0).toNat=m-p:=by split<;> lia
 rw[ec];apply List.map_congr_left;intro k _
 (clear ec;lia)
theorem clip_n {p n:Nat}:max 0 (min (if (p:Int)<0 then (p:Int)+n else p) n)=((min p n:Nat):Int):=by
 rw[ycw (by lia)];lia
theorem uF (lo hi:Option Int) (p q n:Nat) (hp:p<=n) (h1:(lo=none/\p=0)∨lo=some (p:Int)) (h2:(hi=none/\n<=q)∨hi=some (q:Int)):Builtin.Str.strSliceIndices lo hi 1 n=(List.range (min q n-p)).map λk=>p+k:=by
 have hp':min p n=p:=Nat.min_eq_left hp;rcases h1 with⟨rfl,rfl⟩ | rfl<;> rcases h2 with⟨rfl,h⟩ | rfl
 ·exact lu rfl (show(n:Int)=((min q n:Nat):Int) by rw[Nat.min_eq_right h])
 ·exact lu rfl clip_n
 ·exact lu (clip_n.trans (by rw[hp'])) (show(n:Int)=((min q n:Nat):Int) by rw[Nat.min_eq_right h])
 ·exact lu (clip_n.trans (by rw[hp'])) clip_n
theorem ki (l:List Nat) (p:Nat):∀m,p+m<=l.length->((List.range m).map λk=>p+k).filterMap (l.toArray[·]?)=(l.drop p).take m
 | 0,_=>by simp
 | m+1,h=>by
   rw[List.range_succ,map_append,List.filterMap_append,ki l p m (by lia)];have hg:(l.drop p)[m]?=some l[p+m]:=by rw[List.getElem?_drop,ycz (by assumption)]
   rw[List.take_succ,hg];simp[ycz (show p+m<l.length by assumption)]
theorem rM (l:List Nat) (lo hi:Option Int) (p q:Nat) (hp:p<=l.length) (h1:(lo=none/\p=0)∨lo=some (p:Int)) (h2:(hi=none/\l.length<=q)∨hi=some (q:Int)):Txt.slice ⟨l.toArray⟩ lo hi=⟨((l.drop p).take (q-p)).toArray⟩:=by
 unfold Txt.slice;have hn:(⟨l.toArray⟩:Str).length=l.length:=by simp[Str.length]
 rw[hn,uF lo hi p q l.length hp h1 h2];have hl:((List.range (min q l.length-p)).map λk=>p+k).length=min q l.length-p:=by simp
 rw[hl];have et:(l.drop p).take (q-p)=(l.drop p).take (min q l.length-p):=by
  rcases Nat.le_total q l.length with h | h
  ·rw[Nat.min_eq_left h]
  ·rw[Nat.min_eq_right h,take_of_length_le (by rw[length_drop];(clear h1 h2 hl;lia)),take_of_length_le (by rw[length_drop];exact ycx _)]
 rw[et];split
 ·rename_i h;have h:min q l.length-p=l.length:=by simpa using h
  have h0:(l.drop p).take (min q l.length-p)=l:=by
   rw[h];rcases Nat.eq_zero_or_pos p with rfl | hp0
   ·rw[drop_zero,take_length]
   ·have:l.length=0:=by (clear hp h1 h2;lia)
    rw[List.length_eq_zero_iff.mp this]
    rfl
  rw[h0]
 ·rw[ki l p _ (by (clear h1 h2 hl;lia))]
section
variable {X:Cx} {pos:Pos}
noncomputable def oQ:W3:=λx lo hi G k=>match x with
 | .str z=>z.length<=100000/\∃p q:Nat,p<=z.length/\((lo=none/\p=0)∨lo=some (p:Int))/\((hi=none/\z.length<=q)∨hi=some (q:Int))/\k (.str ⟨((z.cps.toList.drop p).take (q-p)).toArray⟩) G
 | x=>lX x lo hi G k
theorem B8:At X (DX X.K oQ):=by
 rintro π s σ H x v vl vu lo hi sl Q I rx hs pl pu ⟨w,G,q,r,g,h,hQ⟩;unfold oQ at h;split at h
 ·rename_i z;obtain⟨hz,p,qq,hp,h1,h2,h⟩:=h;have ez:(⟨z.cps.toList.toArray⟩:Str)=z:=by cases z;simp
  have hs0:=rM z.cps.toList lo hi p qq (by rw[fJ];exact hp) h1 (by rw[fJ];exact h2);rw[ez] at hs0;rw[←hs0] at h;cases r;obtain⟨t,rfl⟩:=rx;refine⟨"str",_,slot_str_getitem.lookup,typeIs_str s z t,?_⟩;have hl:∃l:Option (Int×Tok),vl=partValue l/\l.map (·.1)=lo:=by
   cases pl with
   | none=>exact⟨none,rfl,rfl⟩
   | int i t=>exact⟨some (i,t),rfl,rfl⟩
  have hu:∃u:Option (Int×Tok),vu=partValue u/\u.map (·.1)=hi:=by
   cases pu with
   | none=>exact⟨none,rfl,rfl⟩
   | int i t=>exact⟨some (i,t),rfl,rfl⟩
  obtain⟨l,rfl,el⟩:=hl;obtain⟨u,rfl,eu⟩:=hu;refine wpAny_getItem_str_slice (l:=l) (u:=u) (st:=none) ?_ rfl ?_
  ·obtain⟨o,e1,e2,e3⟩:=hs;exact⟨o,e1,e2,e3⟩
  ·have hle:=Txt.slice_le z lo hi;rw[←el,←eu] at h hle;unfold sliceMade;split
   ·rename_i hy;have e:Txt.slice z (l.map (·.1)) (u.map (·.1))=z:=ycv hy;rw[e] at h;exact⟨.str z,H,I,⟨_,rfl⟩,hQ _ H _ G (aW.refl H) (.str _) g h⟩
   ·rename_i hn;have e:=show Txt.slice z (l.map (·.1)) (u.map (·.1))=_ from ycw hn
    rw[e] at h hle;exact⟨ycy hle (bW hz),.str _,H,I.tok _,⟨_,rfl⟩,hQ _ H _ G (aW.refl H) (.str _) g h⟩
 ·exact Bj π s σ H x v vl vu lo hi sl Q I rx hs pl pu ⟨w,G,q,r,g,h,hQ⟩
noncomputable def B9 (te:WE) (tl th:WO):WE:=λτ G q=>te τ G λx G1=>tl τ G1 λl G2=>th τ G2 λu G3=>oQ x l u G3 q
theorem bD {lo hi:Option Expr} {te:WE} {tl th:WO} {pos p2:Pos} (he:QE X e te) (hl:QO X lo tl) (hu:QO X hi th):QE X (.Subscript e (.Slice lo hi none p2) pos) (B9 te tl th):=
 (lO B8 he hl hu).imp λσ H Q z0=>z0.el λτ G q hs hg ht hQ=>⟨τ,G,_,hs,hg,ht,λv H1 w G1 t1 r1 g1 q1=>⟨τ,G1,_,hs.mono t1,g1,q1,λl H2 G2 t2 g2 q2=>
   ⟨τ,G2,_,(hs.mono t1).mono t2,g2,q2,λu H3 G3 t3 g3 q3=>⟨w,G3,q,(r1.mono t2).mono t3,g3,q3,λv4 H4 w4 G4 t4=>hQ v4 H4 w4 G4 (((t1.trans t2).trans t3).trans t4)⟩⟩⟩⟩
theorem GK {z:Str} {lo hi:Option Int} {G:Gp} {k:WK}:oQ (.str z) lo hi G k=(z.length<=100000/\∃p q:Nat,p<=z.length/\((lo=none/\p=0)∨lo=some (p:Int))/\((hi=none/\z.length<=q)∨hi=some (q:Int))/\k (.str ⟨((z.cps.toList.drop p).take (q-p)).toArray⟩) G):=rfl
theorem Ek {xs:List W} {lo hi:Option Int} {G:Gp} {k:WK}:oQ (.tup xs) lo hi G k=lX (.tup xs) lo hi G k:=rfl
theorem GL {lo hi:Option Int} {G:Gp} {k:WK}:oQ (.ref a) lo hi G k=lX (.ref a) lo hi G k:=rfl
theorem GM {ns:List Int} {lo hi:Option Int} {G:Gp} {k:WK}:oQ (.scr ns) lo hi G k=lX (.scr ns) lo hi G k:=rfl
end
section
variable {X:Cx}
noncomputable def El (K:yav) (a:Addr) (ts:List Str):Prop:=∃(d:Option Addr) (n:Nat) (sl:Array (Option Value)) (us:yez),K.lookup a=some ⟨.type "tuple",d,.seq us.toArray n,sl⟩/\aY (ts.map V.str) us
noncomputable def Em (a:Addr) (ts:List Str):W2:=λx y G q=>∃z,x=.str z/\y=.ref a/\q (.bl (ts.any λt=>t==z)) G
noncomputable def xf (z:Str):Value->Bool
 | .str t _=>t==z
 | _=>false
theorem qg (z:Str):∀{ts:List Str} {us:yez},aY (ts.map V.str) us->us.any (xf z)=ts.any (λt=>t==z)/\∀y,y∈us->∃t k,y=Value.str t k
 | [],[],_=>⟨rfl,λy h=>by cases h⟩
 | [],_::_,h=>by cases h
 | _::_,[],h=>by cases h
 | t::ts,u::us,h=>by
   cases h with
   | cons h1 h2=>
     obtain⟨k,rfl⟩:=h1;obtain⟨i1,i2⟩:=qg z h2;refine⟨?_,λy hy=>?_⟩
     ·rw[any_cons,any_cons,i1]
      rfl
     ·rcases mem_cons.mp hy with rfl | hy
      ·exact⟨t,k,rfl⟩
      ·exact i2 y hy
theorem Ca {ts:List Str} (hK:El X.K a ts):fi X (compareOp .In) (Em a ts):=by
 rintro π s σ H x y v u Q I rx ry ⟨wx,wy,G,q,r1,r2,g,h,hQ⟩;obtain⟨z,e1,e2,h⟩:=h;subst e1 e2;cases r1;cases r2;obtain⟨t,rfl⟩:=rx;cases ry;obtain⟨d,n,sl,us,hk,hv⟩:=hK;obtain⟨i1,i2⟩:=qg z hv;have hh:=I.kIn _ _ hk;refine SeqAt.in_tupleAt (xf z) ⟨_,hh,rfl,n,rfl⟩ (λy hy=>?_) ?_
 ·obtain⟨t',k,rfl⟩:=i2 y (by simpa using hy);exact SeqAt.EqAt.str_str _ _ _ _
 ·rw[show us.toArray.any (xf z)=us.any (xf z) by simp,i1];exact⟨.bl _,H,I,rfl,hQ _ H _ G (aW.refl H) (.bl _) g h⟩
end
section
variable {X:Cx}
noncomputable def fF (sep:List Nat):List (List Nat)->List Nat
 | []=>[]
 | [l]=>l
 | l::m::r=>l++sep++fF sep (m::r)
theorem lx (sep l:List Nat) (r:List (List Nat)) (h:r≠[]):fF sep (l::r)=l++sep++fF sep r:=by
 cases r with
 | nil=>exact absurd rfl h
 | cons m r=>rfl
theorem kj (sep:List Nat):∀(r:List (List Nat)) (b:List Nat),List.foldl (λacc (p:Str)=>acc++sep.toArray++p.cps) b.toArray (r.map λl=>(⟨l.toArray⟩:Str))=(fF sep (b::r)).toArray
 | [],b=>by simp[fF]
 | l::r,b=>by
   rw[map_cons,foldl_cons,lx sep b (l::r) (by simp)];have e:b.toArray++sep.toArray++(⟨l.toArray⟩:Str).cps=(b++sep++l).toArray:=by simp
   rw[e,kj sep r];cases r with
   | nil=>simp[fF]
   | cons m r=>rw[lx sep _ (m::r) (by simp),lx sep l (m::r) (by simp)];simp
theorem uG (sep:List Nat) (ls:List (List Nat)):Txt.join ⟨sep.toArray⟩ (ls.map λl=>(⟨l.toArray⟩:Str))=⟨(fF sep ls).toArray⟩:=by
 unfold Txt.join Builtin.Str.glued;cases ls with
 | nil=>rfl
 | cons l ls=>
   show Str.mk (List.foldl (λacc (p:Str)=>acc++sep.toArray++p.cps) l.toArray (ls.map λl=>(⟨l.toArray⟩:Str)))=_;rw[kj]
noncomputable def zY (K:yav) (sep:List Nat):V->List V->Hp->VK->Prop:=λx vs H Q=>∃l ls,x=.str ⟨sep.toArray⟩/\vs=[.ref l]/\dP K H l ((ls.map λl=>(⟨l.toArray⟩:Str)).map V.str)/\(ls.map List.length).sum+ls.length*sep.length<=100000/\Q (.str ⟨(fF sep ls).toArray⟩) H
theorem uH {sep:List Nat}:Dc X "str.join" (zY X.K sep):=by
 intro π s σ H x vs v us Q I rx rv h;obtain⟨l,ls,rfl,rfl,hl,hs,q⟩:=h;obtain⟨t,rfl⟩:=rx;obtain⟨u1,rfl,r1⟩:=eg rv;cases r1;obtain⟨its,rv,p,hz⟩:=I.list hl;refine join_list (ys:=ls.map λl=>(⟨l.toArray⟩:Str)) p.isList (ji rv) ?_ λt' k=>?_
 ·have e1:((ls.map λl=>(⟨l.toArray⟩:Str)).map (·.length)).sum=(ls.map List.length).sum:=by
   rw[map_map]
   congr 1
  have e2:(Str.mk sep.toArray).length=sep.length:=by simp[Str.length]
  rw[e1,e2,length_map];exact ycy hs (by decide)
 ·rw[uG];exact⟨.str _,H,I.tok _,⟨_,rfl⟩,q⟩
noncomputable def uI (sep:List Nat) (te:WE):WE:=λτ G q=>te τ G λy G2=>∃a ls,y=.ref a/\G2 a=some (.lst (ls.map λl=>W.str ⟨l.toArray⟩))/\(ls.map List.length).sum+ls.length*sep.length<=100000/\q (.str ⟨(fF sep ls).toArray⟩) G2
theorem uJ (sep:List Nat) {z:Str} {op:Pos} {te:WE} {apos cpos:Pos} (he:QE X e te) (hz:z=⟨sep.toArray⟩:=by rfl)
 (hbase:attributeBase (.Constant (.str z) k op) "join" X.env (eval (.Constant (.str z) k op) X.env)=eval (.Constant (.str z) k op) X.env:=by rfl)
 (hfew:((backTo cpos (starEach [e] X.env)).all (λx=>!x.1)&&(backToKw cpos (keywordEach [] X.env)).all (λx=>x.1.isSome)
   &&decide (([e]:List Expr).length+([]:List Keyword).length+(if ([]:List Keyword).isEmpty then 0 else 1)<30))=true:=by rfl)
 (hline:(apos.endLine==cpos.line)=true:=by rfl) (hs:starEach [e] X.env=(false,eval e X.env)::starEach [] X.env:=by rfl) (hpl:(backTo cpos (starEach [] X.env)).any (·.1)=false:=by rfl):
 QE X (.Call (.Attribute (.Constant (.str z) k op) "join" apos) [e] [] cpos) (uI sep te):=
 (o9 PySem.F.plainAttrs_str PySem.F.slot_str_join PySem.F.type_str_join (uH (sep:=sep)) ku (dy he pa_nil hs) hbase hfew hline hs hpl).imp λσ H Q z0=>z0.el λτ G q hs hg ht hQ=>by
   subst hz;refine⟨rfl,τ,G,_,hs,hg,ht,λv2 H2 w2 G2 t2 r2 g2 q2=>?_⟩;obtain⟨a,ls,rfl,e2,hl,q2⟩:=q2;cases r2;obtain⟨_,xs,h1,rr⟩:=g2 _ _ e2;have rr':aT X.K H2 ((ls.map λl=>(⟨l.toArray⟩:Str)).map W.str) xs:=by rw[map_map];exact rr
   rw[jj rr'] at h1;exact⟨_,ls,rfl,rfl,dP.of h1,hl,hQ _ _ _ _ t2 (.str _) g2 q2⟩
end
open PySem PySem.Spec PyProof.Rows Nm
theorem jn {m k:Nat} (hk:0<k) (h:m<10^k):(bg m).length<=k:=by
 unfold bg;rw[length_map];exact(Nat.length_toDigits_le_iff (by decide) hk).mpr h
theorem qh {n:Int} (h0:0<=n) (h1:n<10^300):n.toNat<2^1900/\(bg n.toNat).length<=300:=by
 have h2:((n.toNat:Nat):Int)<((10^300:Nat):Int):=by
  rw[Int.toNat_of_nonneg h0];exact Int.lt_of_lt_of_le h1 (by decide+kernel)
 have h3:n.toNat<10^300:=Int.ofNat_lt.mp h2;exact⟨Nat.lt_trans h3 (by decide+kernel),jn (by decide) h3⟩
theorem lz:∀a:O,a.NF->O.mx a<10^300->(dL bg a).length<=320*a.size+1
 | .z,_,_=>by decide
 | .c e n r,hn,hm=>by
   have h1:=lz e hn.1 (Int.lt_of_le_of_lt O.mx_he hm);have h2:=lz r hn.2.2.2 (Int.lt_of_le_of_lt O.mx_hr hm);have hn1:=hn.2.1;have h3:=(qh (n:=n) (by (clear hm h1 h2;lia)) (Int.lt_of_le_of_lt O.mx_hn hm)).2;have h4:(rq e (dL bg e)).length<=(dL bg e).length+4:=by
    unfold rq;split
    ·simp
    ·split<;> simp
   have h5:(gf bg e n (dL bg e)).length<=(dL bg e).length+305:=by
    unfold gf;split
    ·lia
    ·split
     ·(clear hm h1 h2 hn1 h3;lia)
     ·simp only[length_append,length_cons]
      (clear hm h1 h2 hn1;lia)
   have h6:(fh bg r).length<=(dL bg r).length+1:=by
    cases r with
    | z=>simp[fh]
    | c e' n' r'=>simp[fh]
   rw[pP,length_append];have hs:O.size (.c e n r)=1+O.size e+O.size r:=rfl
   (clear hm hn1 h3 h4;lia)
section
variable {X:Cx}
noncomputable def Eo:W2:=λx y G q=>∃k b,x=.str ⟨#[k]⟩/\y=.str b/\q (.bl (decide (k∈b.cps.toList))) G
theorem yh:fi X (compareOp .In) Eo:=by
 rintro π s σ H x y v u Q I rx ry ⟨wx,wy,G,q,r1,r2,g,h,hQ⟩;obtain⟨k,b,e1,e2,h⟩:=h;subst e1 e2;cases r1;cases r2;obtain⟨t,rfl⟩:=rx;obtain⟨t2,rfl⟩:=ry;refine in_str ?_;rw[wR,Bool.not_not];exact⟨.bl _,H,I,rfl,hQ _ H _ G (aW.refl H) (.bl _) g h⟩
end
theorem fm {x qual:Str} {f:Addr} {N ps:List Str} {sp:bJ} (F:cv K x qual st f fd) (S:bh N ps (al st)) (len:∀ws G q e,sp ws G q e->ws.length=ps.length) (hb:∀(cdv:Value) (A:Around) (outer:List Env) (s:Shared) (H:Hp) (E:XK),N.Nodup->ay k (A.deeper (envOfC qual (al st) s.heap.objs.size f cdv))->∃t,lV (dq sK P w K mg base N qual (al st) f cdv A outer s H E).nox (aw st) t/\∀(ws:List W) (G:Gp) (q:WK) (e:WX),sp ws G q e->t { nx:=λ_ G1=>∃G0,aC G0 G1/\q .non G0,rt:=λw G1=>∃G0,aC G0 G1/\q w G0 } (gW N ws) G):cB P w K mg base (k+1) f fd ps sp:=zg F S len λ_ _ _ _ _ _ hr=>hb _ _ _ _ _ _ S.nd hr
end L2
open PySem PySem.Spec PyProof.Rows L2 Nm
seal QE QT QW QA QS lV QG A0 QI QO Aw fi A5 eC
seal PySem.compareOp PySem.binaryOp PySem.unaryOp
set_option bootstrap.genMatcherCode true
set_option compiler.extract_closed false
local macro_rules | `(tactic| walk_at "s") => `(tactic| exact ⟨rfl, rfl, rfl, by decide +kernel, rfl, by decide +kernel, by decide +kernel⟩)
local macro_rules | `(tactic| walk_at "l") => `(tactic| (intro ws G q e h; repeat (first | (obtain ⟨h1, _⟩ := h; subst h1; rfl) | obtain ⟨_, h⟩ := h)))
local macro_rules | `(tactic| walk_at "R") => `(tactic| simp (config := { failIfUnchanged := false, maxSteps := 2000000 }) only [zF, zW, uv, yd, BW, wQ, yb, yc, zD, BI, xW, pA, pB, zD, mv, tI, zC, gW, vE, Fn, lW, Au, sL, wC, Bu, Bc, sO, sP, tz, tE, xV, tH, tG, tF, fe, ii, Dd, xL, sN, Ba, Bb, Bk, A6, Fm, A7, xJ, A8, xK, A9, xM, xQ, pq, Bo, Bn, Bt, BG, s9, Bm, sZ, vG, pf, vF, Bi, lX, sS, zq, zh, tD, List.map_cons, List.map_nil, List.length_cons, List.length_nil, List.replicate_succ, List.replicate_zero, List.cons_append, List.nil_append, List.append_nil, List.getElem?_cons_zero, List.getElem?_cons_succ, List.set_cons_zero, List.set_cons_succ, Nat.reduceAdd, Nat.reduceSub, Nat.zero_add, Nat.add_zero, Nat.sub_self, Nat.sub_zero, BQ, BR, Ef, Option.some.injEq, exists_eq_left', ug, wo, oM, uh, wp, Ee, decide_eq_true_eq, Bool.not_eq_true', decide_eq_false_iff_not, true_and, Nat.zero_le, zN, jh, px, tu, vk, AO, Int.reduceLE, Int.reduceLT, Nat.reducePow, Nat.reduceLT, Nat.reduceLeDiff, Int.reduceToNat, Int.reducePow, Int.reduceNeg, and_true, or_true, true_or, and_self, wv, zO, ww, wz, wA, wB, wD, wE, wF, wG, wH, wI, wJ, wK, wL, Int.toNat_natCast, if_true, if_false, Bool.false_eq_true, Bool.true_eq_false, Bool.not_true, Bool.not_false, eq_self, not_true_eq_false, not_false_eq_true, zP, zQ, zR, zS, FM, FN, FO, FP, FQ, FR, FS, FT, FU, FV, FW, FX, FY, FZ, F0, Gg, Gh, Gi, Gj, Gk, Gm, Go, Gq, Gr, Gs, Gu, Gv, Gw, Gx, Gy, Gz, GA, GB, GC, GF, GG, GH, lr, B7, uE, GI, GJ, B9, GK, Ek, GL, GM])
local macro_rules | `(tactic| walk_at "om") => `(tactic| first | assumption | lia | lia)
local macro_rules | `(tactic| walk_at "s") => `(tactic| exact ⟨rfl, rfl, rfl, by decide +kernel, rfl, by decide +kernel, by decide +kernel⟩)
namespace Lw
open PySem PySem.Spec PyProof.Rows L2 Nm
set_option hygiene false
local macro_rules | `(tactic| walk_at "a") => `(tactic| (subst hU; refine aB fun U hU => ?_; walk_at "R"))
local macro_rules | `(tactic| walk_at "a0") => `(tactic| (refine aB fun U hU => ?_; walk_at "R"))
local macro_rules | `(tactic| walk_at "b") => `(tactic| (subst hU1; refine aB fun U1 hU1 => ?_; walk_at "R"))
set_option hygiene true
noncomputable def aA (i:Nat):Stmt:=PySem.Challenge.pw_hydrahouse_k73_texts_refused.main.body.getD i (.Pass ⟨0,0,0,0⟩)
noncomputable def cO (i j:Nat):Stmt:=(D5 (aA i)).getD j (.Pass ⟨0,0,0,0⟩)
structure Txt (K:yav) (mg:yew):Prop where
 d_is_whole:vT K mg "is_whole" (aA 8) ["thing","least"] [.int 0]
 d_whole:Df K mg "whole" (aA 9) ["n"]
 d_endless:Df K mg "endless" (aA 10) []
 d_raised:vT K mg "raised" (aA 11) ["exponent","times"] [.int 1]
 d_compare:Df K mg "compare" (aA 12) ["a","b"]
 d_whole_part:Df K mg "whole_part" (aA 13) ["a"]
 d_without_whole:Df K mg "without_whole" (aA 14) ["a"]
 d_greatest:Df K mg "greatest" (aA 15) ["a"]
 d_deep:Df K mg "deep" (aA 16) ["a"]
 d_plus:Df K mg "plus" (aA 18) ["a","b"]
 d_parts_above:Df K mg "parts_above" (aA 19) ["a","exponent"]
 d_minus:Df K mg "minus" (aA 20) ["a","b"]
 d_parts_alike:Df K mg "parts_alike" (aA 21) ["a","b"]
 d_times:Df K mg "times" (aA 23) ["a","b"]
 d_power:Df K mg "power" (aA 27) ["a","b"]
 d_power_of_part:Df K mg "power_of_part" (aA 28) ["part","b"]
 d_is_too_great_powers:Ej K mg "is_too_great_powers" "is_too_great" (aA 29) ["a","b"]
 d_endless_power:Df K mg "endless_power" (aA 31) ["a","limit"]
 d_whole_power:Df K mg "whole_power" (aA 32) ["a","n"]
 d_is_figure:Df K mg "is_figure" (aA 41) ["sign"]
 d_is_letter:Df K mg "is_letter" (aA 42) ["sign"]
 d_is_figures:Df K mg "is_figures" (aA 43) ["text"]
 d_is_name:Df K mg "is_name" (aA 44) ["text"]
 d_thing_of:Df K mg "thing_of" (aA 45) ["word"]
 d_steps_of:Df K mg "steps_of" (aA 47) ["text"]
 d_looked_up:Df K mg "looked_up" (aA 48) ["steps","names"]
 d_reckoned:Df K mg "reckoned" (aA 49) ["steps"]
 d_joined:Df K mg "joined" (aA 50) ["first","sign","second"]
 d_is_too_great:Df K mg "is_too_great" (aA 51) ["a"]
 d_has_many_parts:Df K mg "has_many_parts" (aA 53) ["a"]
 d_read:vT K mg "read" (aA 55) ["text","names"] [.non]
 d__law_compare:Df K mg "_law_compare" (aA 57) ["_law_a","_law_b"]
 d__law_with:Df K mg "_law_with" (aA 58) ["_law_number","_law_exponent","_law_many"]
 d__law_size:Df K mg "_law_size" (aA 59) ["_law_number"]
 d__law_next:Df K mg "_law_next" (aA 60) ["_law_pool_here","_law_cell"]
 d__law_pool:Df K mg "_law_pool" (aA 61) ["_law_script"]
 d__law_shown:Df K mg "_law_shown" (aA 62) ["_law_number"]
 d__law_sign:Df K mg "_law_sign" (aA 63) ["_law_cell"]
 d__law_spoiled:Df K mg "_law_spoiled" (aA 64) ["_law_text","_law_cell"]
 d__law_name:Df K mg "_law_name" (aA 65) ["_law_cell"]
 d__law_run:Df K mg "_law_run" (aA 66) ["_law_text","_law_at","_law_signs"]
 d__law_step:Df K mg "_law_step" (aA 67) ["_law_text","_law_at","_law_waiting"]
 d__law_names:Df K mg "_law_names" (aA 68) ["_law_text"]
 d__law_marks:Df K mg "_law_marks" (aA 69) ["_law_e"]
 d__law_told:Df K mg "_law_told" (aA 70) ["_law_text","_law_names_here"]
 d__law_right:Df K mg "_law_right" (aA 71) ["_law_text","_law_names_here"]
 d__law_edge:Df K mg "_law_edge" (aA 72) ["_law_cell"]
 a_is_too_great_readings:mg "is_too_great_readings"=mg "is_too_great"
 k_Reading:∃C:Addr,mg "Reading"=some (.ref C)/\lG K C/\cW K C "text"/\cW K C "place"/\cW K C "steps"/\Dh K C "Reading.__init__" (cO 46 0) ["self","text"]/\Md K C "read_sum" "Reading.read_sum" (cO 46 1) ["self","within"]/\Md K C "read_product" "Reading.read_product" (cO 46 2) ["self","within"]/\Md K C "read_power" "Reading.read_power" (cO 46 3) ["self","within"]/\Md K C "read_thing" "Reading.read_thing" (cO 46 4) ["self","within"]/\Md K C "word" "Reading.word" (cO 46 5) ["self"]/\Md K C "pass_by" "Reading.pass_by" (cO 46 6) ["self","sign"]/\Md K C "sign" "Reading.sign" (cO 46 7) ["self"]
 x_:∃c0 c1 c2 c3:Addr,(mg "HydraError"=some (.ref c0)/\excIn K c0 [.type "ValueError",.type "Exception",.type "BaseException",.type "object"] "ValueError.__new__"=true)/\(mg "NoText"=some (.ref c1)/\excIn K c1 [.type "ValueError",.type "Exception",.type "BaseException",.type "object"] "ValueError.__new__"=true)/\(mg "NoName"=some (.ref c2)/\excIn K c2 [.type "ValueError",.type "Exception",.type "BaseException",.type "object"] "ValueError.__new__"=true)/\(mg "TooGreat"=some (.ref c3)/\excIn K c3 [.type "ValueError",.type "Exception",.type "BaseException",.type "object"] "ValueError.__new__"=true)/\mroIn K c1 (.ref c0)=some true/\mroIn K c1 (.ref c2)=some false/\mroIn K c1 (.ref c3)=some false/\mroIn K c2 (.ref c0)=some true/\mroIn K c2 (.ref c1)=some false/\mroIn K c2 (.ref c3)=some false/\mroIn K c3 (.ref c0)=some true/\mroIn K c3 (.ref c1)=some false/\mroIn K c3 (.ref c2)=some false/\(XQ K c0/\XD K c0)/\(XQ K c1/\XD K c1)/\(XQ K c2/\XD K c2)/\(XQ K c3/\XD K c3)
 c_MOST_FACTORS:∃t:Tok,mg "MOST_FACTORS"=some (.int 24 t)
 c_MOST_PARTS_powers:∃t:Tok,mg "MOST_PARTS_powers"=some (.int 24 t)
 c_MOST_SIGNS:∃t:Tok,mg "MOST_SIGNS"=some (.int 2000 t)
 c_MOST_FIGURES:∃t:Tok,mg "MOST_FIGURES"=some (.int 60 t)
 c_MOST_LETTERS:∃t:Tok,mg "MOST_LETTERS"=some (.int 8 t)
 c_MOST_BRACKETS:∃t:Tok,mg "MOST_BRACKETS"=some (.int 20 t)
 c_MOST_PARTS_readings:∃t:Tok,mg "MOST_PARTS_readings"=some (.int 400 t)
 c_MOST_DEEP:∃t:Tok,mg "MOST_DEEP"=some (.int 40 t)
 g_JOINING:∃a:Addr,mg "JOINING"=some (.ref a)/\El K a ["+","*","^"]
 z_ValueError:mg "ValueError"=none
 z_all:mg "all"=none
 z_bool:mg "bool"=none
 z_int:mg "int"=none
 z_isinstance:mg "isinstance"=none
 z_len:mg "len"=none
 z_max:mg "max"=none
 z_range:mg "range"=none
 z_str:mg "str"=none
 z_sum:mg "sum"=none
 z_tuple:mg "tuple"=none
 z_zip:mg "zip"=none
section
variable {P:Program} {w:World} {K:yav} {mg:yew} {base:Heap} {f:Addr} {fd:FuncData}
set_option maxHeartbeats 0
noncomputable def zZ:bJ:=λws G q _=>∃a b:O,ws=[.tup (am a),.tup (am b)]/\a.dp<=60/\q (.int (O.cmp a b)) G
noncomputable def Cb:bJ:=λws G q _=>∃a x:O,ws=[.tup (am a),.tup (am x)]/\a.NF/\a.dp<=60/\a.len<=30000/\q (.int (O.stay x a)) G
noncomputable def Aa:bJ:=λws G q _=>∃a b:O,ws=[.tup (am a),.tup (am b)]/\a.NF/\a.dp<=60/\b.dp<=60/\a.len<=30000/\b.len<=30000/\q (.tup (am (O.plusO a b))) G
noncomputable def nq:Int:=(10^1000)^8
theorem lg {i:Int} (h0:0<=i) (h:i<=nq):Wide i:=by
 have h1:nq=(((10^1000)^8:Nat):Int):=by unfold nq;rw[Int.natCast_pow,Int.natCast_pow];rfl
 have h2:((10:Nat)^1000)^8<=2^1048576:=by
  rw[←Nat.pow_mul];refine ycy (Nat.pow_le_pow_left (show 10<=2^4 by decide) _) ?_;rw[←Nat.pow_mul];exact Nat.pow_le_pow_right (by decide) (by decide)
 have h3:(2:Nat)^1048577=2^1048576*2:=Nat.pow_succ 2 1048576;have h4:0<(2:Nat)^1048576:=Nat.pow_pos (by decide);unfold Wide;rw[h3];rw[h1] at h;generalize (2:Nat)^1048576=c at h2 h4 ⊢;generalize ((10:Nat)^1000)^8=d at h h2
 (clear h1 h3;lia)
noncomputable def Ab (a b:O):Prop:=(O.mx a<=nq/\O.mx b<=wM)∨(O.mx a<=wM/\O.mx b<=nq)
theorem Er (F:cv K "compare" "compare" (aA 12) f fd):cB P w K mg base 1 f fd ["a","b"] zZ:=by
 refine fm F (N:=["a","b"]) (by walk_at "s") (by walk_at "l") λ_ _ _ _ _ _ nd hr=>?_;apply aN
 ·exact(ac (aL (au (ba hr) (aa 0) (aa 1)) (ac (aq ah) af) af) (ac (aq (iT (au (ff hr) (aa 0) (aa 1)) (dY ah) ah)) af))
 ·rintro ws G q e ⟨a,b,rfl,hx,hq⟩;walk_at "R";have h1:=je a b;have hd:=bX a;rw[gh,h1.2];refine⟨bb a,bb b,by (clear h1;lia),?_⟩;rcases O.cmp_range a b with k | k | k
  ·rw[ycw (by simp;intro z;rw[z,O.cmp_self] at k;(clear hx h1 hd;lia)),ycv (by simp;(clear hx h1 hd;lia))];exact⟨cC a,cC b,jZ a (by walk_at "om"),h1.1,aC.done (by rw[k] at hq;exact hq)⟩
  ·rw[ycv (by simpa using O.cmp_eq _ _ k)];exact aC.done (by rw[k] at hq;exact hq)
  ·rw[ycw (by simp;intro z;rw[z,O.cmp_self] at k;(clear hx h1 hd;lia)),ycw (by simp;(clear hx h1 hd;lia))];exact⟨cC a,cC b,jZ a (by walk_at "om"),h1.1,aC.done (by rw[k] at hq;exact hq)⟩
theorem Es (F:cv K "parts_above" "parts_above" (aA 19) f fd) (F1:Fx P w K mg base "compare" ["a","b"] 1 zZ) (ml:mg "len"=none):cB P w K mg base 2 f fd ["a","exponent"] Cb:=by
 refine fm F (N:=["a","exponent","low","high","middle"]) (by walk_at "s") (by walk_at "l") λ_ _ _ _ _ _ nd hr=>?_;apply aN
 ·exact(ac (ao 2 nd rfl (.inl rfl) ah) (ac (ao 3 nd rfl (.inl rfl) (aR bB rfl ml PySem.boot_len (ae (aa 0) ag))) (ac (dB PySem.PassesOwn.never (au (ff hr) (aa 2) (aa 3)) (ac (ao 4 nd rfl (.inl rfl) (av cS (av aE (aa 2) (aa 3)) ah)) (ac (aL (au gv (aD F1 (ay.mono hr (by lia)) rfl (ae (aG aI (aG aI (aa 0) (aa 4)) ah) (ae (aa 1) ag))) ah) (ac (ao 2 nd rfl (.inl rfl) (av aE (aa 4) ah)) af) (ac (ao 3 nd rfl (.inl rfl) (aa 4)) af)) af))) (ac (aq (aa 2)) af))))
 ·rintro ws G q e ⟨a,x,rfl,hn,hx,hl,hq⟩;walk_at "a0";walk_at "a";rw[aH];subst hU;refine aB λU hU=>?_;refine⟨λm τ G'=>G'=G/\∃(lo hi:Nat) (t4:Option W),τ=[some (.tup (am a)),some (.tup (am x)),some (.int (lo:Int)),some (.int (hi:Int)),t4]/\lo<=O.stay x a/\O.stay x a<=hi/\hi<=a.len/\m=hi-lo,⟨a.len,rfl,0,a.len,none,rfl,zero_le _,O.stay_le,ycx _,rfl⟩,?_⟩;rintro m τ G' ⟨rfl,lo,hi,t4,rfl,h1,h2,h3,rfl⟩;walk_at "R";split
  ·rename_i hlt;refine⟨λτ1 G1=>G1=G'/\∃(lo' hi':Nat) (t4:Option W),τ1=[some (.tup (am a)),some (.tup (am x)),some (.int (lo':Int)),some (.int (hi':Int)),t4]/\lo'<=O.stay x a/\O.stay x a<=hi'/\hi'<=a.len/\hi'-lo'<hi-lo,?_,?_⟩
   ·rintro τ1 G1 ⟨rfl,lo',hi',t4,rfl,k1,k2,k3,k4⟩;exact⟨_,k4,rfl,lo',hi',t4,rfl,k1,k2,k3,rfl⟩
   ·have em:((lo:Int)+hi)/2=(((lo+hi)/2:Nat):Int):=by (clear hx hl h1 h2 h3 hlt;lia)
    obtain⟨y,n,hp⟩:=O.getP_some (a:=a) (i:=(lo+hi)/2) (by (clear hx hl h1 h2;lia));rw[em];refine⟨_,eX hp,?_⟩;have hs:=O.getP_size hp;have hab:=O.above_iff (e:=x) hn hp;unfold dh fk;walk_at "R";refine⟨y,x,rfl,by (clear hl h1 h2 h3 hlt em hab;lia),?_⟩;walk_at "R";split
    ·rename_i hc;have:=hab.mp hc;exact⟨(lo+hi)/2+1,hi,_,rfl,by assumption,h2,h3,by (clear hx h1 h2 hs hab hc this;lia)⟩
    ·rename_i hc;have:=λz=>hc (hab.mpr z);exact⟨lo,(lo+hi)/2,_,rfl,h1,by (clear hx hl h1 h2 h3 hlt em hs;lia),by (clear hx hl h1 h2 hs hab hc;lia),by (clear hx h1 h2 hs hab hc;lia)⟩
  ·subst hU;walk_at "R";have:(lo:Int)=O.stay x a:=by (clear hx hl h3;lia)
   rw[this];exact aC.done hq
theorem Et (F:cv K "plus" "plus" (aA 18) f fd) (F1:Fx P w K mg base "parts_above" ["a","exponent"] 2 Cb) (ml:mg "len"=none):cB P w K mg base 3 f fd ["a","b"] Aa:=by
 refine fm F (N:=["a","b","exponent","stay","both"]) (by walk_at "s") (by walk_at "l") λ_ _ _ _ _ _ nd hr=>?_;apply aN
 ·exact(ac (aL (au (ba hr) (aa 1) (aU ag)) (ac (aq (aa 0)) af) af) (ac (ao 2 nd rfl (.inl rfl) (aG aI (aG aI (aa 1) ah) ah)) (ac (ao 3 nd rfl (.inl rfl) (aD F1 (ay.mono hr (by lia)) rfl (ae (aa 0) (ae (aa 2) ag)))) (ac (aL (cQ (cx (au (ff hr) (aa 3) (aR bB rfl ml PySem.boot_len (ae (aa 0) ag))) (bV (au (ba hr) (aG aI (aG aI (aa 0) (aa 3)) ah) (aa 2))))) (ac (ao 4 nd rfl (.inl rfl) (aU (ae (aa 2) (ae (av aE (aG aI (aG aI (aa 0) (aa 3)) ah) (aG aI (aG aI (aa 1) ah) ah)) ag)))) (ac (aq (av aE (av aE (bD (aa 0) bK (bc (aa 3))) (aU (ae (aa 4) ag))) (bD (aa 1) (bc ah) bK))) af)) af) (ac (aq (av aE (bD (aa 0) bK (bc (aa 3))) (aa 1))) af)))))
 ·rintro ws G q e ⟨a,b,rfl,hn,hx,hy,hl,hl2,hq⟩;have hd:=bX b;walk_at "a0";refine⟨bb b,by (clear hx hl hl2;lia),?_⟩;rw[bI];cases b with
  | z=>
    rw[ycv (by simp)];exact aC.done hq
  | c e n r=>
    rw[ycw (by simp)];simp only[O.len] at hl2;have hde:e.dp<=60:=by simp only[O.dp] at hy;(clear hx hl hl2 hd;lia)
    subst hU;refine aB λU hU=>?_;rw[bv];unfold dh fk;walk_at "R";walk_at "a";refine⟨a,e,rfl,hn,hx,hl,?_⟩;subst hU;have hst:=O.stay_le (e:=e) (a:=a);have hsame:=O.same_stay (e:=e) hn;have htake:=O.take_stay (e:=e) hn;have e1:dF (W.tup [W.tup (am e),W.int n]::am r) (some 1) none=am r:=by rw[show(1:Int)=((1:Nat):Int) from rfl,gJ];rfl
    have e2:dF (am a) none (some (O.stay e a:Int))=am (O.filt (λx _=>decide (0<O.cmp x e)) a):=by rw[uj,ib,htake]
    have l1:=fB (λx _=>decide (0<O.cmp x e)) a;have hq':q (.tup (am (O.filt (λx _=>decide (0<O.cmp x e)) a)++(dh e (O.same e a+n)::am r))) G:=by
     rw[O.plus_c,fA,bv] at hq;exact hq
    refine aB λU hU=>?_;have other:O.same e a=0->U { nx:=λx G1=>∃G0,aC G0 G1/\q W.non G0,rt:=λw G1=>∃G0,aC G0 G1/\q w G0 } [some (W.tup (am a)),some (W.tup (W.tup [W.tup (am e),W.int n]::am r)),some (W.tup (am e)),some (W.int (O.stay e a)),none] G:=λhz=>by
     subst hU;walk_at "R";rw[e2];refine⟨by rw[aH,aH];(clear hx hy hd hde hst hsame htake e2 hz;lia),aC.done ?_⟩;rw[hz,Int.zero_add] at hq';exact hq'
    walk_at "R";rw[aH];split
    ·rename_i hlt;obtain⟨y,m,hp⟩:=O.getP_some (a:=a) (i:=O.stay e a) (by (clear hx hl hy hl2 hd hde hst hsame htake e2 l1;lia));have hs:=O.getP_size hp;have hdy:=bX y;refine⟨_,eX hp,?_⟩;rw[hp] at hsame;have hsame':O.same e a=if y=e then m else 0:=hsame
     unfold dh fk;walk_at "R";refine⟨bb y,bb e,by (clear hl hy hl2 hd hde hst htake e2 l1 hlt hsame hsame';lia),?_⟩;rw[gh]
     by_cases hye:y=e
     ·rw[ycv (by simpa using hye)];refine⟨_,eX hp,?_⟩;unfold dh fk;walk_at "R";rw[e1,e2];rw[ycv hye] at hsame';refine⟨by rw[aH];(clear hx hy hl2 hd hde hst htake e2 hlt hsame hs hdy hsame';lia),by rw[length_append,aH,aH];simp;(clear hx hy hd hde hst htake e2 hlt hsame hs hdy hsame';lia),aC.done ?_⟩;rw[hsame'] at hq';rw[append_assoc];exact hq'
     ·rw[ycw (by simpa using hye)];rw[ycw hye] at hsame';exact other hsame'
    ·rename_i hlt;rw[O.getP_none.mpr (by (clear hx hl hy hl2 hd hde hsame htake e2 l1;lia))] at hsame;exact other hsame
theorem jo:∀{a:O} {x:O} {n:Int},a.NF->O.last a=.c x n .z->O.same .z a=if x=.z then n else 0
 | .z,_,_,_,h=>by cases h
 | .c e m .z,x,n,ha,h=>by
   have:O.last (.c e m .z)=.c e m .z:=rfl;rw[this] at h;injection h with h1 h2 _
   subst h1 h2
   by_cases k:e=.z
   ·subst k;rw[ycv rfl,O.same_self ha.2.2.1]
   ·rw[ycw k,O.same_ne k];rfl
 | .c e m (.c e' m' r'),x,n,ha,h=>by
   have e0:O.last (.c e m (.c e' m' r'))=O.last (.c e' m' r'):=by simp[O.last]
   rw[e0] at h;have hne:e≠ .z:=λz=>by
    subst z;have:=ha.2.2.1.1;cases e'<;> simp[O.cmp] at this
   rw[O.same_ne hne];exact jo ha.2.2.2 h
theorem nr:∀{a:O},a.NF->O.same .z a=0->O.filt (λy _=>decide (¬y=.z)) a=a
 | .z,_,_=>rfl
 | .c e m r,ha,h=>by
   have hne:e≠ .z:=λz=>by
    subst z;rw[O.same_self ha.2.2.1] at h;have:=ha.2.1;lia
   rw[O.same_ne hne] at h;rw[O.filt_c,ycv (by simpa using hne),nr ha.2.2.2 h]
theorem jp:∀{a:O},a.NF->O.same .z a≠0->O.filt (λy _=>decide (¬y=.z)) a=O.init a
 | .z,_,h=>absurd rfl h
 | .c e m .z,ha,h=>by
   have:e=.z:=Classical.byContradiction λk=>h (by rw[O.same_ne k];rfl);subst this
   rfl
 | .c e m (.c e' m' r'),ha,h=>by
   have hne:e≠ .z:=λz=>by
    subst z;have:=ha.2.2.1.1;cases e'<;> simp[O.cmp] at this
   rw[O.same_ne hne] at h;have e0:O.init (.c e m (.c e' m' r'))=.c e m (O.init (.c e' m' r')):=by simp[O.init]
   rw[O.filt_c,ycv (by simpa using hne),jp ha.2.2.2 h,e0]
noncomputable def rN:bJ:=λws G q _=>∃a:O,ws=[.tup (am a)]/\a.NF/\a.dp<=60/\q (.int (O.same .z a)) G
noncomputable def Ac:bJ:=λws G q _=>∃a:O,ws=[.tup (am a)]/\a.NF/\a.dp<=60/\q (.tup (am (O.filt (λy _=>decide (¬y=.z)) a))) G
theorem Eu (F:cv K "whole_part" "whole_part" (aA 13) f fd):cB P w K mg base 1 f fd ["a"] rN:=by
 refine fm F (N:=["a"]) (by walk_at "s") (by walk_at "l") λ_ _ _ _ _ _ nd hr=>?_;apply aN
 ·exact(ac (aL (cQ (dA (au (ba hr) (aa 0) (aU ag)) (cP (au (dM hr) (aG aI (aG aI (aa 0) (dY ah)) ah) (aU ag))))) (ac (aq ah) af) af) (ac (aq (aG aI (aG aI (aa 0) (dY ah)) ah)) af))
 ·rintro ws G q e ⟨a,rfl,ha,hd,hq⟩;have hd2:=bX a;walk_at "R";refine⟨bb a,by walk_at "om",?_⟩;rw[bI]
  by_cases hz:a=.z
  ·subst hz;rw[ycv (by simp)];exact aC.done hq
  ·rw[ycw (by simpa using hz)];obtain⟨x,n,h1,h2⟩:=oO hz;have hw:=jo ha h1;have hs:=O.getP_size h2;have hdx:=bX x;refine⟨_,eY h2,?_⟩;unfold dh fk;walk_at "R";refine⟨bb x,by (clear hd2 hw;lia),?_⟩;rw[bI]
   by_cases hx:x=.z
   ·rw[ycw (by simpa using hx)];rw[ycv hx] at hw;have h3:=eY h2;unfold dh fk at h3;refine⟨_,h3,?_⟩;walk_at "R";rw[hw] at hq;exact aC.done hq
   ·rw[ycv (by simpa using hx)];rw[ycw hx] at hw;rw[hw] at hq;exact aC.done hq
theorem Ev (F:cv K "without_whole" "without_whole" (aA 14) f fd) (F1:Fx P w K mg base "whole_part" ["a"] 1 rN):cB P w K mg base 2 f fd ["a"] Ac:=by
 refine fm F (N:=["a"]) (by walk_at "s") (by walk_at "l") λ_ _ _ _ _ _ nd hr=>?_;apply aN
 ·exact(ac (aL (au (ba hr) (aD F1 (ay.mono hr (by lia)) rfl (ae (aa 0) ag)) ah) (ac (aq (aa 0)) af) af) (ac (aq (bD (aa 0) bK (bc (dY ah)))) af))
 ·rintro ws G q e ⟨a,rfl,ha,hd,hq⟩;walk_at "R";refine⟨a,rfl,ha,hd,?_⟩;walk_at "R";split
  ·rename_i h;rw[nr ha h] at hq;exact aC.done hq
  ·rename_i h;rw[jp ha h] at hq;rw[mZ];exact aC.done hq
noncomputable def jz (e:O):O->O
 | .z=> .z
 | .c f d t=> .c (O.plusO e f) d (jz e t)
theorem kl (e:O):∀b:O,mapP (λ_ _=>true) (λx m=>dh (O.plusO e x) m) b=am (jz e b)
 | .z=>rfl
 | .c f d t=>by rw[mapP,ycv rfl,kl e t];rfl
theorem nu (e:O):∀b:O,(jz e b).len=b.len
 | .z=>rfl
 | .c f d t=>by simp only[jz,O.len,nu e t]
theorem km {e:O} {n:Int} {r:O}:∀{b:O},b.NF->O.mulP e n r b=O.app (jz e (O.filt (λy _=>decide (¬y=.z)) b)) (if O.same .z b=0 then .z else .c e (n*O.same .z b) r)
 | .z,_=>rfl
 | .c f d t,hb=>by
   rw[O.mulP_c,O.filt_c]
   by_cases k:f=.z
   ·subst k;have hd:=hb.2.1;rw[ycv rfl,ycw (by simp),O.Lt_z hb.2.2.1,O.same_self (r:= .z) trivial,ycw (by walk_at "om")]
    rfl
   ·rw[ycw k,ycv (by simpa using k),O.same_ne k,km hb.2.2.2]
    rfl
noncomputable def rO:bJ:=λws G q _=>∃a b:O,ws=[.tup (am a),.tup (am b)]/\a.NF/\b.NF/\a.dp<=50/\b.dp<=50/\O.hw a<=15000/\O.hw b<=15000/\Ab a b/\q (.tup (am (O.timesO a b))) G
theorem Ew (F:cv K "times" "times" (aA 23) f fd) (F1:Fx P w K mg base "whole_part" ["a"] 1 rN) (F2:Fx P w K mg base "without_whole" ["a"] 2 Ac) (F3:Fx P w K mg base "plus" ["a","b"] 3 Aa) (mt:mg "tuple"=none):cB P w K mg base 4 f fd ["a","b"] rO:=by
 refine fm F (N:=["a","b","exponent","parts","many"]) (by walk_at "s") (by walk_at "l") λ_ _ _ _ _ _ nd hr=>?_;apply aN
 ·exact(ac (aL (cQ (dA (au (ba hr) (aa 0) (aU ag)) (cP (au (ba hr) (aa 1) (aU ag))))) (ac (aq (aU ag)) af) af) (ac (ao 2 nd rfl (.inr rfl) (aG aI (aG aI (aa 0) ah) ah)) (ac (kJ 3 (d8 (by first | rfl | decide+kernel)) rfl nd rfl (.inl rfl) (bS (aD F2 (ay.mono hr (by lia)) rfl (ae (aa 1) ag))) (λ_ _ _ _=>(cK 1 (by first | assumption | decide+kernel | rfl) rfl (.inl rfl))) (λ_ _ _ _=>eP) (λ_ _ _ _=>(aU (ae (aD F3 (ay.mono hr (by lia)) rfl (ae (aa 3 rfl (.inr (.inl rfl))) (ae (aG aI (aa 1) ah) ag))) (ae (aG aI (aa 1) ah) ag))))) (ac (ao 4 nd rfl (.inl rfl) (aD F1 (ay.mono hr (by lia)) rfl (ae (aa 1) ag))) (ac (aL (au (ba hr) (aa 4) ah) (ac (aq (cU iA rfl mt eR (ae (aa 3) ag))) af) af) (ac (aq (av aE (av aE (cU iA rfl mt eR (ae (aa 3) ag)) (aU (ae (aU (ae (aa 2 rfl (.inr (.inl rfl))) (ae (av e9 (aG aI (aG aI (aa 0) ah) ah) (aa 4)) ag))) ag))) (bD (aa 0) (bc ah) bK))) af))))))
 ·rintro ws G q e ⟨a,b,rfl,na,nb,da,db,sa,sb,mu,hq⟩;have hda:=bX a;have hdb:=bX b;have la:=O.len_le_hw a;have lb:=O.len_le_hw b;walk_at "a0";refine⟨bb a,by (clear db sa sb hdb la lb;lia),?_⟩;rw[bI];cases a with
  | z=>
    rw[ycv (by simp)];exact aC.done hq
  | c e n r=>
    rw[ycw (by simp)];refine⟨bb b,by (clear sb lb da sa hda la;lia),?_⟩;rw[bI]
    by_cases hb0:b=.z
    ·subst hb0;rw[ycv (by simp)];exact aC.done hq
    ·rw[ycw (by simpa using hb0)];subst hU;rw[O.hw_c] at sa;simp only[O.dp,O.len] at da la;have le1:=O.len_le_hw e;have lr1:=O.len_le_hw r;rw[bv];unfold dh fk;walk_at "a0";walk_at "a";refine⟨b,rfl,nb,by walk_at "om",?_⟩;walk_at "R";show cF _ _ _ _ _ [none,none,none,some (W.tup (am e))] G [] _;have lf:=fB (λy _=>decide (¬y=O.z)) b;have df:=O.dp_filt (λy _=>decide (¬y=O.z)) b;have sf:=O.hw_filt (λy _=>decide (¬y=O.z)) b;refine cM (λ_ _=>true) (λx m=>dh (O.plusO e x) m) trivial (qd _) (λy m hy k hk=>?_) (λy m hy _ k hk=>?_) (by rw[length_nil];(clear db hdb da sa hda la le1 lr1 df sf;lia)) (λ_=>rfl) λp1 hp1=>?_
     ·walk_at "R";exact hk
     ·have ly:=O.len_le_hw y;unfold dh fk at hk ⊢;walk_at "R";exact⟨e,y,rfl,na.1,by (clear db sb hdb lb sa hda la le1 lf df sf hy ly;lia),by (clear sb hdb lb da sa hda la le1 lr1 lf sf ly;lia),by (clear db sb hdb lb da hda la lf df sf hy ly;lia),by (clear db hdb lb da sa hda la le1 lr1 lf df;lia),hk⟩
     rw[nil_append,kl];have hG1:=ak (G:=G) (a:=p1) (g:=GO.lst (am (jz e (O.filt (λy _=>decide (¬y=O.z)) b))));have le:aC G (aX G p1 (GO.lst (am (jz e (O.filt (λy _=>decide (¬y=O.z)) b))))):=aC.new hp1;generalize aX G p1 (GO.lst (am (jz e (O.filt (λy _=>decide (¬y=O.z)) b))))=G1 at hG1 le ⊢;walk_at "a";refine⟨b,rfl,nb,by walk_at "om",?_⟩;have hsp:O.timesO (.c e n r) b=_:=km (e:=e) (n:=n) (r:=r) nb;rw[hsp] at hq;have hn:=na.2.1;have hsm:=O.same_le_mx .z nb;have hs0:=O.same_nonneg .z nb;have hnm:=O.mx_hn (e:=e) (n:=n) (r:=r);have mulOk:jh n (O.same .z b):=by
      rcases mu with⟨m1,m2⟩ | ⟨m1,m2⟩
      ·exact .inr (.inl ⟨lg (by (clear db sb hdb lb da sa hda la le1 lr1 lf df sf hsp hsm hs0 hnm m1 m2;lia)) (ydv hnm m1),qe hs0 (ydv hsm m2)⟩)
      ·exact .inr (.inr ⟨qe (by (clear db sb hdb lb da sa hda la le1 lr1 lf df sf hsp hsm hs0 hnm m1 m2;lia)) (ydv hnm m1),lg hs0 (ydv hsm m2)⟩)
     have lm:=nu e (O.filt (λy _=>decide (¬y=O.z)) b);walk_at "a";split
     ·rename_i h0;refine⟨_,hG1,G,le,?_⟩;rw[ycv h0] at hq;have:O.app (jz e (O.filt (λy _=>decide (¬y=O.z)) b)) .z=jz e (O.filt (λy _=>decide (¬y=O.z)) b):=mX (by rw[fA,zL,append_nil]);rw[this] at hq;exact hq
     ·rename_i h0;rw[ycw h0,fA,bv] at hq;subst hU;have e1:dF (W.tup [W.tup (am e),W.int n]::am r) (some 1) none=am r:=by rw[show(1:Int)=((1:Nat):Int) from rfl,gJ];rfl
      walk_at "R";rw[e1];refine⟨_,hG1,mulOk,by rw[aH,lm];(clear db hdb da sa hda la le1 lr1 df sf hsp hn hsm hs0 hnm h0;lia),by rw[length_append,aH,aH,length_cons,length_nil,lm];(clear db hdb da hda la le1 lr1 df sf hsp hn hsm hnm;lia),G,le,?_⟩;rw[append_assoc];exact hq
noncomputable def Cc:bJ:=λws G q _=>∃a b:O,ws=[.tup (am a),.tup (am b)]/\a.dp<=60/\q (.int (O.alike a b:Nat)) G
theorem Ex (F:cv K "parts_alike" "parts_alike" (aA 21) f fd) (ml:mg "len"=none):cB P w K mg base 1 f fd ["a","b"] Cc:=by
 refine fm F (N:=["a","b","alike"]) (by walk_at "s") (by walk_at "l") λ_ _ _ _ _ _ nd hr=>?_;apply aN
 ·exact(ac (ao 2 nd rfl (.inl rfl) ah) (ac (dB PySem.PassesOwn.never (cQ (cx (au (ff hr) (aa 2) (aR bB rfl ml PySem.boot_len (ae (aa 0) ag))) (cx (au (ff hr) (aa 2) (aR bB rfl ml PySem.boot_len (ae (aa 1) ag))) (bV (au (ba hr) (aG aI (aa 0) (aa 2)) (aG aI (aa 1) (aa 2))))))) (ac (ao 2 nd rfl (.inl rfl) (av aE (aa 2) ah)) af)) (ac (aq (aa 2)) af)))
 ·rintro ws G q e ⟨a,b,rfl,hd,hq⟩;have hle:=O.alike_le a b;walk_at "a0";subst hU;refine aB λU hU=>?_;refine gk (λm τ G'=>G'=G/\∃i:Nat,τ=[some (.tup (am a)),some (.tup (am b)),some (.int (i:Int))]/\i<=O.alike a b/\m=a.len-i) ⟨_,rfl,0,rfl,zero_le _,rfl⟩ ?_;rintro m τ G' ⟨rfl,i,rfl,hi,rfl⟩ B hB;have stop:i=O.alike a b->U { nx:=λx G1=>∃G0,aC G0 G1/\q W.non G0,rt:=λw G1=>∃G0,aC G0 G1/\q w G0 } [some (.tup (am a)),some (.tup (am b)),some (.int (i:Int))] G':=λh=>by
   subst hU;walk_at "R";rw[h];exact aC.done hq
  walk_at "R";rw[aH,aH];split
  ·rename_i h1;split
   ·rename_i h2;obtain⟨x,n,hp⟩:=O.getP_some (a:=a) (i:=i) (by (clear hd hle hi h2;lia));obtain⟨x',n',hp'⟩:=O.getP_some (a:=b) (i:=i) (by (clear hd hle hi h1;lia));have hs:=O.getP_size hp;have hat:=O.alike_at hp hp' hi;have pd:=wn x n;refine⟨_,eX hp,_,eX hp',?_⟩;refine⟨jV x n,jV x' n',by (clear hle hi h1 h2 hat;lia),?_⟩;rw[uf];dsimp only
    by_cases hh:x=x'/\n=n'
    ·rw[ycv (by simpa using hh)];refine⟨λτ1 G1=>G1=G'/\τ1=[some (.tup (am a)),some (.tup (am b)),some (.int ((i+1:Nat):Int))],?_,?_⟩
     ·rintro τ1 G1 ⟨rfl,rfl⟩;have:=hat.mpr hh;exact⟨a.len- (i+1),by (clear hd hle hi h2 hs hat pd hh this;lia),rfl,i+1,rfl,by assumption,rfl⟩
     ·subst hB;walk_at "R"
      rfl
    ·rw[ycw (by simpa using hh)];have:¬i<O.alike a b:=λk=>hh (hat.mp k);exact stop (by (clear hd hle h1 h2 hs hat pd hh;lia))
   ·exact stop (by (clear hd h1;lia))
  ·exact stop (by (clear hd;lia))
noncomputable def Ce:bJ:=λws G q _=>∃a b:O,ws=[.tup (am a),.tup (am b)]/\O.cmp b a<=0/\a.dp<=60/\b.dp<=60/\a.len<=5000/\q (.tup (am (O.minusO a b))) G
theorem Ey (F:cv K "minus" "minus" (aA 20) f fd) (F1:Fx P w K mg base "compare" ["a","b"] 1 zZ) (F2:Fx P w K mg base "parts_alike" ["a","b"] 1 Cc) (ml:mg "len"=none):cB P w K mg base 2 f fd ["a","b"] Ce:=by
 refine fm F (N:=["a","b","alike","rest"]) (by walk_at "s") (by walk_at "l") λ_ _ _ _ _ _ nd hr=>?_;apply aN
 ·exact(ac (aL (au gv (aD F1 (ay.mono hr (by lia)) rfl (ae (aa 1) (ae (aa 0) ag))) ah) (ac me af) af) (ac (ao 2 nd rfl (.inl rfl) (aD F2 (ay.mono hr (by lia)) rfl (ae (aa 0) (ae (aa 1) ag)))) (ac (ao 3 nd rfl (.inl rfl) (bD (aa 0) (bc (aa 2)) bK)) (ac (aL (cQ (dA (au (ba hr) (aa 2) (aR bB rfl ml PySem.boot_len (ae (aa 1) ag))) (cP (au (dM hr) (aG aI (aG aI (aa 3) ah) ah) (aG aI (aG aI (aa 1) (aa 2)) ah))))) (ac (aq (aa 3)) af) af) (ac (aq (av aE (aU (ae (aU (ae (aG aI (aG aI (aa 3) ah) ah) (ae (av pk (aG aI (aG aI (aa 3) ah) ah) (aG aI (aG aI (aa 1) (aa 2)) ah)) ag))) ag)) (bD (aa 3) (bc ah) bK))) af)))))
 ·rintro ws G q e ⟨a,b,rfl,hc,hd,hd2,hl,hq⟩;have hle:=O.alike_le a b;walk_at "a0";refine⟨b,a,rfl,hd2,?_⟩;walk_at "R";rw[ycw (by (clear hd hd2 hl hle;lia))];walk_at "a";refine⟨a,b,rfl,hd,?_⟩;walk_at "a";rw[gJ,ia];walk_at "a";rw[aH]
  by_cases hb:O.alike a b=b.len
  ·rw[ycv (by (clear hc hd hd2 hl hle;lia))];rw[O.minus_end hb] at hq;exact aC.done hq
  ·rw[ycw (by (clear hc hd hd2 hl hle;lia))];obtain⟨x,n,x',n',h1,h2,h3⟩:=O.alike_more hc (by (clear hc hd hd2 hl;lia));have hdr:=O.dropO_get h1;have hs:=O.getP_size h1;have hdx:=bX x;have lend:=O.len_dropO (O.alike a b+1) a;rw[hdr,bv];unfold dh fk;walk_at "R";refine⟨_,eX h2,?_⟩;unfold dh fk;walk_at "R";refine⟨bb x,bb x',by (clear hc hd2 hl hle hb lend;lia),?_⟩;rw[gh]
   by_cases hx:x=x'
   ·rw[ycw (by simpa using hx)];rw[h3,ycv hx,bv] at hq;subst hU;have e1:dF (W.tup [W.tup (am x),W.int n]::am (O.dropO (O.alike a b+1) a)) (some 1) none=am (O.dropO (O.alike a b+1) a):=by rw[show(1:Int)=((1:Nat):Int) from rfl,gJ];rfl
    walk_at "R";refine⟨_,eX h2,?_⟩;unfold dh fk;walk_at "R";rw[e1,aH];exact⟨by (clear hc hd hd2 hle hb hs hdx;lia),aC.done hq⟩
   ·rw[ycv (by simpa using hx)];rw[h3,ycw hx,hdr,bv] at hq;exact aC.done hq
noncomputable def Cf:bJ:=λws G q _=>∃n k:Int,ws=[.int n,.int k]/\q (.bl (decide (k<=n))) G
theorem scWh:bh ["thing","least"] ["thing","least"] (al (aA 8)):=by walk_at "s"
theorem Ez {T:Addr} {ds:yez} (F:fY K "is_whole" "is_whole" (aA 8) f fd T ds) (mi:mg "isinstance"=none) (mn:mg "int"=none) (mb:mg "bool"=none):cB P w K mg base 1 f fd ["thing","least"] Cf:=by
 have nd:=scWh.nd;refine BB F scWh (λws G q e h=>by obtain⟨_,_,rfl,_⟩:=h;rfl) (λcdv A outer s H E hr=>?_);apply aN
 ·exact(ac (aq (sM (fV (T:="int") (x:="int") (by first | simp[jt] | assumption | decide+kernel) PyProof.Rows.boot_int mn rfl mi rfl (aa 0)) (sM (ze (fV (T:="bool") (x:="bool") (by first | simp[jt] | assumption | decide+kernel) PyProof.Rows.boot_bool mb rfl mi rfl (aa 0))) (kG (cI zk (aa 0) (aa 1)))))) af)
 ·rintro ws G q e ⟨n,k,rfl,hq⟩;walk_at "R";exact aC.done hq
noncomputable def uK:bJ:=λws G q _=>∃(x:O) (n:Int),ws=[.tup (am x),.int n]/\0<=n/\q (.tup (am (if n=0 then .z else .c x n .z))) G
theorem scRs:bh ["exponent","times"] ["exponent","times"] (al (aA 11)):=by walk_at "s"
theorem Cg {T:Addr} {ds:yez} (F:fY K "raised" "raised" (aA 11) f fd T ds) (F1:BC P w K mg base "is_whole" ["thing","least"] 1 Cf [.int 0]):cB P w K mg base 2 f fd ["exponent","times"] uK:=by
 have nd:=scRs.nd;refine BB F scRs (λws G q e h=>by obtain⟨_,_,rfl,_⟩:=h;rfl) (λcdv A outer s H E hr=>?_);apply aN
 ·exact(ac (aL (dt (bx (kM F1 (ay.mono hr (by omega)) rfl (ae (aa 1) ag)))) (ac me af) af) (ac (aL (au (ba hr) (aa 1) ah) (ac (aq (aU ag)) af) af) (ac (aq (aU (ae (aU (ae (aa 0) (ae (aa 1) ag))) ag))) af)))
 ·rintro ws G q e ⟨x,n,rfl,hn,hq⟩;walk_at "R";refine⟨n,0,rfl,?_⟩;walk_at "R";rw[ycw (by walk_at "om")];split
  ·rename_i h;rw[ycv h] at hq;exact aC.done hq
  ·rename_i h;rw[ycw h,bv] at hq;exact aC.done hq
noncomputable def rP:bJ:=λws G q _=>∃n:Int,ws=[.int n]/\0<=n/\q (.tup (am (O.wh n))) G
theorem EA (F:cv K "whole" "whole" (aA 9) f fd) (F1:Fx P w K mg base "raised" ["exponent","times"] 2 uK):cB P w K mg base 3 f fd ["n"] rP:=by
 refine fm F (N:=["n"]) (by walk_at "s") (by walk_at "l") λ_ _ _ _ _ _ nd hr=>?_;apply aN
 ·exact(ac (aq (aD F1 (ay.mono hr (by lia)) rfl (ae (aU ag) (ae (aa 0) ag)))) af)
 ·rintro ws G q e ⟨n,rfl,hn,hq⟩;walk_at "R";exact⟨.z,n,rfl,hn,aC.done hq⟩
theorem qi:∀{a:O},a.NF->O.Lm a->jy (λe _=>e.NF/\e≠ .z/\e.dp<a.dp/\O.hw e<=O.hw a) a
 | .z,_,_=>trivial
 | .c e n r,h,l=>by
   refine⟨⟨h.1,l.1,by simp only[O.dp];lia,by rw[O.hw_c];lia⟩,?_⟩;refine jy.imp (λe' _ ⟨h1,h2,h3,h4⟩=>⟨h1,h2,?_,?_⟩) (qi h.2.2.2 l.2)
   ·simp only[O.dp];(clear h3 h4;lia)
   ·rw[O.hw_c];(clear h3 h4;lia)
theorem kn:∀a:O,mapP (λ_ _=>true) (λe n=>dh (O.minusO e O.one) n) a=am (O.decr a)
 | .z=>rfl
 | .c e n r=>by rw[mapP,ycv rfl,kn r];rfl
theorem jq:∀a:O,∃ns:List Int,mapP (λ_ _=>true) (λ_ n=> .int n) a=ns.map W.int/\ns.length=a.len/\∀x,x∈ns->x<=O.ot a
 | .z=>⟨[],rfl,rfl,λx h=>by cases h⟩
 | .c e n r=>by
   obtain⟨ns,h1,h2,h3⟩:=jq r;refine⟨n::ns,by rw[mapP,ycv rfl,h1];rfl,by simp[O.len,h2],λx hx=>?_⟩;rw[O.ot_c];rcases mem_cons.mp hx with rfl | h
   ·(clear h2;lia)
   ·have:=h3 x h;(clear h2;lia)
theorem oS:(10:Int)^300<=wM:=by decide+kernel
theorem nv {a:O} {n:Nat} (ha:a.NF) (hm:O.mx a<10^300) (hn:n<=24):O.mx (O.npow a n)<=nq:=by
 have h1:=O.npow_mx ha (Int.le_of_lt hm) n;have m0:=O.mx_nonneg a;have h5:=O.ipow_mono (B:=(10:Int)^300+2) (by decide+kernel) (n:=n) (24-n);rw[show n+(24-n)=24 by (clear hm h1 m0 h5;lia)] at h5;have h6:2*((10:Int)^300+2)^24<=nq:=by decide+kernel
 have h7:2*((10:Int)^300+2)^n<=2*((10:Int)^300+2)^24:=Int.mul_le_mul_of_nonneg_left h5 (by decide);generalize 2*((10:Int)^300+2)^24=B at h6 h7;generalize 2*((10:Int)^300+2)^n=D at h1 h7
 (clear hm hn m0 h5;lia)
theorem xg:wM<=nq:=by decide+kernel
theorem Ad {a b:O} (h1:O.mx a<10^300) (h2:O.mx b<10^300):Ab a b:= .inl ⟨ydv (ydv (Int.le_of_lt h1) oS) xg,ydv (Int.le_of_lt h2) oS⟩
noncomputable def Ch:bJ:=λws G q _=>∃(a:O) (n:Nat),ws=[.tup (am a),.int (n:Int)]/\a.NF/\n<=24/\a.dp<=45/\O.hw a<=400/\O.mx a<10^300/\q (.tup (am (O.npow a n))) G
theorem EB (F:cv K "whole_power" "whole_power" (aA 32) f fd) (F1:Fx P w K mg base "times" ["a","b"] 4 rO) (F2:Fx P w K mg base "whole" ["n"] 3 rP) (mr:mg "range"=none):cB P w K mg base 5 f fd ["a","n"] Ch:=by
 refine fm F (N:=["a","n","found","step"]) (by walk_at "s") (by walk_at "l") λ_ _ _ _ _ _ nd hr=>?_;apply aN
 ·exact(ac (ao 2 nd rfl (.inl rfl) (aD F2 (ay.mono hr (by lia)) rfl (ae ah ag))) (ac (dW PySem.PassesOwn.never rfl (iW rfl mr (ae (aa 1) ag)) (cf 3 nd rfl (.inl rfl)) (ac (ao 2 nd rfl (.inl rfl) (aD F1 (ay.mono hr (by lia)) rfl (ae (aa 2) (ae (aa 0) ag)))) af)) (ac (aq (aa 2)) af)))
 ·rintro ws G q e ⟨a,n,rfl,ha,hn,hd,hw,hm,hq⟩;walk_at "a0";refine⟨1,rfl,by (clear hn hd hw hm;lia),?_⟩;walk_at "a";refine⟨by lia,by lia,?_⟩;have hc:=zT;have hpc:=wN;refine kZ (n:Int).toNat (λi τ G'=>G'=G/\∃t3,τ=[some (.tup (am a)),some (.int (n:Int)),some (.tup (am (O.npow a i))),t3]) ⟨rfl,_,rfl⟩ ?_ ?_
  ·rintro τ G' ⟨rfl,t3,rfl⟩;refine⟨trivial,?_⟩;subst hU;walk_at "R";exact aC.done hq
  ·rintro i τ G' kk hi ⟨rfl,t3,rfl⟩ hk;refine⟨trivial,?_⟩;have h1:=O.npow_hw a i;have h2:=O.npow_dp a i;have h4:i*O.hw a<=24*400:=Nat.mul_le_mul (by (clear hd hw hm hc hpc h1 h2;lia)) hw;walk_at "R";refine⟨_,a,rfl,ha.npow i,ha,by (clear hn hw hm hc hpc hi h1 h4;lia),by walk_at "om",by (clear hn hd hw hm hc hpc hi h2;lia),by walk_at "om",.inl ⟨nv ha hm (by (clear hd hw hm hc hpc h1 h2 h4;lia)),ydv (Int.le_of_lt hm) oS⟩,?_⟩;exact hk _ _ ⟨rfl,_,rfl⟩
noncomputable def Ci:bJ:=λws G q _=>∃(e:O) (n:Int) (r L:O),ws=[.tup (am (.c e n r)),.tup (am L)]/\e.NF/\L.NF/\O.Lm L/\e.dp<=45/\L.dp<=45/\O.hw e<=500/\O.hw L<=500/\O.mx e<10^300/\O.mx L<10^300/\q (.tup (am (O.endP e L))) G
theorem EC (F:cv K "endless_power" "endless_power" (aA 31) f fd) (F1:Fx P w K mg base "times" ["a","b"] 4 rO) (F2:Fx P w K mg base "whole" ["n"] 3 rP) (F3:Fx P w K mg base "minus" ["a","b"] 2 Ce) (F4:BC P w K mg base "raised" ["exponent","times"] 2 uK [.int 1]) (mt:mg "tuple"=none):cB P w K mg base 5 f fd ["a","limit"] Ci:=by
 refine fm F (N:=["a","limit"]) (by walk_at "s") (by walk_at "l") λ_ _ _ _ _ _ nd hr=>?_;apply aN
 ·exact(ac (aL (au (ba hr) (aG aI (aG aI (aa 0) ah) ah) (aU ag)) (ac (aq (kM F4 (ay.mono hr (by lia)) rfl (ae (cU iA rfl mt eR (ae (eQ (d8 (by first | rfl | decide+kernel)) rfl (bS (aa 1)) (λ_ _ _ _=>(cK 1 (by first | assumption | decide+kernel | rfl) rfl (.inl rfl))) (λ_ _ _ _=>eP) (λ_ _ _ _=>(aU (ae (aD F3 (ay.mono hr (by lia)) rfl (ae (aG aI (aa 1) ah) (ae (aD F2 (ay.mono hr (by lia)) rfl (ae ah ag)) ag))) (ae (aG aI (aa 1) ah) ag))))) ag)) ag))) af) af) (ac (aq (kM F4 (ay.mono hr (by lia)) rfl (ae (aD F1 (ay.mono hr (by lia)) rfl (ae (aG aI (aG aI (aa 0) ah) ah) (ae (aa 1) ag))) ag))) af))
 ·rintro ws G q e0 ⟨e,n,r,L,rfl,he,hL,hl,hde,hdL,hwe,hwL,hme,hmL,hq⟩;have hdx:=bX e;have ll:=O.len_le_hw L;rw[bv];unfold dh fk;walk_at "a0";refine⟨bb e,by (clear hdL hwe hwL hme hmL ll;lia),?_⟩;rw[bI];unfold O.endP at hq
  by_cases h:e=.z
  ·rw[ycv (by simpa using h)];rw[ycv h] at hq;show cF _ _ _ _ _ [none,none,none,none] G [] _;refine cM (λ_ _=>true) (λx m=>dh (O.minusO x O.one) m) trivial (qi hL hl) (λy m hy k hk=>?_) (λy m hy _ k hk=>?_) (by rw[length_nil];(clear hde hdL hwe hme hmL hdx;lia)) (λ_=>rfl) λp1 hp1=>?_
   ·walk_at "R";exact hk
   ·have ly:=O.len_le_hw y;unfold dh fk at hk ⊢;walk_at "R";exact⟨1,rfl,by (clear hde hdL hwe hwL hme hmL hdx ll hy ly;lia),y,O.one,rfl,O.one_le_ne hy.1 hy.2.1,by (clear hde hwe hwL hme hmL hdx ll ly;lia),by decide,by (clear hde hdL hwe hme hmL hdx ll;lia),hk⟩
   rw[nil_append,kn];refine⟨_,ak,O.decr L,1,rfl,by (clear hde hdL hwe hwL hme hmL hdx ll;lia),G,aC.new hp1,?_⟩;rw[ycw (by (clear hde hdL hwe hwL hme hmL hdx ll;lia))];exact hq
  ·rw[ycw (by simpa using h)];rw[ycw h] at hq;subst hU;walk_at "R";refine⟨e,L,rfl,he,hL,by walk_at "om",by walk_at "om",by walk_at "om",by walk_at "om",Ad hme hmL,_,1,rfl,by (clear hde hdL hwe hwL hme hmL hdx ll;lia),?_⟩;rw[ycw (by (clear hde hdL hwe hwL hme hmL hdx ll;lia))];exact aC.done hq
noncomputable def Cj:bJ:=λws G q _=>∃(e:O) (n:Int) (b:O),ws=[dh e n,.tup (am b)]/\e.NF/\b.NF/\1<=n/\e.dp<=45/\b.dp<=45/\O.hw e<=1000/\O.hw b<=1000/\O.mx e<10^300/\O.mx b<10^300/\q (.tup (am (.c (O.timesO e b) (if 0<O.same .z b then n else 1) .z))) G
theorem ED (F:cv K "power_of_part" "power_of_part" (aA 28) f fd) (F1:Fx P w K mg base "whole_part" ["a"] 1 rN) (F2:Fx P w K mg base "times" ["a","b"] 4 rO) (F3:Fx P w K mg base "raised" ["exponent","times"] 2 uK):cB P w K mg base 5 f fd ["part","b"] Cj:=by
 refine fm F (N:=["part","b","many"]) (by walk_at "s") (by walk_at "l") λ_ _ _ _ _ _ nd hr=>?_;apply aN
 ·exact(ac (ao 2 nd rfl (.inl rfl) (iT (au gv (aD F1 (ay.mono hr (by lia)) rfl (ae (aa 1) ag)) ah) (aG aI (aa 0) ah) ah)) (ac (aq (aD F3 (ay.mono hr (by lia)) rfl (ae (aD F2 (ay.mono hr (by lia)) rfl (ae (aG aI (aa 0) ah) (ae (aa 1) ag))) (ae (aa 2) ag)))) af))
 ·rintro ws G q e0 ⟨e,n,b,rfl,ne,nb,hn,hde,hdb,hwe,hwb,hme,hmb,hq⟩;unfold dh fk;refine aB λU hU=>?_;have fin:∀k:Int,1<=k->k=(if 0<O.same .z b then n else 1)->U { nx:=λx G1=>∃G0,aC G0 G1/\q W.non G0,rt:=λw G1=>∃G0,aC G0 G1/\q w G0 } [some (.tup [.tup (am e),.int n]),some (.tup (am b)),some (.int k)] G:=λk hk ek=>by
   subst hU;walk_at "R";refine⟨e,b,rfl,ne,nb,by walk_at "om",by walk_at "om",by walk_at "om",by walk_at "om",Ad hme hmb,_,k,rfl,by (clear hn hde hdb hwe hwb hme hmb;lia),?_⟩;rw[ycw (by (clear hn hde hdb hwe hwb hme hmb;lia)),ek];exact aC.done hq
  walk_at "R";refine⟨b,rfl,nb,by walk_at "om",?_⟩;walk_at "R";split
  ·rename_i h;exact fin n hn (by rw[ycv h])
  ·rename_i h;exact fin 1 (by (clear hn hde hdb hwe hwb hme hmb h;lia)) (by rw[ycw h])
noncomputable def Ck:bJ:=λws G q _=>∃a b:O,ws=[.tup (am a),.tup (am b)]/\a≠ .z/\a.dp<=60/\b.NF/\b.dp<=60/\a.len<=1000/\∀t:Bool,(t=false->O.same .z b<=24/\a.len<=24)->q (.bl t) G
theorem EE (F:cv K "is_too_great" "is_too_great" (aA 29) f fd) (F1:Fx P w K mg base "whole_part" ["a"] 1 rN) (ml:mg "len"=none) (mx:mg "max"=none) {t1 t2:Tok} (hf:mg "MOST_FACTORS"=some (.int 24 t1)) (hp:mg "MOST_PARTS_powers"=some (.int 24 t2)):cB P w K mg base 2 f fd ["a","b"] Ck:=by
 refine fm F (N:=["a","b"]) (by walk_at "s") (by walk_at "l") λ_ _ _ _ _ _ nd hr=>?_;apply aN
 ·exact(ac (aL (cQ (dA (au gv (aD F1 (ay.mono hr (by lia)) rfl (ae (aa 1) ag)) (dS rfl hf)) (cP (au gv (aR bB rfl ml PySem.boot_len (ae (aa 0) ag)) (dS rfl hp))))) (ac (aq cm) af) af) (ac (aq (cI zk (aR (n6 rfl) rfl mx tq (ae (eQ (d8 (by first | rfl | decide+kernel)) rfl (bS (aa 0)) (λ_ _ _ _=>(cK 1 (by first | assumption | decide+kernel | rfl) rfl (.inl rfl))) (λ_ _ _ _=>eP) (λ_ _ _ _=>(aG aI (aa 1) ah))) ag)) (av gY ah ah))) af))
 ·rintro ws G q e0 ⟨a,b,rfl,hz,hda,nb,hdb,hla,hq⟩;walk_at "a0";refine⟨b,rfl,nb,by assumption,?_⟩;walk_at "R";refine cg (λh=>aC.done (hq true λz=>by cases z)) λh1=>?_;rw[aH];refine cg (λh=>aC.done (hq true λz=>by cases z)) λh2=>?_;subst hU;walk_at "R";show cF _ _ _ _ _ [none,none] G [] _;refine cM (λ_ _=>true) (λ_ n=> .int n) trivial (eZ a) (λy m hy k hk=>?_) (λy m _ _ k hk=>?_) (by rw[length_nil];(clear hda hdb h1;lia)) (λ_=>rfl) λp1 hp1=>?_
  ·walk_at "R";exact hk
  ·unfold dh fk;walk_at "R";exact hk
  obtain⟨ns,h1',h2',h3⟩:=jq a;rw[nil_append,h1'];have h0:ns≠[]:=λh=>by
   rw[h] at h2';cases a with
   | z=>exact hz rfl
   | c _ _ _=>simp[O.len] at h2'
  refine⟨ns,ak,h0,λm hm _=>?_⟩;walk_at "R";exact⟨G,aC.new hp1,hq _ λ_=>⟨by (clear hda hdb hla h2 h2';lia),by (clear hda hdb h1;lia)⟩⟩
noncomputable def rQ (a:O):Prop:=a.NF/\a.size<=400/\O.mx a<10^300/\a.dp<=40
noncomputable def Ae (a:O):Prop:=a.NF/\O.hw a<=20000/\a.dp<=50
noncomputable def Cn (TG:Addr):bJ:=λws G q e=>∃a b:O,ws=[.tup (am a),.tup (am b)]/\rQ a/\rQ b/\(∀r,Ae r->q (.tup (am r)) G)/\∀G',aC G G'->e (.ref TG) G'
theorem scPw:bh ["a","b"] ["a","b"] (al (aA 27)):=by walk_at "s"
theorem EG {TG:Addr} {bT:yez} (F:cv K "power" "power" (aA 27) f fd) (F1:Fx P w K mg base "whole" ["n"] 3 rP) (F2:Fx P w K mg base "power_of_part" ["part","b"] 5 Cj) (F3:Fx P w K mg base "is_too_great_powers" ["a","b"] 2 Ck) (F4:Fx P w K mg base "times" ["a","b"] 4 rO) (F5:Fx P w K mg base "endless_power" ["a","limit"] 5 Ci) (F6:Fx P w K mg base "without_whole" ["a"] 2 Ac) (F7:Fx P w K mg base "whole_power" ["a","n"] 5 Ch) (F8:Fx P w K mg base "whole_part" ["a"] 1 rN) (ml:mg "len"=none) (mC:mg "TooGreat"=some (.ref TG)) (xC:XC K TG bT):ju P w K mg base 6 f fd ["a","b"] (Cn TG):=by
 have nd:=scPw.nd;refine jv (k:=5) F scPw (λws G q e h=>by obtain⟨_,_,rfl,_⟩:=h;rfl) (λcdv A outer s0 H E ws G q e hr hsp hE=>?_);obtain⟨a,b,rfl,fa,fb,hgood,hbad⟩:=hsp;obtain⟨na,sa,ma,da⟩:=fa;obtain⟨nb,sb,mb,db⟩:=fb;apply aN
 ·refine' ac ?s1 (ac ?s2 (ac ?s3 (ac (aL ?c4 (aM (dC mC xC (λH1 G1=>hE _ H1 G1) rfl)) af) (aM ?s5))))
  case s1=>exact(aL (au (ba hr) (aa 1) (aU ag)) (ac (aq (aD F1 (ay.mono hr (by lia)) rfl (ae ah ag))) af) af)
  case s2=>exact(aL (cQ (dA (au (ba hr) (aa 0) (aU ag)) (cP (au (ba hr) (aa 0) (aD F1 (ay.mono hr (by lia)) rfl (ae ah ag)))))) (ac (aq (aa 0)) af) af)
  case s3=>exact(aL (cQ (cx (au (ba hr) (aR bB rfl ml PySem.boot_len (ae (aa 0) ag)) ah) (bV (au (dM hr) (aG aI (aG aI (aa 0) ah) ah) (aU ag))))) (ac (aq (aD F2 (ay.mono hr (by lia)) rfl (ae (aG aI (aa 0) ah) (ae (aa 1) ag)))) af) af)
  case c4=>exact(bx (aD F3 (ay.mono hr (by lia)) rfl (ae (aa 0) (ae (aa 1) ag))))
  case s5=>exact(aq (aD F4 (ay.mono hr (by lia)) rfl (ae (aD F5 (ay.mono hr (by lia)) rfl (ae (aa 0) (ae (aD F6 (ay.mono hr (by lia)) rfl (ae (aa 1) ag)) ag))) (ae (aD F7 (ay.mono hr (by lia)) rfl (ae (aa 0) (ae (aD F8 (ay.mono hr (by lia)) rfl (ae (aa 1) ag)) ag))) ag))))
 ·have ha':=bX a;have hb':=bX b;have wa:=O.hw_le_size a;have wb:=O.hw_le_size b;have la:=O.len_le_size a;walk_at "a0";refine⟨bb b,by (clear sa ma da sb mb ha' wa wb la;lia),?_⟩;rw[bI];refine cg (λh=>⟨1,rfl,by (clear sa ma da sb mb db ha' hb' wa wb la;lia),aC.done (hgood (O.wh 1) ⟨O.NF.wh (by decide),by decide,by decide⟩)⟩) λh0=>?_;walk_at "a";refine⟨bb a,by (clear sa ma sb mb db hb' wa wb la;lia),?_⟩;rw[bI];have same:Ae a:=⟨na,by (clear ma da sb mb db ha' hb' wb la;lia),by walk_at "om"⟩;refine cg (λh=>aC.done (hgood a same)) λh1=>?_;refine⟨1,rfl,by (clear sa ma da sb mb db ha' hb' wa wb la;lia),bb a,bb _,by (clear sa ma sb mb db hb' wa wb la;lia),?_⟩;refine cg (λh=>aC.done (hgood a same)) λh2=>?_;have az:a≠ .z:=λz=>h1 (ydz z);subst hU;refine aB λU hU=>?_;cases a with
  | z=>exact absurd rfl az
  | c x n r=>
    have hde:=bX x;have hmx:=O.mx_he (e:=x) (n:=n) (r:=r);have wx:O.hw x<=O.hw (.c x n r):=by rw[O.hw_c];(clear sb mb db hb' wb sa ma da ha' wa la hde hmx;lia)
    have hxm:O.mx x<10^300:=Int.lt_of_le_of_lt hmx ma;have hdx:x.dp+1<=O.dp (.c x n r):=le_max_left _ _;have gen:U { nx:=λx G1=>∃G0,aC G0 G1/\q W.non G0,rt:=λw G1=>∃G0,aC G0 G1/\q w G0 } [some (W.tup (am (.c x n r))),some (W.tup (am b))] G:=by
     walk_at "a";refine⟨.c x n r,b,rfl,by simp,by walk_at "om",nb,by walk_at "om",by (clear sb mb db hb' wb ma da ha' wa hde hmx wx hxm hdx;lia),λt ht=>?_⟩;walk_at "R";cases t with
     | true=>
       rw[ycv rfl];exact hbad G (aC.refl _)
     | false=>
       rw[ycw (by decide)];obtain⟨hs,hl⟩:=ht rfl;subst hU;walk_at "R";obtain⟨L,hL⟩:∃L,L=O.filt (λy _=>decide (¬y=.z)) b:=⟨_,rfl⟩;have nL:O.NF L:=hL▸nb.filt _;have lL:O.Lm L:=hL▸O.Lm.filt b;have d1:L.dp<=b.dp:=hL▸O.dp_filt (λy _=>decide (¬y=O.z)) b;have w1:O.hw L<=O.hw b:=hL▸O.hw_filt (λy _=>decide (¬y=O.z)) b;have m1:O.mx L<=O.mx b:=hL▸O.mx_filt (λy _=>decide (¬y=O.z)) b;have em:=O.endP_more na.1 nL lL;have s0:=O.same_nonneg .z nb;have h1:=O.npow_hw (.c x n r) (O.same .z b).toNat;have h2:=O.npow_dp (.c x n r) (O.same .z b).toNat;have h4:(O.same .z b).toNat*O.hw (.c x n r)<=24*400:=Nat.mul_le_mul (by (clear sb mb db hb' wb sa ma da ha' wa la hde hmx wx hxm hdx hl d1 w1 m1 em h1 h2;lia)) (by (clear sb mb db hb' wb ma da ha' la hde hmx wx hxm hdx hs hl d1 w1 m1 em s0 h1 h2;lia));have mL:O.mx L<10^300:=Int.lt_of_le_of_lt m1 mb;have x0:=O.mx_nonneg x;have L0:=O.mx_nonneg L;have mm:(O.mx x+1)*(O.mx L+1)<=10^300*10^300:=Int.mul_le_mul (Int.add_one_le_of_lt hxm) (Int.add_one_le_of_lt mL) (by (clear sb mb db hb' wb sa ma da ha' wa la hde hmx wx hxm hdx hs hl d1 w1 m1 em s0 h1 h2 h4 x0;lia)) (by decide+kernel);have mm2:(10:Int)^300*10^300<=wM:=by decide+kernel
       refine⟨b,rfl,nb,by walk_at "om",?_⟩;rw[←hL];refine⟨x,n,r,L,rfl,na.1,nL,lL,by (clear sb mb db hb' wb sa ma ha' wa la hde hmx wx hxm hs hl d1 w1 m1 em s0 h1 h2 h4 mL x0 L0 mm mm2;lia),by (clear sb mb hb' wb sa ma da ha' wa la hde hmx wx hxm hdx hs hl w1 m1 em s0 h1 h2 h4 mL x0 L0 mm mm2;lia),by (clear sb mb db hb' wb ma da ha' la hde hmx hxm hdx hs hl d1 w1 m1 em s0 h1 h2 h4 mL x0 L0 mm mm2;lia),by (clear mb db hb' sa ma da ha' wa la hde hmx wx hxm hdx hs hl d1 m1 em s0 h1 h2 h4 mL x0 L0 mm mm2;lia),hxm,mL,?_⟩;refine⟨b,rfl,nb,by walk_at "om",.c x n r,(O.same .z b).toNat,by congr 3;(clear sb mb db hb' wb sa ma da ha' wa la hde hmx wx hxm hdx hl d1 w1 m1 em h1 h2 h4 mL x0 L0 mm mm2;lia),na,by (clear sb mb db hb' wb sa ma da ha' wa la hde hmx wx hxm hdx hl d1 w1 m1 em h1 h2 h4 mL x0 L0 mm mm2;lia),by walk_at "om",by (clear sb mb db hb' wb ma da ha' la hde hmx wx hxm hdx hs hl d1 w1 m1 em s0 h1 h2 h4 mL x0 L0 mm mm2;lia),ma,?_⟩;have mu:Ab (O.endP x L) (O.npow (.c x n r) (O.same .z b).toNat):= .inr ⟨ydv em.2.2 (ydv mm mm2),nv na ma (by (clear sb mb db hb' wb sa ma da ha' wa la hde hmx wx hxm hdx hl d1 w1 m1 em h1 h2 h4 mL x0 L0 mm mm2;lia))⟩;have ht:=O.hw_times (O.endP x L) (O.npow (.c x n r) (O.same .z b).toNat);have hd:=O.dp_times (O.endP x L) (O.npow (.c x n r) (O.same .z b).toNat);refine⟨_,_,rfl,O.NF.endP na.1 nL lL,na.npow _,by (clear sb mb hb' wb sa ma ha' wa la hde hmx wx hxm hs hl w1 m1 s0 h1 h4 mL x0 L0 mm mm2 ht hd;lia),by (clear sb mb db hb' wb sa ma ha' wa la hde hmx wx hxm hs hl d1 w1 m1 em s0 h1 h4 mL x0 L0 mm mm2 ht hd;lia),by (clear mb db hb' ma da ha' la hde hmx hxm hdx hs hl d1 m1 s0 h1 h2 h4 mL x0 L0 mm mm2 ht hd;lia),by (clear sb mb db hb' wb sa ma da ha' wa la hde hmx wx hxm hdx hs hl d1 w1 m1 em s0 h2 mL x0 L0 mm mm2 ht hd;lia),mu,aC.done (hgood _ ⟨O.NF.times (O.NF.endP na.1 nL lL) (na.npow _),by (clear mb db hb' ma da ha' la hde hmx hxm hdx hs hl d1 m1 s0 h2 mL x0 L0 mm mm2 hd;lia),by (clear sb mb hb' wb sa ma ha' wa la hde hmx wx hxm hs hl w1 m1 s0 h1 h4 mL x0 L0 mm mm2 ht;lia)⟩)⟩
    rw[bv];unfold dh fk;walk_at "R";refine cg (λh3=>?_) λ_=>gen;refine⟨bb x,by (clear sb mb db hb' wb sa ma ha' wa la hmx wx hxm h3;lia),?_⟩;refine cg (λh4=>?_) λ_=>gen;have ht:=O.hw_times x b;have hd:=O.dp_times x b;have hk:(1:Int)<=if 0<O.same .z b then n else 1:=by split;exact na.2.1;decide
    refine⟨x,n,b,rfl,na.1,nb,na.2.1,by (clear sb mb db hb' wb sa ma ha' wa la hde hmx wx hxm h3 ht hd hk;lia),by walk_at "om",by (clear sb mb db hb' wb ma da ha' la hde hmx hxm hdx h3 ht hd hk;lia),by (clear mb db hb' sa ma da ha' wa la hde hmx wx hxm hdx h3 ht hd hk;lia),hxm,mb,aC.done (hgood _ ⟨⟨O.NF.times na.1 nb,hk,trivial,trivial⟩,?_,?_⟩)⟩
    ·rw[O.hw_c];show max (0+1) (max (O.hw (O.timesO x b)) 0)<=20000
     (clear mb db hb' ma da ha' la hde hmx hxm hdx h3 hd hk;lia)
    ·show max ((O.timesO x b).dp+1) 0<=50
     (clear sb mb hb' wb sa ma ha' wa la hde hmx wx hxm h3 ht hk;lia)
noncomputable def jr:O->List O
 | .z=>[]
 | .c e _ r=>e::jr r
noncomputable def qj (os:List O):Nat:=(os.map O.size).sum
theorem ko:∀a:O,mapP (λ_ _=>true) (λe _=> .tup (am e)) a=cu (jr a)
 | .z=>rfl
 | .c e n r=>by rw[mapP,ycv rfl,ko r];rfl
theorem nw:∀a:O,(jr a).length=a.len
 | .z=>rfl
 | .c e n r=>by simp only[jr,length_cons,nw r,O.len]
theorem qk:∀a:O,qj (jr a)+a.len=a.size
 | .z=>rfl
 | .c e n r=>by
   have:=qk r;simp only[jr,qj,map_cons,sum_cons,O.len,O.size] at this ⊢;lia
theorem ql:∀(a:O) (x:O),x∈jr a->x.dp<=a.dp
 | .z,x,h=>by cases h
 | .c e n r,x,h=>by
   simp only[O.dp];rcases mem_cons.mp h with rfl | h
   ·lia
   ·have:=ql r x h;lia
theorem qm:∀(a:O) (x:O),x∈jr a->O.hw x<=O.hw a
 | .z,x,h=>by cases h
 | .c e n r,x,h=>by
   rw[O.hw_c];rcases mem_cons.mp h with rfl | h
   ·lia
   ·have:=qm r x h;lia
theorem iI (a b:List O):qj (a++b)=qj a+qj b:=by simp[qj]
noncomputable def Fw (G:Gp) (a:O) (p:Addr) (j:Nat) (τ:dR) (G':Gp):Prop:=∃(os:List O) (m:Nat) (t3:Option W),j=qj os+os.length/\τ=[some (.tup (am a)),some (.int (m:Int)),some (.ref p),t3]/\aC G G'/\G' p=some (.lst (cu os))/\m+qj os=a.size/\os.length<=m+1/\∀x,x∈os->x.dp<=60/\O.hw x<=20000
noncomputable def Co:bJ:=λws G q _=>∃a:O,ws=[.tup (am a)]/\a.dp<=60/\O.hw a<=20000/\∀G',aC G G'->q (.bl (decide (400<a.size))) G'
theorem EH {t1:Tok} (F:cv K "has_many_parts" "has_many_parts" (aA 53) f fd) (hm:mg "MOST_PARTS_readings"=some (.int 400 t1)) (ml:mg "len"=none):cB P w K mg base 1 f fd ["a"] Co:=by
 refine fm F (N:=["a","many","left","number"]) (by walk_at "s") (by walk_at "l") λ_ _ _ _ _ _ nd hr=>?_;apply aN
 ·exact(ac (ao 1 nd rfl (.inl rfl) ah) (ac (ao 2 nd rfl (.inl rfl) (bA (ae (aa 0) ag))) (ac (dB PySem.PassesOwn.never (cQ (cx (au (dM hr) (aa 2) (bA ag)) (bV (au sT (aa 1) (dS rfl hm))))) (ac (ao 3 nd rfl (.inl rfl) (ow (aa 2))) (ac (ao 1 nd rfl (.inl rfl) (av aE (aa 1) (aR bB rfl ml PySem.boot_len (ae (aa 3) ag)))) (ac (bu (zA (aa 2) (eQ (d8 (by first | rfl | decide+kernel)) rfl (bS (aa 3)) (λ_ _ _ _=>(cK 1 (by first | assumption | decide+kernel | rfl) rfl (.inl rfl))) (λ_ _ _ _=>eP) (λ_ _ _ _=>(aG aI (aa 1) ah))))) af)))) (ac (aq (cI gv (aa 1) (dS rfl hm))) af))))
 ·rintro ws G q e ⟨a,rfl,hd,hs,hq⟩;walk_at "a0";walk_at "a";intro p hp;subst hU;refine aB λU hU=>?_;refine gk (Fw G a p) ⟨_,[a],0,none,rfl,rfl,aC.new hp,ak,by simp[qj],by simp,λx hx=>by rw[mem_singleton.mp hx];exact⟨hd,hs⟩⟩ ?_;rintro j τ G' ⟨os,m,t3,rfl,rfl,hle,hG,hsz,hlen,hdp⟩ B hB;have fin:(os=[]∨400<m)->∀G2,aC G G2->U { nx:=λx G1=>∃G0,aC G0 G1/\q W.non G0,rt:=λw G1=>∃G0,aC G0 G1/\q w G0 } [some (W.tup (am a)),some (W.int ↑m),some (W.ref p),t3] G2:=λh G2 le2=>by
   subst hU;walk_at "R";have e1:decide ((400:Int)<(m:Int))=decide (400<a.size):=by
    apply decide_eq_decide.mpr;rcases h with h | h
    ·subst h;simp[qj] at hsz
     (clear hd hs hlen;lia)
    ·(clear hd hs hlen;lia)
   rw[e1];exact aC.done (hq G2 le2)
  walk_at "R";intro p1 hp1;refine⟨_,.nil (aK hG hp1) ak,?_⟩;rcases List.eq_nil_or_concat os with e | ⟨os,o,e⟩
  ·subst e;rw[ycw (by decide)];exact fin (.inl rfl) _ (hle.trans (aC.new hp1))
  ·subst e;rw[List.concat_eq_append] at*;rw[ycv (by simp[cu])];refine cg (λh4=>?_) λh4=>fin (.inr (by (clear hd hs hlen;lia))) _ (hle.trans (aC.new hp1));have hG1:=aK (g:=GO.lst []) hG hp1;have le1:=hle.trans (aC.new (g:=GO.lst []) hp1);generalize aX G' p1 (GO.lst [])=G1 at hG1 le1 ⊢;rw[iI] at hsz;rw[length_append,length_singleton] at hlen;have hso:qj [o]=o.size:=by simp[qj]
   have ho:=qk o;have hl:=nw o;have hdo:=hdp o (by simp);have hlw:=O.len_le_hw o;refine⟨λτ1 G1=>∃m1,m1<qj (os++[o])+(os++[o]).length/\Fw G a p m1 τ1 G1,λ_ _ h=>h,?_⟩;subst hB;walk_at "a0";refine⟨cu os,.tup (am o),by rw[eI];exact hG1,?_⟩;walk_at "a";have hP:G p=none:=hp;have le2:aC G (aX G1 p (GO.lst (cu os))):=aC.put le1 hp;have hG2:aX G1 p (GO.lst (cu os)) p=some (.lst (cu os)):=ak;have hlo:(am o).length=o.len:=aH o;rw[hlo];generalize aX G1 p (GO.lst (cu os))=G2 at le2 hG2 ⊢;subst hU;walk_at "R";refine⟨⟨_,hG2⟩,?_⟩;show cF _ _ _ _ _ [none,none] G2 [] _;refine cM (λ_ _=>true) (λe _=> .tup (am e)) trivial (eZ o) (λy m hy k hk=>?_) (λy m _ _ k hk=>?_) (by rw[length_nil];(clear hd hs hsz hlen h4 hso ho;lia)) (λ_=>rfl) λp2 hp2=>?_
   ·walk_at "R";exact hk
   ·unfold dh fk;walk_at "R";exact hk
   ·rw[nil_append,ko];refine⟨_,_,aK hG2 hp2,ak,?_,?_⟩
    ·simp only[cu,length_map]
     (clear hd hs;lia)
    ·refine⟨qj (os++jr o)+(os++jr o).length,?_,os++jr o,m+o.len,some (.tup (am o)),rfl,?_,aC.put (le2.trans (aC.new hp2)) hp,?_,?_,?_,?_⟩
     ·rw[iI,iI,length_append,length_append,length_singleton]
      (clear hd hs hsz hlen h4 hdo hlw hlo;lia)
     ·rw[Int.natCast_add]
     ·rw[ak];simp[cu]
     ·rw[iI]
      (clear hd hs hlen h4 hl hdo hlw hlo;lia)
     ·rw[length_append]
      (clear hd hs h4 hdo hlw;lia)
     ·intro x hx;rcases mem_append.mp hx with h | h
      ·exact hdp x (mem_append_left _ h)
      ·exact⟨ycy (ql o x h) hdo.1,ycy (qm o x h) hdo.2⟩
noncomputable def xh (d:Nat):bJ:=λws G q _=>∃a:O,ws=[.tup (am a)]/\a.dp<d/\q (.int (O.mx a)) G
theorem EI {d k:Nat} (F:cv K "greatest" "greatest" (aA 15) f fd) (F1:Fx P w K mg base "greatest" ["a"] k (xh d)) (mx:mg "max"=none):cB P w K mg base (k+1) f fd ["a"] (xh (d+1)):=by
 refine fm F (N:=["a","found","exponent","times"]) (by walk_at "s") (by walk_at "l") λ_ _ _ _ _ _ nd hr=>?_;apply aN
 ·exact(ac (ao 1 nd rfl (.inl rfl) ah) (ac (dW PySem.PassesOwn.never rfl (bS (aa 0)) (nW rfl (eB (cf 2 nd rfl (.inl rfl)) (eB (cf 3 nd rfl (.inl rfl)) kH))) (ac (ao 1 nd rfl (.inl rfl) (aR (n6 rfl) rfl mx tq (ae (aa 1) (ae (aa 3) (ae (aD F1 (ay.mono hr (by lia)) rfl (ae (aa 2) ag)) ag))))) af)) (ac (aq (aa 1)) af)))
 ·rintro ws G q e ⟨a,rfl,hx,hq⟩;have h0:=O.mx_nonneg a;walk_at "a0";walk_at "a";refine bZ (λws τ G'=>G'=G/\∃(r:O) (m:Int) (t2 t3:Option W),ws=am r/\τ=[some (.tup (am a)),some (.int m),t2,t3]/\max m (O.mx r)=O.mx a/\0<=m/\r.dp<d+1) ?_ ?_ _ _ _ ⟨rfl,a,0,none,none,rfl,rfl,by (clear hx;lia),by (clear hx h0;lia),hx⟩
  ·rintro τ G' ⟨rfl,r,m,t2,t3,hw,rfl,hm,hm0,_⟩;refine⟨trivial,?_⟩;cases r with
   | z=>
     subst hU;walk_at "R";simp only[O.mx] at hm;rw[show m=O.mx a by (clear hx;lia)];exact aC.done hq
   | c y n r=>cases hw
  ·rintro w1 ws τ G' kk ⟨rfl,r,m,t2,t3,hw,rfl,hm,hm0,hd⟩ hk;cases r with
   | z=>cases hw
   | c y n r=>
     rw[bv] at hw;cases hw;refine⟨trivial,?_⟩;simp only[O.dp] at hd;rw[O.mx_c] at hm;unfold dh fk;walk_at "R";refine⟨y,rfl,by (clear hx h0 hm0 hm;lia),?_⟩;walk_at "R";refine hk _ _ ⟨rfl,r,_,_,_,rfl,rfl,?_,?_,by (clear hx h0 hm0 hm;lia)⟩
     ·have:=O.mx_nonneg y;split<;> split<;> (clear hx h0 hm0 hd this;lia)
     ·split<;> split<;> lia
theorem Cp (T:Txt K mg):∀d:Nat,Fx P w K mg base "greatest" ["a"] d (xh d)
 | 0=>T.d_greatest.fx λf fd F=>cB.none λws G q e ⟨a,_,h,_⟩=>by walk_at "om"
 | d+1=>T.d_greatest.fx λf fd F=>EI F (Cp T d) T.z_max
noncomputable def xi (d:Nat):bJ:=λws G q _=>∃a:O,ws=[.tup (am a)]/\a.dp<d/\q (.int (a.dp:Int)) G
theorem EJ {d k:Nat} (F:cv K "deep" "deep" (aA 16) f fd) (F1:Fx P w K mg base "deep" ["a"] k (xi d)) (mx:mg "max"=none):cB P w K mg base (k+1) f fd ["a"] (xi (d+1)):=by
 refine fm F (N:=["a","found","part"]) (by walk_at "s") (by walk_at "l") λ_ _ _ _ _ _ nd hr=>?_;apply aN
 ·exact(ac (ao 1 nd rfl (.inl rfl) ah) (ac (dW PySem.PassesOwn.never rfl (bS (aa 0)) (cf 2 nd rfl (.inl rfl)) (ac (ao 1 nd rfl (.inl rfl) (aR (n6 rfl) rfl mx tq (ae (aa 1) (ae (av aE (aD F1 (ay.mono hr (by lia)) rfl (ae (aG aI (aa 2) ah) ag)) ah) ag)))) af)) (ac (aq (aa 1)) af)))
 ·rintro ws G q e ⟨a,rfl,hx,hq⟩;walk_at "a0";walk_at "a";refine bZ (λws τ G'=>G'=G/\∃(r:O) (m:Int) (t2:Option W),ws=am r/\τ=[some (.tup (am a)),some (.int m),t2]/\max m (r.dp:Int)=a.dp/\0<=m/\r.dp<d+1) ?_ ?_ _ _ _ ⟨rfl,a,0,none,rfl,rfl,by (clear hx;lia),by (clear hx;lia),hx⟩
  ·rintro τ G' ⟨rfl,r,m,t2,hw,rfl,hm,hm0,_⟩;refine⟨trivial,?_⟩;cases r with
   | z=>
     subst hU;walk_at "R";simp only[O.dp] at hm;rw[show m=(a.dp:Int) by (clear hx;lia)];exact aC.done hq
   | c y n r=>cases hw
  ·rintro w1 ws τ G' kk ⟨rfl,r,m,t2,hw,rfl,hm,hm0,hd⟩ hk;cases r with
   | z=>cases hw
   | c y n r=>
     rw[bv] at hw;cases hw;refine⟨trivial,?_⟩;simp only[O.dp] at hd hm;unfold dh fk;walk_at "R";refine⟨y,rfl,by (clear hx hm0 hm;lia),?_⟩;walk_at "R";exact hk _ _ ⟨rfl,r,_,_,rfl,rfl,by split<;> (clear hx hm0 hd;lia),by split<;> lia,by (clear hx hm0 hm;lia)⟩
theorem Cq (T:Txt K mg):∀d:Nat,Fx P w K mg base "deep" ["a"] d (xi d)
 | 0=>T.d_deep.fx λf fd F=>cB.none λws G q e ⟨a,_,h,_⟩=>by walk_at "om"
 | d+1=>T.d_deep.fx λf fd F=>EJ F (Cq T d) T.z_max
noncomputable def rR (a:O):Prop:=400<a.size∨10^300<=O.mx a∨40<a.dp
noncomputable instance (a:O):Decidable (rR a):=by unfold rR;infer_instance
noncomputable def Cr:bJ:=λws G q _=>∃a:O,ws=[.tup (am a)]/\a.dp<=60/\O.hw a<=20000/\∀G',aC G G'->q (.bl (decide (rR a))) G'
theorem EK {t1:Tok} (F:cv K "is_too_great" "is_too_great" (aA 51) f fd) (F1:Fx P w K mg base "has_many_parts" ["a"] 1 Co) (F2:Fx P w K mg base "greatest" ["a"] 61 (xh 61)) (F3:Fx P w K mg base "deep" ["a"] 61 (xi 61)) (hm:mg "MOST_DEEP"=some (.int 40 t1)):cB P w K mg base 62 f fd ["a"] Cr:=by
 refine fm F (N:=["a"]) (by walk_at "s") (by walk_at "l") λ_ _ _ _ _ _ nd hr=>?_;apply aN
 ·exact(ac (aq (pe (aD F1 (ay.mono hr (by lia)) rfl (ae (aa 0) ag)) (pe (cI zk (aD F2 (ay.mono hr (by lia)) rfl (ae (aa 0) ag)) (av gY (av gY ah ah) ah)) (kG (cI gv (aD F3 (ay.mono hr (by lia)) rfl (ae (aa 0) ag)) (dS rfl hm)))))) af)
 ·rintro ws G q e ⟨a,rfl,hd,hs,hq⟩;walk_at "R";refine⟨a,rfl,hd,hs,λG1 le1=>?_⟩;walk_at "R";have e5:((10:Int)^60)^5=10^300:=by decide+kernel
  simp only[Int.reducePow] at e5;refine cg (λh1=>?_) λh1=>?_
  ·rw[show true=decide (rR a) from (ydz (.inl h1)).symm];exact aC.done (hq G1 le1)
  refine⟨a,rfl,by (clear hs e5 h1;lia),?_⟩;walk_at "R";refine⟨.inr ⟨by decide,by decide,by decide+kernel⟩,?_⟩;rw[e5];refine @cg _ _ _ _ (λh2=>?_) λh2=>?_
  ·rw[show true=decide (rR a) from (ydz (.inr (.inl h2))).symm];exact aC.done (hq G1 le1)
  refine⟨a,rfl,by (clear hs e5 h1 h2;lia),?_⟩;walk_at "R";have e1:decide ((40:Int)<(a.dp:Int))=decide (rR a):=by
   apply decide_eq_decide.mpr;constructor
   ·intro h;exact .inr (.inr (by (clear hs e5 h1 h2;lia)))
   ·intro h;rcases h with h | h | h
    ·exact absurd h h1
    ·exact absurd h h2
    ·(clear hs e5 h1 h2;lia)
  rw[e1];exact aC.done (hq G1 le1)
noncomputable abbrev bq (l:List Nat):Str:=⟨l.toArray⟩
theorem xj (l m:List Nat):bq l++bq m=bq (l++m):=by
 show Str.mk (l.toArray++m.toArray)=_;simp
theorem aQ (l:List Nat):(bq l).length=l.length:=by simp[Str.length]
theorem Af (x y:Str):(W.str x).eq (.str y)=decide (x=y):=by
 simp only[W.eq];rw[Bool.eq_iff_iff,beq_iff_eq,decide_eq_true_eq]
theorem qo {l m:List Nat}:bq l=bq m↔l=m:=⟨λh=>by have:=congrArg (λz:Str=>z.cps.toList) h;simpa using this,λh=>by rw[h]⟩
theorem d9 (l m:List Nat):(W.str (bq l)).eq (.str (bq m))=decide (l=m):=by
 rw[Af];exact decide_eq_decide.mpr qo
noncomputable def xk:List Nat->Bool
 | [x]=>bY x
 | _=>false
noncomputable def xl:List Nat->Bool
 | [x]=>cq x
 | _=>false
noncomputable def oU:bJ:=λws G q _=>∃l:List Nat,ws=[.str (bq l)]/\l.length<=1/\q (.bl (xk l)) G
noncomputable def oV:bJ:=λws G q _=>∃l:List Nat,ws=[.str (bq l)]/\l.length<=1/\q (.bl (xl l)) G
theorem iJ (a x:Nat):(!decide (([x]:List Nat)<[a]))=decide (a<=x):=by
 rw[Bool.eq_iff_iff];simp[List.cons_lt_cons_iff]
theorem gM (a x:Nat):(!decide (([a]:List Nat)<[x]))=decide (x<=a):=iJ x a
theorem EL (F:cv K "is_figure" "is_figure" (aA 41) f fd):cB P w K mg base 1 f fd ["sign"] oU:=by
 refine fm F (N:=["sign"]) (by walk_at "s") (by walk_at "l") λ_ _ _ _ _ _ nd hr=>?_;apply aN
 ·exact(ac (aq (nk fQ fQ aF (aa 0) aF)) af)
 ·rintro ws G q e ⟨l,rfl,hl,hq⟩;walk_at "R";refine⟨_,rfl,?_⟩;rw[show(Str.ofString "0").cps.toList=[48] from rfl,show(Str.ofString "9").cps.toList=[57] from rfl]
  match l,hl with
  | [],_=>exact aC.done hq
  | [x],_=>
    rw[iJ,gM];refine cg (λh=>?_) λh=>?_
    ·rw[show decide (x<=57)=xk [x] from ?_]
     ·exact aC.done hq
     ·show _=decide (48<=x/\x<=57);exact decide_eq_decide.mpr ⟨λz=>⟨of_decide_eq_true h,z⟩,λz=>z.2⟩
    ·rw[show false=xk [x] from ?_]
     ·exact aC.done hq
     ·show _=decide (48<=x/\x<=57);exact(ydy λz=>h (ydz z.1)).symm
theorem EM (F:cv K "is_letter" "is_letter" (aA 42) f fd):cB P w K mg base 1 f fd ["sign"] oV:=by
 refine fm F (N:=["sign"]) (by walk_at "s") (by walk_at "l") λ_ _ _ _ _ _ nd hr=>?_;apply aN
 ·exact(ac (aq (nk fQ fQ aF (aa 0) aF)) af)
 ·rintro ws G q e ⟨l,rfl,hl,hq⟩;walk_at "R";refine⟨_,rfl,?_⟩;rw[show(Str.ofString "a").cps.toList=[97] from rfl,show(Str.ofString "z").cps.toList=[122] from rfl]
  match l,hl with
  | [],_=>exact aC.done hq
  | [x],_=>
    rw[iJ,gM];refine cg (λh=>?_) λh=>?_
    ·rw[show decide (x<=122)=xl [x] from ?_]
     ·exact aC.done hq
     ·show _=decide (97<=x/\x<=122);exact decide_eq_decide.mpr ⟨λz=>⟨of_decide_eq_true h,z⟩,λz=>z.2⟩
    ·rw[show false=xl [x] from ?_]
     ·exact aC.done hq
     ·show _=decide (97<=x/\x<=122);exact(ydy λz=>h (ydz z.1)).symm
noncomputable def Cs:bJ:=λws G q _=>∃l:List Nat,ws=[.str (bq l)]/\l.length<=5000/\∀G',aC G G'->q (.bl (cj l)) G'
theorem EN {t1:Tok} (F:cv K "is_figures" "is_figures" (aA 43) f fd) (F1:Fx P w K mg base "is_figure" ["sign"] 1 oU) (hm:mg "MOST_FIGURES"=some (.int 60 t1)) (ml:mg "len"=none) (ma:mg "all"=none):cB P w K mg base 2 f fd ["text"] Cs:=by
 refine fm F (N:=["text"]) (by walk_at "s") (by walk_at "l") λ_ _ _ _ _ _ nd hr=>?_;apply aN
 ·exact(ac (aL (cQ (dA (dt (gL fQ fQ ah (aR bB rfl ml PySem.boot_len (ae (aa 0) ag)) (dS rfl hm))) (cP (dt (bx (aR (xX rfl) rfl ma PyProof.Rows.boot_all (ae (eQ (d8 (by first | rfl | decide+kernel)) rfl (bS (aa 0)) (λ_ _ _ _=>(cK 1 (by first | assumption | decide+kernel | rfl) rfl (.inl rfl))) (λ_ _ _ _=>eP) (λ_ _ _ _=>(aD F1 (ay.mono hr (by lia)) rfl (ae (aa 1) ag)))) ag))))))) (ac (aq cm) af) af) (ac (aq (pe (cI (ba hr) (aa 0) aF) (kG (cI (dM hr) (aG aI (aa 0) ah) aF)))) af))
 ·rintro ws G q e ⟨l,rfl,hl,hq⟩;walk_at "a0";have nope:∀{c:Prop},¬c->(cj l=true->c)->∀G',aC G G'->∃G0,aC G0 G'/\q (.bl false) G0:=λhc hi G' le=>by
   have:cj l=false:=Bool.eq_false_iff.mpr λz=>hc (hi z);rw[←this];exact aC.done (hq G' le)
  have fst:cj l=true->1<=l.length/\l.length<=60/\l.all bY=true:=λh=>by
   unfold cj at h;simp only[Bool.and_eq_true,decide_eq_true_eq] at h;exact⟨h.1.1.1,h.1.1.2,h.1.2⟩
  refine⟨by rw[aQ];lia,_,rfl,?_⟩;rw[aQ];refine cg (λh1=>?_) λh1=>nope (c:=1<=l.length) (λz=>h1 (ydz (by (clear h1;lia)))) (λz=>(fst z).1) _ (aC.refl _);refine cg (λh2=>nope (c:=l.length<=60) (λz=>h2 (by (clear h1;lia))) (λz=>(fst z).2.1) _ (aC.refl _)) λh2=>?_;have h1:1<=l.length:=by have:=of_decide_eq_true h1;(clear h1;lia)
  have h2:l.length<=60:=by have:=Decidable.of_not_not h2;(clear this;lia)
  refine lh (i:=1) (λc:Nat=>W.str (bq [c])) (λc=>W.bl (bY c)) (τ0:=fj _ _) trivial (λc hc k hk=>?_) (by show 0+_<=_;(clear h2;lia)) (λ_=>rfl) λp hp=>⟨l.map bY,?_,?_⟩
  ·walk_at "R";exact⟨[c],rfl,ycx _,hk⟩
  ·rw[ak,nil_append,map_map]
   rfl
  have ea:(l.map bY).all id=l.all bY:=by rw[List.all_map];rfl
  rw[ea];have le1:=aC.new (g:=GO.lst ([]++l.map λc=>W.bl (bY c))) hp;generalize aX G p (GO.lst ([]++l.map λc=>W.bl (bY c)))=G1 at le1 ⊢;refine cg (λh3=>nope (c:=l.all bY=true) (λz=>by rw[z] at h3;cases h3) (λz=>(fst z).2.2) _ le1) λh3=>?_;have h3:l.all bY=true:=by cases e:l.all bY with | true=>rfl | false=>exact absurd e h3
  have ef:cj l=(decide (l=[48])||decide (l.head?≠some 48)):=by
   unfold cj;rw[h3,ydz ⟨h1,h2⟩]
   rfl
  subst hU;walk_at "R";refine⟨rfl,rfl,zero_le _,?_⟩;rw[show Str.ofString "0"=bq [48] from rfl,d9];refine cg (λh4=>?_) λh4=>?_
  ·have:cj l=true:=by rw[ef,h4];rfl
   rw[←this];exact aC.done (hq _ le1)
  ·cases l with
   | nil=>exact absurd h1 (by decide)
   | cons x l=>
     refine⟨by rw[aQ];lia,x,ce (j:=0) rfl,rfl,rfl,zero_le _,?_⟩;rw[show({ cps:= #[x] }:Str)=bq [x] from rfl,d9];have h4:decide (x::l=[48])=false:=Bool.eq_false_iff.mpr h4;have:(!decide ([x]=[48]))=cj (x::l):=by
      rw[ef,h4,Bool.false_or,Bool.eq_iff_iff];simp
     rw[this];exact aC.done (hq _ le1)
noncomputable def Ct:bJ:=λws G q _=>∃l:List Nat,ws=[.str (bq l)]/\l.length<=5000/\∀G',aC G G'->q (.bl (dZ l)) G'
theorem EO {t1:Tok} (F:cv K "is_name" "is_name" (aA 44) f fd) (F1:Fx P w K mg base "is_letter" ["sign"] 1 oV) (hm:mg "MOST_LETTERS"=some (.int 8 t1)) (ml:mg "len"=none) (ma:mg "all"=none):cB P w K mg base 2 f fd ["text"] Ct:=by
 refine fm F (N:=["text"]) (by walk_at "s") (by walk_at "l") λ_ _ _ _ _ _ nd hr=>?_;apply aN
 ·exact(ac (aL (cQ (dA (dt (gL fQ fQ ah (aR bB rfl ml PySem.boot_len (ae (aa 0) ag)) (dS rfl hm))) (cP (au (ba hr) (aa 0) aF)))) (ac (aq cm) af) af) (ac (aq (aR (xX rfl) rfl ma PyProof.Rows.boot_all (ae (eQ (d8 (by first | rfl | decide+kernel)) rfl (bS (aa 0)) (λ_ _ _ _=>(cK 1 (by first | assumption | decide+kernel | rfl) rfl (.inl rfl))) (λ_ _ _ _=>eP) (λ_ _ _ _=>(aD F1 (ay.mono hr (by lia)) rfl (ae (aa 1) ag)))) ag))) af))
 ·rintro ws G q e ⟨l,rfl,hl,hq⟩;walk_at "a0";have nope:∀{c:Prop},¬c->(dZ l=true->c)->∀G',aC G G'->∃G0,aC G0 G'/\q (.bl false) G0:=λhc hi G' le=>by
   have:dZ l=false:=Bool.eq_false_iff.mpr λz=>hc (hi z);rw[←this];exact aC.done (hq G' le)
  have fst:dZ l=true->1<=l.length/\l.length<=8/\l≠[119]:=λh=>by
   unfold dZ at h;simp only[Bool.and_eq_true,decide_eq_true_eq] at h;exact⟨h.1.1.1,h.1.1.2,h.1.2⟩
  refine⟨by rw[aQ];lia,_,rfl,?_⟩;rw[aQ];refine cg (λh1=>?_) λh1=>nope (c:=1<=l.length) (λz=>h1 (ydz (by (clear h1;lia)))) (λz=>(fst z).1) _ (aC.refl _);refine cg (λh2=>nope (c:=l.length<=8) (λz=>h2 (by (clear h1;lia))) (λz=>(fst z).2.1) _ (aC.refl _)) λh2=>?_;have h1:1<=l.length:=by have:=of_decide_eq_true h1;(clear h1;lia)
  have h2:l.length<=8:=by have:=Decidable.of_not_not h2;(clear this;lia)
  refine⟨rfl,rfl,zero_le _,?_⟩;rw[show Str.ofString "w"=bq [119] from rfl,d9];refine cg (λh3=>nope (c:=l≠[119]) (λz=>z (of_decide_eq_true h3)) (λz=>(fst z).2.2) _ (aC.refl _)) λh3=>?_;have h3:l≠[119]:=λz=>h3 (ydz z);subst hU;walk_at "R";refine lh (i:=1) (λc:Nat=>W.str (bq [c])) (λc=>W.bl (cq c)) (τ0:=fj _ _) trivial (λc hc k hk=>?_) (by show 0+_<=_;(clear h2;lia)) (λ_=>rfl) λp hp=>⟨l.map cq,?_,?_⟩
  ·walk_at "R";exact⟨[c],rfl,ycx _,hk⟩
  ·rw[ak,nil_append,map_map]
   rfl
  have ea:(l.map cq).all id=dZ l:=by
   rw[List.all_map];unfold dZ;rw[ydz ⟨h1,h2⟩,ydz h3]
   rfl
  rw[ea];exact aC.done (hq _ (aC.new hp))
noncomputable def dE:cA->W
 | .num a=> .tup (am a)
 | .nam l=> .str (bq l)
 | .op x=> .str (bq [x])
noncomputable def Cu:bJ:=λws G q _=>ws=[]/\q (.tup (am om)) G
theorem EQ (F:cv K "endless" "endless" (aA 10) f fd) (F1:Fx P w K mg base "whole" ["n"] 3 rP) (F2:BC P w K mg base "raised" ["exponent","times"] 2 uK [.int 1]):cB P w K mg base 4 f fd [] Cu:=by
 refine fm F (N:=[]) (by walk_at "s") (by walk_at "l") λ_ _ _ _ _ _ nd hr=>?_;apply aN
 ·exact(ac (aq (kM F2 (ay.mono hr (by lia)) rfl (ae (aD F1 (ay.mono hr (by lia)) rfl (ae ah ag)) ag))) af)
 ·rintro ws G q e ⟨rfl,hq⟩;walk_at "R";refine⟨1,rfl,by decide,O.wh 1,1,rfl,by decide,aC.done ?_⟩;exact hq
noncomputable def uL (C:Addr):bJ:=λws G q e=>∃l:List Nat,ws=[.str (bq l)]/\l.length<=5000/\(∀x,jQ l=some x->∀G',aC G G'->q (dE x) G')/\(jQ l=none->∀G',aC G G'->e (.ref C) G')
theorem scTo:bh ["word"] ["word"] (al (aA 45)):=by walk_at "s"
theorem ER {C:Addr} {bC:yez} (F:cv K "thing_of" "thing_of" (aA 45) f fd) (F1:Fx P w K mg base "endless" [] 4 Cu) (F2:Fx P w K mg base "is_figures" ["text"] 2 Cs) (F3:Fx P w K mg base "is_name" ["text"] 2 Ct) (F4:Fx P w K mg base "whole" ["n"] 3 rP) (mC:mg "NoText"=some (.ref C)) (xC:XC K C bC) (mi:mg "int"=none):ju P w K mg base 5 f fd ["word"] (uL C):=by
 have nd:=scTo.nd;refine jv (k:=4) F scTo (λws G q e h=>by obtain⟨_,rfl,_⟩:=h;rfl) (λcdv A outer s H E ws G q e hr hsp hE=>?_);obtain⟨l,rfl,hl,hgood,hbad⟩:=hsp;apply aN
 ·refine' ac ?s1 (ac ?s2 (ac ?s3 (aM (dC mC xC (λH1 G1=>hE _ H1 G1) rfl))))
  case s1=>exact(aL (au (ba hr) (aa 0) aF) (ac (aq (zw F1 (ay.mono hr (by lia)) rfl)) af) af)
  case s2=>exact(aL (bx (aD F2 (ay.mono hr (by lia)) rfl (ae (aa 0) ag))) (ac (aq (aD F4 (ay.mono hr (by lia)) rfl (ae (cU zX rfl mi PyProof.Rows.boot_int (ae (aa 0) ag)) ag))) af) af)
  case s3=>exact(aL (bx (aD F3 (ay.mono hr (by lia)) rfl (ae (aa 0) ag))) (ac (aq (aa 0)) af) af)
 ·walk_at "a0";refine⟨rfl,rfl,zero_le _,?_⟩;rw[show Str.ofString "w"=bq [119] from rfl,d9];refine cg (λh1=>?_) λh1=>?_
  ·have h1:l=[119]:=of_decide_eq_true h1;refine⟨rfl,aC.done (hgood (.num om) ?_ G (aC.refl _))⟩;rw[h1]
   rfl
  have h1:l≠[119]:=λz=>h1 (ydz z);walk_at "a";refine⟨l,rfl,hl,λG1 le1=>?_⟩;walk_at "R";refine cg (λh2=>?_) λh2=>?_
  ·have h4:l.all bY=true/\1<=l.length/\l.length<=60:=by
    unfold cj at h2;simp only[Bool.and_eq_true,decide_eq_true_eq] at h2;exact⟨h2.1.2,h2.1.1⟩
   refine⟨λc hc=>?_,λz=>?_,by rw[aQ];lia,_,rfl,Int.natCast_nonneg _,aC.done ?_⟩
   ·have:=List.all_eq_true.mp h4.1 c hc;exact of_decide_eq_true this
   ·rw[z] at h4;exact absurd h4.2.1 (by decide)
   ·refine hgood (.num (O.wh (tO l))) ?_ G1 le1;unfold jQ;rw[ycw h1,ycv h2]
  walk_at "a";refine⟨l,rfl,hl,λG2 le2=>?_⟩;walk_at "R";have h2:cj l=false:=Bool.eq_false_iff.mpr h2;refine cg (λh3=>?_) λh3=>?_
  ·refine aC.done (hgood (.nam l) ?_ G2 (le1.trans le2));unfold jQ;rw[ycw h1,h2,ycw (by decide),ycv h3]
  ·subst hU;walk_at "R";refine hbad ?_ G2 (le1.trans le2);unfold jQ;rw[ycw h1,h2,ycw (by decide),ycw h3]
noncomputable def lA (l:List Nat) (p:Nat) (a:Addr):List (Str×W):=[("text",.str (bq l)),("place",.int (p:Int)),("steps",.ref a)]
structure Dl (C:Addr) (G:Gp) (r a:Addr) (l:List Nat) (p:Nat) (s:List cA):Prop where
 hr:G r=some (.ins C (lA l p a))
 ha:G a=some (.lst (s.map dE))
 pl:p<=l.length
 ll:l.length<=2000
 sl:s.length+l.length<=6000+p
structure xm (K:yav) (C:Addr):Prop where
 c:lG K C
 t:cW K C "text"
 p:cW K C "place"
 s:cW K C "steps"
noncomputable def uM (C:Addr):bJ:=λws G q _=>∃(r a:Addr) (l:List Nat) (p:Nat),ws=[.ref r]/\G r=some (.ins C (lA l p a))/\p<=l.length/\l.length<=2000/\q (.str (bq ((l.drop p).take 1))) G
theorem scSg:bh ["self"] ["self"] (al (cO 46 7)):=by walk_at "s"
theorem ES {C:Addr} (hC:xm K C) (F:cv K "sign" "Reading.sign" (cO 46 7) f fd):cB P w K mg base 1 f fd ["self"] (uM C):=by
 have nd:=scSg.nd;obtain⟨hc,ct,cp,cs⟩:=hC;refine zg F scSg (λws G q e h=>by obtain⟨_,_,_,_,rfl,_⟩:=h;rfl) (λcdv A outer s H E hr=>?_);apply aN
 ·exact(ac (aq (bD (dv (aa 0)) (bc (dv (aa 0))) (bc (av aE (dv (aa 0)) ah)))) af)
 ·rintro ws G q e ⟨r,a,l,p,rfl,hr,hp,hl,hq⟩;walk_at "R";refine⟨r,C,_,_,rfl,hr,⟨hc,ct⟩,rfl,r,C,_,_,rfl,hr,⟨hc,cp⟩,rfl,?_⟩;walk_at "R";refine⟨r,C,_,_,rfl,hr,⟨hc,cp⟩,rfl,?_⟩;walk_at "R";refine⟨by rw[aQ];lia,p,p+1,by rw[aQ];exact hp,.inr rfl,.inr rfl,aC.done ?_⟩;rw[Nat.add_sub_cancel_left];exact hq
noncomputable def rS (C:Addr):bJ:=λws G q _=>∃(r a:Addr) (l:List Nat) (p x:Nat),ws=[.ref r,.str (bq [x])]/\G r=some (.ins C (lA l p a))/\p<=l.length/\l.length<=2000/\
 ((l.drop p).head?=some x->q (.bl true) (aX G r (.ins C (lA l (p+1) a))))/\((l.drop p).head?≠some x->q (.bl false) G)
theorem ny (l:List Nat) (x:Nat):l.take 1=[x]↔l.head?=some x:=by
 cases l with
 | nil=>simp
 | cons y l=>simp
theorem scPb:bh ["self","sign"] ["self","sign"] (al (cO 46 6)):=by walk_at "s"
theorem ET {C:Addr} (hC:xm K C) (F:cv K "pass_by" "Reading.pass_by" (cO 46 6) f fd) (M1:Mt P w K mg base C "sign" ["self"] 1 (uM C) []):cB P w K mg base 2 f fd ["self","sign"] (rS C):=by
 have nd:=scPb.nd;obtain⟨hc,ct,cp,cs⟩:=hC;refine zg F scPb (λws G q e h=>by obtain⟨_,_,_,_,_,rfl,_⟩:=h;rfl) (λcdv A outer s H E hr=>?_);apply aN
 ·exact(ac (aL (au (dM hr) (fy (aa 0) M1 (ay.mono hr (by lia))) (aa 1)) (ac (aq cm) af) af) (ac (i7 (aa 0) (av aE (dv (aa 0)) ah)) (ac (aq cm) af)))
 ·rintro ws G q e ⟨r,a,l,p,x,rfl,hr,hp,hl,hyes,hno⟩;walk_at "a0";refine⟨r,_,rfl,hr,rfl,r,a,l,p,rfl,hr,hp,hl,?_⟩;walk_at "R";refine⟨rfl,rfl,zero_le _,?_⟩;rw[d9];refine cg (λh=>?_) λh=>?_
  ·exact aC.done (hno λz=>by rw[ydz ((ny _ _).mpr z)] at h;cases h)
  ·have hx:(l.drop p).head?=some x:=(ny _ _).mp (by
    cases e0:decide (List.take 1 (List.drop p l)=[x]) with
    | true=>exact of_decide_eq_true e0
    | false=>exact absurd e0 h)
   walk_at "a";refine⟨r,C,_,_,rfl,hr,⟨hc,cp⟩,rfl,?_⟩;walk_at "R";refine⟨r,C,_,rfl,hr,⟨hc,cp⟩,by simp[lA],?_⟩;subst hU;walk_at "R";refine aC.done ?_;exact hyes hx
theorem xn {G:Gp} {r:Addr} {g:GO} (h:G r=some g):aX G r g=G:=by
 funext x
 by_cases e:x=r
 ·rw[e,ak,h]
 ·rw[aV e]
theorem xo (l:List Nat):(bM l).length<=l.length:=by
 have:=congrArg List.length (eW l);rw[length_append] at this;lia
theorem uN (l:List Nat):l.take (bM l).length=bM l:=by
 have:l.take (bM l).length=(bM l++mJ l).take (bM l).length:=by rw[eW]
 rw[this,List.take_append_of_le_length (ycx _),take_length]
theorem uO {l:List Nat}:(xk (l.take 1)||xl (l.take 1))=decide (bM l≠[]):=by
 cases l with
 | nil=>rfl
 | cons x l=>
   show dJ x=_;unfold bM;cases dJ x<;> simp
theorem uP {l:List Nat} (h:bM l≠[]):bM (l.drop 1)=(bM l).drop 1:=by
 cases l with
 | nil=>exact absurd rfl h
 | cons x l=>
   unfold bM at h;show bM l=(bM (x::l)).drop 1
   conv=>rhs;unfold bM
   split
   ·rfl
   ·rename_i hx;rw[ycw hx] at h;exact absurd rfl h
noncomputable def Ag (C:Addr):bJ:=λws G q _=>∃(r a:Addr) (l:List Nat) (p:Nat),ws=[.ref r]/\G r=some (.ins C (lA l p a))/\p<=l.length/\l.length<=2000/\q (.str (bq (bM (l.drop p)))) (aX G r (.ins C (lA l (p+(bM (l.drop p)).length) a)))
theorem scWd:bh ["self","first"] ["self"] (al (cO 46 5)):=by walk_at "s"
theorem EU {C:Addr} (hC:xm K C) (F:cv K "word" "Reading.word" (cO 46 5) f fd) (M1:Mt P w K mg base C "sign" ["self"] 1 (uM C) []) (F1:Fx P w K mg base "is_figure" ["sign"] 1 oU) (F2:Fx P w K mg base "is_letter" ["sign"] 1 oV):cB P w K mg base 2 f fd ["self"] (Ag C):=by
 have nd:=scWd.nd;obtain⟨hc,ct,cp,cs⟩:=hC;refine zg F scWd (λws G q e h=>by obtain⟨_,_,_,_,rfl,_⟩:=h;rfl) (λcdv A outer s H E hr=>?_);apply aN
 ·exact(ac (ao 1 nd rfl (.inl rfl) (dv (aa 0))) (ac (dB PySem.PassesOwn.never (cQ (dA (bx (aD F1 (ay.mono hr (by lia)) rfl (ae (fy (aa 0) M1 (ay.mono hr (by lia))) ag))) (cP (bx (aD F2 (ay.mono hr (by lia)) rfl (ae (fy (aa 0) M1 (ay.mono hr (by lia))) ag)))))) (ac (i7 (aa 0) (av aE (dv (aa 0)) ah)) af)) (ac (aq (bD (dv (aa 0)) (bc (aa 1)) (bc (dv (aa 0))))) af)))
 ·rintro ws G q e ⟨r,a,l,p,rfl,hr,hp,hl,hq⟩;have wl:=xo (l.drop p);rw[length_drop] at wl;walk_at "a0";refine⟨r,C,_,_,rfl,hr,⟨hc,cp⟩,rfl,?_⟩;subst hU;refine aB λU hU=>?_;refine gk (λj τ G'=>∃i:Nat,i<=(bM (l.drop p)).length/\j=(bM (l.drop p)).length-i/\τ=[some (.ref r),some (.int (p:Int))]/\G'=aX G r (.ins C (lA l (p+i) a))/\bM (l.drop (p+i))=(bM (l.drop p)).drop i) ⟨_,0,zero_le _,rfl,rfl,(xn hr).symm,rfl⟩ ?_;rintro j τ G' ⟨i,hi,rfl,rfl,rfl,hw⟩ B hB;have hr':aX G r (.ins C (lA l (p+i) a)) r=some (.ins C (lA l (p+i) a)):=ak;have len1:((l.drop (p+i)).take 1).length<=1:=by rw[length_take];exact Nat.min_le_left _ _
  have hd:=uO (l:=l.drop (p+i));have go:bM (l.drop (p+i))≠[]->∃N:dR->Gp->Prop,(∀τ1 G1,N τ1 G1->∃m1,m1<(bM (l.drop p)).length-i/\∃i,i<=(bM (l.drop p)).length/\m1=(bM (l.drop p)).length-i/\τ1=[some (.ref r),some (.int (p:Int))]/\G1=aX G r (.ins C (lA l (p+i) a))/\bM (l.drop (p+i))=(bM (l.drop p)).drop i)/\B { nx:=N,rt:=λw G1=>∃G0,aC G0 G1/\q w G0,bk:=U { nx:=λx G1=>∃G0,aC G0 G1/\q W.non G0,rt:=λw G1=>∃G0,aC G0 G1/\q w G0 },ct:=N } [some (.ref r),some (.int (p:Int))] (aX G r (.ins C (lA l (p+i) a))):=λhne=>by
   have hi2:i<(bM (l.drop p)).length:=by
    rcases Nat.lt_or_ge i (bM (l.drop p)).length with z | z
    ·exact z
    ·rw[hw,drop_eq_nil_of_le z] at hne;exact absurd rfl hne
   refine⟨λτ1 G1=>τ1=[some (.ref r),some (.int (p:Int))]/\G1=aX G r (.ins C (lA l (p+(i+1)) a)),?_,?_⟩
   ·rintro τ1 G1 ⟨rfl,rfl⟩;refine⟨_,by (clear hp hl wl hi len1;lia),i+1,hi2,rfl,rfl,rfl,?_⟩;have:=uP hne;rw[drop_drop,hw,drop_drop] at this;exact this
   ·subst hB;walk_at "R";refine⟨r,C,_,_,rfl,hr',⟨hc,cp⟩,rfl,?_⟩;walk_at "R";refine⟨r,C,_,rfl,hr',⟨hc,cp⟩,by simp[lA],?_⟩;rw[gl]
    rfl
  walk_at "R";refine⟨r,_,rfl,hr',rfl,r,a,l,p+i,rfl,hr',by (clear hl len1;lia),hl,_,rfl,len1,?_⟩;dsimp only;refine cg (λh=>go ?_) λh=>?_
  ·rw[h,Bool.true_or] at hd;exact of_decide_eq_true hd.symm
  rw[Bool.eq_false_iff.mpr h,Bool.false_or] at hd;refine⟨r,_,rfl,hr',rfl,r,a,l,p+i,rfl,hr',by (clear hl len1;lia),hl,_,rfl,len1,?_⟩;dsimp only;refine cg (λh=>go ?_) λh=>?_
  ·rw[h] at hd;exact of_decide_eq_true hd.symm
  rw[Bool.eq_false_iff.mpr h] at hd;have hz:bM (l.drop (p+i))=[]:=Decidable.of_not_not (of_decide_eq_false hd.symm);have hie:i=(bM (l.drop p)).length:=by
   have:=congrArg List.length (hw.symm.trans hz);rw[length_drop] at this;have:(bM (l.drop p)).length-i=0:=this
   (clear hp hl wl len1;lia)
  subst hU;walk_at "R";refine⟨r,C,_,_,rfl,hr',⟨hc,ct⟩,rfl,r,C,_,_,rfl,hr',⟨hc,cp⟩,rfl,?_⟩;walk_at "R";refine⟨by rw[aQ];lia,p,p+i,by rw[aQ];assumption,.inr rfl,.inr rfl,aC.done ?_⟩;rw[Nat.add_sub_cancel_left,hie];show q (.str (bq ((l.drop p).take (bM (l.drop p)).length))) _;rw[uN];exact hq
noncomputable def ir (G G':Gp) (r a:Addr):Prop:=∀x g,x≠r->x≠a->G x=some g->G' x=some g
theorem ir.trans {G G1 G2:Gp} {r a:Addr} (h:ir G G1 r a) (g:ir G1 G2 r a):ir G G2 r a:=λx y h1 h2 e=>g x y h1 h2 (h x y h1 h2 e)
theorem ir.r (G:Gp) (r a:Addr) (g:GO):ir G (aX G r g) r a:=λx y h1 _ e=>(aV h1).trans e
theorem ir.aq (G:Gp) (r a:Addr) (g:GO):ir G (aX G a g) r a:=λx y _ h2 e=>(aV h2).trans e
noncomputable def fL (C NT:Addr) (fn:List Nat->Rd) (w:Nat):bJ:=λws G q e=>∃(r a:Addr) (l:List Nat) (p:Nat) (s:List cA),ws=[.ref r,.int (w:Int)]/\Dl C G r a l p s/\r≠a/\
 (∀s' rest,fn (l.drop p)=some (s',rest)->∀G',ir G G' r a->Dl C G' r a l (l.length-rest.length) (s++s')->q .non G')/\(fn (l.drop p)=none->∀G',ir G G' r a->e (.ref NT) G')
noncomputable def Cv:WS:=λd _ G=>d.rt .non G
theorem Cw {rd:List Nat->Rd} {m:List Nat} (h:m.head?≠some 40):aZ rd m=match jQ (bM m) with | some x=>some ([x],mJ m) | none=>none:=by
 unfold aZ;split
 ·exact absurd rfl h
 ·rfl
theorem Cy {rd:List Nat->Rd} {m:List Nat} (h:rd m=none):aZ rd (40::m)=none:=by
 show(match rd m with | some (s,41::r)=>some (s,r) | _=>none)=none;rw[h]
theorem Cz {rd:List Nat->Rd} {m r:List Nat} {s':List cA} (h:rd m=some (s',41::r)):aZ rd (40::m)=some (s',r):=by
 show(match rd m with | some (s,41::r)=>some (s,r) | _=>none)=_;rw[h]
 rfl
theorem CA {rd:List Nat->Rd} {m r:List Nat} {s':List cA} (h:rd m=some (s',r)) (hh:r.head?≠some 41):aZ rd (40::m)=none:=by
 show(match rd m with | some (s,41::r)=>some (s,r) | _=>none)=none;rw[h];split
 ·next e=>cases e;exact absurd rfl hh
 ·rfl
theorem eJ {l:List Nat} {p x:Nat} (h:(l.drop p).head?=some x):p<l.length/\l.drop p=x::l.drop (p+1):=by
 have hp:p<l.length:=Decidable.by_contra λn=>by rw[drop_eq_nil_of_le (by walk_at "om")] at h;exact nomatch h
 refine⟨hp,?_⟩;rw[drop_eq_getElem_cons hp] at h ⊢;rw[Option.some.inj h]
unseal QS in
theorem xp {X:Cx}:QS X (.Return none pos) Cv:=ps_retN.imp λD σ H z0=>z0.el λτ G d hs hg ht l=>l.rt .non H .non G (aW.refl H) .non hg ht
theorem scRt:bh ["self","within"] ["self","within"] (al (cO 46 4)):=by walk_at "s"
theorem EV {C NT:Addr} {bC:yez} {t1:Tok} {d k:Nat} (hd:d<=20) (hk5:5<=k) (hC:xm K C) (F:cv K "read_thing" "Reading.read_thing" (cO 46 4) f fd) (M1:Mt P w K mg base C "pass_by" ["self","sign"] 2 (rS C) []) (M2:Mt P w K mg base C "word" ["self"] 2 (Ag C) []) {spX:bJ} (M3:pC P w K mg base C "read_sum" ["self","within"] k spX []) (hX:1<=d->spX=fL C NT (bw d) (21-d)) (R1:Rx P w K mg base "thing_of" ["word"] 5 (uL NT) []) (hm:mg "MOST_BRACKETS"=some (.int 20 t1)) (mC:mg "NoText"=some (.ref NT)) (xC:XC K NT bC):ju P w K mg base (k+1) f fd ["self","within"] (fL C NT (aZ (bw d)) (20-d)):=by
 have nd:=scRt.nd;obtain⟨hc,ct,cp,cs⟩:=hC;refine jv (k:=k) F scRt (λws G q e h=>by obtain⟨_,_,_,_,_,rfl,_⟩:=h;rfl) (λcdv A outer s0 H E ws G q e hr hsp hE=>?_);obtain⟨r,a,l,p,s,rfl,X,ra,hgood,hbad⟩:=hsp;apply aN
 ·refine' ac (aL ?c1 ?b1 af) (ac (aL ?c2 (aM (dC mC xC (λH1 G1=>hE _ H1 G1) rfl)) af) (ac ?s3 (aM (aL ?c4 (aM (dC mC xC (λH1 G1=>hE _ H1 G1) rfl)) af))))
  case c1=>exact(dt (bx (gA (aa 0) M1 (ay.mono hr (by lia)) (ae aF ag))))
  case b1=>
   refine' ac ?e1 (aM ?e2)
   case e1=>exact bu (cR (by exact(dv (aa 0))) (eE R1 (ay.mono hr (by assumption)) hE rfl (by exact(ae (fy (aa 0) M2 (ay.mono hr (by lia))) ag))))
   case e2=>exact xp
  case c2=>exact(au (ba hr) (aa 1) (dS rfl hm))
  case s3=>exact bu (dD (aa 0) M3 (ay.mono hr (by (clear hd hk5;lia))) hE (by exact(ae (av aE (aa 1) ah) ag)))
  case c4=>exact(dt (bx (gA (aa 0) M1 (ay.mono hr (by lia)) (ae aF ag))))
 ·walk_at "a0";refine⟨r,_,rfl,X.hr,rfl,r,a,l,p,40,rfl,X.hr,X.pl,X.ll,λhh=>?_,λhh=>?_⟩
  ·obtain⟨hp,hdr⟩:=eJ hh;dsimp only;rw[ycw (by decide)];subst hU;walk_at "R";have hG1:(aX G r (.ins C (lA l (p+1) a))) r=some (.ins C (lA l (p+1) a)):=ak;refine cg (λh=>?_) λh=>?_
   ·have hd0:d=0:=by (clear hk5 hp;lia)
    subst hd0;exact hbad (by rw[hdr];rfl) _ (ir.r G r a _)
   obtain rfl:=hX (by (clear hk5 hp;lia));unfold eS;walk_at "R";have hll:=X.ll;have hsl:=X.sl;refine⟨r,_,rfl,hG1,rfl,r,a,l,p+1,s,by rw[show((21-d:Nat):Int)=((20-d:Nat):Int)+1 by (clear hk5 hp h hll hsl;lia)],⟨hG1,(aV ra.symm).trans X.ha,hp,hll,by (clear hd hk5 hp h hll;lia)⟩,ra,λs' rest hrd G' hK X'=>?_,λhn G' hK=>hbad (by rw[hdr];exact Cy hn) G' ((ir.r G r a _).trans hK)⟩;have hdp:l.drop (l.length-rest.length)=rest:=(gP.trans ⟨l.take (p+1),(take_append_drop _ _).symm⟩ (cV d _ _ _ hrd).1).drop;refine⟨r,_,rfl,X'.hr,rfl,r,a,l,l.length-rest.length,41,rfl,X'.hr,X'.pl,X'.ll,λh2=>?_,λh2=>?_⟩
   ·obtain⟨hp2,hd2⟩:=eJ h2;have hX:=X'.sl;dsimp only;rw[ycw (by decide)];rw[hdp] at hd2;refine⟨_,aC.refl _,hgood s' _ (by rw[hdr];exact Cz (hrd.trans (congrArg (λz=>some (s',z)) hd2))) _ (((ir.r G r a _).trans hK).trans (ir.r G' r a _)) ⟨?_,(aV ra.symm).trans X'.ha,by (clear hd hk5 h hll hsl hp2 hX;lia),hll,?_⟩⟩
    ·rw[length_drop,show l.length- (l.length- (l.length-rest.length+1))=l.length-rest.length+1 by (clear hd hk5 h;lia)];exact ak
    ·rw[length_drop]
     (clear hd hk5 hp h hll hsl;lia)
   ·dsimp only;rw[ycv rfl];rw[hdp] at h2;exact hbad (by rw[hdr];exact CA hrd h2) G' ((ir.r G r a _).trans hK)
  ·dsimp only;rw[ycv rfl];have hrd:=Cw (rd:=bw d) hh;have hla:=congrArg List.length (eW (l.drop p));rw[length_append,length_drop] at hla;have hpl:=X.pl;have hll:=X.ll;have hsl:=X.sl;refine⟨r,C,_,.ref a,rfl,X.hr,⟨hc,cs⟩,rfl,⟨_,X.ha⟩,r,_,rfl,X.hr,rfl,r,a,l,p,rfl,X.hr,X.pl,X.ll,bM (l.drop p),rfl,by (clear hd hk5 hsl;lia),λx hx G' hG=>?_,λhn G' hG=>?_⟩
   ·rw[hx] at hrd;have h1:=tP hx;refine⟨_,hG _ _ ((aV ra.symm).trans X.ha),by rw[length_map];(clear hd hk5 hla hll h1;lia),?_⟩;refine⟨_,aC.refl _,hgood [x] (mJ (l.drop p)) hrd _ (λz g h1 h2 e=>(aV h2).trans (hG _ _ ((aV h1).trans e))) ⟨?_,?_,by (clear hd hk5 hla hpl hsl h1;lia),hll,?_⟩⟩
    ·rw[aV ra,show l.length- (mJ (l.drop p)).length=p+(bM (l.drop p)).length by (clear hd hk5 hsl;lia)];exact hG _ _ ak
    ·rw[map_append];exact ak
    ·rw[length_append,length_singleton]
     (clear hd hk5 hll;lia)
   ·rw[hn] at hrd;exact hbad hrd G' λz g h1 h2 e=>hG _ _ ((aV h1).trans e)
theorem CB {rd:List Nat->Rd} {m r r2:List Nat} {s' s2:List cA} (h:aZ rd m=some (s',94::r)) (h2:aZ rd r=some (s2,r2)):bU rd m=some (s'++s2++[.op 94],r2):=by
 unfold bU;rw[h];show(match aZ rd r with | some (s2,r2)=>some (s'++s2++[cA.op 94],r2) | none=>none)=_;rw[h2]
theorem CC {rd:List Nat->Rd} {m r:List Nat} {s':List cA} (h:aZ rd m=some (s',94::r)) (h2:aZ rd r=none):bU rd m=none:=by
 unfold bU;rw[h];show(match aZ rd r with | some (s2,r2)=>some (s'++s2++[cA.op 94],r2) | none=>none)=_;rw[h2]
theorem CD {rd:List Nat->Rd} {m r:List Nat} {s':List cA} (h:aZ rd m=some (s',r)) (hh:r.head?≠some 94):bU rd m=some (s',r):=by
 unfold bU;rw[h];split
 ·next e=>cases e;exact absurd rfl hh
 ·rfl
theorem scRp:bh ["self","within"] ["self","within"] (al (cO 46 3)):=by walk_at "s"
theorem EW {C NT:Addr} {d k:Nat} (hk5:5<=k) (hC:xm K C) (F:cv K "read_power" "Reading.read_power" (cO 46 3) f fd) (M1:Mt P w K mg base C "pass_by" ["self","sign"] 2 (rS C) []) (M3:pC P w K mg base C "read_thing" ["self","within"] k (fL C NT (aZ (bw d)) (20-d)) []):ju P w K mg base (k+1) f fd ["self","within"] (fL C NT (bU (bw d)) (20-d)):=by
 have nd:=scRp.nd;obtain⟨hc,ct,cp,cs⟩:=hC;refine jv (k:=k) F scRp (λws G q e h=>by obtain⟨_,_,_,_,_,rfl,_⟩:=h;rfl) (λcdv A outer s0 H E ws G q e hr hsp hE=>?_);obtain⟨r,a,l,p,s,rfl,X,ra,hgood,hbad⟩:=hsp;have hrt:=jR (cV d);apply aN
 ·refine' ac ?s1 (aM (aL ?c2 (ac ?s3 (aM ?s4)) af))
  case s1=>exact bu (dD (aa 0) M3 (ay.mono hr (by (clear hk5;lia))) hE (by exact(ae (aa 1) ag)))
  case c2=>exact(bx (gA (aa 0) M1 (ay.mono hr (by lia)) (ae aF ag)))
  case s3=>exact bu (dD (aa 0) M3 (ay.mono hr (by (clear hk5;lia))) hE (by exact(ae (aa 1) ag)))
  case s4=>exact bu (cR (by exact(dv (aa 0))) (by exact aF))
 ·walk_at "a0";unfold eS;walk_at "R";refine⟨r,_,rfl,X.hr,rfl,r,a,l,p,s,rfl,X,ra,λs' rest hrd G' hK X'=>?_,λhn G' hK=>hbad (by unfold bU;rw[hn]) G' hK⟩;have hdp:l.drop (l.length-rest.length)=rest:=(gP.trans ⟨l.take p,(take_append_drop _ _).symm⟩ (hrt _ _ _ hrd).1).drop;subst hU;walk_at "R";have hpl:=X.pl;have hll:=X.ll;have hsl:=X.sl;refine⟨r,_,rfl,X'.hr,rfl,r,a,l,l.length-rest.length,94,rfl,X'.hr,X'.pl,X'.ll,λh2=>?_,λh2=>?_⟩
  ·obtain⟨hp2,hd2⟩:=eJ h2;have hX:=X'.sl;rw[hdp] at hd2;have hrd':=hrd.trans (congrArg (λz=>some (s',z)) hd2);have hkp:ir G (aX G' r (.ins C (lA l (l.length-rest.length+1) a))) r a:=hK.trans (ir.r G' r a _);dsimp only;rw[ycv rfl];unfold eS;walk_at "R";refine⟨r,_,rfl,ak,rfl,r,a,l,l.length-rest.length+1,s++s',rfl,⟨ak,(aV ra.symm).trans X'.ha,hp2,hll,by (clear hk5 hpl hll hsl hp2;lia)⟩,ra,λs2 rest2 hr2 G2 hK2 X2=>?_,λhn G2 hK2=>hbad (CC hrd' hn) G2 (hkp.trans hK2)⟩;have h3:=X2.sl;have l1:=(hrt _ _ _ hrd).2;have l2:=(hrt _ _ _ hr2).2;have l3:=(hrt _ _ _ hrd).1.len;have l4:=(hrt _ _ _ hr2).1.len;simp only[length_drop,length_append] at l1 l2 l3 l4 h3;refine⟨r,C,_,.ref a,rfl,X2.hr,⟨hc,cs⟩,rfl,⟨_,X2.ha⟩,_,X2.ha,by simp only[length_map,length_append];(clear hk5 hpl hsl hp2 hX l1 l2 l3 l4;lia),_,aC.refl _,hgood _ rest2 (CB hrd' hr2) _ ((hkp.trans hK2).trans (ir.aq G2 r a _)) ⟨(aV ra).trans X2.hr,?_,X2.pl,hll,?_⟩⟩
   ·rw[ak];simp only[map_append,append_assoc]
    rfl
   ·simp only[length_append,length_singleton]
    (clear hk5 hll hX;lia)
  ·dsimp only;rw[ycw (by decide)];rw[hdp] at h2;exact⟨_,aC.refl _,hgood s' rest (CD hrd h2) G' hK X'⟩
noncomputable def fc (one:List Nat->Rd) (c:Nat) (l:List Nat):Rd:=
 match one l with
 | some (s,r)=>bF one c r.length s r
 | none=>none
theorem nz {one:List Nat->Rd} {c:Nat} {l r:List Nat} {s:List cA} (h:one l=some (s,r)):fc one c l=bF one c r.length s r:=by unfold fc;rw[h]
theorem nA {one:List Nat->Rd} {c:Nat} {l:List Nat} (h:one l=none):fc one c l=none:=by unfold fc;rw[h]
theorem nB {one:List Nat->Rd} {c:Nat} {l:List Nat} (h:l.head?≠some c) (n:Nat) (s:List cA):bF one c n s l=some (s,l):=by
 cases n with
 | zero=>rfl
 | succ n=>unfold bF;rw[ycw h]
theorem uQ {one:List Nat->Rd} {c:Nat} {l r:List Nat} {s2:List cA} (h:one l=some (s2,r)) (n:Nat) (s:List cA):bF one c (n+1) s (c::l)=bF one c n (s++s2++[.op c]) r:=by
 show(if (c::l).head?=some c then match one l with | some (s2,r)=>bF one c n (s++s2++[.op c]) r | none=>none else some (s,c::l))=_;rw[ycv (List.head?_cons ..),h]
theorem uR {one:List Nat->Rd} {c:Nat} {l:List Nat} (h:one l=none) (n:Nat) (s:List cA):bF one c (n+1) s (c::l)=none:=by
 show(if (c::l).head?=some c then match one l with | some (s2,r)=>bF one c n (s++s2++[.op c]) r | none=>none else some (s,c::l))=_;rw[ycv (List.head?_cons ..),h]
noncomputable def qp (C:Addr) (G:Gp) (r a:Addr) (l:List Nat) (p:Nat) (s:List cA) (one:List Nat->Rd) (c:Nat) (v:Int) (m:Nat) (τ:dR) (G':Gp):Prop:=
 ∃s' rest,rest.length<=m/\τ=[some (.ref r),some (.int v)]/\ir G G' r a/\Dl C G' r a l (l.length-rest.length) (s++s')/\gP l rest/\s'.length+rest.length<=l.length-p/\fc one c (l.drop p)=bF one c m s' rest
theorem scRpd:bh ["self","within"] ["self","within"] (al (cO 46 2)):=by walk_at "s"
theorem CF {C NT:Addr} {one:List Nat->Rd} {w0 k:Nat} (hone:pQ one) (hk5:5<=k) (hC:xm K C) (F:cv K "read_product" "Reading.read_product" (cO 46 2) f fd) (M1:Mt P w K mg base C "pass_by" ["self","sign"] 2 (rS C) []) (M3:pC P w K mg base C "read_power" ["self","within"] k (fL C NT one w0) []):ju P w K mg base (k+1) f fd ["self","within"] (fL C NT (fc one 42) w0):=by
 have nd:=scRpd.nd;obtain⟨hc,ct,cp,cs⟩:=hC;refine jv (k:=k) F scRpd (λws G q e h=>by obtain⟨_,_,_,_,_,rfl,_⟩:=h;rfl) (λcdv A outer s0 H E ws G q e hr hsp hE=>?_);obtain⟨r,a,l,p,s,rfl,X,ra,hgood,hbad⟩:=hsp;apply aN
 ·refine' ac ?s1 (aM (dB PassesOwn.leaving ?c2 (ac ?s3 (aM ?s4))))
  case s1=>exact bu (dD (aa 0) M3 (ay.mono hr (by (clear hk5;lia))) hE (by exact(ae (aa 1) ag)))
  case c2=>exact(bx (gA (aa 0) M1 (ay.mono hr (by lia)) (ae aF ag)))
  case s3=>exact bu (dD (aa 0) M3 (ay.mono hr (by (clear hk5;lia))) hE (by exact(ae (aa 1) ag)))
  case s4=>exact bu (cR (by exact(dv (aa 0))) (by exact aF))
 ·walk_at "a0";unfold eS;walk_at "R";have hpl:=X.pl;have hll:=X.ll;have hsl:=X.sl;refine⟨r,_,rfl,X.hr,rfl,r,a,l,p,s,rfl,X,ra,λs' rest hrd G' hK X'=>?_,λhn G' hK=>hbad (nA hn) G' hK⟩;have hok:=hone _ _ _ hrd;subst hU;refine gk (qp C G r a l p s one 42 (w0:Int)) ⟨rest.length,s',rest,ycx _,rfl,hK,X',gP.trans ⟨l.take p,(take_append_drop _ _).symm⟩ hok.1,by rw[←length_drop];exact hok.2,nz hrd⟩ ?_;rintro n τ G1 ⟨s1,r1,hn,rfl,hK1,X1,hS1,hl1,hrd1⟩ B hB;have hdp:=hS1.drop;have hx1:=X1.sl;have hs1:=hS1.len;walk_at "R";refine⟨r,_,rfl,X1.hr,rfl,r,a,l,l.length-r1.length,42,rfl,X1.hr,X1.pl,X1.ll,λh2=>?_,λh2=>?_⟩
  ·obtain⟨hp2,hd2⟩:=eJ h2;rw[hdp] at hd2;have hr1:=congrArg List.length hd2;rw[length_cons,length_drop] at hr1;obtain⟨n,rfl⟩:∃n',n=n'+1:=⟨n-1,by (clear hk5 hpl hll hsl hok hl1 hx1 hs1 hp2;lia)⟩;rw[hd2] at hrd1;have hkp:ir G (aX G1 r (.ins C (lA l (l.length-r1.length+1) a))) r a:=hK1.trans (ir.r G1 r a _);dsimp only;rw[ycv rfl];refine⟨λτ1 G3=>∃m1,m1<n+1/\qp C G r a l p s one 42 (w0:Int) m1 τ1 G3,λ_ _ h=>h,?_⟩;subst hB;unfold eS;walk_at "R";refine⟨r,_,rfl,ak,rfl,r,a,l,l.length-r1.length+1,s++s1,rfl,⟨ak,(aV ra.symm).trans X1.ha,hp2,hll,by (clear hk5 hpl hll hsl hok hl1 hs1 hp2 hr1 hn;lia)⟩,ra,λs2 rest2 hr2 G2 hK2 X2=>?_,λhn G2 hK2=>hbad (hrd1.trans (uR hn _ _)) G2 (hkp.trans hK2)⟩;have h3:=X2.sl;have hok2:=hone _ _ _ hr2;have l2:=hok2.2;have l4:=hok2.1.len;simp only[length_drop,length_append] at l2 l4 h3 hx1;refine⟨r,C,_,.ref a,rfl,X2.hr,⟨hc,cs⟩,rfl,⟨_,X2.ha⟩,_,X2.ha,by simp only[length_map,length_append];(clear hk5 hok hl1 hn hok2 l4 h3;lia),n,Nat.lt_succ_self n,s1++s2++[.op 42],rest2,by (clear hk5 hpl hll hsl hok hl1 hs1 hp2 hok2 l2 h3 hx1;lia),rfl,(hkp.trans hK2).trans (ir.aq G2 r a _),⟨(aV ra).trans X2.hr,?_,X2.pl,hll,?_⟩,gP.trans ⟨l.take (l.length-r1.length+1),(take_append_drop _ _).symm⟩ hok2.1,?_,hrd1.trans (uQ hr2 _ _)⟩
   ·rw[ak];simp only[map_append,append_assoc]
    rfl
   ·simp only[length_append,length_singleton]
    (clear hk5 hpl hll hsl hok hl1 hn hok2;lia)
   ·simp only[length_append,length_singleton]
    (clear hk5 hpl hll hsl hok hs1 hp2 hn hok2 l4 h3 hx1;lia)
  ·dsimp only;rw[ycw (by decide)];rw[hdp] at h2;exact⟨_,aC.refl _,hgood s1 r1 (hrd1.trans (nB h2 _ _)) G1 hK1 X1⟩
theorem scRsm:bh ["self","within"] ["self","within"] (al (cO 46 1)):=by walk_at "s"
theorem CG {C NT:Addr} {one:List Nat->Rd} {w0 k:Nat} (hone:pQ one) (hk5:5<=k) (hC:xm K C) (F:cv K "read_sum" "Reading.read_sum" (cO 46 1) f fd) (M1:Mt P w K mg base C "pass_by" ["self","sign"] 2 (rS C) []) (M3:pC P w K mg base C "read_product" ["self","within"] k (fL C NT one w0) []):ju P w K mg base (k+1) f fd ["self","within"] (fL C NT (fc one 43) w0):=by
 have nd:=scRsm.nd;obtain⟨hc,ct,cp,cs⟩:=hC;refine jv (k:=k) F scRsm (λws G q e h=>by obtain⟨_,_,_,_,_,rfl,_⟩:=h;rfl) (λcdv A outer s0 H E ws G q e hr hsp hE=>?_);obtain⟨r,a,l,p,s,rfl,X,ra,hgood,hbad⟩:=hsp;apply aN
 ·refine' ac ?s1 (aM (dB PassesOwn.leaving ?c2 (ac ?s3 (aM ?s4))))
  case s1=>exact bu (dD (aa 0) M3 (ay.mono hr (by (clear hk5;lia))) hE (by exact(ae (aa 1) ag)))
  case c2=>exact(bx (gA (aa 0) M1 (ay.mono hr (by lia)) (ae aF ag)))
  case s3=>exact bu (dD (aa 0) M3 (ay.mono hr (by (clear hk5;lia))) hE (by exact(ae (aa 1) ag)))
  case s4=>exact bu (cR (by exact(dv (aa 0))) (by exact aF))
 ·walk_at "a0";unfold eS;walk_at "R";have hpl:=X.pl;have hll:=X.ll;have hsl:=X.sl;refine⟨r,_,rfl,X.hr,rfl,r,a,l,p,s,rfl,X,ra,λs' rest hrd G' hK X'=>?_,λhn G' hK=>hbad (nA hn) G' hK⟩;have hok:=hone _ _ _ hrd;subst hU;refine gk (qp C G r a l p s one 43 (w0:Int)) ⟨rest.length,s',rest,ycx _,rfl,hK,X',gP.trans ⟨l.take p,(take_append_drop _ _).symm⟩ hok.1,by rw[←length_drop];exact hok.2,nz hrd⟩ ?_;rintro n τ G1 ⟨s1,r1,hn,rfl,hK1,X1,hS1,hl1,hrd1⟩ B hB;have hdp:=hS1.drop;have hx1:=X1.sl;have hs1:=hS1.len;walk_at "R";refine⟨r,_,rfl,X1.hr,rfl,r,a,l,l.length-r1.length,43,rfl,X1.hr,X1.pl,X1.ll,λh2=>?_,λh2=>?_⟩
  ·obtain⟨hp2,hd2⟩:=eJ h2;rw[hdp] at hd2;have hr1:=congrArg List.length hd2;rw[length_cons,length_drop] at hr1;obtain⟨n,rfl⟩:∃n',n=n'+1:=⟨n-1,by (clear hk5 hpl hll hsl hok hl1 hx1 hs1 hp2;lia)⟩;rw[hd2] at hrd1;have hkp:ir G (aX G1 r (.ins C (lA l (l.length-r1.length+1) a))) r a:=hK1.trans (ir.r G1 r a _);dsimp only;rw[ycv rfl];refine⟨λτ1 G3=>∃m1,m1<n+1/\qp C G r a l p s one 43 (w0:Int) m1 τ1 G3,λ_ _ h=>h,?_⟩;subst hB;unfold eS;walk_at "R";refine⟨r,_,rfl,ak,rfl,r,a,l,l.length-r1.length+1,s++s1,rfl,⟨ak,(aV ra.symm).trans X1.ha,hp2,hll,by (clear hk5 hpl hll hsl hok hl1 hs1 hp2 hr1 hn;lia)⟩,ra,λs2 rest2 hr2 G2 hK2 X2=>?_,λhn G2 hK2=>hbad (hrd1.trans (uR hn _ _)) G2 (hkp.trans hK2)⟩;have h3:=X2.sl;have hok2:=hone _ _ _ hr2;have l2:=hok2.2;have l4:=hok2.1.len;simp only[length_drop,length_append] at l2 l4 h3 hx1;refine⟨r,C,_,.ref a,rfl,X2.hr,⟨hc,cs⟩,rfl,⟨_,X2.ha⟩,_,X2.ha,by simp only[length_map,length_append];(clear hk5 hok hl1 hn hok2 l4 h3;lia),n,Nat.lt_succ_self n,s1++s2++[.op 43],rest2,by (clear hk5 hpl hll hsl hok hl1 hs1 hp2 hok2 l2 h3 hx1;lia),rfl,(hkp.trans hK2).trans (ir.aq G2 r a _),⟨(aV ra).trans X2.hr,?_,X2.pl,hll,?_⟩,gP.trans ⟨l.take (l.length-r1.length+1),(take_append_drop _ _).symm⟩ hok2.1,?_,hrd1.trans (uQ hr2 _ _)⟩
   ·rw[ak];simp only[map_append,append_assoc]
    rfl
   ·simp only[length_append,length_singleton]
    (clear hk5 hpl hll hsl hok hl1 hn hok2;lia)
   ·simp only[length_append,length_singleton]
    (clear hk5 hpl hll hsl hok hs1 hp2 hn hok2 l4 h3 hx1;lia)
  ·dsimp only;rw[ycw (by decide)];rw[hdp] at h2;exact⟨_,aC.refl _,hgood s1 r1 (hrd1.trans (nB h2 _ _)) G1 hK1 X1⟩
noncomputable def CH (C:Addr):bJ:=λws G q _=>∃(r:Addr) (l:List Nat),ws=[.ref r,.str (bq l)]/\G r=some (.ins C [])/\l.length<=2000/\∀(a:Addr) (G':Gp),G a=none->r≠a->(∀x g,x≠r->G x=some g->G' x=some g)->Dl C G' r a l 0 []->q .non G'
theorem scRi:bh ["self","text"] ["self","text"] (al (cO 46 0)):=by walk_at "s"
theorem EX {C:Addr} (hC:xm K C) (F:cv K "__init__" "Reading.__init__" (cO 46 0) f fd):cB P w K mg base 1 f fd ["self","text"] (CH C):=by
 have nd:=scRi.nd;obtain⟨hc,ct,cp,cs⟩:=hC;refine zg F scRi (λws G q e h=>by obtain⟨_,_,rfl,_⟩:=h;rfl) (λcdv A outer s H E hr=>?_);apply aN
 ·exact(ac (i7 (aa 0) (aa 1)) (ac (i7 (aa 0) ah) (ac (i7 (aa 0) (bA ag)) af)))
 ·rintro ws G q e ⟨r,l,rfl,hr,hl,hq⟩;walk_at "a0";refine⟨r,C,[],rfl,hr,⟨hc,ct⟩,by simp,?_⟩;walk_at "a";refine⟨r,C,_,rfl,ak,⟨hc,cp⟩,by simp only[length_cons,length_nil];decide,?_⟩;subst hU;walk_at "R";rw[ycw (show ¬Str.ofString "text"=Str.ofString "place" by decide)];intro a ha;have ra:r≠a:=λz=>by rw[←z,ak] at ha;cases ha
  have ha':G a=none:=by rw[aV ra.symm,aV ra.symm] at ha;exact ha
  refine⟨r,C,_,rfl,by rw[aV ra];exact ak,⟨hc,cs⟩,by simp only[length_cons,length_nil];decide,aC.done (hq a _ ha' ra (λx g hx hg=>?_) ⟨?_,?_,zero_le _,hl,?_⟩)⟩
  ·have xa:x≠a:=λz=>by rw[z,ha'] at hg;cases hg
   rw[aV hx,aV xa,aV hx,aV hx];exact hg
  ·rw[ak]
   rfl
  ·rw[aV ra.symm];exact ak
  ·simp only[length_nil];lia
theorem Md.rmt {C:Addr} {m qual:Str} {sp:bJ} (D:Md K C m qual st ps) (c:lG K C) (h:∀(f:Addr) (fd:FuncData),cv K m qual st f fd->ju P w K mg base k f fd ps sp):pC P w K mg base C m ps k sp []:=by
 obtain⟨f,fd,hm,F,b⟩:=D;exact⟨⟨f,fd,[],[],hm,h f fd F,b,.nil,λ_=> .nil⟩,c⟩
structure yi (K:yav) (mg:yew) (C NT:Addr):Prop where
 cl:xm K C
 m0:Dh K C "Reading.__init__" (cO 46 0) ["self","text"]
 m1:Md K C "read_sum" "Reading.read_sum" (cO 46 1) ["self","within"]
 m2:Md K C "read_product" "Reading.read_product" (cO 46 2) ["self","within"]
 m3:Md K C "read_power" "Reading.read_power" (cO 46 3) ["self","within"]
 m4:Md K C "read_thing" "Reading.read_thing" (cO 46 4) ["self","within"]
 m5:Md K C "word" "Reading.word" (cO 46 5) ["self"]
 m6:Md K C "pass_by" "Reading.pass_by" (cO 46 6) ["self","sign"]
 m7:Md K C "sign" "Reading.sign" (cO 46 7) ["self"]
 mr:mg "Reading"=some (.ref C)
 mb:∃t,mg "MOST_BRACKETS"=some (.int 20 t)
 mC:mg "NoText"=some (.ref NT)
 xC:∃bC,XC K NT bC
theorem rT (d:Nat):fc (cJ (bw d)) 43=dc d:=by rw[eF];rfl
section
variable {C NT:Addr} (D:yi K mg C NT) (F1:Fx P w K mg base "is_figure" ["sign"] 1 oU) (F2:Fx P w K mg base "is_letter" ["sign"] 1 oV) (R1:Rx P w K mg base "thing_of" ["word"] 5 (uL NT) [])
theorem Ah (D:yi K mg C NT):Mt P w K mg base C "sign" ["self"] 1 (uM C) []:=D.m7.mt D.cl.c λ_ _ F=>ES D.cl F
theorem xq (D:yi K mg C NT):Mt P w K mg base C "pass_by" ["self","sign"] 2 (rS C) []:=D.m6.mt D.cl.c λ_ _ F=>ET D.cl F (Ah D)
theorem EY (D:yi K mg C NT) (F1:Fx P w K mg base "is_figure" ["sign"] 1 oU) (F2:Fx P w K mg base "is_letter" ["sign"] 1 oV):Mt P w K mg base C "word" ["self"] 2 (Ag C) []:=D.m5.mt D.cl.c λ_ _ F=>EU D.cl F (Ah D) F1 F2
theorem yj (D:yi K mg C NT) (F1:Fx P w K mg base "is_figure" ["sign"] 1 oU) (F2:Fx P w K mg base "is_letter" ["sign"] 1 oV) (R1:Rx P w K mg base "thing_of" ["word"] 5 (uL NT) []) {d k:Nat} (hd:d<=20) (hk5:5<=k) {spX:bJ} (M:pC P w K mg base C "read_sum" ["self","within"] k spX []) (hX:1<=d->spX=fL C NT (bw d) (21-d)):pC P w K mg base C "read_sum" ["self","within"] (k+4) (fL C NT (dc d) (20-d)) []:=by
 obtain⟨t,mb⟩:=D.mb;obtain⟨bC,xC⟩:=D.xC;have A1:pC P w K mg base C "read_thing" ["self","within"] (k+1) (fL C NT (aZ (bw d)) (20-d)) []:=Md.rmt D.m4 D.cl.c λ_ _ F=>EV hd hk5 D.cl F (xq D) (EY D F1 F2) M hX R1 mb D.mC xC;have A2:pC P w K mg base C "read_power" ["self","within"] (k+2) (fL C NT (bU (bw d)) (20-d)) []:=Md.rmt D.m3 D.cl.c λ_ _ F=>EW (Nat.le_succ_of_le hk5) D.cl F (xq D) A1;have A3:pC P w K mg base C "read_product" ["self","within"] (k+3) (fL C NT (cJ (bw d)) (20-d)) []:=Md.rmt D.m2 D.cl.c λ_ _ F=>CF (iC (cV d)) (by (clear hd;lia)) D.cl F (xq D) A2;have A4:pC P w K mg base C "read_sum" ["self","within"] (k+4) (fL C NT (fc (cJ (bw d)) 43) (20-d)) []:=Md.rmt D.m1 D.cl.c λ_ _ F=>CG (gE (cV d)) (by (clear hd;lia)) D.cl F (xq D) A3;rw[rT] at A4;exact A4
theorem uS (D:yi K mg C NT) (F1:Fx P w K mg base "is_figure" ["sign"] 1 oU) (F2:Fx P w K mg base "is_letter" ["sign"] 1 oV) (R1:Rx P w K mg base "thing_of" ["word"] 5 (uL NT) []):∀d,d<=20->pC P w K mg base C "read_sum" ["self","within"] (4*d+9) (fL C NT (dc d) (20-d)) []
 | 0,hd=>yj D F1 F2 R1 hd (k:=5) (ycx _) (spX:=λ_ _ _ _=>False) (Md.rmt D.m1 D.cl.c λ_ _ _=>ju.none λ_ _ _ _ h=>h) λh=>absurd h (by decide)
 | d+1,hd=>yj D F1 F2 R1 hd (k:=4*d+9) (by walk_at "om") (uS D F1 F2 R1 d (by walk_at "om")) λ_=>by rw[show 21- (d+1)=20-d by walk_at "om"];rfl
end
noncomputable def nG (l:List Nat):Option (List cA):=if l.length<=2000 then d0 l else none
noncomputable def GN (NT:Addr) (l:List Nat) (G:Gp) (q:WK) (e:WX):Prop:=(∀s,nG l=some s->∀(a:Addr) (G':Gp),aC G G'->G' a=some (.lst (s.map dE))->s.length<=8000->q (.ref a) G')/\(nG l=none->∀G',aC G G'->e (.ref NT) G')
noncomputable def u3 (G:Gp) (x:W):Prop:=∃t,pv G x=some t/\fK t "str"=false
noncomputable def CI (NT:Addr):bJ:=λws G q e=>∃x:W,ws=[x]/\((∃l:List Nat,x=.str (bq l)/\l.length<=100000/\GN NT l G q e)∨(u3 G x/\∀G',aC G G'->e (.ref NT) G'))
theorem scSo:bh ["text","reading"] ["text"] (al (aA 47)):=by walk_at "s"
theorem EZ {C NT:Addr} {t1:Tok} (D:yi K mg C NT) (F:cv K "steps_of" "steps_of" (aA 47) f fd) (N1:D6 P w K mg base "Reading" C ["self","text"] 1 (CH C)) (M1:Mt P w K mg base C "sign" ["self"] 1 (uM C) []) (M3:pC P w K mg base C "read_sum" ["self","within"] 89 (fL C NT (dc 20) 0) []) (hm:mg "MOST_SIGNS"=some (.int 2000 t1)) (ml:mg "len"=none) (mi:mg "isinstance"=none) (ms:mg "str"=none):ju P w K mg base 90 f fd ["text"] (CI NT):=by
 have nd:=scSo.nd;obtain⟨bC,xC⟩:=D.xC;obtain⟨hc,ct,cp,cs⟩:=D.cl;have mC:=D.mC;refine jv (k:=89) F scSo (λws G q e h=>by obtain⟨_,rfl,_⟩:=h;rfl) (λcdv A outer s0 H E ws G q e hr hsp hE=>?_);obtain⟨x,rfl,hsp⟩:=hsp;apply aN
 ·refine' ac (aL ?c1 (aM (dC mC xC (λH1 G1=>hE _ H1 G1) rfl)) af) (ac ?s2 (ac ?s3 (ac (aL ?c4 (aM (dC mC xC (λH1 G1=>hE _ H1 G1) rfl)) af) (aM ?s5))))
  case c1=>exact(cQ (dA (dt (bx (fV (T:="str") (x:="str") (by first | simp[jt] | assumption | decide+kernel) PyProof.Rows.boot_str ms rfl mi rfl (aa 0)))) (cP (au gv (aR bB rfl ml PySem.boot_len (ae (aa 0) ag)) (dS rfl hm)))))
  case s2=>exact(ao 1 nd rfl (.inl rfl) (zE N1 (ay.mono hr (by lia)) rfl (ae (aa 0) ag)))
  case s3=>exact bu (dD (aa 1) M3 (ay.mono hr (by (clear hsp;lia))) hE (by exact(ae ah ag)))
  case c4=>exact(au (dM hr) (fy (aa 1) M1 (ay.mono hr (by lia))) aF)
  case s5=>exact(aq (dv (aa 1)))
 ·rcases hsp with⟨l,rfl,hl,hgood,hbad⟩ | ⟨⟨t,ht,hs⟩,hbad⟩
  rotate_left
  ·walk_at "a0";rw[ht];dsimp only;rw[ycv hs];exact hbad G (aC.refl _)
  walk_at "a0";refine⟨by rw[aQ];assumption,?_⟩;rw[aQ];refine cg (λh1=>hbad (by unfold nG;rw[ycw (by walk_at "om")]) G (aC.refl _)) λh1=>?_;have h1:l.length<=2000:=by walk_at "om"
  have hT:nG l=d0 l:=ycv h1;rw[hT] at hgood hbad;walk_at "a";intro r hr0;refine⟨r,l,rfl,ak,h1,λa G1 ha ra hk X=>⟨rfl,?_⟩⟩;have ga:G a=none:=by rw[aV ra.symm] at ha;exact ha
  have ne:∀{x g},G x=some g->x≠r/\x≠a:=λhx=>⟨λz=>(by rw[z,hr0] at hx;cases hx),λz=>(by rw[z,ga] at hx;cases hx)⟩;have le1:∀{G2},ir G1 G2 r a->aC G G2:=λhK x g hx=>hK x g (ne hx).1 (ne hx).2 (hk x g (ne hx).1 ((aV (ne hx).1).trans hx));walk_at "a";unfold eS;walk_at "R";refine⟨r,_,rfl,X.hr,rfl,r,a,l,0,[],rfl,X,ra,λs' rest hrd G2 hK X2=>?_,λhn G2 hK=>hbad ?_ G2 (le1 hK)⟩
  ·have hrd:dc 20 l=some (s',rest):=hrd;have hdp:l.drop (l.length-rest.length)=rest:=by
    have:=cV 21 l s' rest hrd;exact this.1.drop
   walk_at "a";refine⟨r,_,rfl,X2.hr,rfl,r,a,l,l.length-rest.length,rfl,X2.hr,X2.pl,X2.ll,?_⟩;walk_at "R";refine⟨rfl,rfl,zero_le _,?_⟩;rw[show Str.ofString ""=bq [] from rfl,d9,hdp];refine cg (λh=>?_) λh=>?_
   ·refine hbad ?_ G2 (le1 hK);unfold d0;rw[hrd];cases rest with
    | nil=>cases h
    | cons x rest=>rfl
   ·have hz:rest=[]:=by
     cases rest with
     | nil=>rfl
     | cons x rest=>exact absurd rfl h
    subst hz;subst hU;walk_at "R";have h3:=X2.sl;simp only[nil_append,length_nil] at h3;refine⟨r,C,_,.ref a,rfl,X2.hr,⟨hc,cs⟩,rfl,aC.done (hgood s' ?_ a G2 (le1 hK) X2.ha (by (clear h1;lia)))⟩;unfold d0;rw[hrd]
  ·have hn:dc 20 l=none:=hn;unfold d0;rw[hn]
noncomputable def xt (kvs:List (bE×W)) (nm:List Nat->Option O):Prop:=∀l,fE kvs (.inr (bq l))=(nm l).map λb=> .tup (am b)
noncomputable def Ai (NN:Addr):bJ:=λws G q e=>∃(a d:Addr) (s:List cA) (kvs:List (bE×W)) (nm:List Nat->Option O),ws=[.ref a,.ref d]/\G a=some (.lst (s.map dE))/\GD G d kvs/\xt kvs nm/\s.length<=8000/\(∀x,x∈s->mK x)/\
 (∀s',iD nm s=some s'->∀(b:Addr) (G':Gp),aC G G'->G' b=some (.lst (s'.map dE))->q (.ref b) G')/\(iD nm s=none->∀G',aC G G'->e (.ref NN) G')
theorem GD.le {G G':Gp} {kvs:List (bE×W)} (h:GD G a kvs) (l:aC G G'):GD G' a kvs:=by
 rcases h with h | ⟨o,us,h⟩
 ·exact .inl (l _ _ h)
 ·exact .inr ⟨o,us,l _ _ h⟩
theorem lB {l:List Nat} (h:dZ l=true):∀x,l=[x]->x≠43/\x≠42/\x≠94:=λx e=>by
 subst e;unfold dZ at h;simp only[Bool.and_eq_true,all_cons] at h;have:97<=x/\x<=122:=of_decide_eq_true h.2.1
 (clear h;lia)
noncomputable def joinG:List Str:=["+","*","^"]
theorem nC (l:List Nat):(joinG.any λt=>t==bq l)=decide (l=[43]∨l=[42]∨l=[94]):=by
 have e:joinG=[bq [43],bq [42],bq [94]]:=rfl;rw[e,Bool.eq_iff_iff];simp only[any_cons,List.any_nil,Bool.or_eq_true,beq_iff_eq,qo,decide_eq_true_eq,Bool.false_eq_true,or_false];constructor
 ·rintro(h | h | h)
  ·exact .inl h.symm
  ·exact .inr (.inl h.symm)
  ·exact .inr (.inr h.symm)
 ·rintro(h | h | h)
  ·exact .inl h.symm
  ·exact .inr (.inl h.symm)
  ·exact .inr (.inr h.symm)
theorem scLu:bh ["steps","names","found","step"] ["steps","names"] (al (aA 48)):=by walk_at "s"
theorem E1 {NN aj:Addr} {bN:yez} (F:cv K "looked_up" "looked_up" (aA 48) f fd) (mj:mg "JOINING"=some (.ref aj)) (hj:El K aj joinG) (mC:mg "NoName"=some (.ref NN)) (xC:XC K NN bN) (mi:mg "isinstance"=none) (mt:mg "tuple"=none):ju P w K mg base 2 f fd ["steps","names"] (Ai NN):=by
 have nd:=scLu.nd;refine jv (k:=1) F scLu (λws G q e h=>by obtain⟨_,_,_,_,_,rfl,_⟩:=h;rfl) (λcdv A outer s0 H E ws G q e hr hsp hE=>?_);obtain⟨a,d,s,kvs,nm,rfl,ha,hd,hnm,hsl,hok,hgood,hbad⟩:=hsp;apply aN
 ·refine' ac ?s1 (ac (dW PassesOwn.leaving rfl ?it ?tg (aM (aL (cQ (dA ?c1 (cP (au (Ca hj) ?x1 (v7 ?g1 mj) rfl)))) ?b1 (aM (aL ?c2 ?b2 (aM (dC mC xC (λH1 G1=>hE _ H1 G1) rfl))))))) (aM ?s3))
  case s1=>exact(ao 2 nd rfl (.inl rfl) (bA ag))
  case it=>exact(bS (aa 0))
  case tg=>exact(cf 3 nd rfl (.inl rfl))
  case c1=>exact(bx (fV (T:="tuple") (x:="tuple") (by first | simp[jt] | assumption | decide+kernel) eR mt rfl mi rfl (aa 3)))
  case x1=>exact(aa 3)
  case g1=>rfl
  case b1=>exact(ac (bu (cR (aa 2) (aa 3))) af)
  case c2=>exact(au (BY hr) (aa 3) (aa 1) rfl)
  case b2=>exact(ac (bu (cR (aa 2) (aG aI (aa 1) (aa 3)))) af)
  case s3=>exact(aq (aa 2))
 ·walk_at "a0";intro p hp;have ap:a≠p:=λz=>by rw[z,hp] at ha;cases ha
  walk_at "a";refine⟨_,(aV ap).trans ha,?_⟩;refine bZ (λws τ G'=>∃(s1 acc:List cA) (t3:Option W),ws=s1.map dE/\τ=[some (.ref a),some (.ref d),some (.ref p),t3]/\aC G G'/\G' p=some (.lst (acc.map dE))/\acc.length+s1.length<=8000/\(∀x,x∈s1->mK x)/\iD nm s=(iD nm s1).map (acc++ ·)) ?_ ?_ _ _ _ ⟨s,[],_,rfl,rfl,aC.new hp,ak,by simpa using hsl,hok,by cases iD nm s<;> rfl⟩
  ·rintro τ G' ⟨s1,acc,t3,hw,rfl,hle,hG,hl,_,hlk⟩;cases s1 with
   | cons x s1=>cases hw
   | nil=>
     refine⟨hle _ _ ha,?_⟩;subst hU;walk_at "R";refine aC.done (hgood acc ?_ p G' hle hG);rw[hlk];show some (acc++[])=_;rw[append_nil]
  ·rintro w1 ws τ G' kk ⟨s1,acc,t3,hw,rfl,hle,hG,hl,hok1,hlk⟩ hk;cases s1 with
   | nil=>cases hw
   | cons x s1=>
     cases hw;refine⟨hle _ _ ha,?_⟩;rw[length_cons] at hl;have hx:=hok1 x yby;have next:∀(y:cA) (v:W),v=dE y->iD nm s=(iD nm s1).map ((acc++[y])++ ·)->(∃xs,G' p=some (GO.lst xs))/\∃ys,G' p=some (.lst ys)/\ys.length<=99999/\kk [some (.ref a),some (.ref d),some (.ref p),some (dE x)] (aX G' p (.lst (ys++[v]))):=λy v hv hl2=>by
      subst hv;refine⟨⟨_,hG⟩,_,hG,by rw[length_map];(clear hsl;lia),hk _ _ ⟨s1,acc++[y],_,rfl,rfl,aC.put hle hp,?_,?_,λz hz=>hok1 z (ybx _ hz),hl2⟩⟩
      ·rw[ak,map_append]
       rfl
      ·rw[length_append,length_singleton]
       (clear hsl;lia)
     have lk1:∀{y:cA},iD nm (x::s1)=(iD nm s1).map (y:: ·)->iD nm s=(iD nm s1).map ((acc++[y])++ ·):=λh=>by
      rw[hlk,h,Option.map_map]
      congr 1
      funext z
      simp
     cases x with
     | num b=>
       unfold dE;walk_at "R";exact next (.num b) _ rfl (lk1 rfl)
     | op y=>
       unfold dE;walk_at "R";simp only[pv];rw[ycw (by decide)];refine⟨_,rfl,rfl,?_⟩;dsimp only;rw[nC,ycv (ydz (by rcases hx with h | h | h<;> rw[h]<;> simp))];exact next (.op y) _ rfl (lk1 rfl)
     | nam l=>
       unfold dE;walk_at "R";simp only[pv];rw[ycw (by decide)];refine⟨_,rfl,rfl,?_⟩;dsimp only;rw[nC,ycw (λh=>by
        rcases of_decide_eq_true h with h | h | h
        ·exact(lB hx _ h).1 rfl
        ·exact(lB hx _ h).2.1 rfl
        ·exact(lB hx _ h).2.2 rfl)]
       refine⟨_,.dic (GD.le hd hle),?_⟩;rw[hnm];have lk2:iD nm (.nam l::s1)=match nm l with | some b=>(iD nm s1).map (.num b:: ·) | none=>none:=rfl
       cases eN:nm l with
       | none=>
         rw[eN] at lk2;rw[lk2] at hlk;rw[ycw (by simp)];exact hbad hlk G' hle
       | some b=>
         rw[eN] at lk2;rw[ycv (show(Option.map (λb=>W.tup (am b)) (some b)).isSome=true from rfl)];obtain⟨h1,h2⟩:=next (.num b) (.tup (am b)) rfl (lk1 lk2);exact⟨h1,kvs,.tup (am b),GD.le hd hle,by rw[hnm,eN];rfl,h2⟩
noncomputable def CJ (TG:Addr):bJ:=λws G q e=>∃(x:Nat) (a b:O),ws=[.tup (am a),.str (bq [x]),.tup (am b)]/\rQ a/\rQ b/\(x=43∨x=42∨x=94)/\(∀r,rQ r->∀G',aC G G'->q (.tup (am r)) G')/\∀G',aC G G'->e (.ref TG) G'
theorem scJn:bh ["first","sign","second","found"] ["first","sign","second"] (al (aA 50)):=by walk_at "s"
theorem E2 {TG:Addr} {bT:yez} (F:cv K "joined" "joined" (aA 50) f fd) (F1:Fx P w K mg base "plus" ["a","b"] 3 Aa) (F2:Fx P w K mg base "times" ["a","b"] 4 rO) (R3:Rx P w K mg base "power" ["a","b"] 6 (Cn TG) []) (F4:Fx P w K mg base "is_too_great_readings" ["a"] 62 Cr) (mC:mg "TooGreat"=some (.ref TG)) (xC:XC K TG bT):ju P w K mg base 63 f fd ["first","sign","second"] (CJ TG):=by
 have nd:=scJn.nd;refine jv (k:=62) F scJn (λws G q e h=>by obtain⟨_,_,_,rfl,_⟩:=h;rfl) (λcdv A outer s0 H E ws G q e hr hsp hE=>?_);obtain⟨x,a,b,rfl,fa,fb,hx,hgood,hbad⟩:=hsp;apply aN
 ·refine' ac (aL ?c1 ?b1 (aM (aL ?c2 ?b2 (aM (ao 3 nd rfl (by first | exact Or.inl rfl | exact Or.inr rfl) (eE R3 (ay.mono hr (by (clear hx;lia))) hE rfl ?a3)))))) (ac (aL ?c4 (aM (dC mC xC (λH1 G1=>hE _ H1 G1) rfl)) af) (aM ?s5))
  case c1=>exact(au (ba hr) (aa 1) aF)
  case b1=>exact(ac (ao 3 nd rfl (.inl rfl) (aD F1 (ay.mono hr (by lia)) rfl (ae (aa 0) (ae (aa 2) ag)))) af)
  case c2=>exact(au (ba hr) (aa 1) aF)
  case b2=>exact(ac (ao 3 nd rfl (.inl rfl) (aD F2 (ay.mono hr (by lia)) rfl (ae (aa 0) (ae (aa 2) ag)))) af)
  case a3=>exact(ae (aa 0) (ae (aa 2) ag))
  case c4=>exact(bx (aD F4 (ay.mono hr (by lia)) rfl (ae (aa 3) ag)))
  case s5=>exact(aq (aa 3))
 ·have la:=O.len_le_size a;have lb:=O.len_le_size b;have wa:=O.hw_le_size a;have wb:=O.hw_le_size b;obtain⟨na,a1,a2,a3⟩:=id fa;obtain⟨nb,b1,b2,b3⟩:=id fb;refine aB λU hU=>?_;have go:∀r,Ae r->U { nx:=λx G1=>∃G0,aC G0 G1/\q W.non G0,rt:=λw G1=>∃G0,aC G0 G1/\q w G0 } [some (.tup (am a)),some (.str (bq [x])),some (.tup (am b)),some (.tup (am r))] G:=λr hr=>by
   obtain⟨r1,r2,r3⟩:=hr;walk_at "a";refine⟨r,rfl,by walk_at "om",by assumption,λG' hG=>?_⟩;walk_at "R";refine cg (λh=>hbad G' hG) λh=>?_;subst hU;walk_at "R";have h1:¬400<r.size:=λz=>h (.inl z);have h2:¬10^300<=O.mx r:=λz=>h (.inr (.inl z));have h3:¬40<r.dp:=λz=>h (.inr (.inr z));exact aC.done (hgood r ⟨r1,by (clear hx la lb wa wb a1 a2 a3 b1 b2 b3 r2 r3 h2 h3;lia),Int.not_le.mp h2,by (clear hx la lb wa wb a1 a2 a3 b1 b2 b3 r2 h1 h2;lia)⟩ G' hG)
  walk_at "R";refine⟨rfl,rfl,zero_le _,?_⟩;refine cg (λh=>?_) λh=>?_
  ·have hd:=O.dp_plus a b;have hw:=O.hw_plus a b;refine⟨a,b,rfl,na,by walk_at "om",by walk_at "om",by (clear hx lb wa wb a2 a3 b1 b2 b3 hd hw;lia),by (clear hx la wa wb a1 a2 a3 b2 b3 hd hw;lia),go _ ⟨O.NF.plus na nb,by (clear hx la lb a2 a3 b2 b3 hd;lia),by (clear hx la lb wa wb a1 a2 b1 b2 hw;lia)⟩⟩
  refine⟨rfl,rfl,zero_le _,?_⟩;refine cg (λh=>?_) λh2=>?_
  ·have hd:=O.dp_times a b;have hw:=O.hw_times a b;refine⟨a,b,rfl,na,nb,by walk_at "om",by walk_at "om",by (clear hx la lb wb a2 a3 b1 b2 b3 hd hw;lia),by (clear hx la lb wa a1 a2 a3 b2 b3 hd hw;lia),Ad a2 b2,go _ ⟨O.NF.times na nb,by (clear hx la lb a2 a3 b2 b3 hd;lia),by (clear hx la lb wa wb a1 a2 b1 b2 hw;lia)⟩⟩
  ·exact⟨a,b,rfl,fa,fb,λr hr=>go r hr,λG' hG=>hbad G' hG⟩
noncomputable def E3:cA->Prop
 | .num a=>rQ a
 | .nam _=>False
 | .op x=>x=43∨x=42∨x=94
noncomputable def Aj (TG:Addr):bJ:=λws G q e=>∃(a:Addr) (s:List cA),ws=[.ref a]/\G a=some (.lst (s.map dE))/\s.length<=8000/\(∀x,x∈s->E3 x)/\lH s 0=some 1/\(∀r,rQ r->∀G',aC G G'->q (.tup (am r)) G')/\∀G',aC G G'->e (.ref TG) G'
theorem scRk:bh ["steps","left","step","second","first"] ["steps"] (al (aA 49)):=by walk_at "s"
theorem E4 {TG:Addr} (F:cv K "reckoned" "reckoned" (aA 49) f fd) (R1:Rx P w K mg base "joined" ["first","sign","second"] 63 (CJ TG) []) (mi:mg "isinstance"=none) (mt:mg "tuple"=none):ju P w K mg base 64 f fd ["steps"] (Aj TG):=by
 have nd:=scRk.nd;refine jv (k:=63) F scRk (λws G q e h=>by obtain⟨_,_,rfl,_⟩:=h;rfl) (λcdv A outer s0 H E ws G q e hr hsp hE=>?_);obtain⟨a,s,rfl,ha,hs,hok,hrun,hgood,hbad⟩:=hsp;apply aN
 ·refine' ac ?s1 (ac (dW PassesOwn.leaving rfl ?it ?tg (aM (aL ?c1 ?b1 (ac ?e1 (ac ?e2 (aM ?e3)))))) (aM ?s3))
  case s1=>exact(ao 1 nd rfl (.inl rfl) (bA ag))
  case it=>exact(bS (aa 0))
  case tg=>exact(cf 2 nd rfl (.inl rfl))
  case c1=>exact(bx (fV (T:="tuple") (x:="tuple") (by first | simp[jt] | assumption | decide+kernel) eR mt rfl mi rfl (aa 2)))
  case b1=>exact(ac (bu (cR (aa 1) (aa 2))) af)
  case e1=>exact(ao 3 nd rfl (.inl rfl) (ow (aa 1)))
  case e2=>exact(ao 4 nd rfl (.inl rfl) (ow (aa 1)))
  case e3=>exact bu (cR (by exact(aa 1)) (eE R1 (ay.mono hr (by (clear hs;lia))) hE rfl (by exact(ae (aa 4) (ae (aa 2) (ae (aa 3) ag))))))
  case s3=>exact(aq (aG aI (aa 1) ah))
 ·skip
  walk_at "a0";intro p hp;have ap:a≠p:=λz=>by rw[z,hp] at ha;cases ha
  walk_at "a";refine⟨_,(aV ap).trans ha,?_⟩;refine bZ (λws τ G'=>∃(s1:List cA) (st:List O) (t2 t3 t4:Option W),ws=s1.map dE/\τ=[some (.ref a),some (.ref p),t2,t3,t4]/\aC G G'/\G' p=some (.lst (cu st.reverse))/\st.length+s1.length<=8000/\(∀x,x∈s1->E3 x)/\(∀o,o∈st->rQ o)/\lH s1 st.length=some 1) ?_ ?_ _ _ _ ⟨s,[],_,_,_,rfl,rfl,aC.new hp,ak,by simpa using hs,hok,(λo h=>by cases h),hrun⟩
  ·rintro τ G' ⟨s1,st,t2,t3,t4,hw,rfl,hle,hG,hl,_,hst,hr1⟩;cases s1 with
   | cons x s1=>cases hw
   | nil=>
     refine⟨hle _ _ ha,?_⟩;obtain⟨r,rfl⟩:∃r,st=[r]:=by
      have hst:st.length=1:=Option.some.inj hr1
      match st,hst with
      | [r],_=>exact⟨r,rfl⟩
     subst hU;walk_at "R";exact⟨_,_,hG,ce (j:=0) rfl,aC.done (hgood r (hst r yby) G' hle)⟩
  ·rintro w1 ws τ G' kk ⟨s1,st,t2,t3,t4,hw,rfl,hle,hG,hl,hok1,hst,hr1⟩ hk;cases s1 with
   | nil=>cases hw
   | cons x s1=>
     cases hw;refine⟨hle _ _ ha,?_⟩;rw[length_cons] at hl;have hx:=hok1 x yby;have hok2:∀z,z∈s1->E3 z:=λz hz=>hok1 z (ybx _ hz);cases x with
     | nam l=>exact absurd hx id
     | num b=>
       unfold dE;walk_at "R";refine⟨⟨_,hG⟩,_,hG,by simp only[cu,length_map,length_reverse];(clear hs;lia),hk _ _ ⟨s1,b::st,_,_,_,rfl,rfl,aC.put hle hp,?_,?_,hok2,λo ho=>?_,hr1⟩⟩
       ·rw[ak,reverse_cons,eI]
       ·rw[length_cons]
        (clear hs;lia)
       ·rcases mem_cons.mp ho with rfl | ho
        ·exact hx
        ·exact hst o ho
     | op y=>
       match st,hst,hl,hG,hr1 with
       | [],_,_,_,hr1=>cases hr1
       | [_],_,_,_,hr1=>cases hr1
       | b::a'::st,hst,hl,hG,hr1=>
         unfold dE;walk_at "R";simp only[pv];rw[ycw (by decide)];have gb:=hst b yby;have ga:=hst a' (ybx _ yby);refine⟨cu (a'::st).reverse,.tup (am b),by rw[hG,reverse_cons,eI],cu st.reverse,.tup (am a'),by rw[ak,reverse_cons,eI],?_⟩;rw[gl];refine⟨⟨_,ak⟩,y,a',b,rfl,ga,gb,hx,λr hfr G3 hG3=>?_,λG3 hG3=>hbad G3 ((aC.put hle hp).trans hG3)⟩;have g3:=hG3 _ _ ak;refine⟨_,g3,by simp only[cu,length_map,length_reverse];simp only[length_cons] at hl;(clear hs;lia),hk _ _ ⟨s1,r::st,_,_,_,rfl,rfl,aC.put ((aC.put hle hp).trans hG3) hp,?_,?_,hok2,λo ho=>?_,hr1⟩⟩
         ·rw[ak,reverse_cons,eI]
         ·simp only[length_cons] at hl ⊢
          (clear hs;lia)
         ·rcases mem_cons.mp ho with rfl | ho
          ·exact hfr
          ·exact hst o (ybx _ (ybx _ ho))
noncomputable def u4 (G:Gp) (v:W) (nm:List Nat->Option O):Prop:=(∀l b,nm l=some b->rQ b)/\((v=.non/\∀l,nm l=none)∨∃d kvs,v=.ref d/\GD G d kvs/\xt kvs nm)
structure GP (NT NN TG:Addr) (l:List Nat) (nm:List Nat->Option O) (G:Gp) (q:WK) (e:WX):Prop where
 bad:nG l=none->∀G',aC G G'->e (.ref NT) G'
 nam:∀s,nG l=some s->(∃m,m∈fo s/\nm m=none)->∀G',aC G G'->e (.ref NN) G'
 num:∀s,nG l=some s->(¬∃m,m∈fo s/\nm m=none)->∀r,rQ r->q (.tup (am r)) G
 tg:∀s,nG l=some s->(¬∃m,m∈fo s/\nm m=none)->∀G',aC G G'->e (.ref TG) G'
noncomputable def CK (NT NN TG:Addr):bJ:=λws G q e=>∃(x v:W) (nm:List Nat->Option O),ws=[x,v]/\u4 G v nm/\((∃l:List Nat,x=.str (bq l)/\l.length<=100000/\GP NT NN TG l nm G q e)∨(u3 G x/\∀G',aC G G'->e (.ref NT) G'))
theorem E5 {a:O} (h:a.NF/\zI a):rQ a:=⟨h.1,h.2.1,Int.lt_of_lt_of_le h.2.2.1 (by decide+kernel),by have:=h.2.2.2;lia⟩
theorem scRe:bh ["text","names"] ["text","names"] (al (aA 55)):=by walk_at "s"
theorem E6 {NT NN TG T:Addr} {ds:yez} (F:fY K "read" "read" (aA 55) f fd T ds) (R1:Rx P w K mg base "steps_of" ["text"] 90 (CI NT) []) (R2:Rx P w K mg base "looked_up" ["steps","names"] 2 (Ai NN) []) (R3:Rx P w K mg base "reckoned" ["steps"] 64 (Aj TG) []):ju P w K mg base 91 f fd ["text","names"] (CK NT NN TG):=by
 have nd:=scRe.nd;refine BD (k:=90) F scRe (λws G q e h=>by obtain⟨_,_,_,rfl,_⟩:=h;rfl) (λcdv A outer s0 H E ws G q e hr hsp hE=>?_);obtain⟨x,v,nm,rfl,⟨hft,hv⟩,hsp⟩:=hsp;apply aN
 ·refine' aM (aq (eE R3 (ay.mono hr (by (clear hsp;lia))) hE rfl (ae (eE R2 (ay.mono hr (by (clear hsp;lia))) hE rfl (ae (eE R1 (ay.mono hr (by (clear hsp;lia))) hE rfl ?a1) (ae ?n2 ag))) ag)))
  case a1=>exact(ae (aa 0) ag)
  case n2=>exact(iT (au pp (aa 1) dr) iG (aa 1))
 ·walk_at "R";rcases hsp with⟨l,rfl,hl,hT⟩ | ⟨hx,hbad⟩
  rotate_left
  ·exact⟨x,rfl,.inr ⟨hx,hbad⟩⟩
  refine⟨_,rfl,.inl ⟨l,rfl,hl,λs hrd a G1 le1 ga hs=>?_,hT.bad⟩⟩;have hrd2:d0 l=some s:=by
   unfold nG at hrd;split at hrd
   ·exact hrd
   ·cases hrd
  have hok:=wg hrd2;have go:∀(d:Addr) (kvs:List (bE×W)) (G2:Gp),aC G G2->G2 a=some (.lst (s.map dE))->GD G2 d kvs->xt kvs nm->Ai NN [.ref a,.ref d] G2 (λx G1=>Aj TG [x] G1 (λw G1=>∃G0,aC G0 G1/\q w G0) e) e:=λd kvs G2 le2 ga2 hd hn=>by
   refine⟨a,d,s,kvs,nm,rfl,ga2,hd,hn,hs,hok,λs' hlk b G3 le3 gb=>?_,λhlk G3 le3=>hT.nam s hrd ((gH nm s).mp hlk) G3 (le2.trans le3)⟩;obtain⟨k1,k2,k3⟩:=kU nm s s' hlk;have hno:¬∃m,m∈fo s/\nm m=none:=λz=>by rw[(gH nm s).mpr z] at hlk;cases hlk
   refine⟨b,s',rfl,gb,by (clear hl;lia),λy hy=>?_,by rw[k1];exact wm hrd2,λr hr G4 le4=>⟨G,(le2.trans le3).trans le4,hT.num s hrd hno r hr⟩,λG4 le4=>hT.tg s hrd hno G4 ((le2.trans le3).trans le4)⟩;rcases k3 y hy with⟨m,b',rfl,hb⟩ | ⟨h1,h2⟩
   ·exact hft m b' hb
   ·have:=hok y h1;cases y with
    | num a=>exact E5 this
    | nam m=>exact absurd rfl (h2 m)
    | op c=>exact this
  walk_at "R";rcases hv with⟨rfl,hn⟩ | ⟨d,kvs,rfl,hd,hn⟩
  ·rw[ycv (by rfl)];intro p hp;exact go p [] _ (le1.trans (aC.new hp)) (aK ga hp) (.inl ak) λl=>by rw[hn];rfl
  ·rw[ycw (show ¬(false ^^ gy (.ref d))=true from λh=>Bool.noConfusion h)];exact go d kvs G1 le1 ga (GD.le hd le1) hn
structure EF (K:yav) (mg:yew) (NT NN TG Hy:Addr):Prop where
 m1:mg "NoText"=some (.ref NT)
 m2:mg "NoName"=some (.ref NN)
 m3:mg "TooGreat"=some (.ref TG)
 mH:mg "HydraError"=some (.ref Hy)
 o1:XO K NT
 o2:XO K NN
 o3:XO K TG
 xH:∃b,XC K Hy b
 s1:mroIn K NT (.ref Hy)=some true
 s2:mroIn K NN (.ref Hy)=some true
 s3:mroIn K TG (.ref Hy)=some true
 r12:mroIn K NT (.ref NN)=some false
 r13:mroIn K NT (.ref TG)=some false
 r21:mroIn K NN (.ref NT)=some false
 r23:mroIn K NN (.ref TG)=some false
 r31:mroIn K TG (.ref NT)=some false
 r32:mroIn K TG (.ref NN)=some false
noncomputable def uT (bs:List Bool) (G:Gp) (q:WK):Prop:=∀(p:Addr) (G':Gp),aC G G'->G' p=some (.lst (bs.map W.bl))->q (.ref p) G'
noncomputable def CL (NT NN TG:Addr):bJ:=λws G q _=>∃(a C:Addr) (bs:List Bool),ws=[.ref a]/\G a=some (.exc C)/\((C=NT/\bs=[true,false,false])∨(C=NN/\bs=[false,true,false])∨(C=TG/\bs=[false,false,true]))/\uT bs G q
theorem scMk:bh ["_law_e"] ["_law_e"] (al (aA 69)):=by walk_at "s"
theorem E7 {NT NN TG Hy:Addr} (F:cv K "_law_marks" "_law_marks" (aA 69) f fd) (D:EF K mg NT NN TG Hy) (mi:mg "isinstance"=none):cB P w K mg base 1 f fd ["_law_e"] (CL NT NN TG):=by
 have nd:=scMk.nd;obtain⟨m1,m2,m3,mH,o1,o2,o3,xH,s1,s2,s3,r12,r13,r21,r23,r31,r32⟩:=D;obtain⟨b1,x1⟩:=o1.c;obtain⟨b2,x2⟩:=o2.c;obtain⟨b3,x3⟩:=o3.c;have d1:=o1.d;have d2:=o2.d;have d3:=o3.d;have q1:=x1.self;have q2:=x2.self;have q3:=x3.self;refine zg F scMk (λws G q e h=>by obtain⟨_,_,_,rfl,_⟩:=h;rfl) (λcdv A outer s H E hr=>?_);apply aN
 ·refine' aM (aq (bA (ae (show QE _ _ (tI K 0 NT) from ou rfl (by first | exact Or.inl rfl | exact Or.inr (Or.inl rfl) | exact Or.inr (Or.inr rfl)) m1 d1 rfl mi rfl) (ae (show QE _ _ (tI K 0 NN) from ou rfl (by first | exact Or.inl rfl | exact Or.inr (Or.inl rfl) | exact Or.inr (Or.inr rfl)) m2 d2 rfl mi rfl) (ae (show QE _ _ (tI K 0 TG) from ou rfl (by first | exact Or.inl rfl | exact Or.inr (Or.inl rfl) | exact Or.inr (Or.inr rfl)) m3 d3 rfl mi rfl) ag)))))
 ·rintro ws G q e ⟨a,C,bs,rfl,ha,hc,hq⟩;walk_at "R";have fin:∀t1 t2 t3:Bool,bs=[t1,t2,t3]->∀p,G p=none->∃G0,aC G0 (aX G p (GO.lst [.bl t1,.bl t2,.bl t3]))/\q (.ref p) G0:=λt1 t2 t3 hb p hp=>aC.done (hq p _ (aC.new hp) (by rw[ak,hb];rfl));rcases hc with⟨rfl,hb⟩ | ⟨rfl,hb⟩ | ⟨rfl,hb⟩
  ·exact⟨a,_,true,rfl,ha,q1,a,_,false,rfl,ha,r12,a,_,false,rfl,ha,r13,fin _ _ _ hb⟩
  ·exact⟨a,_,false,rfl,ha,r21,a,_,true,rfl,ha,q2,a,_,false,rfl,ha,r23,fin _ _ _ hb⟩
  ·exact⟨a,_,false,rfl,ha,r31,a,_,false,rfl,ha,r32,a,_,true,rfl,ha,q3,fin _ _ _ hb⟩
structure GQ (l:List Nat) (nm:List Nat->Option O) (G:Gp) (q:WK):Prop where
 bad:nG l=none->uT [true,false,false] G q
 nam:∀s,nG l=some s->(∃m,m∈fo s/\nm m=none)->uT [false,true,false] G q
 num:∀s,nG l=some s->(¬∃m,m∈fo s/\nm m=none)->uT [true] G q/\uT [false,false,true] G q
noncomputable def Ak:bJ:=λws G q _=>∃(x v:W) (nm:List Nat->Option O),ws=[x,v]/\u4 G v nm/\((∃l:List Nat,x=.str (bq l)/\l.length<=100000/\GQ l nm G q)∨(u3 G x/\uT [true,false,false] G q))
theorem scTd:bh ["_law_text","_law_names_here","_law_caught","_law_found","_law_e"] ["_law_text","_law_names_here"] (al (aA 70)):=by walk_at "s"
theorem E8 {NT NN TG Hy:Addr} (F:cv K "_law_told" "_law_told" (aA 70) f fd) (D:EF K mg NT NN TG Hy) (R1:Rx P w K mg base "read" ["text","names"] 91 (CK NT NN TG) []) (F2:Fx P w K mg base "_law_marks" ["_law_e"] 1 (CL NT NN TG)) (mi:mg "isinstance"=none) (mt:mg "tuple"=none):cB P w K mg base 92 f fd ["_law_text","_law_names_here"] Ak:=by
 have nd:=scTd.nd;obtain⟨m1,m2,m3,mH,o1,o2,o3,⟨bH,xH⟩,s1,s2,s3,_,_,_,_,_,_⟩:=D;refine zg F scTd (λws G q e h=>by obtain⟨_,_,_,rfl,_⟩:=h;rfl) (λcdv A outer s H E hr=>?_);apply aN
 ·refine' ac ?s1 (ac ?s2 (ac ?s3 ?s4))
  case s1=>exact(ao 2 nd rfl (.inl rfl) dr)
  case s2=>exact(ao 3 nd rfl (.inl rfl) (aU ag))
  case s3=>
   refine' vY rfl rfl (vX (zz 3 (λ_ _ z=>z) nd rfl (Or.inl rfl) R1 (ay.mono hr (by walk_at "om")) rfl ?a)) (i6 (oq 4 mH rfl o1 xH s1 nd rfl rfl λa=>?b1) (i6 (oq 4 mH rfl o2 xH s2 nd rfl rfl λa=>?b2) (i6 (oq 4 mH rfl o3 xH s3 nd rfl rfl λa=>?b3) vZ)))
   case a=>exact(ae (aa 0) (ae (aa 1) ag))
   case b1=>exact(ac (ao 2 nd rfl (.inl rfl) (aa 4)) af)
   case b2=>exact(ac (ao 2 nd rfl (.inl rfl) (aa 4)) af)
   case b3=>exact(ac (ao 2 nd rfl (.inl rfl) (aa 4)) af)
  case s4=>exact(ac (aL (au pp (aa 2) dr) (ac (aq (bA (ae (fV (T:="tuple") (x:="tuple") (by first | simp[jt] | assumption | decide+kernel) eR mt rfl mi rfl (aa 3)) ag))) af) af) (ac (aq (aD F2 (ay.mono hr (by lia)) rfl (ae (aa 2) ag))) af))
 ·rintro ws G q e ⟨x,v,nm,rfl,hnm,hx⟩;walk_at "a0";walk_at "a";subst hU;refine aB λU hU=>?_;have caught:∀(C:Addr) (bs:List Bool) (a:Addr) (G':Gp) (t3:Option W),aC G G'->G' a=some (.exc C)->((C=NT/\bs=[true,false,false])∨(C=NN/\bs=[false,true,false])∨(C=TG/\bs=[false,false,true]))->uT bs G q->U { nx:=λx G1=>∃G0,aC G0 G1/\q W.non G0,rt:=λw G1=>∃G0,aC G0 G1/\q w G0 } [some x,some v,some (.ref a),t3,none] G':=λC bs a G' t3 le ha hc ho=>by
   walk_at "a";rw[ycw (show ¬(false ^^ gy (W.ref a))=true from ydx)];subst hU;walk_at "R";exact⟨a,C,bs,rfl,ha,hc,λp G2 le2 hp=>aC.done (ho p G2 (le.trans le2) hp)⟩
  have good:uT [true] G q->∀r:O,U { nx:=λx G1=>∃G0,aC G0 G1/\q W.non G0,rt:=λw G1=>∃G0,aC G0 G1/\q w G0 } [some x,some v,some .non,some (.tup (am r)),none] G:=λho r=>by
   walk_at "a";rw[ycv (by rfl)];intro p hp;exact aC.done (ho p _ (aC.new hp) ak)
  have ex:∀(C0:Addr) (bs:List Bool),((C0=NT/\bs=[true,false,false])∨(C0=NN/\bs=[false,true,false])∨(C0=TG/\bs=[false,false,true]))->uT bs G q->∀G2,aC G G2->zC 4 C0 (vE (sP (sL 4) (fe 2)) sO) { nx:=U { nx:=λx G1=>∃G0,aC G0 G1/\q W.non G0,rt:=λw G1=>∃G0,aC G0 G1/\q w G0 },rt:=λw G1=>∃G0,aC G0 G1/\q w G0 } [some x,some v,some W.non,some (W.tup []),none] G2:=λC0 bs hc ho G2 le2=>by
   walk_at "R";intro a ha;exact caught C0 bs a _ _ (le2.trans (aC.new ha)) ak hc ho
  walk_at "R";refine⟨x,v,nm,rfl,hnm,?_⟩;rcases hx with⟨l,rfl,hl,hT⟩ | ⟨hx,ho⟩
  ·refine .inl ⟨l,rfl,hl,λh G' le C hC=>?_,λs hs hn G' le C hC=>?_,λs hs hn r hr=>good (hT.num s hs hn).1 r,λs hs hn G' le C hC=>?_⟩
   ·cases hC;exact⟨_,.head _,ex _ _ (.inl ⟨rfl,rfl⟩) (hT.bad h) G' le⟩
   ·cases hC;exact⟨_,.tail _ (.head _),ex _ _ (.inr (.inl ⟨rfl,rfl⟩)) (hT.nam s hs hn) G' le⟩
   ·cases hC;exact⟨_,.tail _ (.tail _ (.head _)),ex _ _ (.inr (.inr ⟨rfl,rfl⟩)) (hT.num s hs hn).2 G' le⟩
  ·refine .inr ⟨hx,λG' le C hC=>?_⟩;cases hC;exact⟨_,.head _,ex _ _ (.inl ⟨rfl,rfl⟩) ho G' le⟩
noncomputable def yk:bJ:=λws G q _=>∃(l:List Nat) (k:Nat) (sg:Str) (p:Nat->Bool),ws=[.str (bq l),.int (k:Int),.str sg]/\k<=l.length/\l.length<=100000/\(∀y,decide (y∈sg.cps.toList)=p y)/\q (.int ((k+bP p (l.drop k):Nat):Int)) G
theorem kq {p:Nat->Bool}:∀(l:List Nat) (i:Nat),i<=bP p l->bP p (l.drop i)=bP p l-i
 | [],i,h=>by
   have:i=0:=Nat.le_zero.mp h;subst this
   rfl
 | y::l,0,h=>rfl
 | y::l,i+1,h=>by
   unfold bP at h
   conv=>rhs;unfold bP
   by_cases hy:p y=true
   ·rw[ycv hy] at h ⊢;rw[List.drop_succ_cons,kq l i (by walk_at "om")];lia
   ·rw[ycw hy] at h;lia
theorem qr {p:Nat->Bool}:∀l:List Nat,bP p l<=l.length
 | []=>ycx _
 | y::l=>by
   unfold bP;have:=qr (p:=p) l;split
   ·rw[length_cons];lia
   ·exact zero_le _
theorem CM (F:cv K "_law_run" "_law_run" (aA 66) f fd) (ml:mg "len"=none):cB P w K mg base 1 f fd ["_law_text","_law_at","_law_signs"] yk:=by
 refine fm F (N:=["_law_text","_law_at","_law_signs"]) (by walk_at "s") (by walk_at "l") λ_ _ _ _ _ _ nd hr=>?_;apply aN
 ·refine' ac (dB PassesOwn.never (cQ (cx ?c1 (bV (au yh ?x1 ?y1 rfl)))) ?b1) (aM ?s2)
  case c1=>exact(au (ff hr) (aa 1) (aR bB rfl ml PySem.boot_len (ae (aa 0) ag)))
  case x1=>exact(aG aI (aa 0) (aa 1))
  case y1=>exact(aa 2)
  case b1=>exact(ac (ao 1 nd rfl (.inl rfl) (av aE (aa 1) ah)) af)
  case s2=>exact(aq (aa 1))
 ·rintro ws G q e ⟨l,k,sg,p,rfl,hk,hl,hp,hq⟩;have hle:=qr (p:=p) (l.drop k);rw[length_drop] at hle;refine aB λU hU=>?_;refine gk (λj τ G'=>G'=G/\∃i:Nat,i<=bP p (l.drop k)/\j=bP p (l.drop k)-i/\τ=[some (.str (bq l)),some (.int ((k+i:Nat):Int)),some (.str sg)]) ⟨_,rfl,0,zero_le _,rfl,rfl⟩ ?_;rintro j τ G' ⟨rfl,i,hi,rfl,rfl⟩ B hB;have hd:=kq (p:=p) (l.drop k) i hi;rw[drop_drop] at hd;have stop:bP p (l.drop (k+i))=0->U { nx:=λx G1=>∃G0,aC G0 G1/\q W.non G0,rt:=λw G1=>∃G0,aC G0 G1/\q w G0 } [some (.str (bq l)),some (.int ((k+i:Nat):Int)),some (.str sg)] G':=λh=>by
   have:i=bP p (l.drop k):=by (clear hk hl hle;lia)
   subst this;subst hU;walk_at "R";exact aC.done hq
  walk_at "R";refine⟨by rw[aQ];assumption,?_⟩;rw[aQ]
  by_cases hlt:k+i<l.length
  ·rw[ycv (by (clear hk hl hle hi hd;lia))];refine⟨by assumption,l[k+i],ce (ycz hlt),_,_,rfl,rfl,?_⟩;rw[hp];dsimp only;have ed:=drop_eq_getElem_cons hlt
   by_cases hy:p l[k+i]=true
   ·rw[ycv hy];have hr:bP p (l.drop (k+i))=bP p (l.drop (k+i+1))+1:=by rw[ed];conv=>lhs;unfold bP;rw[ycv hy]
    refine⟨λτ1 G1=>G1=G'/\τ1=[some (.str (bq l)),some (.int ((k+(i+1):Nat):Int)),some (.str sg)],?_,?_⟩
    ·rintro τ1 G1 ⟨rfl,rfl⟩;exact⟨_,by (clear hk hl hle hi hlt ed hy;lia),rfl,i+1,by (clear hk hl hle hlt ed hy;lia),rfl,rfl⟩
    ·subst hB;walk_at "R";rw[show((k+(i+1):Nat):Int)=((k+i:Nat):Int)+1 from rfl]
   ·rw[ycw hy];refine stop ?_;rw[ed];unfold bP;rw[ycw hy]
  ·rw[ycw (by (clear hk hl hle hi hd;lia))];refine stop ?_;rw[drop_eq_nil_of_le (by (clear hk hl hle hi hd;lia))]
   rfl
theorem Am (y:Nat):decide (y∈(Str.ofString "0123456789").cps.toList)=bY y:=by
 rw[show(Str.ofString "0123456789").cps.toList=List.range' 48 10 from rfl];refine decide_eq_decide.mpr ?_;rw[List.mem_range'_1];lia
theorem An (y:Nat):decide (y∈(Str.ofString "abcdefghijklmnopqrstuvwxyz").cps.toList)=cq y:=by
 rw[show(Str.ofString "abcdefghijklmnopqrstuvwxyz").cps.toList=List.range' 97 26 from rfl];refine decide_eq_decide.mpr ?_;rw[List.mem_range'_1];lia
noncomputable def uU (k:Nat) (wt:Bool) (y:Nat) (m:List Nat):Int:=
 if y=40 then (k:Int)+1 else if wt=true then (match de (y::m) with | some j=>(k:Int)+(j:Int) | none=> -1) else if y=43∨y=42∨y=94∨y=41 then (k:Int)+1 else -1
noncomputable def ym:bJ:=λws G q _=>∃(l:List Nat) (k:Nat) (wt:Bool) (y:Nat) (m:List Nat),ws=[.str (bq l),.int (k:Int),.bl wt]/\l.drop k=y::m/\l.length<=100000/\q (.int (uU k wt y m)) G
theorem CN (F:cv K "_law_step" "_law_step" (aA 67) f fd) (F1:Fx P w K mg base "_law_run" ["_law_text","_law_at","_law_signs"] 1 yk):cB P w K mg base 2 f fd ["_law_text","_law_at","_law_waiting"] ym:=by
 refine fm F (N:=["_law_text","_law_at","_law_waiting","_law_sign_here","_law_figures","_law_letters"]) (by walk_at "s") (by walk_at "l") λ_ _ _ _ _ _ nd hr=>?_;apply aN
 ·refine' ac ?s1 (ac ?s2 (ac ?s3 (ac (aL (au yh ?x1 ?y1 rfl) ?b1 af) (aM ?s5))))
  case s1=>exact(ao 3 nd rfl (.inl rfl) (aG aI (aa 0) (aa 1)))
  case s2=>exact(aL (au (ba hr) (aa 3) aF) (ac (aq (av aE (aa 1) ah)) af) af)
  case s3=>
   refine' aL ?cw (ac ?f1 (ac ?f2 (ac ?i1 (ac (aL (cQ (cx (gL DV sT ?e1 ?e2 ?e3) (bV ?e4))) ?b2 af) (aM ?r3))))) af
   case cw=>exact(bx (aa 2))
   case f1=>exact(ao 4 nd rfl (.inl rfl) (aD F1 (ay.mono hr (by lia)) rfl (ae (aa 0) (ae (aa 1) (ae aF ag)))))
   case f2=>exact(ao 5 nd rfl (.inl rfl) (aD F1 (ay.mono hr (by lia)) rfl (ae (aa 0) (ae (aa 1) (ae aF ag)))))
   case i1=>exact(aL (cQ (cx (au gv (aa 5) (aa 1)) (bV (au sT (av pk (aa 5) (aa 1)) ah)))) (ac (aq (aa 5)) af) af)
   case e1=>exact(aa 1)
   case e2=>exact(aa 4)
   case e3=>exact(av aE (aa 1) ah)
   case e4=>exact(cQ (dA (au (dM hr) (aa 3) aF) (cP (au (ba hr) (aa 4) (av aE (aa 1) ah)))))
   case b2=>exact(ac (aq (aa 4)) af)
   case r3=>exact(aq (dY ah))
  case x1=>exact(aa 3)
  case y1=>exact aF
  case b1=>exact(ac (aq (av aE (aa 1) ah)) af)
  case s5=>exact(aq (dY ah))
 ·rintro ws G q e ⟨l,k,wt,y,m,rfl,hd,hl,hq⟩;have hk:k<l.length:=Decidable.by_contra λn=>by rw[drop_eq_nil_of_le (by (clear hl;lia))] at hd;cases hd
  have hy:l[k]?=some y:=by
   have:=List.getElem?_drop (xs:=l) (i:=k) (j:=0);rw[hd] at this;exact this.symm
  unfold uU at hq;walk_at "a0";refine⟨by rw[aQ];assumption,y,ce hy,?_⟩;walk_at "a";refine⟨rfl,rfl,zero_le _,?_⟩;rw[show Str.ofString "("=bq [40] from rfl,show({ cps:= #[y] }:Str)=bq [y] from rfl,d9]
  by_cases h40:y=40
  ·rw[ycv (by simpa using h40)];rw[ycv h40] at hq;exact aC.done hq
  rw[ycw (by simpa using h40)];rw[ycw h40] at hq;subst hU;refine aB λU hU=>?_;cases wt with
  | true=>
    rw[ycv rfl] at hq;walk_at "R";refine⟨l,k,_,bY,rfl,by (clear hl hy h40;lia),hl,Am,l,k,_,cq,rfl,by (clear hl hy h40;lia),hl,An,?_⟩;rw[hd];unfold de at hq;rw[show(y::m).head?=some y from rfl] at hq;generalize bP bY (y::m)=a at hq ⊢;generalize bP cq (y::m)=b at hq ⊢;have qB:0<b/\b<=8->q (.int ((k+b:Nat):Int)) G:=λh=>by rw[ycv h] at hq;exact hq
    have qF:¬(0<b/\b<=8)->(0<a/\a<=60/\(some y≠some 48∨a=1))->q (.int ((k+a:Nat):Int)) G:=λh h2=>by rw[ycw h,ycv h2] at hq;exact hq
    have qN:¬(0<b/\b<=8)->¬(0<a/\a<=60/\(some y≠some 48∨a=1))->q (.int (-1)) G:=λh h2=>by rw[ycw h,ycw h2] at hq;exact hq
    walk_at "R";have fin:¬(0<b/\b<=8)->∃k_1,W.bl (decide ((k:Int)<((k+a:Nat):Int)))=W.bl k_1/\if k_1=true then (if ((k+a:Nat):Int)<=(k:Int)+60 then ((W.str (bq [y])).flat=true/\(W.str (Str.ofString "0")).flat=true/\(W.str (bq [y])).dep<=150/\if (W.str (bq [y])).eq (W.str (Str.ofString "0"))=false then ∃G0,aC G0 G/\q (.int ((k+a:Nat):Int)) G0 else if ((k+a:Nat):Int)=(k:Int)+1 then ∃G0,aC G0 G/\q (.int ((k+a:Nat):Int)) G0 else ∃G0,aC G0 G/\q (W.int (-1)) G0) else ∃G0,aC G0 G/\q (W.int (-1)) G0) else ∃G0,aC G0 G/\q (W.int (-1)) G0:=λhb=>by
     refine⟨_,rfl,?_⟩
     by_cases h1:0<a
     ·rw[ycv (ydz (by (clear hl hk hy h40 hb;lia)))]
      by_cases h2:a<=60
      ·rw[ycv (by (clear hl hk hy h40 hb;lia))];refine⟨rfl,rfl,zero_le _,?_⟩;rw[show Str.ofString "0"=bq [48] from rfl,d9]
       by_cases h3:y=48
       ·rw[ycw (by simpa using h3)]
        by_cases h4:a=1
        ·rw[ycv (by (clear hl hk hy h40 hb h1 h2 h3;lia))];exact aC.done (qF hb ⟨h1,h2,.inr h4⟩)
        ·rw[ycw (by (clear hl hk hy h40 hb h1 h2 h3;lia))];exact aC.done (qN hb λz=>z.2.2.elim (λz=>z (congrArg some h3)) h4)
       ·rw[ycv (by simpa using h3)];exact aC.done (qF hb ⟨h1,h2,.inl λz=>h3 (Option.some.inj z)⟩)
      ·rw[ycw (by (clear hl hk hy h40 hb h1;lia))];exact aC.done (qN hb λz=>h2 z.2.1)
     ·rw[ycw (by simp;(clear hl hk hy h40 hb;lia))];exact aC.done (qN hb λz=>h1 z.1)
    by_cases hb:0<b/\b<=8
    ·rw[ycv (by (clear hl hk hy h40;lia)),ycv (by (clear hl hk hy h40;lia))];exact aC.done (qB hb)
    ·refine cg (λh1=>?_) λh1=>fin hb;rw[ycw (by (clear hl hk hy h40;lia))];exact fin hb
  | false=>
    rw[ycw (by decide)] at hq;walk_at "R";walk_at "a";refine⟨y,_,rfl,rfl,?_⟩;have e1:decide (y∈(Str.ofString "+*^)").cps.toList)=decide (y=43∨y=42∨y=94∨y=41):=by
     rw[show(Str.ofString "+*^)").cps.toList=[43,42,94,41] from rfl];refine decide_eq_decide.mpr ?_;simp
    rw[e1];dsimp only
    by_cases h:y=43∨y=42∨y=94∨y=41
    ·rw[ycv (ydz h)];rw[ycv h] at hq;exact aC.done hq
    ·rw[ycw (by simpa using h)];rw[ycw h] at hq;subst hU;walk_at "R";exact aC.done hq
noncomputable abbrev yn (fs:List (List Nat)):List W:=fs.map λm=> .str (bq m)
theorem xu (fs:List (List Nat)) (m:List Nat):yn fs++[W.str (bq m)]=yn (fs++[m]):=by simp[yn]
noncomputable def yo:bJ:=λws G q _=>∃l:List Nat,ws=[.str (bq l)]/\l.length<=2000/\(sc true [] false l=none->∀G',aC G G'->q .non G')/\(∀fs,sc true [] false l=some fs->∀(p:Addr) (G':Gp),aC G G'->G' p=some (.lst (yn fs))->q (.ref p) G')
structure CO (G:Gp) (l:List Nat) (p:Addr) (j:Nat) (τ:dR) (G':Gp):Prop where
 ex:∃(k:Nat) (wt:Bool) (ab:List Bool) (x:Bool) (fs:List (List Nat)) (a:Addr) (t6 t7:Option W),j=l.length-k/\k<=l.length/\τ=[some (.str (bq l)),some (.ref p),some (.int (k:Int)),some (.bl wt),some (.ref a),some (.bl x),t6,t7]/\aC G G'/\G' p=some (.lst (yn fs))/\G' a=some (.lst (ab.reverse.map W.bl))/\a≠p/\ab.length<=20/\fs.length<=k/\sc true [] false l=(sc wt ab x (l.drop k)).map (fs++ ·)
theorem CP (F:cv K "_law_names" "_law_names" (aA 68) f fd) (F1:Fx P w K mg base "_law_step" ["_law_text","_law_at","_law_waiting"] 2 ym) (ml:mg "len"=none):cB P w K mg base 3 f fd ["_law_text"] yo:=by
 refine fm F (N:=["_law_text","_law_found","_law_at","_law_waiting","_law_above","_law_raised_once","_law_sign_here","_law_far"]) (by walk_at "s") (by walk_at "l") λ_ _ _ _ _ _ nd hr=>?_;apply aN
 ·refine' ac ?s1 (ac ?s2 (ac ?s3 (ac ?s4 (ac ?s5 (ac (dB PassesOwn.never ?co (ac ?b1 (ac ?b2 (ac ?b3 (ac (aL ?c4 ?t4 (aM (aL ?c5 ?t5 (aM (aL ?c6 ?t6 ?t7))))) (aM ?b5)))))) (ac ?s7 (aM ?s8)))))))
  case s1=>exact(ao 1 nd rfl (.inl rfl) (bA ag))
  case s2=>exact(ao 2 nd rfl (.inl rfl) ah)
  case s3=>exact(ao 3 nd rfl (.inl rfl) cm)
  case s4=>exact(ao 4 nd rfl (.inl rfl) (bA ag))
  case s5=>exact(ao 5 nd rfl (.inl rfl) cm)
  case co=>exact(au (ff hr) (aa 2) (aR bB rfl ml PySem.boot_len (ae (aa 0) ag)))
  case b1=>exact(ao 6 nd rfl (.inl rfl) (aG aI (aa 0) (aa 2)))
  case b2=>exact(ao 7 nd rfl (.inl rfl) (aD F1 (ay.mono hr (by lia)) rfl (ae (aa 0) (ae (aa 2) (ae (aa 3) ag)))))
  case b3=>exact(aL (cQ (dA (au (ff hr) (aa 7) ah) (dA (cQ (cx (au (ba hr) (aa 6) aF) (bV (dt (bx (aa 3)))))) (cP (cQ (cx (au (ba hr) (aa 6) aF) (bV (au (ba hr) (aR bB rfl ml PySem.boot_len (ae (aa 4) ag)) ah)))))))) (ac (aq dr) af) af)
  case c4=>exact(au (ba hr) (aa 6) aF)
  case t4=>exact(ac (ao 4 nd rfl (.inl rfl) (av aE (aa 4) (bA (ae (aa 5) ag)))) (ac (ao 5 nd rfl (.inl rfl) cm) af))
  case c5=>exact(bx (aa 3))
  case t5=>exact(ac (ao 3 nd rfl (.inl rfl) cm) (ac (aL (cQ (cx (gL fQ fQ aF (aa 6) aF) (bV (au (dM hr) (bD (aa 0) (bc (aa 2)) (bc (aa 7))) aF)))) (ac (bu (cR (aa 1) (bD (aa 0) (bc (aa 2)) (bc (aa 7))))) af) af) af))
  case c6=>exact(au (ba hr) (aa 6) aF)
  case t6=>exact(ac (aL (au (ba hr) (aa 4) (bA ag)) (ac (aq dr) af) af) (ac (ao 5 nd rfl (.inl rfl) (aG aI (aa 4) (dY ah))) (ac (ao 4 nd rfl (.inl rfl) (bD (aa 4) bK (bc (dY ah)))) af)))
  case t7=>exact(ac (aL (cQ (cx (au (ba hr) (aa 6) aF) (bV (bx (aa 5))))) (ac (aq dr) af) af) (ac (ao 5 nd rfl (.inl rfl) (cI (ba hr) (aa 6) aF)) (ac (ao 3 nd rfl (.inl rfl) cm) af)))
  case b5=>exact(ao 2 nd rfl (.inl rfl) (aa 7))
  case s7=>exact(aL (cQ (dA (bx (aa 3)) (cP (au (dM hr) (aa 4) (bA ag))))) (ac (aq dr) af) af)
  case s8=>exact(aq (aa 1))
 ·rintro ws G q e ⟨l,rfl,hl,hbad,hgood⟩;walk_at "a0";intro p hp;walk_at "a";walk_at "a";walk_at "a";intro a0 ha0;walk_at "a";subst hU;refine aB λU hU=>?_;have ap:a0≠p:=λz=>by rw[z,ak] at ha0;cases ha0
  refine gk (CO G l p) ⟨_,0,true,[],false,[],a0,none,none,rfl,zero_le _,rfl,(aC.new hp).trans (aC.new ha0),by rw[aV ap.symm];exact ak,ak,ap,by decide,ycx _,by show _=(sc true [] false l).map _;cases sc true [] false l<;> rfl⟩ ?_;rintro j τ G' ⟨k,wt,ab,x,fs,a,t6,t7,rfl,hk,rfl,hle,hG,hA,hap,hab,hfs,hsc⟩ B hB;have none':sc wt ab x (l.drop k)=none->∃G0,aC G0 G'/\q .non G0:=λh=>aC.done (hbad (by rw[hsc,h];rfl) G' hle);walk_at "R";refine⟨by rw[aQ];lia,?_⟩;rw[aQ]
  by_cases hlt:k<l.length
  ·rw[ycv (by (clear hl hk hab hfs;lia))];obtain⟨y,m,hd⟩:∃y m,l.drop k=y::m:=⟨_,_,drop_eq_getElem_cons hlt⟩;have hy:l[k]?=some y:=by
    have:=List.getElem?_drop (xs:=l) (i:=k) (j:=0);rw[hd] at this;exact this.symm
   have hm:l.drop (k+1)=m:=by rw[←drop_drop,hd];rfl
   refine⟨λτ1 G1=>∃m1,m1<l.length-k/\CO G l p m1 τ1 G1,λ_ _ h=>h,?_⟩;obtain⟨D,hD⟩:∃D:dI,D={ nx:=λτ1 G1=>∃m1,m1<l.length-k/\CO G l p m1 τ1 G1,rt:=λw G1=>∃G0,aC G0 G1/\q w G0,bk:=U { nx:=λx G1=>∃G0,aC G0 G1/\q W.non G0,rt:=λw G1=>∃G0,aC G0 G1/\q w G0 },ct:=λτ1 G1=>∃m1,m1<l.length-k/\CO G l p m1 τ1 G1 }:=⟨_,rfl⟩;rw[←hD];have hDn:D.nx=λτ1 G1=>∃m1,m1<l.length-k/\CO G l p m1 τ1 G1:=congrArg dI.nx hD;have hDr:D.rt=λw G1=>∃G0,aC G0 G1/\q w G0:=congrArg dI.rt hD;have fin:∀(U2:WS),U2=sP (sL 7) (fe 2)->∀(k':Nat) (wt' x':Bool) (ab':List Bool) (fs':List (List Nat)) (a':Addr) (G1:Gp) (t6:Option W),k<k'->k'<=l.length->aC G G1->G1 p=some (.lst (yn fs'))->G1 a'=some (.lst (ab'.reverse.map W.bl))->a'≠p->ab'.length<=20->fs'.length<=k'->(sc wt ab x (y::m)).map (fs++ ·)=(sc wt' ab' x' (l.drop k')).map (fs'++ ·)->U2 D [some (.str (bq l)),some (.ref p),some (.int (k:Int)),some (.bl wt'),some (.ref a'),some (.bl x'),t6,some (.int (k':Int))] G1:=λU2 hU2 k' wt' x' ab' fs' a' G1 t6 h1 h2 h3 h4 h5 h6 h7 h8 h9=>by
    subst hU2;walk_at "R";rw[hDn];exact⟨_,by (clear hl hk hab hfs hy hD hDn h7 h8;lia),k',wt',ab',x',fs',a',_,_,rfl,h2,rfl,h3,h4,h5,h6,h7,h8,by rw[hsc,hd];exact h9⟩
   subst hB;rw[hd] at hsc none';have sgn:∀z:Nat,(W.str { cps:= #[y] }).eq (.str (bq [z]))=decide (y=z):=λz=>by
    rw[show({ cps:= #[y] }:Str)=bq [y] from rfl,d9];exact decide_eq_decide.mpr ⟨λh=>by cases h;rfl,λh=>by rw[h]⟩
   refine aB λU1 hU1=>?_;walk_at "R";refine⟨by rw[aQ];lia,y,ce hy,?_⟩;walk_at "b";refine⟨l,k,wt,y,m,rfl,hd,by walk_at "om",?_⟩;unfold uU
   by_cases h40:y=40
   ·rw[ycv h40];walk_at "b";have s40:=(sgn 40).trans (ydz h40);rw[ycw (by (clear hl hk hab hfs hlt hy hD hDn h40;lia)),show Str.ofString "("=bq [40] from rfl];simp only[s40,eq_self,if_true];refine⟨rfl,rfl,zero_le _,?_⟩;rw[hDr];cases wt with
    | false=>
      rw[ycv rfl];exact none' (by rw[h40];exact pX)
    | true=>
      rw[ycw (by decide)];refine⟨rfl,rfl,zero_le _,_,.lst hA,?_⟩;rw[length_map,length_reverse]
      by_cases h20:ab.length=20
      ·rw[ycv (by (clear hl hk hab hfs hlt hy hD hDn h40;lia))];exact none' (by rw[h40];exact pU (by (clear hl hk hab hfs hlt hy hD hDn h40;lia)))
      ·rw[ycw (by (clear hl hk hab hfs hlt hy hD hDn h40;lia))];subst hU1;refine aB λU2 hU2=>?_;walk_at "R";rw[show Str.ofString "("=bq [40] from rfl];simp only[s40,eq_self,if_true];refine⟨rfl,rfl,zero_le _,λp1 hp1=>⟨_,_,aK hA hp1,ak,?_,λp2 hp2=>?_⟩⟩
       ·rw[length_map,length_reverse];simp only[length_cons,length_nil]
        (clear hl hk hfs hlt hy hD hDn h40 h20;lia)
       ·have hg2:=aK (g:=GO.lst (ab.reverse.map W.bl++[W.bl x])) (aK (g:=GO.lst [W.bl x]) hG hp1) hp2;have p2p:p2≠p:=λz=>by rw[z,aK hG hp1] at hp2;cases hp2
        refine fin U2 hU2 (k+1) true false (x::ab) fs p2 _ _ (by (clear hl hk hab hfs hlt hy hD hDn h40 h20;lia)) (by assumption) ((hle.trans (aC.new hp1)).trans (aC.new hp2)) hg2 ?_ p2p (by rw[length_cons];(clear hl hk hfs hlt hy hD hDn h40;lia)) (by (clear hl hk hab hlt hy hD hDn h40 h20;lia)) ?_
        ·rw[ak,reverse_cons,map_append]
         rfl
        ·rw[hm,h40,pT (by (clear hl hk hfs hlt hy hD hDn h40;lia))]
   ·rw[ycw h40];cases wt with
    | true=>
      rw[ycv rfl];cases hw:de (y::m) with
      | none=>
        walk_at "b";rw[hDr];exact none' (by rw[iE h40,hw])
      | some j=>
        subst hU1;refine aB λU1 hU1=>?_;dsimp only;walk_at "R";have s40:=(sgn 40).trans (ydy h40);rw[ycw (by (clear hl hk hab hlt hy hD hDn h40;lia)),show Str.ofString "("=bq [40] from rfl];simp only[s40,Bool.false_eq_true,if_false];refine⟨rfl,rfl,zero_le _,rfl,rfl,zero_le _,?_⟩;subst hU1;refine aB λU2 hU2=>?_;walk_at "R";rw[show Str.ofString "("=bq [40] from rfl];simp only[s40,Bool.false_eq_true,if_false];refine⟨rfl,rfl,zero_le _,?_⟩;have j1:=hW hw;have j2:=tV hw;have hlen:(y::m).length=l.length-k:=by rw[←hd,length_drop]
        rw[length_cons] at j2 hlen;have hdj:(y::m).drop j=l.drop (k+j):=by rw[←hd,drop_drop]
        have htk:(l.drop k).take j=(y::m).take j:=by rw[hd]
        have key:∀fs':List (List Nat),(∀f,fs++iw ((y::m).take j) f=fs'++f)->(sc true ab x (y::m)).map (fs++ ·)=(sc false ab x (l.drop (k+j))).map (fs'++ ·):=λfs' h=>by
         rw[iE h40,hw];show((sc false ab x ((y::m).drop j)).map (iw ((y::m).take j))).map (fs++ ·)=_;rw[Option.map_map,hdj]
         congr 1
         funext f
         exact h f
        have keep:¬(cq y=true/\(y::m).take j≠[119])->U2 D [some (W.str (bq l)),some (W.ref p),some (W.int ↑k),some (W.bl false),some (W.ref a),some (W.bl x),some (W.str { cps:= #[y] }),some (W.int (↑k+↑j))] G':=λhn=>fin U2 hU2 (k+j) false x ab fs a G' _ (by (clear hl hk hab hfs hlt hy hD hDn h40 j2 hlen;lia)) (by lia) hle hG hA hap hab (by (clear hl hk hab hlt hy hD hDn h40 j2 hlen;lia)) (key fs λf=>by rw[tW j1,ycw hn]);refine⟨_,rfl,?_⟩;rw[show(Str.ofString "a").cps.toList=[97] from rfl,show(Str.ofString "z").cps.toList=[122] from rfl,iJ];refine cg (λh1=>?_) λh1=>keep λz=>h1 (ydz (of_decide_eq_true z.1).1);have h97:97<=y:=of_decide_eq_true h1;refine cg (λh2=>?_) λh2=>keep λz=>h2 (λw=>by
         have hz:y<=122:=(of_decide_eq_true z.1).2;have:=gM 122 y;rw[ydz w,ydz hz] at this;cases this)
        have h122:y<=122:=by
         have:=gM 122 y;rw[ydy h2] at this;exact of_decide_eq_true this.symm
        have hLy:cq y=true:=ydz ⟨h97,h122⟩;refine⟨by rw[aQ];lia,k,k+j,by rw[aQ];assumption,.inr rfl,.inr rfl,rfl,rfl,zero_le _,?_⟩;rw[Nat.add_sub_cancel_left,htk];have ew:(W.str { cps:=((y::m).take j).toArray }).eq (W.str (Str.ofString "w"))=decide ((y::m).take j=[119]):=d9 _ _;rw[ew]
        by_cases hw9:(y::m).take j=[119]
        ·rw[ycw (by simpa using hw9)];exact keep λz=>z.2 hw9
        ·rw[ycv (by simpa using hw9)];refine⟨⟨_,hG⟩,by rw[aQ];lia,k,k+j,by rw[aQ];assumption,.inr rfl,.inr rfl,_,hG,by rw[length_map];lia,?_⟩;rw[Nat.add_sub_cancel_left,htk];refine fin U2 hU2 (k+j) false x ab (fs++[(y::m).take j]) a _ _ (by (clear hl hk hab hfs hlt hy hD hDn h40 j2 hlen h1 h97 h2 h122;lia)) (by (clear hl hk hab hfs hy hD hDn h40 j1 h1 h97 h2 h122;lia)) (aC.put hle hp) ?_ ?_ hap hab ?_ (key _ λf=>?_)
         ·rw[ak];exact congrArg (λz=>some (GO.lst z)) (xu fs ((y::m).take j))
         ·rw[aV hap];exact hA
         ·rw[length_append,length_singleton]
          (clear hl hk hab hlt hy hD hDn h40 j2 hlen h1 h97 h2 h122;lia)
         ·rw[tW j1,ycv ⟨hLy,hw9⟩];simp
    | false=>
      rw[ycw (by decide)];have s40:=(sgn 40).trans (ydy h40)
      by_cases hs:y=43∨y=42∨y=94∨y=41
      ·rw[ycv hs];walk_at "b";rw[ycw (by (clear hl hk hab hfs hlt hy hD hDn h40 hs;lia)),show Str.ofString "("=bq [40] from rfl];simp only[s40,Bool.false_eq_true,if_false];refine⟨rfl,rfl,zero_le _,rfl,rfl,zero_le _,?_⟩;subst hU1;refine aB λU2 hU2=>?_;walk_at "R";rw[show Str.ofString "("=bq [40] from rfl];simp only[s40,Bool.false_eq_true,if_false];refine⟨rfl,rfl,zero_le _,?_⟩;refine⟨rfl,rfl,zero_le _,?_⟩;rw[show Str.ofString ")"=bq [41] from rfl,show Str.ofString "^"=bq [94] from rfl];simp only[sgn]
       by_cases h41:y=41
       ·rw[ycv (ydz h41)];intro p1 hp1;refine⟨_,.nil (aK hA hp1) ak,?_⟩;cases ab with
        | nil=>
          rw[ycv (by rfl),hDr];exact aC.done (hbad (by rw[hsc,h41,oH];rfl) _ (hle.trans (aC.new hp1)))
        | cons z ab=>
          have e1:(z::ab).reverse.map W.bl=ab.reverse.map W.bl++[W.bl z]:=by simp
          rw[ycw (by simp)];refine⟨_,.bl z,aK hA hp1,by rw[e1];exact m8 (by simp),_,aK hA hp1,λp2 hp2=>?_⟩;have e2:dF ((z::ab).reverse.map W.bl) none (some (-1))=ab.reverse.map W.bl:=by rw[qc,e1];simp
          rw[e2];have p2p:p2≠p:=λz=>by rw[z,aK hG hp1] at hp2;cases hp2
          rw[length_cons] at hab;refine fin U2 hU2 (k+1) false z ab fs p2 _ _ (by (clear hl hk hfs hlt hy hD hDn h40 hs h41 hab;lia)) (by assumption) ((hle.trans (aC.new hp1)).trans (aC.new hp2)) (aK (aK hG hp1) hp2) ak p2p (by (clear hl hk hfs hlt hy hD hDn h40 hs h41;lia)) (by (clear hl hk hlt hy hD hDn h40 hs h41 hab;lia)) ?_;rw[h41,mP,hm]
       ·rw[ycw (by simpa using h41)];refine⟨rfl,rfl,zero_le _,?_⟩
        by_cases h94:y=94
        ·rw[ycv (ydz h94)];cases x with
         | true=>
           rw[ycv rfl,hDr];exact none' (by rw[h94,tU])
         | false=>
           rw[ycw (by decide)];refine⟨rfl,rfl,zero_le _,?_⟩;rw[ydz h94];refine fin U2 hU2 (k+1) true true ab fs a G' _ (by (clear hl hk hab hfs hlt hy hD hDn h40 hs h41 h94;lia)) (by assumption) hle hG hA hap hab (by (clear hl hk hab hlt hy hD hDn h40 hs h41 h94;lia)) ?_;rw[h94,tS,hm]
        ·rw[ycw (by simpa using h94)];refine⟨rfl,rfl,zero_le _,?_⟩;rw[ydy h94];refine fin U2 hU2 (k+1) true false ab fs a G' _ (by (clear hl hk hab hfs hlt hy hD hDn h40 hs h41 h94;lia)) (by assumption) hle hG hA hap hab (by (clear hl hk hab hlt hy hD hDn h40 hs h41 h94;lia)) ?_;rw[pV (by rcases hs with h | h | h | h;exact .inl h;exact .inr h;exact absurd h h94;exact absurd h h41),hm]
      ·rw[ycw hs];walk_at "b";rw[hDr];exact none' (BP hs)
  ·rw[ycw (by (clear hl hab hfs;lia))];have:l.drop k=[]:=drop_eq_nil_of_le (by (clear hl hab hfs;lia));rw[this] at hsc none';walk_at "a";cases wt with
   | true=>
     rw[ycv rfl];exact none' (tX ab x)
   | false=>
     rw[ycw (by decide)];intro p1 hp1;refine⟨_,.nil (aK hA hp1) ak,?_⟩;cases ab with
     | cons z ab=>
       rw[ycv (by simp)];exact aC.done (hbad (by rw[hsc,wj];rfl) _ (hle.trans (aC.new hp1)))
     | nil=>
       rw[ycw (by simp)];subst hU;walk_at "R";refine aC.done (hgood fs ?_ p _ (hle.trans (aC.new hp1)) (aK hG hp1));rw[hsc,tY];show some (fs++[])=_;rw[append_nil]
noncomputable def CQ:bJ:=λws G q _=>∃(x v:W) (nm:List Nat->Option O),ws=[x,v]/\u4 G v nm/\((∃l:List Nat,x=.str (bq l)/\l.length<=100000)∨u3 G x)/\q (.bl true) G
theorem u3.le {G G':Gp} {x:W} (h:u3 G x) (l:aC G G'):u3 G' x:=by
 obtain⟨t,h1,h2⟩:=h;refine⟨t,?_,h2⟩;cases x with
 | ref a=>
   have h1:(match G a with | some (GO.lst _)=>some "list" | some GO.dct=>some "dict" | some (GO.dic _)=>some "dict" | _=>none)=some t:=h1;show(match G' a with | some (GO.lst _)=>some "list" | some GO.dct=>some "dict" | some (GO.dic _)=>some "dict" | _=>none)=some t;cases e:G a with
   | none=>rw[e] at h1;cases h1
   | some g=>rw[e] at h1;rw[l a g e];exact h1
 | _=>exact h1
theorem u4.le {G G':Gp} {v:W} {nm:List Nat->Option O} (h:u4 G v nm) (l:aC G G'):u4 G' v nm:=⟨h.1,h.2.imp id λ⟨d,kvs,h1,h2,h3⟩=>⟨d,kvs,h1,GD.le h2 l,h3⟩⟩
theorem CS (F:cv K "_law_right" "_law_right" (aA 71) f fd) (F1:Fx P w K mg base "_law_names" ["_law_text"] 3 yo) (F2:Fx P w K mg base "_law_told" ["_law_text","_law_names_here"] 92 Ak) (ml:mg "len"=none) (mi:mg "isinstance"=none) (ms:mg "str"=none):cB P w K mg base 93 f fd ["_law_text","_law_names_here"] CQ:=by
 refine fm F (N:=["_law_text","_law_names_here","_law_wanted","_law_found","_law_name_here"]) (by walk_at "s") (by walk_at "l") λ_ _ _ _ _ _ nd hr=>?_;apply aN
 ·refine' ac ?s1 (ac ?s2 (ac ?s3 (ac ?s4 (ac ?s5 (aM ?s6)))))
  case s1=>exact(ao 2 nd rfl (.inl rfl) dr)
  case s2=>exact(aL (cQ (cx (bx (fV (T:="str") (x:="str") (by first | simp[jt] | assumption | decide+kernel) PyProof.Rows.boot_str ms rfl mi rfl (aa 0))) (bV (au sT (aR bB rfl ml PySem.boot_len (ae (aa 0) ag)) ah)))) (ac (ao 2 nd rfl (.inl rfl) (aD F1 (ay.mono hr (by lia)) rfl (ae (aa 0) ag))) af) af)
  case s3=>exact(ao 3 nd rfl (.inl rfl) (aD F2 (ay.mono hr (by lia)) rfl (ae (aa 0) (ae (aa 1) ag))))
  case s4=>exact(aL (au pp (aa 2) dr) (ac (aq (cI (ba hr) (aa 3) (bA (ae cm (ae cm (ae cm ag)))))) af) af)
  case s5=>exact(dW PySem.PassesOwn.never rfl (bS (aa 2)) (cf 4 nd rfl (.inl rfl)) (ac (aL (cQ (dA (au pp (aa 1) dr (kz _)) (cP (au (uz hr) (aa 4) (aa 1) rfl)))) (ac (aq (cI (ba hr) (aa 3) (bA (ae cm (ae cm (ae cm ag)))) (kz _))) af) af) af))
  case s6=>exact(aq (pe (cI (ba hr) (aa 3) (bA (ae cm ag))) (kG (cI (ba hr) (aa 3) (bA (ae cm (ae cm (ae cm ag))))))))
 ·rintro ws G q e ⟨x,v,nm,rfl,hnm,hx,hq⟩;walk_at "a0";subst hU;refine aB λU hU=>?_;have nothing:(∀G1,aC G G1->∀q',uT [true,false,false] G1 q'->Ak [x,v] G1 q' λ_ _=>False)->∀G1,aC G G1->U { nx:=λx G1=>∃G0,aC G0 G1/\q W.non G0,rt:=λw G1=>∃G0,aC G0 G1/\q w G0 } [some x,some v,some .non,none,none] G1:=λht G1 le1=>by
   walk_at "a";refine ht G1 le1 _ λp G2 le2 hp=>?_;walk_at "a";rw[ycv (by rfl)];intro p1 hp1;exact⟨_,.old (.lst (aK hp hp1) ak rfl rfl (by decide)),G,(le1.trans le2).trans (aC.new hp1),hq⟩
  rcases hx with⟨l,rfl,hl⟩ | ⟨t,ht,hs⟩
  rotate_left
  ·walk_at "R";rw[ht];dsimp only;rw[ycw (by rw[hs];decide)];exact nothing (λG1 le1 q' ho=>⟨x,v,nm,rfl,hnm.le le1,.inr ⟨u3.le ⟨t,ht,hs⟩ le1,ho⟩⟩) G (aC.refl _)
  ·walk_at "R";refine⟨by rw[aQ];assumption,?_⟩;rw[aQ]
   by_cases h2:l.length<=2000
   rotate_left
   ·rw[ycw (by walk_at "om")];refine nothing (λG1 le1 q' ho=>?_) G (aC.refl _);have hr:nG l=none:=ycw h2;exact⟨_,v,nm,rfl,hnm.le le1,.inl ⟨l,rfl,hl,λ_=>ho,λs hs=>(by rw[hr] at hs;cases hs),λs hs=>(by rw[hr] at hs;cases hs)⟩⟩
   ·rw[ycv (by walk_at "om")];have hrT:nG l=d0 l:=ycv h2;have hsc:=oI l;refine⟨l,rfl,h2,λhn G1 le1=>?_,λfs hf pw G1 le1 hpw=>?_⟩
    ·have hr:nG l=none:=by
      rw[hrT];cases e:d0 l with
      | none=>rfl
      | some s=>rw[hsc,e] at hn;cases hn
     exact nothing (λG1 le1 q' ho=>⟨_,v,nm,rfl,hnm.le le1,.inl ⟨l,rfl,hl,λ_=>ho,λs hs=>(by rw[hr] at hs;cases hs),λs hs=>(by rw[hr] at hs;cases hs)⟩⟩) G1 le1
    ·obtain⟨s,hs,rfl⟩:∃s,nG l=some s/\fs=fo s:=by
      rw[hrT];cases e:d0 l with
      | none=>rw[hsc,e] at hf;cases hf
      | some s=>rw[hsc,e] at hf;cases hf;exact⟨s,rfl,rfl⟩
     subst hU;refine aB λU hU=>?_
     by_cases hun:∃m,m∈fo s/\nm m=none
     ·walk_at "R";refine⟨_,v,nm,rfl,hnm.le le1,.inl ⟨l,rfl,hl,λh=>(by rw[hs] at h;cases h),λs' hs' _=>?_,λs' hs' hn=>absurd hun (by rw[hs] at hs';cases hs';exact hn)⟩⟩;intro p G2 le2 hp;walk_at "a";rw[ycw (show ¬(false ^^ gy (W.ref pw))=true from ydx)];walk_at "a";have ans:∀p1,G2 p1=none->∃r,ye (aX G2 p1 (GO.lst [W.bl false,W.bl true,W.bl false])) p p1 r/\∃G0,aC G0 (aX G2 p1 (GO.lst [W.bl false,W.bl true,W.bl false]))/\q (W.bl r) G0:=λp1 hp1=>⟨_,.old (.lst (aK hp hp1) ak rfl rfl (by decide)),G,(le1.trans le2).trans (aC.new hp1),hq⟩;refine⟨_,le2 _ _ hpw,?_⟩;refine bZ (λws τ G'=>∃(ns:List (List Nat)) (t4:Option W),ws=yn ns/\τ=[some (.str (bq l)),some v,some (.ref pw),some (.ref p),t4]/\G'=G2/\∃m,m∈ns/\nm m=none) ?_ ?_ _ _ _ ⟨fo s,none,rfl,rfl,rfl,hun⟩
      ·rintro τ G' ⟨ns,t4,hw,rfl,rfl,m,hm,_⟩;cases ns with
       | nil=>cases hm
       | cons n ns=>cases hw
      ·rintro w1 ws τ G' kk ⟨ns,t4,hw,rfl,rfl,m,hm,hm2⟩ hk;cases ns with
       | nil=>cases hw
       | cons n ns=>
         cases hw;refine⟨le2 _ _ hpw,?_⟩;walk_at "R";rcases(hnm.le (le1.trans le2)).2 with⟨rfl,hnone⟩ | ⟨d,kvs,rfl,hd,hok⟩
         ·rw[ycv (by rfl)];exact ans
         ·rw[ycw (show ¬(false ^^ gy (W.ref d))=true from ydx)];refine⟨_,.dic hd,?_⟩;rw[hok];cases en:nm n with
          | none=>
            rw[ycv (by rfl)];exact ans
          | some b=>
            rw[ycw (by simp)];refine hk _ _ ⟨ns,_,rfl,rfl,rfl,m,?_,hm2⟩;rcases mem_cons.mp hm with rfl | h
            ·rw[en] at hm2;cases hm2
            ·exact h
     ·walk_at "R";have fin:∀(bs:List Bool),(bs=[true]∨bs=[false,false,true])->uT bs G1 λw G2=>U { nx:=λx G1=>∃G0,aC G0 G1/\q W.non G0,rt:=λw G1=>∃G0,aC G0 G1/\q w G0 } [some (.str (bq l)),some v,some (.ref pw),some w,none] G2:=λbs hbs p G2 le2 hp=>by
       walk_at "a";rw[ycw (show ¬(false ^^ gy (W.ref pw))=true from ydx)];walk_at "a";refine⟨_,le2 _ _ hpw,?_⟩;refine bZ (λws τ G'=>∃(ns:List (List Nat)) (t4:Option W),ws=yn ns/\τ=[some (.str (bq l)),some v,some (.ref pw),some (.ref p),t4]/\G'=G2/\∀m,m∈ns->nm m≠none) ?_ ?_ _ _ _ ⟨fo s,none,rfl,rfl,rfl,λm hm z=>hun ⟨m,hm,z⟩⟩
       ·rintro τ G' ⟨ns,t4,hw,rfl,rfl,_⟩;refine⟨le2 _ _ hpw,?_⟩;subst hU;walk_at "R";intro p1 hp1;refine⟨_,.old (.lst (aK hp hp1) ak ?_ rfl ?_),?_⟩
        ·rcases hbs with rfl | rfl<;> rfl
        ·rcases hbs with rfl | rfl<;> decide
        rcases hbs with rfl | rfl
        ·rw[ycv (by rfl)];exact⟨G,(le1.trans le2).trans (aC.new hp1),hq⟩
        ·rw[ycw (by decide)];intro p2 hp2;exact⟨_,.old (.lst (aK (aK hp hp1) hp2) ak rfl rfl (by decide)),G,((le1.trans le2).trans (aC.new hp1)).trans (aC.new hp2),hq⟩
       ·rintro w1 ws τ G' kk ⟨ns,t4,hw,rfl,rfl,hall⟩ hk;cases ns with
        | nil=>cases hw
        | cons n ns=>
          cases hw;refine⟨le2 _ _ hpw,?_⟩;walk_at "R";have hn:=hall n yby;rcases(hnm.le (le1.trans le2)).2 with⟨rfl,hnone⟩ | ⟨d,kvs,rfl,hd,hok⟩
          ·exact absurd (hnone n) hn
          ·rw[ycw (show ¬(false ^^ gy (W.ref d))=true from ydx)];refine⟨_,.dic hd,?_⟩;rw[hok];cases en:nm n with
           | none=>exact absurd en hn
           | some b=>
             rw[ycw (by simp)];exact hk _ _ ⟨ns,_,rfl,rfl,rfl,λm hm=>hall m (ybx _ hm)⟩
      exact⟨_,v,nm,rfl,hnm.le le1,.inl ⟨l,rfl,hl,λh=>(by rw[hs] at h;cases h),λs' hs' hn=>absurd (by rw[hs] at hs';cases hs';exact hn) hun,λs' hs' hn=>⟨fin _ (.inl rfl),fin _ (.inr rfl)⟩⟩⟩
theorem nD (l m:List Nat):bq l++bq m=bq (l++m):=xj l m
noncomputable def xv (a:O):Prop:=a.NF/\a.size<=300/\O.mx a<10^300
theorem xv.pt {e r:O} {n:Int} (h:xv (.c e n r)):xv e/\xv r/\1<=n/\n<10^300:=by
 obtain⟨h1,h2,h3⟩:=h;have hs:O.size (.c e n r)=1+O.size e+O.size r:=rfl;exact⟨⟨h1.1,by (clear h3;lia),Int.lt_of_le_of_lt O.mx_he h3⟩,⟨h1.2.2.2,by (clear h3;lia),Int.lt_of_le_of_lt O.mx_hr h3⟩,h1.2.1,Int.lt_of_le_of_lt O.mx_hn h3⟩
theorem xv.len {a:O} (h:xv a):(dL bg a).length<=96001:=by
 have:=lz a h.1 h.2.2;have:=h.2.1;lia
noncomputable def xw (d:Nat):bJ:=λws G q _=>∃a:O,ws=[.tup (am a)]/\xv a/\a.dp<d/\d<=60/\q (.str (bq (dL bg a))) G
noncomputable def gm:O->List (List Nat)
 | .z=>[]
 | .c e n r=>gf bg e n (dL bg e)::gm r
theorem kr:∀a:O,a≠ .z->fF [43] (gm a)=dL bg a
 | .z,h=>absurd rfl h
 | .c e n r,_=>by
   rw[pP];cases r with
   | z=>show gf bg e n (dL bg e)=gf bg e n (dL bg e)++[];rw[append_nil]
   | c e' n' r'=>
     have:=kr (.c e' n' r') (by simp);show gf bg e n (dL bg e)++[43]++fF [43] (gm (.c e' n' r'))=gf bg e n (dL bg e)++43::dL bg (.c e' n' r');rw[this];simp
theorem nE:∀a:O,a≠ .z->((gm a).map List.length).sum+(gm a).length=(dL bg a).length+1
 | .z,h=>absurd rfl h
 | .c e n r,_=>by
   rw[pP,length_append];cases r with
   | z=>simp[gm,fh]
   | c e' n' r'=>
     have:=nE (.c e' n' r') (by simp);have e1:(fh bg (.c e' n' r')).length=(dL bg (.c e' n' r')).length+1:=by simp[fh]
     rw[e1];show(gf bg e n (dL bg e)).length+((gm (.c e' n' r')).map List.length).sum+((gm (.c e' n' r')).length+1)=_
     (clear e1;lia)
noncomputable def gn (e:O) (te:List Nat):List Nat:=if e=.z∨e=.c .z 1 .z then [] else if BL e=true∨e=om then 94::te else 94::40::(te++[41])
theorem qt {e:O} {te:List Nat} (h:e≠ .z):rq e te=119::gn e te:=by
 unfold rq gn
 by_cases h1:e=.c .z 1 .z
 ·rw[ycv h1,ycv (.inr h1)]
 ·rw[ycw h1,ycw (show ¬(e=.z∨e=.c .z 1 .z) from λz=>z.elim h h1)];split<;> rfl
theorem qw (e:O) (te:List Nat):(gn e te).length<=te.length+3:=by
 unfold gn;split
 ·simp
 ·split<;> simp
theorem CT {y r:O} {m:Int} (h:(O.c y m r).NF):BL (.c y m r)=decide (y=.z):=by
 cases y with
 | z=>
   have hr:=O.Lt_z h.2.2.1;subst hr
   rfl
 | c a b d=>simp[BL]
theorem oW:∀a:O,(gm a).length=a.len
 | .z=>rfl
 | .c e n r=>by simp only[gm,length_cons,oW r,O.len]
theorem E9 {d k:Nat} (F:cv K "_law_shown" "_law_shown" (aA 62) f fd) (F1:Fx P w K mg base "_law_shown" ["_law_number"] k (xw d)) (ms:mg "str"=none):cB P w K mg base (k+1) f fd ["_law_number"] (xw (d+1)):=by
 refine fm F (N:=["_law_number","_law_parts","_law_exponent","_law_many","_law_inside"]) (by walk_at "s") (by walk_at "l") λ_ _ _ _ _ _ nd hr=>?_;apply aN
 ·refine' ac ?s1 (ac ?s2 (ac ?s3 (aM (aq (uJ [43] ?e1)))))
  case s1=>exact(ao 1 nd rfl (.inl rfl) (bA ag))
  case s2=>exact(dW PySem.PassesOwn.never rfl (bS (aa 0)) (nW rfl (eB (cf 2 nd rfl (.inl rfl)) (eB (cf 3 nd rfl (.inl rfl)) kH))) (ac (ao 4 nd rfl (.inl rfl) aF) (ac (aL (cQ (cx (au (dM hr) (aa 2) (aU ag)) (bV (au (dM hr) (aa 2) (aU (ae (aU (ae (aU ag) (ae ah ag))) ag)))))) (ac (ao 4 nd rfl (.inl rfl) (aD F1 (ay.mono hr (by lia)) rfl (ae (aa 2) ag))) (ac (aL (cQ (cx (au (dM hr) (aG aI (aG aI (aa 2) ah) ah) (aU ag)) (bV (au (dM hr) (aa 2) (aU (ae (aU (ae (aU (ae (aU (ae (aU ag) (ae ah ag))) ag)) (ae ah ag))) ag)))))) (ac (ao 4 nd rfl (.inl rfl) (av aE (av aE aF (aa 4)) aF)) af) af) (ac (ao 4 nd rfl (.inl rfl) (av aE aF (aa 4))) af))) af) (ac (aL (au (ba hr) (aa 2) (aU ag)) (ac (bu (cR (aa 1) (cU uD rfl ms PyProof.Rows.boot_str (ae (aa 3) ag)))) af) (ac (aL (au gv (aa 3) ah) (ac (bu (cR (aa 1) (av aE (av aE (av aE aF (aa 4)) aF) (cU uD rfl ms PyProof.Rows.boot_str (ae (aa 3) ag))))) af) (ac (bu (cR (aa 1) (av aE aF (aa 4)))) af)) af)) af))))
  case s3=>exact(aL (au (ba hr) (aa 1) (bA ag)) (ac (aq aF) af) af)
  case e1=>exact(aa 1)
 ·rintro ws G q e ⟨a,rfl,hS,hd,hd60,hq⟩;have hla:=O.len_le_size a;have hs:=hS.2.1;have hln:=hS.len;walk_at "a0";intro p hp;subst hU;refine aB λU0 hU0=>?_;walk_at "R";refine bZ (λws τ G'=>∃(r:O) (dn:List (List Nat)) (t2 t3 t4:Option W),ws=am r/\τ=[some (.tup (am a)),some (.ref p),t2,t3,t4]/\aC G G'/\G' p=some (.lst (dn.map λl=>W.str ⟨l.toArray⟩))/\dn++gm r=gm a/\xv r/\r.dp<d+1) ?_ ?_ _ _ _ ⟨a,[],_,_,_,rfl,rfl,aC.new hp,ak,rfl,hS,hd⟩
  ·rintro τ G' ⟨r,dn,t2,t3,t4,hw,rfl,hle,hG,hdn,_,_⟩;cases r with
   | c y n r=>cases hw
   | z=>
     refine⟨trivial,?_⟩;have hdn:dn=gm a:=by rw[←hdn];exact(append_nil _).symm
     subst hdn;subst hU0;dsimp only;walk_at "a0";intro p1 hp1;refine⟨_,.nil (aK hG hp1) ak,?_⟩;cases a with
     | z=>
       rw[ycv (by rfl)];exact⟨G,hle.trans (aC.new hp1),hq⟩
     | c x n r=>
       rw[ycw (by simp[gm])];subst hU;unfold uI;walk_at "R";have h1:=nE (.c x n r) (by simp);refine⟨p,gm (.c x n r),rfl,aK hG hp1,by (clear hd60 hd hla hs;lia),G,hle.trans (aC.new hp1),?_⟩;rw[kr _ (by simp)];exact hq
  ·rintro w1 ws τ G' kk ⟨r,dn,t2,t3,t4,hw,rfl,hle,hG,hdn,hSr,hdr⟩ hk;cases r with
   | z=>cases hw
   | c x n r=>
     rw[bv] at hw;cases hw;refine⟨trivial,?_⟩;obtain⟨sx,sr,hn1,hn2⟩:=hSr.pt;simp only[O.dp] at hdr;have hlx:=sx.len;have hil:=qw x (dL bg x);have hda:=bX x;obtain⟨f1,f2⟩:=qh (n:=n) (by (clear hd hd60 hla hs hln hdr hlx hil hda;lia)) hn2;have hnn:((n.toNat:Nat):Int)=n:=Int.toNat_of_nonneg (by (clear hd hd60 hla hs hln hdr hlx hil hda f1 f2;lia));have hdl:=congrArg List.length hdn;rw[length_append,oW,oW] at hdl;have next:∀t2 t3 t4,(∃xs,G' p=some (GO.lst xs))/\∃ys,G' p=some (.lst ys)/\ys.length<=99999/\kk [some (.tup (am a)),some (.ref p),t2,t3,t4] (aX G' p (.lst (ys++[.str (bq (gf bg x n (dL bg x)))]))):=λt2 t3 t4=>by
      refine⟨⟨_,hG⟩,_,hG,by rw[length_map];(clear hd hd60 hln hdr hn1 hn2 hlx hil hda f1 f2 hnn;lia),hk _ _ ⟨r,dn++[gf bg x n (dL bg x)],_,_,_,rfl,rfl,aC.put hle hp,?_,?_,sr,by (clear hd hd60 hla hs hln hlx hil hda f1 f2 hdl;lia)⟩⟩
      ·rw[ak,map_append]
       rfl
      ·rw[append_assoc];exact hdn
     unfold dh fk;simp only[vG,pf,vF,fe,List.set_cons_succ,List.set_cons_zero];refine⟨rfl,?_⟩;walk_at "a0";subst hU;refine aB λU hU=>?_;have fin:∀D:dI,D.nx=kk->U D [some (.tup (am a)),some (.ref p),some (.tup (am x)),some (.int n),some (.str (bq (gn x (dL bg x))))] G':=λD hD=>by
      subst hD;subst hU;walk_at "R";refine⟨bb x,by (clear hd hla hs hln hlx hil f1 f2 hdl;lia),?_⟩;rw[bI];unfold gf at next
      by_cases hz:x=.z
      ·rw[ycv (by simpa using hz)];rw[ycv hz] at next;obtain⟨h1,h2⟩:=next (some (.tup (am x))) (some (.int n)) (some (.str (bq (gn x (dL bg x)))));exact⟨h1,n.toNat,hnn.symm,f1,h2⟩
      ·rw[ycw (by simpa using hz)];rw[ycw hz,qt hz] at next;refine cg (λh1=>?_) λh1=>?_
       ·rw[ycw (by (clear hd hd60 hla hs hln hdr hlx hil hda f1 f2 hdl;lia))] at next;obtain⟨h1,h2⟩:=next (some (.tup (am x))) (some (.int n)) (some (.str (bq (gn x (dL bg x)))));refine⟨h1,by rw[show Str.ofString "w"=bq [119] from rfl,aQ,aQ,length_singleton];(clear hd hd60 hla hs hln hdr hn1 hn2 hda f1 f2 hnn hdl;lia),?_⟩;rw[show Str.ofString "w"=bq [119] from rfl,show Str.ofString "*"=bq [42] from rfl,nD [119] (gn x (dL bg x)),nD ([119]++gn x (dL bg x)) [42]];refine⟨by rw[aQ,aQ];simp only[length_append,length_cons,length_nil];(clear hd hd60 hla hs hln hdr hn1 hn2 hda f1 f2 hnn hdl;lia),n.toNat,hnn.symm,f1,?_⟩;have e2:=nD ([119]++gn x (dL bg x)++[42]) (bg n.toNat);rw[e2];have e3:[119]++gn x (dL bg x)++[42]++bg n.toNat=119::gn x (dL bg x)++42::bg n.toNat:=by simp
        rw[e3];refine⟨?_,h2⟩;have e4:=aQ (bg n.toNat);rw[e4,aQ];simp only[length_append,length_cons,length_nil]
        (clear hd hd60 hla hs hln hdr hn1 hn2 hda f1 hnn hdl;lia)
       ·rw[ycv (by (clear hd hd60 hla hs hln hdr hlx hil hda f1 f2 hdl;lia))] at next;obtain⟨h1,h2⟩:=next (some (.tup (am x))) (some (.int n)) (some (.str (bq (gn x (dL bg x)))));refine⟨h1,by rw[show Str.ofString "w"=bq [119] from rfl,aQ,aQ,length_singleton];(clear hd hd60 hla hs hln hdr hn1 hn2 hda f1 f2 hnn hdl;lia),?_⟩;rw[show Str.ofString "w"=bq [119] from rfl,nD [119] (gn x (dL bg x))];exact h2
     generalize hD:({ nx:=kk,rt:=λw G1=>∃G0,aC G0 G1/\q w G0,bk:=U0 { nx:=λx G1=>∃G0,aC G0 G1/\q W.non G0,rt:=λw G1=>∃G0,aC G0 G1/\q w G0 },ct:=kk }:dI)=D;have fin:=fin D (by rw[←hD]);walk_at "R";refine⟨bb x,by (clear hd hla hs hln hlx hil f1 f2 hdl;lia),?_⟩;rw[bI];unfold gn at fin
     by_cases hz:x=.z
     ·rw[ycw (by simpa using hz)];rw[ycv (.inl hz)] at fin;exact fin
     rw[ycv (by simpa using hz)];refine⟨bb x,by rfl,by (clear hd hla hs hln hlx hil f1 f2 hdl;lia),?_⟩;rw[show W.tup [W.tup [W.tup [],W.int 1]]=W.tup (am (.c .z 1 .z)) from rfl,gh]
     by_cases h1:x=.c .z 1 .z
     ·rw[ycw (by simpa using h1)];rw[ycv (.inr h1)] at fin;exact fin
     rw[ycv (by simpa using h1)];rw[ycw (show ¬(x=.z∨x=.c .z 1 .z) from λz=>z.elim hz h1)] at fin;refine⟨x,rfl,sx,by (clear hd hd60 hla hs hln hlx hil hda f1 f2 hdl;lia),by (clear hd hla hs hln hdr hn1 hn2 hlx hil hda f1 f2 hnn hdl;lia),?_⟩;cases x with
     | z=>exact absurd rfl hz
     | c y m r'=>
       have hy:=bX y;rw[CT sx.1] at fin;refine⟨_,ce (j:=0) rfl,?_⟩;walk_at "R";simp only[O.dp] at hdr hda;have short:(y=.z∨O.c y m r'=om)->(Str.ofString "^").length+(bq (dL bg (.c y m r'))).length<=100000/\U D [some (W.tup (am a)),some (W.ref p),some (W.tup (am (.c y m r'))),some (W.int n),some (W.str (Str.ofString "^"++bq (dL bg (.c y m r'))))] G':=λh=>by
        rw[ycv (h.imp (λz=>ydz z) id)] at fin;rw[show Str.ofString "^"=bq [94] from rfl,nD [94] (dL bg (.c y m r')),aQ,aQ,length_singleton];exact⟨by (clear hd hd60 hla hs hln hn1 hn2 f1 f2 hnn hdr hil hda hdl hy;lia),fin⟩
       refine⟨bb y,by (clear hd hla hs hln hn1 hn2 f1 f2 hnn hlx hil hda hdl;lia),?_⟩;rw[bI]
       by_cases hy0:y=.z
       ·rw[ycw (by simpa using hy0)];exact short (.inl hy0)
       rw[ycv (by simpa using hy0)];refine⟨bb _,by rfl,by (clear hd hla hs hln hn1 hn2 f1 f2 hnn hlx hil hdl hy;lia),?_⟩;rw[show W.tup [W.tup [W.tup (am (O.z.c 1 O.z)),W.int 1]]=W.tup (am om) from rfl,gh]
       by_cases hyo:O.c y m r'=om
       ·rw[ycw (by simpa using hyo)];exact short (.inr hyo)
       rw[ycv (by simpa using hyo)];rw[ycw (λz=>z.elim (λz=>hy0 (of_decide_eq_true z)) hyo)] at fin;rw[show Str.ofString "^"=bq [94] from rfl,show Str.ofString "("=bq [40] from rfl,show Str.ofString ")"=bq [41] from rfl,nD [40] (dL bg (.c y m r')),nD ([40]++dL bg (.c y m r')) [41],nD [94] ([40]++dL bg (.c y m r')++[41])];simp only[aQ,length_append,length_cons,length_nil];exact⟨by (clear hd hd60 hla hs hln hn1 hn2 f1 f2 hnn hdr hil hda hdl hy;lia),by (clear hd hd60 hla hs hln hn1 hn2 f1 f2 hnn hdr hil hda hdl hy;lia),by (clear hd hd60 hla hs hln hn1 hn2 f1 f2 hnn hdr hil hda hdl hy;lia),fin⟩
theorem CU (T:Txt K mg):∀d:Nat,Fx P w K mg base "_law_shown" ["_law_number"] d (xw d)
 | 0=>T.d__law_shown.fx λf fd F=>cB.none λws G q e ⟨a,_,_,h,_⟩=>by walk_at "om"
 | d+1=>T.d__law_shown.fx λf fd F=>E9 F (CU T d) T.z_str
noncomputable def xx (d:Nat):bJ:=λws G q _=>∃a b:O,ws=[.tup (am a),.tup (am b)]/\a.dp<d/\q (.int (O.cmp a b)) G
noncomputable def CV:bJ:=λws G q _=>∃(a x:O) (n:Int),ws=[.tup (am a),.tup (am x),.int n]/\a.dp<=60/\a.size<=1000/\q (.tup (am (O.withO a x n))) G
noncomputable def xy (d:Nat):bJ:=λws G q _=>∃a:O,ws=[.tup (am a)]/\a.dp<d/\a.size<=1000/\q (.int a.size) G
noncomputable def dm:List O:=[.z,.c .z 1 .z,.c (.c .z 1 .z) 1 .z]
noncomputable def u5 (B:Int) (o:O):Prop:=O.Good B o/\o.size<=12
theorem u5.mono {B B':Int} {o:O} (h:u5 B o) (k:B<=B'):u5 B' o:=⟨h.1.mono k,h.2⟩
noncomputable def CW:bJ:=λws G q _=>∃(p:Addr) (pool:List O) (cell B:Int),ws=[.ref p,.int cell]/\G p=some (.lst (cu pool))/\0<pool.length/\pool.length<=100/\1<=B/\(∀o,o∈pool->u5 B o)/\∀o,u5 (B+10^50) o->q (.tup (am o)) G
noncomputable def CY:bJ:=λws G q _=>∃ns:List Int,ws=[.scr ns]/\ns.length<=63/\∀(p:Addr) (more:List O),G p=none->more.length<=8->(∀o,o∈dm++more->u5 (10^52) o)->q (.ref p) (aX G p (.lst (cu (dm++more))))
theorem Fa {d k:Nat} (hd:d<=60) (F:cv K "_law_compare" "_law_compare" (aA 57) f fd) (F1:Fx P w K mg base "_law_compare" ["_law_a","_law_b"] k (xx d)) (ml:mg "len"=none) (mz:mg "zip"=none):cB P w K mg base (k+1) f fd ["_law_a","_law_b"] (xx (d+1)):=by
 refine fm F (N:=["_law_a","_law_b","_law_one","_law_other","_law_side"]) (by walk_at "s") (by walk_at "l") λ_ _ _ _ _ _ nd hr=>?_;apply aN
 ·exact(ac (dW PySem.PassesOwn.never rfl (zv rfl mz (ae (aa 0) (ae (aa 1) ag))) (nW rfl (eB (cf 2 nd rfl (.inl rfl)) (eB (cf 3 nd rfl (.inl rfl)) kH))) (ac (ao 4 nd rfl (.inl rfl) (aD F1 (ay.mono hr (by lia)) rfl (ae (aG aI (aa 2) ah) (ae (aG aI (aa 3) ah) ag)))) (ac (aL (au (ba hr) (aa 4) ah) (ac (ao 4 nd rfl (.inl rfl) (av pk (cI gv (aG aI (aa 2) ah) (aG aI (aa 3) ah)) (cI (ff hr) (aG aI (aa 2) ah) (aG aI (aa 3) ah)))) af) af) (ac (aL (au (dM hr) (aa 4) ah) (ac (aq (aa 4)) af) af) af)))) (ac (aq (av pk (cI gv (aR bB rfl ml PySem.boot_len (ae (aa 0) ag)) (aR bB rfl ml PySem.boot_len (ae (aa 1) ag))) (cI (ff hr) (aR bB rfl ml PySem.boot_len (ae (aa 0) ag)) (aR bB rfl ml PySem.boot_len (ae (aa 1) ag))))) af))
 ·rintro ws G q e ⟨a,b,rfl,hx,hq⟩;walk_at "R";refine bZ (λws τ G'=>G'=G/\∃x y t2 t3 t4,ws=d7 (am x) (am y)/\τ=[some (.tup (am a)),some (.tup (am b)),t2,t3,t4]/\O.cmp a b=O.cmp x y/\a.len+y.len=b.len+x.len/\x.dp<d+1) ?_ ?_ _ _ _ ⟨rfl,a,b,none,none,none,rfl,rfl,rfl,by (clear hd hx;lia),hx⟩
  ·rintro τ G' ⟨rfl,x,y,t2,t3,t4,hz,rfl,hc,hl,hx'⟩;refine⟨trivial,?_⟩;walk_at "R";refine aC.done ?_;rw[aH,aH,p9,oN hl,←mY (wq hz.symm),←hc];exact hq
  ·rintro w1 ws τ G' k1 ⟨rfl,x,y,t2,t3,t4,hz,rfl,hc,hl,hx'⟩ hk;obtain⟨x1,n,r,x1',n',r',rfl,rfl,rfl,rfl⟩:=ui hz.symm;refine⟨trivial,?_⟩;unfold dh fk;walk_at "R";have hx2:x1.dp<d:=by simp only[O.dp] at hx';(clear hd hx hc hl;lia)
   refine⟨x1,x1',rfl,hx2,?_⟩;walk_at "R";have again:oK x1 n x1' n'=0->∀t2 t3 t4,k1 [some (.tup (am a)),some (.tup (am b)),t2,t3,t4] G':=λz t2 t3 t4=>by
    rw[x8,ycw (by simpa using z)] at hc;refine hk _ _ ⟨rfl,r,r',_,_,_,rfl,rfl,hc,?_,?_⟩
    ·simp only[O.len] at hl;(clear hd hx hx' hc hx2 z;lia)
    ·simp only[O.dp] at hx';(clear hd hx hc hl hx2 z;lia)
   have leave:oK x1 n x1' n'≠0->q (.int (oK x1 n x1' n')) G':=λz=>by
    rw[hc,x8,ycv z] at hq;exact hq
   unfold oK at again leave;rw[p9];split
   ·rename_i h;rw[ycw (by simpa using h)] at again leave;split
    ·rename_i h2;exact aC.done (leave h2)
    ·rename_i h2;exact again (by simpa using h2) _ _ _
   ·rename_i h;rw[ycv h] at leave;exact aC.done (leave h)
theorem CZ (T:Txt K mg):∀d:Nat,d<=60->Fx P w K mg base "_law_compare" ["_law_a","_law_b"] d (xx d)
 | 0,_=>T.d__law_compare.fx λf fd F=>cB.none λws G q e ⟨a,b,_,h,_⟩=>by walk_at "om"
 | d+1,h=>T.d__law_compare.fx λf fd F=>Fa (by walk_at "om") F (CZ T d (by walk_at "om")) T.z_len T.z_zip
theorem Fb (F:cv K "_law_with" "_law_with" (aA 58) f fd) (F1:Fx P w K mg base "_law_compare" ["_law_a","_law_b"] 60 (xx 60)) (ms:mg "sum"=none) (mt:mg "tuple"=none):cB P w K mg base 61 f fd ["_law_number","_law_exponent","_law_many"] CV:=by
 refine fm F (N:=["_law_number","_law_exponent","_law_many","_law_above","_law_below","_law_same"]) (by walk_at "s") (by walk_at "l") λ_ _ _ _ _ _ nd hr=>?_;apply aN
 ·exact(ac (kJ 3 (d8 (by first | rfl | decide+kernel)) rfl nd rfl (.inl rfl) (bS (aa 0)) (λ_ _ _ _=>(cK 1 (by first | assumption | decide+kernel | rfl) rfl (.inl rfl))) (λ_ _ _ _=>(kI (au gv (aD F1 (ay.mono hr (by lia)) rfl (ae (aG aI (aa 1) ah) (ae (aa 3 rfl (.inr (.inl rfl))) ag))) ah))) (λ_ _ _ _=>(aa 1))) (ac (kJ 4 (d8 (by first | rfl | decide+kernel)) rfl nd rfl (.inl rfl) (bS (aa 0)) (λ_ _ _ _=>(cK 1 (by first | assumption | decide+kernel | rfl) rfl (.inl rfl))) (λ_ _ _ _=>(kI (au (ff hr) (aD F1 (ay.mono hr (by lia)) rfl (ae (aG aI (aa 1) ah) (ae (aa 3 rfl (.inr (.inl rfl))) ag))) ah))) (λ_ _ _ _=>(aa 1))) (ac (ao 5 nd rfl (.inl rfl) (aR (xR rfl) rfl ms xU (ae (eQ (d8 (by first | rfl | decide+kernel)) rfl (bS (aa 0)) (λ_ _ _ _=>(cK 1 (by first | assumption | decide+kernel | rfl) rfl (.inl rfl))) (λ_ _ _ _=>(kI (au (ba hr) (aG aI (aa 1) ah) (aa 2 rfl (.inr (.inl rfl)))))) (λ_ _ _ _=>(aG aI (aa 1) ah))) ag))) (ac (aq (cU iA rfl mt eR (ae (av aE (av aE (aa 3) (bA (ae (aU (ae (aa 1 rfl (.inr (.inl rfl))) (ae (av aE (aa 5) (aa 2)) ag))) ag))) (aa 4)) ag))) af))))
 ·rintro ws G q e ⟨a,x,n,rfl,hx,hsz,hq⟩;have hl:a.len<=1000:=ycy (O.len_le_size a) hsz;walk_at "a0";show cF _ _ _ _ _ [none,none,none,some (W.tup (am x))] G [] _;refine cM (λe _=>decide (0<O.cmp e x)) dh trivial (eZ a) (λy m hy k hk=>?_) (λy m _ _ k hk=>?_) (by simp;lia) (λ_=>rfl) λp1 hp1=>?_
  ·unfold dh fk;walk_at "R";exact⟨y,x,rfl,by (clear hsz hl;lia),hk⟩
  ·walk_at "R";exact hk
  subst hU;rw[nil_append,jg];walk_at "a0";show cF _ _ _ _ _ [none,none,none,some (W.tup (am x))] _ [] _;refine cM (λe _=>decide (O.cmp e x<0)) dh trivial (eZ a) (λy m hy k hk=>?_) (λy m _ _ k hk=>?_) (by simp;lia) (λ_=>rfl) λp2 hp2=>?_
  ·unfold dh fk;walk_at "R";exact⟨y,x,rfl,by (clear hsz hl;lia),hk⟩
  ·walk_at "R";exact hk
  subst hU;rw[nil_append,jg];walk_at "a0";show cF _ _ _ _ _ [none,none,some (W.tup (am x))] _ [] _;refine cM (λe _=>decide (e=x)) (λ_ n=> .int n) trivial (eZ a) (λy m hy k hk=>?_) (λy m _ _ k hk=>?_) (by simp;lia) (λ_=>rfl) λp3 hp3=>?_
  ·unfold dh fk;walk_at "R";have:=bX y;refine⟨bb y,bb x,by (clear hsz hl hp2;lia),?_⟩;rw[gh];exact hk
  ·unfold dh fk;walk_at "R";exact hk
  obtain⟨ns,h1,h2⟩:=j8 x a;rw[nil_append,h1];refine⟨ns,ak,?_⟩;subst hU;rw[h2];have c1:G p1=none:=hp1;have g1:=ak (G:=G) (a:=p1) (g:=GO.lst (am (O.filt (λe _=>decide (0<e.cmp x)) a)));have g1':=aK (g:=GO.lst (am (O.filt (λe _=>decide (e.cmp x<0)) a))) g1 hp2;have g2:=ak (G:=aX G p1 (GO.lst (am (O.filt (λe _=>decide (0<e.cmp x)) a)))) (a:=p2) (g:=GO.lst (am (O.filt (λe _=>decide (e.cmp x<0)) a)));have k1:=aK (g:=GO.lst (ns.map W.int)) g1' hp3;have k2:=aK (g:=GO.lst (ns.map W.int)) g2 hp3;have le:aC G (aX (aX (aX G p1 (GO.lst (am (O.filt (λe _=>decide (0<e.cmp x)) a)))) p2 (GO.lst (am (O.filt (λe _=>decide (e.cmp x<0)) a)))) p3 (GO.lst (ns.map W.int))):=((aC.new hp1).trans (aC.new hp2)).trans (aC.new hp3);generalize aX (aX (aX G p1 (GO.lst (am (O.filt (λe _=>decide (0<e.cmp x)) a)))) p2 (GO.lst (am (O.filt (λe _=>decide (e.cmp x<0)) a)))) p3 (GO.lst (ns.map W.int))=G3 at k1 k2 le ⊢;walk_at "R";intro p4 h4;have l1:=fB (λe _=>decide (0<O.cmp e x)) a;have l2:=fB (λe _=>decide (O.cmp e x<0)) a;refine⟨_,_,aK k1 h4,ak,by rw[aH];simp;(clear hx hsz hp2 hp3 h2 g1 g1' g2 k1 k2 l2;lia),λp5 h5=>⟨_,_,ak,aK (aK k2 h4) h5,by rw[length_append,aH,aH];simp;(clear hx hsz hp2 hp3 h2 g1 g1' g2 k1 k2;lia),λp6 h6=>⟨_,ak,G,le.trans ((aC.new h4).trans ((aC.new h5).trans (aC.new h6))),?_⟩⟩⟩;unfold O.withO at hq;rw[fA,bv] at hq;rw[append_assoc];exact hq
theorem Fc {d k:Nat} (F:cv K "_law_size" "_law_size" (aA 59) f fd) (F1:Fx P w K mg base "_law_size" ["_law_number"] k (xy d)) (ml:mg "len"=none) (ms:mg "sum"=none):cB P w K mg base (k+1) f fd ["_law_number"] (xy (d+1)):=by
 refine fm F (N:=["_law_number"]) (by walk_at "s") (by walk_at "l") λ_ _ _ _ _ _ nd hr=>?_;apply aN
 ·exact(ac (aq (av aE (aR bB rfl ml PySem.boot_len (ae (aa 0) ag)) (aR (xR rfl) rfl ms xU (ae (eQ (d8 (by first | rfl | decide+kernel)) rfl (bS (aa 0)) (λ_ _ _ _=>(cK 1 (by first | assumption | decide+kernel | rfl) rfl (.inl rfl))) (λ_ _ _ _=>eP) (λ_ _ _ _=>(aD F1 (ay.mono hr (by lia)) rfl (ae (aG aI (aa 1) ah) ag)))) ag)))) af)
 ·rintro ws G q e ⟨a,rfl,hx,hsz,hq⟩;have hl:a.len<=1000:=ycy (O.len_le_size a) hsz;walk_at "R";show cF _ _ _ _ _ [none,none,none] G [] _;refine cM (λ_ _=>true) (λe _=> .int e.size) trivial (eZ a) (λy m hy k hk=>?_) (λy m hy _ k hk=>?_) (by simp;lia) (λ_=>rfl) λp1 hp1=>?_
  ·walk_at "R";exact hk
  ·unfold dh fk;walk_at "R";exact⟨y,rfl,by (clear hsz hl;lia),by (clear hx hl;lia),hk⟩
  obtain⟨ns,h1,h2⟩:=j7 a;rw[nil_append,h1];refine⟨ns,ak,G,aC.new hp1,?_⟩;rw[aH,h2];exact hq
theorem C1 (T:Txt K mg):∀d:Nat,Fx P w K mg base "_law_size" ["_law_number"] d (xy d)
 | 0=>T.d__law_size.fx λf fd F=>cB.none λws G q e ⟨a,_,h,_⟩=>by walk_at "om"
 | d+1=>T.d__law_size.fx λf fd F=>Fc F (C1 T d) T.z_len T.z_sum
theorem Fd (F:cv K "_law_next" "_law_next" (aA 60) f fd) (F1:Fx P w K mg base "_law_with" ["_law_number","_law_exponent","_law_many"] 61 CV) (F2:Fx P w K mg base "_law_size" ["_law_number"] 60 (xy 60)) (ml:mg "len"=none):cB P w K mg base 62 f fd ["_law_pool_here","_law_cell"] CW:=by
 refine fm F (N:=["_law_pool_here","_law_cell","_law_one","_law_other","_law_many","_law_way","_law_made"]) (by walk_at "s") (by walk_at "l") λ_ _ _ _ _ _ nd hr=>?_;apply aN
 ·exact(ac (ao 1 nd rfl (.inl rfl) (av cy (aa 1) (av gY ah ah))) (ac (ao 2 nd rfl (.inl rfl) (aG aI (aa 0) (av cy (av cy (av e9 (aa 1) ah) ah) (aR bB rfl ml PySem.boot_len (ae (aa 0) ag))))) (ac (ao 3 nd rfl (.inl rfl) (aG aI (aa 0) (av cy (av cy (av e9 (aa 1) ah) ah) (aR bB rfl ml PySem.boot_len (ae (aa 0) ag))))) (ac (ao 4 nd rfl (.inl rfl) (av aE ah (aG aI (bA (ae (av cy (av cS (aa 1) ah) ah) (ae (av cy (av cS (aa 1) ah) (av gY ah ah)) ag))) (av cy (av cS (aa 1) ah) ah)))) (ac (ao 5 nd rfl (.inl rfl) (av cy (aa 1) ah)) (ac (aL (au (ba hr) (aa 5) ah) (ac (aq (bD (aa 2) bK (bc (dY ah)))) af) af) (ac (aL (au (ba hr) (aa 5) ah) (ac (aq (bD (aa 2) (bc (dY ah)) bK)) af) af) (ac (aL (au (ba hr) (aa 5) ah) (ac (aq (aU (ae (aU (ae (aU ag) (ae (aa 4) ag))) ag))) af) af) (ac (aL (cQ (cx (au (ba hr) (aa 5) ah) (bV (au (dM hr) (aa 2) (aU ag))))) (ac (ao 3 nd rfl (.inl rfl) (aG aI (aG aI (aa 2) (dY ah)) ah)) (ac (ao 4 nd rfl (.inl rfl) ah) af)) af) (ac (ao 6 nd rfl (.inl rfl) (aD F1 (ay.mono hr (by lia)) rfl (ae (aa 2) (ae (aa 3) (ae (aa 4) ag))))) (ac (aL (au gv (aD F2 (ay.mono hr (by lia)) rfl (ae (aa 6) ag)) ah) (ac (aq (aa 2)) af) af) (ac (aq (aa 6)) af))))))))))))
 ·rintro ws G q e ⟨p,pool,cell,B,rfl,hG,h0,hl,hB,hg,hq⟩;walk_at "a0";subst hU;generalize hc:cell%_=cl;walk_at "a0";simp only[hG,Option.some.injEq,GO.lst.injEq,exists_eq_left',bR];refine⟨_,.lst hG,by rw[bR];(clear hB hc;lia),?_⟩;rw[bR];refine x9<|ng rfl h0 λo1 m1=>?_;walk_at "a";simp only[hG,Option.some.injEq,GO.lst.injEq,exists_eq_left',bR];refine⟨_,.lst hG,by rw[bR];(clear hB hc;lia),?_⟩;rw[bR];refine x9<|ng rfl h0 λo2 m2=>?_;walk_at "a";intro p1 h1;refine jf ak (um (lo:=0) (hi:=1000000) (by (clear h0 hl hB hc;lia)) (by (clear h0 hl hB hc;lia)) λm hm1 hm2=>?_);walk_at "R";have le:aC G (aX G p1 (GO.lst [W.int (cl/8%5),W.int (cl/16%1000000)])):=aC.new h1;generalize aX G p1 (GO.lst [W.int (cl/8%5),W.int (cl/16%1000000)])=G1 at le ⊢;have g1:=(hg o1 m1).1;have s1:=(hg o1 m1).2;have g2:=(hg o2 m2).1;have ret:∀o,O.Good (B+10^50) o->o.size<=12->∃G0,aC G0 G1/\q (.tup (am o)) G0:=λo ho hs=>⟨G,le,hq o ⟨ho,hs⟩⟩;walk_at "a";subst hU;generalize hw:cl%8=way
  -- way 4
  walk_at "a0";split
  ·rw[mZ];exact ret _ (g1.init.mono (by (clear h0 hl hB hc hm1 hm2 s1 hw;lia))) (ycy (O.size_init o1) s1)
  subst hU
  -- way 5
  walk_at "a0";split
  ·rw[uk];exact ret _ (g1.last.mono (by (clear h0 hl hB hc hm1 hm2 s1 hw;lia))) (ycy (O.size_last o1) s1)
  subst hU
  -- way 6
  walk_at "a0";split
  ·exact ret (.c .z (1+m) .z) (.whole (by (clear h0 hl hB hc s1 hw;lia)) (by (clear h0 hl hc s1 hw;lia))) (show 1+0+0<=12 by decide)
  subst hU
  -- way 7, and the end
  refine aB λU hU=>?_;have fin:∀(o:O) (n:Int),O.Good B o->1<=n->n<=1000000->U { nx:=λx G1=>∃G0,aC G0 G1/\q W.non G0,rt:=λw G1=>∃G0,aC G0 G1/\q w G0 } [some (W.ref p),some (W.int cl),some (W.tup (am o1)),some (W.tup (am o)),some (W.int n),some (W.int way),none] G1:=λo n ho hn1 hn2=>by
   walk_at "a";have hd1:=g1.dp;have hd2:=ho.dp;have hs1:=g1.sz;have hs2:=ho.sz;refine⟨o1,o,n,rfl,by walk_at "om",by walk_at "om",?_⟩;subst hU;have hs3:=O.size_with o1 o n;have hd3:=O.dp_with o1 o n;walk_at "R";refine⟨_,rfl,by (clear h0 hl hB hc hm1 hm2 s1 hw hn1 hn2 hs1 hs2 hs3;lia),by (clear h0 hl hB hc hm1 hm2 hw hn1 hn2 hd1 hd2 hs1 hd3;lia),?_⟩;walk_at "R";split
   ·exact ret _ (g1.mono (by (clear h0 hl hB hc hm1 hm2 s1 hw hn1 hn2 hd1 hd2 hs1 hs2 hs3 hd3;lia))) s1
   ·exact ret _ ((g1.with ho hn1 (by (clear h0 hl hB hc hm1 hm2 s1 hw hn1 hn2 hd1 hd2 hs1 hs2 hs3 hd3;lia))).mono (by (clear h0 hl hB hc hm1 hm2 s1 hw hd1 hd2 hs1 hs2 hs3 hd3;lia))) (by (clear h0 hl hB hc hm1 hm2 s1 hw hn1 hn2 hd1 hd2 hs1 hs2 hs3 hd3;lia))
  walk_at "R";have plain:=fin o2 (1+m) g2 (by (clear h0 hl hB hc s1 hw;lia)) (by (clear h0 hl hB hc s1 hw;lia));split
  ·have hd1:=bX o1;have hd2:=g1.dp;refine⟨bb o1,by (clear h0 hl hB hc hm1 hm2 s1 hw;lia),?_⟩;rw[bI];split
   ·rename_i hz;have hz':o1≠ .z:=by simpa using hz
    obtain⟨x,n,_,hp⟩:=oO hz';refine⟨_,eY hp,?_⟩;unfold dh fk;walk_at "R";exact fin x 1 (g1.part hp).1 (by (clear h0 hl hB hc hm1 hm2 s1 hw hd1 hd2;lia)) (by (clear h0 hl hB hc hm1 hm2 s1 hw hd1 hd2;lia))
   ·exact plain
  ·exact plain
theorem Fe (F:cv K "_law_pool" "_law_pool" (aA 61) f fd) (F1:Fx P w K mg base "_law_next" ["_law_pool_here","_law_cell"] 62 CW):cB P w K mg base 63 f fd ["_law_script"] CY:=by
 refine fm F (N:=["_law_script","_law_pool_here","_law_cell"]) (by walk_at "s") (by walk_at "l") λ_ _ _ _ _ _ nd hr=>?_;apply aN
 ·exact(ac (ao 1 nd rfl (.inl rfl) (bA (ae (aU ag) (ae (aU (ae (aU (ae (aU ag) (ae ah ag))) ag)) (ae (aU (ae (aU (ae (aU (ae (aU (ae (aU ag) (ae ah ag))) ag)) (ae ah ag))) ag)) ag))))) (ac (dW PySem.PassesOwn.never rfl (bS (bD (aa 0) bK (bc ah))) (cf 2 nd rfl (.inl rfl)) (ac (bu (cR (aa 1) (aD F1 (ay.mono hr (by lia)) rfl (ae (aa 1) (ae (aa 2) ag))))) af)) (ac (aq (aa 1)) af)))
 ·rintro ws G q e ⟨ns,rfl,hl,hq⟩;walk_at "a0";intro p hp;walk_at "a";have e8:dF (ns.map W.int) none (some 8)=(ns.take 8).map W.int:=by rw[show(8:Int)=((8:Nat):Int) from rfl,uj,List.map_take]
  rw[e8];refine⟨by walk_at "om",λp2 hp2=>⟨_,ak,?_⟩⟩;have h3:[W.tup [],W.tup [W.tup [W.tup [],W.int 1]],W.tup [W.tup [W.tup [W.tup [W.tup [],W.int 1]],W.int 1]]]=cu (dm++[]):=rfl;rw[h3] at hp2 ⊢;have hne:p2≠p:=λz=>by rw[z,ak] at hp2;cases hp2
  have g3:∀o,o∈dm++([]:List O)->u5 (1+(([]:List O).length:Int)*10^50) o:=λo ho=>by
   simp[dm] at ho;rcases ho with rfl | rfl | rfl
   ·exact⟨⟨trivial,by simp[O.size],by first | decide | (simp[O.mx];lia)⟩,by decide⟩
   ·exact⟨⟨⟨trivial,by (clear hl;lia),trivial,trivial⟩,by simp[O.size],by first | decide | (simp[O.mx];lia)⟩,by decide⟩
   ·exact⟨⟨⟨⟨trivial,by (clear hl;lia),trivial,trivial⟩,by (clear hl;lia),trivial,trivial⟩,by simp[O.size],by first | decide | (simp[O.mx];lia)⟩,by decide⟩
  refine bZ (λws τ G'=>∃(cs:List Int) (more:List O) (t:Option W),ws=cs.map W.int/\τ=[some (.scr ns),some (.ref p),t]/\G' p=some (.lst (cu (dm++more)))/\G' p2=some (.lst ((ns.take 8).map W.int))/\aC G G'/\cs.length+more.length<=8/\∀o,o∈dm++more->u5 (1+(more.length:Int)*10^50) o) ?_ ?_ _ _ _
   ⟨ns.take 8,[],none,rfl,rfl,by rw[aV (Ne.symm hne)];exact ak,ak,(aC.new hp).trans (aC.new hp2),by simp;lia,g3⟩
  ·rintro τ G' ⟨cs,more,t,hw,rfl,k1,k2,le,hlen,hg⟩;refine⟨k2,?_⟩;subst hU;walk_at "R";refine⟨aX G p (.lst (cu (dm++more))),λa g ea=>?_,hq p more hp (by (clear hl;lia)) λo ho=>(hg o ho).mono ?_⟩
   ·by_cases hb:a=p
    ·subst hb;rw[ak] at ea;rw[k1,ea]
    ·rw[aV hb] at ea;exact le a g ea
   ·have:more.length<=8:=by (clear hl;lia)
    (clear hl hlen;lia)
  ·rintro w1 ws τ G' kk ⟨cs,more,t,hw,rfl,k1,k2,le,hlen,hg⟩ hk;cases cs with
   | nil=>cases hw
   | cons c0 cs=>
     cases hw;refine⟨k2,?_⟩;simp only[length_cons] at hlen;walk_at "R";refine⟨⟨_,k1⟩,p,dm++more,c0,_,rfl,k1,by simp[dm],by simp[dm];(clear hl;lia),?_,hg,λo ho=>⟨_,k1,by rw[bR];simp[dm];(clear hl;lia),?_⟩⟩
     ·(clear hl hlen;lia)
     ·rw[eI,append_assoc];refine hk _ _ ⟨cs,more++[o],_,rfl,rfl,ak,by rw[aV hne];exact k2,λa g ea=>?_,by simp;(clear hl;lia),λo' ho'=>?_⟩
      ·rw[aV (λz=>by rw[z,hp] at ea;cases ea)];exact le a g ea
      ·have hc:((more++[o]).length:Int)=more.length+1:=by simp
       rw[hc];rw[←append_assoc] at ho';rcases mem_append.mp ho' with h | h
       ·exact(hg o' h).mono (by (clear hl hlen hc;lia))
       ·have:o'=o:=by simpa using h
        subst this;exact ho.mono (by (clear hl hlen hc;lia))
theorem lC (k:Nat) (hk:0<k):∀a:O,a.NF->(∀n:Int,n<=O.mx a->n.toNat<10^k)->(dL bg a).length<=(k+7)*a.size+1
 | .z,_,_=>by rw[show dL bg .z=[48] from rfl];simp
 | .c e n r,hn,hm=>by
   have h1:=lC k hk e hn.1 λm h=>hm m (ydv h O.mx_he);have h2:=lC k hk r hn.2.2.2 λm h=>hm m (ydv h O.mx_hr);have h3:=jn hk (hm n O.mx_hn);have h4:=qw e (dL bg e);have h5:(gf bg e n (dL bg e)).length<=(dL bg e).length+(k+5):=by
    unfold gf;split
    ·(clear hk h1 h2 h4;lia)
    ·rename_i he;rw[qt he];split
     ·simp only[length_cons]
      (clear h1 h2 h3;lia)
     ·simp only[length_append,length_cons]
      (clear hk h1 h2;lia)
   have h6:(fh bg r).length<=(dL bg r).length+1:=by
    cases r with
    | z=>simp[fh]
    | c e' n' r'=>simp[fh]
   rw[pP,length_append];have hs:O.size (.c e n r)=1+O.size e+O.size r:=rfl;rw[hs,Nat.mul_add,Nat.mul_add]
   (clear hk h3 h4 hs;lia)
theorem Ff {a:O} (h:mO a):(dL bg a).length<=721:=by
 have:=lC 53 (by decide) a h.1 λn hn=>by
  have h1:n<=10^52:=ydv hn h.2.2;have h2:(10:Int)^52<((10^53:Nat):Int):=by decide
  (clear hn h2;lia)
 have:=h.2.1;lia
theorem mO.sm {a:O} (h:mO a):xv a:=⟨h.1,by have:=h.2.1;lia,Int.lt_of_le_of_lt h.2.2 (by decide+kernel)⟩
theorem u5.sm {o:O} (h:u5 (10^52) o):mO o:=⟨h.1.nf,h.2,h.1.mx⟩
theorem uV {P:W->Prop} {k:bE} {v:W} {kvs:List (bE×W)} (h:∀x,x∈kvs->P x.2) (hv:P v):∀x,x∈jk kvs k v->P x.2:=λx hx=>by
 unfold jk at hx;split at hx
 ·obtain⟨y,hy,rfl⟩:=List.mem_map.mp hx;split
  ·exact hv
  ·exact h y hy
 ·rcases mem_append.mp hx with hx | hx
  ·exact h x hx
  ·rw[mem_singleton.mp hx];exact hv
theorem C3 {kvs:List (bE×W)} (h:∀x,x∈kvs->∃o,x.2=.tup (am o)):∃nm,xt kvs nm:=by
 have h2:∀l:List Nat,∃o:Option O,fE kvs (.inr (bq l))=o.map λb=> .tup (am b):=λl=>by
  unfold fE;cases e:kvs.find? λkv=>decide (kv.1=.inr (bq l)) with
  | none=>exact⟨none,rfl⟩
  | some x=>
    obtain⟨o,ho⟩:=h x (List.mem_of_find?_eq_some e);exact⟨some o,congrArg some ho⟩
 exact⟨λl=>(h2 l).choose,λl=>(h2 l).choose_spec⟩
theorem lD {xs:List W} {R:W->Prop} (c:Int) {n:Int} (hn:n=(xs.length:Int)) (h0:0<xs.length) (hR:∀x,x∈xs->R x):∃x,ei xs (c%n)=some x/\R x:=by
 have h1:=Int.emod_nonneg c (b:=n) (by walk_at "om");have h2:=Int.emod_lt_of_pos c (b:=n) (by (clear h1;lia));obtain⟨j,hj⟩:∃j:Nat,c%n=(j:Int):=⟨(c%n).toNat,(Int.toNat_of_nonneg h1).symm⟩;have hj2:j<xs.length:=by (clear h0 h1;lia)
 rw[hj];exact⟨xs[j],ce (ycz hj2),hR _ (getElem_mem hj2)⟩
theorem Fh {a b:Str} {R:Str->Prop} (ha:0<a.length) (hb:a.length+b.length<=1000) (h:∀z:Str,0<z.length/\z.length<=1000->R z):a.length+b.length<=100000/\R (a++b):=
 ⟨by walk_at "om",h _ (by rw[add_len];lia)⟩
noncomputable def yp:bJ:=λws G q _=>∃c:Int,ws=[.int c]/\∀s:Str,s.length=1->q (.str s) G
theorem C4 (F:cv K "_law_sign" "_law_sign" (aA 63) f fd) (ml:mg "len"=none):cB P w K mg base 1 f fd ["_law_cell"] yp:=by
 refine fm (k:=0) F (N:=["_law_cell","_law_some"]) (by walk_at "s") (by walk_at "l") λ_ _ _ _ _ _ nd hr=>?_;apply aN
 ·exact(ac (ao 1 nd rfl (.inl rfl) aF) (ac (ao 1 nd rfl (.inl rfl) (av aE (aa 1) aF)) (ac (aL (au (ba hr) (av cy (aa 0) ah) ah) (ac (ao 1 nd rfl (.inl rfl) aF) af) af) (ac (aq (aG aI (aa 1) (av cy (av cS (aa 0) ah) (aR bB rfl ml PySem.boot_len (ae (aa 1) ag))))) af))))
 ·rintro ws G q e ⟨c,rfl,hq⟩;walk_at "a0";walk_at "a";refine Fh (R:=λz=>U _ [some (W.int c),some (W.str z)] G) (by decide+kernel) (by decide+kernel) λz h0=>?_;subst hU;refine aB λU hU=>?_;have fin:∀z:Str,0<z.length/\z.length<=1000->U { nx:=λx G1=>∃G0,aC G0 G1/\q W.non G0,rt:=λw G1=>∃G0,aC G0 G1/\q w G0 } [some (W.int c),some (W.str z)] G:=λz hz=>by
   subst hU;walk_at "R";have hmod:=gj (i:=c/2) (j:=(z.length:Int)) (by (clear h0;lia));refine⟨by (clear h0 hmod;lia),by (clear h0 hmod;lia),by (clear h0 hmod;lia),?_⟩;obtain⟨i,hi⟩:∃i:Nat,c/2% (z.length:Int)=(i:Int):=⟨(c/2% (z.length:Int)).toNat,by (clear h0 hz;lia)⟩;have hi2:i<z.cps.toList.length:=by rw[fJ];(clear h0 hz;lia)
   rw[hi];exact⟨_,ce (ycz hi2),G,aC.refl _,hq _ rfl⟩
  walk_at "R";split
  ·exact fin _ (by decide+kernel)
  ·exact fin _ h0
noncomputable def yq:bJ:=λws G q _=>∃(s:Str) (c:Int),ws=[.str s,.int c]/\s.length<=10000/\∀s':Str,s'.length<=3*s.length+1->q (.str s') G
theorem C5 (F:cv K "_law_spoiled" "_law_spoiled" (aA 64) f fd) (F1:Fx P w K mg base "_law_sign" ["_law_cell"] 1 yp) (ml:mg "len"=none):cB P w K mg base 2 f fd ["_law_text","_law_cell"] yq:=by
 refine fm (k:=1) F (N:=["_law_text","_law_cell","_law_way","_law_at","_law_sign_here"]) (by walk_at "s") (by walk_at "l") λ_ _ _ _ _ _ nd hr=>?_;apply aN
 ·refine' ac ?s1 (ac ?s2 (ac ?s3 (ac (aL ?c0 (aM (aq (av aE (av aE (cE ?e01 ?l01 ?h01) ?e02) (cE ?e03 ?l03 ?h03)))) af) (ac (aL ?c1 (aM (aq (av aE (cE ?e11 ?l11 ?h11) (cE ?e13 ?l13 ?h13)))) af) (ac (aL ?c2 (aM (aq (av aE (av aE (cE ?e21 ?l21 ?h21) ?e22) (cE ?e23 ?l23 ?h23)))) af) (ac (aL ?c3 (aM (aq (av aE (av aE (cE ?e31 ?l31 ?h31) (cE ?e32 ?l32 ?h32)) (cE ?e33 ?l33 ?h33)))) af) (aM ?s8)))))))
  case s1=>exact(ao 2 nd rfl (.inl rfl) (av cy (aa 1) ah))
  case s2=>exact(ao 3 nd rfl (.inl rfl) (av cy (av cS (aa 1) ah) (av aE (aR bB rfl ml PySem.boot_len (ae (aa 0) ag)) ah)))
  case s3=>exact(ao 4 nd rfl (.inl rfl) (aD F1 (ay.mono hr (by lia)) rfl (ae (av cS (av cS (aa 1) ah) (av aE (aR bB rfl ml PySem.boot_len (ae (aa 0) ag)) ah)) ag)))
  case c0=>exact(au (ba hr) (aa 2) ah)
  case c1=>exact(au (ba hr) (aa 2) ah)
  case c2=>exact(au (ba hr) (aa 2) ah)
  case c3=>exact(au (ba hr) (aa 2) ah)
  case e01=>exact(aa 0)
  case l01=>exact bK
  case h01=>exact bc (aa 3)
  case e02=>exact(aa 4)
  case e03=>exact(aa 0)
  case l03=>exact bc (aa 3)
  case h03=>exact bK
  case e11=>exact(aa 0)
  case l11=>exact bK
  case h11=>exact bc (aa 3)
  case e13=>exact(aa 0)
  case l13=>exact bc (av aE (aa 3) ah)
  case h13=>exact bK
  case e21=>exact(aa 0)
  case l21=>exact bK
  case h21=>exact bc (aa 3)
  case e22=>exact(aa 4)
  case e23=>exact(aa 0)
  case l23=>exact bc (av aE (aa 3) ah)
  case h23=>exact bK
  case e31=>exact(aa 0)
  case l31=>exact bK
  case h31=>exact bc (aa 3)
  case e32=>exact(aa 0)
  case l32=>exact bc (aa 3)
  case h32=>exact bc (av aE (aa 3) ah)
  case e33=>exact(aa 0)
  case l33=>exact bc (aa 3)
  case h33=>exact bK
  case s8=>exact(aq (aa 0))
 ·rintro ws G q e ⟨x,c,rfl,hx,hq⟩;walk_at "a0";walk_at "a";refine⟨by lia,by lia,?_⟩;generalize c/5% ((x.length:Int)+1)=at';walk_at "a";refine⟨by walk_at "om",.inl ⟨by walk_at "om",by walk_at "om"⟩,_,rfl,λy hy=>?_⟩;walk_at "a";split
  ·refine⟨by walk_at "om",λa ha=>⟨by walk_at "om",by walk_at "om",λb hb=>⟨by rw[add_len];lia,G,aC.refl _,hq _ (by rw[add_len,add_len];(clear hx;lia))⟩⟩⟩
  walk_at "a";split
  ·refine⟨by walk_at "om",λa ha=>⟨by walk_at "om",λb hb=>⟨by (clear hy;lia),G,aC.refl _,hq _ (by rw[add_len];(clear hx hy;lia))⟩⟩⟩
  walk_at "a";split
  ·refine⟨by walk_at "om",λa ha=>⟨by walk_at "om",by walk_at "om",λb hb=>⟨by rw[add_len];lia,G,aC.refl _,hq _ (by rw[add_len,add_len];(clear hx;lia))⟩⟩⟩
  walk_at "a";split
  ·refine⟨by walk_at "om",λa ha=>⟨by walk_at "om",λb hb=>⟨by (clear hy;lia),by walk_at "om",λd hd=>⟨by rw[add_len];(clear hy;lia),G,aC.refl _,hq _ (by rw[add_len,add_len];(clear hx hy;lia))⟩⟩⟩⟩
  subst hU;walk_at "R";exact⟨G,aC.refl _,hq _ (by (clear hy;lia))⟩
noncomputable def uW:bJ:=λws G q _=>∃c:Int,ws=[.int c]/\∀l:List Nat,l.length<=8->q (.str (bq l)) G
noncomputable abbrev Fy (cs:List Nat):List W:=cs.map λy=> .str (bq [y])
theorem Ao (cs:List Nat):rJ (cs.map λy=>bq [y])=bq cs:=by
 unfold rJ
 congr 2
 rw[map_map]
 induction cs with
 | nil=>rfl
 | cons y cs ih=>rw[map_cons,flatten_cons,ih];rfl
theorem Ap (cs:List Nat):((cs.map λy=>bq [y]).map λt=>t.length).sum=cs.length:=by
 induction cs with
 | nil=>rfl
 | cons y cs ih=>rw[map_cons,map_cons,sum_cons,ih,length_cons,aQ,length_singleton];(clear ih;lia)
theorem Aq (F:cv K "_law_name" "_law_name" (aA 65) f fd) (mr:mg "range"=none):cB P w K mg base 1 f fd ["_law_cell"] uW:=by
 refine fm (k:=0) F (N:=["_law_cell","_law_letters","_law_place","_law_signs","_law_k","_law_name_here"]) (by walk_at "s") (by walk_at "l") λ_ _ _ _ _ _ nd hr=>?_;apply aN
 ·exact(ac (ao 1 nd rfl (.inl rfl) aF) (ac (ao 2 nd rfl (.inl rfl) (av cy (av cS (aa 0) ah) ah)) (ac (ao 3 nd rfl (.inl rfl) (bA ag)) (ac (dW PySem.PassesOwn.never rfl (iW rfl mr (ae (av aE ah (av cy (aa 0) ah)) ag)) (cf 4 nd rfl (.inl rfl)) (ac (aL (au (ba hr) (aa 4) (aa 2)) (ac (bu (cR (aa 3) (aG aI (aa 1) (av cy (av cS (aa 0) ah) ah)))) af) (ac (bu (cR (aa 3) (aG aI (aa 1) (av cy (av cS (aa 0) ah) ah)))) af)) af)) (ac (ao 5 nd rfl (.inl rfl) (wV (aa 3))) (ac (aL (au (ba hr) (aa 5) aF) (ac (aq aF) af) af) (ac (aq (aa 5)) af)))))))
 ·rintro ws G q e ⟨c,rfl,hq⟩;walk_at "a0";obtain⟨z,hz⟩:∃z:Str,z=Str.ofString "abcdefghijklmnopqrstuvwxyz":=⟨_,rfl⟩;have hzl:z.length=26:=by rw[hz];rfl
  rw[←hz];walk_at "a";walk_at "a";intro p hp;walk_at "a";have h8:=gj (i:=c) (j:=8) (by (clear hzl;lia));refine⟨by lia,by lia,?_⟩;have pickS:∀X:Int,∃y,ei z.cps.toList (X%26)=some y:=λX=>by
   have h26:=gj (i:=X) (j:=26) (by (clear hzl h8;lia));obtain⟨i,hi⟩:∃i:Nat,X%26=(i:Int):=⟨(X%26).toNat,by (clear hzl h8;lia)⟩;have hi2:i<z.cps.toList.length:=by rw[fJ];(clear h8;lia)
   rw[hi];exact⟨_,ce (ycz hi2)⟩
  refine kZ (1+c%8).toNat (λi τ G'=>∃(cs:List Nat) (t4 t5:Option W),τ=[some (.int c),some (.str z),some (.int (c/5408%8)),some (.ref p),t4,t5]/\aC G G'/\G' p=some (.lst (Fy cs))/\cs.length=i) ⟨[],_,_,rfl,aC.new hp,ak,rfl⟩ ?_ ?_
  ·rintro τ G' ⟨cs,t4,t5,rfl,hle,hG,hlen⟩;refine⟨trivial,?_⟩;subst hU;dsimp only;walk_at "a0";refine⟨p,cs.map λy=>bq [y],rfl,by rw[hG,map_map];rfl,by rw[Ap];(clear hzl;lia),?_⟩;rw[Ao];walk_at "a";refine⟨rfl,rfl,zero_le _,?_⟩;refine cg (λh=>⟨G,hle,hq [119,119] (by decide)⟩) λh=>?_;subst hU;walk_at "R";exact⟨G,hle,hq cs (by (clear hzl;lia))⟩
  ·rintro i τ G' kk hi ⟨cs,t4,t5,rfl,hle,hG,hlen⟩ hk;refine⟨trivial,?_⟩;have next:∀(y:Nat) (t4 t5:Option W),(∃xs,G' p=some (GO.lst xs))/\∃ys,G' p=some (.lst ys)/\ys.length<=99999/\kk [some (.int c),some (.str z),some (.int (c/5408%8)),some (.ref p),t4,t5] (aX G' p (.lst (ys++[.str (bq [y])]))):=λy t4 t5=>by
    refine⟨⟨_,hG⟩,_,hG,by rw[length_map];(clear hzl;lia),hk _ _ ⟨cs++[y],_,_,rfl,aC.put hle hp,?_,by rw[length_append,length_singleton,hlen]⟩⟩;rw[ak];simp[Fy]
   walk_at "R";refine cg (λ_=>?_) λ_=>?_
   ·obtain⟨y,hy⟩:=pickS (c/208);obtain⟨h1,h2⟩:=next y (some (.int i)) t5;exact⟨h1,by (clear h8 hi hlen;lia),y,hy,h2⟩
   ·obtain⟨y,hy⟩:=pickS (c/8);obtain⟨h1,h2⟩:=next y (some (.int i)) t5;exact⟨h1,by (clear h8 hi hlen;lia),y,hy,h2⟩
theorem oY (z:Str):z=bq z.cps.toList:=by obtain⟨⟨l⟩⟩:=z;rfl
noncomputable def Fi (G:Gp) (x:W):Prop:=(∃l:List Nat,x=.str (bq l)/\l.length<=100000)∨u3 G x
theorem C6 {G:Gp} {z:Str} (h:z.length<=100000):Fi G (.str z):= .inl ⟨z.cps.toList,congrArg W.str (oY z),by rw[fJ];exact h⟩
noncomputable def uX:bJ:=λws G q _=>∃c:Int,ws=[.int c]/\0<=c/\c<10^60/\∀(x:W) (G':Gp),aC G G'->Fi G' x->q x G'
theorem Ar (F:cv K "_law_edge" "_law_edge" (aA 72) f fd) (ms:mg "str"=none):cB P w K mg base 1 f fd ["_law_cell"] uX:=by
 refine fm (k:=0) F (N:=["_law_cell","_law_many","_law_some"]) (by walk_at "s") (by walk_at "l") λ_ _ _ _ _ _ nd hr=>?_;apply aN
 ·exact(ac (ao 1 nd rfl (.inl rfl) (av aE ah (av cy (av cS (aa 0) ah) ah))) (ac (ao 2 nd rfl (.inl rfl) (bA (ae dr (ae (aa 0) (ae (bA (ae aF ag)) (ae aF (ae (av e9 aF (av aE ah (aa 1))) (ae (av aE (av aE (av e9 aF (aa 1)) aF) (av e9 aF (aa 1))) (ae (av aE aF (cU uD rfl ms PyProof.Rows.boot_str (ae (aa 0) ag))) ag))))))))) (ac (aq (aG aI (av aE (aa 2) (bA (ae (av aE (av e9 aF ah) (av e9 aF (aa 1))) ag))) (av cy (aa 0) ah))) af)))
 ·rintro ws G q e ⟨c,rfl,hc0,hc1,hq⟩;walk_at "a0";have h3:=gj (i:=c/8) (j:=3) (by (clear hc0 hc1;lia));obtain⟨n,hn,n1,n2⟩:∃n,n=19+c/8%3/\19<=n/\n<=21:=⟨_,rfl,by (clear hc0 hc1;lia),by (clear hc0 hc1;lia)⟩;rw[←hn];have hm:((c.toNat:Nat):Int)=c:=Int.toNat_of_nonneg hc0;have hm1:c.toNat<10^60:=by
   have h:((10^60:Nat):Int)=10^60:=by decide
   (clear h3 hn n1 n2 h;lia)
  have hm2:c.toNat<2^1900:=Nat.lt_trans hm1 (by decide+kernel);have hm3:=jn (by decide) hm1;have hm4:=aQ (bg c.toNat);have l7:(Str.ofString "7").length=1:=rfl;have lo:(Str.ofString "(").length=1:=rfl;have lc:(Str.ofString ")").length=1:=rfl;have lw:(Str.ofString "w").length=1:=rfl;have l0:(Str.ofString "0").length=1:=rfl;walk_at "a";rw[l7,lo,lc,lw,l0];intro p hp;refine⟨by (clear hc0 hc1 n1 n2 hm hm1 hm2 hm3 hm4 l7 lo lc lw l0;lia),by (clear hc0 hc1 n1 n2 hm hm1 hm2 hm3 hm4 l7 lo lc lw l0;lia),by (clear hc0 hc1 n1 n2 hm hm1 hm2 hm3 hm4 l7 lo lc lw l0;lia),λz1 h1=>⟨by (clear hc0 hc1 n1 n2 hm hm1 hm2 hm3 hm4 l7 lo lc lw l0 h1;lia),by (clear hc0 hc1 n1 n2 hm hm1 hm2 hm3 hm4 l7 lo lc lw l0 h1;lia),by (clear hc0 hc1 n1 n2 hm hm1 hm2 hm3 hm4 l7 lo lc lw l0 h1;lia),λz2 h2=>⟨by (clear hc0 hc1 n1 n2 hm hm1 hm2 hm3 hm4 l7 lo lc lw l0 h1;lia),by (clear hc0 hc1 n1 n2 hm hm1 hm2 hm3 hm4 l7 lo lc lw l0 h1 h2;lia),by (clear hc0 hc1 n1 n2 hm hm1 hm2 hm3 hm4 l7 lo lc lw l0 h1 h2;lia),by (clear hc0 hc1 n1 n2 hm hm1 hm2 hm3 hm4 l7 lo lc lw l0 h1 h2;lia),λz3 h3=>⟨by rw[L2.add_len,lw];(clear hc0 hc1 n1 n2 hm hm1 hm2 hm3 hm4 l7 lo lc lw l0 h1;lia),c.toNat,hm.symm,hm2,by rw[hm4];(clear hc0 hc1 hn n1 n2 hm hm1 hm2 l7 lo lc lw l0 h1 h2 h3;lia),λp1 hp1=>?_⟩⟩⟩⟩;have le1:aC G (aX G p (GO.lst [W.str (Str.ofString "w")])):=aC.new hp;have gp:aX G p (GO.lst [W.str (Str.ofString "w")]) p=some (GO.lst [W.str (Str.ofString "w")]):=ak;generalize aX G p (GO.lst [W.str (Str.ofString "w")])=Ga at le1 gp hp1 ⊢;obtain⟨xs,hxs⟩:∃xs,xs=[W.non,W.int c,W.ref p,W.str (Str.ofString ""),W.str z1,W.str (z2++Str.ofString "w"++z3),W.str (Str.ofString "0"++{ cps:=(bg c.toNat).toArray })]:=⟨_,rfl⟩;rw[←hxs];have hx7:xs.length=7:=by rw[hxs];rfl
  have hall:∀y,y∈xs->∀G',aC Ga G'->Fi G' y:=λy hy G' le=>by
   rw[hxs] at hy;simp only[mem_cons,List.not_mem_nil,or_false] at hy;rcases hy with rfl | rfl | rfl | rfl | rfl | rfl | rfl
   ·exact .inr ⟨_,rfl,rfl⟩
   ·exact .inr ⟨_,rfl,rfl⟩
   ·exact .inr (u3.le ⟨"list",by simp only[pv,gp],rfl⟩ le)
   ·exact C6 (by decide)
   ·exact C6 (by (clear hc0 hc1 n1 n2 hm hm1 hm2 hm3 hm4 l7 lo lc lw l0 h2 h3 hx7;lia))
   ·exact C6 (by rw[L2.add_len,L2.add_len,lw];(clear hc0 hc1 n1 n2 hm hm1 hm2 hm3 hm4 l7 lo lc lw l0 h1 hx7;lia))
   ·exact C6 (by rw[L2.add_len,l0,hm4];(clear hc0 hc1 hn n1 n2 hm hm1 hm2 l7 lo lc lw l0 h1 h2 h3 hx7;lia))
  have le2:aC Ga (aX Ga p1 (GO.lst xs)):=aC.new hp1;have gx:aX Ga p1 (GO.lst xs) p1=some (GO.lst xs):=ak;generalize aX Ga p1 (GO.lst xs)=Gb at le2 gx ⊢;subst hU;walk_at "R";have l1p:(Str.ofString "1+").length=2:=rfl;have l1:(Str.ofString "1").length=1:=rfl;rw[l1p,l1];refine⟨by decide,λz4 h4=>⟨by (clear hc0 hc1 n1 n2 hm hm1 hm2 hm3 hm4 l7 lo lc lw l0 h1 h2 h3 hx7 l1p l1 h4;lia),by (clear hc0 hc1 n1 n2 hm hm1 hm2 hm3 hm4 l7 lo lc lw l0 h1 h2 h3 hx7 l1p l1 h4;lia),by (clear hc0 hc1 n1 n2 hm hm1 hm2 hm3 hm4 l7 lo lc lw l0 h1 h2 h3 hx7 l1p l1 h4;lia),λz5 h5=>⟨by (clear hc0 hc1 n1 n2 hm hm1 hm2 hm3 hm4 l7 lo lc lw l0 h1 h2 h3 hx7 l1p l1;lia),λp2 hp2=>⟨_,_,aK gx hp2,ak,by rw[hx7];simp,λp3 hp3=>?_⟩⟩⟩⟩;have le3:=(le2.trans (aC.new (g:=GO.lst [W.str (z4++z5)]) hp2)).trans (aC.new (g:=GO.lst (xs++[W.str (z4++z5)])) hp3);refine jf ak (lD c (by rw[length_append,hx7];rfl) (by rw[length_append,hx7];exact ydw (by decide) (Nat.le_add_right 7 _)) λy hy=>?_);refine aC.done (hq y _ (le1.trans le3) ?_);rcases mem_append.mp hy with hy | hy
  ·exact hall y hy _ le3
  ·rw[mem_singleton.mp hy];exact C6 (by rw[L2.add_len];(clear hc0 hc1 n1 n2 hm hm1 hm2 hm3 hm4 l7 lo lc lw l0 h1 h2 h3 hx7 l1p l1;lia))
theorem mO.ftR {a:O} (h:mO a):rQ a:=⟨h.1,by have:=h.2.1;lia,Int.lt_of_le_of_lt h.2.2 (by decide+kernel),by have:=O.dp_le_size a;have:=h.2.1;lia⟩
theorem nF {G:Gp}:u4 G .non λ_=>none:=⟨λl b h=>(by cases h),.inl ⟨rfl,λ_=>rfl⟩⟩
theorem lE {G:Gp} {d:Addr} (h:G d=some (.dic [])):u4 G (.ref d) λ_=>none:=⟨λl b h=>(by cases h),.inr ⟨d,[],rfl,.inl h,λ_=>rfl⟩⟩
theorem xz {G:Gp} {d:Addr} {kvs:List (bE×W)} {o:O} (ho:rQ o) (hG:G d=some (.dic kvs)) (h:∀x,x∈kvs->x.2=.tup (am o)):∃nm,u4 G (.ref d) nm:=by
 obtain⟨nm,hnm⟩:=C3 (kvs:=kvs) λx hx=>⟨o,h x hx⟩;refine⟨nm,λl b hb=>?_,.inr ⟨d,kvs,rfl,.inl hG,hnm⟩⟩;have h1:=hnm l;rw[hb] at h1;unfold fE at h1;obtain⟨x,hx,hx2⟩:=Option.map_eq_some_iff.mp (h1.trans rfl);have h2:=h x (List.mem_of_find?_eq_some hx);rw[h2] at hx2;have:o=b:=mX (W.tup.inj hx2);rw[←this];exact ho
theorem Fj (F:cv K "law" "law" (aA 73) f fd) (F1:Fx P w K mg base "_law_pool" ["_law_script"] 63 CY) (F2:Fx P w K mg base "_law_shown" ["_law_number"] 13 (xw 13)) (F3:Fx P w K mg base "_law_spoiled" ["_law_text","_law_cell"] 2 yq) (F4:Fx P w K mg base "_law_right" ["_law_text","_law_names_here"] 93 CQ) (F5:Fx P w K mg base "_law_name" ["_law_cell"] 1 uW) (F6:Fx P w K mg base "_law_edge" ["_law_cell"] 1 uX) (ml:mg "len"=none) (mr:mg "range"=none):cB P w K mg base 100 f fd ["_law_script"] j6:=by
 refine fm F (N:=["_law_script","_law_pool_here","_law_k","_law_cell","_law_text","_law_name_here","_law_some"]) (by walk_at "s") (by walk_at "l") λ_ _ _ _ _ _ nd hr=>?_;apply aN
 ·refine' ac ?s1 (ac (dW PassesOwn.never rfl ?it ?tg (ac ?b1 (ac ?b2 (ac ?b3 (ac ?b4 (ac ?b5 (ac ?b6 (ac ?b7 (ac ?b8 (ac ?b9 (ac (aL (cQ (dA ?c1 (dA (dt (bx (aD F4 (ay.mono hr (by walk_at "om")) rfl (ae ?x1 (ae (w9 (rL ?p1 ?p2 w6)) ag))))) (cP ?c3)))) ?r10 af) (aM ?b11)))))))))))) (aM ?s3))
  case s1=>exact(ao 1 nd rfl (.inl rfl) (aD F1 (ay.mono hr (by lia)) rfl (ae (aa 0) ag)))
  case it=>exact(iW rfl mr (ae (aR bB rfl ml PySem.boot_len (ae (aa 1) ag)) ag))
  case tg=>exact(cf 2 nd rfl (.inl rfl))
  case b1=>exact(ao 3 nd rfl (.inl rfl) ah)
  case b2=>exact(aL (au (ff hr) (aa 2) (aR bB rfl ml PySem.boot_len (ae (aa 0) ag))) (ac (ao 3 nd rfl (.inl rfl) (av cy (aG aI (aa 0) (aa 2)) (av gY ah ah))) af) af)
  case b3=>exact(ao 4 nd rfl (.inl rfl) (aD F2 (ay.mono hr (by lia)) rfl (ae (aG aI (aa 1) (aa 2)) ag)))
  case b4=>exact(ao 4 nd rfl (.inl rfl) (aD F3 (ay.mono hr (by lia)) rfl (ae (aa 4) (ae (av cy (av e9 (aa 3) ah) ah) ag))))
  case b5=>exact(ao 4 nd rfl (.inl rfl) (aD F3 (ay.mono hr (by lia)) rfl (ae (aa 4) (ae (av cS (aa 3) ah) ag))))
  case b6=>exact(aL (dt (bx (aD F4 (ay.mono hr (by lia)) rfl (ae (aa 4) (ae (aG aI (bA (ae dr (ae iG ag))) (av cy (aa 3) ah)) ag))))) (ac (aq cm) af) af)
  case b7=>exact(ao 5 nd rfl (.inl rfl) (aD F5 (ay.mono hr (by lia)) rfl (ae (av cS (aa 3) ah) ag)))
  case b8=>exact(ao 6 nd rfl (.inl rfl) (bA (ae (av aE (av aE (aa 4) aF) (aa 5)) (ae (av aE (av aE (aa 5) aF) (aa 4)) (ae (av aE (av aE (av aE (aa 4) aF) (aa 5)) aF) (ae (av aE (av aE (av aE aF (aa 5)) aF) (aa 4)) ag))))))
  case b9=>exact(ao 4 nd rfl (.inl rfl) (aG aI (aa 6) (av cy (aa 3) ah)))
  case c1=>exact(dt (bx (aD F4 (ay.mono hr (by lia)) rfl (ae (aa 4) (ae iG ag)))))
  case x1=>exact(aa 4)
  case p1=>exact(aa 5)
  case p2=>exact(aG aI (aa 1) ah)
  case c3=>exact(dt (bx (aD F4 (ay.mono hr (by lia)) rfl (ae (aa 4) (ae iG ag)))))
  case r10=>exact(ac (aq cm) af)
  case b11=>exact(aL (cQ (cx (au (ba hr) (aa 2) ah) (bV (dt (bx (aD F4 (ay.mono hr (by lia)) rfl (ae (aD F6 (ay.mono hr (by lia)) rfl (ae (av cS (aa 3) ah) ag)) (ae dr ag)))))))) (ac (aq cm) af) af)
  case s3=>exact(aq cm)
 ·rintro ws G q e ⟨ns,rfl,hl,hq⟩;walk_at "a0";refine⟨ns,rfl,hl,λp more hp hm hg=>?_⟩;have hG:aX G p (.lst (cu (dm++more))) p=some (.lst (cu (dm++more))):=ak;generalize aX G p (.lst (cu (dm++more)))=G1 at hG ⊢;generalize hpool:dm++more=pool at hg hG ⊢;have h0:3<=pool.length:=by rw[←hpool];simp[dm]
  have hsz:pool.length<=15:=by rw[←hpool];simp[dm];lia
  walk_at "a";refine⟨_,.lst hG,by (clear hl hm h0 hsz;lia),by rw[bR];(clear hl hm;lia),?_⟩;rw[bR];refine kZ pool.length (λi τ G'=>G' p=some (.lst (cu pool))/\∃t2 t3 t4 t5 t6,τ=[some (.scr ns),some (.ref p),t2,t3,t4,t5,t6]) ⟨hG,_,_,_,_,_,rfl⟩ ?_ ?_
  ·rintro τ G' ⟨hG,t2,t3,t4,t5,t6,rfl⟩;refine⟨trivial,?_⟩;subst hU;walk_at "R";exact aC.done (hq _)
  ·rintro i τ G' kk hi ⟨hG,t2,t3,t4,t5,t6,rfl⟩ hk;refine⟨trivial,?_⟩;simp only[fe,List.set_cons_succ,List.set_cons_zero];generalize hD:({ nx:=kk,rt:=λw G1=>∃G0,aC G0 G1/\q w G0,bk:=U { nx:=λx G1=>∃G0,aC G0 G1/\q W.non G0,rt:=λw G1=>∃G0,aC G0 G1/\q w G0 },ct:=kk }:dI)=D;have hDn:D.nx=kk:=by rw[←hD]
   obtain⟨o,mo,eo⟩:∃o,o∈pool/\pool[i]?=some o:=⟨_,getElem_mem hi,ycz hi⟩;have fj:∀(R:W->Prop),R (.tup (am o))->∃w,ei (cu pool) (i:Int)=some w/\R w:=λR h=>ul hi λa ma ea=>by rw[eo] at ea;cases ea;exact h
   have so:=(hg o mo).sm;have lo:=Ff so;have do':o.dp<=12:=ycy (O.dp_le_size o) so.2.1;refine aB λU1 hU1=>?_;walk_at "R";subst hU1;refine aB λU1 hU1=>?_;have rest:∀c:Int,0<=c->c<10^60->U1 D [some (.scr ns),some (.ref p),some (.int i),some (.int c),t4,t5,t6] G':=λc hc0 hc1=>by
    walk_at "b";refine jf hG (fj _ ⟨o,rfl,mO.sm so,by (clear hl hm h0 hsz hi eo lo hc0 hc1;lia),by decide,?_⟩);walk_at "b";refine⟨_,_,rfl,by rw[aQ];lia,λs1 hs1=>?_⟩;rw[aQ (dL bg o)] at hs1;walk_at "b";refine⟨_,_,rfl,by (clear hl hm h0 hsz hi eo do' hc0 hc1;lia),λs2 hs2=>?_⟩;obtain⟨l2,rfl⟩:∃l,s2=bq l:=⟨_,oY s2⟩;have hl2:l2.length<=7000:=by rw[aQ l2] at hs2;(clear hl hm h0 hsz hi eo do' hc0 hc1;lia)
    walk_at "b";intro p1 hp1 p2 hp2;have g1:aX G' p1 (GO.dic []) p1=some (GO.dic []):=ak;have g0:=aK (g:=GO.dic []) hG hp1;generalize aX G' p1 (GO.dic [])=Ga at g1 g0 hp2 ⊢;have g2:=aK (g:=GO.lst [W.non,W.ref p1]) g1 hp2;have g3:=aK (g:=GO.lst [W.non,W.ref p1]) g0 hp2;have g4:aX Ga p2 (GO.lst [W.non,W.ref p1]) p2=some (GO.lst [W.non,W.ref p1]):=ak;generalize aX Ga p2 (GO.lst [W.non,W.ref p1])=Gb at g2 g3 g4 ⊢;refine jf g4 (lD c (by rfl) (by simp) λv hv=>?_);have hnv:u4 Gb v λ_=>none:=by
     simp only[mem_cons,List.not_mem_nil,or_false] at hv;rcases hv with rfl | rfl
     ·exact nF
     ·exact lE g2
    refine⟨_,v,_,rfl,hnv,.inl ⟨l2,rfl,by walk_at "om"⟩,?_⟩;walk_at "R";walk_at "b";refine⟨_,rfl,λnn hnn=>?_⟩;walk_at "b";have e1:=aQ l2;have e2:=aQ nn;have lp:(Str.ofString "+").length=1:=rfl;have ls:(Str.ofString "*").length=1:=rfl;have la:(Str.ofString "a").length=1:=rfl;have lo1:(Str.ofString "(").length=1:=rfl;have lc1:(Str.ofString ")^").length=2:=rfl;have f1:=L2.add_len (bq l2) (Str.ofString "+");have f2:=L2.add_len (bq l2++Str.ofString "+") (bq nn);have f3:=L2.add_len (bq nn) (Str.ofString "*");have f4:=L2.add_len (bq nn++Str.ofString "*") (bq l2);have f5:=L2.add_len (bq l2++Str.ofString "+"++bq nn) (Str.ofString "a");have f6:=L2.add_len (Str.ofString "(") (bq nn);have f7:=L2.add_len (Str.ofString "("++bq nn) (Str.ofString ")^");have f8:=L2.add_len (Str.ofString "("++bq nn++Str.ofString ")^") (bq l2);refine⟨by (clear hl hm h0 hsz hi eo lo do' hc0 hc1 hs1 hs2 hnn e2;lia),by (clear hl hm h0 hsz hi eo do' hc0 hc1;lia),by (clear hl hm h0 hsz hi eo lo do' hc0 hc1 hs1 hs2 hl2 e1 lp la f1 f4 f5 f8;lia),by (clear hl hm h0 hsz hi eo do' hc0 hc1;lia),by (clear hl hm h0 hsz hi eo lo do' hc0 hc1 hs1 hs2 hnn e2;lia),by (clear hl hm h0 hsz hi eo do' hc0 hc1;lia),by (clear hl hm h0 hsz hi eo do' hc0 hc1;lia),by (clear hl hm h0 hsz hi eo lo do' hc0 hc1 hs1 hs2 hl2 e1 lp la f1 f4 f5 f8;lia),by (clear hl hm h0 hsz hi eo lo do' hc0 hc1 hs1 hs2 hl2 e1 lp la f1 f4 f5 f8;lia),by (clear hl hm h0 hsz hi eo do' hc0 hc1;lia),λp3 hp3=>?_⟩;obtain⟨xs,hxs⟩:∃xs,xs=[W.str (bq l2++Str.ofString "+"++bq nn),W.str (bq nn++Str.ofString "*"++bq l2),W.str (bq l2++Str.ofString "+"++bq nn++Str.ofString "a"),W.str (Str.ofString "("++bq nn++Str.ofString ")^"++bq l2)]:=⟨_,rfl⟩;rw[←hxs];have hx4:xs.length=4:=by rw[hxs];rfl
    have hall:∀x,x∈xs->∃l,x=W.str (bq l)/\l.length<=100000:=λx hx=>by
     have tx:∀z:Str,z.length<=100000->∃l,W.str z=W.str (bq l)/\l.length<=100000:=λz hz=>⟨z.cps.toList,congrArg W.str (oY z),by rw[fJ];exact hz⟩;rw[hxs] at hx;simp only[mem_cons,List.not_mem_nil,or_false] at hx;rcases hx with rfl | rfl | rfl | rfl
     ·exact tx _ (by (clear hl hm h0 hsz hi eo do' hc0 hc1 hx4;lia))
     ·exact tx _ (by (clear hl hm h0 hsz hi eo do' hc0 hc1 hx4;lia))
     ·exact tx _ (by (clear hl hm h0 hsz hi eo do' hc0 hc1 hx4;lia))
     ·exact tx _ (by (clear hl hm h0 hsz hi eo do' hc0 hc1 hx4;lia))
    have g5:=aK (g:=GO.lst xs) g3 hp3;have g6:aX Gb p3 (GO.lst xs) p3=some (GO.lst xs):=ak;generalize aX Gb p3 (GO.lst xs)=Gc at g5 g6 ⊢;walk_at "b";refine jf g6 (lD c (by rw[hx4];rfl) (by rw[hx4];decide) λx hx=>?_);obtain⟨l3,rfl,hl3⟩:=hall x hx;subst hU1;refine aB λU1 hU1=>?_;have last:∀Gd,Gd p=some (.lst (cu pool))->U1 D [some (.scr ns),some (.ref p),some (.int i),some (.int c),some (.str (bq l3)),some (.str (bq nn)),some (.ref p3)] Gd:=λGd gd=>by
     subst hU1;walk_at "R";rw[hDn];refine cg (λh2=>?_) λh2=>hk _ _ ⟨gd,_,_,_,_,_,rfl⟩;refine⟨_,rfl,by (clear hl hm h0 hsz hi eo lo do' hs1 hs2 hl2 hnn e1 e2 lp ls la lo1 lc1 f1 f2 f3 f4 f5 f6 f7 f8 hx4 hl3 h2;lia),by (clear hl hm h0 hsz hi eo lo do' hs1 hs2 hl2 hnn e1 e2 lp ls la lo1 lc1 f1 f2 f3 f4 f5 f6 f7 f8 hx4 hl3 h2;lia),λx G1 le1 hx=>?_⟩;refine⟨x,.non,_,rfl,nF,hx,?_⟩;walk_at "R";exact hk _ _ ⟨le1 _ _ gd,_,_,_,_,_,rfl⟩
    walk_at "R";intro p4 hp4;refine⟨_,_,_,rfl,lE ak,.inl ⟨l3,rfl,hl3⟩,?_⟩;have g7:=aK (g:=GO.dic []) g5 hp4;generalize aX Gc p4 (GO.dic [])=Gd at g7 ⊢;walk_at "R";simp only[yg,B6,Fv];walk_at "R";intro p5 hp5;obtain⟨o1,e1'⟩:∃o,pool[1]?=some o:=⟨_,ycz (by (clear hl hm hi eo lo do' hc0 hc1 hs1 hs2 hl2 hnn e1 e2 lp ls la lo1 lc1 f1 f2 f3 f4 f5 f6 f7 f8 hx4 hl3;lia))⟩;have so1:=(hg o1 (List.mem_of_getElem? e1')).sm;refine⟨_,rfl,_,.tup (am o1),aK g7 hp5,ce (j:=1) (by rw[cu,List.getElem?_map,e1'];rfl),ak,?_⟩;rw[gl];obtain⟨kvs,hkvs⟩:∃kvs,kvs=L2.putAll [] [(bq nn,W.tup (am o1))]:=⟨_,rfl⟩;rw[←hkvs];have hall2:∀x,x∈kvs->x.2=W.tup (am o1):=by
     rw[hkvs];unfold L2.putAll;simp only[foldl_cons,List.foldl_nil];exact uV (P:=λx=>x=.tup (am o1)) (kvs:=[]) (λx hx=>by cases hx) rfl
    obtain⟨nm,hnm⟩:=xz (G:=aX Gd p5 (GO.dic kvs)) (mO.ftR so1) ak hall2;refine⟨_,_,nm,rfl,hnm,.inl ⟨l3,rfl,hl3⟩,?_⟩;have g8:=aK (g:=GO.dic kvs) g7 hp5;generalize aX Gd p5 (GO.dic kvs)=Ge at g8 ⊢;walk_at "R";intro p6 hp6;refine⟨_,_,_,rfl,lE ak,.inl ⟨l3,rfl,hl3⟩,?_⟩;walk_at "R";exact last _ (aK g8 hp6)
   walk_at "R";have hm:=λn:Int=>gj (i:=n) (j:=1000000000000000000000000000000000000000000000000000000000000) (by decide);refine cg (λh=>⟨ns[i]'(by (clear hl h0 hsz hi eo lo do';lia)),ce (ycz (by (clear hl h0 hsz hi eo lo do';lia))),rest _ (hm _).1 (hm _).2⟩) λ_=>rest _ (by decide) (by decide)
theorem As (T:Txt K mg) (F:cv K "law" "law" (aA 73) f fd):cB P w K mg base 100 f fd ["_law_script"] j6:=by
 obtain⟨cH,cT,cN,cG,⟨mH,qH⟩,⟨mT,qT⟩,⟨mN,qN⟩,⟨mG,qG⟩,p10,p12,p13,p20,p21,p23,p30,p31,p32,⟨QH,dH⟩,⟨QT,dT⟩,⟨QN,dN⟩,⟨QG,dG⟩⟩:=T.x_;obtain⟨bT,xT⟩:=XC.of qT;obtain⟨bN,xN⟩:=XC.of qN;obtain⟨bG,xG⟩:=XC.of qG;have E:EF K mg cT cN cG cH:=⟨mT,mN,mG,mH,⟨⟨_,xT⟩,QT,dT⟩,⟨⟨_,xN⟩,QN,dN⟩,⟨⟨_,xG⟩,QG,dG⟩,XC.of qH,p10,p20,p30,p12,p13,p21,p23,p31,p32⟩;obtain⟨t1,h1⟩:=T.c_MOST_FACTORS;obtain⟨t2,h2⟩:=T.c_MOST_PARTS_powers;obtain⟨t3,h3⟩:=T.c_MOST_SIGNS;obtain⟨t4,h4⟩:=T.c_MOST_FIGURES;obtain⟨t5,h5⟩:=T.c_MOST_LETTERS;obtain⟨t6,h6⟩:=T.c_MOST_PARTS_readings;obtain⟨t7,h7⟩:=T.c_MOST_DEEP;obtain⟨aj,mj,hj⟩:=T.g_JOINING;obtain⟨C,mR,hC,a1,a2,a3,m0,m1,m2,m3,m4,m5,m6,m7⟩:=T.k_Reading;have D:yi K mg C cT:=⟨⟨hC,a1,a2,a3⟩,m0,m1,m2,m3,m4,m5,m6,m7,mR,T.c_MOST_BRACKETS,mT,bT,xT⟩;have L:=CZ (P:=P) (w:=w) (base:=base) T 60 (by decide);have Z:=C1 (P:=P) (w:=w) (base:=base) T 60;have W:=T.d__law_with.fx λf fd F=>Fb F L T.z_sum T.z_tuple;have N:=T.d__law_next.fx λf fd F=>Fd F W Z T.z_len;have Po:=T.d__law_pool.fx λf fd F=>Fe F N;have Wh:=T.d_is_whole.fxd (P:=P) (w:=w) (base:=base) λf fd T' ds F=>Ez F T.z_isinstance T.z_int T.z_bool;have Rs:=T.d_raised.fx (P:=P) (w:=w) (base:=base) λf fd T' ds F=>Cg F Wh;have Rd:=T.d_raised.fxd (P:=P) (w:=w) (base:=base) λf fd T' ds F=>Cg F Wh;have Wl:=T.d_whole.fx λf fd F=>EA F Rs;have En:=T.d_endless.fx λf fd F=>EQ F Wl Rd;have Cm:=T.d_compare.fx (P:=P) (w:=w) (base:=base) λf fd F=>Er F;have Pa:=T.d_parts_above.fx λf fd F=>Es F Cm T.z_len;have Ps:=T.d_plus.fx λf fd F=>Et F Pa T.z_len;have Wp:=T.d_whole_part.fx (P:=P) (w:=w) (base:=base) λf fd F=>Eu F;have Wo:=T.d_without_whole.fx λf fd F=>Ev F Wp;have Ti:=T.d_times.fx λf fd F=>Ew F Wp Wo Ps T.z_tuple;have Al:=T.d_parts_alike.fx (P:=P) (w:=w) (base:=base) λf fd F=>Ex F T.z_len;have Mi:=T.d_minus.fx λf fd F=>Ey F Cm Al T.z_len;have Wn:=T.d_whole_power.fx λf fd F=>EB F Ti Wl T.z_range;have Ep:=T.d_endless_power.fx λf fd F=>EC F Ti Wl Mi Rd T.z_tuple;have Tg:=T.d_is_too_great_powers.fx λf fd F=>EE F Wp T.z_len T.z_max h1 h2;have Pp:=T.d_power_of_part.fx λf fd F=>ED F Wp Ti Rs;have Pw:=T.d_power.rx λf fd F=>EG F Wl Pp Tg Ti Ep Wo Wn Wp T.z_len mG xG;have Hm:=T.d_has_many_parts.fx (P:=P) (w:=w) (base:=base) λf fd F=>EH F h6 T.z_len;have Gt:=Cp (P:=P) (w:=w) (base:=base) T 61;have De:=Cq (P:=P) (w:=w) (base:=base) T 61;have Tq:=(T.d_is_too_great.fx λf fd F=>EK F Hm Gt De h7).alias T.a_is_too_great_readings;have Jn:=T.d_joined.rx λf fd F=>E2 F Ps Ti Pw Tq mG xG;have Rk:=T.d_reckoned.rx λf fd F=>E4 F Jn T.z_isinstance T.z_tuple;have Fg:=T.d_is_figure.fx (P:=P) (w:=w) (base:=base) λf fd F=>EL F;have Lt:=T.d_is_letter.fx (P:=P) (w:=w) (base:=base) λf fd F=>EM F;have Fs:=T.d_is_figures.fx λf fd F=>EN F Fg h4 T.z_len T.z_all;have Nm:=T.d_is_name.fx λf fd F=>EO F Lt h5 T.z_len T.z_all;have To:=T.d_thing_of.rx λf fd F=>ER F En Fs Nm Wl mT xT T.z_int;have Sm:=uS D Fg Lt To 20 (by decide);have So:=T.d_steps_of.rx λf fd F=>EZ D F (D.m0.new mR λf fd F=>EX D.cl F) (Ah D) Sm h3 T.z_len T.z_isinstance T.z_str;have Lu:=T.d_looked_up.rx (P:=P) (w:=w) (base:=base) λf fd F=>E1 F mj hj mN xN T.z_isinstance T.z_tuple;have Re:=T.d_read.rx λf fd T' ds F=>E6 F So Lu Rk;have Mk:=T.d__law_marks.fx (P:=P) (w:=w) (base:=base) λf fd F=>E7 F E T.z_isinstance;have Td:=T.d__law_told.fx λf fd F=>E8 F E Re Mk T.z_isinstance T.z_tuple;have Ru:=T.d__law_run.fx (P:=P) (w:=w) (base:=base) λf fd F=>CM F T.z_len;have St:=T.d__law_step.fx λf fd F=>CN F Ru;have Ns:=T.d__law_names.fx λf fd F=>CP F St T.z_len;have Ri:=T.d__law_right.fx λf fd F=>CS F Ns Td T.z_len T.z_isinstance T.z_str;have Ls:=CU (P:=P) (w:=w) (base:=base) T 13;have Sg:=T.d__law_sign.fx (P:=P) (w:=w) (base:=base) λf fd F=>C4 F T.z_len;have Sp:=T.d__law_spoiled.fx λf fd F=>C5 F Sg T.z_len;have Na:=T.d__law_name.fx (P:=P) (w:=w) (base:=base) λf fd F=>Aq F T.z_range;have Ed:=T.d__law_edge.fx (P:=P) (w:=w) (base:=base) λf fd F=>Ar F T.z_str;exact Fj F Po Ls Sp Ri Na Ed T.z_len T.z_range
end
noncomputable abbrev oL (x y:Str) (t:Stmt) (d a b c:Value) (n:Option Addr) (e g:Value) (o:Value) (p:Option Addr) (r:Array (Option Value)):Option Obj:=some ⟨o,p,.func (fnOf x y (ax t) (aw t) (al t) d a b c n e g),r⟩
noncomputable abbrev oR (a:Addr):Option (Option Value):=some (some (.ref a))
noncomputable abbrev oB (a:String):Option (Option Value):=some (some (.builtin a))
set_option maxHeartbeats 0 in
theorem all_mk {l:PySem.W.OpenLaw} {h:Heap} {fa f1 f2 f3 f4 f5 f6 f7 f8 f9 cs ct cw cD cG cH cN cT c0 da db dd df di dj dk dl ds dx bm dG br dH dK dN dO dT dV d1 d2 d3 ea eb ec ed ee ef ej el:Addr} (X:K.In h) (G:h.Ns mainGlobals mg) (H2:mg "law"=some (.ref fa))
 {H3 H4 H5 H6 H7 H8 H9 Ia Ib Ic Ie If Ig Ih Ii Ij Ik Il mb mc mi mj mk ml mm mn mo mp mr ms mt mu mz mA mC mG mH mL mN mR mT m0 m1 m2 m3 m4 m5 m6 m7 na nb nc nd ne nf nh nl nm nn no np ns nt nx nL nT n0 n1 n2 n3 n4 n7 ob oc od oe of oi oj ok ol on op or os ov oD oT oX o1 o2 o3 pa pb pd em:Option Addr} {Im Io Ip Iq Ir Is Iu Iv Iw pg pi pj pl pm pn po pr pt pu pw py p1 p2 p3 p4 p5 p6 qa qb qn qq qs qu qv qx qB qF qG qH qN qT q0 q1 q2 q3 q4 q5 q6:Array (Option Value)} {Ix Iy Iz IA lo IB IC ID IE IF lp IG IH II IJ IK ls IL IM IN IP IQ lt IR IS IT IU IV lv IW IX IY IZ I0 lw I1 I2 I3 I4 I5 ly I6 I7 I8 I9 Ja lL Jb Jc Jd Je Jf l0 Jg q7 q8 q9 ra en rb rd rg ri rj eo rk rr rs rt ru ep rv rw rx ry rz eq r0 r1 r2 r3 r4 er r5 r7 r8 sa sb es se sf sg sl sm et sn so sp sq sr eu sv sx sz sD s0 ev s1 s2 s3 s4 s5 ew s6 s7 s8 ta tb ex tc td te tg th ey tk tn to tr ts ez tt tv tx ty tA eD t0 t2 t3 t5 t6 eG t7 t8 ua ub un eH up ux uy u1 u2 eN u8 va vb vl vr e0 vs vu vx vy v1 e2 v2 v3 v4 v5 v8 e3 wa wb wi wl wr e5 ws wt wx wy w0 e6 w2 w3 w4 w5 w7 e7 w8 xa xd xe xr e8 xs xC xG xH xN fb xT x0 x1 x2 x3 fg x7 yl ys y1 y2 fl y5 za zb zf zi fn zj zl zp zr zs fp z0 Al A1 A2 A3 fr A4 BT Cd Cl Cm fs CX C0 C2 De D0 fv Ed En Ep Fg Fr fw Fs FK Ga Gb Gc fx Gd Ge Gf Gn Gt fD GW GX GY GZ G0 f0 G1 G2 G3 G4 G5 ga G6 G7 G8 G9 Ha gb Hb Hc gc gd ge cp gg:Value} {T1:Addr} {Jh:Value} {Ji:Option Addr} {Jj:Nat} {Jk:Array (Option Value)} {bk:Tok} {T4:Addr} {Jl:Value} {Jm:Option Addr} {Jn:Nat} {Jo:Array (Option Value)} {bl:Tok} {ek:Addr} {Hd:Value} {He:Option Addr} {Hf:Nat} {Hg:Array (Option Value)} {ab:Addr} {ap:Addr} {h6 gi:Option Addr} {go:Array (Option Value)} {gp gr gu gw bs gx:Value} {ar:Addr} {h7 gC:Option Addr} {gD:Array (Option Value)} {gN gO gT gV bz g0:Value} {as:Addr} {h8 g1:Option Addr} {g2:Array (Option Value)} {g3 g4 g5 g6 bC g7:Value} {az:Addr} {h9 g8:Option Addr} {ha:Array (Option Value)} {hb hc hd he bG hf:Value} {a0:Addr} {id hg:Option Addr} {hh:Array (Option Value)} {hi hj hk hm bH hn:Value} {be:Addr} {ih ho:Option Addr} {hp:Array (Option Value)} {hq hr hs ht bN hu:Value} {bi:Addr} {ij hv:Option Addr} {hx:Array (Option Value)} {hy hz hA hB bT hC:Value} {bj:Addr} {is hD:Option Addr} {hE:Array (Option Value)} {hF hG hH hI b0 hK:Value} {Hh:Tok} {Hi:Tok} {Hj:Tok} {Hk:Tok} {Hl:Tok} {Hm:Tok} {Hn:Tok} {Ho:Tok} {hL:Addr} {Jp:Option Addr} {Jq:Nat} {Jr:Array (Option Value)} {it ix i0:Tok} {an:Addr} {Hq:ClassData} {ad:Addr} {Hr:ClassData} {ai:Addr} {Hs:ClassData} {aj:Addr} {Ht:ClassData}
 (a1:nsIn K mainGlobals "is_whole"=oR f1) (l1:K.lookup f1=oL "is_whole" "is_whole" (aA 8) (.ref T1) Iy Iz IA H4 lo IB Ix H3 Im) (c1:codeIn K lo "is_whole"=true) (k1:keepIn K (.ref f1)=true)
 (a2:nsIn K mainGlobals "whole"=oR f2) (l2:K.lookup f2=oL "whole" "whole" (aA 9) .none ID IE IF H6 lp IG IC H5 Io) (c2:codeIn K lp "whole"=true) (k2:keepIn K (.ref f2)=true)
 (a3:nsIn K mainGlobals "endless"=oR f3) (l3:K.lookup f3=oL "endless" "endless" (aA 10) .none II IJ IK H8 ls IL IH H7 Ip) (c3:codeIn K ls "endless"=true) (k3:keepIn K (.ref f3)=true)
 (a4:nsIn K mainGlobals "raised"=oR f4) (l4:K.lookup f4=oL "raised" "raised" (aA 11) (.ref T4) IN IP IQ Ia lt IR IM H9 Iq) (c4:codeIn K lt "raised"=true) (k4:keepIn K (.ref f4)=true)
 (a5:nsIn K mainGlobals "compare"=oR f5) (l5:K.lookup f5=oL "compare" "compare" (aA 12) .none IT IU IV Ic lv IW IS Ib Ir) (c5:codeIn K lv "compare"=true) (k5:keepIn K (.ref f5)=true)
 (a6:nsIn K mainGlobals "whole_part"=oR f6) (l6:K.lookup f6=oL "whole_part" "whole_part" (aA 13) .none IY IZ I0 If lw I1 IX Ie Is) (c6:codeIn K lw "whole_part"=true) (k6:keepIn K (.ref f6)=true)
 (a7:nsIn K mainGlobals "without_whole"=oR f7) (l7:K.lookup f7=oL "without_whole" "without_whole" (aA 14) .none I3 I4 I5 Ih ly I6 I2 Ig Iu) (c7:codeIn K ly "without_whole"=true) (k7:keepIn K (.ref f7)=true)
 (a8:nsIn K mainGlobals "greatest"=oR f8) (l8:K.lookup f8=oL "greatest" "greatest" (aA 15) .none I8 I9 Ja Ij lL Jb I7 Ii Iv) (c8:codeIn K lL "greatest"=true) (k8:keepIn K (.ref f8)=true)
 (a9:nsIn K mainGlobals "deep"=oR f9) (l9:K.lookup f9=oL "deep" "deep" (aA 16) .none Jd Je Jf Il l0 Jg Jc Ik Iw) (c9:codeIn K l0 "deep"=true) (k9:keepIn K (.ref f9)=true)
 (Js:nsIn K mainGlobals "plus"=oR cs) (Jt:K.lookup cs=oL "plus" "plus" (aA 18) .none q8 q9 ra mc en rb q7 mb pg) (Ju:codeIn K en "plus"=true) (Jv:keepIn K (.ref cs)=true)
 (Jw:nsIn K mainGlobals "parts_above"=oR ct) (Jx:K.lookup ct=oL "parts_above" "parts_above" (aA 19) .none rg ri rj mj eo rk rd mi pi) (Jy:codeIn K eo "parts_above"=true) (Jz:keepIn K (.ref ct)=true)
 (JA:nsIn K mainGlobals "minus"=oR cw) (JB:K.lookup cw=oL "minus" "minus" (aA 20) .none rs rt ru ml ep rv rr mk pj) (JC:codeIn K ep "minus"=true) (JD:keepIn K (.ref cw)=true)
 (JE:nsIn K mainGlobals "parts_alike"=oR cD) (JF:K.lookup cD=oL "parts_alike" "parts_alike" (aA 21) .none rx ry rz mn eq r0 rw mm pl) (JG:codeIn K eq "parts_alike"=true) (JH:keepIn K (.ref cD)=true)
 (JI:nsIn K mainGlobals "times"=oR cG) (JJ:K.lookup cG=oL "times" "times" (aA 23) .none r2 r3 r4 mp er r5 r1 mo pm) (JK:codeIn K er "times"=true) (JL:keepIn K (.ref cG)=true)
 (JM:nsIn K mainGlobals "power"=oR cH) (JN:K.lookup cH=oL "power" "power" (aA 27) .none r8 sa sb ms es se r7 mr pn) (JO:codeIn K es "power"=true) (JP:keepIn K (.ref cH)=true)
 (JQ:nsIn K mainGlobals "power_of_part"=oR cN) (JR:K.lookup cN=oL "power_of_part" "power_of_part" (aA 28) .none sg sl sm mu et sn sf mt po) (JS:codeIn K et "power_of_part"=true) (JT:keepIn K (.ref cN)=true)
 (JU:nsIn K mainGlobals "is_too_great_powers"=oR cT) (JV:K.lookup cT=oL "is_too_great" "is_too_great" (aA 29) .none sp sq sr mA eu sv so mz pr) (JW:codeIn K eu "is_too_great"=true) (JX:keepIn K (.ref cT)=true)
 (JY:nsIn K mainGlobals "endless_power"=oR c0) (JZ:K.lookup c0=oL "endless_power" "endless_power" (aA 31) .none sz sD s0 mG ev s1 sx mC pt) (J0:codeIn K ev "endless_power"=true) (J1:keepIn K (.ref c0)=true)
 (J2:nsIn K mainGlobals "whole_power"=oR da) (J3:K.lookup da=oL "whole_power" "whole_power" (aA 32) .none s3 s4 s5 mL ew s6 s2 mH pu) (J4:codeIn K ew "whole_power"=true) (J5:keepIn K (.ref da)=true)
 (J6:nsIn K mainGlobals "is_figure"=oR db) (J7:K.lookup db=oL "is_figure" "is_figure" (aA 41) .none s8 ta tb mR ex tc s7 mN pw) (J8:codeIn K ex "is_figure"=true) (J9:keepIn K (.ref db)=true)
 (Ka:nsIn K mainGlobals "is_letter"=oR dd) (Kb:K.lookup dd=oL "is_letter" "is_letter" (aA 42) .none te tg th m0 ey tk td mT py) (Kc:codeIn K ey "is_letter"=true) (Kd:keepIn K (.ref dd)=true)
 (Ke:nsIn K mainGlobals "is_figures"=oR df) (Kf:K.lookup df=oL "is_figures" "is_figures" (aA 43) .none to tr ts m2 ez tt tn m1 p1) (Kg:codeIn K ez "is_figures"=true) (Kh:keepIn K (.ref df)=true)
 (Ki:nsIn K mainGlobals "is_name"=oR di) (Kj:K.lookup di=oL "is_name" "is_name" (aA 44) .none tx ty tA m4 eD t0 tv m3 p2) (Kk:codeIn K eD "is_name"=true) (Kl:keepIn K (.ref di)=true)
 (Km:nsIn K mainGlobals "thing_of"=oR dj) (Kn:K.lookup dj=oL "thing_of" "thing_of" (aA 45) .none t3 t5 t6 m6 eG t7 t2 m5 p3) (Ko:codeIn K eG "thing_of"=true) (Kp:keepIn K (.ref dj)=true)
 (Kq:nsIn K mainGlobals "steps_of"=oR dk) (Kr:K.lookup dk=oL "steps_of" "steps_of" (aA 47) .none ua ub un na eH up t8 m7 p4) (Ks:codeIn K eH "steps_of"=true) (Kt:keepIn K (.ref dk)=true)
 (Ku:nsIn K mainGlobals "looked_up"=oR dl) (Kv:K.lookup dl=oL "looked_up" "looked_up" (aA 48) .none uy u1 u2 nc eN u8 ux nb p5) (Kw:codeIn K eN "looked_up"=true) (Kx:keepIn K (.ref dl)=true)
 (Ky:nsIn K mainGlobals "reckoned"=oR ds) (Kz:K.lookup ds=oL "reckoned" "reckoned" (aA 49) .none vb vl vr ne e0 vs va nd p6) (KA:codeIn K e0 "reckoned"=true) (KB:keepIn K (.ref ds)=true)
 (KC:nsIn K mainGlobals "joined"=oR dx) (KD:K.lookup dx=oL "joined" "joined" (aA 50) .none vx vy v1 nh e2 v2 vu nf qa) (KE:codeIn K e2 "joined"=true) (KF:keepIn K (.ref dx)=true)
 (ma:nsIn K mainGlobals "is_too_great"=oR bm) (KG:K.lookup bm=oL "is_too_great" "is_too_great" (aA 51) .none v4 v5 v8 nm e3 wa v3 nl qb) (KH:codeIn K e3 "is_too_great"=true) (KI:keepIn K (.ref bm)=true)
 (KJ:nsIn K mainGlobals "has_many_parts"=oR dG) (KK:K.lookup dG=oL "has_many_parts" "has_many_parts" (aA 53) .none wi wl wr no e5 ws wb nn qn) (KL:codeIn K e5 "has_many_parts"=true) (KM:keepIn K (.ref dG)=true)
 (KN:nsIn K mainGlobals "read"=oR br) (KO:K.lookup br=oL "read" "read" (aA 55) (.ref ek) wx wy w0 ns e6 w2 wt np qq) (KP:codeIn K e6 "read"=true) (KQ:keepIn K (.ref br)=true)
 (KR:nsIn K mainGlobals "_law_compare"=oR dH) (KS:K.lookup dH=oL "_law_compare" "_law_compare" (aA 57) .none w4 w5 w7 nx e7 w8 w3 nt qs) (KT:codeIn K e7 "_law_compare"=true) (KU:keepIn K (.ref dH)=true)
 (KW:nsIn K mainGlobals "_law_with"=oR dK) (KY:K.lookup dK=oL "_law_with" "_law_with" (aA 58) .none xd xe xr nT e8 xs xa nL qu) (KZ:codeIn K e8 "_law_with"=true) (K0:keepIn K (.ref dK)=true)
 (K1:nsIn K mainGlobals "_law_size"=oR dN) (K2:K.lookup dN=oL "_law_size" "_law_size" (aA 59) .none xG xH xN n1 fb xT xC n0 qv) (K3:codeIn K fb "_law_size"=true) (K4:keepIn K (.ref dN)=true)
 (K5:nsIn K mainGlobals "_law_next"=oR dO) (K6:K.lookup dO=oL "_law_next" "_law_next" (aA 60) .none x1 x2 x3 n3 fg x7 x0 n2 qx) (K7:codeIn K fg "_law_next"=true) (K8:keepIn K (.ref dO)=true)
 (K9:nsIn K mainGlobals "_law_pool"=oR dT) (La:K.lookup dT=oL "_law_pool" "_law_pool" (aA 61) .none ys y1 y2 n7 fl y5 yl n4 qB) (Lb:codeIn K fl "_law_pool"=true) (Lc:keepIn K (.ref dT)=true)
 (Ld:nsIn K mainGlobals "_law_shown"=oR dV) (Le:K.lookup dV=oL "_law_shown" "_law_shown" (aA 62) .none zb zf zi oc fn zj za ob qF) (Lf:codeIn K fn "_law_shown"=true) (Lg:keepIn K (.ref dV)=true)
 (Lh:nsIn K mainGlobals "_law_sign"=oR d1) (Li:K.lookup d1=oL "_law_sign" "_law_sign" (aA 63) .none zp zr zs oe fp z0 zl od qG) (Lj:codeIn K fp "_law_sign"=true) (Lk:keepIn K (.ref d1)=true)
 (Ll:nsIn K mainGlobals "_law_spoiled"=oR d2) (Ln:K.lookup d2=oL "_law_spoiled" "_law_spoiled" (aA 64) .none A1 A2 A3 oi fr A4 Al of qH) (Lo:codeIn K fr "_law_spoiled"=true) (Lp:keepIn K (.ref d2)=true)
 (Lq:nsIn K mainGlobals "_law_name"=oR d3) (Lr:K.lookup d3=oL "_law_name" "_law_name" (aA 65) .none Cd Cl Cm ok fs CX BT oj qN) (Ls:codeIn K fs "_law_name"=true) (Lu:keepIn K (.ref d3)=true)
 (Lv:nsIn K mainGlobals "_law_run"=oR ea) (Lx:K.lookup ea=oL "_law_run" "_law_run" (aA 66) .none C2 De D0 on fv Ed C0 ol qT) (Ly:codeIn K fv "_law_run"=true) (Lz:keepIn K (.ref ea)=true)
 (LB:nsIn K mainGlobals "_law_step"=oR eb) (LC:K.lookup eb=oL "_law_step" "_law_step" (aA 67) .none Ep Fg Fr or fw Fs En op q0) (LD:codeIn K fw "_law_step"=true) (LF:keepIn K (.ref eb)=true)
 (LH:nsIn K mainGlobals "_law_names"=oR ec) (LJ:K.lookup ec=oL "_law_names" "_law_names" (aA 68) .none Ga Gb Gc ov fx Gd FK os q1) (LK:codeIn K fx "_law_names"=true) (LL:keepIn K (.ref ec)=true)
 (LM:nsIn K mainGlobals "_law_marks"=oR ed) (LN:K.lookup ed=oL "_law_marks" "_law_marks" (aA 69) .none Gf Gn Gt oT fD GW Ge oD q2) (LP:codeIn K fD "_law_marks"=true) (LQ:keepIn K (.ref ed)=true)
 (LU:nsIn K mainGlobals "_law_told"=oR ee) (LV:K.lookup ee=oL "_law_told" "_law_told" (aA 70) .none GY GZ G0 o1 f0 G1 GX oX q3) (LW:codeIn K f0 "_law_told"=true) (LX:keepIn K (.ref ee)=true)
 (LY:nsIn K mainGlobals "_law_right"=oR ef) (LZ:K.lookup ef=oL "_law_right" "_law_right" (aA 71) .none G3 G4 G5 o3 ga G6 G2 o2 q4) (L0:codeIn K ga "_law_right"=true) (L1:keepIn K (.ref ef)=true)
 (L2:nsIn K mainGlobals "_law_edge"=oR ej) (L3:K.lookup ej=oL "_law_edge" "_law_edge" (aA 72) .none G8 G9 Ha pb gb Hb G7 pa q5) (L4:codeIn K gb "_law_edge"=true) (L5:keepIn K (.ref ej)=true)
 (L6:nsIn K mainGlobals "law"=oR el) (L7:K.lookup el=oL "law" "law" (aA 73) .none gc gd ge em cp gg Hc pd q6) (L8:codeIn K cp "law"=true) (L9:keepIn K (.ref el)=true)
 (t1:K.lookup T1=some ⟨Jh,Ji,.seq #[.int 0 bk] Jj,Jk⟩)
 (t4:K.lookup T4=some ⟨Jl,Jm,.seq #[.int 1 bl] Jn,Jo⟩)
 (Ma:K.lookup ek=some ⟨Hd,He,.seq #[.none] Hf,Hg⟩)
 (Mb:nsIn K mainGlobals "MOST_FACTORS"=some (some (.int 24 Hh)))
 (Mc:nsIn K mainGlobals "MOST_PARTS_powers"=some (some (.int 24 Hi)))
 (Me:nsIn K mainGlobals "MOST_SIGNS"=some (some (.int 2000 Hj)))
 (Mf:nsIn K mainGlobals "MOST_FIGURES"=some (some (.int 60 Hk)))
 (Mg:nsIn K mainGlobals "MOST_LETTERS"=some (some (.int 8 Hl)))
 (Mh:nsIn K mainGlobals "MOST_BRACKETS"=some (some (.int 20 Hm)))
 (Mi:nsIn K mainGlobals "MOST_PARTS_readings"=some (some (.int 400 Hn)))
 (Mj:nsIn K mainGlobals "MOST_DEEP"=some (some (.int 40 Ho)))
 (Hu:nsIn K mainGlobals "JOINING"=oR hL) (Hv:K.lookup hL=some ⟨.type "tuple",Jp,.seq [.str "+" it,.str "*" ix,.str "^" i0].toArray Jq,Jr⟩)
 (Ml:nsIn K mainGlobals "HydraError"=oR an) (Mm:excIn K an [.type "ValueError",.type "Exception",.type "BaseException",.type "object"] "ValueError.__new__"=true)
 (Mn:nsIn K mainGlobals "NoText"=oR ad) (Mo:excIn K ad [.type "ValueError",.type "Exception",.type "BaseException",.type "object"] "ValueError.__new__"=true)
 (Mp:nsIn K mainGlobals "NoName"=oR ai) (Mq:excIn K ai [.type "ValueError",.type "Exception",.type "BaseException",.type "object"] "ValueError.__new__"=true)
 (Mr:nsIn K mainGlobals "TooGreat"=oR aj) (Ms:excIn K aj [.type "ValueError",.type "Exception",.type "BaseException",.type "object"] "ValueError.__new__"=true)
 (i1:mroIn K ad (.ref an)=some true)
 (i2:mroIn K ad (.ref ai)=some false)
 (i3:mroIn K ad (.ref aj)=some false)
 (i5:mroIn K ai (.ref an)=some true)
 (j0:mroIn K ai (.ref ad)=some false)
 (j1:mroIn K ai (.ref aj)=some false)
 (j2:mroIn K aj (.ref an)=some true)
 (j3:mroIn K aj (.ref ad)=some false)
 (j4:mroIn K aj (.ref ai)=some false)
 (Hw:findIn K (.ref an) "__getattribute__"=oB "BaseException.__getattribute__") (Hx:findIn K (.ref an) "__getattr__"=some none) (Hy:findIn K (.ref an) "__class__"=oB "object.__class__") (Hz:clsIn K an=some Hq) (HA:typeIn K (.ref an)=some (.type "type")) (HB:instIn K (.ref an) (.type "type")=some true)
 (HC:findIn K (.ref ad) "__getattribute__"=oB "BaseException.__getattribute__") (HD:findIn K (.ref ad) "__getattr__"=some none) (HE:findIn K (.ref ad) "__class__"=oB "object.__class__") (HF:clsIn K ad=some Hr) (HG:typeIn K (.ref ad)=some (.type "type")) (HH:instIn K (.ref ad) (.type "type")=some true)
 (HI:findIn K (.ref ai) "__getattribute__"=oB "BaseException.__getattribute__") (HJ:findIn K (.ref ai) "__getattr__"=some none) (HK:findIn K (.ref ai) "__class__"=oB "object.__class__") (HL:clsIn K ai=some Hs) (HM:typeIn K (.ref ai)=some (.type "type")) (HN:instIn K (.ref ai) (.type "type")=some true)
 (HP:findIn K (.ref aj) "__getattribute__"=oB "BaseException.__getattribute__") (HQ:findIn K (.ref aj) "__getattr__"=some none) (HR:findIn K (.ref aj) "__class__"=oB "object.__class__") (HS:clsIn K aj=some Ht) (HU:typeIn K (.ref aj)=some (.type "type")) (HV:instIn K (.ref aj) (.type "type")=some true)
 (Mu:nsIn K mainGlobals "is_too_great_readings"=oR bm)
 (Mv:nsIn K mainGlobals "Reading"=oR ab) (HW:plainGet K ab Str.empty=true) (HX:hasDictIn K ab=true) (HY:PySem.W.plainOver K ab=true) (HZ:findIn K (.ref ab) "__setattr__"=oB "object.__setattr__") (H0:PySem.W.makesIn K ab=true) (H1:keepIn K (.ref ab)=true) (j5:findIn K (.ref ab) "text"=some none) (ka:findIn K (.ref ab) "place"=some none) (kb:findIn K (.ref ab) "steps"=some none) (ke:findIn K (.ref ab) "__init__"=oR ap) (hM:isFn K (.ref ap)=true) (kk:K.lookup ap=oL "__init__" "Reading.__init__" (cO 46 0) .none gr gu gw gi bs gx gp h6 go) (hN:codeIn K bs "Reading.__init__"=true) (hO:keepIn K (.ref ap)=true) (kp:findIn K (.ref ab) "read_sum"=oR ar) (hP:isFn K (.ref ar)=true) (ks:K.lookup ar=oL "read_sum" "Reading.read_sum" (cO 46 1) .none gO gT gV gC bz g0 gN h7 gD) (hQ:codeIn K bz "Reading.read_sum"=true) (cb:keepIn K (.ref ar)=true) (kv:findIn K (.ref ab) "read_product"=oR as) (hR:isFn K (.ref as)=true) (kw:K.lookup as=oL "read_product" "Reading.read_product" (cO 46 2) .none g4 g5 g6 g1 bC g7 g3 h8 g2) (hS:codeIn K bC "Reading.read_product"=true) (cc:keepIn K (.ref as)=true) (k0:findIn K (.ref ab) "read_power"=oR az) (hT:isFn K (.ref az)=true) (la:K.lookup az=oL "read_power" "Reading.read_power" (cO 46 3) .none hc hd he g8 bG hf hb h9 ha) (hU:codeIn K bG "Reading.read_power"=true) (cd:keepIn K (.ref az)=true) (lb:findIn K (.ref ab) "read_thing"=oR a0) (hX:isFn K (.ref a0)=true) (lc:K.lookup a0=oL "read_thing" "Reading.read_thing" (cO 46 4) .none hj hk hm hg bH hn hi id hh) (hY:codeIn K bH "Reading.read_thing"=true) (ch:keepIn K (.ref a0)=true) (ld:findIn K (.ref ab) "word"=oR be) (h0:isFn K (.ref be)=true) (lf:K.lookup be=oL "word" "Reading.word" (cO 46 5) .none hr hs ht ho bN hu hq ih hp) (h1:codeIn K bN "Reading.word"=true) (cl:keepIn K (.ref be)=true) (lk:findIn K (.ref ab) "pass_by"=oR bi) (h2:isFn K (.ref bi)=true) (ll:K.lookup bi=oL "pass_by" "Reading.pass_by" (cO 46 6) .none hz hA hB hv bT hC hy ij hx) (h3:codeIn K bT "Reading.pass_by"=true) (cn:keepIn K (.ref bi)=true) (lm:findIn K (.ref ab) "sign"=oR bj) (h4:isFn K (.ref bj)=true) (ln:K.lookup bj=oL "sign" "Reading.sign" (cO 46 7) .none hG hH hI hD b0 hK hF is hE) (h5:codeIn K b0 "Reading.sign"=true) (co:keepIn K (.ref bj)=true)
 (z1:nsIn K mainGlobals "ValueError"=some none) (z2:nsIn K mainGlobals "all"=some none) (z3:nsIn K mainGlobals "bool"=some none) (z4:nsIn K mainGlobals "int"=some none) (z5:nsIn K mainGlobals "isinstance"=some none) (z6:nsIn K mainGlobals "len"=some none) (z7:nsIn K mainGlobals "max"=some none) (z8:nsIn K mainGlobals "range"=some none) (z9:nsIn K mainGlobals "str"=some none) (Mw:nsIn K mainGlobals "sum"=some none) (Mx:nsIn K mainGlobals "tuple"=some none) (My:nsIn K mainGlobals "zip"=some none):
 ∃fd:FuncData,(∀(s:Shared) (v:Value),BindsTo s fd ⟨[v],[]⟩ [("_law_script",v)])/\∀base:Heap,K.In base->base.Ns mainGlobals mg->fS l.prog w K mg base sK 100 fa fd ["_law_script"] (uY K j6):=by
 have e:=H2.symm.trans (mg_of X G L6);cases e;have F1:fY K "is_whole" "is_whole" (aA 8) f1 _ T1 [.int 0 bk]:=kL l1 c1 k1 t1 rfl;have b1:bL K _ ["thing","least"] []:=F1.binds λ_ _ _ _ _ _ us hl=>(λ(q:us.length=2)=>by clear hl;revert us;refine bO (λ_=>bO (λ_=>dg ?_));exact⟨_,rfl,rfl⟩) (by simpa using hl);have e1:bL K _ ["thing","least"] [.int 0 bk]:=F1.binds λ_ _ _ _ _ _ us hl=>(λ(q:us.length=1)=>by clear hl;revert us;refine bO (λ_=>dg ?_);exact⟨_,rfl,rfl⟩) (by simpa using hl);have F2:=aP (st:=aA 9) l2 c2 k2;have b2:=F2.binds (ps:=["n"]) λ_ _ _ _ _ _=>bO (λ_=>dg rfl);have F3:=aP (st:=aA 10) l3 c3 k3;have b3:=F3.binds (ps:=[]) λ_ _ _ _ _ _=>dg rfl;have F4:fY K "raised" "raised" (aA 11) f4 _ T4 [.int 1 bl]:=kL l4 c4 k4 t4 rfl;have b4:bL K _ ["exponent","times"] []:=F4.binds λ_ _ _ _ _ _ us hl=>(λ(q:us.length=2)=>by clear hl;revert us;refine bO (λ_=>bO (λ_=>dg ?_));exact⟨_,rfl,rfl⟩) (by simpa using hl);have e4:bL K _ ["exponent","times"] [.int 1 bl]:=F4.binds λ_ _ _ _ _ _ us hl=>(λ(q:us.length=1)=>by clear hl;revert us;refine bO (λ_=>dg ?_);exact⟨_,rfl,rfl⟩) (by simpa using hl);have F5:=aP (st:=aA 12) l5 c5 k5;have b5:=F5.binds (ps:=["a","b"]) λ_ _ _ _ _ _=>bO (λ_=>bO (λ_=>dg rfl));have F6:=aP (st:=aA 13) l6 c6 k6;have b6:=F6.binds (ps:=["a"]) λ_ _ _ _ _ _=>bO (λ_=>dg rfl);have F7:=aP (st:=aA 14) l7 c7 k7;have b7:=F7.binds (ps:=["a"]) λ_ _ _ _ _ _=>bO (λ_=>dg rfl);have F8:=aP (st:=aA 15) l8 c8 k8;have b8:=F8.binds (ps:=["a"]) λ_ _ _ _ _ _=>bO (λ_=>dg rfl);have F9:=aP (st:=aA 16) l9 c9 k9;have b9:=F9.binds (ps:=["a"]) λ_ _ _ _ _ _=>bO (λ_=>dg rfl);have F10:=aP (st:=aA 18) Jt Ju Jv;have b10:=F10.binds (ps:=["a","b"]) λ_ _ _ _ _ _=>bO (λ_=>bO (λ_=>dg rfl));have F11:=aP (st:=aA 19) Jx Jy Jz;have b11:=F11.binds (ps:=["a","exponent"]) λ_ _ _ _ _ _=>bO (λ_=>bO (λ_=>dg rfl));have F12:=aP (st:=aA 20) JB JC JD;have b12:=F12.binds (ps:=["a","b"]) λ_ _ _ _ _ _=>bO (λ_=>bO (λ_=>dg rfl));have F13:=aP (st:=aA 21) JF JG JH;have b13:=F13.binds (ps:=["a","b"]) λ_ _ _ _ _ _=>bO (λ_=>bO (λ_=>dg rfl));have F14:=aP (st:=aA 23) JJ JK JL;have b14:=F14.binds (ps:=["a","b"]) λ_ _ _ _ _ _=>bO (λ_=>bO (λ_=>dg rfl));have F15:=aP (st:=aA 27) JN JO JP;have b15:=F15.binds (ps:=["a","b"]) λ_ _ _ _ _ _=>bO (λ_=>bO (λ_=>dg rfl));have F16:=aP (st:=aA 28) JR JS JT;have b16:=F16.binds (ps:=["part","b"]) λ_ _ _ _ _ _=>bO (λ_=>bO (λ_=>dg rfl));have F17:=aP (st:=aA 29) JV JW JX;have b17:=F17.binds (ps:=["a","b"]) λ_ _ _ _ _ _=>bO (λ_=>bO (λ_=>dg rfl));have F18:=aP (st:=aA 31) JZ J0 J1;have b18:=F18.binds (ps:=["a","limit"]) λ_ _ _ _ _ _=>bO (λ_=>bO (λ_=>dg rfl));have F19:=aP (st:=aA 32) J3 J4 J5;have b19:=F19.binds (ps:=["a","n"]) λ_ _ _ _ _ _=>bO (λ_=>bO (λ_=>dg rfl));have F20:=aP (st:=aA 41) J7 J8 J9;have b20:=F20.binds (ps:=["sign"]) λ_ _ _ _ _ _=>bO (λ_=>dg rfl);have F21:=aP (st:=aA 42) Kb Kc Kd;have b21:=F21.binds (ps:=["sign"]) λ_ _ _ _ _ _=>bO (λ_=>dg rfl);have F22:=aP (st:=aA 43) Kf Kg Kh;have b22:=F22.binds (ps:=["text"]) λ_ _ _ _ _ _=>bO (λ_=>dg rfl);have F23:=aP (st:=aA 44) Kj Kk Kl;have b23:=F23.binds (ps:=["text"]) λ_ _ _ _ _ _=>bO (λ_=>dg rfl);have F24:=aP (st:=aA 45) Kn Ko Kp;have b24:=F24.binds (ps:=["word"]) λ_ _ _ _ _ _=>bO (λ_=>dg rfl);have F25:=aP (st:=aA 47) Kr Ks Kt;have b25:=F25.binds (ps:=["text"]) λ_ _ _ _ _ _=>bO (λ_=>dg rfl);have F26:=aP (st:=aA 48) Kv Kw Kx;have b26:=F26.binds (ps:=["steps","names"]) λ_ _ _ _ _ _=>bO (λ_=>bO (λ_=>dg rfl));have F27:=aP (st:=aA 49) Kz KA KB;have b27:=F27.binds (ps:=["steps"]) λ_ _ _ _ _ _=>bO (λ_=>dg rfl);have F28:=aP (st:=aA 50) KD KE KF;have b28:=F28.binds (ps:=["first","sign","second"]) λ_ _ _ _ _ _=>bO (λ_=>bO (λ_=>bO (λ_=>dg rfl)));have F29:=aP (st:=aA 51) KG KH KI;have b29:=F29.binds (ps:=["a"]) λ_ _ _ _ _ _=>bO (λ_=>dg rfl);have F30:=aP (st:=aA 53) KK KL KM;have b30:=F30.binds (ps:=["a"]) λ_ _ _ _ _ _=>bO (λ_=>dg rfl);have F31:fY K "read" "read" (aA 55) br _ ek [.none]:=kL KO KP KQ Ma rfl;have b31:bL K _ ["text","names"] []:=F31.binds λ_ _ _ _ _ _ us hl=>(λ(q:us.length=2)=>by clear hl;revert us;refine bO (λ_=>bO (λ_=>dg ?_));exact⟨_,rfl,rfl⟩) (by simpa using hl);have e31:bL K _ ["text","names"] [.none]:=F31.binds λ_ _ _ _ _ _ us hl=>(λ(q:us.length=1)=>by clear hl;revert us;refine bO (λ_=>dg ?_);exact⟨_,rfl,rfl⟩) (by simpa using hl);have F32:=aP (st:=aA 57) KS KT KU;have b32:=F32.binds (ps:=["_law_a","_law_b"]) λ_ _ _ _ _ _=>bO (λ_=>bO (λ_=>dg rfl));have F33:=aP (st:=aA 58) KY KZ K0;have b33:=F33.binds (ps:=["_law_number","_law_exponent","_law_many"]) λ_ _ _ _ _ _=>bO (λ_=>bO (λ_=>bO (λ_=>dg rfl)));have F34:=aP (st:=aA 59) K2 K3 K4;have b34:=F34.binds (ps:=["_law_number"]) λ_ _ _ _ _ _=>bO (λ_=>dg rfl);have F35:=aP (st:=aA 60) K6 K7 K8;have b35:=F35.binds (ps:=["_law_pool_here","_law_cell"]) λ_ _ _ _ _ _=>bO (λ_=>bO (λ_=>dg rfl));have F36:=aP (st:=aA 61) La Lb Lc;have b36:=F36.binds (ps:=["_law_script"]) λ_ _ _ _ _ _=>bO (λ_=>dg rfl);have F37:=aP (st:=aA 62) Le Lf Lg;have b37:=F37.binds (ps:=["_law_number"]) λ_ _ _ _ _ _=>bO (λ_=>dg rfl);have F38:=aP (st:=aA 63) Li Lj Lk;have b38:=F38.binds (ps:=["_law_cell"]) λ_ _ _ _ _ _=>bO (λ_=>dg rfl);have F39:=aP (st:=aA 64) Ln Lo Lp;have b39:=F39.binds (ps:=["_law_text","_law_cell"]) λ_ _ _ _ _ _=>bO (λ_=>bO (λ_=>dg rfl));have F40:=aP (st:=aA 65) Lr Ls Lu;have b40:=F40.binds (ps:=["_law_cell"]) λ_ _ _ _ _ _=>bO (λ_=>dg rfl);have F41:=aP (st:=aA 66) Lx Ly Lz;have b41:=F41.binds (ps:=["_law_text","_law_at","_law_signs"]) λ_ _ _ _ _ _=>bO (λ_=>bO (λ_=>bO (λ_=>dg rfl)));have F42:=aP (st:=aA 67) LC LD LF;have b42:=F42.binds (ps:=["_law_text","_law_at","_law_waiting"]) λ_ _ _ _ _ _=>bO (λ_=>bO (λ_=>bO (λ_=>dg rfl)));have F43:=aP (st:=aA 68) LJ LK LL;have b43:=F43.binds (ps:=["_law_text"]) λ_ _ _ _ _ _=>bO (λ_=>dg rfl);have F44:=aP (st:=aA 69) LN LP LQ;have b44:=F44.binds (ps:=["_law_e"]) λ_ _ _ _ _ _=>bO (λ_=>dg rfl);have F45:=aP (st:=aA 70) LV LW LX;have b45:=F45.binds (ps:=["_law_text","_law_names_here"]) λ_ _ _ _ _ _=>bO (λ_=>bO (λ_=>dg rfl));have F46:=aP (st:=aA 71) LZ L0 L1;have b46:=F46.binds (ps:=["_law_text","_law_names_here"]) λ_ _ _ _ _ _=>bO (λ_=>bO (λ_=>dg rfl));have F47:=aP (st:=aA 72) L3 L4 L5;have b47:=F47.binds (ps:=["_law_cell"]) λ_ _ _ _ _ _=>bO (λ_=>dg rfl);have F48:=aP (st:=aA 73) L7 L8 L9;have FM0_0:=aP (st:=cO 46 0) kk hN hO;have bM0_0:=FM0_0.binds (ps:=["self","text"]) λ_ _ _ _ _ _=>bO (λ_=>bO (λ_=>dg rfl));have FM0_1:=aP (st:=cO 46 1) ks hQ cb;have bM0_1:=FM0_1.binds (ps:=["self","within"]) λ_ _ _ _ _ _=>bO (λ_=>bO (λ_=>dg rfl));have FM0_2:=aP (st:=cO 46 2) kw hS cc;have bM0_2:=FM0_2.binds (ps:=["self","within"]) λ_ _ _ _ _ _=>bO (λ_=>bO (λ_=>dg rfl));have FM0_3:=aP (st:=cO 46 3) la hU cd;have bM0_3:=FM0_3.binds (ps:=["self","within"]) λ_ _ _ _ _ _=>bO (λ_=>bO (λ_=>dg rfl));have FM0_4:=aP (st:=cO 46 4) lc hY ch;have bM0_4:=FM0_4.binds (ps:=["self","within"]) λ_ _ _ _ _ _=>bO (λ_=>bO (λ_=>dg rfl));have FM0_5:=aP (st:=cO 46 5) lf h1 cl;have bM0_5:=FM0_5.binds (ps:=["self"]) λ_ _ _ _ _ _=>bO (λ_=>dg rfl);have FM0_6:=aP (st:=cO 46 6) ll h3 cn;have bM0_6:=FM0_6.binds (ps:=["self","sign"]) λ_ _ _ _ _ _=>bO (λ_=>bO (λ_=>dg rfl));have FM0_7:=aP (st:=cO 46 7) ln h5 co;have bM0_7:=FM0_7.binds (ps:=["self"]) λ_ _ _ _ _ _=>bO (λ_=>dg rfl);have T:Txt K mg:=⟨⟨f1,_,T1,_,[.int 0],F1,b1,e1,mg_of X G a1,(.cons ⟨_,rfl⟩ .nil),λ_=>(.cons (.int _) .nil)⟩,⟨f2,_,F2,b2,mg_of X G a2⟩,⟨f3,_,F3,b3,mg_of X G a3⟩,⟨f4,_,T4,_,[.int 1],F4,b4,e4,mg_of X G a4,(.cons ⟨_,rfl⟩ .nil),λ_=>(.cons (.int _) .nil)⟩,⟨f5,_,F5,b5,mg_of X G a5⟩,⟨f6,_,F6,b6,mg_of X G a6⟩,⟨f7,_,F7,b7,mg_of X G a7⟩,⟨f8,_,F8,b8,mg_of X G a8⟩,⟨f9,_,F9,b9,mg_of X G a9⟩,⟨cs,_,F10,b10,mg_of X G Js⟩,⟨ct,_,F11,b11,mg_of X G Jw⟩,⟨cw,_,F12,b12,mg_of X G JA⟩,⟨cD,_,F13,b13,mg_of X G JE⟩,⟨cG,_,F14,b14,mg_of X G JI⟩,⟨cH,_,F15,b15,mg_of X G JM⟩,⟨cN,_,F16,b16,mg_of X G JQ⟩,⟨cT,_,F17,b17,mg_of X G JU⟩,⟨c0,_,F18,b18,mg_of X G JY⟩,⟨da,_,F19,b19,mg_of X G J2⟩,⟨db,_,F20,b20,mg_of X G J6⟩,⟨dd,_,F21,b21,mg_of X G Ka⟩,⟨df,_,F22,b22,mg_of X G Ke⟩,⟨di,_,F23,b23,mg_of X G Ki⟩,⟨dj,_,F24,b24,mg_of X G Km⟩,⟨dk,_,F25,b25,mg_of X G Kq⟩,⟨dl,_,F26,b26,mg_of X G Ku⟩,⟨ds,_,F27,b27,mg_of X G Ky⟩,⟨dx,_,F28,b28,mg_of X G KC⟩,⟨bm,_,F29,b29,mg_of X G ma⟩,⟨dG,_,F30,b30,mg_of X G KJ⟩,⟨br,_,ek,_,[.non],F31,b31,e31,mg_of X G KN,(.cons rfl .nil),λ_=>(.cons .non .nil)⟩,⟨dH,_,F32,b32,mg_of X G KR⟩,⟨dK,_,F33,b33,mg_of X G KW⟩,⟨dN,_,F34,b34,mg_of X G K1⟩,⟨dO,_,F35,b35,mg_of X G K5⟩,⟨dT,_,F36,b36,mg_of X G K9⟩,⟨dV,_,F37,b37,mg_of X G Ld⟩,⟨d1,_,F38,b38,mg_of X G Lh⟩,⟨d2,_,F39,b39,mg_of X G Ll⟩,⟨d3,_,F40,b40,mg_of X G Lq⟩,⟨ea,_,F41,b41,mg_of X G Lv⟩,⟨eb,_,F42,b42,mg_of X G LB⟩,⟨ec,_,F43,b43,mg_of X G LH⟩,⟨ed,_,F44,b44,mg_of X G LM⟩,⟨ee,_,F45,b45,mg_of X G LU⟩,⟨ef,_,F46,b46,mg_of X G LY⟩,⟨ej,_,F47,b47,mg_of X G L2⟩,(mg_of X G Mu).trans (mg_of X G ma).symm,⟨ab,mg_of X G Mv,⟨HW,HX,HY,HZ⟩,j5,ka,kb,⟨ap,_,⟨H0,ke,hM,H1⟩,FM0_0,bM0_0⟩,⟨ar,_,⟨kp,hP,cb⟩,FM0_1,bM0_1⟩,⟨as,_,⟨kv,hR,cc⟩,FM0_2,bM0_2⟩,⟨az,_,⟨k0,hT,cd⟩,FM0_3,bM0_3⟩,⟨a0,_,⟨lb,hX,ch⟩,FM0_4,bM0_4⟩,⟨be,_,⟨ld,h0,cl⟩,FM0_5,bM0_5⟩,⟨bi,_,⟨lk,h2,cn⟩,FM0_6,bM0_6⟩,⟨bj,_,⟨lm,h4,co⟩,FM0_7,bM0_7⟩⟩,⟨an,ad,ai,aj,⟨mg_of X G Ml,Mm⟩,⟨mg_of X G Mn,Mo⟩,⟨mg_of X G Mp,Mq⟩,⟨mg_of X G Mr,Ms⟩,i1,i2,i3,i5,j0,j1,j2,j3,j4,⟨⟨Hw,Hx,Hy⟩,⟨⟨_,Hz⟩,HA,HB⟩⟩,⟨⟨HC,HD,HE⟩,⟨⟨_,HF⟩,HG,HH⟩⟩,⟨⟨HI,HJ,HK⟩,⟨⟨_,HL⟩,HM,HN⟩⟩,⟨⟨HP,HQ,HR⟩,⟨⟨_,HS⟩,HU,HV⟩⟩⟩,⟨_,mg_of X G Mb⟩,⟨_,mg_of X G Mc⟩,⟨_,mg_of X G Me⟩,⟨_,mg_of X G Mf⟩,⟨_,mg_of X G Mg⟩,⟨_,mg_of X G Mh⟩,⟨_,mg_of X G Mi⟩,⟨_,mg_of X G Mj⟩,⟨hL,mg_of X G Hu,_,_,_,_,Hv,(.cons ⟨_,rfl⟩ (.cons ⟨_,rfl⟩ (.cons ⟨_,rfl⟩ .nil)))⟩,mg_none_of X G z1,mg_none_of X G z2,mg_none_of X G z3,mg_none_of X G z4,mg_none_of X G z5,mg_none_of X G z6,mg_none_of X G z7,mg_none_of X G z8,mg_none_of X G z9,mg_none_of X G Mw,mg_none_of X G Mx,mg_none_of X G My⟩;exact⟨fnOf "law" "law" (ax (aA 73)) (aw (aA 73)) (al (aA 73)) .none gc gd ge em cp gg,λs v=> .of_eq rfl,λbase _ _=>As T F48⟩
theorem walk {l:PySem.W.OpenLaw} {q:Program} {loose:List Str} {XP:(Str->Option Value)->Heap->Prop} {YP:World->Heap->Prop} {d:DefRec} {K:Params->yav} (hn:l.most=some 63) (hdf:d.params.defaults=[])
 (hY:∀(w:World) (h:Heap),YP w h->(K w.params).In h)
 (F:∀(w:World) (mg:yew) (fa:Addr) (h:Heap),(K w.params).In h->h.Ns mainGlobals mg->mg d.name=some (.ref fa)->
   ∃fd:FuncData,(∀(s:Shared) (u:Value),BindsTo s fd ⟨[u],[]⟩ [("_law_script",u)])/\∀base:Heap,(K w.params).In base->base.Ns mainGlobals mg->fS l.prog w (K w.params) mg base sK 100 fa fd ["_law_script"] (uY (K w.params) j6)):
 PySem.W.WalkO q loose XP YP l.row.toRowW d [] (λf vs=>PySem.call f vs):=
 L2.walk_of (n:=63) (k:=100) (x:="_law_script") (CX:=λ_=>sK) (sp:=λw=>uY (K w.params) j6) hn (by decide) hdf ⟨rfl,by decide,by decide⟩ hY F (λ_ _ _ _ hl hO hS=>rH hO hS hl) λ_ _ _ _ _ z=>z
end Lw
namespace PySem.W.Fast
theorem te8908057063278323086:0=0:=rfl
theorem te7046990770340920973:0=0:=rfl
theorem te9275043408700798714:0=0:=rfl
theorem te12093570007812504962:0=0:=rfl
theorem te10500998787728384285:0=0:=rfl
theorem te8138398029919649230:0=0:=rfl
theorem te16127301774392944529:0=0:=rfl
theorem te9863959169404799371:0=0:=rfl
theorem te7101477328901118217:0=0:=rfl
theorem te2486713195773282033:0=0:=rfl
theorem te12140240855817549431:0=0:=rfl
theorem te12128609432507401968:0=0:=rfl
theorem te11429298923124918915:0=0:=rfl
theorem te16585560602770691293:0=0:=rfl
theorem te69135982755840910:0=0:=rfl
theorem te14452650320016910786:0=0:=rfl
theorem te13702393109087181536:0=0:=rfl
theorem te5903440310715511177:0=0:=rfl
theorem te6451289151389066247:0=0:=rfl
theorem te2362471526499917128:0=0:=rfl
theorem te13406145318508723437:0=0:=rfl
theorem te11132215244121490177:0=0:=rfl
theorem te12042541916471545:0=0:=rfl
theorem te10959233920046279692:0=0:=rfl
theorem te2735392204071866377:0=0:=rfl
theorem te17518819648943545236:0=0:=rfl
theorem te11974312749054754989:0=0:=rfl
theorem te18081434142309337039:0=0:=rfl
theorem te7295232176210198295:0=0:=rfl
theorem te125167088754545534:0=0:=rfl
theorem te3357677302697139359:0=0:=rfl
theorem te11258869210491498086:0=0:=rfl
theorem te14698973628324667287:0=0:=rfl
theorem te6157892579387431380:0=0:=rfl
theorem te10062665836346422035:0=0:=rfl
theorem te16443816944835795077:0=0:=rfl
theorem te320947494161170223:0=0:=rfl
theorem te9140605994782339078:0=0:=rfl
theorem te2086512250676197202:0=0:=rfl
theorem te6580147009752657785:0=0:=rfl
theorem te4327868584362583661:0=0:=rfl
theorem te10169525460479212210:0=0:=rfl
theorem te7002886965070707711:0=0:=rfl
theorem te7339551526231134094:0=0:=rfl
theorem te9474542326171020175:0=0:=rfl
theorem te16716479600628960066:0=0:=rfl
theorem te6921164081108140984:0=0:=rfl
theorem te4397330918731580929:0=0:=rfl
theorem te5176930934751962986:0=0:=rfl
theorem te12217572167705877510:0=0:=rfl
theorem te8788097912306426733:0=0:=rfl
theorem te4681732497900443556:0=0:=rfl
theorem te8429653944259315381:0=0:=rfl
theorem te17938878881846025049:0=0:=rfl
theorem te7289139118162759289:0=0:=rfl
theorem te11458606845772545203:0=0:=rfl
theorem te2212425918562768959:0=0:=rfl
theorem te881686222360404981:0=0:=rfl
theorem te15153207991005239949:0=0:=rfl
theorem te12760041673729139468:0=0:=rfl
theorem te16824064465441461356:0=0:=rfl
theorem te12611038216863515651:0=0:=rfl
theorem te8204514436534085300:0=0:=rfl
theorem te10320465274503623383:0=0:=rfl
theorem te2854845432463970111:0=0:=rfl
theorem te1789921594086834015:0=0:=rfl
theorem te4266929511277685895:0=0:=rfl
theorem te14264924606148345671:0=0:=rfl
theorem te1230967602957772065:0=0:=rfl
theorem te6943592227230983729:0=0:=rfl
theorem te3267759488216028411:0=0:=rfl
theorem te17179971568481719983:0=0:=rfl
theorem te10107043349601329384:0=0:=rfl
theorem te4385492648381521080:0=0:=rfl
theorem te803813775465849594:0=0:=rfl
theorem te9481372711240819737:0=0:=rfl
theorem te15487955582807868615:0=0:=rfl
theorem te2531232718678136620:0=0:=rfl
theorem te16911773115790605933:0=0:=rfl
theorem te196581465686846156:0=0:=rfl
theorem te3502631977461954248:0=0:=rfl
theorem te1306142462951012606:0=0:=rfl
theorem te3712431263727757770:0=0:=rfl
theorem te6416019922809983840:0=0:=rfl
theorem te10157541006099659818:0=0:=rfl
theorem te12046456067310721976:0=0:=rfl
theorem te15478943872745774885:0=0:=rfl
theorem te14413097486613495716:0=0:=rfl
theorem te9653716312676123:0=0:=rfl
theorem te11178619587241278907:0=0:=rfl
theorem te13388297074338585783:0=0:=rfl
theorem te6160741880637974197:0=0:=rfl
theorem te2562384004334345761:0=0:=rfl
theorem te10007445138101718940:0=0:=rfl
theorem te7269308698299730508:0=0:=rfl
theorem te8695669302107431518:0=0:=rfl
theorem te6191043875432544524:0=0:=rfl
theorem te2027919587547964300:0=0:=rfl
theorem te11724195560481510754:0=0:=rfl
theorem te18167546659088625890:0=0:=rfl
theorem te9033548841190700627:0=0:=rfl
theorem te6829790696204840802:0=0:=rfl
theorem te4350816411138398521:0=0:=rfl
theorem te12674036682726303814:0=0:=rfl
theorem te16618446113793749073:0=0:=rfl
theorem te5830389772374852864:0=0:=rfl
theorem te13477680344564968501:0=0:=rfl
theorem te15083851701277946699:0=0:=rfl
theorem te11897390233783616349:0=0:=rfl
theorem te14654313374961422818:0=0:=rfl
theorem te14697747748419275436:0=0:=rfl
theorem te2166109834273857410:0=0:=rfl
theorem te16223705609242990090:0=0:=rfl
theorem te17847976460670417483:0=0:=rfl
theorem te11422334787202215255:0=0:=rfl
theorem te4273596706049986924:0=0:=rfl
theorem te7445735261794549784:0=0:=rfl
theorem te17720337385925692839:0=0:=rfl
theorem te10895888955885622275:0=0:=rfl
theorem te501542919290784807:0=0:=rfl
theorem te2419141217153738641:0=0:=rfl
theorem te2255674225842649098:0=0:=rfl
theorem te12265519442804644272:0=0:=rfl
theorem te10882872659090602977:0=0:=rfl
theorem te11072960061971537885:0=0:=rfl
theorem te77657864125984028:0=0:=rfl
theorem te16387060691577251496:0=0:=rfl
theorem te16522798831023837511:0=0:=rfl
theorem te13216854526766517958:0=0:=rfl
theorem te13746351782417593858:0=0:=rfl
theorem te1340489465958255257:0=0:=rfl
theorem te17154917190183615149:0=0:=rfl
theorem te2998459175505469983:0=0:=rfl
theorem te16315906346785112380:0=0:=rfl
theorem te10649105007248529706:0=0:=rfl
theorem te11372646101918001377:0=0:=rfl
theorem te12438615882319022852:0=0:=rfl
theorem te6010121673920711716:0=0:=rfl
theorem te10891663227505643359:0=0:=rfl
theorem te4461539832395903512:0=0:=rfl
theorem te4063916269157317273:0=0:=rfl
theorem te9752085856278800798:0=0:=rfl
theorem te13940980648844568968:0=0:=rfl
theorem te2187807405643133368:0=0:=rfl
theorem te8916222343898364721:0=0:=rfl
theorem te1354469218930245637:0=0:=rfl
theorem te14700183311245070754:0=0:=rfl
theorem te7614459821345971317:0=0:=rfl
theorem te18257096038615400855:0=0:=rfl
theorem te16093353934057733431:0=0:=rfl
theorem te10745137656177718663:0=0:=rfl
theorem te8708387699134374832:0=0:=rfl
theorem te8354647934632449020:0=0:=rfl
theorem te10678635339371341936:0=0:=rfl
theorem te6672289758214409799:0=0:=rfl
theorem te1469921328566779648:0=0:=rfl
theorem te18290521350523029796:0=0:=rfl
theorem te10968045391922005709:0=0:=rfl
theorem te6441070063311855823:0=0:=rfl
theorem te2254703206986823295:0=0:=rfl
theorem te4196964687209740274:0=0:=rfl
theorem te2965100309128252819:0=0:=rfl
theorem te11747053821227578361:0=0:=rfl
theorem te2533659526886354601:0=0:=rfl
theorem te8652551073068924748:0=0:=rfl
theorem te16080188552971894571:0=0:=rfl
theorem te7858207879817956737:0=0:=rfl
theorem te8345236080025681685:0=0:=rfl
theorem te11261745300359425246:0=0:=rfl
theorem te3865141663407014995:0=0:=rfl
theorem te788147783245382690:0=0:=rfl
theorem te11486505820392801118:0=0:=rfl
theorem te1187870990498789019:0=0:=rfl
theorem te12049632504475341504:0=0:=rfl
theorem te13646934061318215240:0=0:=rfl
theorem te1503833774588627545:0=0:=rfl
theorem te4748892588155818635:0=0:=rfl
theorem te16046538683286827094:0=0:=rfl
theorem te9668181518942172540:0=0:=rfl
theorem te13277989085674502147:0=0:=rfl
theorem te16809580928240788616:0=0:=rfl
theorem te15491490235553123899:0=0:=rfl
theorem te6533020886028408049:0=0:=rfl
theorem te6287723638908809369:0=0:=rfl
theorem te15938485521975085459:0=0:=rfl
theorem te17279270849465709788:0=0:=rfl
theorem te204890090695115653:0=0:=rfl
theorem te16410332905345199762:0=0:=rfl
theorem te5300566879921582729:0=0:=rfl
theorem te9363585414992181632:0=0:=rfl
theorem te10040613773296887098:0=0:=rfl
theorem te12348945984980622009:0=0:=rfl
theorem te11764630620407801109:0=0:=rfl
theorem te462085813445092428:0=0:=rfl
theorem te12676068568739539282:0=0:=rfl
theorem te4494964389235363772:0=0:=rfl
theorem te1485160990937384056:0=0:=rfl
theorem te3329249656506921718:0=0:=rfl
theorem te14908635596776089756:0=0:=rfl
theorem te3093828332659238057:0=0:=rfl
theorem te2745051024316354083:0=0:=rfl
theorem te9195763390886551467:0=0:=rfl
theorem te5124046014804444025:0=0:=rfl
theorem te16773293065405622498:0=0:=rfl
theorem te12687783472241129201:0=0:=rfl
theorem te5211555035188738268:0=0:=rfl
theorem te754961826314595689:0=0:=rfl
theorem te12002156463558237956:0=0:=rfl
theorem te11362639952374139411:0=0:=rfl
theorem te18104872082691901942:0=0:=rfl
theorem te17165496359978144515:0=0:=rfl
theorem te9329887112489663189:0=0:=rfl
theorem te6451272037904012231:0=0:=rfl
theorem te775664067584305261:0=0:=rfl
theorem te10738989631100388468:0=0:=rfl
theorem te17309243141966710555:0=0:=rfl
theorem te18247432113007206504:0=0:=rfl
theorem te6168974334836005129:0=0:=rfl
theorem te2965281825454903559:0=0:=rfl
theorem te6302779603760646383:0=0:=rfl
theorem te17195214739687230292:0=0:=rfl
theorem te13918528278461104080:0=0:=rfl
theorem te12035900193945527932:0=0:=rfl
theorem te16334743240944536940:0=0:=rfl
theorem te3406160197452184192:0=0:=rfl
theorem te7276591794582995169:0=0:=rfl
theorem te16862589712514781364:0=0:=rfl
theorem te3358352813837834561:0=0:=rfl
theorem te15238214792245821259:0=0:=rfl
theorem te15725610523270251687:0=0:=rfl
theorem te1882735581952444033:0=0:=rfl
theorem te16465115766442236174:0=0:=rfl
theorem te787030514935805506:0=0:=rfl
theorem te16917793808015044216:0=0:=rfl
theorem te14054930294597147848:0=0:=rfl
theorem te2557695896759827692:0=0:=rfl
theorem te11662325426255170269:0=0:=rfl
theorem te13066690761246506967:0=0:=rfl
theorem te12126344724283760701:0=0:=rfl
theorem te4310370773888725329:0=0:=rfl
theorem te5610146145441077889:0=0:=rfl
theorem te16791503990612905908:0=0:=rfl
theorem te8517787402679582679:0=0:=rfl
theorem te6009624043128339090:0=0:=rfl
theorem te14821809355789232818:0=0:=rfl
theorem te9171365942806460779:0=0:=rfl
theorem te10509374629653961781:0=0:=rfl
theorem te9949053097958165828:0=0:=rfl
theorem te1531617092745067043:0=0:=rfl
theorem te14864638808821264199:0=0:=rfl
theorem te14295399999111719880:0=0:=rfl
theorem te3858398176649975344:0=0:=rfl
theorem te8312115871595142784:0=0:=rfl
theorem te8216883236320567553:0=0:=rfl
theorem te6908451956761497413:0=0:=rfl
theorem te331452147816249674:0=0:=rfl
theorem te16364129612839377836:0=0:=rfl
theorem te5029373879550699756:0=0:=rfl
theorem te14983162226078343178:0=0:=rfl
theorem te452431344136533751:0=0:=rfl
theorem te12196563385353366175:0=0:=rfl
theorem te16753183066701187508:0=0:=rfl
theorem te2135893823681714797:0=0:=rfl
theorem te5231832716882632912:0=0:=rfl
theorem te12817373092806480109:0=0:=rfl
theorem te1630465286510278849:0=0:=rfl
theorem te11546689260760155487:0=0:=rfl
theorem te6455162782426727230:0=0:=rfl
theorem te10261890321256592841:0=0:=rfl
theorem te501763970060892260:0=0:=rfl
theorem te6686223759007612200:0=0:=rfl
theorem te5803566380975936932:0=0:=rfl
theorem te11037568791975373112:0=0:=rfl
theorem te8731721363971647073:0=0:=rfl
theorem te2336810482930786156:0=0:=rfl
theorem te1925591407546427590:0=0:=rfl
theorem te12985987990401690246:0=0:=rfl
theorem te15790469668440188670:0=0:=rfl
theorem te17061316308540978761:0=0:=rfl
theorem te17836420889503585198:0=0:=rfl
theorem te6587645565131612804:0=0:=rfl
theorem te14207892412897725978:0=0:=rfl
theorem te14555748825831696080:0=0:=rfl
theorem te9860939738949739490:0=0:=rfl
theorem te1291601241529733296:0=0:=rfl
theorem te11113996421805950391:0=0:=rfl
theorem te11978391844745913513:0=0:=rfl
theorem te12629583165121238030:0=0:=rfl
theorem te1073817521538360716:0=0:=rfl
theorem te17028996985019392258:0=0:=rfl
theorem te14701412606959932430:0=0:=rfl
theorem te7163857020448120960:0=0:=rfl
theorem te8609068807217945368:0=0:=rfl
theorem te16604719560091985298:0=0:=rfl
theorem te2074297455345783218:0=0:=rfl
theorem te10758921948108956134:0=0:=rfl
theorem te13896992293301920360:0=0:=rfl
theorem te5160344679469072619:0=0:=rfl
theorem te12499322722513910985:0=0:=rfl
theorem te11547748303487618285:0=0:=rfl
theorem te10281976794448306556:0=0:=rfl
theorem te599243283768361138:0=0:=rfl
theorem te13703496686409827700:0=0:=rfl
theorem te11488459319449333750:0=0:=rfl
theorem te9350906173478335175:0=0:=rfl
theorem te13672459725981181349:0=0:=rfl
theorem te6244025766756313426:0=0:=rfl
theorem te5061109211711417731:0=0:=rfl
theorem te11428651021062307662:0=0:=rfl
theorem te8972717928030810260:0=0:=rfl
theorem te14089723129931854108:0=0:=rfl
theorem te6217995196620059532:0=0:=rfl
theorem te7489289198072698960:0=0:=rfl
theorem te4422372049268493481:0=0:=rfl
theorem te1452279396599694160:0=0:=rfl
theorem te6706553650983337415:0=0:=rfl
theorem te14548807456405667328:0=0:=rfl
theorem te16389585936957619769:0=0:=rfl
theorem te7811419871705498896:0=0:=rfl
theorem te4048000221259617900:0=0:=rfl
theorem te11823909434451829069:0=0:=rfl
theorem te8332410224840382029:0=0:=rfl
theorem te10629840838957717623:0=0:=rfl
theorem te464052002172556006:0=0:=rfl
theorem te17991487539212974577:0=0:=rfl
theorem te10619744407231731630:0=0:=rfl
theorem te11123649190484537217:0=0:=rfl
theorem te8907691283755083073:0=0:=rfl
theorem te2268903505939401531:0=0:=rfl
theorem te4765885612053786943:0=0:=rfl
theorem te823406302274630523:0=0:=rfl
theorem te16318659069188073278:0=0:=rfl
theorem te13370073747211242351:0=0:=rfl
theorem te5359761398057805524:0=0:=rfl
theorem te9079514282475903866:0=0:=rfl
theorem te5227791754326629062:0=0:=rfl
theorem te15819831657506145759:0=0:=rfl
theorem te298472075478874355:0=0:=rfl
theorem te888863651878156474:0=0:=rfl
theorem te15545128515892396158:0=0:=rfl
theorem te11229869963892833958:0=0:=rfl
theorem te9207596872319368490:0=0:=rfl
theorem te8079865377047660290:0=0:=rfl
theorem te14281311054854344208:0=0:=rfl
theorem te15871215618648578664:0=0:=rfl
theorem te17861160750227742972:0=0:=rfl
theorem te14229652412411795982:0=0:=rfl
theorem te13568685163628302915:0=0:=rfl
theorem te13637432353630397820:0=0:=rfl
theorem te16304196234816859735:0=0:=rfl
theorem te17984846409535453151:0=0:=rfl
theorem te5496405131708933657:0=0:=rfl
theorem te18099813838018510985:0=0:=rfl
theorem te3068945455070414041:0=0:=rfl
theorem te2804631549638039297:0=0:=rfl
theorem te18055581649193678520:0=0:=rfl
theorem te17786848522491554568:0=0:=rfl
theorem te2141514837423355266:0=0:=rfl
theorem te14466746176390666368:0=0:=rfl
theorem te15318063153370268935:0=0:=rfl
theorem te8622738061478133025:0=0:=rfl
theorem te13073416280208536846:0=0:=rfl
theorem te345044021655461210:0=0:=rfl
theorem te2340437610069507879:0=0:=rfl
theorem te6804243462460284272:0=0:=rfl
theorem te3505865571551737701:0=0:=rfl
theorem te18438999317372798727:0=0:=rfl
theorem te4231139146619714844:0=0:=rfl
theorem te3061627919249175091:0=0:=rfl
theorem te8550311065269860089:0=0:=rfl
theorem te2478423113776348286:0=0:=rfl
theorem te10756483112505813859:0=0:=rfl
theorem te440937156533368091:0=0:=rfl
theorem te5185457742074617894:0=0:=rfl
theorem te8671793533935767631:0=0:=rfl
theorem te982096412502943577:0=0:=rfl
theorem te18139551008801055288:0=0:=rfl
theorem te14033194964530810400:0=0:=rfl
theorem te15110905498951808026:0=0:=rfl
theorem te12555900108961111593:0=0:=rfl
theorem te933764354146950108:0=0:=rfl
theorem te872215776559202093:0=0:=rfl
theorem te8884437424384758767:0=0:=rfl
theorem te12662615705928547966:0=0:=rfl
theorem te8443308789472311455:0=0:=rfl
theorem te2159166087183879813:0=0:=rfl
theorem te15743558039188204991:0=0:=rfl
theorem te14094843036665291560:0=0:=rfl
theorem te11620873138005117418:0=0:=rfl
theorem te15531629923665358029:0=0:=rfl
theorem te9831747593072539077:0=0:=rfl
theorem te18265534059073058266:0=0:=rfl
theorem te6681756103444831201:0=0:=rfl
theorem te11927689230976863190:0=0:=rfl
theorem te9118819012904558215:0=0:=rfl
theorem te15618524403054826984:0=0:=rfl
theorem te3061457388948537121:0=0:=rfl
theorem te1485190772385063908:0=0:=rfl
theorem te17447967584206795485:0=0:=rfl
theorem te13834645536058486644:0=0:=rfl
noncomputable def tw4424461973939844187:Unit:=()
noncomputable def tw7741938997592376209:Unit:=()
noncomputable def tw1081486199660311514:Unit:=()
noncomputable def tw14550432605667983705:Unit:=()
noncomputable def tw18267290266164252391:Unit:=()
noncomputable def tw5843672437554772305:Unit:=()
noncomputable def tw7998208506644281734:Unit:=()
noncomputable def tw2743088825667557142:Unit:=()
noncomputable def tw4474818794017025408:Unit:=()
noncomputable def tw8027918440154828198:Unit:=()
noncomputable def tw2294731232809079783:Unit:=()
noncomputable def tw7745121834173822185:Unit:=()
noncomputable def tw1867201207472326507:Unit:=()
noncomputable def tw10544577040643676908:Unit:=()
noncomputable def tw16235688555310137709:Unit:=()
noncomputable def tw16606265379475959923:Unit:=()
noncomputable def tw13766253262024689716:Unit:=()
noncomputable def tw10023459627803605364:Unit:=()
noncomputable def tw12278772347749044948:Unit:=()
noncomputable def tw4021007555084404534:Unit:=()
noncomputable def tw11792208774588634839:Unit:=()
noncomputable def tw870190986989404696:Unit:=()
noncomputable def tw17771910088687347258:Unit:=()
end PySem.W.Fast
open PySem PySem.W PyProof.Rows
set_option maxRecDepth 100000 in
set_option maxHeartbeats 0 in
theorem PySem.Challenge.cw_hydrahouse_k73_texts_refused_holds : PySem.Challenge.rw_hydrahouse_k73_texts_refused.Holds := by
 w_on;o_law;k_head;(case hw=>w_witness2)
 k_fill
 refine Lw.walk (l:=PySem.Challenge.rw_hydrahouse_k73_texts_refused) rfl rfl (λw h Y=>PySem.W.kIn_of Y) ?F
 case F=>
  intro w mg fa h KX G hmg;refine' Lw.all_mk KX G hmg ?a1 ?l1 ?c1 ?k1 ?a2 ?l2 ?c2 ?k2 ?a3 ?l3 ?c3 ?k3 ?a4 ?l4 ?c4 ?k4 ?a5 ?l5 ?c5 ?k5 ?a6 ?l6 ?c6 ?k6 ?a7 ?l7 ?c7 ?k7 ?a8 ?l8 ?c8 ?k8 ?a9 ?l9 ?c9 ?k9 ?Js ?Jt ?Ju ?Jv ?Jw ?Jx ?Jy ?Jz ?JA ?JB ?JC ?JD ?JE ?JF ?JG ?JH ?JI ?JJ ?JK ?JL ?JM ?JN ?JO ?JP ?JQ ?JR ?JS ?JT ?JU ?JV ?JW ?JX ?JY ?JZ ?J0 ?J1 ?J2 ?J3 ?J4 ?J5 ?J6 ?J7 ?J8 ?J9 ?Ka ?Kb ?Kc ?Kd ?Ke ?Kf ?Kg ?Kh ?Ki ?Kj ?Kk ?Kl ?Km ?Kn ?Ko ?Kp ?Kq ?Kr ?Ks ?Kt ?Ku ?Kv ?Kw ?Kx ?Ky ?Kz ?KA ?KB ?KC ?KD ?KE ?KF ?ma ?KG ?KH ?KI ?KJ ?KK ?KL ?KM ?KN ?KO ?KP ?KQ ?KR ?KS ?KT ?KU ?KW ?KY ?KZ ?K0 ?K1 ?K2 ?K3 ?K4 ?K5 ?K6 ?K7 ?K8 ?K9 ?La ?Lb ?Lc ?Ld ?Le ?Lf ?Lg ?Lh ?Li ?Lj ?Lk ?Ll ?Ln ?Lo ?Lp ?Lq ?Lr ?Ls ?Lu ?Lv ?Lx ?Ly ?Lz ?LB ?LC ?LD ?LF ?LH ?LJ ?LK ?LL ?LM ?LN ?LP ?LQ ?LU ?LV ?LW ?LX ?LY ?LZ ?L0 ?L1 ?L2 ?L3 ?L4 ?L5 ?L6 ?L7 ?L8 ?L9 ?t1 ?t4 ?Ma ?Mb ?Mc ?Me ?Mf ?Mg ?Mh ?Mi ?Mj ?Hu ?Hv ?Ml ?Mm ?Mn ?Mo ?Mp ?Mq ?Mr ?Ms ?i1 ?i2 ?i3 ?i5 ?j0 ?j1 ?j2 ?j3 ?j4 ?Hw ?Hx ?Hy ?Hz ?HA ?HB ?HC ?HD ?HE ?HF ?HG ?HH ?HI ?HJ ?HK ?HL ?HM ?HN ?HP ?HQ ?HR ?HS ?HU ?HV ?Mu ?Mv ?HW ?HX ?HY ?HZ ?H0 ?H1 ?j5 ?ka ?kb ?ke ?hM ?kk ?hN ?hO ?kp ?hP ?ks ?hQ ?cb ?kv ?hR ?kw ?hS ?cc ?k0 ?hT ?la ?hU ?cd ?lb ?hX ?lc ?hY ?ch ?ld ?h0 ?lf ?h1 ?cl ?lk ?h2 ?ll ?h3 ?cn ?lm ?h4 ?ln ?h5 ?co ?z1 ?z2 ?z3 ?z4 ?z5 ?z6 ?z7 ?z8 ?z9 ?Mw ?Mx ?My
  case a1|l1|c1|k1|a2|l2|c2|k2|a3|l3|c3|k3|a4|l4|c4|k4|a5|l5|c5|k5|a6|l6|c6|k6|a7|l7|c7|k7|a8|l8|c8|k8|a9|l9|c9|k9|Js|Jt|Ju|Jv|Jw|Jx|Jy|Jz|JA|JB|JC|JD|JE|JF|JG|JH|JI|JJ|JK|JL|JM|JN|JO|JP|JQ|JR|JS|JT|JU|JV|JW|JX|JY|JZ|J0|J1|J2|J3|J4|J5|J6|J7|J8|J9|Ka|Kb|Kc|Kd|Ke|Kf|Kg|Kh|Ki|Kj|Kk|Kl|Km|Kn|Ko|Kp|Kq|Kr|Ks|Kt|Ku|Kv|Kw|Kx|Ky|Kz|KA|KB|KC|KD|KE|KF|ma|KG|KH|KI|KJ|KK|KL|KM|KN|KO|KP|KQ|KR|KS|KT|KU|KW|KY|KZ|K0|K1|K2|K3|K4|K5|K6|K7|K8|K9|La|Lb|Lc|Ld|Le|Lf|Lg|Lh|Li|Lj|Lk|Ll|Ln|Lo|Lp|Lq|Lr|Ls|Lu|Lv|Lx|Ly|Lz|LB|LC|LD|LF|LH|LJ|LK|LL|LM|LN|LP|LQ|LU|LV|LW|LX|LY|LZ|L0|L1|L2|L3|L4|L5|L6|L7|L8|L9|t1|t4|Ma|Mb|Mc|Me|Mf|Mg|Mh|Mi|Mj|Hu|Hv|Ml=>k_is
  (case Mm=>k_exc)
  case Mn=>k_is
  (case Mo=>k_exc)
  case Mp=>k_is
  (case Mq=>k_exc)
  case Mr=>k_is
  (case Ms=>k_exc)
  case i1|i2|i3|i5|j0|j1|j2|j3|j4|Hw|Hx|Hy|Hz|HA|HB|HC|HD|HE|HF|HG|HH|HI|HJ|HK|HL|HM|HN|HP|HQ|HR|HS|HU|HV|Mu|Mv|HW|HX|HY|HZ|H0|H1|j5|ka|kb|ke|hM|kk|hN|hO|kp|hP|ks|hQ|cb|kv|hR|kw|hS|cc|k0|hT|la|hU|cd|lb|hX|lc|hY|ch|ld|h0|lf|h1|cl|lk|h2|ll|h3|cn|lm|h4|ln|h5|co|z1|z2|z3|z4|z5|z6|z7|z8|z9|Mw|Mx|My=>k_is
