import PyProof.Rows.All
import Wide.All
import OpenK.AllK
import Wide.FinOn
import KE.KEqDict
import KE.KPairComp
import KE.KDictList
import KE.KRevSl
import PyProof.Rows.SetFrom
import KE.KRevIter
import KE.KDictOf
import KE.KIntText
import PyProof.CallStr
import KE.KSortAsk
import KE.KSortTup
import PyProof.Rows.SortRev
import KE.KDictSum
import PySem.Challenge.RW_hydrahouse_k72_read_and_reckoned
set_option bootstrap.genMatcherCode false
set_option compiler.extract_closed false
set_option genSizeOf false
-- CHANGE: your row's module here, as the last of these rows
set_option Elab.async false
set_option linter.all false
set_option maxRecDepth 100000
open PySem.W (Looks callWith_K clsIn codeIn emptyDict excIn findIn fnOf hasDictIn hideAll hideAll_get hideAll_none instIn instObj isFn keepIn kia_one lookIn looks_findIn mg_none_of mg_of mroIn nsIn of_hideAll plainGet typeIn)
abbrev yav:=PySem.W.Frag
abbrev ybx:=@List.mem_cons_of_mem
abbrev yby:=@List.mem_cons_self
abbrev ybz:=@PySem.Heap.get?_push_of_some
abbrev ybw:=@PySem.Heap.get?_push_size
abbrev ybv:=@PySem.Heap.lt_size
abbrev ycx:=@Nat.le_refl
abbrev ycy:=@Nat.le_trans
abbrev ycz:=@List.getElem?_eq_getElem
abbrev ycw:=@if_neg
abbrev ycv:=@if_pos
abbrev ydx:=@Bool.false_ne_true
abbrev ydy:=@decide_eq_false
abbrev ydz:=@decide_eq_true
abbrev ydw:=@Nat.lt_of_lt_of_le
abbrev ydv:=@Int.le_trans
abbrev yex:=@List.mem_append_right
abbrev yey:=PySem.Value->PySem.Shared->Prop
abbrev yez:=List PySem.Value
abbrev yew:=PySem.Str->Option PySem.Value
variable {K:yav} {E:PySem.Value->PySem.Shared->Prop} {s:PySem.Shared} {A:PySem.Around} {w:PySem.World} {P:PySem.Program} {prog:PySem.Program} {π:List (PySem.Addr×PySem.Obj)} {mg:PySem.Str->Option PySem.Value} {pos:PySem.Pos} {us:List PySem.Value} {Q:PySem.Value->PySem.Shared->Prop} {x:PySem.Str} {e:PySem.Expr} {a:PySem.Addr} {k:Nat} {fd:PySem.FuncData} {base:PySem.Heap} {es:List PySem.Expr} {ps:List PySem.Str} {u:PySem.Value} {i:Nat} {st:PySem.Stmt} {bm:List PySem.Value} {scope:PySem.Scope} {body:List PySem.Stmt} {items:Array PySem.Value}
open List (all_cons all_eq_true any_cons append_assoc append_nil drop_eq_getElem_cons drop_zero filterMap_cons flatten_cons foldl_cons forIn_cons getElem_mem length_append length_cons length_drop length_map length_nil length_singleton length_take lookup_cons map_append map_cons map_map map_nil map_take mem_append mem_append_left mem_append_right mem_cons mem_cons_of_mem mem_cons_self mem_map mem_nil_iff mem_singleton nil_append nodup_cons replicate_succ reverse_cons set_cons_succ set_cons_zero size_toArray sum_cons take_append_drop take_length take_of_length_le zip_cons_cons)
abbrev wax:=@PySem.wpAny_bind
open Nat (le_max_left le_max_right le_refl le_succ le_trans lt_irrefl lt_of_lt_of_le max_le ne_of_lt not_lt zero_le)
namespace L2
open PySem PySem.Spec PyProof.Rows
noncomputable abbrev bd:=Sum Int Str
noncomputable def iV:bd->Value->Bool
 | .inl k,v=>Value.isInt k v
 | .inr x,v=>Value.isStrOf x v
noncomputable def D1 (w:World):bd->Int
 | .inl k=>hashInt k
 | .inr x=>hashStr w x
theorem bL:∀{k:bd} {v:Value},iV k v=true->(∃i t,k=Sum.inl i/\v=Value.int i t)∨(∃x t,k=Sum.inr x/\v=Value.str x t)
 | .inl i,v,h=>by
   obtain⟨t,e⟩:=Value.isInt_shape (k:=i) (v:=v) h;exact .inl ⟨i,t,rfl,e⟩
 | .inr x,v,h=>by
   obtain⟨t,e⟩:=Value.isStrOf_shape (x:=x) (v:=v) h;exact .inr ⟨x,t,rfl,e⟩
theorem qO (i:Int) (t:Tok):iV (.inl i) (.int i t)=true:=by simp[iV,Value.isInt]
theorem qP (x:Str) (t:Tok):iV (.inr x) (.str x t)=true:=by simp[iV,Value.isStrOf]
theorem yR (a b:Int):decide ((Sum.inl a:bd)=Sum.inl b)=(a==b):=by
 by_cases e:a=b
 ·subst e;simp
 ·have h:¬(Sum.inl a:bd)=Sum.inl b:=λq=>e (Sum.inl.inj q);rw[ydy h];exact(beq_eq_false_iff_ne.mpr e).symm
theorem yS (a b:Str):decide ((Sum.inr a:bd)=Sum.inr b)=decide (a=b):=by
 by_cases e:a=b
 ·subst e;simp
 ·have h:¬(Sum.inr a:bd)=Sum.inr b:=λq=>e (Sum.inr.inj q);rw[ydy h,ydy e]
theorem yT (a:Int) (b:Str):decide ((Sum.inl a:bd)=Sum.inr b)=false:=ydy (λq=>nomatch q)
theorem yU (a:Str) (b:Int):decide ((Sum.inr a:bd)=Sum.inl b)=false:=ydy (λq=>nomatch q)
noncomputable def bF (prog:Program) (w:World):PySem.KeyKind prog w bd where
 is:=iV
 hash:=D1 w
 inj:=λv a b ha hb=>by
  rcases bL ha with⟨i,t,rfl,rfl⟩ | ⟨x,t,rfl,rfl⟩
  ·rcases bL hb with⟨j,u,rfl,e⟩ | ⟨y,u,rfl,e⟩
   ·injection e with e1 _;rw[e1]
   ·exact nomatch e
  ·rcases bL hb with⟨j,u,rfl,e⟩ | ⟨y,u,rfl,e⟩
   ·exact nomatch e
   ·injection e with e1 _;rw[e1]
 byValue:=λk v h=>by
  rcases bL h with⟨i,t,rfl,rfl⟩ | ⟨x,t,rfl,rfl⟩<;> rfl
 pyHash:=λhv h=>by
  rcases bL hv with⟨i,t,rfl,rfl⟩ | ⟨x,t,rfl,rfl⟩
  ·exact wpAny_pyHash_int h
  ·exact wpAny_pyHash_str h
 eqBool:=λhu hv h=>by
  rcases bL hu with⟨i,t,rfl,rfl⟩ | ⟨x,t,rfl,rfl⟩
  ·rcases bL hv with⟨j,u,rfl,rfl⟩ | ⟨y,u,rfl,rfl⟩
   ·rw[yR] at h;exact wpAny_eqBool_int h
   ·rw[yT] at h;exact SeqAt.EqAt.int_str i t y u _ _ _ _ h
  ·rcases bL hv with⟨j,u,rfl,rfl⟩ | ⟨y,u,rfl,rfl⟩
   ·rw[yU] at h;exact SeqAt.EqAt.str_int x t j u _ _ _ _ h
   ·rw[yS] at h;exact wpAny_eqBool_str h
 «strs»:=λk x t v h=>by
  rcases bL h with⟨i,u,rfl,e⟩ | ⟨y,u,rfl,e⟩
  ·exact nomatch e
  ·injection e with e1 _
   subst e1;cases v<;> rfl
theorem lJ (prog:Program) (w:World) (i:Int) (t:Tok):(bF prog w).is (.inl i) (.int i t)=true:=qO i t
theorem lK (prog:Program) (w:World) (x:Str) (t:Tok):(bF prog w).is (.inr x) (.str x t)=true:=qP x t
inductive V where
 | non | bl (b:Bool) | int (i:Int) | str (x:Str) | byt (b:Array UInt8) | flt (b:UInt64) | ref (a:Addr) | ty (n:String)
 deriving DecidableEq
noncomputable def bn:V->Value->Prop
 | .non,u=>u=Value.none
 | .bl b,u=>u=Value.bool b
 | .int i,u=>∃t,u=Value.int i t
 | .str x,u=>∃t,u=Value.str x t
 | .byt b,u=>∃t,u=Value.bytes b t
 | .flt b,u=>∃t,u=Value.float b t
 | .ref a,u=>u=Value.ref a
 | .ty n,u=>u=Value.type n
noncomputable abbrev aT:List V->List Value->Prop:=Paired bn
theorem aT.length {xs:List V} (r:aT xs us):xs.length=us.length:=Paired.length r
theorem aT.get:∀{xs:List V} {us:yez} {i:Nat} {x:V},aT xs us->xs[i]?=some x->∃u,us[i]?=some u/\bn x u
 | _,_,_,_,.nil,e=>by simp at e
 | _,_,0,_,.cons r _,e=>by simp at e;subst e;exact⟨_,rfl,r⟩
 | _,_,i+1,x,.cons _ t,e=>by
   obtain⟨u,h1,h2⟩:=aT.get (i:=i) (x:=x) t (by simpa using e);exact⟨u,by simpa using h1,h2⟩
theorem aT.append:∀{xs ys:List V} {us ws:yez},aT xs us->aT ys ws->aT (xs++ys) (us++ws)
 | _,_,_,_,.nil,s=>s
 | _,_,_,_,.cons r t,s=> .cons r (aT.append t s)
theorem aT.take:∀{xs:List V} {us:yez} (n:Nat),aT xs us->aT (xs.take n) (us.take n)
 | _,_,0,_=> .nil
 | _,_,_+1,.nil=> .nil
 | _,_,n+1,.cons r t=> .cons r (aT.take n t)
theorem aT.drop:∀{xs:List V} {us:yez} (n:Nat),aT xs us->aT (xs.drop n) (us.drop n)
 | _,_,0,r=>r
 | _,_,_+1,.nil=> .nil
 | _,_,n+1,.cons _ t=>aT.drop n t
noncomputable def fP:Option V->Option Value->Prop
 | some v,some u=>bn v u
 | none,none=>True
 | _,_=>False
noncomputable def KV {κ:Type}:List (κ×V)->List (κ×Value)->Prop:=Paired λ(p:κ×V) (q:κ×Value)=>p.1=q.1/\bn p.2 q.2
noncomputable def kV:bd->V
 | .inl i=> .int i
 | .inr x=> .str x
inductive HO where
 | lst (xs:List V)
 | tup (xs:List V)
 | dK (kvs:List (bd×V)) | dT (kvs:List (List bd×V))
 | set (S:Int->Bool) (n:Nat)
 | ins (C dx:Addr) (fs:List (Str×V))
 | own (x:Addr)
 | xd (fs:List (Str×V))
 | met (f x:Addr)
 | rng (lo hi:Int)
 | frz (o:Obj) (u:HO)
 | tbl (ps:Array Value)
 | ext (φ:Heap->Prop)
noncomputable abbrev Hp:=Addr->Option HO
noncomputable def upd (H:Hp) (a:Addr) (o:HO):Hp:=λb=>if b=a then some o else H b
theorem ba {H:Hp} {o:HO}:upd H a o a=some o:=by unfold upd;rw[ycv rfl]
theorem aC {H:Hp} {a b:Addr} {o:HO} (h:b≠a):upd H a o b=H b:=by unfold upd;rw[ycw h]
theorem iu {H:Hp} {a b:Addr} {o u:HO} (h:H a=some o) (h':H b=some u) (d:o≠u):a≠b:=by
 intro e;subst e;rw[h] at h';exact d (Option.some.inj h')
theorem bc {H:Hp} {a b:Addr} {o:HO} (h:H a=some o) (h':H b=none):a≠b:=by
 intro e;subst e;rw[h] at h';cases h'
section
variable (P:Program) (w:World)
noncomputable def ca (H:Hp) (h:Heap) (a:Addr):HO->Prop
 | .lst xs=>xs.length<=sizeLine/\∃(its:yez) (n:Nat),aT xs its/\h.get? a=some { cls:= .type "list",data:= .seq its.toArray n }
 | .tup xs=>xs.length<=sizeLine/\∃its:List Value,aT xs its/\IsTup h a its.toArray
 | .dK kvs=>kvs.length<=sizeLine/\(a==sysModules)=false/\∃vs,KV kvs vs/\h.DictOf (bF P w) a vs
 | .dT kvs=>kvs.length<=sizeLine/\(a==sysModules)=false/\∃xs:List (List bd×Addr×Value),
    Paired (λ(p:List bd×V) (q:List bd×Addr×Value)=>p.1=q.1/\H q.2.1=some (.tup (p.1.map kV))/\bn p.2 q.2.2) kvs xs/\
    ∃o es ep,h.get? a=some o/\o.ExactDict/\o.data=.dict es ep/\es.toList=xs.map (entryOfKey (tupleKind (bF P w)))/\(xs.map (·.1)).Nodup
 | .set S n=>h.SetOf (intKind P w) a S n
 | .ins C dx fs=>H dx=some (.own a)/\fs.length<=1000/\dx≠a/\h.get? a=some (instObj C dx)/\
    ∃mA,h.Ns1 dx mA/\(∀f,fP (fs.lookup f) (mA f))/\PySem.Within mA (fs.map (·.1))
 | .own _=>∃o,h.get? a=some o
 | .xd fs=>∃mA,h.Ns1 a mA/\∀f,fP (fs.lookup f) (mA f)
 | .rng lo hi=>∃t u v,h.get? a=some { cls:= .type "range",data:= .fields #[.int lo t,.int hi u,.int 1 v] }
 | .frz o u=>h.get? a=some o/\ca H h a u
 | .tbl ps=>h.get? a=some { cls:= .none,data:= .fields ps }
 | .met f x=>h.get? a=some (PySem.W.methodObj (.ref f) (.ref x))
 | .ext φ=>φ h/\(∃o,h.get? a=some o)/\∀h1 h2:Heap,φ h1->(∀o,h1.get? a=some o->h2.get? a=some o)->φ h2
noncomputable def gz (H:Hp) (h:Heap):Prop:=∀a o,H a=some o->ca P w H h a o
end
section
variable {P:Program} {w:World} {H H':Hp} {h h':Heap} {a:Addr} {o:HO}
theorem ca.lt (x:ca P w H h a o):a<h.objs.size:=by
 cases o with
 | lst xs=>obtain⟨_,_,_,_,e⟩:=x;exact ybv e
 | tup xs=>obtain⟨_,_,_,p⟩:=x;exact p.lt
 | dK kvs=>obtain⟨_,_,_,_,o,_,_,e,_⟩:=x;exact ybv e
 | dT kvs=>obtain⟨_,_,_,_,o,_,_,e,_⟩:=x;exact ybv e
 | set S n=>obtain⟨o,_,_,_,e,_⟩:=x;exact ybv e
 | ins C dx fs=>obtain⟨_,_,_,e,_⟩:=x;exact ybv e
 | own y=>obtain⟨_,e⟩:=x;exact ybv e
 | xd fs=>obtain⟨_,⟨_,_,_,e,_⟩,_⟩:=x;exact ybv e
 | rng lo hi=>obtain⟨_,_,_,e⟩:=x;exact ybv e
 | frz ob u=>obtain⟨e,_⟩:=x;exact ybv e
 | tbl ps=>exact ybv (show h.get? a=some _ from x)
 | met f y=>exact ybv (show h.get? a=some _ from x)
 | ext φ=>obtain⟨_,⟨_,e⟩,_⟩:=x;exact ybv e
theorem Paired.mapP {α β:Type} {F G:α->β->Prop}:∀{l₁:List α} {l₂:List β},Paired F l₁ l₂->(∀a b,F a b->G a b)->Paired G l₁ l₂
 | _,_,.nil,_=> .nil
 | _,_,.cons r t,f=> .cons (f _ _ r) (Paired.mapP t f)
theorem ca.stay (x:ca P w H h a o) (k:∀b u,(b=a∨H b=some (.own a))->h.get? b=some u->h'.get? b=some u)
 (ho:∀b,H b=some (.own a)->H' b=some (.own a)) (ht:∀b xs,H b=some (.tup xs)->H' b=some (.tup xs)):ca P w H' h' a o:=by
 induction o with
 | lst xs=>obtain⟨z,its,n,r,e⟩:=x;exact⟨z,its,n,r,k _ _ (.inl rfl) e⟩
 | tup xs=>obtain⟨z,its,r,ob,e,c⟩:=x;exact⟨z,its,r,ob,k _ _ (.inl rfl) e,c⟩
 | dK kvs=>obtain⟨z,y,vs,r,ob,es,ep,e,c⟩:=x;exact⟨z,y,vs,r,ob,es,ep,k _ _ (.inl rfl) e,c⟩
 | dT kvs=>
   obtain⟨z,y,xs,r,ob,es,ep,e,c⟩:=x;exact⟨z,y,xs,Paired.mapP r λp q z=>⟨z.1,ht _ _ z.2.1,z.2.2⟩,ob,es,ep,k _ _ (.inl rfl) e,c⟩
 | set S n=>obtain⟨ob,es,ep,t,e,c⟩:=x;exact⟨ob,es,ep,t,k _ _ (.inl rfl) e,c⟩
 | ins C dx fs=>
   obtain⟨d,z,ne,e,mA,⟨od,es,ep,e2,c⟩,r⟩:=x;exact⟨ho _ d,z,ne,k _ _ (.inl rfl) e,mA,⟨od,es,ep,k _ _ (.inr d) e2,c⟩,r⟩
 | own y=>obtain⟨ob,e⟩:=x;exact⟨ob,k _ _ (.inl rfl) e⟩
 | xd fs=>obtain⟨mA,⟨od,es,ep,e,c⟩,r⟩:=x;exact⟨mA,⟨od,es,ep,k _ _ (.inl rfl) e,c⟩,r⟩
 | rng lo hi=>obtain⟨t,u,v,e⟩:=x;exact⟨t,u,v,k _ _ (.inl rfl) e⟩
 | frz ob u ih=>obtain⟨e,q⟩:=x;exact⟨k _ _ (.inl rfl) e,ih q⟩
 | tbl ps=>
   have e:h.get? a=some { cls:= .none,data:= .fields ps }:=x;show h'.get? a=some { cls:= .none,data:= .fields ps };exact k a _ (.inl rfl) e
 | met f y=>
   have e:h.get? a=some (PySem.W.methodObj (.ref f) (.ref y)):=x;show h'.get? a=some (PySem.W.methodObj (.ref f) (.ref y));exact k a _ (.inl rfl) e
 | ext φ=>obtain⟨p,⟨o,e⟩,st⟩:=x;exact⟨st _ _ p λo q=>k _ _ (.inl rfl) q,⟨o,k _ _ (.inl rfl) e⟩,st⟩
theorem gz.lt (x:gz P w H h) (e:H a=some o):a<h.objs.size:=(x a o e).lt
theorem gz.fresh (x:gz P w H h) (e:h.objs.size<=a):H a=none:=by
 cases q:H a with
 | none=>rfl
 | some u=>exact absurd (ydw (x.lt q) e) (lt_irrefl _)
theorem gz.kept (x:gz P w H h) (k:∀b u,h.get? b=some u->h'.get? b=some u):gz P w H h':=λa o e=>
 (x a o e).stay (λb u _ q=>k b u q) (λ_ q=>q) λ_ _ q=>q
theorem gz.laid (x:gz P w H h) (k:∀b u,h.get? b=some u->h'.get? b=some u) (hp:h.objs.size<=a) (new:ca P w (upd H a o) h' a o):gz P w (upd H a o) h':=λb u e=>by
 have hn:=x.fresh hp
 by_cases hb:b=a
 ·subst hb;rw[ba] at e;cases e;exact new
 ·rw[aC hb] at e;exact(x b u e).stay (λc v _ q=>k c v q) (λc q=>by rw[aC (bc q hn)];exact q) λc xs q=>by rw[aC (bc q hn)];exact q
end
noncomputable def Rd (H:Hp) (a:Addr) (u:HO):Prop:=H a=some u∨∃o,H a=some (.frz o u)
theorem Rd.ok {H:Hp} {h:Heap} {u:HO} (r:Rd H a u) (x:gz P w H h):ca P w H h a u:=by
 rcases r with r | ⟨o,r⟩
 ·exact x a u r
 ·obtain⟨_,q⟩:=x a _ r;exact q
noncomputable def Ba:Option HO->Prop
 | some (.lst _)=>True
 | some (.dK _)=>True
 | some (.dT _)=>True
 | some (.set _ _)=>True
 | some (.ins _ _ _)=>True
 | some (.ext _)=>True
 | _=>False
section
variable {P:Program} {w:World} {H:Hp} {h h':Heap} {x e:Addr} {o':HO}
theorem gz.write (ok:gz P w H h) (mu:Ba (H x)) (he:e=x∨H e=some (.own x)) (k:∀b u,b≠e->h.get? b=some u->h'.get? b=some u) (heo:∃u,h'.get? e=some u)
 (new:ca P w (upd H x o') h' x o'):gz P w (upd H x o') h':=λb u q=>by
 have nown:∀c y,H c=some (.own y)->c≠x:=λc y r z=>by subst z;rw[r] at mu;exact mu
 have ntup:∀c xs,H c=some (.tup xs)->c≠x:=λc xs r z=>by subst z;rw[r] at mu;exact mu
 by_cases hb:b=x
 ·subst hb;rw[ba] at q;cases q;exact new
 ·rw[aC hb] at q
  by_cases hbe:b=e
  ·have q':H b=some (.own x):=by
    rcases he with z | z
    ·exact absurd (hbe.trans z) hb
    ·rw[hbe];exact z
   rw[q] at q';cases q';obtain⟨v,hv⟩:=heo;exact⟨v,by rw[hbe];exact hv⟩
  ·refine(ok b u q).stay (λc v hc r=>k c v ?_ r) (λc r=>by rw[aC (nown c b r)];exact r) λc xs r=>by rw[aC (ntup c xs r)];exact r
   rcases hc with rfl | hc
   ·exact hbe
   ·rintro rfl;rcases he with z | z
    ·exact nown c b hc z
    ·rw[hc] at z;cases z;exact hb rfl
end
structure Un (fs ex:List Addr) (H H':Hp) (h h':Heap):Prop where
 keep:∀b o,h.get? b=some o->H b=none->b∉fs->b∉ex->h'.get? b=some o
 slot:∀b o,h.get? b=some o->H b=none->b∈fs->b∉ex->∃sl,h'.get? b=some { o with slots:=sl }
 free:∀b o,h.get? b=some o->H b=none->b∉ex->H' b=none
 there:∀b o,h.get? b=some o->b∉ex->∃o',h'.get? b=some o'
 tups:∀b xs,H b=some (.tup xs)->H' b=some (.tup xs)
 frzs:∀b o u,H b=some (.frz o u)->H' b=some (.frz o u)
 tbls:∀b ps,H b=some (.tbl ps)->∃more,H' b=some (.tbl (ps++more))
section
variable {fs fs' ex ex':List Addr} {H H1 H2:Hp} {h h1 h2 h':Heap} {a x e:Addr} {o:HO}
theorem Un.any (u:Un fs ex H H1 h h1) {b:Addr} {ob:Obj} (q:h.get? b=some ob) (n:H b=none) (hx:b∉ex):∃sl,h1.get? b=some { ob with slots:=sl }:=by
 by_cases hb:b∈fs
 ·exact u.slot b ob q n hb hx
 ·exact⟨ob.slots,u.keep b ob q n hb hx⟩
theorem Un.kept (k:∀b u,h.get? b=some u->h'.get? b=some u):Un fs ex H H h h':=
 ⟨λb ob q _ _ _=>k b ob q,λb ob q _ _ _=>⟨ob.slots,k b ob q⟩,λ_ _ _ n _=>n,λb ob q _=>⟨ob,k b ob q⟩,λ_ _ q=>q,λ_ _ _ q=>q,λ_ ps q=>⟨#[],by rw[q];simp⟩⟩
theorem Un.refl:Un fs ex H H h h:=Un.kept λ_ _ q=>q
theorem Un.laid (k:∀b u,h.get? b=some u->h'.get? b=some u) (hp:h.objs.size<=a) (hn:H a=none):Un fs ex H (upd H a o) h h' where
 keep:=λb u q _ _ _=>k b u q
 slot:=λb u q _ _ _=>⟨u.slots,k b u q⟩
 free:=λb u q n _=>by rw[aC (ne_of_lt (ydw (ybv q) hp))];exact n
 there:=λb u q _=>⟨u,k b u q⟩
 tups:=λb xs q=>by rw[aC (bc q hn)];exact q
 frzs:=λb u xs q=>by rw[aC (bc q hn)];exact q
 tbls:=λb ps q=>⟨#[],by rw[aC (bc q hn),q];simp⟩
theorem Un.write (mu:Ba (H x)) (he:e=x∨H e=some (.own x)) (k:∀b u,b≠e->h.get? b=some u->h'.get? b=some u) (heo:∃u,h'.get? e=some u):Un fs ex H (upd H x o) h h':=by
 have hx:∀b,H b=none->b≠x:=λb n z=>by subst z;rw[n] at mu;exact mu
 have hb:∀b,H b=none->b≠e:=λb n z=>by
  subst z;rcases he with r | r
  ·exact hx b n r
  ·rw[n] at r;cases r
 have hm:∀b u,H b=some u->¬Ba (some u)->b≠x:=λb u q nm z=>by subst z;rw[q] at mu;exact nm mu
 refine⟨λb u q n _ _=>k b u (hb b n) q,λb u q n _ _=>⟨u.slots,k b u (hb b n) q⟩,λb u q n _=>by rw[aC (hx b n)];exact n,λb u q _=>?_,
  λb xs q=>by rw[aC (hm b _ q λz=>z)];exact q,λb u xs q=>by rw[aC (hm b _ q λz=>z)];exact q,λb ps q=>⟨#[],by rw[aC (hm b _ q λz=>z),q];simp⟩⟩
 by_cases hbe:b=e
 ·subst hbe;exact heo
 ·exact⟨u,k b u hbe q⟩
end
noncomputable def DQ (h:Heap) (H:Hp):List Addr:=(List.range h.objs.size).filter λa=>(H a).isSome
noncomputable def kB (h:Heap) (H:Hp):Heap:=hideAll h (DQ h H)
theorem qQ (h:Heap) (H:Hp):(kB h H).objs.size=h.objs.size:=PySem.W.hideAll_size _ _
theorem sA {h:Heap} {H:Hp} {b:Addr} {o:Obj} (e:h.get? b=some o) (n:H b=none):(kB h H).get? b=some o:=
 hideAll_get _ e λhm=>by
  have q:(H b).isSome=true:=(List.mem_filter.mp hm).2;rw[n] at q;simp at q
theorem vv {h:Heap} {H:Hp} {b:Addr} {o:Obj} (e:(kB h H).get? b=some o):h.get? b=some o/\H b=none:=by
 have e':h.get? b=some o:=of_hideAll (DQ h H) e;refine⟨e',?_⟩;cases q:H b with
 | none=>rfl
 | some x=>
   have hm:b∈DQ h H:=List.mem_filter.mpr ⟨List.mem_range.mpr (ybv e'),by simp[q]⟩;have z:(kB h H).get? b=none:=hideAll_none (DQ h H) hm;rw[z] at e;cases e
noncomputable def vw (g h:Heap) (L:Addr):List (Addr×Obj):=(List.range h.objs.size).filterMap λa=>if a=L∨(g.get? a).isSome=true then none else (h.get? a).map λo=>(a,o)
noncomputable def rest (g h:Heap) (L d:Addr):List (Addr×Obj):=(vw g h L).filter λp=>decide (p.1≠d)
structure Mod (K:yav) (mg:yew) (base:Heap):Prop where
 kin:K.In base
 glob:base.Ns mainGlobals mg
 blt:∃mb,base.Ns builtinsNs mb/\∀x:Str,x≠"__name__"->mb x=bootBuiltins x
 nolimit:base.NoLimit
structure Cx where
 prog:Program
 w:World
 K:yav
 mg:Str->Option Value
 base:Heap
 A:Around
 N:List Str
 s₀:Shared
 H₀:Hp
 env:Env
 outer:List Env
 stack:List Env
 ex:List Addr
 fn:Str->Bool
 calm:Bool
 pn:List (Addr×Obj)
 xe:Value->Shared->Prop
noncomputable def eP (l:List Env):List Addr:=l.filterMap (·.frame)
noncomputable abbrev Cx.fs (X:Cx):List Addr:=eP X.outer
noncomputable def AZ (sc:Scope) (x:Str):Prop:=sc.names.lookup x=some .local∨sc.names.lookup x=some .cell∨sc.names.lookup x=some .free
noncomputable def vz (sc:Scope) (x:Str):Prop:=sc.names.lookup x=some .local∨sc.names.lookup x=some .cell
noncomputable def D3 (env:Env) (h:Heap) (m:yew) (x:Str) (u:Value):Prop:=
 (env.kindOf x=some .local/\m x=some u)∨((env.kindOf x=some .cell∨env.kindOf x=some .free)/\∃c,env.cells.lookup x=some c/\h.IsCell c (some u))
structure Cx.Ok (X:Cx):Prop where
 mod:Mod X.K X.mg X.base
 kind:X.env.scope.kind=.function
 glob:X.env.globals=mainGlobals
 blt:X.env.builtins=builtinsNs
 above:X.s₀.heap.objs.size<=X.env.locals
 inj:∀x y c,X.env.cells.lookup x=some c->X.env.cells.lookup y=some c->x=y
 has:∀x,(X.env.kindOf x=some .cell∨X.env.kindOf x=some .free)->∃c,X.env.cells.lookup x=some c
 cab:∀x c,X.fn x=true->X.env.cells.lookup x=some c->X.s₀.heap.objs.size<=c
 hd:X.calm=true->X.A.handled=none
 frames:X.A.frames=some X.stack
 stk:X.stack=X.outer∨(X.stack=X.env::X.outer/\X.env.frame=some X.env.locals)
 exf:∀b∈X.ex,b≠X.env.locals/\∀x c,X.env.cells.lookup x=some c->c≠b
 bs:∀b o,X.base.get? b=some o->X.s₀.heap.get? b=some o/\X.H₀ b=none
 bsz:X.base.objs.size<=X.s₀.heap.objs.size
 noex:∀b o,X.base.get? b=some o->b∉X.ex
 exfs:∀b∈X.ex,b∉X.fs
 funs:X.s₀.heap.FunFrames X.base X.outer
 frf:∀b∈X.fs,X.H₀ b=none
structure aH (X:Cx) (π:List (Addr×Obj)) (σ:List (Option V)) (H:Hp) (s:Shared):Prop where
 ok:X.Ok
 os:s.os=X.s₀.os
 bare:AllBare s.gens
 base:Un X.fs X.ex X.H₀ H X.s₀.heap s.heap
 loc:∃m,s.heap.Ns X.env.locals m/\∀(i:Nat) (x:Str) (v:V),X.N[i]?=some x->σ[i]?=some (some v)->AZ X.env.scope x->∃u,bn v u/\D3 X.env s.heap m x u
 cell:∀x c,X.env.cells.lookup x=some c->∃v,s.heap.IsCell c v
 free:H X.env.locals=none
 freeC:∀x c,X.env.cells.lookup x=some c->H c=none
 pin:∀p∈X.pn++π,s.heap.get? p.1=some p.2/\H p.1=none/\p.1≠X.env.locals/\p.1∉X.fs/\∀v,p.2.data≠ .cell v
 hok:gz X.prog X.w H s.heap
 len:σ.length=X.N.length
section
variable {X:Cx} {π:List (Addr×Obj)} {σ:List (Option V)} {H H':Hp} {s:Shared} {h':Heap}
theorem Cx.Ok.nofr (ok:X.Ok) {b:Addr} {o:Obj} (e:X.base.get? b=some o):b∉X.fs:=λhb=>by
 have:=(ok.funs.mem hb).1;rw[e] at this;cases this
theorem aH.bs (I:aH X π σ H s):∀b o,X.base.get? b=some o->s.heap.get? b=some o/\H b=none:=λb o e=>
 ⟨I.base.keep b o (I.ok.bs b o e).1 (I.ok.bs b o e).2 (I.ok.nofr e) (I.ok.noex b o e),I.base.free b o (I.ok.bs b o e).1 (I.ok.bs b o e).2 (I.ok.noex b o e)⟩
theorem aH.bk (I:aH X π σ H s):∀b o,X.base.get? b=some o->s.heap.get? b=some o:=λb o e=>(I.bs b o e).1
theorem aH.mod (I:aH X π σ H s):Mod X.K X.mg X.base:=I.ok.mod
theorem aH.kIn (I:aH X π σ H s):X.K.In s.heap:=I.ok.mod.kin.keeps I.bk
theorem aH.lt (I:aH X π σ H s):X.env.locals<s.heap.objs.size:=let ⟨_,hn,_⟩:=I.loc;hn.lt
theorem aH.sz (I:aH X π σ H s):X.s₀.heap.objs.size<=s.heap.objs.size:=ycy I.ok.above (Nat.le_of_lt I.lt)
theorem aH.nofs (I:aH X π σ H s) (h:s.heap.objs.size<=a):a∉X.fs:=λhb=>by
 obtain⟨_,o,ho,_⟩:=I.ok.funs.mem hb;exact absurd (ydw (ybv ho) (ycy I.sz h)) (lt_irrefl _)
theorem aH.cne (I:aH X π σ H s):∀x c,X.env.cells.lookup x=some c->c≠X.env.locals:=λx c e z=>by
 obtain⟨v,o,ho,hd⟩:=I.cell x c e;obtain⟨m,⟨o',es,ep,ho',hd',_⟩,_⟩:=I.loc;rw[z,ho'] at ho;cases ho;rw[hd'] at hd;cases hd
theorem aH.funs (I:aH X π σ H s):s.heap.FunFrames X.base X.outer:=by
 have all:∀(l:List Env),(∀b∈eP l,b∈X.fs)->X.s₀.heap.FunFrames X.base l->s.heap.FunFrames X.base l:=by
  intro l
  induction l with
  | nil=>intro _ _;trivial
  | cons env r ih=>
    intro hs hl;obtain⟨hk,⟨L,o,hf,hn,ho,hd⟩,hr⟩:=hl;have hL:L∈X.fs:=hs L (by unfold eP;rw[filterMap_cons,hf];exact yby);obtain⟨sl,e⟩:=I.base.slot L o ho (I.ok.frf L hL) hL λz=>I.ok.exfs L z hL;exact⟨hk,⟨L,_,hf,hn,e,hd⟩,ih (λb hb=>hs b (by unfold eP;rw[filterMap_cons,hf];exact ybx _ hb)) hr⟩
 exact all X.outer (λ_ hb=>hb) I.ok.funs
theorem aH.stack (I:aH X π σ H s):s.heap.FunFrames X.base X.stack:=by
 rcases I.ok.stk with e | ⟨e,hf⟩
 ·rw[e];exact I.funs
 ·rw[e];obtain⟨m,hn,_⟩:=I.loc;refine .cons (by rw[I.ok.kind];decide) hf hn ?_ I.funs;exact Heap.get?_none_of_le (ycy I.ok.bsz I.ok.above)
theorem aH.stkSub (I:aH X π σ H s):∀b∈eP X.stack,b∈X.env.locals::X.fs:=λb hb=>by
 rcases I.ok.stk with e | ⟨e,hf⟩
 ·rw[e] at hb;exact ybx _ hb
 ·rw[e] at hb;unfold eP at hb;rw[filterMap_cons,hf] at hb;exact hb
theorem aH.stkFree (I:aH X π σ H s):∀b∈eP X.stack,H b=none:=λb hb=>by
 rcases mem_cons.mp (I.stkSub b hb) with e | hb
 ·rw[e];exact I.free
 ·obtain⟨_,o,ho,_⟩:=I.ok.funs.mem hb;exact I.base.free b o ho (I.ok.frf b hb) λz=>I.ok.exfs b z hb
theorem aH.step {g':Array GenState} {t':Nat} {d':Drawn} {ch:List Addr} (I:aH X π σ H s)
 (hch:∀b∈ch,(b∈X.ex∨X.s₀.heap.objs.size<=b)/\b≠X.env.locals/\(∀x c,X.env.cells.lookup x=some c->c≠b)/\∀p∈X.pn++π,p.1≠b)
 (keep:∀b o,b≠X.env.locals->b∉X.fs->b∉ch->s.heap.get? b=some o->H b=none->h'.get? b=some o)
 (slot:∀b o,b≠X.env.locals->b∈X.fs->b∉ch->s.heap.get? b=some o->H b=none->∃sl,h'.get? b=some { o with slots:=sl }) (free:∀b o,b∉ch->s.heap.get? b=some o->H b=none->H' b=none)
 (there:∀b o,b∉ch->s.heap.get? b=some o->∃o',h'.get? b=some o')
 (tups:∀b xs,H b=some (.tup xs)->H' b=some (.tup xs)) (frzs:∀b o u,H b=some (.frz o u)->H' b=some (.frz o u)) (tbls:∀b ps,H b=some (.tbl ps)->∃more,H' b=some (.tbl (ps++more)))
 (ns:∀m,s.heap.Ns X.env.locals m->h'.Ns X.env.locals m) (hok:gz X.prog X.w H' h') (hg:AllBare g'):
 aH X π σ H' { s with heap:=h',gens:=g',drawn:=d',toks:=t' }:=by
 have neL:∀b o,X.s₀.heap.get? b=some o->b≠X.env.locals:=λb o e=>ne_of_lt (ydw (ybv e) I.ok.above);have neC:∀b o,X.s₀.heap.get? b=some o->b∉X.ex->b∉ch:=λb o e hx hb=>by
  rcases(hch b hb).1 with z | z
  ·exact hx z
  ·exact absurd (ydw (ybv e) z) (lt_irrefl _)
 have cellK:∀x c,X.env.cells.lookup x=some c->∀v,s.heap.IsCell c v->h'.IsCell c v:=λx c e v ⟨o,ho,hd⟩=>by
  have nch:c∉ch:=λz=>(hch c z).2.2.1 x c e rfl
  by_cases hc:c∈X.fs
  ·obtain⟨sl,q⟩:=slot c o (I.cne x c e) hc nch ho (I.freeC x c e);exact⟨_,q,hd⟩
  ·exact⟨o,keep c o (I.cne x c e) hc nch ho (I.freeC x c e),hd⟩
 refine⟨I.ok,I.os,hg,⟨λb o e n hb hx=>?_,λb o e n hb hx=>?_,λb o e n hx=>?_,λb o e hx=>?_,λb xs e=>tups b xs (I.base.tups b xs e),λb o xs e=>frzs b o xs (I.base.frzs b o xs e),λb ps e=>?_⟩,?_,λx c e=>?_,?_,λx c e=>?_,λp hp=>?_,hok,I.len⟩
 ·exact keep b o (neL b o e) hb (neC b o e hx) (I.base.keep b o e n hb hx) (I.base.free b o e n hx)
 ·obtain⟨sl,e1⟩:=I.base.slot b o e n hb hx;obtain⟨sl',e2⟩:=slot b _ (neL b o e) hb (neC b o e hx) e1 (I.base.free b o e n hx);exact⟨sl',e2⟩
 ·obtain⟨o',e1⟩:=I.base.there b o e hx;exact free b o' (neC b o e hx) e1 (I.base.free b o e n hx)
 ·obtain⟨o',e1⟩:=I.base.there b o e hx;exact there b o' (neC b o e hx) e1
 ·obtain⟨m1,e1⟩:=I.base.tbls b ps e;obtain⟨m2,e2⟩:=tbls b _ e1;exact⟨m1++m2,by rw[e2,Array.append_assoc]⟩
 ·obtain⟨m,hn,hl⟩:=I.loc;refine⟨m,ns m hn,λi x v e1 e2 e3=>?_⟩;obtain⟨u,r,l⟩:=hl i x v e1 e2 e3;refine⟨u,r,?_⟩;rcases l with l | ⟨k,c,e,z⟩
  ·exact .inl l
  ·exact .inr ⟨k,c,e,cellK x c e _ z⟩
 ·obtain⟨v,z⟩:=I.cell x c e;exact⟨v,cellK x c e v z⟩
 ·obtain⟨m,⟨o,_,_,ho,_⟩,_⟩:=I.loc;exact free _ o (λz=>(hch _ z).2.1 rfl) ho I.free
 ·obtain⟨v,o,ho,hd⟩:=I.cell x c e;exact free c o (λz=>(hch c z).2.2.1 x c e rfl) ho (I.freeC x c e)
 ·obtain⟨e,n,ne,nf,d⟩:=I.pin p hp;have nch:p.1∉ch:=λz=>(hch p.1 z).2.2.2 p hp rfl;exact⟨keep p.1 p.2 ne nf nch e n,free p.1 p.2 nch e n,ne,nf,d⟩
theorem aH.un {t':Nat} (I:aH X π σ H s) (u:Un X.fs [] H H' s.heap h') (hok:gz X.prog X.w H' h'):aH X π σ H' { s with heap:=h',toks:=t' }:=by
 obtain⟨m,⟨o,es,ep,ho,r⟩,_⟩:=id I.loc;obtain⟨sl,hL⟩:=u.any ho I.free (by simp);exact I.step (g':=s.gens) (d':=s.drawn) (ch:=[]) (λ_ z=>nomatch z) (λb o _ hb _ e n=>u.keep b o e n hb (by simp)) (λb o _ hb _ e n=>u.slot b o e n hb (by simp)) (λb o _ e n=>u.free b o e n (by simp)) (λb o _ e=>u.there b o e (by simp)) u.tups u.frzs u.tbls (λm' hm=>by
  obtain⟨o',es',ep',ho',r'⟩:=hm;rw[ho] at ho';cases ho';exact⟨_,es',ep',hL,r'⟩) hok I.bare
theorem aH.call {g':Array GenState} {t':Nat} {d':Drawn} {ch:List Addr} (I:aH X π σ H s) (u:Un (eP X.stack) ch H H' s.heap h') (hok:gz X.prog X.w H' h') (hg:AllBare g')
 (hch:∀b∈ch,(b∈X.ex∨X.s₀.heap.objs.size<=b)/\b≠X.env.locals/\(∀x c,X.env.cells.lookup x=some c->c≠b)/\∀p∈X.pn++π,p.1≠b):
 aH X π σ H' { s with heap:=h',gens:=g',drawn:=d',toks:=t' }:=by
 obtain⟨m,⟨o,es,ep,ho,r⟩,_⟩:=id I.loc;obtain⟨sl,hL⟩:=u.any ho I.free λz=>(hch _ z).2.1 rfl;exact I.step (ch:=ch) hch (λb o hL hb hc e n=>u.keep b o e n (λz=>(mem_cons.mp (I.stkSub b z)).elim hL hb) hc) (λb o _ _ hc e n=>u.any e n hc) (λb o hc e n=>u.free b o e n hc) (λb o hc e=>u.there b o e hc) u.tups u.frzs u.tbls (λm' hm=>by
  obtain⟨o',es',ep',ho',r'⟩:=hm;rw[ho] at ho';cases ho';exact⟨_,es',ep',hL,r'⟩) hok hg
theorem aH.turned {t':Nat} {it:Addr} (I:aH X π σ H s) (k:∀b o,b≠it->s.heap.get? b=some o->h'.get? b=some o) (hn:H it=none) (hL:it≠X.env.locals)
 (h1:it∈X.ex∨X.s₀.heap.objs.size<=it) (h2:∀x c,X.env.cells.lookup x=some c->c≠it) (h3:∀p∈X.pn++π,p.1≠it):aH X π σ H { s with heap:=h',toks:=t' }:=by
 have nit:∀b u,H b=some u->b≠it:=λb u e z=>by rw[z,hn] at e;cases e
 refine I.step (g':=s.gens) (d':=s.drawn) (ch:=[it]) (λb hb=>?_) (λb o _ _ hc e _=>k b o (λz=>hc (by simp[z])) e) (λb o _ _ hc e _=>⟨o.slots,k b o (λz=>hc (by simp[z])) e⟩) (λ_ _ _ _ n=>n)
  (λb o hc e=>⟨o,k b o (λz=>hc (by simp[z])) e⟩) (λ_ _ e=>e) (λ_ _ _ e=>e) (λb ps e=>⟨#[],by rw[e];simp⟩) (λm hm=>?_) (λb u e=>?_) I.bare
 ·have e:b=it:=by simpa using hb
  subst e;exact⟨h1,hL,h2,h3⟩
 ·obtain⟨o,es,ep,ho,r⟩:=hm;exact⟨o,es,ep,k _ o (Ne.symm hL) ho,r⟩
 ·refine(I.hok b u e).stay (λc v hc q=>k c v ?_ q) (λ_ q=>q) λ_ _ q=>q;rcases hc with z | z
  ·rw[z];exact nit b u e
  ·exact nit c _ z
theorem aH.tok (I:aH X π σ H s) (t:Nat):aH X π σ H { s with toks:=t }:=I.un (h':=s.heap) (t':=t) Un.refl I.hok
theorem aH.kept {t':Nat} (I:aH X π σ H s) (k:∀b u,s.heap.get? b=some u->h'.get? b=some u):aH X π σ H { s with heap:=h',toks:=t' }:=I.un (Un.kept k) (I.hok.kept k)
theorem aH.laid {o:HO} {t':Nat} (I:aH X π σ H s) (k:∀b u,s.heap.get? b=some u->h'.get? b=some u) (hp:s.heap.objs.size<=a) (new:ca X.prog X.w (upd H a o) h' a o):
 aH X π σ (upd H a o) { s with heap:=h',toks:=t' }:=I.un (Un.laid k hp (I.hok.fresh hp)) (I.hok.laid k hp new)
theorem aH.write {x e:Addr} {o:HO} {t':Nat} (I:aH X π σ H s) (mu:Ba (H x)) (he:e=x∨H e=some (.own x)) (k:∀b u,b≠e->s.heap.get? b=some u->h'.get? b=some u) (heo:∃u,h'.get? e=some u)
 (new:ca X.prog X.w (upd H x o) h' x o):aH X π σ (upd H x o) { s with heap:=h',toks:=t' }:=I.un (Un.write mu he k heo) (I.hok.write mu he k heo new)
theorem aH.pins_of {pins':List (Addr×Obj)} (I:aH X π σ H s) (h:∀p∈pins',s.heap.get? p.1=some p.2/\H p.1=none/\p.1≠X.env.locals/\p.1∉X.fs/\∀v,p.2.data≠ .cell v):aH X pins' σ H s:=
 ⟨I.ok,I.os,I.bare,I.base,I.loc,I.cell,I.free,I.freeC,λp hp=>(mem_append.mp hp).elim (λz=>I.pin p (mem_append_left _ z)) (h p),I.hok,I.len⟩
theorem iW {N:List Str} (hN:N.Nodup) {i j:Nat} (a:N[i]?=some x) (b:N[j]?=some x):i=j:=by
 obtain⟨h1,e1⟩:=List.getElem?_eq_some_iff.mp a;obtain⟨h2,e2⟩:=List.getElem?_eq_some_iff.mp b;exact(List.getElem_inj hN).mp (e1.trans e2.symm)
theorem jM {M:Model} {v:V} {Q:Unit->Shared->Prop} (I:aH X π σ H s) (hN:X.N.Nodup) (hi:X.N[i]?=some x) (hx:vz X.env.scope x) (r:bn v u)
 (h:∀s',aH X π (σ.set i (some v)) H s'->(∃a,Heap.SameBut a s.heap s'.heap/\(a=X.env.locals∨X.env.cells.lookup x=some a))->Q () s') (hf:X.fn x=true∨X.env.scope.names.lookup x=some .local:=by first | exact .inl rfl | exact .inr rfl | assumption):wpAny M A (storeName X.env x u) Q E s:=by
 obtain⟨m,hn,hl⟩:=id I.loc;have hcls:(X.env.scope.kind== .class||(X.env.scope.kind== .module&&X.env.locals !=X.env.globals))=false:=by rw[I.ok.kind];rfl
 have hiσ:i<σ.length:=by rw[I.len];exact(List.getElem?_eq_some_iff.mp hi).1
 have cne:=I.cne;have tracked:∀{a:Addr} {h':Heap},(∃o,s.heap.get? a=some o/\H a=none)->Heap.SameBut a s.heap h'->gz X.prog X.w H h':=λ{a h'} ha hs b ob e=>by
  obtain⟨_,_,hfree⟩:=ha;refine(I.hok b ob e).stay (λc w' hc q=>(hs.2 c ?_).trans q) (λ_ q=>q) λ_ _ q=>q;rintro rfl;rcases hc with rfl | hc
  ·rw[hfree] at e;cases e
  ·rw[hfree] at hc;cases hc
 rcases hx with hk | hk
 ·refine wpAny_storeName_local hk hn (λh' hn' hs=>?_) hcls;obtain⟨oL,_,_,hoL,_⟩:=id hn;refine h _ ⟨I.ok,I.os,I.bare,⟨λb o e n hb hx=>?_,λb o e n hb hx=>?_,I.base.free,λb o e hx=>?_,I.base.tups,I.base.frzs,I.base.tbls⟩,⟨_,hn',λj y v' e1 e2 e3=>?_⟩,λy c e=>?_,I.free,I.freeC,λp hp=>?_,tracked ⟨oL,hoL,I.free⟩ hs,by simpa using I.len⟩ ⟨_,hs,.inl rfl⟩
  ·exact(hs.2 b (ne_of_lt (ydw (ybv e) I.ok.above))).trans (I.base.keep b o e n hb hx)
  ·obtain⟨sl,e1⟩:=I.base.slot b o e n hb hx;exact⟨sl,(hs.2 b (ne_of_lt (ydw (ybv e) I.ok.above))).trans e1⟩
  ·obtain⟨o',e1⟩:=I.base.there b o e hx;exact⟨o',(hs.2 b (ne_of_lt (ydw (ybv e) I.ok.above))).trans e1⟩
  ·by_cases hj:j=i
   ·subst hj;rw[hi] at e1;cases e1;rw[List.getElem?_set_self hiσ] at e2;cases e2;exact⟨u,r,.inl ⟨hk,by simp⟩⟩
   ·rw[List.getElem?_set_ne (Ne.symm hj)] at e2;obtain⟨u',r',q⟩:=hl j y v' e1 e2 e3;refine⟨u',r',?_⟩;rcases q with⟨k,e⟩ | ⟨k,c,e,z⟩
    ·refine .inl ⟨k,?_⟩;have:y≠x:=λe=>hj (iW hN e1 (e▸hi));simp[this,e]
    ·exact .inr ⟨k,c,e,z.sameBut hs (cne y c e)⟩
  ·obtain⟨w',z⟩:=I.cell y c e;exact⟨w',z.sameBut hs (cne y c e)⟩
  ·obtain⟨e,n,ne,nf,d⟩:=I.pin p hp;exact⟨(hs.2 p.1 ne).trans e,n,ne,nf,d⟩
 ·have hfn:X.fn x=true:=by
   rcases hf with z | z
   ·exact z
   ·rw[z] at hk;cases hk
  obtain⟨c,hc⟩:=I.ok.has x (.inl hk);obtain⟨w',z⟩:=I.cell x c hc;refine wpAny_storeName_cell I.ok.kind hk hc z (λh' hc' hs=>?_);obtain⟨oc,hoc,hocd⟩:=id z;refine h { s with heap:=h' } ⟨I.ok,I.os,I.bare,⟨λb o e n hb hx=>?_,λb o e n hb hx=>?_,I.base.free,λb o e hx=>?_,I.base.tups,I.base.frzs,I.base.tbls⟩,⟨m,hn.sameBut hs (Ne.symm (cne x c hc)),λj y v' e1 e2 e3=>?_⟩,λy c' e=>?_,I.free,I.freeC,λp hp=>?_,tracked ⟨oc,hoc,I.freeC x c hc⟩ hs,by simpa using I.len⟩ ⟨c,hs,.inr hc⟩
  ·exact(hs.2 b (ne_of_lt (ydw (ybv e) (I.ok.cab x c hfn hc)))).trans (I.base.keep b o e n hb hx)
  ·obtain⟨sl,e1⟩:=I.base.slot b o e n hb hx;exact⟨sl,(hs.2 b (ne_of_lt (ydw (ybv e) (I.ok.cab x c hfn hc)))).trans e1⟩
  ·obtain⟨o',e1⟩:=I.base.there b o e hx;exact⟨o',(hs.2 b (ne_of_lt (ydw (ybv e) (I.ok.cab x c hfn hc)))).trans e1⟩
  ·by_cases hj:j=i
   ·subst hj;rw[hi] at e1;cases e1;rw[List.getElem?_set_self hiσ] at e2;cases e2;exact⟨u,r,.inr ⟨.inl hk,c,hc,hc'⟩⟩
   ·rw[List.getElem?_set_ne (Ne.symm hj)] at e2;obtain⟨u',r',q⟩:=hl j y v' e1 e2 e3;refine⟨u',r',?_⟩;rcases q with q | ⟨k,c',e,z'⟩
    ·exact .inl q
    ·refine .inr ⟨k,c',e,z'.sameBut hs ?_⟩;rintro rfl;exact hj (iW hN e1 (I.ok.inj _ _ _ e hc▸hi))
  ·by_cases hcc:c'=c
   ·subst hcc;exact⟨_,hc'⟩
   ·obtain⟨w2,z2⟩:=I.cell y c' e;exact⟨w2,z2.sameBut hs hcc⟩
  ·obtain⟨e,n,ne,nf,d⟩:=I.pin p hp;refine⟨(hs.2 p.1 ?_).trans e,n,ne,nf,d⟩;intro q;rw[q,hoc] at e;have q':oc=p.2:=Option.some.inj e;exact d w' (by rw[←q'];exact hocd)
theorem gB {M:Model} {v:V} {Q:Unit->Shared->Prop} (I:aH X π σ H s) (hN:X.N.Nodup) (hi:X.N[i]?=some x) (hx:vz X.env.scope x) (r:bn v u)
 (h:∀s',aH X π (σ.set i (some v)) H s'->Q () s') (hf:X.fn x=true∨X.env.scope.names.lookup x=some .local:=by first | exact .inl rfl | exact .inr rfl | assumption):wpAny M A (storeName X.env x u) Q E s:=
 jM I hN hi hx r (λs' I' _=>h s' I') hf
theorem aH.call' {s':Shared} {ch:List Addr} (I:aH X π σ H s) (ho:s'.os=s.os) (u:Un (eP X.stack) ch H H' s.heap s'.heap) (hok:gz X.prog X.w H' s'.heap) (hg:AllBare s'.gens)
 (hch:∀b∈ch,(b∈X.ex∨X.s₀.heap.objs.size<=b)/\b≠X.env.locals/\(∀x c,X.env.cells.lookup x=some c->c≠b)/\∀p∈X.pn++π,p.1≠b):aH X π σ H' s':=by
 obtain⟨h',g',d',t',o'⟩:=s';have e:o'=s.os:=ho;subst e;exact I.call (g':=g') (t':=t') (d':=d') u hok hg hch
end
noncomputable abbrev XK:=Value->Option Addr->Hp->Prop
noncomputable abbrev St:=List (Option V)
noncomputable abbrev VK:=V->Hp->Prop
noncomputable abbrev TE:=St->Hp->VK->Prop
noncomputable abbrev TT:=St->Hp->(Bool->Hp->Prop)->Prop
noncomputable abbrev TA:=St->Hp->(List V->Hp->Prop)->Prop
structure fe where
 nx:St->Hp->Prop
 rt:VK
 bk:St->Hp->Prop:=λ_ _=>False
 ct:St->Hp->Prop:=λ_ _=>False
noncomputable abbrev TS:=fe->St->Hp->Prop
noncomputable def EP (X:Cx) (π:List (Addr×Obj)) (σ:St) (Q:VK) (u:Value) (s':Shared):Prop:=∃v H',aH X π σ H' s'/\bn v u/\Q v H'
noncomputable def TP (X:Cx) (π:List (Addr×Obj)) (σ:St) (Q:Bool->Hp->Prop) (b:Bool) (s':Shared):Prop:=∃H',aH X π σ H' s'/\Q b H'
noncomputable def AP (X:Cx) (π:List (Addr×Obj)) (σ:St) (Q:List V->Hp->Prop) (us:yez) (s':Shared):Prop:=∃vs H',aH X π σ H' s'/\aT vs us/\Q vs H'
noncomputable def SP (X:Cx) (π:List (Addr×Obj)) (D:fe) (f:Flow) (s':Shared):Prop:=
 match f with
 | .next=>∃σ' H',aH X π σ' H' s'/\D.nx σ' H'
 | .brk=>∃σ' H',aH X π σ' H' s'/\D.bk σ' H'
 | .cont=>∃σ' H',aH X π σ' H' s'/\D.ct σ' H'
 | .ret u=>∃v σ' H',aH X π σ' H' s'/\bn v u/\D.rt v H'
noncomputable def PE (X:Cx) (e:Expr) (t:TE):Prop:=
 ∀(π:List (Addr×Obj)) (s:Shared) (σ:St) (H:Hp) (Q:VK),aH X π σ H s->t σ H Q->wpAny (model X.prog X.w) X.A (eval e X.env) (EP X π σ Q) X.xe s
noncomputable def PT (X:Cx) (e:Expr) (t:TT):Prop:=
 ∀(π:List (Addr×Obj)) (s:Shared) (σ:St) (H:Hp) (Q:Bool->Hp->Prop),aH X π σ H s->t σ H Q->wpAny (model X.prog X.w) X.A (isTrue e X.env (eval e X.env)) (TP X π σ Q) X.xe s
noncomputable def PW (X:Cx) (e:Expr) (t:TT):Prop:=
 ∀(whole:Sem Value) (π:List (Addr×Obj)) (s:Shared) (σ:St) (H:Hp) (Q:Bool->Hp->Prop),aH X π σ H s->t σ H Q->wpAny (model X.prog X.w) X.A (isTrue e X.env whole) (TP X π σ Q) X.xe s
theorem PW.pt {X:Cx} {t:TT} (h:PW X e t):PT X e t:=h _
noncomputable def PA (X:Cx) (es:List Expr) (t:TA):Prop:=
 ∀(pos:Pos) (π:List (Addr×Obj)) (s:Shared) (σ:St) (H:Hp) (Q:List V->Hp->Prop),aH X π σ H s->t σ H Q->wpAny (model X.prog X.w) X.A (spliced (backTo pos (starEach es X.env))) (AP X π σ Q) X.xe s
noncomputable def PS (X:Cx) (st:Stmt) (t:TS):Prop:=
 ∀(π:List (Addr×Obj)) (s:Shared) (σ:St) (H:Hp) (D:fe),aH X π σ H s->t D σ H->wpAny (model X.prog X.w) X.A (exec st X.env) (SP X π D) X.xe s
noncomputable def lF (X:Cx) (st:List Stmt) (t:TS):Prop:=
 ∀(π:List (Addr×Obj)) (s:Shared) (σ:St) (H:Hp) (D:fe),aH X π σ H s->t D σ H->wpAny (model X.prog X.w) X.A (execs st X.env) (SP X π D) X.xe s
theorem ci {α:Type} {t:Sem α} {Q Q':α->Shared->Prop} {M:Model} (h:wpAny M A t Q E s) (hQ:∀a s,Q a s->Q' a s):wpAny M A t Q' E s:=wpAny_mono h hQ λ_ _ x=>x
section
variable {X:Cx}
noncomputable def yV (i:Nat):TE:=λσ H Q=>∃v,σ[i]?=some (some v)/\Q v H
noncomputable def tC (v:V):TE:=λ_ H Q=>Q v H
theorem n5 (hN:X.N[i]?=some x) (hv:AZ X.env.scope x) (hd:(x==("__debug__":Str))=false:=by decide) (hcd:(x==("__classdict__":Str))=false:=by decide):PE X (.Name x pos) (yV i):=by
 intro π s σ H Q I h;obtain⟨v,e,h⟩:=h;obtain⟨m,hn,hl⟩:=I.loc;obtain⟨u,r,l⟩:=hl i x v hN e hv;have fin:EP X π σ Q u s:=⟨v,H,I,r,h⟩;rcases l with⟨hk,hm⟩ | ⟨hk,c,hc,hcell⟩
 ·exact wpAny_Name (wpAny_loadName_local I.ok.kind hk hn hm fin) hd
 ·rcases hk with hk | hk
  ·exact wpAny_Name (wpAny_loadName_cell I.ok.kind hk hc hcell fin) hd
  ·exact wpAny_Name (wpAny_loadName_free I.ok.kind hk hc hcell fin hcd) hd
theorem sB {i j pos}:PE X (.Constant (.int i) j pos) (tC (.int i)):=λ_ _ _ H _ I h=>wpAny_Constant_int ⟨.int i,H,I.tok _,⟨_,rfl⟩,h⟩
theorem Bb {b j pos}:PE X (.Constant (.bool b) j pos) (tC (.bl b)):=λ_ _ _ H _ I h=>Constant_bool ⟨.bl b,H,I,rfl,h⟩
theorem yW {j pos}:PE X (.Constant .none j pos) (tC .non):=λ_ _ _ H _ I h=>Constant_none ⟨.non,H,I,rfl,h⟩
theorem n6 {x j pos}:PE X (.Constant (.str x) j pos) (tC (.str x)):=λ_ _ _ H _ I h=>Calls.Constant_str ⟨.str x,H,I.tok _,⟨_,rfl⟩,h⟩
noncomputable def Gl (X:Cx) (x:Str):Prop:=X.env.kindOf x=some .globalImplicit
theorem dY {σ:St} {H:Hp} (I:aH X π σ H s) (hg:Gl X x) (hm:X.mg x=some u) (h:Q u s)
 (hd:(x==("__debug__":Str))=false:=by decide):wpAny (model X.prog X.w) X.A (eval (.Name x pos) X.env) Q E s:=
 Calls.Name_function_global I.ok.kind hg (Calls.loadGlobal_global (by rw[I.ok.glob];exact I.mod.glob.keeps I.bk) hm h) hd
theorem hV {σ:St} {H:Hp} (I:aH X π σ H s) (hg:Gl X x) (hm:X.mg x=none) (hv:bootBuiltins x=some u) (h:Q u s)
 (hn:x≠"__name__":=by decide) (hd:(x==("__debug__":Str))=false:=by decide):wpAny (model X.prog X.w) X.A (eval (.Name x pos) X.env) Q E s:=by
 obtain⟨mb,h1,h2⟩:=I.mod.blt;exact Calls.Name_function_global I.ok.kind hg (Calls.loadGlobal_builtin (by rw[I.ok.glob];exact I.mod.glob.keeps I.bk) hm (by rw[I.ok.blt];exact h1.keeps I.bk) ((h2 x hn).trans hv) h) hd
theorem kC {v:V} (hg:Gl X x) (hm:X.mg x=some u) (r:bn v u) (hd:(x==("__debug__":Str))=false:=by decide):PE X (.Name x pos) (tC v):=
 λ_ _ _ H _ I h=>dY I hg hm ⟨v,H,I,r,h⟩ hd
theorem vA {v:V} (hg:Gl X x) (hm:X.mg x=none) (hv:bootBuiltins x=some u) (r:bn v u) (hn:x≠"__name__":=by decide) (hd:(x==("__debug__":Str))=false:=by decide):PE X (.Name x pos) (tC v):=
 λ_ _ _ H _ I h=>hV I hg hm hv ⟨v,H,I,r,h⟩ hn hd
variable {a b:Expr} {ta tb:TE} {pos:Pos}
noncomputable def tB (t:TE):TT:=λσ H Q=>t σ H λx H1=>∃c,x=.bl c/\Q c H1
theorem yX {t:TE} (h:PE X e t) (he:∀whole,isTrue e X.env whole=(do let v ←whole;standAt e.pos;holding [v] (truthy v)):=by intro _;rfl):PT X e (tB t):=by
 intro π s σ H Q I hw;refine isTrue_plain (ci (h π s σ H _ I hw) λv s1 z9=>?_) (he _);obtain⟨x,H1,I1,r1,q1⟩:=z9;obtain⟨d,rfl,q⟩:=q1;cases r1;exact wpAny_truthy_bool ⟨H1,I1,q⟩
variable {tA tB':TT} {rest:List Expr}
noncomputable def D4 (t u:TT):TT:=λσ H Q=>t σ H λc H1=>if c=true then u σ H1 Q else Q false H1
noncomputable def GJ (t u:TT):TT:=λσ H Q=>t σ H λc H1=>if c=true then Q true H1 else u σ H1 Q
noncomputable def D5 (t:TT):TT:=λσ H Q=>t σ H λc H1=>Q (!c) H1
theorem vB (ha:PT X a tA):PW X (.BoolOp .And [a] pos) tA:=by
 intro wh π s σ H Q I h;refine isTrue_and (ci (ha π s σ H Q I h) λc s1 e=>?_);cases c with
 | true=>exact isTrue_and_nil e
 | false=>exact e
theorem yY (ha:PT X a tA):PW X (.BoolOp .Or [a] pos) tA:=by
 intro wh π s σ H Q I h;refine isTrue_or (ci (ha π s σ H Q I h) λc s1 e=>?_);cases c with
 | false=>exact isTrue_or_nil e
 | true=>exact e
theorem yZ (ha:PT X a tA) (hb:PW X (.BoolOp .And (b::rest) pos) tB'):PW X (.BoolOp .And (a::b::rest) pos) (D4 tA tB'):=by
 intro wh π s σ H Q I h;refine isTrue_and (ci (ha π s σ H _ I h) λc s1 z9=>?_);obtain⟨H1,I1,q1⟩:=z9;cases c with
 | true=>exact hb wh π s1 σ H1 Q I1 q1
 | false=>exact⟨H1,I1,q1⟩
theorem Bc (ha:PT X a tA) (hb:PW X (.BoolOp .Or (b::rest) pos) tB'):PW X (.BoolOp .Or (a::b::rest) pos) (GJ tA tB'):=by
 intro wh π s σ H Q I h;refine isTrue_or (ci (ha π s σ H _ I h) λc s1 z9=>?_);obtain⟨H1,I1,q1⟩:=z9;cases c with
 | true=>exact⟨H1,I1,q1⟩
 | false=>exact hb wh π s1 σ H1 Q I1 q1
theorem y0 (ha:PT X a tA):PT X (.UnaryOp .Not a pos) (D5 tA):=by
 intro π s σ H Q I h;exact isTrue_not (ha π s σ H (λc H1=>Q (!c) H1) I h)
noncomputable def Bd (ta tb:TE):TE:=λσ H Q=>ta σ H λx H1=>∃c,x=.bl c/\if c=true then tb σ H1 Q else Q (.bl false) H1
noncomputable def D6 (ta tb:TE):TE:=λσ H Q=>ta σ H λx H1=>∃c,x=.bl c/\if c=true then Q (.bl true) H1 else tb σ H1 Q
noncomputable def Be (ta:TE):TE:=λσ H Q=>ta σ H λx H1=>∃c,x=.bl c/\Q (.bl (!c)) H1
theorem y3 {op} {t:TE} (h:PE X a t):PE X (.BoolOp op [a] pos) t:=λπ s σ H Q I hw=>BoolOp_one (h π s σ H Q I hw)
theorem y4 (ha:PE X a ta) (hb:PE X (.BoolOp .And (b::rest) pos) tb):PE X (.BoolOp .And (a::b::rest) pos) (Bd ta tb):=by
 intro π s σ H Q I h;refine BoolOp_and (ci (ha π s σ H _ I h) λv s1 z9=>?_);obtain⟨x,H1,I1,r1,q1⟩:=z9;obtain⟨c,rfl,q1⟩:=q1;cases r1;refine wpAny_truthy_bool ?_;cases c with
 | true=>exact hb π s1 σ H1 Q I1 q1
 | false=>exact⟨.bl false,H1,I1,rfl,q1⟩
theorem Bf (ha:PE X a ta) (hb:PE X (.BoolOp .Or (b::rest) pos) tb):PE X (.BoolOp .Or (a::b::rest) pos) (D6 ta tb):=by
 intro π s σ H Q I h;refine BoolOp_or (ci (ha π s σ H _ I h) λv s1 z9=>?_);obtain⟨x,H1,I1,r1,q1⟩:=z9;obtain⟨c,rfl,q1⟩:=q1;cases r1;refine wpAny_truthy_bool ?_;cases c with
 | false=>exact hb π s1 σ H1 Q I1 q1
 | true=>exact⟨.bl true,H1,I1,rfl,q1⟩
theorem y6 (ha:PE X a ta):PE X (.UnaryOp .Not a pos) (Be ta):=by
 intro π s σ H Q I h;refine UnaryOp_ (ci (ha π s σ H _ I h) λv s1 z9=>?_);obtain⟨x,H1,I1,r1,q1⟩:=z9;obtain⟨c,rfl,q1⟩:=q1;cases r1;exact not_of (wpAny_truthy_bool ⟨.bl (!c),H1,I1,rfl,q1⟩)
noncomputable def GK (t:TT) (ta tb:TE):TE:=λσ H Q=>t σ H λc H1=>if c=true then ta σ H1 Q else tb σ H1 Q
theorem sC {c:Expr} (hc:PT X c tA) (ha:PE X a ta) (hb:PE X b tb):PE X (.IfExp c a b pos) (GK tA ta tb):=by
 intro π s σ H Q I h;refine wpAny_IfExp (ci (hc π s σ H _ I h) λd s1 z9=>?_);obtain⟨H1,I1,q1⟩:=z9;cases d with
 | true=>exact ha π s1 σ H1 Q I1 q1
 | false=>exact hb π s1 σ H1 Q I1 q1
end
noncomputable def dE (K:yav) (H:Hp) (a:Addr) (xs:List V):Prop:=
 Rd H a (.lst xs)∨
  ∃(o:Obj) (its:Array Value) (n:Nat),K.lookup a=some o/\o.cls=.type "list"/\o.dict=none/\o.data=.seq its n/\its.size<=sizeLine/\aT xs its.toList
noncomputable def dA (K:yav) (H:Hp) (a:Addr) (xs:List V):Prop:=
 Rd H a (.tup xs)∨
  ∃(o:Obj) (its:Array Value) (n:Nat),K.lookup a=some o/\o.cls=.type "tuple"/\o.data=.seq its n/\its.size<=sizeLine/\aT xs its.toList
noncomputable def D7:Value->Option V
 | .none=>some .non
 | .bool b=>some (.bl b)
 | .int i _=>some (.int i)
 | .str x _=>some (.str x)
 | .bytes b _=>some (.byt b)
 | .float b _=>some (.flt b)
 | .ref a=>some (.ref a)
 | .type n=>some (.ty n)
 | _=>none
theorem bn.abs {x:V} (r:bn x u):D7 u=some x:=by
 cases x with
 | non=>cases r;rfl
 | bl _=>cases r;rfl
 | int _=>obtain⟨t,rfl⟩:=r;rfl
 | str _=>obtain⟨t,rfl⟩:=r;rfl
 | byt _=>obtain⟨t,rfl⟩:=r;rfl
 | flt _=>obtain⟨t,rfl⟩:=r;rfl
 | ref _=>cases r;rfl
 | ty _=>cases r;rfl
theorem bn.inj {x y:V} (r:bn x u) (q:bn y u):x=y:=Option.some.inj (r.abs.symm.trans q.abs)
theorem aT.inj:∀{xs ys:List V} {us:yez},aT xs us->aT ys us->xs=ys
 | _,_,_,.nil,.nil=>rfl
 | _,_,_,.cons r t,.cons r' t'=>by rw[r.inj r',aT.inj t t']
section
variable {X:Cx} {π:List (Addr×Obj)} {σ:St} {H:Hp} {s:Shared} {a:Addr} {xs ys:List V}
theorem dE.of (h:H a=some (.lst xs)):dE K H a xs:= .inl (.inl h)
theorem dA.of (h:H a=some (.tup xs)):dA K H a xs:= .inl (.inl h)
theorem aH.list (I:aH X π σ H s) (h:dE X.K H a xs):∃its:List Value,aT xs its/\PlainL s.heap a its.toArray/\xs.length<=sizeLine:=by
 rcases h with h | ⟨o,its,n,hk,hc,hd,hs,hz,r⟩
 ·obtain⟨z,its,n,r,e⟩:=h.ok I.hok;exact⟨its,r,⟨_,n,e,rfl,rfl,rfl⟩,z⟩
 ·refine⟨its.toList,r,⟨o,n,I.kIn a o hk,hc,hd,by simpa using hs⟩,?_⟩;have e:=r.length;simp only[Array.length_toList] at e;lia
theorem aH.tuple (I:aH X π σ H s) (h:dA X.K H a xs):∃its:List Value,aT xs its/\IsTup s.heap a its.toArray/\xs.length<=sizeLine:=by
 rcases h with h | ⟨o,its,n,hk,hc,hs,hz,r⟩
 ·obtain⟨z,its,r,p⟩:=h.ok I.hok;exact⟨its,r,p,z⟩
 ·refine⟨its.toList,r,⟨o,I.kIn a o hk,hc,n,by simpa using hs⟩,?_⟩;have e:=r.length;simp only[Array.length_toList] at e;lia
theorem aH.list_inj (I:aH X π σ H s) (h:dE X.K H a xs) (h':dE X.K H a ys):xs=ys:=by
 obtain⟨its,r,⟨o,n,e,_,_,d⟩,_⟩:=I.list h;obtain⟨its',r',⟨o',n',e',_,_,d'⟩,_⟩:=I.list h';rw[e] at e';cases e';rw[d] at d';injection d' with d1 _
 have:its=its':=by simpa using congrArg Array.toList d1
 subst this;exact r.inj r'
theorem aH.tuple_inj (I:aH X π σ H s) (h:dA X.K H a xs) (h':dA X.K H a ys):xs=ys:=by
 obtain⟨its,r,⟨o,e,_,n,d⟩,_⟩:=I.tuple h;obtain⟨its',r',⟨o',e',_,n',d'⟩,_⟩:=I.tuple h';rw[e] at e';cases e';rw[d] at d';injection d' with d1 _
 have:its=its':=by simpa using congrArg Array.toList d1
 subst this;exact r.inj r'
end
noncomputable abbrev Cx.wish (X:Cx) (E:yey):Cx:={ X with xe:=E }
noncomputable abbrev Cx.nox (X:Cx):Cx:=X.wish λ_ _=>False
theorem Cx.Ok.wish {X:Cx} (ok:X.Ok) (E:yey):(X.wish E).Ok:=
 ⟨ok.mod,ok.kind,ok.glob,ok.blt,ok.above,ok.inj,ok.has,ok.cab,ok.hd,ok.frames,ok.stk,ok.exf,ok.bs,ok.bsz,ok.noex,ok.exfs,ok.funs,ok.frf⟩
theorem Cx.Ok.unwish {X:Cx} (ok:(X.wish E).Ok):X.Ok:=
 ⟨ok.mod,ok.kind,ok.glob,ok.blt,ok.above,ok.inj,ok.has,ok.cab,ok.hd,ok.frames,ok.stk,ok.exf,ok.bs,ok.bsz,ok.noex,ok.exfs,ok.funs,ok.frf⟩
section
variable {X:Cx} {π:List (Addr×Obj)} {σ:St} {H:Hp} {s:Shared} {E:yey}
theorem aH.wish (I:aH X π σ H s) (E:yey):aH (X.wish E) π σ H s:=⟨I.ok.wish E,I.os,I.bare,I.base,I.loc,I.cell,I.free,I.freeC,I.pin,I.hok,I.len⟩
theorem aH.unwish (I:aH (X.wish E) π σ H s):aH X π σ H s:=⟨I.ok.unwish,I.os,I.bare,I.base,I.loc,I.cell,I.free,I.freeC,I.pin,I.hok,I.len⟩
theorem SP.unwish {D:fe} {f:Flow} {s':Shared} (h:SP (X.wish E) π D f s'):SP X π D f s':=by
 cases f with
 | next=>obtain⟨σ',H',I,q⟩:=h;exact⟨σ',H',I.unwish,q⟩
 | brk=>obtain⟨σ',H',I,q⟩:=h;exact⟨σ',H',I.unwish,q⟩
 | cont=>obtain⟨σ',H',I,q⟩:=h;exact⟨σ',H',I.unwish,q⟩
 | ret u=>obtain⟨v,σ',H',I,r,q⟩:=h;exact⟨v,σ',H',I.unwish,r,q⟩
theorem lF.nox {st:List Stmt} {t:TS} (h:lF X.nox st t):lF X st t:=λπ s σ H D I hw=>
 wpAny_mono (h π s σ H D (I.wish _) hw) (λ_ _ q=>q.unwish) λ_ _ z=>False.elim z
end
section
variable {X:Cx} {st:Stmt} {rest:List Stmt} {t u:TS} {e:Expr} {te:TE} {pos:Pos}
noncomputable def Bh:TS:=λD σ H=>D.nx σ H
noncomputable def D8 (t u:TS):TS:=λD σ H=>t { D with nx:=u D } σ H
theorem pss_nil:lF X [] Bh:=λ_ _ σ H _ I h=>wpAny_execs_nil ⟨σ,H,I,h⟩
theorem sE (h1:PS X st t) (h2:lF X rest u):lF X (st::rest) (D8 t u):=by
 intro π s σ H D I h;refine wpAny_execs_cons (ci (h1 π s σ H { D with nx:=u D } I h) λf s1 q=>?_);cases f with
 | next=>
   obtain⟨σ',H',I',q⟩:=q;exact h2 π s1 σ' H' D I' q
 | ret v=>exact q
 | brk=>exact q
 | cont=>exact q
theorem vC (h1:PS X st t):lF X [st] t:=by
 intro π s σ H D I h;refine wpAny_execs_cons (ci (h1 π s σ H D I h) λf s1 q=>?_);cases f with
 | next=>exact wpAny_execs_nil q
 | ret v=>exact q
 | brk=>exact q
 | cont=>exact q
theorem aH.quiet {σ:St} {H:Hp} (I:aH X π σ H s):interactive X.env=false:=by simp[interactive,I.ok.kind]
noncomputable def Bi (te:TE):TS:=λD σ H=>te σ H λ_ H1=>D.nx σ H1
theorem vD (he:PE X e te) (hs:swapsWith e none pos.line X.env=pure false:=by rfl):PS X (.Expr e pos) (Bi te):=by
 intro π s σ H D I h;exact wpAny_Expr_any (ci (he π s σ H _ I h) λv s1 ⟨x,H1,I1,r1,q1⟩=>⟨σ,H1,I1,q1⟩) I.quiet hs
noncomputable def D9 (te:TE):TS:=λD σ H=>te σ H D.rt
theorem y7 (he:PE X e te):PS X (.Return (some e) pos) (D9 te):=by
 intro π s σ H D I h;exact wpAny_Return_some (ci (he π s σ H _ I h) λv s1 ⟨x,H1,I1,r1,q1⟩=>⟨x,σ,H1,I1,r1,q1⟩)
noncomputable def Bj:TS:=λD _ H=>D.rt .non H
theorem ps_retN:PS X (.Return none pos) Bj:=λ_ _ σ H _ I h=>wpAny_Return_none ⟨.non,σ,H,I,rfl,h⟩
noncomputable def Ea (c:TT) (t u:TS):TS:=λD σ H=>c σ H λb H1=>if b=true then t D σ H1 else u D σ H1
theorem Bk {c:Expr} {a b:List Stmt} {tc:TT} (hc:PT X c tc) (ha:lF X a t) (hb:lF X b u):PS X (.If c a b pos) (Ea tc t u):=by
 intro π s σ H D I h;refine wpAny_If (ci (hc π s σ H _ I h) λd s1 z9=>?_);obtain⟨H1,I1,q1⟩:=z9;cases d with
 | true=>exact ha π s1 σ H1 D I1 q1
 | false=>exact hb π s1 σ H1 D I1 q1
end
noncomputable abbrev TG:=V->St->Hp->(St->Hp->Prop)->Prop
noncomputable abbrev vE:=List V->St->Hp->(St->Hp->Prop)->Prop
noncomputable def PG (X:Cx) (target:Expr) (t:TG):Prop:=
 ∀(π:List (Addr×Obj)) (s:Shared) (σ:St) (H:Hp) (v:V) (u:Value) (Q:St->Hp->Prop),aH X π σ H s->bn v u->t v σ H Q->
  wpAny (model X.prog X.w) X.A (assign target X.env u) (λ_ s'=>∃σ' H',aH X π σ' H' s'/\Q σ' H') X.xe s
noncomputable def ye (X:Cx) (ts:List Expr) (t:vE):Prop:=
 ∀(π:List (Addr×Obj)) (s:Shared) (σ:St) (H:Hp) (vs:List V) (us:yez) (Q:St->Hp->Prop),aH X π σ H s->aT vs us->t vs σ H Q->
  wpAny (model X.prog X.w) X.A (assignInOrder ((assignEach ts X.env).map (·.2)) us) (λ_ s'=>∃σ' H',aH X π σ' H' s'/\Q σ' H') X.xe s
section
variable {X:Cx} {pos:Pos}
noncomputable def yf (i:Nat):TG:=λv σ H Q=>Q (σ.set i (some v)) H
theorem vF (hN:X.N.Nodup) (hi:X.N[i]?=some x) (hx:vz X.env.scope x) (hf:X.fn x=true∨X.env.scope.names.lookup x=some .local:=by first | exact .inl rfl | exact .inr rfl | assumption):PG X (.Name x pos) (yf i):=by
 intro π s σ H v u Q I r h;exact wpAny_assign_Name (gB I hN hi hx r (λs' I'=>⟨_,H,I',h⟩) hf)
noncomputable def Eb:vE:=λvs σ H Q=>vs=[]/\Q σ H
noncomputable def Bl (t:TG) (u:vE):vE:=λvs σ H Q=>∃v r,vs=v::r/\t v σ H λσ' H'=>u r σ' H' Q
theorem pgs_nil:ye X [] Eb:=by
 intro π s σ H vs us Q I r h;obtain⟨e,h⟩:=h;subst e;cases r;exact assignInOrder_nil ⟨σ,H,I,h⟩
theorem sF {t:TG} {u:vE} (h1:PG X e t) (h2:ye X es u)
 (hs:(assignEach (e::es) X.env).map (·.2)=assign e X.env::(assignEach es X.env).map (·.2):=by rfl):ye X (e::es) (Bl t u):=by
 intro π s σ H vs us Q I r h;obtain⟨v,vr,e1,h⟩:=h;subst e1;cases r with
 | cons r rr=>
   rw[hs];refine assignInOrder_cons (ci (h1 π s σ H _ _ _ I r h) λ_ s1 z9=>?_);obtain⟨σ1,H1,I1,q1⟩:=z9;exact h2 π s1 σ1 H1 _ _ Q I1 rr q1
noncomputable def Ec (K:yav) (n:Nat) (t:vE):TG:=λv σ H Q=>∃a xs,v=.ref a/\dA K H a xs/\xs.length=n/\t xs σ H Q
theorem y8 {t:vE} {n:Nat} (hc:X.calm=true) (h:ye X es t)
 (hn:(assignEach es X.env).length=n:=by rfl) (hst:(assignEach es X.env).findIdx? (·.1)=none:=by rfl):PG X (.Tuple es k pos) (Ec X.K n t):=by
 intro π s σ H v u Q I r hw;obtain⟨a,xs,e1,hq,hl,hw⟩:=hw;subst e1;cases r;obtain⟨its,rv,ht,hz⟩:=I.tuple hq;refine assign_Tuple_tuple (I.ok.hd hc) ht (by simp[hn,←hl,rv.length]) hst λh' hx=>?_;have I1:aH X π σ H { s with heap:=h' }:=I.kept (t':=s.toks) λb o e=>hx b o (ne_of_lt (ybv e)) e;exact h π _ σ H xs _ Q I1 (by simpa using rv) hw
noncomputable def Ed (te:TE) (g:TG):TS:=λD σ H=>te σ H λx H1=>g x σ H1 D.nx
theorem y9 {te:TE} {pos':Pos} (hN:X.N.Nodup) (hi:X.N[i]?=some x) (hx:vz X.env.scope x) (he:PE X e te) (hs:swapsWith e (some (.Name x pos')) pos.line X.env=pure false:=by rfl) (hf:X.fn x=true∨X.env.scope.names.lookup x=some .local:=by first | exact .inl rfl | exact .inr rfl | assumption):
 PS X (.Assign [.Name x pos'] e pos) (Ed te (yf i)):=by
 intro π s σ H D I h;refine wpAny_Assign_Name (ci (he π s σ H _ I h) λv s1 z9=>?_) hs;obtain⟨y,H1,I1,r1,q1⟩:=z9;exact gB I1 hN hi hx r1 (λs2 I2=>⟨_,H1,I2,q1⟩) hf
end
section
variable {X:Cx} {pos:Pos}
noncomputable def zc (c:TT) (tb:TS):TS:=λD σ H=>∃W:Nat->St->Hp->Prop,(∃m,W m σ H)/\∀m σ H,W m σ H->
 c σ H λb H1=>if b=true then ∃N:St->Hp->Prop,(∀σ' H',N σ' H'->∃m',m'<m/\W m' σ' H')/\tb { D with nx:=N,ct:=N,bk:=D.nx } σ H1 else D.nx σ H1
theorem sG {c:Expr} {tc:TT} {tb:TS} (hp:PassesOwn (model X.prog X.w) X.A X.env X.xe) (hc:PT X c tc) (hb:lF X body tb):PS X (.While c body [] pos) (zc tc tb):=by
 intro π s σ H D I h;obtain⟨W,⟨m0,w0⟩,turn⟩:=h;refine wpAny_While (codeAny_whileLoop (λn s'=>∃σ' H',aH X π σ' H' s'/\W n σ' H') ?_ m0 ⟨σ,H,I,w0⟩);rintro n s1 ⟨σ1,H1,I1,w1⟩;refine wpAny_passesOwn hp (ci (hc π s1 σ1 H1 _ I1 (turn n σ1 H1 w1)) λb s2 z9=>?_);obtain⟨H2,I2,q2⟩:=z9;cases b with
 | true=>
   obtain⟨N,hN,q2⟩:=q2;rw[ycv rfl];refine wpAny_passesOwn hp (ci (hb π s2 σ1 H2 _ I2 q2) λf s3 q3=>?_);cases f with
   | next=>
     obtain⟨σ3,H3,I3,n3⟩:=q3;obtain⟨m',hm,w3⟩:=hN σ3 H3 n3;exact⟨m',hm,σ3,H3,I3,w3⟩
   | cont=>
     obtain⟨σ3,H3,I3,n3⟩:=q3;obtain⟨m',hm,w3⟩:=hN σ3 H3 n3;exact⟨m',hm,σ3,H3,I3,w3⟩
   | brk=>exact q3
   | ret v=>exact q3
 | false=>
   rw[ycw ydx];exact wpAny_execs_nil ⟨σ1,H2,I2,q2⟩
end
structure It where
 go:Nat->Hp->Prop
 yld:Nat->Hp->V->Hp->Prop
 stop:Nat->Hp->Prop
noncomputable def kD (X:Cx) (π:List (Addr×Obj)) (H:Hp) (b:Addr):Prop:=
 H b=none/\b≠X.env.locals/\b∉X.fs/\(b∈X.ex∨X.s₀.heap.objs.size<=b)/\(∀x c,X.env.cells.lookup x=some c->c≠b)/\∀p∈X.pn++π,p.1≠b
theorem aH.fpOk {X:Cx} {σ:St} {H H':Hp} {b:Addr} (I:aH X π σ H s) (hb:s.heap.objs.size<=b) (hn:H' b=none):kD X π H' b:=by
 refine⟨hn,Nat.ne_of_gt (ydw I.lt hb),I.nofs hb,.inr (ycy I.sz hb),λx c e z=>?_,λp hp z=>?_⟩
 ·obtain⟨v,q⟩:=I.cell x c e;exact absurd (ydw q.lt (by rw[z];exact hb)) (lt_irrefl _)
 ·exact absurd (ydw (ybv (I.pin p hp).1) (by rw[z];exact hb)) (lt_irrefl _)
structure lM (P:Program) (w:World) (K:yav) (tg:Expr) (J:It) (fp:List Addr) (it:Addr) (tn:Nat->Heap->Prop):Prop where
 mem:it∈fp
 obj:∀i h,tn i h->∀b∈fp,∃o,h.get? b=some o/\∀v,o.data≠ .cell v
 keep:∀i h h',tn i h->(∀b∈fp,∀o,h.get? b=some o->h'.get? b=some o)->tn i h'
 item:∀(X:Cx),X.prog=P->X.w=w->X.K=K->X.calm=true->∀(i:Nat) (π:List (Addr×Obj)) (s:Shared) (σ:St) (H:Hp) (E:yey),aH X π σ H s->(∀b∈fp,kD X π H b)->tn i s.heap->J.go i H->
  wpAny (model P w) X.A (pyNext (.ref it)) (λr s1=>∃u,r=some u/\
   wpAny (model P w) X.A (letOwnedTupleGo tg (.ref it) u) (λ_ s2=>∃x H',aH X π σ H' s2/\bn x u/\J.yld i H x H'/\tn (i+1) s2.heap/\∀b∈fp,H' b=none) E s1) E s
 done:∀(X:Cx),X.prog=P->X.w=w->X.K=K->X.calm=true->∀(i:Nat) (π:List (Addr×Obj)) (s:Shared) (σ:St) (H:Hp) (E:yey),aH X π σ H s->(∀b∈fp,kD X π H b)->tn i s.heap->J.stop i H->
  wpAny (model P w) X.A (pyNext (.ref it)) (λr s1=>r=none/\aH X π σ H s1) E s
 self:∀(A:Around) (i:Nat) (s:Shared) (Q:yey) (E:yey),tn i s.heap->Q (.ref it) s->wpAny (model P w) A (pyIter (.ref it)) Q E s
noncomputable abbrev TI:=St->Hp->(It->Hp->Prop)->Prop
noncomputable def Gs (X:Cx) (π:List (Addr×Obj)) (σ:St) (tg:Expr) (R:It->Hp->Prop) (itv:Value) (s2:Shared):Prop:=
 ∃(it:Addr) (fp:List Addr) (tn:Nat->Heap->Prop) (J:It) (H':Hp),itv=.ref it/\aH X π σ H' s2/\lM X.prog X.w X.K tg J fp it tn/\tn 0 s2.heap/\(∀b∈fp,kD X π H' b)/\R J H'
noncomputable def PI (X:Cx) (tg iter:Expr) (wi:TI):Prop:=
 ∀(π:List (Addr×Obj)) (s:Shared) (σ:St) (H:Hp) (R:It->Hp->Prop),aH X π σ H s->wi σ H R->
  wpAny (model X.prog X.w) X.A (eval iter X.env) (λv s1=>wpAny (model X.prog X.w) X.A (pyIter v) (Gs X π σ tg R) X.xe s1) X.xe s
theorem lN {M:Model} {tg:Expr} {it:Addr} {o:Obj} {n:String} {vs:Array Value} {Q:Unit->Shared->Prop} (ho:s.heap.get? it=some o) (hc:o.cls=.type n) (hd:o.data=.fields vs)
 (hn:["enumerate","zip","dict_itemiterator","dict_reverseitemiterator","odict_iterator","itertools.zip_longest","itertools.pairwise"].contains n=false) (hQ:Q () s):wpAny M A (letOwnedTupleGo tg (.ref it) u) Q E s:=by
 unfold letOwnedTupleGo;cases tg<;> first
  | exact wpAny_pure hQ
  | (cases u<;> first
      | exact wpAny_pure hQ
      | (refine wax (wpAny_load ho ?_)
         rw[hc,hd];show wpAny M A (if (["enumerate","zip","dict_itemiterator","dict_reverseitemiterator","odict_iterator","itertools.zip_longest","itertools.pairwise"].contains n&&vs[0]?==some (rawInt _))=true then _ else _) Q E s;rw[ycw (by intro h;rw[hn,Bool.false_and] at h;cases h)];exact wpAny_pure hQ))
noncomputable def DR (K:yav) (a:Addr):It:=
 ⟨λi H=>∃xs x,dE K H a xs/\xs[i]?=some x,λi H x H'=>H'=H/\∀xs,dE K H a xs->xs[i]?=some x,λi H=>∃xs,dE K H a xs/\xs.length<=i⟩
noncomputable def Ee (K:yav) (a:Addr):It:=
 ⟨λi H=>∃xs x,dA K H a xs/\xs[i]?=some x,λi H x H'=>H'=H/\∀xs,dA K H a xs->xs[i]?=some x,λi H=>∃xs,dA K H a xs/\xs.length<=i⟩
noncomputable def DS (lo:Int) (n:Nat):It:=⟨λi _=>i<n,λi H x H'=>H'=H/\x=.int (lo+i),λi _=>n<=i⟩
theorem qR {tg:Expr} (a it:Addr):lM P w K tg (DR K a) [it] it (λi h=>h.IsListIter it a i) where
 mem:=by simp
 obj:=λi h st b hb=>by
  have e:b=it:=by simpa using hb
  subst e;obtain⟨o,e,c,d⟩:=st;exact⟨o,e,λv z=>by rw[d] at z;cases z⟩
 keep:=λi h h' st k=>st.at λo e=>k it (by simp) o e
 item:=by
  intro X hP hw hK hc i π s σ H E I hf st hg;subst hP hw hK;obtain⟨xs,x,hq,hx⟩:=hg;obtain⟨its,rv,p,hz⟩:=I.list hq;obtain⟨u,hu,ru⟩:=rv.get hx;obtain⟨f0,f1,f2,f3,f4,f5⟩:=hf it (by simp);refine wpAny_pyNext_list_item st p.isList (x:=u) (by simpa using hu) λh' st' sb=>?_;have I1:aH X π σ H { s with heap:=h' }:=I.turned (t':=s.toks) (λb o hb e=>(sb.2 b hb).trans e) f0 f1 f3 f4 f5;obtain⟨o,e,c,d⟩:=id st';exact⟨u,rfl,lN (s:={ s with heap:=h' }) e c d (by decide) ⟨x,H,I1,ru,⟨rfl,λys hy=>by rw[I.list_inj hy hq];exact hx⟩,st',λb hb=>(hf b hb).1⟩⟩
 done:=by
  intro X hP hw hK hc i π s σ H E I hf st hg;subst hP hw hK;obtain⟨xs,hq,hx⟩:=hg;obtain⟨its,rv,p,hz⟩:=I.list hq;obtain⟨f0,f1,f2,f3,f4,f5⟩:=hf it (by simp);have hl:=rv.length;exact wpAny_pyNext_list_end (I.ok.hd hc) st p.isList (by simp;(clear hz f3;lia)) λh' eb=>⟨rfl,I.turned (t':=s.toks) (λb o hb e=>eb b o hb e) f0 f1 f3 f4 f5⟩
 self:=λ_ _ _ _ _ st h=>wpAny_pyIter_listiter st h
theorem n8 {tg:Expr} (a it:Addr):lM P w K tg (Ee K a) [it] it (λi h=>h.IsTupleIter it a i) where
 mem:=by simp
 obj:=λi h st b hb=>by
  have e:b=it:=by simpa using hb
  subst e;obtain⟨o,e,c,d⟩:=st;exact⟨o,e,λv z=>by rw[d] at z;cases z⟩
 keep:=λi h h' st k=>st.at λo e=>k it (by simp) o e
 item:=by
  intro X hP hw hK hc i π s σ H E I hf st hg;subst hP hw hK;obtain⟨xs,x,hq,hx⟩:=hg;obtain⟨its,rv,p,hz⟩:=I.tuple hq;obtain⟨u,hu,ru⟩:=rv.get hx;obtain⟨f0,f1,f2,f3,f4,f5⟩:=hf it (by simp);refine wpAny_pyNext_tuple_item st (show s.heap.IsTuple a its.toArray from p) (x:=u) (by simpa using hu) λh' st' sb=>?_;have I1:aH X π σ H { s with heap:=h' }:=I.turned (t':=s.toks) (λb o hb e=>(sb.2 b hb).trans e) f0 f1 f3 f4 f5;obtain⟨o,e,c,d⟩:=id st';exact⟨u,rfl,lN (s:={ s with heap:=h' }) e c d (by decide) ⟨x,H,I1,ru,⟨rfl,λys hy=>by rw[I.tuple_inj hy hq];exact hx⟩,st',λb hb=>(hf b hb).1⟩⟩
 done:=by
  intro X hP hw hK hc i π s σ H E I hf st hg;subst hP hw hK;obtain⟨xs,hq,hx⟩:=hg;obtain⟨its,rv,p,hz⟩:=I.tuple hq;obtain⟨f0,f1,f2,f3,f4,f5⟩:=hf it (by simp);have hl:=rv.length;exact wpAny_pyNext_tuple_end (I.ok.hd hc) st (show s.heap.IsTuple a its.toArray from p) (by simp;(clear hz f3;lia)) λh' eb=>⟨rfl,I.turned (t':=s.toks) (λb o hb e=>eb b o hb e) f0 f1 f3 f4 f5⟩
 self:=λ_ _ _ _ _ st h=>wpAny_pyIter_tupleiter st h
theorem n9 {tg:Expr} (it:Addr) (lo:Int) (n:Nat):lM P w K tg (DS lo n) [it] it (λi h=>IsRangeIter h it (lo+(i:Nat)*1) ((n:Int)- (i:Nat)) 1) where
 mem:=by simp
 obj:=λi h st b hb=>by
  have e:b=it:=by simpa using hb
  subst e;exact⟨_,st,λv z=>by
   have z':Data.fields _=Data.cell v:=z;cases z'⟩
 keep:=λi h h' st k=>k it (by simp) _ st
 item:=by
  intro X hP hw hK hc i π s σ H E I hf st hg;subst hP hw hK;obtain⟨f0,f1,f2,f3,f4,f5⟩:=hf it (by simp);have W:=Walks.range (prog:=X.prog) (w:=X.w) (I.ok.hd hc) it lo 1 n;refine W.item i s _ _ hg st λv h' tk hv st' kk=>?_;obtain⟨t,rfl⟩:=hv;have I1:aH X π σ H { s with heap:=h',toks:=tk }:=I.turned (λb o hb e=>kk b o (by simpa using hb) e) f0 f1 f3 f4 f5;refine⟨_,rfl,lN (s:={ s with heap:=h',toks:=tk }) (n:="range_iterator") st' rfl rfl (by decide) ⟨.int (lo+i),H,I1,⟨t,?_⟩,⟨rfl,rfl⟩,st',λb hb=>(hf b hb).1⟩⟩;rw[Int.mul_one]
 done:=by
  intro X hP hw hK hc i π s σ H E I hf st hg;subst hP hw hK;obtain⟨f0,f1,f2,f3,f4,f5⟩:=hf it (by simp);exact wpAny_pyNext_range_end (I.ok.hd hc) st (by have:n<=i:=hg;(clear f3;lia)) λh' eb=>⟨rfl,I.turned (t':=s.toks) (λb o hb e=>eb b o hb e) f0 f1 f3 f4 f5⟩
 self:=λ_ _ _ _ _ st h=>wpAny_pyIter_rangeiter st h
section
variable {X:Cx} {tg:Expr}
theorem sH {σ:St} {H:Hp} {R:It->Hp->Prop} {lo hi:Int} {t u v:Tok} {tk:Nat} (I:aH X π σ H s) (h1: -(2^62)<=lo) (h2:lo<2^62) (h3: -(2^62)<=hi) (h4:hi<2^62)
 (q:R (DS lo (hi-lo).toNat) H):wpAny (model X.prog X.w) X.A (pyIter (.ref s.heap.objs.size)) (Gs X π σ tg R) E { s with heap:=s.heap.push { cls:= .type "range",data:= .fields #[.int lo t,.int hi u,.int 1 v] },toks:=tk }:=by
 refine wpAny_pyIter_range (IsRange.new ..) (small_one h1 h2 h3 h4) ?_;have I1:aH X π σ H { s with heap:=s.heap.push { cls:= .type "range",data:= .fields #[.int lo t,.int hi u,.int 1 v] },toks:=tk }:=I.kept λb o e=>ybz _ e;refine⟨(s.heap.push { cls:= .type "range",data:= .fields #[.int lo t,.int hi u,.int 1 v] }).objs.size,[(s.heap.push { cls:= .type "range",data:= .fields #[.int lo t,.int hi u,.int 1 v] }).objs.size],_,_,H,rfl,
  I1.kept (t':=tk) λb o e=>ybz _ e,n9 _ lo (hi-lo).toNat,?_,λb hb=>?_,q⟩
 ·have e1:lo+((0:Nat):Int)*1=lo:=by simp
  have e2:(((hi-lo).toNat:Nat):Int)- ((0:Nat):Int)=Builtin.Range.rangeSize lo hi 1:=by rw[rangeSize_one];split<;> (clear h1 h2 h3 h4 e1;lia)
  show IsRangeIter _ _ (lo+((0:Nat):Int)*1) ((((hi-lo).toNat:Nat):Int)- ((0:Nat):Int)) 1;rw[e1,e2];exact ybw _ rfl
 ·have e:b=(s.heap.push { cls:= .type "range",data:= .fields #[.int lo t,.int hi u,.int 1 v] }).objs.size:=by simpa using hb
  subst e;exact I1.fpOk (ycx _) (I1.hok.fresh (ycx _))
noncomputable def Bm (ta:TA):TI:=λσ H R=>ta σ H λvs H1=>∃j:Int,vs=[.int j]/\-(2^62)<=j/\j<2^62/\R (DS 0 j.toNat) H1
theorem qS {a:Expr} {ta:TA} {p pos:Pos} (hg:Gl X "range") (hm:X.mg "range"=none) (ha:PA X [a] ta) (hs:starEach [a] X.env=[(false,eval a X.env)]:=by rfl):PI X tg (.Call (.Name "range" p) [a] [] pos) (Bm ta):=by
 intro π s σ H R I h;refine Call_ (hV I hg hm boot_range (PyProof.Rows.callWith_type1 (ci (ha pos π s σ H _ I h) λus s1 z9=>?_) hs rfl));obtain⟨vs,H1,I1,r1,q1⟩:=z9;obtain⟨j,e,q1,q2,q⟩:=q1;subst e;cases r1 with
 | cons r rr=>
   cases rr;obtain⟨t,rfl⟩:=r;exact call_range_1 (sH I1 (by (clear q1 q2;lia)) (by (clear q1 q2;lia)) q1 q2 (by simpa using q))
noncomputable def Ef (wi:TI) (g:TG) (tb:TS):TS:=λD σ H=>wi σ H λJ H1=>∃W:Nat->Nat->St->Hp->Prop,(∃m,W 0 m σ H1)/\∀i m σ H,W i m σ H->
 (J.stop i H/\D.nx σ H)∨(J.go i H/\∃N:St->Hp->Prop,(∀σ' H',N σ' H'->∃m',m'<m/\W (i+1) m' σ' H')/\∀x H',J.yld i H x H'->g x σ H' λσ2 H2=>tb { D with nx:=N,ct:=N,bk:=D.nx } σ2 H2)
noncomputable def iX (fp:List Addr) (h:Heap):List (Addr×Obj):=fp.filterMap λb=>(h.get? b).map λo=>(b,o)
theorem dJ {fp:List Addr} {h:Heap} {b:Addr} {o:Obj} (hb:b∈fp) (e:h.get? b=some o):(b,o)∈iX fp h:=List.mem_filterMap.mpr ⟨b,hb,by rw[e];rfl⟩
theorem qU {fp:List Addr} {h:Heap} {p:Addr×Obj} (hp:p∈iX fp h):p.1∈fp/\h.get? p.1=some p.2:=by
 obtain⟨b,hb,e⟩:=List.mem_filterMap.mp hp;cases q:h.get? b with
 | none=>rw[q] at e;cases e
 | some o=>
   rw[q] at e;have e':(b,o)=p:=Option.some.inj e;subst e';exact⟨hb,q⟩
theorem aH.pinned {σ:St} {H:Hp} {fp:List Addr} (I:aH X π σ H s) (hf:∀b∈fp,kD X π H b) (ho:∀b∈fp,∃o,s.heap.get? b=some o/\∀v,o.data≠ .cell v):aH X (π++iX fp s.heap) σ H s:=
 I.pins_of λp hp=>(mem_append.mp hp).elim (λz=>I.pin p (yex _ z)) λz=>by
  obtain⟨hb,e⟩:=qU z;obtain⟨f0,f1,f2,_⟩:=hf p.1 hb;obtain⟨o,e',d⟩:=ho p.1 hb;rw[e] at e';cases e';exact⟨e,f0,f1,f2,d⟩
theorem aH.unpinned {π pl:List (Addr×Obj)} {σ:St} {H:Hp} (I:aH X (π++pl) σ H s):aH X π σ H s:=I.pins_of λp hp=>I.pin p (yex _ (mem_append_left _ hp))
theorem zd {iter:Expr} {wi:TI} {g:TG} {tb:TS} (hp:PassesOwn (model X.prog X.w) X.A X.env X.xe) (hc:X.calm=true) (hi:PI X tg iter wi) (hg:PG X tg g) (hb:lF X body tb)
 (hs:∀x,foldedSetIterable iter X.env x=pure x:=by intro _;rfl):PS X (.For tg iter body [] pos) (Ef wi g tb):=by
 intro π s σ H D I h;refine wpAny_For (ci (hi π s σ H _ I h) λv s1 h1=>ci h1 λitv s2 h2=>?_) hs;obtain⟨it,fp,tn,J,H2,e,I2,T,st2,f2,W,⟨m0,w0⟩,turn⟩:=h2;subst e
 -- what stays true of the iterator's objects through the loop
 have stat:∀{H':Hp},(∀b∈fp,H' b=none)->∀b∈fp,kD X π H' b:=λhn b hb=>⟨hn b hb,(f2 b hb).2⟩;refine codeAny_forLoop_any (λn s'=>∃i σ' H',aH X π σ' H' s'/\tn i s'.heap/\(∀b∈fp,H' b=none)/\W i n σ' H') ?_ m0 ⟨0,σ,H2,I2,st2,λb hb=>(f2 b hb).1,w0⟩;rintro n s3 ⟨i,σ3,H3,I3,st3,fr3,w3⟩;rcases turn i n σ3 H3 w3 with⟨stop,qn⟩ | ⟨go,N,hN,step⟩
 ·refine wpAny_passesOwn hp (ci (T.done X rfl rfl rfl hc i π s3 σ3 H3 X.xe I3 (stat fr3) st3 stop) λr s4 z9=>?_);obtain⟨hr,I4⟩:=z9;subst hr;exact wpAny_execs_nil ⟨σ3,H3,I4,qn⟩
 ·refine wpAny_passesOwn hp (ci (T.item X rfl rfl rfl hc i π s3 σ3 H3 X.xe I3 (stat fr3) st3 go) λr s4 z9=>?_);obtain⟨u,hr,h4⟩:=z9;subst hr;refine wpAny_passesOwn hp (ci h4 λ_ s5 z9=>?_);obtain⟨x,H5,I5,r5,y5,st5,fr5⟩:=z9;have I5':=I5.pinned (stat fr5) (T.obj _ _ st5);refine wpAny_passesOwn hp (ci (hg _ s5 σ3 H5 x u _ I5' r5 (step x H5 y5)) λ_ s6 z9=>?_);obtain⟨σ6,H6,I6,q6⟩:=z9;refine wpAny_passesOwn hp (ci (hb _ s6 σ6 H6 _ I6 q6) λf s7 q7=>?_);have again:∀{σ7:St} {H7:Hp},aH X (π++iX fp s5.heap) σ7 H7 s7->N σ7 H7->∃m,m<n/\∃i σ' H',aH X π σ' H' s7/\tn i s7.heap/\(∀b∈fp,H' b=none)/\W i m σ' H':=λ{σ7 H7} I7 n7=>by
   obtain⟨m',hm,w7⟩:=hN σ7 H7 n7;refine⟨m',hm,i+1,σ7,H7,I7.unpinned,T.keep _ _ _ st5 λb hb o e=>(I7.pin (b,o) (yex _ (yex _ (dJ hb e)))).1,λb hb=>?_,w7⟩;obtain⟨o,e,d⟩:=T.obj _ _ st5 b hb;exact(I7.pin (b,o) (yex _ (yex _ (dJ hb e)))).2.1
  cases f with
  | next=>obtain⟨σ7,H7,I7,n7⟩:=q7;exact again I7 n7
  | cont=>obtain⟨σ7,H7,I7,n7⟩:=q7;exact again I7 n7
  | brk=>obtain⟨σ7,H7,I7,q7⟩:=q7;exact⟨σ7,H7,I7.unpinned,q7⟩
  | ret v=>obtain⟨x7,σ7,H7,I7,r7,q7⟩:=q7;exact⟨x7,σ7,H7,I7.unpinned,r7,q7⟩
end
noncomputable abbrev R2:=V->V->Hp->VK->Prop
noncomputable def gA (X:Cx) (f:Value->Value->Sem Value) (r:R2):Prop:=
 ∀(π:List (Addr×Obj)) (s:Shared) (σ:St) (H:Hp) (x y:V) (v u:Value) (Q:VK),aH X π σ H s->bn x v->bn y u->r x y H Q->
  wpAny (model X.prog X.w) X.A (f v u) (EP X π σ Q) X.xe s
noncomputable def Eg (X:Cx) (f:Value->Sem Value) (r:V->Hp->VK->Prop):Prop:=
 ∀(π:List (Addr×Obj)) (s:Shared) (σ:St) (H:Hp) (x:V) (v:Value) (Q:VK),aH X π σ H s->bn x v->r x H Q->
  wpAny (model X.prog X.w) X.A (f v) (EP X π σ Q) X.xe s
noncomputable def fV (X:Cx) (f:Value) (r:List V->Hp->VK->Prop):Prop:=
 ∀(π:List (Addr×Obj)) (s:Shared) (σ:St) (H:Hp) (xs:List V) (us:yez) (Q:VK),aH X π σ H s->aT xs us->r xs H Q->
  wpAny (model X.prog X.w) X.A (call f us) (EP X π σ Q) X.xe s
noncomputable def Bn (r:R2) (ta tb:TE):TE:=λσ H Q=>ta σ H λx H1=>tb σ H1 λy H2=>r x y H2 Q
noncomputable def GL (r:V->Hp->VK->Prop) (ta:TE):TE:=λσ H Q=>ta σ H λx H1=>r x H1 Q
noncomputable def rI (C:Int->Int->Prop) (g:Int->Int->V):R2:=λx y H Q=>∃i j,x=.int i/\y=.int j/\C i j/\Q (g i j) H
noncomputable def vG (g:Int->Int->V):R2:=λx y H Q=>∃i j,x=.int i/\y=.int j/\Q (g i j) H
noncomputable def rU (g:Int->V):V->Hp->VK->Prop:=λx H Q=>∃i,x=.int i/\Q (g i) H
section
variable {X:Cx} {a b c:Expr} {ta tb tc:TE} {pos:Pos}
theorem ze (ha:PE X a ta) (hb:PE X b tb) {σ:St} {H:Hp} {R:V->V->Hp->Prop} (I:aH X π σ H s)
 (h:ta σ H λx H1=>tb σ H1 λy H2=>R x y H2) {Q:yey} {f:Value->Value->Sem Value}
 (hf:∀v u s2 x y H2,aH X π σ H2 s2->bn x v->bn y u->R x y H2->wpAny (model X.prog X.w) X.A (f v u) Q X.xe s2):
 wpAny (model X.prog X.w) X.A (eval a X.env) (λv s₁=>wpAny (model X.prog X.w) X.A (eval b X.env) (λu s₂=>wpAny (model X.prog X.w) X.A (f v u) Q X.xe s₂) X.xe s₁) X.xe s:=by
 refine ci (ha π s σ H _ I h) λv s1 z9=>?_;obtain⟨x,H1,I1,r1,q1⟩:=z9;refine ci (hb π s1 σ H1 _ I1 q1) λu s2 z9=>?_;obtain⟨y,H2,I2,r2,q2⟩:=z9;exact hf v u s2 x y H2 I2 r1 r2 q2
theorem Bo {op:Operator} {r:R2} (ho:gA X (binaryOp op) r) (ha:PE X a ta) (hb:PE X b tb):PE X (.BinOp a op b pos) (Bn r ta tb):=by
 intro π s σ H Q I h;exact wpAny_BinOp (ze ha hb I h λv u s2 x y H2 I2 rx ry q=>ho π s2 σ H2 x y v u Q I2 rx ry q)
theorem Bp {op:UnaryOp} {r:V->Hp->VK->Prop} (ho:Eg X (unaryOp op) r) (ha:PE X a ta):PE X (.UnaryOp op a pos) (GL r ta):=by
 intro π s σ H Q I h;exact UnaryOp_ (ci (ha π s σ H _ I h) λv s1 ⟨x,H1,I1,r1,q1⟩=>ho π s1 σ H1 x v Q I1 r1 q1)
theorem DT {f:Value->Value->Sem Value} {C:Int->Int->Prop} {g:Int->Int->Int}
 (rule:∀(i j:Int) (t u:Tok) (s:Shared) (Q:yey) (E:yey),C i j->Q (.int (g i j) s.toks) { s with toks:=s.toks+1 }->wpAny (model X.prog X.w) X.A (f (.int i t) (.int j u)) Q E s):
 gA X f (rI C λi j=> .int (g i j)):=by
 intro π s σ H x y v u Q I rx ry h;obtain⟨i,j,rfl,rfl,hc,q⟩:=h;obtain⟨t,rfl⟩:=rx;obtain⟨t',rfl⟩:=ry;exact rule i j t t' s _ _ hc ⟨.int (g i j),H,I.tok _,⟨_,rfl⟩,q⟩
theorem Bq {f:Value->Value->Sem Value} {g:Int->Int->Int}
 (rule:∀(i j:Int) (t u:Tok) (s:Shared) (Q:yey) (E:yey),Q (.int (g i j) s.toks) { s with toks:=s.toks+1 }->wpAny (model X.prog X.w) X.A (f (.int i t) (.int j u)) Q E s):
 gA X f (vG λi j=> .int (g i j)):=by
 intro π s σ H x y v u Q I rx ry h;obtain⟨i,j,rfl,rfl,q⟩:=h;obtain⟨t,rfl⟩:=rx;obtain⟨t',rfl⟩:=ry;exact rule i j t t' s _ _ ⟨.int (g i j),H,I.tok _,⟨_,rfl⟩,q⟩
theorem vH {f:Value->Value->Sem Value} {g:Int->Int->Bool}
 (rule:∀(i j:Int) (t u:Tok) (s:Shared) (Q:yey) (E:yey),Q (.bool (g i j)) s->wpAny (model X.prog X.w) X.A (f (.int i t) (.int j u)) Q E s):
 gA X f (vG λi j=> .bl (g i j)):=by
 intro π s σ H x y v u Q I rx ry h;obtain⟨i,j,rfl,rfl,q⟩:=h;obtain⟨t,rfl⟩:=rx;obtain⟨t',rfl⟩:=ry;exact rule i j t t' s _ _ ⟨.bl (g i j),H,I,rfl,q⟩
noncomputable def Br (i j:Int):Prop:=0<j/\j<1073741824
noncomputable def zg (i j:Int):Prop:=0<=j/\j<=1000000/\i.natAbs<2^64
noncomputable def vI (i j:Int):Prop:=(-(2^64)<i/\i<2^64)∨(-(2^64)<j/\j<2^64)
theorem vI.ok {i j:Int} (h:vI i j):IntMulOk i j:=by
 rcases h with⟨h1,h2⟩ | ⟨h1,h2⟩
 ·exact .of_left (intBits_le_64 h1 h2)
 ·exact .of_right (intBits_le_64 h1 h2)
theorem zh:gA X (binaryOp .Add) (vG λi j=> .int (i+j)):=Bq λ_ _ _ _ _ _ _ q=>add_int q
theorem zk:gA X (binaryOp .Sub) (vG λi j=> .int (i-j)):=Bq λ_ _ _ _ _ _ _ q=>sub_int q
theorem zm:gA X (binaryOp .Mod) (rI (λ_ j=>0<j) λi j=> .int (i%j)):=DT λi j _ _ _ _ _ hc q=>by
 have h1:(0:Int)<j:=hc;exact mod_int' (by (clear h1;lia)) (by rw[Int.fmod_eq_emod_of_nonneg i (by (clear h1;lia))];exact q)
theorem GM {f:Value->Sem Value} {g:Int->Int}
 (rule:∀(i:Int) (t:Tok) (s:Shared) (Q:yey) (E:yey),Q (.int (g i) s.toks) { s with toks:=s.toks+1 }->wpAny (model X.prog X.w) X.A (f (.int i t)) Q E s):
 Eg X f (rU λi=> .int (g i)):=by
 intro π s σ H x v Q I rx h;obtain⟨i,rfl,q⟩:=h;obtain⟨t,rfl⟩:=rx;exact rule i t s _ _ ⟨.int (g i),H,I.tok _,⟨_,rfl⟩,q⟩
theorem zn:Eg X (unaryOp .USub) (rU λi=> .int (-i)):=GM λ_ _ _ _ _ q=>neg_int q
end
section
variable {X:Cx} {a b c:Expr} {ta tb tc:TE} {pos:Pos}
theorem sI {σ:St} {H:Hp} {Q:VK} {k k':Bool} (I:aH X π σ H s) (q:Q (.bl k) H) (e:k=k'):EP X π σ Q (.bool k') s:=by
 subst e;exact⟨.bl k,H,I,rfl,q⟩
theorem Bs:gA X (compareOp .Lt) (vG λi j=> .bl (decide (i<j))):=vH λ_ _ _ _ _ _ _ q=>lt_int q
theorem Bt:gA X (compareOp .LtE) (vG λi j=> .bl (decide (i<=j))):=vH λ_ _ _ _ _ _ _ q=>le_int q
theorem Bu:gA X (compareOp .Gt) (vG λi j=> .bl (decide (j<i))):=vH λ_ _ _ _ _ _ _ q=>gt_int q
theorem Bv:gA X (compareOp .GtE) (vG λi j=> .bl (decide (j<=i))):=vH λ_ _ _ _ _ _ _ q=>ge_int q
theorem zo:gA X (compareOp .Is) (λx y H Q=>y=.non/\Q (.bl (decide (x=.non))) H):=by
 intro π s σ H x y v u Q I rx ry h;obtain⟨rfl,q⟩:=h;cases ry;refine is_none_gen (sI I q ?_);cases x<;> first
  | (cases rx;rfl)
  | (obtain⟨t,rfl⟩:=rx;rfl)
theorem vJ:gA X (compareOp .IsNot) (λx y H Q=>y=.non/\Q (.bl (!decide (x=.non))) H):=by
 intro π s σ H x y v u Q I rx ry h;obtain⟨rfl,q⟩:=h;cases ry;refine isnot_none_gen (sI I q ?_);cases x<;> first
  | (cases rx;rfl)
  | (obtain⟨t,rfl⟩:=rx;rfl)
theorem sJ (b:Expr) {op:CmpOp} (h:op≠ .In:=by decide) (h2:op≠ .NotIn:=by decide):behindInMarks op b=false:=by
 have e1:(op==CmpOp.In)=false:=by cases op<;> first | rfl | exact absurd rfl h
 have e2:(op==CmpOp.NotIn)=false:=by cases op<;> first | rfl | exact absurd rfl h2
 cases b<;> simp[behindInMarks,e1,e2]
theorem vK {op:CmpOp} {r:R2} (ho:gA X (compareOp op) r) (ha:PE X a ta) (hb:PE X b tb) (hm:behindInMarks op b=false):PE X (.Compare a [op] [b] pos) (Bn r ta tb):=by
 intro π s σ H Q I h;exact wpAny_Compare1 (ze ha hb I h λv u s2 x y H2 I2 rx ry q=>ho π s2 σ H2 x y v u Q I2 rx ry q) hm
noncomputable def sK (t:TE):TT:=λσ H Q=>t σ H λx H'=>∃k,x=.bl k/\Q k H'
theorem vL {op:CmpOp} {r:R2} (ho:gA X (compareOp op) r) (ha:PE X a ta) (hb:PE X b tb) (hm:behindInMarks op b=false):PT X (.Compare a [op] [b] pos) (sK (Bn r ta tb)):=by
 intro π s σ H Q I h;refine wpAny_isTrue_Compare1 (ci (ha π s σ H _ I h) λv s1 ⟨x,H1,I1,r1,q1⟩=>ci (hb π s1 σ H1 _ I1 q1) λu s2 ⟨y,H2,I2,r2,q2⟩=>
  ci (ho π s2 σ H2 x y v u _ I2 r1 r2 q2) λc s3 ⟨z,H3,I3,r3,k,e,q3⟩=>?_) hm
 subst e;cases r3;exact wpAny_truthy_bool ⟨H3,I3,q3⟩
noncomputable def oa (r r':R2) (ta tb tc:TE):TE:=λσ H Q=>ta σ H λx H1=>tb σ H1 λy H2=>r x y H2 λz H3=>∃k,z=.bl k/\
 (if k=true then tc σ H3 λw' H4=>r' y w' H4 Q else Q (.bl false) H3)
theorem sL {op op':CmpOp} {r r':R2} (ho:gA X (compareOp op) r) (ho':gA X (compareOp op') r') (ha:PE X a ta) (hb:PE X b tb) (hc:PE X c tc)
 (hm:lastMarks [op,op'] [b,c]=false:=by with_unfolding_all rfl):PE X (.Compare a [op,op'] [b,c] pos) (oa r r' ta tb tc):=by
 intro π s σ H Q I h;refine Compare_chain (ci (ha π s σ H _ I h) λv s1 ⟨x,H1,I1,r1,q1⟩=>chain_link (ci (hb π s1 σ H1 _ I1 q1) λu s2 ⟨y,H2,I2,r2,q2⟩=>
  ci (ho π s2 σ H2 x y v u _ I2 r1 r2 q2) λd s3 ⟨z,H3,I3,r3,k,e,q3⟩=>?_)) hm
 subst e;cases r3;refine wpAny_truthy_bool ?_;cases k with
 | false=>exact ite_ff ⟨.bl false,H3,I3,rfl,q3⟩
 | true=>exact ite_tt (chain_last (ci (hc π s3 σ H3 _ I3 q3) λw' s4 ⟨z',H4,I4,r4,q4⟩=>ho' π s4 σ H4 y z' u w' Q I4 r2 r4 q4))
theorem sM {op op':CmpOp} {r r':R2} (ho:gA X (compareOp op) r) (ho':gA X (compareOp op') r') (ha:PE X a ta) (hb:PE X b tb) (hc:PE X c tc)
 (hm:lastMarks [op,op'] [b,c]=false:=by with_unfolding_all rfl):PT X (.Compare a [op,op'] [b,c] pos) (sK (oa r r' ta tb tc)):=by
 intro π s σ H Q I h;refine isTrue_chain (ci (ha π s σ H _ I h) λv s1 ⟨x,H1,I1,r1,q1⟩=>test_link (ci (hb π s1 σ H1 _ I1 q1) λu s2 ⟨y,H2,I2,r2,q2⟩=>
  ci (ho π s2 σ H2 x y v u _ I2 r1 r2 q2) λd s3 ⟨z,H3,I3,r3,k,e,q3⟩=>?_)) hm
 subst e;cases r3;refine wpAny_truthy_bool ?_;cases k with
 | false=>
   obtain⟨k',e',q'⟩:=q3;cases e';exact ite_ff ⟨H3,I3,q'⟩
 | true=>
   refine ite_tt (test_last (ci (hc π s3 σ H3 _ I3 q3) λw' s4 ⟨z',H4,I4,r4,q4⟩=>ci (ho' π s4 σ H4 y z' u w' _ I4 r2 r4 q4) λd' s5 z9=>?_));obtain⟨z2,H5,I5,r5,k2,e2,q5⟩:=z9;subst e2;cases r5;exact wpAny_truthy_bool ⟨H5,I5,q5⟩
theorem iY:(sizeLine:Nat)<2^63:=by rw[sizeLine_eq];decide
theorem og:gA X (binaryOp .Add) (λx y H Q=>∃i j,x=.str i/\y=.str j/\i.length+j.length<=sizeLine/\Q (.str (i++j)) H):=by
 intro π s σ H x y v u Q I rx ry h;obtain⟨i,j,rfl,rfl,hz,q⟩:=h;obtain⟨t,rfl⟩:=rx;obtain⟨t',rfl⟩:=ry;exact add_str (λt' tk=>⟨.str (i++j),H,I.tok _,⟨_,rfl⟩,q⟩) hz
theorem dZ {x:V} (r:aT [x] us):∃u,us=[u]/\bn x u:=by
 cases r with
 | cons r1 r2=>cases r2;exact⟨_,rfl,r1⟩
theorem sN {x y:V} (r:aT [x,y] us):∃u w',us=[u,w']/\bn x u/\bn y w':=by
 cases r with
 | cons r1 r2=>
   cases r2 with
   | cons r3 r4=>cases r4;exact⟨_,_,rfl,r1,r3⟩
theorem qV (hc:X.calm=true):fV X (.builtin "max") (λxs H Q=>∃i j,xs=[.int i,.int j]/\Q (.int (if j > i then j else i)) H):=by
 intro π s σ H xs us Q I r h;obtain⟨i,j,rfl,q⟩:=h;obtain⟨u,w',rfl,⟨t,rfl⟩,⟨t',rfl⟩⟩:=sN r;refine max_two_ints (I.ok.hd hc) λh' tk k=>⟨_,H,I.kept k,?_,q⟩
 by_cases hj:j > i
 ·rw[ycv hj,ycv hj];exact⟨_,rfl⟩
 ·rw[ycw hj,ycw hj];exact⟨_,rfl⟩
theorem jN:fV X (.type "int") (λxs H Q=>(∃i,xs=[.int i]/\Q (.int i) H)∨∃k,xs=[.bl k]/\Q (.int (if k then 1 else 0)) H):=by
 intro π s σ H xs us Q I r h;rcases h with⟨i,rfl,q⟩ | ⟨k,rfl,q⟩
 ·obtain⟨u,rfl,t,rfl⟩:=dZ r;exact call_int_int ⟨.int i,H,I,⟨_,rfl⟩,q⟩
 ·obtain⟨u,rfl,r1⟩:=dZ r;cases r1;exact call_int_bool ⟨.int (if k then 1 else 0),H,I.tok _,⟨_,rfl⟩,q⟩
end
structure oh (h:Heap) (x dx C:Addr) (mA:yew):Prop where
 obj:h.get? x=some (instObj C dx)
 ns:h.Ns1 dx mA
 ne:dx≠x
theorem qW {h:Heap} {dx:Addr} {mA:yew} (n:h.Ns1 dx mA):∃od,h.get? dx=some od/\∀name,lookIn name od=some (mA name):=by
 obtain⟨o,es,ep,ho,hd,hk,_,hm⟩:=n;refine⟨o,ho,λname=>?_⟩;have e:=hm name;unfold nsFind findBy at e;rw[←Array.find?_toList] at e;unfold lookIn;rw[hd];dsimp only;split
 ·rename_i y q;rw[q] at e;exact congrArg some e
 ·rename_i q;rw[q] at e;have a:es.toList.any (·.refKey)=false:=by
   rw[List.any_eq_false];intro y hy;obtain⟨z,t,hkey⟩:=hk y (Array.mem_toList_iff.mp hy);simp[DictEntry.refKey,hkey]
  have a':¬es.toList.any (·.refKey)=true:=by rw[a];exact ydx
  rw[ycw a'];exact congrArg some e
theorem oh.look {h:Heap} {x dx C:Addr} {mA:yew} (I:oh h x dx C mA):∃od,PySem.W.InstAt h x (instObj C dx) C (some od)/\∀name,lookIn name od=some (mA name):=
 let ⟨od,ho,hl⟩:=qW I.ns
 ⟨od,⟨I.obj,rfl,rfl,ho⟩,hl⟩
section
variable {prog:Program} {w:World} {A:Around} {E:yey} {s:Shared} {K:yav} {x dx C f:Addr} {mA:yew} {name:Str} {v:Value}
theorem vM {expr:Bool} (X:K.In s.heap) (I:oh s.heap x dx C mA) (hg:plainGet K C name=true) (hh:hasDictIn K C=true)
 (ha:findIn K (.ref C) name=some none) (hv:mA name=some v) (hv':PySem.W.handedIn v=true) (h:Q v { s with toks:=s.toks+1 }):
 wpAny (model prog w) A (getAttr (.ref x) name expr) Q E s:=by
 obtain⟨od,J,hl⟩:=I.look;exact PySem.W.get_value X J (PySem.W.plainGet_of hg).1 (PySem.W.findObj_own hh ha rfl (by rw[hl,hv])) hv' h
theorem sO {pl:Sem Bool} {Q:Value×List Value->Shared->Prop} (X:K.In s.heap) (I:oh s.heap x dx C mA) (hg:plainGet K C name=true)
 (hf:findIn K (.ref C) name=some (some (.ref f))) (ht:isFn K (.ref f)=true) (hv:mA name=none) (h:Q (.ref f,[.ref x]) s):
 wpAny (model prog w) A (getMethod (.ref x) name pl) Q E s:=by
 obtain⟨od,J,hl⟩:=I.look;exact PySem.W.method_fn X J (PySem.W.plainGet_of hg).1 (PySem.W.plainGet_of hg).2 hf (beq_iff_eq.mp ht) (by show(lookIn name od).map (·.isSome)=some false;rw[hl,hv];rfl) h
theorem vN {ns:List Str} {Q:Unit->Shared->Prop} (X:K.In s.heap) (I:oh s.heap x dx C mA)
 (hs:findIn K (.ref C) "__setattr__"=some (some (.builtin "object.__setattr__"))) (hp:PySem.W.plainOver K C=true) (ht:PySem.W.takerIn K C name=some none) (hh:hasDictIn K C=true)
 (hw:PySem.Within mA ns) (hsz:ns.length<=sizeLine)
 (h:∀h',oh h' x dx C (λy=>if y=name then some v else mA y)->Heap.SameBut dx s.heap h'->Q () { s with heap:=h',toks:=s.toks+2 }):
 wpAny (model prog w) A (setAttr (.ref x) name v) Q E s:=by
 obtain⟨od,J,hl⟩:=I.look;refine PySem.W.set_plain X J hs (PySem.W.osa_open (s:={ s with toks:=s.toks+1 }) (r:=none) X J hp ht λb=>?_);obtain⟨cd,hc,hd'⟩:=PySem.W.any_some hh;have hx:s.heap.get? x=some ⟨.ref C,some dx,.plain,#[]⟩:=I.obj;refine wax (wpAny_pure (wax (wax (wpAny_loadPart hx (wax (PySem.W.Looks.here (s:={ s with toks:=s.toks+1 }) (PySem.W.looks_clsIn X hc) ?_))))));rw[hd'];refine wpAny_pure (a:=some dx) (wax (wpAny_pure (wax ?_)));refine wpAny_nsSet1 (s:={ s with toks:=s.toks+1 }) I.ns λh' hn2 hs2=>?_;obtain⟨oD,esD,epD,hoD,hdD,hcD⟩:=hn2.count (PySem.Within.cons name v hw);refine wax (wpAny_lookBehind hoD (by rw[hdD];exact pastItsLine_dict (ycy hcD (by rw[length_cons];(clear hcD;lia)))) ?_);exact wpAny_pure (h _ ⟨(hs2.2 _ (Ne.symm I.ne)).trans I.obj,hn2,I.ne⟩ hs2)
theorem sP {R:Result->Shared->Prop} {vs:yez} {kw:List (Str×Value)} (X:K.In s.heap) (hm:PySem.W.makesIn K C=true)
 (hi:findIn K (.ref C) "__init__"=some (some (.ref f))) (hf:typeIn K (.ref f)=some (.type "function"))
 (h:codeAny (model prog w) (A.under (.builtin "type.__call__" ⟨.ref C::vs,kw⟩)) (.call (.ref f) ⟨.ref (s.heap.objs.size+1)::vs,kw⟩) (PySem.W.InitBack (s.heap.objs.size+1) R)
   { s with heap:=(s.heap.push emptyDict).push (instObj C s.heap.objs.size) }):
 codeAny (model prog w) A (.call (.ref C) ⟨vs,kw⟩) R s:=by
 obtain⟨hh,g,d,t,os⟩:=s;exact PySem.W.make_core (PySem.W.makes_of X hm) (looks_findIn X hi) (λself=>PySem.W.bind_fn X self hf) (.inl rfl) h
end
noncomputable def eB (f:Str) (v:V):List (Str×V)->List (Str×V)
 | []=>[(f,v)]
 | (g,x)::r=>if g=f then (g,v)::r else (g,x)::eB f v r
theorem iw (f g:Str) (v:V):∀fs:List (Str×V),(eB f v fs).lookup g=if g=f then some v else fs.lookup g
 | []=>by
   show List.lookup g [(f,v)]=_
   by_cases h:g=f
   ·have hb:(g==f)=true:=beq_iff_eq.mpr h;simp only[List.lookup,hb,ycv h]
   ·have hb:(g==f)=false:=beq_eq_false_iff_ne.mpr h;simp only[List.lookup,hb,ycw h]
 | (k,x)::r=>by
   have ih:=iw f g v r;rw[show eB f v ((k,x)::r)=(if k=f then (k,v)::r else (k,x)::eB f v r) from rfl]
   by_cases hk:k=f
   ·rw[ycv hk]
    by_cases h:g=k
    ·have hb:(g==k)=true:=beq_iff_eq.mpr h;simp only[List.lookup,hb,ycv (h.trans hk)]
    ·have hb:(g==k)=false:=beq_eq_false_iff_ne.mpr h;simp only[List.lookup,hb,ycw (λe:g=f=>h (e.trans hk.symm))]
   ·rw[ycw hk]
    by_cases h:g=k
    ·have hb:(g==k)=true:=beq_iff_eq.mpr h;simp only[List.lookup,hb,ycw (λe:g=f=>hk (h.symm.trans e))]
    ·have hb:(g==k)=false:=beq_eq_false_iff_ne.mpr h;simp only[List.lookup,hb];exact ih
theorem hW (f:Str) (v:V):∀fs:List (Str×V),f∈(eB f v fs).map (·.1)/\∀g,g∈fs.map (·.1)->g∈(eB f v fs).map (·.1)
 | []=>⟨by simp[eB],λg h=>by simp at h⟩
 | (k,x)::r=>by
   obtain⟨i1,i2⟩:=hW f v r;rw[show eB f v ((k,x)::r)=(if k=f then (k,v)::r else (k,x)::eB f v r) from rfl]
   by_cases hk:k=f
   ·rw[ycv hk];subst hk;exact⟨by simp,λg h=>by simpa using h⟩
   ·rw[ycw hk];refine⟨?_,λg h=>?_⟩
    ·rw[map_cons];exact ybx _ i1
    ·rw[map_cons] at h ⊢;rcases mem_cons.mp h with e | e
     ·exact mem_cons.mpr (.inl e)
     ·exact ybx _ (i2 g e)
theorem iy (f:Str) (v:V):∀fs:List (Str×V),(eB f v fs).length<=fs.length+1
 | []=>by simp[eB]
 | (k,x)::r=>by
   have ih:=iy f v r;rw[show eB f v ((k,x)::r)=(if k=f then (k,v)::r else (k,x)::eB f v r) from rfl]
   by_cases hk:k=f
   ·rw[ycv hk,length_cons,length_cons];(clear ih;lia)
   ·rw[ycw hk,length_cons,length_cons];lia
theorem fP.some_of {v:V} {o:Option Value} (r:fP (some v) o):∃u,o=some u/\bn v u:=by
 cases o with
 | none=>exact(show False from r).elim
 | some u=>exact⟨u,rfl,r⟩
theorem fP.none_of {o:Option Value} (r:fP none o):o=none:=by
 cases o with
 | none=>rfl
 | some u=>exact(show False from r).elim
theorem qX {v:V} (r:bn v u):PySem.W.handedIn u=true:=by
 cases v with
 | non=>cases (show u=Value.none from r);rfl
 | bl b=>cases (show u=Value.bool b from r);rfl
 | int i=>obtain⟨t,e⟩:=(show ∃t,u=Value.int i t from r);cases e;rfl
 | str x=>obtain⟨t,e⟩:=(show ∃t,u=Value.str x t from r);cases e;rfl
 | byt b=>obtain⟨t,e⟩:=(show ∃t,u=Value.bytes b t from r);cases e;rfl
 | flt b=>obtain⟨t,e⟩:=(show ∃t,u=Value.float b t from r);cases e;rfl
 | ref a=>cases (show u=Value.ref a from r);rfl
 | ty n=>cases (show u=Value.type n from r);rfl
section
variable {P:Program} {w:World} {H H':Hp} {h h':Heap} {a C dx:Addr} {fs fs':List (Str×V)}
theorem iK (hok:gz P w H h) (e:H a=some (.ins C dx fs)):∃mA,oh h a dx C mA/\(∀f,fP (fs.lookup f) (mA f))/\PySem.Within mA (fs.map (·.1))/\fs.length<=1000/\H dx=some (.own a):=by
 obtain⟨d,z,ne,ob,mA,n,r,q⟩:=(show ca P w H h a (.ins C dx fs) from hok a _ e);exact⟨mA,⟨ob,n,ne⟩,r,q,z,d⟩
end
structure lG (K:yav) (C:Addr):Prop where
 pg:plainGet K C Str.empty=true
 hd:hasDictIn K C=true
 po:PySem.W.plainOver K C=true
 sa:findIn K (.ref C) "__setattr__"=some (some (.builtin "object.__setattr__"))
theorem lG.get {C:Addr} (c:lG K C) (f:Str):plainGet K C f=true:=c.pg
noncomputable def cP (K:yav) (C:Addr) (f:Str):Prop:=findIn K (.ref C) f=some none
theorem cP.taker {C:Addr} {f:Str} (n:cP K C f):PySem.W.takerIn K C f=some none:=by
 unfold PySem.W.takerIn;rw[show findIn K (.ref C) f=some none from n]
 rfl
structure HU (K:yav) (C:Addr) (f:Str) (v:V) (u:Value):Prop where
 at_:findIn K (.ref C) f=some (some u)
 rel:bn v u
 get:PySem.W.specialIn K u "__get__"=some none
 cp:PySem.W.copiedNames.contains f=false
structure qY (K:yav) (C:Addr) (m:Str) (f:Addr):Prop where
 at_:findIn K (.ref C) m=some (some (.ref f))
 fn:isFn K (.ref f)=true
 kp:keepIn K (.ref f)=true
section
variable {X:Cx} {π:List (Addr×Obj)} {σ:St} {H:Hp} {s:Shared} {a C dx:Addr} {fs:List (Str×V)} {f:Str} {v:V} {A:Around} {E:yey}
theorem oo {b:Bool} (I:aH X π σ H s) (e:H a=some (.ins C dx fs)) (c:lG X.K C) (n:cP X.K C f) (l:fs.lookup f=some v)
 (h:∀u s',aH X π σ H s'->bn v u->Q u s'):wpAny (model X.prog X.w) A (getAttr (.ref a) f b) Q E s:=by
 obtain⟨mA,O,r,_,_,_⟩:=iK I.hok e;obtain⟨u,hu,ru⟩:=fP.some_of (v:=v) (o:=mA f) (by rw[←l];exact r f);exact vM I.kIn O (c.get f) c.hd n hu (qX ru) (h u _ (I.tok _) ru)
theorem iZ {m:Str} {g:Addr} {pl:Sem Bool} {Q:Value×List Value->Shared->Prop} (I:aH X π σ H s) (e:H a=some (.ins C dx fs)) (c:lG X.K C) (k:qY X.K C m g) (l:fs.lookup m=none)
 (h:Q (.ref g,[.ref a]) s):wpAny (model X.prog X.w) A (getMethod (.ref a) m pl) Q E s:=by
 obtain⟨mA,O,r,_,_,_⟩:=iK I.hok e;have hn:mA m=none:=fP.none_of (by rw[←l];exact r m);exact sO I.kIn O (c.get m) k.at_ k.fn hn h
theorem oq {y:V} {Q:Unit->Shared->Prop} (I:aH X π σ H s) (e:H a=some (.ins C dx fs)) (c:lG X.K C) (n:cP X.K C f) (hl:fs.length<1000) (ry:bn y u)
 (h:∀s',aH X π σ (upd H a (.ins C dx (eB f y fs))) s'->Q () s'):wpAny (model X.prog X.w) A (setAttr (.ref a) f u) Q E s:=by
 obtain⟨mA,O,r,wi,_,ho⟩:=iK I.hok e;have hz:(fs.map (·.1)).length<=sizeLine:=by rw[length_map,sizeLine_eq];lia
 refine vN I.kIn O c.sa c.po n.taker c.hd wi hz λh' O' sb=>h _ ?_;have hd:∃o,h'.get? dx=some o:=let ⟨o,_,_,e',_⟩:=O'.ns;⟨o,e'⟩;refine I.write (x:=a) (e:=dx) (by rw[e];exact True.intro) (.inr ho) (λb q hb z=>(sb.2 b hb).trans z) hd ?_;refine⟨by rw[aC O.ne];exact ho,?_,O.ne,O'.obj,_,O'.ns,λg=>?_,λg hg=>?_⟩
 ·have:=iy f y fs;(clear hz;lia)
 ·show fP ((eB f y fs).lookup g) (if g=f then some u else mA g);rw[iw]
  by_cases q:g=f
  ·rw[ycv q,ycv q];exact ry
  ·rw[ycw q,ycw q];exact r g
 ·by_cases q:g=f
  ·rw[q];exact(hW f y fs).1
  ·refine(hW f y fs).2 g (wi g λz=>hg ?_);show(if g=f then some u else mA g)=none;rw[ycw q];exact z
theorem aH.made (I:aH X π σ H s):aH X π σ (upd (upd H s.heap.objs.size (.own (s.heap.objs.size+1))) (s.heap.objs.size+1) (.ins C s.heap.objs.size []))
 { s with heap:=(s.heap.push emptyDict).push (instObj C s.heap.objs.size) }:=by
 have e1:(s.heap.push emptyDict).get? s.heap.objs.size=some emptyDict:=ybw s.heap rfl;have e2:((s.heap.push emptyDict).push (instObj C s.heap.objs.size)).get? (s.heap.objs.size+1)=some (instObj C s.heap.objs.size):=by
  have:=ybw (s.heap.push emptyDict) (o:=instObj C s.heap.objs.size) rfl
  rwa [Heap.size_push] at this
 have e3:(s.heap.push emptyDict).Ns s.heap.objs.size (λ_=>none):=⟨emptyDict,#[],_,e1,rfl,(λe he=>absurd he (by simp)),λ_=>rfl⟩;have I1:=I.laid (a:=s.heap.objs.size) (o:= .own (s.heap.objs.size+1)) (h':=s.heap.push emptyDict) (t':=s.toks) (λb u q=>ybz _ q) (ycx _) ⟨_,e1⟩;refine I1.laid (a:=s.heap.objs.size+1) (o:= .ins C s.heap.objs.size []) (t':=s.toks) (λb u q=>ybz _ q) (Nat.le_of_eq (Heap.size_push _ _)) ?_;have ne:s.heap.objs.size≠s.heap.objs.size+1:=ne_of_lt (Nat.lt_succ_self _);refine⟨by rw[aC ne,ba],zero_le _,ne,e2,λ_=>none,(Heap.Ns1.of_empty e3).at λo q=>ybz _ q,λ_=>True.intro,λy hy=>absurd rfl hy⟩
theorem vO {env:Env} {f:Str} (hb:attributeBase e f env (eval e env)=eval e env)
 (h:wpAny (model prog w) A (eval e env) (λo s₁=>wpAny (model prog w) A (getAttr o f true) Q E s₁) E s):wpAny (model prog w) A (eval (.Attribute e f pos) env) Q E s:=
 Attribute_any_ h (by rw[arm_eval_Attribute,hb])
end
noncomputable def Eh (K:yav) (ta:TE) (f:Str):TE:=λσ H Q=>ta σ H λx H1=>∃a C dx fs v,x=.ref a/\H1 a=some (.ins C dx fs)/\lG K C/\cP K C f/\fs.lookup f=some v/\Q v H1
noncomputable def Ei (K:yav) (ta tv:TE) (f:Str):TS:=λD σ H=>tv σ H λy H1=>ta σ H1 λx H2=>∃a C dx fs,x=.ref a/\H2 a=some (.ins C dx fs)/\lG K C/\cP K C f/\fs.length<1000/\
 D.nx σ (upd H2 a (.ins C dx (eB f y fs)))
section
variable {X:Cx} {o e value:Expr} {f:Str} {pos pos' tpos:Pos} {ta tv:TE}
theorem zq (he:PE X e ta) (hb:attributeBase e f X.env (eval e X.env)=eval e X.env):PE X (.Attribute e f pos) (Eh X.K ta f):=by
 intro π s σ H Q I h;refine vO hb (ci (he π s σ H _ I h) λu s1 z9=>?_);obtain⟨x,H1,I1,rx,a,C,dx,fs,v,ex,ea,c,n,l,q⟩:=z9;subst ex;obtain rfl:u=Value.ref a:=rx;exact oo I1 ea c n l λu' s2 I2 ru=>⟨v,H1,I2,ru,q⟩
theorem zt (ha:PE X o ta) (hv:PE X value tv) (hs:swapsWith value (some (.Attribute o f pos')) pos.line X.env=pure false):PS X (.Assign [.Attribute o f pos'] value pos) (Ei X.K ta tv f):=by
 intro π s σ H D I h;refine plainObj_wpAny_Assign_Attribute (ci (hv π s σ H _ I h) λu s1 ⟨y,H1,I1,ry,q⟩=>ci (ha π s1 σ H1 _ I1 q) λov s2 z9=>?_) hs;obtain⟨x,H2,I2,rx,a,C,dx,fs,ex,ea,c,n,l,q2⟩:=z9;subst ex;obtain rfl:ov=Value.ref a:=rx;exact oq I2 ea c n l ry λs3 I3=>⟨σ,_,I3,q2⟩
end
section
variable {X:Cx} {π:List (Addr×Obj)} {σ:St} {H:Hp} {s:Shared} {A:Around} {E:yey} {Q:yey} {c:Value} {b:Bool}
inductive hZ (K:yav) (H:Hp):V->Value->Prop where
 | non:hZ K H .non (.type "NoneType")
 | bl (x:Bool):hZ K H (.bl x) (.type "bool")
 | int (i:Int):hZ K H (.int i) (.type "int")
 | str (x:Str):hZ K H (.str x) (.type "str")
 | flt (x:UInt64):hZ K H (.flt x) (.type "float")
 | lst {a:Addr} {xs:List V} (e:H a=some (.lst xs)):hZ K H (.ref a) (.type "list")
 | frz {a:Addr} {o:Obj} {xs:List V} (e:H a=some (.frz o (.lst xs))):hZ K H (.ref a) (.type "list")
 | tup {a:Addr} {xs:List V} (e:H a=some (.tup xs)):hZ K H (.ref a) (.type "tuple")
 | dK {a:Addr} {kvs:List (bd×V)} (e:H a=some (.dK kvs)):hZ K H (.ref a) (.type "dict")
 | dT {a:Addr} {kvs:List (List bd×V)} (e:H a=some (.dT kvs)):hZ K H (.ref a) (.type "dict")
 | ins {a C dx:Addr} {fs:List (Str×V)} (e:H a=some (.ins C dx fs)) (cl:lG K C) (ha:findIn K (.ref C) "__class__"=some (some (.builtin "object.__class__")))
    (hn:PySem.W.specialIn K (.builtin "object.__class__") "__get__"=some (some (.builtin "getset_descriptor.__get__"))) (htk:PySem.W.takesIn K (.builtin "object.__class__")=some true)
    (hm:mroIn K C (.type "object")=some true):hZ K H (.ref a) (.ref C)
theorem qZ {x:V} {u t:Value} (I:aH X π σ H s) (rx:bn x u) (ty:hZ X.K H x t) (e:PySem.W.kitOne X.K t c=some b) (h:∀tk,Q (.bool b) { s with toks:=tk }):
 wpAny (model X.prog X.w) A (call (.builtin "isinstance") [u,c]) Q E s:=by
 cases ty with
 | non=>cases (show u=Value.none from rx);exact kia_one PySem.W.kitx_none I.kIn True.intro e (λz=>nomatch z) h
 | bl y=>cases (show u=Value.bool y from rx);exact kia_one PySem.W.kitx_bool I.kIn True.intro e (λz=>nomatch z) h
 | int i=>obtain⟨t,q⟩:=(show ∃t,u=Value.int i t from rx);cases q;exact kia_one PySem.W.kitx_int I.kIn True.intro e (λz=>nomatch z) h
 | str y=>obtain⟨t,q⟩:=(show ∃t,u=Value.str y t from rx);cases q;exact kia_one PySem.W.kitx_str I.kIn True.intro e (λz=>nomatch z) h
 | flt y=>obtain⟨t,q⟩:=(show ∃t,u=Value.float y t from rx);cases q;exact kia_one PySem.W.kitx_float I.kIn True.intro e (λz=>nomatch z) h
 | @lst a xs ea=>
   cases (show u=Value.ref a from rx);obtain⟨_,_,n,_,h1⟩:=(show ca X.prog X.w H s.heap a (.lst xs) from I.hok a _ ea);exact kia_one PySem.W.kitx_list I.kIn ⟨_,h1,rfl⟩ e (λz=>nomatch z) h
 | @frz a ob xs ea=>
   cases (show u=Value.ref a from rx);obtain⟨_,_,_,n,_,h1⟩:=(show ca X.prog X.w H s.heap a (.frz ob (.lst xs)) from I.hok a _ ea);exact kia_one PySem.W.kitx_list I.kIn ⟨_,h1,rfl⟩ e (λz=>nomatch z) h
 | @tup a xs ea=>
   cases (show u=Value.ref a from rx);obtain⟨_,_,_,p⟩:=(show ca X.prog X.w H s.heap a (.tup xs) from I.hok a _ ea);obtain⟨o,h1,h2,_⟩:=p;exact kia_one PySem.W.kitx_tuple I.kIn ⟨o,h1,h2⟩ e (λz=>nomatch z) h
 | @dK a kvs ea=>
   cases (show u=Value.ref a from rx);obtain⟨_,_,vs,_,p⟩:=(show ca X.prog X.w H s.heap a (.dK kvs) from I.hok a _ ea);obtain⟨o,es,ep,h1,h2,_⟩:=p;exact kia_one PySem.W.kitx_dict I.kIn ⟨o,h1,h2.1⟩ e (λz=>nomatch z) h
 | @dT a kvs ea=>
   cases (show u=Value.ref a from rx);obtain⟨_,_,xs,_,o,es,ep,h1,h2,_⟩:=(show ca X.prog X.w H s.heap a (.dT kvs) from I.hok a _ ea);exact kia_one PySem.W.kitx_dict I.kIn ⟨o,h1,h2.1⟩ e (λz=>nomatch z) h
 | @ins a C dx fs ea cl ha hn htk hm=>
   cases (show u=Value.ref a from rx);obtain⟨mA,O,_⟩:=iK I.hok ea;obtain⟨od,J,_⟩:=O.look;exact kia_one (PySem.W.kitx_own (cl.get _) cl.hd ha hn htk hm) I.kIn J e (λz=>nomatch z) h
end
structure aw (k:Nat) (A:Around):Prop where
 hd:A.handled=none
 dp:A.depth+3*k+5<recursionLimit
 un:A.units+16*k+200<cLine
theorem aw.mono {j k:Nat} (r:aw k A) (h:j<=k):aw j A:=⟨r.hd,by have:=r.dp;lia,by have:=r.un;lia⟩
theorem aw.deeper (r:aw (k+1) A) (env:Env):aw k (A.deeper env):=
 ⟨r.hd,by have:=r.dp;show A.depth+1+3*k+5<_;lia,by have:=r.un;show A.units+3+16*k+200<_;lia⟩
theorem ou {C:Addr} {kw:List (Str×Value)}:(A.under (.builtin "type.__call__" ⟨.ref C::us,kw⟩)).depth=A.depth+1:=by
 first | rfl | simp[Around.under,Code.weight,Code.isCreation,Code.isGuard,Code.isCaller,Code.frames,Code.isFrame,guardIds]
theorem ow {C:Addr} {kw:List (Str×Value)}:(A.under (.builtin "type.__call__" ⟨.ref C::us,kw⟩)).units=A.units+1:=by
 first | rfl | simp[Around.under,Code.cUnits,Code.frames,Code.isFrame]
theorem aw.make (r:aw (k+1) A) (C:Addr) (us:yez) (kw:List (Str×Value)):aw k (A.under (.builtin "type.__call__" ⟨.ref C::us,kw⟩)):=
 ⟨r.hd,by have:=r.dp;rw[ou];lia,by have:=r.un;rw[ow];lia⟩
theorem aw.depth (r:aw k A):A.depth<recursionLimit:=by have:=r.dp;lia
noncomputable def sQ:TA:=λ_ H Q=>Q [] H
noncomputable def lO (ta:TE) (tr:TA):TA:=λσ H Q=>ta σ H λx H1=>tr σ H1 λxs H2=>Q (x::xs) H2
section
variable {X:Cx} {e:Expr} {es:List Expr} {te:TE} {t:TA} {pos:Pos}
theorem pa_nil:PA X [] sQ:=λ_ _ _ _ H Q I h=>Calls.spliced_nil ⟨[],H,I,.nil,h⟩
theorem dn (ha:PE X e te) (hr:PA X es t) (hs:starEach (e::es) X.env=(false,eval e X.env)::starEach es X.env:=by rfl):PA X (e::es) (lO te t):=by
 intro pos π s σ H Q I h;rw[hs];show wpAny _ _ (spliced ((false,eval e X.env)::backTo pos (starEach es X.env))) _ _ s;refine Calls.spliced_cons (ci (ha π s σ H _ I h) λu s1 z9=>?_);obtain⟨x,H1,I1,r1,q1⟩:=z9;exact ci (hr pos π s1 σ H1 _ I1 q1) λus s2 ⟨xs,H2,I2,r2,q2⟩=>⟨x::xs,H2,I2,.cons r1 r2,q2⟩
noncomputable def Ej (t:TA):TE:=λσ H Q=>t σ H λxs H1=>xs.length<=sizeLine/\∀p,H1 p=none->Q (.ref p) (upd H1 p (.tup xs))
noncomputable def Ek (t:TA):TE:=λσ H Q=>t σ H λxs H1=>xs.length<=sizeLine/\∀p,H1 p=none->Q (.ref p) (upd H1 p (.lst xs))
theorem zu {x1} (h:PA X es t):PE X (.Tuple es x1 pos) (Ej t):=by
 intro π s σ H Q I hq;refine wpAny_Tuple_spliced (ci (h pos π s σ H _ I hq) λus s1 ⟨xs,H1,I1,r,z,q⟩=>⟨by rw[←r.length];exact z,?_⟩);have hf:H1 s1.heap.objs.size=none:=I1.hok.fresh (ycx _);refine⟨.ref s1.heap.objs.size,upd H1 s1.heap.objs.size (.tup xs),I1.laid (t':=s1.toks) (λb u e=>ybz _ e) (ycx _) ?_,rfl,q _ hf⟩;exact⟨z,us,r,⟨_,ybw _ rfl,rfl,_,rfl⟩⟩
theorem zv (h:PA X es t):PE X (.List es pos) (Ek t):=by
 intro π s σ H Q I hq;refine wpAny_List_spliced (ci (h pos π s σ H _ I hq) λus s1 ⟨xs,H1,I1,r,z,q⟩=>⟨by rw[←r.length];exact z,?_⟩);have hf:H1 s1.heap.objs.size=none:=I1.hok.fresh (ycx _);refine⟨.ref s1.heap.objs.size,upd H1 s1.heap.objs.size (.lst xs),I1.laid (t':=s1.toks) (λb u e=>ybz _ e) (ycx _) ?_,rfl,q _ hf⟩;exact⟨z,us,0,r,ybw _ rfl⟩
end
noncomputable abbrev Sp:=List V->Hp->VK->XK->Prop
noncomputable abbrev q0:=List Env->Hp->Shared->XK->Value->Shared->Prop
structure lP (P:Program) (w:World) (K:yav) (mg:yew) (base:Heap) (A:Around) (outer:List Env) (s:Shared) (H:Hp):Prop where
 frames:A.frames=some outer
 mod:Mod K mg base
 bs:∀b o,base.get? b=some o->s.heap.get? b=some o/\H b=none
 bsz:base.objs.size<=s.heap.objs.size
 funs:s.heap.FunFrames base outer
 frf:∀b∈eP outer,H b=none
 hok:gz P w H s.heap
 bare:AllBare s.gens
noncomputable def CE (outer:List Env) (P:Program) (w:World) (H:Hp) (s:Shared) (Q:VK) (u:Value) (s':Shared):Prop:=
 ∃v H',s'.os=s.os/\AllBare s'.gens/\Un (eP outer) [] H H' s.heap s'.heap/\gz P w H' s'.heap/\bn v u/\Q v H'
noncomputable def CR (CX:q0) (outer:List Env) (P:Program) (w:World) (H:Hp) (s:Shared) (Q:VK) (E:XK) (r:Result) (s':Shared):Prop:=
 match r with
 | .ok (.ret u)=>CE outer P w H s Q u s'
 | .ok _=>False
 | .error e=>CX outer H s E e s'
structure gj (P:Program) (w:World) (K:yav) (mg:yew) (base:Heap) (CX:q0) (k:Nat) (f:Addr) (fd:FuncData) (ps:List Str) (sp:Sp):Prop where
 len:∀vs H Q E,sp vs H Q E->vs.length=ps.length
 run:∀(A:Around) (outer:List Env) (s:Shared) (H:Hp) (args:Args) (us:yez) (vs:List V) (Q:VK) (E:XK),aw k A->lP P w K mg base A outer s H->BindsTo s fd args (ps.zip us)->aT vs us->sp vs H Q E->
  codeAny (model P w) A (.call (.ref f) args) (CR CX outer P w H s Q E) s
theorem lP.make {outer:List Env} {H:Hp} (e:lP P w K mg base A outer s H) (C:Addr) (us:yez) (kw:List (Str×Value)):
 lP P w K mg base (A.under (.builtin "type.__call__" ⟨.ref C::us,kw⟩)) outer s H:=⟨by first | exact e.frames | (simpa[Around.under,Code.envs,Code.isFrame,pushEnvs] using e.frames),e.mod,e.bs,e.bsz,e.funs,e.frf,e.hok,e.bare⟩
section
variable {X:Cx} {π:List (Addr×Obj)} {σ:St} {H:Hp} {s s':Shared}
theorem aH.env0 (I:aH X π σ H s):lP X.prog X.w X.K X.mg X.base X.A X.stack s H:=
 ⟨I.ok.frames,I.ok.mod,I.bs,ycy I.ok.bsz I.sz,I.stack,I.stkFree,I.hok,I.bare⟩
theorem aH.after {Q:VK} (I:aH X π σ H s) (h:CE X.stack X.prog X.w H s Q u s'):EP X π σ Q u s':=by
 obtain⟨v,H',os,bare,un,hok,r,q⟩:=h;obtain⟨hh,g,d,t,os'⟩:=s';obtain rfl:os'=s.os:=os;exact⟨v,H',I.call (h':=hh) (g':=g) (d':=d) (t':=t) (ch:=[]) un hok bare (λb z=>absurd z (by simp)),r,q⟩
end
noncomputable def sR (sp:Sp) (dvs:List V) (E:XK) (t:TA):TE:=λσ H Q=>t σ H λvs H1=>sp (vs++dvs) H1 Q E
noncomputable def sS (C:Addr) (m:Str) (sp:Sp) (dvs:List V) (E:XK) (ta:TE) (t:TA):TE:=λσ H Q=>ta σ H λx H1=>∃a dx fs,x=.ref a/\H1 a=some (.ins C dx fs)/\fs.lookup m=none/\
 t σ H1 λvs H2=>sp (x::(vs++dvs)) H2 Q E
noncomputable def yg (C:Addr) (sp:Sp) (dvs:List V) (E:XK) (t:TA):TE:=λσ H Q=>t σ H λvs H1=>∀x dx,H1 x=none->H1 dx=none->dx≠x->
 sp (.ref x::(vs++dvs)) (upd (upd H1 dx (.own x)) x (.ins C dx [])) (λv H2=>v=.non/\Q (.ref x) H2) E
noncomputable def bM (K:yav) (fd:FuncData) (ps:List Str) (ds:yez):Prop:=
 ∀(s:Shared) (us:yez),K.In s.heap->(us++ds).length=ps.length->BindsTo s fd ⟨us,[]⟩ (ps.zip (us++ds))
theorem bM.all (h:∀us:List Value,us.length=ps.length->bindArgs fd ⟨us,[]⟩=pure (ps.zip us)):bM K fd ps []:=λs us _ hl=>by
 rw[append_nil] at hl ⊢;exact .of_eq (h us hl)
noncomputable def eQ (CX:q0) (X:Cx) (E:XK):Prop:=∀(π:List (Addr×Obj)) (σ:St) (H:Hp) (s:Shared) (e:Value) (s':Shared),aH X π σ H s->CX X.stack H s E e s'->X.xe e s'
section
variable {X:Cx} {CX:q0} {k:Nat} {f C:Addr} {fd:FuncData} {ps:List Str} {sp:Sp} {dvs:List V} {ds:yez} {E:XK} {x m:Str} {p pos apos:Pos} {e o:Expr} {es:List Expr} {ta:TE} {t:TA}
theorem kE {σ:St} {H:Hp} {Q:VK} {vs:List V} (F:gj X.prog X.w X.K X.mg X.base CX k f fd ps sp) (hr:aw k X.A) (hb:bM X.K fd ps ds) (hd:aT dvs ds) (hx:eQ CX X E)
 (I:aH X π σ H s) (r:aT vs us) (h:sp (vs++dvs) H Q E):wpAny (model X.prog X.w) X.A (call (.ref f) us) (EP X π σ Q) X.xe s:=by
 have r2:aT (vs++dvs) (us++ds):=r.append hd;have hl:(us++ds).length=ps.length:=by rw[←r2.length];exact F.len _ _ _ _ h
 refine wpAny_call (codeAny_mono (F.run X.A X.stack s H ⟨us,[]⟩ (us++ds) (vs++dvs) Q E hr I.env0 (hb s us I.kIn hl) r2 h) λr s' hq=>?_);cases r with
 | error e=>exact hx π σ H s e s' I hq
 | ok fl=>
   cases fl with
   | ret u=>exact I.after hq
   | next=>exact False.elim hq
   | brk=>exact False.elim hq
   | cont=>exact False.elim hq
theorem kF (F:gj X.prog X.w X.K X.mg X.base CX k f fd ps sp) (hr:aw k X.A) (hg:Gl X x) (hm:X.mg x=some (.ref f)) (hk:keepIn X.K (.ref f)=true) (hb:bM X.K fd ps ds) (hd:aT dvs ds) (hx:eQ CX X E)
 (ha:PA X (e::es) t) (hdb:(x==("__debug__":Str))=false:=by decide) (he:starEach (e::es) X.env=(false,eval e X.env)::starEach es X.env:=by rfl) (hpl:(backTo pos (starEach es X.env)).any (·.1)=false:=by rfl):
 PE X (.Call (.Name x p) (e::es) [] pos) (sR sp dvs E t):=by
 intro π s σ H Q I h;refine wpAny_Call_Name_kw (dY I hg hm ?_ hdb);refine callWith_K (h₀:=X.base) I.ok.mod.kin hk (ci (ha pos π s σ H _ I h) λus s1 ⟨vs,H1,I1,r,q⟩=>⟨I1.kIn,?_⟩) he hpl;exact kE F hr hb hd hx I1 r q
theorem sT (F:gj X.prog X.w X.K X.mg X.base CX k f fd ps sp) (hr:aw k X.A) (hg:Gl X x) (hm:X.mg x=some (.ref f)) (hk:keepIn X.K (.ref f)=true) (hb:bM X.K fd ps ds) (hd:aT dvs ds) (hx:eQ CX X E)
 (hdb:(x==("__debug__":Str))=false:=by decide):PE X (.Call (.Name x p) [] [] pos) (sR sp dvs E sQ):=by
 intro π s σ H Q I h;refine wpAny_Call_Name_kw (dY I hg hm ?_ hdb);exact PySem.W.callWith_K0 I.kIn hk (kE (us:=[]) F hr hb hd hx I .nil h)
theorem pC {pl:Sem Bool} (he:PE X o ta) (c:lG X.K C) (hm:qY X.K C m f) (F:gj X.prog X.w X.K X.mg X.base CX k f fd ps sp) (hr:aw k X.A) (hb:bM X.K fd ps ds) (hd:aT dvs ds) (hx:eQ CX X E) (ha:PA X (e::es) t)
 (hst:starEach (e::es) X.env=(false,eval e X.env)::starEach es X.env:=by rfl) (hpl:(backTo pos (starEach es X.env)).any (·.1)=false:=by rfl)
 (ht:eval (.Call (.Attribute o m apos) (e::es) [] pos) X.env=(do
   let ov ←eval o X.env
   standAt apos.atName
   let (f,first) ←holding [ov] (getMethod ov m pl)
   callWith pos f first (backTo pos (starEach (e::es) X.env)) (backToKw pos (keywordEach [] X.env))):=by rfl):
 PE X (.Call (.Attribute o m apos) (e::es) [] pos) (sS C m sp dvs E ta t):=by
 intro π s σ H Q I h;refine PySem.W.methodCall_KW (pl:=pl) (ci (he π s σ H _ I h) λu s1 z9=>?_) ht;obtain⟨x,H1,I1,rx,a,dx,fs,ex,ea,l,q⟩:=z9;subst ex;obtain rfl:u=Value.ref a:=rx;refine iZ I1 ea c hm l ?_;refine callWith_K (first:=[.ref a]) (h₀:=X.base) I.ok.mod.kin hm.kp (ci (ha pos π s1 σ H1 _ I1 q) λus s2 ⟨vs,H2,I2,r,q2⟩=>⟨I2.kIn,?_⟩) hst hpl;exact kE (us:= .ref a::us) (vs:= .ref a::vs) F hr hb hd hx I2 (.cons rfl r) q2
theorem sU {pl:Sem Bool} (he:PE X o ta) (c:lG X.K C) (hm:qY X.K C m f) (F:gj X.prog X.w X.K X.mg X.base CX k f fd ps sp) (hr:aw k X.A) (hb:bM X.K fd ps ds) (hd:aT dvs ds) (hx:eQ CX X E)
 (ht:eval (.Call (.Attribute o m apos) [] [] pos) X.env=(do
   let ov ←eval o X.env
   standAt apos.atName
   let (f,first) ←holding [ov] (getMethod ov m pl)
   callWith pos f first (backTo pos (starEach [] X.env)) (backToKw pos (keywordEach [] X.env))):=by rfl):
 PE X (.Call (.Attribute o m apos) [] [] pos) (sS C m sp dvs E ta sQ):=by
 intro π s σ H Q I h;refine PySem.W.methodCall_KW (pl:=pl) (ci (he π s σ H _ I h) λu s1 z9=>?_) ht;obtain⟨x,H1,I1,rx,a,dx,fs,ex,ea,l,q⟩:=z9;subst ex;obtain rfl:u=Value.ref a:=rx;refine iZ I1 ea c hm l ?_;exact PySem.W.callWith_K0 (first:=[.ref a]) I1.kIn hm.kp (kE (us:=[.ref a]) (vs:=[.ref a]) F hr hb hd hx I1 (.cons rfl .nil) q)
structure Mk (K:yav) (C f:Addr):Prop where
 makes:PySem.W.makesIn K C=true
 init:findIn K (.ref C) "__init__"=some (some (.ref f))
 fn:isFn K (.ref f)=true
 kp:keepIn K (.ref C)=true
theorem sV {σ:St} {H:Hp} {Q:VK} {vs:List V} (M:Mk X.K C f) (F:gj X.prog X.w X.K X.mg X.base CX k f fd ps sp) (hr:aw (k+1) X.A) (hb:bM X.K fd ps ds) (hd:aT dvs ds)
 (hx:eQ CX X E) (I:aH X π σ H s) (r:aT vs us)
 (h:∀x dx,H x=none->H dx=none->dx≠x->sp (.ref x::(vs++dvs)) (upd (upd H dx (.own x)) x (.ins C dx [])) (λv H2=>v=.non/\Q (.ref x) H2) E):
 wpAny (model X.prog X.w) X.A (call (.ref C) us) (EP X π σ Q) X.xe s:=by
 have hq:=h (s.heap.objs.size+1) s.heap.objs.size (I.hok.fresh (le_succ _)) (I.hok.fresh (ycx _)) (ne_of_lt (Nat.lt_succ_self _));have I2:=aH.made (C:=C) I;have r2:aT (V.ref (s.heap.objs.size+1)::(vs++dvs)) (Value.ref (s.heap.objs.size+1)::(us++ds)):= .cons rfl (r.append hd);have hl:(Value.ref (s.heap.objs.size+1)::us++ds).length=ps.length:=by
  have e:=r2.length;rw[F.len _ _ _ _ hq] at e;exact e.symm
 refine wpAny_call (sP (f:=f) I.kIn M.makes M.init (beq_iff_eq.mp M.fn) (codeAny_mono (F.run _ X.stack _ _ ⟨Value.ref (s.heap.objs.size+1)::us,[]⟩ (Value.ref (s.heap.objs.size+1)::(us++ds)) _ _ E (hr.make C us [])
  (I2.env0.make C us []) (hb _ (Value.ref (s.heap.objs.size+1)::us) I2.kIn hl) r2 hq) λr s' hq'=>?_))
 cases r with
 | error e=>exact hx π σ _ _ e s' I2 hq'
 | ok fl=>
   cases fl with
   | ret u=>
     obtain⟨v,H',I3,rv,ev,q3⟩:=I2.after hq';subst ev;exact⟨rv,⟨V.ref (s.heap.objs.size+1),H',I3,rfl,q3⟩⟩
   | next=>exact False.elim hq'
   | brk=>exact False.elim hq'
   | cont=>exact False.elim hq'
theorem vP (M:Mk X.K C f) (F:gj X.prog X.w X.K X.mg X.base CX k f fd ps sp) (hr:aw (k+1) X.A) (hg:Gl X x) (hm:X.mg x=some (.ref C)) (hb:bM X.K fd ps ds) (hd:aT dvs ds) (hx:eQ CX X E)
 (ha:PA X (e::es) t) (hdb:(x==("__debug__":Str))=false:=by decide) (he:starEach (e::es) X.env=(false,eval e X.env)::starEach es X.env:=by rfl) (hpl:(backTo pos (starEach es X.env)).any (·.1)=false:=by rfl):
 PE X (.Call (.Name x p) (e::es) [] pos) (yg C sp dvs E t):=by
 intro π s σ H Q I h;refine wpAny_Call_Name_kw (dY I hg hm ?_ hdb);refine callWith_K (h₀:=X.base) I.ok.mod.kin M.kp (ci (ha pos π s σ H _ I h) λus s1 ⟨vs,H1,I1,r,q⟩=>⟨I1.kIn,?_⟩) he hpl;exact sV M F hr hb hd hx I1 r q
end
section
variable {X:Cx} {CX:q0} {k:Nat} {f C:Addr} {fd:FuncData} {ps ks:List Str} {sp:Sp} {E:XK} {x m:Str} {p pos apos kpos:Pos} {e o:Expr} {es:List Expr} {kws:List Keyword} {te ta:TE} {t tk:TA} {nm:Option Str}
structure El (K:yav) (fd:FuncData) (ps ks:List Str) (g:List Value->List Value->List Value) (gV:List V->List V->List V):Prop where
 to:∀(s:Shared) (us ws:yez),K.In s.heap->(g us ws).length=ps.length->BindsTo s fd ⟨us,ks.zip ws⟩ (ps.zip (g us ws))
 rel:∀{vs:List V} {us:yez} {zs:List V} {ws:yez},aT vs us->aT zs ws->aT (gV vs zs) (g us ws)
variable {g:List Value->List Value->List Value} {gV:List V->List V->List V}
end
structure bg (N P:List Str) (sc:Scope):Prop where
 kind:sc.kind=.function
 co:sc.isCoroutine=false
 gen:sc.isGenerator=false
 nd:N.Nodup
 pre:N.take P.length=P
 par:∀x∈P,sc.names.lookup x=some .local∨sc.names.lookup x=some .cell
 nofree:∀y∈sc.names,y.2≠ .free
theorem jO {kindOf:Str->Option NameKind} {x:Str}:∀{binds:List (Str×Value)} {m:yew},(∀v,(x,v)∉binds)->bindL kindOf binds m x=m x
 | [],_,_=>rfl
 | (n,v)::r,m,h=>by
   unfold bindL;rw[jO λw hw=>h w (ybx _ hw)];split
   ·have:x≠n:=by rintro rfl;exact h v yby
    simp[this]
   ·rfl
theorem jP {kindOf:Str->Option NameKind} {x:Str}:∀{binds:List (Str×Value)} {m:yew},(∀v,(x,v)∉binds)->bindC kindOf binds m x=m x
 | [],_,_=>rfl
 | (n,v)::r,m,h=>by
   unfold bindC;rw[jP λw hw=>h w (ybx _ hw)];split
   ·rfl
   ·have:x≠n:=by rintro rfl;exact h v yby
    simp[this]
theorem jQ {kindOf:Str->Option NameKind} {x:Str} {v:Value}:∀{P:List Str} {vs:yez} {i:Nat} {m:yew},P.Nodup->P[i]?=some x->vs[i]?=some v->kindOf x=some .local->
 bindL kindOf (P.zip vs) m x=some v
 | [],_,_,_,_,h,_,_=>by simp at h
 | _::_,[],_,_,_,_,h,_=>by simp at h
 | p::P,w::vs,0,m,nd,h1,h2,hk=>by
   simp at h1 h2;subst h1;subst h2;show bindL kindOf ((p,w)::P.zip vs) m p=_;unfold bindL;rw[jO λv hv=>(nodup_cons.mp nd).1 (List.of_mem_zip hv).1,ycv hk];simp
 | p::P,w::vs,i+1,m,nd,h1,h2,hk=>by
   show bindL kindOf ((p,w)::P.zip vs) m x=_;unfold bindL;exact jQ (i:=i) (nodup_cons.mp nd).2 (by simpa using h1) (by simpa using h2) hk
theorem jR {kindOf:Str->Option NameKind} {x:Str} {v:Value}:∀{P:List Str} {vs:yez} {i:Nat} {m:yew},P.Nodup->P[i]?=some x->vs[i]?=some v->kindOf x≠some .local->
 bindC kindOf (P.zip vs) m x=some v
 | [],_,_,_,_,h,_,_=>by simp at h
 | _::_,[],_,_,_,_,h,_=>by simp at h
 | p::P,w::vs,0,m,nd,h1,h2,hk=>by
   simp at h1 h2;subst h1;subst h2;show bindC kindOf ((p,w)::P.zip vs) m p=_;unfold bindC;rw[jP λv hv=>(nodup_cons.mp nd).1 (List.of_mem_zip hv).1,ycw hk];simp
 | p::P,w::vs,i+1,m,nd,h1,h2,hk=>by
   show bindC kindOf ((p,w)::P.zip vs) m x=_;unfold bindC;exact jR (i:=i) (nodup_cons.mp nd).2 (by simpa using h1) (by simpa using h2) hk
noncomputable def start (N:List Str) (vs:List V):St:=vs.map some++List.replicate (N.length-vs.length) none
noncomputable def cZ (CX:q0) (P:Program) (w:World) (K:yav) (mg:yew) (base:Heap) (N:List Str) (qual:Str) (scope:Scope) (f:Addr) (cd:Value) (A:Around) (outer:List Env) (s:Shared) (H:Hp) (E:XK):Cx where
 prog:=P
 w:=w
 K:=K
 mg:=mg
 base:=base
 A:=A.deeper (envOfC qual scope s.heap.objs.size f cd)
 N:=N
 s₀:=s
 H₀:=H
 env:=envOfC qual scope s.heap.objs.size f cd
 outer:=outer
 stack:=envOfC qual scope s.heap.objs.size f cd::outer
 ex:=[]
 calm:=true
 fn:=λ_=>true
 pn:=[]
 xe:=λe s'=>wpAny (model P w) (A.deeper (envOfC qual scope s.heap.objs.size f cd)) (leaving (envOfC qual scope s.heap.objs.size f cd) e) (λ_ s''=>CX outer H s E e s'') (λe' s''=>CX outer H s E e' s'') s'
theorem lQ {sc:Scope} {n:Nat} (h:sc.names.lookup x=some .cell):∃c,(cellsFrom n sc.names []).lookup x=some c:=by
 have q:=PySem.W.cellsFrom_some sc.names n [] (.inl h);exact Option.isSome_iff_exists.mp q
theorem rc {CX:q0} {N ps:List Str} {qual:Str} {f:Addr} {cd:Value} {outer:List Env} {s s1:Shared} {H:Hp} {E:XK} {vs:List V}
 (S:bg N ps scope) (hd:A.handled=none) (e0:lP P w K mg base A outer s H) (hl:vs.length=ps.length) (r:aT vs us)
 (x:InCallC s s.heap.objs.size (bindL (envOfC qual scope s.heap.objs.size f cd).kindOf (ps.zip us) λ_=>none) (cellsFrom (s.heap.objs.size+1) scope.names []) (bindC (envOfC qual scope s.heap.objs.size f cd).kindOf (ps.zip us) λ_=>none) s1):
 aH (cZ CX P w K mg base N qual scope f cd A outer s H E) [] (start N vs) H s1:=by
 have hpl:ps.length<=N.length:=by have:=congrArg List.length S.pre;rw[length_take] at this;(clear hl;lia)
 obtain⟨h1,tk,rfl,hk⟩:=x.done;have noA:∀b:Addr,b∉(cZ CX P w K mg base N qual scope f cd A outer s H E).ex:=λb z=>absurd (show b∈([]:List Addr) from z) (by simp);refine⟨⟨e0.mod,S.kind,rfl,rfl,ycx _,λy z c h1 h2=>?_,λy hy=>?_,λy c _ h=>?_,λ_=>hd,Around.frames_deeper e0.frames,.inr ⟨rfl,rfl⟩,λb z=>absurd z (noA b),e0.bs,e0.bsz,λb _ _=>noA b,λb z=>absurd z (noA b),e0.funs,e0.frf⟩,
  rfl,e0.bare,Un.kept hk,⟨_,x.toInCall.ns,λi y v h1 h2 h3=>?_⟩,λy c h=>⟨_,x.cell y c h⟩,e0.hok.fresh (ycx _),λy c h=>?_,λp hp=>absurd (show p∈([]:List (Addr×Obj)) from hp) (by simp),e0.hok.kept hk,?_⟩
 ·exact name_of_addr x.apart (PySem.mem_of_lookup h1) (PySem.mem_of_lookup h2)
 ·have hy:scope.names.lookup y=some .cell∨scope.names.lookup y=some .free:=hy;rcases hy with hy | hy
  ·exact lQ hy
  ·exact absurd rfl (S.nofree _ (PySem.mem_of_lookup hy))
 ·exact Nat.le_of_lt (x.above y c (PySem.mem_of_lookup h))
 ·have hi:i<vs.length:=by
   unfold start at h2
   by_cases hi:i<vs.length
   ·exact hi
   ·rw[List.getElem?_append_right (by simpa using hi)] at h2;rw[List.getElem?_replicate] at h2;split at h2<;> cases h2
  have ha:vs[i]?=some v:=by
   unfold start at h2;rw[List.getElem?_append_left (by simpa using hi),List.getElem?_map] at h2;cases e:vs[i]? with
   | none=>rw[e] at h2;cases h2
   | some a=>rw[e] at h2;cases h2;rfl
  obtain⟨u,hu,rv⟩:=r.get ha;have hp:ps[i]?=some y:=by
   rw[←S.pre,List.getElem?_take_of_lt (by (clear hpl h1 h2 ha hu;lia))];exact h1
  have ndP:ps.Nodup:=by rw[←S.pre];exact S.nd.sublist (List.take_sublist _ _)
  refine⟨u,rv,?_⟩;rcases S.par y (List.mem_of_getElem? hp) with k | k
  ·exact .inl ⟨k,jQ ndP hp hu k⟩
  ·obtain⟨c,e⟩:=lQ (n:=s.heap.objs.size+1) k;refine .inr ⟨.inl k,c,e,?_⟩;have q:=x.cell y c e;rw[jR ndP hp hu (by show scope.names.lookup y≠_;rw[k];decide)] at q;exact q
 ·exact e0.hok.fresh (Nat.le_of_lt (x.above y c (PySem.mem_of_lookup h)))
 ·unfold start;show _=N.length;rw[length_append,length_map,List.length_replicate];lia
theorem pD {CX:q0} {f:Addr} {name qual:Str} {params:Arguments} {dV kV doc pm cdv ct oc:Value} {an od:Option Addr}
 {osl:Array (Option Value)} {N ps:List Str} {sp:Sp} (lk:K.lookup f=some ⟨oc,od,.func (fnOf name qual params body scope dV kV doc pm an cdv ct),osl⟩) (hcd:codeIn K cdv qual=true) (S:bg N ps scope)
 (len:∀vs H Q E,sp vs H Q E->vs.length=ps.length)
 (hbody:∀(A:Around) (outer:List Env) (s:Shared) (H:Hp) (vs:List V) (Q:VK) (E:XK),aw k (A.deeper (envOfC qual scope s.heap.objs.size f cdv))->sp vs H Q E->
   ∃t,lF (cZ CX P w K mg base N qual scope f cdv A outer s H E) body t/\t { nx:=λ_ H'=>Q .non H',rt:=Q } (start N vs) H):
 gj P w K mg base CX (k+1) f (fnOf name qual params body scope dV kV doc pm an cdv ct) ps sp:=by
 refine⟨len,λA outer s H args us vs Q E hr e0 hb r hsp=>?_⟩;have hl:=len _ _ _ _ hsp;have KX:K.In s.heap:=e0.mod.kin.keeps λb o e=>(e0.bs b o e).1;have lim:s.heap.NoLimit:=e0.mod.nolimit.keeps λb o e=>(e0.bs b o e).1;have hkind:∀y∈ps.zip us,scope.names.lookup y.1=some .local∨(scope.names.lookup y.1=some .cell/\((cellsFrom (s.heap.objs.size+1) scope.names []).lookup y.1).isSome=true):=λ⟨n,v⟩ hy=>by
  rcases S.par n (List.of_mem_zip hy).1 with q | q
  ·exact .inl q
  ·exact .inr ⟨q,PySem.W.cellsFrom_some _ _ _ (.inl q)⟩
 refine codeAny_call_function hr.depth (KX _ _ lk) rfl S.co S.gen rfl (PySem.W.codeRec_of KX hcd) (hb _ _ _ _ ?_);refine wpAny_newFunctionEnv_cells S.kind hkind λenv he s1 x=>?_;subst he;refine⟨lim.keeps x.toInCall.keep,codeAny_func ?_⟩;obtain⟨t,ht,hq⟩:=hbody A outer s H vs Q E (hr.deeper _) hsp;have I:aH (cZ CX P w K mg base N qual scope f cdv A outer s H E) [] (start N vs) H s1:=rc S hr.hd e0 hl r x;refine wpAny_mono (ht [] s1 (start N vs) H _ I hq) (λfl s' hs=>?_) λe s' hs=>hs;have fin:∀{σ':St} {H':Hp} {v:V} {u:Value},aH (cZ CX P w K mg base N qual scope f cdv A outer s H E) [] σ' H' s'->bn v u->Q v H'->CE outer P w H s Q u s':=
  λ{σ' H' v u} J rv q=>⟨v,H',J.os,J.bare,J.base,J.hok,rv,q⟩
 cases fl with
 | ret u=>
   obtain⟨v,σ',H',J,rv,q⟩:=hs;exact fin J rv q
 | next=>
   obtain⟨σ',H',J,q⟩:=hs;exact fin (v:=V.non) (u:=Value.none) J rfl q
 | brk=>
   obtain⟨_,_,_,q⟩:=hs;exact False.elim q
 | cont=>
   obtain⟨_,_,_,q⟩:=hs;exact False.elim q
section
variable {X:Cx} {x:Str} {p pos:Pos} {e:Expr} {es:List Expr} {t:TA} {id T:String} {r:List V->Hp->VK->Prop}
noncomputable def Em (r:List V->Hp->VK->Prop) (t:TA):TE:=λσ H Q=>t σ H λvs H1=>r vs H1 Q
theorem i4 (hc:fV X (.builtin id) r) (hg:Gl X x) (hm:X.mg x=none) (hv:bootBuiltins x=some (.builtin id)) (ha:PA X (e::es) t) (hn:x≠"__name__":=by decide) (hdb:(x==("__debug__":Str))=false:=by decide)
 (he:starEach (e::es) X.env=(false,eval e X.env)::starEach es X.env:=by rfl) (hpl:(backTo pos (starEach es X.env)).any (·.1)=false:=by rfl):PE X (.Call (.Name x p) (e::es) [] pos) (Em r t):=by
 intro π s σ H Q I h;refine wpAny_Call_Name_kw (hV I hg hm hv ?_ hn hdb);exact PyProof.Rows.callWith_builtin1 (ci (ha pos π s σ H _ I h) λus s1 ⟨vs,H1,I1,r1,q1⟩=>hc π s1 σ H1 vs us Q I1 r1 q1) he hpl
theorem re (hc:fV X (.type T) r) (hg:Gl X x) (hm:X.mg x=none) (hv:bootBuiltins x=some (.type T)) (ha:PA X (e::es) t) (hn:x≠"__name__":=by decide) (hdb:(x==("__debug__":Str))=false:=by decide)
 (he:starEach (e::es) X.env=(false,eval e X.env)::starEach es X.env:=by rfl) (hpl:(backTo pos (starEach es X.env)).any (·.1)=false:=by rfl):PE X (.Call (.Name x p) (e::es) [] pos) (Em r t):=by
 intro π s σ H Q I h;refine wpAny_Call_Name_kw (hV I hg hm hv ?_ hn hdb);exact PyProof.Rows.callWith_type1 (ci (ha pos π s σ H _ I h) λus s1 ⟨vs,H1,I1,r1,q1⟩=>hc π s1 σ H1 vs us Q I1 r1 q1) he hpl
end
end L2
namespace HT
open PySem PyProof.Rows
theorem rcLt_int (A:Around) (s:Shared) (a:Int) (t:Tok) (c:Int) (u:Tok) (prog:Program) (w:World) (E:yey) (Q:yey) (h:Q (.bool (decide (a<c))) s):
 wpAny (model prog w) A (richCompare .Lt (.int a t) (.int c u)) Q E s:=
 (PyProof.Rows.lt_int h:wpAny (model prog w) A (compareOp .Lt (.int a t) (.int c u)) Q E s)
section
open PySem.SeqAt
open PySem.AutoSeq1 (wpAny_loadPart')
open PySem.MeetsSeq PySem.MeetsSeq2 PySem.MeetsSeq3
end
section
variable {prog:Program} {w:World} {A:Around} {E:yey} {s:Shared}
theorem cat_tup {t b:Addr} {vs ws:yez} (ht:IsTup s.heap t vs.toArray) (hb:IsTup s.heap b ws.toArray) (hv:vs≠[])
 (h1:ws=[]->Q (.ref t) s) (h2:ws≠[]->Q (.ref s.heap.objs.size) { s with heap:=s.heap.push { cls:= .type "tuple",data:= .seq (vs++ws).toArray } })
 (hsz:vs.length+ws.length<=sizeLine):wpAny (model prog w) A (binaryOp .Add (.ref t) (.ref b)) Q E s:=by
 obtain⟨⟨cls,dd,data,sl⟩,ho,hc,n,hd⟩:=id ht;obtain⟨⟨cls2,dd2,data2,sl2⟩,ho2,hc2,n2,hd2⟩:=id hb;simp only at hc hd hc2 hd2;subst hc hd hc2 hd2;have e:vs.toArray++ws.toArray=(vs++ws).toArray:=by simp
 by_cases hw:ws=[]
 ·exact concat_meets ⟨_,ho,rfl⟩ ⟨_,ho2,rfl⟩ noFill_tuple_add seq_tuple_add PySem.F.slot_tuple_add PySem.F.entry_tuple_add (PySem.F.args_tuple_add_2 _ _)
   (tuple_addW1 t b vs.toArray ws.toArray n n2 dd dd2 sl sl2 (by simpa using hv) (by simp[hw])) ⟨ho,ho2,h1 hw⟩
 ·refine concat_meets ⟨_,ho,rfl⟩ ⟨_,ho2,rfl⟩ noFill_tuple_add seq_tuple_add PySem.F.slot_tuple_add PySem.F.entry_tuple_add (PySem.F.args_tuple_add_2 _ _)
   (tuple_addW2 t b vs.toArray ws.toArray n n2 dd dd2 sl sl2 (by simpa using hv) (by simpa using hw) (by rw[size_toArray,size_toArray];exact hsz)) ⟨ho,ho2,?_⟩
  rw[e];exact h2 hw
noncomputable def sIx (n d:Nat):Option Int->Nat
 | none=>d
 | some v=>if v<0 then (v+(n:Int)).toNat else min v.toNat n
theorem sIx_none (n d:Nat):sIx n d none=d:=rfl
theorem sIx_nat (n d k:Nat):sIx n d (some (k:Int))=min k n:=by
 show(if (k:Int)<0 then ((k:Int)+(n:Int)).toNat else min (k:Int).toNat n)=min k n;rw[ycw (by lia),Int.toNat_natCast]
theorem zw (n d:Nat) (hd:d<=n) (o:Option Int):sIx n d o<=n:=by
 cases o with
 | none=>exact hd
 | some v=>
   show(if v<0 then (v+(n:Int)).toNat else min v.toNat n)<=n
   by_cases hv:v<0
   ·rw[ycv hv];lia
   ·rw[ycw hv];exact Nat.min_le_right _ _
theorem pE (v:Int) (n d:Nat):(if v<0 then max (v+(n:Int)) 0 else min v (n:Int))=((sIx n d (some v):Nat):Int):=by
 show(if v<0 then max (v+(n:Int)) 0 else min v (n:Int))=(((if v<0 then (v+(n:Int)).toNat else min v.toNat n):Nat):Int)
 by_cases hv:v<0
 ·simp only[ycv hv];(clear hv;lia)
 ·simp only[ycw hv];lia
theorem ox (lo hi:Option Int) (n:Nat):Builtin.Slice.sliceAdjust lo hi 1 (n:Int)=(((sIx n 0 lo:Nat):Int),((sIx n n hi:Nat):Int)):=by
 have h1:¬((1:Int)<0):=by lia
 unfold Builtin.Slice.sliceAdjust;simp only[h1,if_false];refine Prod.ext ?_ ?_
 ·cases lo with
  | none=>rfl
  | some v=>exact pE v n 0
 ·cases hi with
  | none=>rfl
  | some v=>exact pE v n n
theorem oy (i j:Nat):Builtin.Slice.slicePlaces (i:Int) (j:Int) 1=j-i:=by
 unfold Builtin.Slice.slicePlaces;have h1:(1:Int) > 0:=by lia
 simp only[h1,if_true,Int.ediv_one];split<;> (clear h1;lia)
theorem i6 {v:Value} {o:Option Int} {Q:Option Int->Shared->Prop} (p:IsPart v o) (h:Q o s):wpAny (model prog w) A (Builtin.Slice.slicePartIndex v) Q E s:=by
 cases p with
 | none=>exact slicePart_none h
 | int i t=>exact slicePart_int h
theorem sliceApplied_gen {sl:Addr} {vl vu:Value} {lo hi:Option Int} {n:Nat} {Q:Int×Int×Nat->Shared->Prop} (hs:s.heap.IsSliceOf sl vl vu .none) (pl:IsPart vl lo) (pu:IsPart vu hi)
 (h:Q (((sIx n 0 lo:Nat):Int),1,sIx n n hi-sIx n 0 lo) s):wpAny (model prog w) A (Builtin.Slice.sliceApplied (.ref sl) (pure (n:Int))) Q E s:=by
 obtain⟨os,hos,hcs,hds⟩:=id hs;unfold Builtin.Slice.sliceApplied Builtin.Slice.sliceFields;refine wax (wax (wpAny_field hos hds (x:=vl) rfl (wax (wpAny_field hos hds (x:=vu) rfl (wax (wpAny_field hos hds (x:= .none) rfl (wpAny_pure ?_)))))));refine wax (slicePart_none ?_);show wpAny _ _ (if ((1:Int)==0)=true then _ else _) _ _ s;rw[ycw (by decide)];refine wax (i6 pl (wax (i6 pu (wax (wpAny_pure ?_)))));show wpAny _ _ (match Builtin.Slice.sliceAdjust lo hi 1 (n:Int) with | (lo,hi)=>pure (lo,(1:Int),Builtin.Slice.slicePlaces lo hi 1)) _ _ s;rw[ox lo hi n];show wpAny _ _ (pure (((sIx n 0 lo:Nat):Int),(1:Int),Builtin.Slice.slicePlaces ((sIx n 0 lo:Nat):Int) ((sIx n n hi:Nat):Int) 1)) _ _ s;rw[oy];exact wpAny_pure h
theorem sW (xs:Array Value) (i k:Nat):((List.range k).filterMap λ(m:Nat)=>xs[((i:Int)+(m:Int)*1).toNat]?).toArray=((xs.toList.drop i).take k).toArray:=by
 have e:(λ(m:Nat)=>xs[((i:Int)+(m:Int)*1).toNat]?)=λm=>xs[i+m]?:=by
  funext m
  have:((i:Int)+(m:Int)*1).toNat=i+m:=by lia
  rw[this]
 rw[e];have:=pick_run xs i k;rw[List.filterMap_map] at this;have e2:((λx=>xs[x]?) ∘ λx=>i+x)=λm=>xs[i+m]?:=rfl;rw[e2] at this;rw[this]
theorem getItem_tuple_cut {t sl:Addr} {vl vu:Value} {lo hi:Option Int} (ht:IsTup s.heap t items) (hs:s.heap.IsSliceOf sl vl vu .none) (pl:IsPart vl lo) (pu:IsPart vu hi)
 (hw:¬(sIx items.size 0 lo=0/\sIx items.size items.size hi=items.size))
 (h:Q (.ref s.heap.objs.size) { s with heap:=s.heap.push { cls:= .type "tuple",data:= .seq ((items.toList.drop (sIx items.size 0 lo)).take (sIx items.size items.size hi-sIx items.size 0 lo)).toArray } })
 (hsz:items.size<=sizeLine):wpAny (model prog w) A (getItem (.ref t) (.ref sl)) Q E s:=by
 have htake:sizeOk (.seq ((items.toList.drop (sIx items.size 0 lo)).take (sIx items.size items.size hi-sIx items.size 0 lo)).toArray):=by
  show((items.toList.drop (sIx items.size 0 lo)).take (sIx items.size items.size hi-sIx items.size 0 lo)).toArray.size<=sizeLine;rw[size_toArray,length_take,length_drop,Array.length_toList]
  (clear hw;lia)
 have hj:sIx items.size items.size hi<=items.size:=zw _ _ (ycx _) hi;obtain⟨os,hos,hcs,hds⟩:=id hs;have hTs:s.TypeIs (.ref sl) "slice":=⟨os,hos,hcs⟩;unfold getItem
 try with_reducible refine wpAny_holding ?_
 first | refine wax (wpAny_pure ?_) | skip
 refine wax (wpAny_sequenceKey ht.typeIs (by decide) ?_);refine wax (wpAny_callSpecial?_slot (name:=Str.ofString "__getitem__") ht.typeIs PyProof.Rows.slot_tuple_getitem
  (wpAny_call_entry PyProof.Rows.slot_tuple_getitem ht.typeIs entry_tuple_getitem ?_ (args_tuple_getitem _ _)))
 show wpAny _ _ (Builtin.Tuple.tupleItemsOf (.ref t) >>= _) _ _ s;refine wax (tupleItemsOf_ ht ?_);refine wax (wpAny_typeOf hTs ?_);rw[ycv (by decide)];refine wax (sliceApplied_gen hs pl pu ?_);have hno:¬((((sIx items.size 0 lo:Nat):Int)==0&&(1:Int)==1&&(sIx items.size items.size hi-sIx items.size 0 lo)==items.size)=true):=by
  intro q;rw[Bool.and_eq_true,Bool.and_eq_true] at q;have q1:((sIx items.size 0 lo:Nat):Int)=0:=eq_of_beq q.1.1;have q2:sIx items.size items.size hi-sIx items.size 0 lo=items.size:=eq_of_beq q.2;exact hw ⟨by (clear hw hsz hj q2;lia),by (clear hw hsz;lia)⟩
 show wpAny _ _ (if (((sIx items.size 0 lo:Nat):Int)==0&&(1:Int)==1&&(sIx items.size items.size hi-sIx items.size 0 lo)==items.size)=true then _ else _) _ _ s;rw[ycw hno,sW]
 first
  | exact wax (m:=Builtin.Tuple.tupleExact _) (wpAny_newObj_type (wpAny_pure ⟨_,rfl,wpAny_pure h⟩) htake)
  | exact wax (m:=Builtin.Tuple.tupleExact _) (wpAny_newObj_type (wax (wpAny_pure (wpAny_pure ⟨_,rfl,wpAny_pure h⟩))) htake)
  | exact wax (wax (m:=Builtin.Tuple.tupleExact _) (wpAny_newObj_type (wpAny_pure (wpAny_pure ⟨_,rfl,wpAny_pure h⟩)) htake))
  | exact wax (wax (m:=Builtin.Tuple.tupleExact _) (wpAny_newObj_type (wpAny_pure ⟨_,rfl,wpAny_pure h⟩) htake))
end
end HT
namespace L2
open PySem PySem.Spec PyProof.Rows
noncomputable abbrev TO:=St->Hp->(Option Int->Hp->Prop)->Prop
noncomputable def PO (X:Cx) (e:Option Expr) (t:TO):Prop:=
 ∀(π:List (Addr×Obj)) (s:Shared) (σ:St) (H:Hp) (Q:Option Int->Hp->Prop),aH X π σ H s->t σ H Q->
  wpAny (model X.prog X.w) X.A (evalPart e X.env) (λu s'=>∃o H',aH X π σ H' s'/\IsPart u o/\Q o H') X.xe s
noncomputable def vQ:TO:=λ_ H Q=>Q none H
noncomputable def Bw (t:TE):TO:=λσ H Q=>t σ H λx H1=>∃i,x=.int i/\Q (some i) H1
theorem intsAre_of {ns:List Int}:∀{us:yez},aT (ns.map V.int) us->IntsAre us ns:=by
 induction ns with
 | nil=>intro us r;rw[map_nil] at r;cases r;exact .nil
 | cons n ns ih=>
   intro us r;rw[map_cons] at r;cases r with
   | cons r1 r2=>
     obtain⟨t,e⟩:=r1;subst e;exact .cons n t (ih r2)
section
variable {X:Cx} {e:Expr} {te:TE} {lo hi:Option Expr} {tl th:TO} {pos p2:Pos}
theorem po_none:PO X none vQ:=by
 intro π s σ H Q I h;rw[evalPart_none];exact wpAny_pure ⟨none,H,I,.none,h⟩
theorem vR (h:PE X e te):PO X (some e) (Bw te):=by
 intro π s σ H Q I hw;rw[evalPart_some];refine ci (h π s σ H _ I hw) λu s1 z9=>?_;obtain⟨x,H1,I1,r1,q1⟩:=z9;obtain⟨i,rfl,q⟩:=q1;obtain⟨t,rfl⟩:=r1;exact⟨some i,H1,I1,.int i t,q⟩
noncomputable def Bx (X:Cx) (r:V->Option Int->Option Int->Hp->VK->Prop):Prop:=
 ∀(π:List (Addr×Obj)) (s:Shared) (σ:St) (H:Hp) (x:V) (v vl vu:Value) (lo hi:Option Int) (sl:Addr) (Q:VK),aH X π σ H s->bn x v->s.heap.IsSliceOf sl vl vu .none->IsPart vl lo->IsPart vu hi->r x lo hi H Q->
  ∃T id,typeLookup (.type T) "__getitem__"=pure (some (.builtin id))/\s.TypeIs v T/\wpAny (model X.prog X.w) X.A (getItem v (.ref sl)) (EP X π σ Q) X.xe s
noncomputable def GN (r:V->Option Int->Option Int->Hp->VK->Prop) (te:TE) (tl th:TO):TE:=λσ H Q=>te σ H λx H1=>tl σ H1 λl H2=>th σ H2 λu H3=>r x l u H3 Q
theorem sX {r:V->Option Int->Option Int->Hp->VK->Prop} (hr:Bx X r) (he:PE X e te) (hl:PO X lo tl) (hu:PO X hi th):PE X (.Subscript e (.Slice lo hi none p2) pos) (GN r te tl th):=by
 intro π s σ H Q I h;refine Subscript_ (ci (he π s σ H _ I h) λv s1 z9=>?_);obtain⟨x,H1,I1,r1,q1⟩:=z9;refine wpAny_Slice (ci (hl π s1 σ H1 _ I1 q1) λvl s2 ⟨l,H2,I2,pl,q2⟩=>ci (hu π s2 σ H2 _ I2 q2) λvu s3 z9=>?_);obtain⟨u,H3,I3,pu,q3⟩:=z9;rw[evalPart_none];refine wpAny_pure ?_;have I4:aH X π σ H3 { s3 with heap:=s3.heap.push { cls:= .type "slice",data:= .fields #[vl,vu,.none] } }:=I3.kept (t':=s3.toks) λb ob q=>ybz _ q;obtain⟨T,id,hT,ht,hg⟩:=hr π { s3 with heap:=s3.heap.push { cls:= .type "slice",data:= .fields #[vl,vu,.none] } } σ H3 x v vl vu l u s3.heap.objs.size Q I4 r1 (Heap.IsSliceOf.new ..) pl pu q3;show wpAny (model X.prog X.w) X.A (subscriptTail e (.Slice lo hi none p2) v (.ref s3.heap.objs.size)) (EP X π σ Q) X.xe { s3 with heap:=s3.heap.push { cls:= .type "slice",data:= .fields #[vl,vu,.none] } };exact tail_any (ops:=[.ref s3.heap.objs.size,v]) ht hT hg (by with_unfolding_all rfl)
noncomputable def lR (xs:List V) (lo hi:Option Int):List V:=(xs.drop (HT.sIx xs.length 0 lo)).take (HT.sIx xs.length xs.length hi-HT.sIx xs.length 0 lo)
theorem iz (xs:List V) (lo hi:Option Int):(lR xs lo hi).length<=xs.length:=by
 unfold lR;rw[length_take,length_drop];lia
noncomputable def Eo (K:yav):V->Option Int->Option Int->Hp->VK->Prop:=λx lo hi H Q=>∃a xs,x=.ref a/\dA K H a xs/\
 ¬(HT.sIx xs.length 0 lo=0/\HT.sIx xs.length xs.length hi=xs.length)/\∀p,H p=none->Q (.ref p) (upd H p (.tup (lR xs lo hi)))
theorem zx:Bx X (Eo X.K):=by
 intro π s σ H x v vl vu lo hi sl Q I rx hs pl pu h;obtain⟨a,xs,rfl,hx,hw,q⟩:=h;cases rx;obtain⟨its,r,ht,hz⟩:=I.tuple hx;have hlen:its.toArray.size=xs.length:=by rw[size_toArray];exact r.length.symm
 refine⟨"tuple",_,PyProof.Rows.slot_tuple_getitem.lookup,ht.typeIs,?_⟩;refine HT.getItem_tuple_cut ht hs pl pu (by rw[hlen];exact hw) ?_ (by rw[hlen];exact hz);rw[hlen];refine⟨.ref s.heap.objs.size,_,I.laid (t':=s.toks) (o:= .tup (lR xs lo hi)) (λb ob q=>ybz _ q) (ycx _) ?_,rfl,q _ (I.hok.fresh (ycx _))⟩;exact⟨ycy (iz xs lo hi) hz,_,(r.drop (HT.sIx xs.length 0 lo)).take (HT.sIx xs.length xs.length hi-HT.sIx xs.length 0 lo),IsTup.new _ _⟩
noncomputable def By (K:yav):R2:=λx y H Q=>∃a b xs ys,x=.ref a/\y=.ref b/\dA K H a xs/\dA K H b ys/\xs≠[]/\xs.length+ys.length<=sizeLine/\
 (ys=[]->Q (.ref a) H)/\(ys≠[]->∀p,H p=none->Q (.ref p) (upd H p (.tup (xs++ys))))
theorem aT.nil_iff {xs:List V} (r:aT xs us):us=[]↔xs=[]:=by
 cases r with
 | nil=>simp
 | cons _ _=>simp
theorem vS:gA X (binaryOp .Add) (By X.K):=by
 intro π s σ H x y v u Q I rx ry h;obtain⟨a,b,xs,ys,rfl,rfl,ha,hb,hx,hz,q1,q2⟩:=h;cases rx;cases ry;obtain⟨its,r1,p1,_⟩:=I.tuple ha;obtain⟨its2,r2,p2,_⟩:=I.tuple hb;refine HT.cat_tup p1 p2 (λz=>hx (r1.nil_iff.mp z)) (λz=>⟨.ref a,H,I,rfl,q1 (r2.nil_iff.mp z)⟩) (λz=>?_) (by rw[←r1.length,←r2.length];exact hz);refine⟨.ref s.heap.objs.size,_,I.laid (t':=s.toks) (o:= .tup (xs++ys)) (λb ob q=>ybz _ q) (ycx _) ?_,rfl,q2 (λw=>z (r2.nil_iff.mpr w)) _ (I.hok.fresh (ycx _))⟩;exact⟨by rw[length_append];exact hz,_,r1.append r2,IsTup.new _ _⟩
end
noncomputable def sY (n:Nat) (i:Int):Option Nat:=if 0<=i then (if i<n then some i.toNat else none) else if -(n:Int)<=i then some (i+n).toNat else none
noncomputable def eA {α:Type} (xs:List α) (i:Int):Option α:=(sY xs.length i).bind λj=>xs[j]?
theorem vT {n:Nat} {i:Int} {j:Nat} (h:sY n i=some j):seqIndex? i n=some j/\j<n/\-(n:Int)<=i/\i<n:=by
 unfold sY at h
 by_cases h0:0<=i
 ·rw[ycv h0] at h
  by_cases h1:i<n
  ·rw[ycv h1] at h;have e:i.toNat=j:=Option.some.inj h;exact⟨by rw[seqIndex_of h0 h1,e],by lia,by (clear h1 e;lia),h1⟩
  ·rw[ycw h1] at h;cases h
 ·rw[ycw h0] at h
  by_cases h1: -(n:Int)<=i
  ·rw[ycv h1] at h;have e:(i+n).toNat=j:=Option.some.inj h;exact⟨by rw[seqIndex_neg (by (clear h1 e;lia)) h1,e],by lia,h1,by (clear e;lia)⟩
  ·rw[ycw h1] at h;cases h
theorem kG {α:Type} {xs:List α} {i:Int} {v:α} (h:eA xs i=some v):∃j,seqIndex? i xs.length=some j/\xs[j]?=some v/\j<xs.length/\-(xs.length:Int)<=i/\i<xs.length:=by
 unfold eA at h;cases e:sY xs.length i with
 | none=>rw[e] at h;cases h
 | some j=>
   rw[e] at h;obtain⟨h1,h2,h3,h4⟩:=vT e;exact⟨j,h1,h,h2,h3,h4⟩
theorem eR {α:Type} {xs:List α} {j:Nat} {v:α} (h:xs[j]?=some v):eA xs (j:Int)=some v:=by
 have hj:j<xs.length:=(List.getElem?_eq_some_iff.mp h).1;have e:sY xs.length (j:Int)=some j:=by
  unfold sY;rw[ycv (by (clear h hj;lia)),ycv (by (clear h;lia))];simp
 unfold eA;rw[e];exact h
noncomputable def pF (b:Expr):Prop:=∀o i,subscripted b false o i=operate [o,i] (getItem o i)
noncomputable def Bz (X:Cx) (r:R2):Prop:=
 ∀(value slice:Expr) (π:List (Addr×Obj)) (s:Shared) (σ:St) (H:Hp) (x y:V) (v u:Value) (Q:VK),aH X π σ H s->bn x v->bn y u->r x y H Q->
  subscripted slice false v u=operate [v,u] (getItem v u)->wpAny (model X.prog X.w) X.A (subscriptTail value slice v u) (EP X π σ Q) X.xe s
noncomputable def Er (X:Cx) (id:String) (r:V->List V->Hp->VK->Prop):Prop:=
 ∀(π:List (Addr×Obj)) (s:Shared) (σ:St) (H:Hp) (x:V) (xs:List V) (v:Value) (us:yez) (Q:VK),aH X π σ H s->bn x v->aT xs us->r x xs H Q->
  wpAny (model X.prog X.w) X.A (call (.builtin id) (v::us)) (EP X π σ Q) X.xe s
section
variable {X:Cx} {a b:Expr} {ta tb:TE} {pos:Pos}
theorem BA {r:R2} (hr:Bz X r) (ha:PE X a ta) (hb:PE X b tb) (hs:pF b):PE X (.Subscript a b pos) (Bn r ta tb):=by
 intro π s σ H Q I h;exact Subscript_ (ze ha hb I h λv u s2 x y H2 I2 rx ry q=>hr a b π s2 σ H2 x y v u Q I2 rx ry q (hs _ _))
noncomputable def Es (K:yav):R2:=λx y H Q=>∃p xs i v,x=.ref p/\y=.int i/\dE K H p xs/\eA xs i=some v/\Q v H
noncomputable def Et (K:yav):R2:=λx y H Q=>∃p xs i v,x=.ref p/\y=.int i/\dA K H p xs/\eA xs i=some v/\Q v H
noncomputable def Eu:R2:=λx y H Q=>∃z i c,x=.str z/\y=.int i/\z.length<=sizeLine/\eA z.cps.toList i=some c/\Q (.str ⟨#[c]⟩) H
theorem pG:Bz X (Es X.K):=by
 intro value slice π s σ H x y v u Q I rx ry h hs;obtain⟨p,xs,i,z,rfl,rfl,hq,he,q⟩:=h;cases rx;obtain⟨t,rfl⟩:=ry;obtain⟨its,r,pl,hz⟩:=I.list hq;obtain⟨j,h1,h2,h3,h4,h5⟩:=kG he;obtain⟨w,ew,rw'⟩:=r.get h2;have hl:=r.length;have hn:=iY;have fin:EP X π σ Q w s:=⟨z,H,I,rw',q⟩
 by_cases h0:0<=i
 ·have hj:i.toNat=j:=by
   rw[seqIndex_of h0 h5] at h1;exact Option.some.inj h1
  exact item_listR pl.isList h0 (by (clear h2 h3 h4 ew h0 hj;lia)) (by rw[hj];simpa using ew) fin hs
 ·have hj:(i+(its.toArray.size:Int)).toNat=j:=by
   rw[seqIndex_neg (by (clear hz h2 h3 h4 h5 ew hl hn;lia)) h4] at h1;rw[size_toArray,←hl];exact Option.some.inj h1
  exact subscriptTail_builtinR (x:=w) pl.isList.typeIs slot_list_getitem.lookup
   (wpAny_getItem_list_neg (Q:=λr s'=>r=w/\EP X π σ Q r s') pl.isList (by (clear hz h2 h3 h4 h5 ew hl hn hj;lia)) (by rw[size_toArray]<;> (clear hz h2 h3 h5 ew hn h0 hj;lia)) (by (clear h2 h3 h5 ew h0 hj;lia)) (by rw[hj];simpa using ew) ⟨rfl,fin⟩) hs
theorem zy:Bz X (Et X.K):=by
 intro value slice π s σ H x y v u Q I rx ry h hs;obtain⟨p,xs,i,z,rfl,rfl,hq,he,q⟩:=h;cases rx;obtain⟨t,rfl⟩:=ry;obtain⟨its,r,pl,hz⟩:=I.tuple hq;obtain⟨j,h1,h2,h3,h4,h5⟩:=kG he;obtain⟨w,ew,rw'⟩:=r.get h2;have hl:=r.length;have hn:=iY;have fin:EP X π σ Q w s:=⟨z,H,I,rw',q⟩;exact subscriptTail_builtinR (x:=w) pl.typeIs slot_tuple_getitem.lookup
  (getItem_tuple (j:=j) (Q:=λr s'=>r=w/\EP X π σ Q r s') pl (by (clear h2 h5 ew;lia)) (by (clear h2 h4 ew;lia)) (by rw[size_toArray,←hl];exact h1) (by simpa using ew) ⟨rfl,fin⟩) hs
theorem zz:Bz X Eu:=by
 intro value slice π s σ H x y v u Q I rx ry h hs;obtain⟨z,i,c,rfl,rfl,hz,he,q⟩:=h;obtain⟨t,rfl⟩:=rx;obtain⟨t',rfl⟩:=ry;obtain⟨j,h1,h2,h3,h4,h5⟩:=kG he;have hl:z.cps.toList.length=z.length:=by simp[Str.length]
 rw[hl] at h1 h4 h5;have hn:=iY;exact tail_any (typeIs_str s z t) slot_str_getitem.lookup (getItem_str (c:=c) (by
  have e1:decide (i< -(2^63:Int))=false:=ydy (by (clear h2 h3 h5;lia));have e2:decide (i≥2^63)=false:=ydy (by (clear h2 h3 h4 e1;lia));rw[e1,e2,Bool.or_false]) (by rw[h1];simpa using h2) ⟨.str ⟨#[c]⟩,H,I.tok _,⟨_,rfl⟩,q⟩) hs
theorem kH (lo hi:Option Int) (n:Nat):(sliceBounds lo hi none n).1=((HT.sIx n 0 lo:Nat):Int)/\(sliceBounds lo hi none n).2.1=((HT.sIx n n hi:Nat):Int)/\(sliceBounds lo hi none n).2.2=1:=by
 refine⟨?_,?_,rfl⟩
 ·cases lo with
  | none=>simp[sliceBounds,HT.sIx]
  | some i=>
    simp only[sliceBounds,HT.sIx,Option.getD_none,show(1:Int) > 0 by decide,if_true]
    by_cases h:i<0
    ·simp only[h,if_true]<;> lia
    ·simp only[h,if_false]<;> lia
 ·cases hi with
  | none=>simp[sliceBounds,HT.sIx]
  | some i=>
    simp only[sliceBounds,HT.sIx,Option.getD_none,show(1:Int) > 0 by decide,if_true]
    by_cases h:i<0
    ·simp only[h,if_true]<;> lia
    ·simp only[h,if_false]<;> lia
theorem jE (its:yez) (lo hi:Option Int):slicePick its.toArray lo hi none=((its.drop (HT.sIx its.length 0 lo)).take (HT.sIx its.length its.length hi-HT.sIx its.length 0 lo)).toArray:=by
 obtain⟨h1,h2,h3⟩:=kH lo hi its.toArray.size;unfold slicePick;rw[h1,h2,h3];simp only[sliceRange_one,pick_run,size_toArray]<;> rfl
noncomputable def Ev (K:yav):V->Option Int->Option Int->Hp->VK->Prop:=λx lo hi H Q=>∃a xs,x=.ref a/\dE K H a xs/\∀p,H p=none->Q (.ref p) (upd H p (.lst (lR xs lo hi)))
theorem pH:Bx X (Ev X.K):=by
 intro π s σ H x v vl vu lo hi sl Q I rx hs pl pu h;obtain⟨a,xs,rfl,hx,q⟩:=h;cases rx;obtain⟨its,r,ht,hz⟩:=I.list hx;have hlen:=r.length;refine⟨"list",_,slot_list_getitem.lookup,ht.isList.typeIs,?_⟩;refine wpAny_getItem_list_slice ht.isList hs pl pu .none (by simp) ?_ (by rw[size_toArray]<;> lia);rw[jE,←hlen];refine⟨.ref s.heap.objs.size,_,I.laid (t':=s.toks) (o:= .lst (lR xs lo hi)) (λb ob q=>ybz _ q) (ycx _) ?_,rfl,q _ (I.hok.fresh (ycx _))⟩;exact⟨ycy (iz xs lo hi) hz,_,0,(r.drop (HT.sIx xs.length 0 lo)).take (HT.sIx xs.length xs.length hi-HT.sIx xs.length 0 lo),ybw _ rfl⟩
theorem eS:fV X (.builtin "len") (λxs H Q=>∃p ys,xs=[.ref p]/\(dE X.K H p ys∨dA X.K H p ys)/\Q (.int ys.length) H):=by
 intro π s σ H xs us Q I r h;obtain⟨p,ys,rfl,hq,q⟩:=h;obtain⟨u,rfl,rx⟩:=dZ r;cases rx;have hn:=iY;rcases hq with hq | hq
 ·obtain⟨its,r',pl,hz⟩:=I.list hq;have hlen:=r'.length;exact Calls.call_len_list pl.isList (by simp only[size_toArray]<;> lia) ⟨.int ys.length,H,I.tok _,⟨s.toks+1,by rw[size_toArray,hlen]⟩,q⟩
 ·obtain⟨its,r',pl,hz⟩:=I.tuple hq;have hlen:=r'.length;exact len_tuple pl (by simp only[size_toArray]<;> lia) ⟨.int ys.length,H,I.tok _,⟨s.toks+1,by rw[size_toArray,hlen]⟩,q⟩
theorem kI:fV X (.builtin "len") (λxs H Q=>∃z,xs=[.str z]/\z.length<=sizeLine/\Q (.int z.length) H):=by
 intro π s σ H xs us Q I r h;obtain⟨z,rfl,hz,q⟩:=h;obtain⟨u,rfl,t,rfl⟩:=dZ r;have hn:=iY;exact len_str (by lia) ⟨.int z.length,H,I.tok _,⟨_,rfl⟩,q⟩
theorem fW:fV X (.type "tuple") (λxs H Q=>∃p ys,xs=[.ref p]/\((dE X.K H p ys/\∀l,H l=none->Q (.ref l) (upd H l (.tup ys)))∨(dA X.K H p ys/\Q (.ref p) H))):=by
 intro π s σ H xs us Q I r h;obtain⟨p,ys,rfl,h⟩:=h;obtain⟨u,rfl,rx⟩:=dZ r;cases rx;rcases h with⟨hq,q⟩ | ⟨hq,q⟩
 ·obtain⟨its,r',pl,hz⟩:=I.list hq;have hlen:=r'.length;refine call_tuple_list pl.isList (λh' kp=>?_) (by simp only[size_toArray]<;> lia);have I1:aH X π σ H { s with heap:=h' }:=I.kept (t':=s.toks) kp;have I2:aH X π σ (upd H h'.objs.size (.tup ys)) { s with heap:=h'.push { cls:= .type "tuple",data:= .seq its.toArray } }:=
   I1.laid (t':=s.toks) (λb o e=>ybz _ e) (ycx _) (show ca X.prog X.w _ _ _ (.tup ys) from ⟨hz,its,r',IsTup.new _ _⟩)
  exact⟨.ref h'.objs.size,_,I2,rfl,q _ (I1.hok.fresh (ycx _))⟩
 ·obtain⟨its,r',pl,hz⟩:=I.tuple hq;exact call_tuple_same pl ⟨.ref p,H,I,rfl,q⟩
noncomputable def Ew (K:yav) (T:String) (x:V) (H:Hp):Prop:=match x with
 | .str _=>T="str"
 | .int _=>T="int"
 | .ref p=>(T="list"/\∃xs,dE K H p xs)∨(T="tuple"/\∃o,K.lookup p=some o/\o.cls=.type "tuple"/\o.dict=none)∨
    (T="dict"/\((∃kvs,H p=some (.dK kvs))∨∃kvs,H p=some (.dT kvs)))∨(T="set"/\∃S n,H p=some (.set S n))
 | _=>False
theorem sZ {σ:St} {H:Hp} {T:String} {x:V} {v:Value} (I:aH X π σ H s) (r:bn x v) (ty:Ew X.K T x H):
 s.TypeIs v T/\∀a,v=.ref a->∃ob,s.heap.get? a=some ob/\ob.dict=none:=by
 cases x with
 | str z=>
   obtain⟨t,rfl⟩:=r;cases (show T="str" from ty);exact⟨typeIs_str s z t,λ_ e=>nomatch e⟩
 | int i=>
   obtain⟨t,rfl⟩:=r;cases (show T="int" from ty);exact⟨typeIs_int s i t,λ_ e=>nomatch e⟩
 | ref p=>
   cases r;rcases ty with⟨rfl,xs,hq⟩ | ⟨rfl,o,hk,hc,hd⟩ | ⟨rfl,hk⟩ | ⟨rfl,S,n,hk⟩
   ·obtain⟨its,_,pl,_⟩:=I.list hq;refine⟨pl.isList.typeIs,λa e=>?_⟩;cases e;obtain⟨o,n,e,c,hd,_⟩:=pl;exact⟨o,e,hd⟩
   ·refine⟨⟨o,I.kIn p o hk,hc⟩,λa e=>?_⟩;cases e;exact⟨o,I.kIn _ o hk,hd⟩
   ·have z:∃o,s.heap.get? p=some o/\o.ExactDict:=by
     rcases hk with⟨kvs,hk⟩ | ⟨kvs,hk⟩
     ·obtain⟨_,_,_,_,o,_,_,e,ex,_⟩:=I.hok p _ hk;exact⟨o,e,ex⟩
     ·obtain⟨_,_,_,_,o,_,_,e,ex,_⟩:=I.hok p _ hk;exact⟨o,e,ex⟩
    obtain⟨o,e,ex⟩:=z;refine⟨⟨o,e,ex.1⟩,λa e2=>?_⟩;cases e2;exact⟨o,e,ex.2.1⟩
   ·obtain⟨o,_,_,_,e,ex,_⟩:=I.hok p _ hk;refine⟨⟨o,e,ex.1⟩,λa e2=>?_⟩;cases e2;exact⟨o,e,ex.2.1⟩
 | _=>exact False.elim ty
noncomputable def Ex (K:yav) (T:String) (r:V->List V->Hp->VK->Prop) (to:TE):TE:=λσ H Q=>to σ H λx H1=>Ew K T x H1/\r x [] H1 Q
noncomputable def GP (K:yav) (T:String) (r:V->List V->Hp->VK->Prop) (to:TE) (t:TA):TE:=λσ H Q=>to σ H λx H1=>Ew K T x H1/\t σ H1 λxs H2=>r x xs H2 Q
variable {o e:Expr} {es:List Expr} {to:TE} {t:TA} {name:Str} {apos cpos:Pos} {T id:String} {r:V->List V->Hp->VK->Prop}
theorem zA (pa:PlainAttrs T) (slot:Slot T name id) (hty:typeOf (.builtin id)=pure (.type "method_descriptor")) (hm:Er X id r) (ho:PE X o to)
 (hbase:attributeBase o name X.env (eval o X.env)=eval o X.env:=by rfl) (hline:(apos.endLine==cpos.line)=true:=by rfl):PE X (.Call (.Attribute o name apos) [] [] cpos) (Ex X.K T r to):=by
 intro π s σ H Q I h;refine wpAny_Call_method0_late hbase hline (ci (ho π s σ H _ I h) λv s1 z9=>?_);obtain⟨x,H1,I1,r1,ty,q1⟩:=z9;obtain⟨h1,h2⟩:=sZ I1 r1 ty;exact⟨T,id,pa,slot,hty,h1,h2,Calls.callWith_builtin rfl (PySem.evalArgs_none (hm π s1 σ H1 x [] v [] Q I1 r1 .nil q1))⟩
theorem tf (pa:PlainAttrs T) (slot:Slot T name id) (hty:typeOf (.builtin id)=pure (.type "method_descriptor")) (hm:Er X id r) (ho:PE X o to) (ha:PA X (e::es) t)
 (hbase:attributeBase o name X.env (eval o X.env)=eval o X.env:=by rfl)
 (hfew:((backTo cpos (starEach (e::es) X.env)).all (λx=>!x.1)&&(backToKw cpos (keywordEach [] X.env)).all (λx=>x.1.isSome)
   &&decide ((e::es).length+([]:List Keyword).length+(if ([]:List Keyword).isEmpty then 0 else 1)<30))=true:=by rfl)
 (hline:(apos.endLine==cpos.line)=true:=by rfl) (hs:starEach (e::es) X.env=(false,eval e X.env)::starEach es X.env:=by rfl) (hplain:(backTo cpos (starEach es X.env)).any (·.1)=false:=by rfl):
 PE X (.Call (.Attribute o name apos) (e::es) [] cpos) (GP X.K T r to t):=by
 intro π s σ H Q I h;refine wpAny_Call_method_late hbase hfew hline rfl (ci (ho π s σ H _ I h) λv s1 z9=>?_);obtain⟨x,H1,I1,r1,ty,q1⟩:=z9;obtain⟨h1,h2⟩:=sZ I1 r1 ty;refine⟨T,id,pa,slot,hty,h1,h2,?_⟩;have hA:=ha cpos π s1 σ H1 _ I1 q1;rw[hs] at hA ⊢;refine Calls.callWith_builtin (by show(false||(backTo cpos (starEach es X.env)).any (·.1))=false;rw[hplain]<;> rfl) (Calls.evalArgs_plain ?_);exact ci hA λus s2 ⟨vs,H2,I2,r2,q2⟩=>hm π s2 σ H2 x vs v us Q I2 r1 r2 q2
end
noncomputable def Ey (X:Cx) (id:String) (r:V->List V->Hp->VK->Prop):Prop:=
 ∀(π:List (Addr×Obj)) (s:Shared) (σ:St) (H:Hp) (x:V) (xs:List V) (v:Value) (us:yez) (Q:VK),aH X π σ H s->bn x v->aT xs us->r x xs H Q->
  wpAny (model X.prog X.w) X.A (call (.builtin id) (v::us)) (EP X π σ Q) X.xe s
theorem aT.one:∀{x:V} {us:yez},aT [x] us->∃u,us=[u]/\bn x u
 | _,_,.cons r .nil=>⟨_,rfl,r⟩
theorem aT.zero:∀{us:yez},aT [] us->us=[]
 | _,.nil=>rfl
theorem aT.dropLast {xs:List V} (h:aT xs us):aT xs.dropLast us.dropLast:=by
 induction h with
 | nil=>exact .nil
 | cons r t ih=>
   cases t with
   | nil=>exact .nil
   | cons q t'=>exact .cons r ih
theorem aT.rep {xs:List V} {us:yez} (h:aT xs us):∀k:Nat,aT (List.replicate k xs).flatten (List.replicate k us).flatten
 | 0=> .nil
 | k+1=>by
   rw[replicate_succ,replicate_succ,flatten_cons,flatten_cons];exact aT.append h (aT.rep h k)
theorem oz {α:Type} (l:List α):l.eraseIdx (l.length-1)=l.dropLast:=by
 induction l with
 | nil=>rfl
 | cons a r ih=>
   cases r with
   | nil=>rfl
   | cons b r=>
     have e:(a::b::r).length-1=((b::r).length-1)+1:=by
      have h1:(a::b::r).length=r.length+2:=rfl;have h2:(b::r).length=r.length+1:=rfl;assumption
     rw[e,List.eraseIdx_cons_succ,ih]
     all_goals rfl
theorem ia (its:yez):∀(k:Nat) (acc:yez),
 List.foldl (λx1 x2=>x1++x2) acc.toArray (List.replicate k its.toArray)=(acc++(List.replicate k its).flatten).toArray
 | 0,acc=>by simp
 | k+1,acc=>by
   have e:acc.toArray++its.toArray=(acc++its).toArray:=by simp
   have e2:(acc++its)++(List.replicate k its).flatten=acc++(List.replicate (k+1) its).flatten:=by
    rw[replicate_succ,flatten_cons,append_assoc]
   rw[←e2,←ia its k (acc++its),←e,replicate_succ,foldl_cons]
section
variable {X:Cx} {π:List (Addr×Obj)} {σ:St} {H:Hp} {s:Shared} {l b:Addr} {xs ys zs:List V}
theorem aH.lset {its its':yez} {n:Nat} {f:Array Value->Array Value} {t':Nat} (I:aH X π σ H s) (hH:H l=some (.lst xs))
 (e:s.heap.get? l=some { cls:= .type "list",data:= .seq its.toArray n }) (hf:f its.toArray=its'.toArray) (hv:aT ys its') (hz:ys.length<=sizeLine):
 aH X π σ (upd H l (.lst ys)) { s with heap:=s.heap.update l (Obj.mapSeq f),toks:=t' }:=by
 have q:=PySem.IsL.update e f;rw[hf] at q;refine I.write (x:=l) (e:=l) (by rw[hH];exact trivial) (.inl rfl) (λb' u hb hu=>(Heap.get?_update_other s.heap (Obj.mapSeq f) (Ne.symm hb)).trans hu) ⟨_,q⟩ ?_;exact⟨hz,its',_,hv,q⟩
theorem aH.lnew {its:yez} {t':Nat} (I:aH X π σ H s) (hv:aT ys its) (hz:ys.length<=sizeLine):
 aH X π σ (upd H s.heap.objs.size (.lst ys)) { s with heap:=s.heap.push { cls:= .type "list",data:= .seq its.toArray },toks:=t' }:=
 I.laid (λ_ _ q=>ybz _ q) (ycx _) ⟨hz,its,0,hv,ybw _ rfl⟩
theorem aH.fresh (I:aH X π σ H s):H s.heap.objs.size=none:=I.hok.fresh (ycx _)
theorem aH.lstM (I:aH X π σ H s) (hH:H l=some (.lst xs)):xs.length<=sizeLine/\∃(its:yez) (n:Nat),aT xs its/\xs.length=its.length/\s.heap.get? l=some { cls:= .type "list",data:= .seq its.toArray n }:=by
 obtain⟨z,its,n,r,e⟩:=I.hok l _ hH;exact⟨z,its,n,r,r.length,e⟩
theorem lS {n:Nat} (h:n<=sizeLine):Builtin.List.listTooLong n=false:=by
 unfold Builtin.List.listTooLong;exact ydy (by lia)
end
section
variable {X:Cx}
noncomputable def vU:V->List V->Hp->VK->Prop:=λx vs H Q=>∃l xs y,x=.ref l/\vs=[y]/\H l=some (.lst xs)/\xs.length<sizeLine/\Q .non (upd H l (.lst (xs++[y])))
theorem rf:Ey X "list.append" vU:=by
 intro π s σ H x vs v us Q I rx rv h;obtain⟨l,xs,y,rfl,rfl,hH,hz,q⟩:=h;cases rx;obtain⟨u,rfl,ru⟩:=rv.one;obtain⟨z,its,n,r,hl,e⟩:=I.lstM hH;refine call_meets F.slot_list_append ⟨_,e,rfl⟩ F.entry_list_append (F.args_list_append_2 _ _) (PySem.list_append l its.toArray n u (by rw[size_toArray];(clear z;lia))) ⟨e,?_⟩;refine⟨.non,_,I.lset (its':=its++[u]) hH e (by simp) (r.append (.cons ru .nil)) ?_,rfl,q⟩;rw[length_append,length_singleton];assumption
noncomputable def vV:V->List V->Hp->VK->Prop:=λx vs H Q=>∃l b xs zs,x=.ref l/\vs=[.ref b]/\H l=some (.lst xs)/\H b=some (.lst zs)/\xs.length+zs.length<=sizeLine/\Q .non (upd H l (.lst (xs++zs)))
theorem rh:Ey X "list.extend" vV:=by
 intro π s σ H x vs v us Q I rx rv h;obtain⟨l,b,xs,zs,rfl,rfl,hH,hB,hz,q⟩:=h;cases rx;obtain⟨u,rfl,ru⟩:=rv.one;cases ru;obtain⟨z,its,n,r,hl,e⟩:=I.lstM hH;obtain⟨z2,its2,n2,r2,hl2,e2⟩:=I.lstM hB;have hsz:its.toArray.size+its2.toArray.size<=sizeLine:=by rw[size_toArray,size_toArray];(clear z z2;lia)
 have hlong:¬(!its.toArray.isEmpty&&Builtin.List.listTooLong (its.toArray.size+its2.toArray.size))=true:=by
  rw[lS hsz,Bool.and_false];exact ydx
 refine call_meets F.slot_list_extend ⟨_,e,rfl⟩ F.entry_list_extend (F.args_list_extend_2 _ _)
  (AutoSeq1.list_extend_list_list_0 l its.toArray n b its2.toArray n2 hlong (by rw[size_toArray];(clear hz z2 hl2 hsz;lia)) (by lia)) ⟨e,e2,?_⟩
 refine⟨.non,_,I.lset (its':=its++its2) hH e (by simp) (r.append r2) ?_,rfl,q⟩;rw[length_append];assumption
noncomputable def Ez:V->List V->Hp->VK->Prop:=λx vs H Q=>∃l xs y,x=.ref l/\vs=[]/\H l=some (.lst xs)/\xs[xs.length-1]?=some y/\Q y (upd H l (.lst xs.dropLast))
theorem zB:Ey X "list.pop" Ez:=by
 intro π s σ H x vs v us Q I rx rv h;obtain⟨l,xs,y,rfl,rfl,hH,hy,q⟩:=h;cases rx;have hus:=rv.zero;subst hus;obtain⟨z,its,n,r,hl,e⟩:=I.lstM hH;obtain⟨u,hu,ru⟩:=r.get hy;have hy':its.toArray[its.toArray.size-1]?=some u:=by
  show its.toArray[its.length-1]?=some u;rw[←Array.getElem?_toList,←hl];exact hu
 refine call_meets F.slot_list_pop ⟨_,e,rfl⟩ F.entry_list_pop (F.args_list_pop_1 _) (MeetsSeq.list_pop_last l its.toArray n u hy' (by rw[size_toArray];(clear hy hu hy';lia))) ⟨e,?_⟩;refine⟨y,_,I.lset (its':=its.dropLast) hH e ?_ r.dropLast ?_,ru,q⟩
 ·show its.toArray.eraseIdxIfInBounds (its.toArray.size-1)=its.dropLast.toArray;rw[size_toArray,List.eraseIdxIfInBounds_toArray,oz]
 ·rw[List.length_dropLast]
  (clear hy hu hy';lia)
noncomputable def EA:R2:=λx y H Q=>∃l b xs zs,x=.ref l/\y=.ref b/\H l=some (.lst xs)/\H b=some (.lst zs)/\xs.length+zs.length<=sizeLine/\∀p,H p=none->Q (.ref p) (upd H p (.lst (xs++zs)))
theorem zC:gA X (binaryOp .Add) EA:=by
 intro π s σ H x y v u Q I rx ry h;obtain⟨l,b,xs,zs,rfl,rfl,hH,hB,hz,q⟩:=h;cases rx;cases ry;obtain⟨z,its,n,r,hl,e⟩:=I.lstM hH;obtain⟨z2,its2,n2,r2,hl2,e2⟩:=I.lstM hB;refine PySem.P.add_list e e2 ?_ (by rw[size_toArray,size_toArray];(clear z z2;lia));have ea:its.toArray++its2.toArray=(its++its2).toArray:=by simp
 rw[ea];exact⟨.ref _,_,I.lnew (t':=s.toks) (r.append r2) (by rw[length_append];assumption),rfl,q _ I.fresh⟩
noncomputable def EB:R2:=λx y H Q=>∃l k xs,x=.ref l/\y=.int k/\H l=some (.lst xs)/\-(2^63)<=k/\k<2^63/\xs.length*k.toNat<=sizeLine/\
 ∀p,H p=none->Q (.ref p) (upd H p (.lst (List.replicate k.toNat xs).flatten))
theorem iL {α:Type} (xs:List α) (k:Nat):(List.replicate k xs).flatten.length=k*xs.length:=by
 induction k with
 | zero=>simp
 | succ k ih=>rw[replicate_succ,flatten_cons,length_append,ih,Nat.succ_mul,Nat.add_comm]
theorem zD:gA X (binaryOp .Mult) EB:=by
 intro π s σ H x y v u Q I rx ry h;obtain⟨l,k,xs,rfl,rfl,hH,h1,h2,hz,q⟩:=h;cases rx;obtain⟨t,rfl⟩:=ry;obtain⟨z,its,n,r,hl,e⟩:=I.lstM hH;have hlen:its.toArray.size*k.toNat<=sizeLine:=by rw[size_toArray,←hl];exact hz
 have hcap:¬its.toArray.size*k.toNat > (2^63-1)/8:=by
  have:(sizeLine:Nat)<=(2^63-1)/8:=by decide
  (clear h1 h2 hz z hl;lia)
 have hfit:¬(!Builtin.List.listFitsIndex k)=true:=by
  rw[fitsIndex_both h1 h2];exact ydx
 have hlong:¬Builtin.List.listTooLong (its.toArray.size*k.toNat)=true:=by
  rw[lS hlen];exact ydx
 have hnew:List.foldl (λx1 x2=>x1++x2) #[] (List.replicate (if its.toArray.isEmpty=true then 0 else k.toNat) its.toArray)=(List.replicate k.toNat its).flatten.toArray:=by
  have f0:∀m:Nat,List.foldl (λx1 x2=>x1++x2) #[] (List.replicate m its.toArray)=(List.replicate m its).flatten.toArray:=λm=>by
   have:=ia its m [];rw[nil_append] at this;exact this
  rw[f0];cases its with
  | nil=>simp
  | cons a r'=>rw[ycw (by simp)]
 refine wpAny_binaryOp_repeat_ref (T:="list") (U:="int") (by decide) ⟨_,e,rfl⟩ (λs'=>typeIs_int s' k t) noFill_list_mul F.fills_int_mul F.slot_int_rmul repeat_list F.slot_int_index.lookup
  (call_meets F.slot_int_rmul (typeIs_int s k t) F.entry_int_rmul (F.args_int_rmul_2 _ _) (int___rmul___int_list k t l its.toArray n)
    ⟨e,rfl,⟨_,e,rfl⟩,call_meets F.slot_list_mul ⟨_,e,rfl⟩ F.entry_list_mul (F.args_list_mul_2 _ _) (AutoListH.list___mul___list_int_3 l its.toArray n k t hfit hcap hlong) ⟨e,?_⟩⟩)
 rw[hnew];exact⟨.ref _,_,I.lnew (t':=s.toks) (r.rep k.toNat) (by rw[iL,Nat.mul_comm];exact hz),rfl,q _ I.fresh⟩
end
section
variable {prog:Program} {w:World} {A:Around} {E:yey} {s:Shared}
set_option maxRecDepth 100000 in
end
section
variable {X:Cx}
end
end L2
namespace Att
open PySem PySem.W PySem.Calls PyProof.Rows
theorem iJ {P:Params} {h:Heap}:∀(ns:List Int) (vs:yez),WellAll P h vs (ns.map WData.int)->IntsAre vs ns:=by
 intro ns
 induction ns with
 | nil=>
   intro vs w;rw[map_nil] at w;cases w;exact .nil
 | cons n ns ih=>
   intro vs w;rw[map_cons] at w;cases w with
   | cons a b=>
     cases a;exact .cons _ _ (ih _ b)
theorem rl {l:OpenLaw} {n:Nat} (hn:l.most=some n) {P:Params} {h:Heap} {args:List WData} {vals:yez}
 (hpre:l.row.toRowW.claim.pre args=true) (hwl:WellAll P h vals args):
 ∃a vs ns,vals=[Value.ref a]/\args=[WData.list (ns.map WData.int)]/\h.get? a=some { cls:= .type "list",data:= .seq vs.toArray }/\IntsAre vs ns/\ns.length<=n:=by
 have hsh:WShape.hasAll [] args [.list .int]=true:=(pre_splitW hpre).1;have hc:l.pre.holds [] { args:=args }=true:=(pre_splitW hpre).2;obtain⟨d,r,rfl,h1,h2⟩:=hasAllW_cons hsh;obtain rfl:=hasAllW_nil h2;obtain⟨xs,rfl,h3⟩:=hasW_list h1;obtain⟨ns,rfl⟩:=items_int h3;have hlen:ns.length<=n:=by
  unfold OpenLaw.pre at hc;have h4:(WTm.not (.lt (.lit (.int (n:Int))) (.len (.arg 0)))).holds [] { args:=[.list (ns.map .int)] }=true:=by
   have h4:=(holds_andW hc).1;rw[hn] at h4;exact h4
  have h5:=condW_of h4 (w_not (w_lt w_lit (w_len_list (w_arg rfl))));rw[length_map] at h5;refine Nat.le_of_not_lt λq=>?_;have q':(n:Int)<((ns.length:Nat):Int):=by (clear h5;lia)
  first
   | (rw[ydz q'] at h5;exact absurd h5 (by decide))
   | (simp at h5;lia)
 cases hwl with
 | cons w1 w2=>
   cases w2;cases w1 with
   | list ho hall=>exact⟨_,_,ns,rfl,rfl,ho,iJ ns _ hall,hlen⟩
theorem rm (l:OpenLaw) (args:List WData):l.row.toRowW.claim.post args (.bool true) args=true:=
 postW_of (r:=l.row.toRowW) (X:=(true==true))
  (show WShape.has [] (.bool true) .bool=true by first | rfl | decide | simp[WShape.has,WShape.arms,WShape.armsAll])
  (show(WTm.eq .res (.lit (.bool true))).value [] { args:=args,res:=some (.bool true),after:=args }=some (.bool (true==true)) from w_eq_bool (w_res rfl) w_lit) rfl
theorem attach_call {l:OpenLaw} {n:Nat} {q:Program} {loose:List Str} {XP:(Str->Option Value)->Heap->Prop} {YP:World->Heap->Prop} {d:DefRec}
 (hn:l.most=some n) (hdf:d.params.defaults=[])
 (call:∀(w:World) (s₀ s₁:Shared) (mg mb:yew) (fa:Addr) (o:Obj) (pm cd doc:Value) (a:Addr) (vs:yez) (ns:List Int),
   Ground q loose [] XP w s₀ mg mb s₁.heap->YP w s₁.heap->
   s₁.heap.get? fa=some o->o.data=.func (docDef d.name d.params d.body d.scope pm cd doc)->s₁.heap.CodeRec cd d.name->mg d.name=some (.ref fa)->
   s₁.heap.get? a=some { cls:= .type "list",data:= .seq vs.toArray }->IntsAre vs ns->ns.length<=n->s₁.gens= #[]->
   codeAny (model l.prog w) callerA (.call (.ref fa) ⟨[.ref a],[]⟩) (λr s'=>r=.ok (.ret (.bool true))/\OldK s₁.heap s'.heap/\s'.os=s₁.os/\AllBare s'.gens) s₁):
 WalkO q loose XP YP l.row.toRowW d [] (λf vs=>PySem.call f vs):=by
 intro w s₀ s₁ mg mb G Y fa o pm cd doc dV kV ho hd hcd hD hmg hg args vals as hpre hlay hrd hwl hlo;obtain rfl:dV=.none:=Dflts.none hD hdf;obtain rfl:kV=.none:=Dflts.noKw hD;obtain⟨a,vs,ns,rfl,rfl,hobj,hints,hlen⟩:=rl hn hpre hwl;refine enter_call (codeAny_mono (call w s₀ s₁ mg mb fa o pm cd doc a vs ns G Y ho (fd_plain hd) hcd hmg hobj hints hlen hg) λr s' hq=>?_);obtain⟨rfl,h2,h3,h4⟩:=hq;exact⟨.inl ⟨.bool true,.bool true,[],rfl,λ_=>rfl,.bool true,rm l _,λ_=>⟨List.Pairwise.nil,λ_ hm=>(nomatch hm)⟩⟩,h2,h3,h4⟩
section
variable {prog:Program} {w:World} {A:Around} {E:yey} {s:Shared} {K:Frag}
end
end Att
namespace L2
open PySem PySem.Spec PyProof.Rows
theorem jS:∀{vs:yez} {ns:List Int},IntsAre vs ns->aT (ns.map V.int) vs
 | _,_,.nil=> .nil
 | _,_,.cons n t h=> .cons ⟨t,rfl⟩ (jS h)
noncomputable def tj (H:Hp):Prop:=∀b,H b=none∨∃o xs,H b=some (.frz o (.lst xs))
theorem tm {mg mb:yew} {CX:q0} {fa a:Addr} {sp:Sp} {s₁:Shared} {vs:yez} {ns:List Int}
 (KX:K.In s₁.heap) (hns:s₁.heap.Ns mainGlobals mg) (hb:s₁.heap.Ns builtinsNs mb) (hbb:∀x:Str,x≠"__name__"->mb x=bootBuiltins x) (hlim:s₁.heap.NoLimit) (hg:s₁.gens= #[])
 (ha:s₁.heap.get? a=some { cls:= .type "list",data:= .seq vs.toArray }) (hi:IntsAre vs ns) (hl:ns.length<=sizeLine) (hr:aw k callerA)
 (F:∀base:Heap,K.In base->base.Ns mainGlobals mg->gj P w K mg base CX k fa fd [x] sp) (hbind:∀(s:Shared) (u:Value),BindsTo s fd ⟨[u],[]⟩ [(x,u)])
 (hsp:∀H:Hp,tj H->dE K H a (ns.map V.int)->sp [.ref a] H (λv _=>v=.bl true) λ_ _ _=>False)
 (hCX:∀H e s',CX [] H s₁ (λ_ _ _=>False) e s'->False):
 codeAny (model P w) callerA (.call (.ref fa) ⟨[.ref a],[]⟩) (λr s'=>r=.ok (.ret (.bool true))/\OldK s₁.heap s'.heap/\s'.os=s₁.os/\AllBare s'.gens) s₁:=by
 have rv:=jS hi;have lenV:=hi.length
 -- from an abstract heap in which nothing but the script may be tracked
 have core:∀H:Hp,tj H->dE K H a (ns.map V.int)->gz P w H s₁.heap->(∀b,H b≠none->b=a)->(H a≠none->K.lookup a=none)->
  codeAny (model P w) callerA (.call (.ref fa) ⟨[.ref a],[]⟩) (λr s'=>r=.ok (.ret (.bool true))/\OldK s₁.heap s'.heap/\s'.os=s₁.os/\AllBare s'.gens) s₁:=by
  intro H hO hS hok hA hK;have base_of:∀{b:Addr} {o:Obj},s₁.heap.get? b=some o->H b=none->(kB s₁.heap H).get? b=some o:=λe n=>sA e n;have noA:∀{b:Addr} {o:Obj} {es:Array DictEntry} {ep:Nat},s₁.heap.get? b=some o->o.data=.dict es ep->H b=none:=λ{b o es ep} e d=>by
   cases q:H b with
   | none=>rfl
   | some u=>
     have e':b=a:=hA b (by rw[q];simp);subst e';rw[ha] at e;cases e;have d':Data.seq vs.toArray _=Data.dict es ep:=d;cases d'
  have nsK:∀{b:Addr} {m:yew},s₁.heap.Ns b m->(kB s₁.heap H).Ns b m:=λ{b m} ⟨o,es,ep,e,d,r⟩=>⟨o,es,ep,base_of e (noA e d),d,r⟩;have hKb:K.In (kB s₁.heap H):=λb o e=>base_of (KX b o e) (by
   cases q:H b with
   | none=>rfl
   | some u=>
     have e':b=a:=hA b (by rw[q];simp);subst e';rw[hK (by rw[q];simp)] at e;cases e)
  have hM:Mod K mg (kB s₁.heap H):=⟨hKb,nsK hns,⟨mb,nsK hb,hbb⟩,let ⟨mc,h1,h2⟩:=hlim;⟨mc,nsK h1,h2⟩⟩;have e0:lP P w K mg (kB s₁.heap H) callerA [] s₁ H:=⟨rfl,hM,λb o e=>vv e,Nat.le_of_eq (qQ _ _),trivial,λb hb=>absurd (show b∈([]:List Addr) from hb) (by simp),hok,.of_eq hg⟩;refine codeAny_mono ((F _ hKb (nsK hns)).run callerA [] s₁ H ⟨[.ref a],[]⟩ [.ref a] [.ref a] _ _ hr e0 (hbind s₁ (.ref a)) (.cons rfl .nil) (hsp H hO hS)) λr s' h=>?_;cases r with
  | error e=>exact(hCX H e s' h).elim
  | ok fl=>
    cases fl with
    | next=>exact False.elim h
    | brk=>exact False.elim h
    | cont=>exact False.elim h
    | ret u=>
      obtain⟨v,H',os,bare,un,hok',r',q⟩:=h;have q':v=.bl true:=q;subst q';obtain rfl:u=Value.bool true:=r';refine⟨rfl,OldK.of_keep λb o e=>?_,os,bare⟩;cases q:H b with
      | none=>exact un.keep b o e q (by intro z;exact absurd (show b∈([]:List Addr) from z) (by simp)) (by simp)
      | some u=>
        rcases hO b with z | ⟨ob,xs,z⟩
        ·rw[q] at z;cases z
        ·have z2:=un.frzs b ob _ z;obtain⟨e1,_⟩:=hok b _ z;obtain⟨e2,_⟩:=hok' b _ z2;rw[e] at e1;cases e1;exact e2
 cases hk:K.lookup a with
 | some o=>
   -- the script is one of the module's own objects
   have e:=KX a o hk;rw[ha] at e;cases e;refine core (λ_=>none) (λ_=> .inl rfl) (.inr ⟨_,vs.toArray,_,hk,rfl,rfl,rfl,by rw[size_toArray,lenV];exact hl,by simpa using rv⟩) (λb u z=>by have z':(none:Option HO)=some u:=z;cases z') (λb z=>absurd rfl z) λz=>absurd rfl z
 | none=>
   refine core (λb=>if b=a then some (.frz { cls:= .type "list",data:= .seq vs.toArray } (.lst (ns.map V.int))) else none) (λb=>?_) (.inl (.inr ⟨{ cls:= .type "list",data:= .seq vs.toArray },ycv rfl⟩)) (λb u z=>?_) (λb z=>?_) λ_=>hk
   ·by_cases hb:b=a
    ·exact .inr ⟨_,_,ycv hb⟩
    ·exact .inl (ycw hb)
   ·by_cases hb:b=a
    ·have z':=(ycv hb).symm.trans z;cases z';subst hb;exact⟨ha,by rw[length_map];exact hl,vs,_,rv,ha⟩
    ·have z':=(ycw hb).symm.trans z;cases z'
   ·by_cases hb:b=a
    ·exact hb
    ·exact absurd (ycw hb) z
theorem walk_of {l:PySem.W.OpenLaw} {n k:Nat} {q:Program} {loose:List Str} {XP:(Str->Option Value)->Heap->Prop} {YP:World->Heap->Prop} {d:DefRec} {K:Params->yav} {CX:World->q0} {sp:World->Sp}
 (hn:l.most=some n) (hn2:n<=sizeLine) (hdf:d.params.defaults=[]) (hr:aw k callerA)
 (hY:∀(w:World) (h:Heap),YP w h->(K w.params).In h)
 (F:∀(w:World) (mg:yew) (fa:Addr) (h:Heap),(K w.params).In h->h.Ns mainGlobals mg->mg d.name=some (.ref fa)->
   ∃fd:FuncData,(∀(s:Shared) (u:Value),BindsTo s fd ⟨[u],[]⟩ [(x,u)])/\
    ∀base:Heap,(K w.params).In base->base.Ns mainGlobals mg->gj l.prog w (K w.params) mg base (CX w) k fa fd [x] (sp w))
 (hsp:∀(w:World) (H:Hp) (a:Addr) (ns:List Int),ns.length<=n->tj H->dE (K w.params) H a (ns.map V.int)->sp w [.ref a] H (λv _=>v=.bl true) λ_ _ _=>False)
 (hCX:∀(w:World) (H:Hp) (s:Shared) (e:Value) (s':Shared),CX w [] H s (λ_ _ _=>False) e s'->False):
 PySem.W.WalkO q loose XP YP l.row.toRowW d [] (λf vs=>PySem.call f vs):=by
 refine Att.attach_call hn hdf λw s₀ s₁ mg mb fa o pm cd doc a vs ns G Y ho hd hcd hmg hobj hints hlen hg=>?_;have KX:=hY w _ Y;obtain⟨fd,hb,hF⟩:=F w mg fa _ KX G.T.g hmg;exact tm KX G.T.g G.T.b G.T.builtins G.T.nolimit hg hobj hints (ycy hlen hn2) hr hF hb (λH hO hS=>hsp w H a ns hlen hO hS) λH e s'=>hCX w H s₁ e s'
noncomputable def av (s:Stmt):Arguments:=match s with
 | .FunctionDef _ a _ _ _ _ _ _ _ _=>a
 | _=>{ posonlyargs:=[],args:=[],vararg:=none,kwonlyargs:=[],kw_defaults:=[],kwarg:=none,defaults:=[] }
noncomputable def ao (s:Stmt):List Stmt:=match s with
 | .FunctionDef _ _ b _ _ _ _ _ _ _=>b
 | _=>[]
noncomputable def ak (s:Stmt):Scope:=match s with
 | .FunctionDef _ _ _ _ _ _ sc _ _ _=>sc
 | _=>{ kind:= .function,names:=[],isGenerator:=false,isCoroutine:=false }
noncomputable abbrev tq:q0:=λ_ _ _ _ _ _=>False
noncomputable abbrev E0:XK:=λ_ _ _=>False
theorem jT {X:Cx}:eQ tq X E0:=λ_ _ _ _ _ _ _ h=>h.elim
structure cq (K:yav) (x qual:Str) (st:Stmt) (f:Addr) (fd:FuncData):Prop where
 ex:∃(oc:Value) (od:Option Addr) (kV doc pm:Value) (an:Option Addr) (cdv ct:Value) (osl:Array (Option Value)),
  fd=fnOf x qual (av st) (ao st) (ak st) .none kV doc pm an cdv ct/\K.lookup f=some ⟨oc,od,.func fd,osl⟩/\codeIn K cdv qual=true
 kp:keepIn K (.ref f)=true
section
variable {P:Program} {w:World} {K:yav} {mg:yew} {base:Heap}
theorem cq.ok {x qual:Str} {f:Addr} {N ps:List Str} {sp:Sp} (F:cq K x qual st f fd) (S:bg N ps (ak st)) (len:∀vs H Q E,sp vs H Q E->vs.length=ps.length)
 (hbody:∀(cdv:Value) (A:Around) (outer:List Env) (s:Shared) (H:Hp) (vs:List V) (Q:VK) (E:XK),aw k (A.deeper (envOfC qual (ak st) s.heap.objs.size f cdv))->sp vs H Q E->
   ∃t,lF (cZ tq P w K mg base N qual (ak st) f cdv A outer s H E).nox (ao st) t/\t { nx:=λ_ H'=>Q .non H',rt:=Q } (start N vs) H):gj P w K mg base tq (k+1) f fd ps sp:=by
 obtain⟨oc,od,kV,doc,pm,an,cdv,ct,osl,rfl,lk,hcd⟩:=F.ex;refine pD lk hcd S len λA outer s H vs Q E hr hsp=>?_;obtain⟨t,h,q⟩:=hbody cdv A outer s H vs Q E hr hsp;exact⟨t,h.nox,q⟩
theorem cq.binds {x qual:Str} {f:Addr} (F:cq K x qual st f fd)
 (h:∀(kV doc pm:Value) (an:Option Addr) (cdv ct:Value) (us:yez),us.length=ps.length->bindArgs (fnOf x qual (av st) (ao st) (ak st) .none kV doc pm an cdv ct) ⟨us,[]⟩=pure (ps.zip us)):bM K fd ps []:=by
 obtain⟨oc,od,kV,doc,pm,an,cdv,ct,osl,rfl,lk,hcd⟩:=F.ex;exact .all (h kV doc pm an cdv ct)
theorem aN {x qual:Str} {f:Addr} {oc:Value} {od an:Option Addr} {osl:Array (Option Value)} {kV doc pm cdv ct:Value} (l:K.lookup f=some ⟨oc,od,.func (fnOf x qual (av st) (ao st) (ak st) .none kV doc pm an cdv ct),osl⟩)
 (c:codeIn K cdv qual=true) (k:keepIn K (.ref f)=true):cq K x qual st f (fnOf x qual (av st) (ao st) (ak st) .none kV doc pm an cdv ct):=⟨⟨oc,od,kV,doc,pm,an,cdv,ct,osl,rfl,l,c⟩,k⟩
end
section
variable {X:Cx}
end
section
variable {κ:Type} [DecidableEq κ]
noncomputable def kJ (kvs:List (κ×V)) (k:κ):Option V:=(kvs.find? λkv=>decide (kv.1=k)).map (·.2)
noncomputable def ib (kvs:List (κ×V)) (k:κ) (v:V):List (κ×V):=
 if (kvs.any λkv=>decide (kv.1=k))=true then kvs.map (λkv=>if kv.1=k then (kv.1,v) else kv) else kvs++[(k,v)]
theorem lT {p:κ×V} {r:List (κ×V)} {k:κ} (e:p.1=k):kJ (p::r) k=some p.2:=by simp[kJ,List.find?_cons,e]
theorem lU {p:κ×V} {r:List (κ×V)} {k:κ} (e:¬p.1=k):kJ (p::r) k=kJ r k:=by simp[kJ,List.find?_cons,e]
theorem lV (kvs:List (κ×V)) (k:κ) (v:V):(ib kvs k v).length<=kvs.length+1:=by
 unfold ib;split
 ·rw[length_map];lia
 ·rw[length_append,length_cons,length_nil];lia
theorem fP.isSome_eq {o:Option V} {u:Option Value} (r:fP o u):o.isSome=u.isSome:=by
 cases o with
 | none=>cases u with
   | none=>rfl
   | some _=>exact(show False from r).elim
 | some _=>cases u with
   | none=>exact(show False from r).elim
   | some _=>rfl
theorem KV.val {kvs:List (κ×V)} {vs:List (κ×Value)} (r:KV kvs vs) (k:κ):fP (kJ kvs k) (valueAt vs k):=by
 unfold KV at r
 induction r with
 | nil=>exact True.intro
 | @cons p q ps qs h t ih=>
   obtain⟨h1,h2⟩:=h
   by_cases e:p.1=k
   ·have e':q.1=k:=h1.symm.trans e;have b:valueAt (q::qs) k=some q.2:=by simp[valueAt,List.find?_cons,e']
    rw[lT e,b];exact h2
   ·have e':¬q.1=k:=λz=>e (h1.trans z);have b:valueAt (q::qs) k=valueAt qs k:=by simp[valueAt,List.find?_cons,e']
    rw[lU e,b];exact ih
theorem KV.any {kvs:List (κ×V)} {vs:List (κ×Value)} (r:KV kvs vs) (k:κ):(kvs.any λkv=>decide (kv.1=k))=vs.any λkv=>decide (kv.1=k):=by
 unfold KV at r
 induction r with
 | nil=>rfl
 | cons h t ih=>rw[any_cons,any_cons,ih,h.1]
theorem KV.repl {kvs:List (κ×V)} {vs:List (κ×Value)} (r:KV kvs vs) (k:κ) {y:V} (ry:bn y u):
 KV (kvs.map λkv=>if kv.1=k then (kv.1,y) else kv) (vs.map λkv=>if kv.1=k then (kv.1,u) else kv):=by
 unfold KV at r ⊢
 induction r with
 | nil=>exact .nil
 | @cons p q ps qs h t ih=>
   rw[map_cons,map_cons];refine .cons ?_ ih;obtain⟨h1,h2⟩:=h
   by_cases e:p.1=k
   ·rw[ycv e,ycv (h1.symm.trans e)];exact⟨h1,ry⟩
   ·rw[ycw e,ycw (λz=>e (h1.trans z))];exact⟨h1,h2⟩
theorem KV.put {kvs:List (κ×V)} {vs:List (κ×Value)} (r:KV kvs vs) (k:κ) {y:V} (ry:bn y u):KV (ib kvs k y) (stored vs k u):=by
 unfold ib stored;rw[r.any k]
 by_cases e:(vs.any λkv=>decide (kv.1=k))=true
 ·rw[ycv e,ycv e];exact r.repl k ry
 ·rw[ycw e,ycw e];exact Paired.snoc r ⟨rfl,ry⟩
theorem KV.keys {kvs:List (κ×V)} {vs:List (κ×Value)} (r:KV kvs vs):kvs.map (·.1)=vs.map (·.1):=by
 unfold KV at r
 induction r with
 | nil=>rfl
 | cons h t ih=>rw[map_cons,map_cons,ih,h.1]
theorem KV.length {kvs:List (κ×V)} {vs:List (κ×Value)} (r:KV kvs vs):kvs.length=vs.length:=Paired.length r
end
theorem pI {k:bd} (r:bn (kV k) u):(bF P w).is k u=true:=by
 cases k with
 | inl i=>obtain⟨t,e⟩:=(show ∃t,u=Value.int i t from r);subst e;exact lJ P w i t
 | inr x=>obtain⟨t,e⟩:=(show ∃t,u=Value.str x t from r);subst e;exact lK P w x t
section
variable {P:Program} {w:World} {H:Hp} {h:Heap} {a:Addr}
theorem BB {u:HO} (ok:gz P w H h) (e:Rd H a u):ca P w H h a u:=e.ok ok
theorem eC {kvs:List (bd×V)} (ok:gz P w H h) (e:Rd H a (.dK kvs)):kvs.length<=sizeLine/\(a==sysModules)=false/\∃vs,KV kvs vs/\h.DictOf (bF P w) a vs:=
 show ca P w H h a (.dK kvs) from BB ok e
theorem yh {kvs:List (bd×V)} (ok:gz P w H h) (e:H a=some (.dK kvs)):kvs.length<=sizeLine/\(a==sysModules)=false/\∃vs,KV kvs vs/\h.DictOf (bF P w) a vs:=eC ok (.inl e)
end
section
variable {X:Cx} {π:List (Addr×Obj)} {σ:St} {H:Hp} {s:Shared} {a:Addr} {y v:V} {u r:Value} {o:Option V} {A:Around} {E:yey}
theorem aH.bigD (I:aH X π σ H s):sysModules<s.heap.objs.size:=by
 have h:mainGlobals<s.heap.objs.size:=(I.mod.glob.keeps I.bk).lt;exact Nat.lt_trans (by decide) h
theorem vW {h':Heap} {t':Nat} {ob:HO} (I:aH X π σ H s) (mu:Ba (H a)) (hs:Heap.SameBut a s.heap h') (he:∃q,h'.get? a=some q) (new:ca X.prog X.w (upd H a ob) h' a ob):
 aH X π σ (upd H a ob) { s with heap:=h',toks:=t' }:=
 I.write (x:=a) (e:=a) mu (.inl rfl) (λb q hb z=>(hs.2 b hb).trans z) he new
theorem zE {H':Hp} {h':Heap} {kvs:List (bd×V)} {vs:List (bd×Value)} (z:kvs.length<=sizeLine) (hd:(a==sysModules)=false) (rel:KV kvs vs) (dd:h'.DictOf (bF P w) a vs):
 ca P w H' h' a (.dK kvs):=⟨z,hd,vs,rel,dd⟩
end
section
variable {X:Cx} {π:List (Addr×Obj)} {σ:St} {H:Hp} {s:Shared} {a:Addr} {kvs:List (bd×V)} {k:bd} {u:Value} {A:Around} {E:yey}
theorem BC (I:aH X π σ H s) (e:Rd H a (.dK kvs)) (h:∀t s',aH X π σ H s'->Q (.int kvs.length t) s'):wpAny (model X.prog X.w) A (call (.builtin "len") [.ref a]) Q E s:=by
 obtain⟨z,hd,vs,rel,dd⟩:=eC I.hok e;refine call_len_dict hd dd (by rw[←rel.length];rw[sizeLine_eq] at z;lia) ?_;rw[←rel.length];exact h _ _ (I.tok _)
end
section
variable {X:Cx} {o i e value:Expr} {pos pos' tpos:Pos} {td ty tv:TE}
end
theorem rn {H:Hp} (h:Heap) (hb:sysModules<h.objs.size):ca P w H (h.push { cls:= .type "dict",data:= .dict #[] }) h.objs.size (.dK []):=
 ⟨zero_le _,beq_eq_false_iff_ne.mpr (Ne.symm (ne_of_lt hb)),[],.nil,Heap.DictOf.new h⟩
noncomputable def zF:TE:=λ_ H Q=>∀p,H p=none->Q (.ref p) (upd H p (.dK []))
section
variable {X:Cx} {pos:Pos}
theorem pe_dnewK:PE X (.Dict [] [] pos) zF:=λπ s σ H Q I h=>
 wpAny_Dict_empty ⟨.ref s.heap.objs.size,_,I.laid (a:=s.heap.objs.size) (o:= .dK []) (t':=s.toks) (λ_ _ q=>ybz _ q) (ycx _) (rn s.heap I.bigD),rfl,h _ (I.hok.fresh (ycx _))⟩
end
structure M1 (X:Cx) (o:Expr) (m:Str) (apos:Pos) (e:Expr) (cpos:Pos):Prop where
 base:attributeBase o m X.env (eval o X.env)=eval o X.env
 few:((backTo cpos (starEach [e] X.env)).all (λx=>!x.1)&&(backToKw cpos (keywordEach [] X.env)).all (λx=>x.1.isSome)
  &&decide (([e]:List Expr).length+([]:List Keyword).length+(if ([]:List Keyword).isEmpty then 0 else 1)<30))=true
 line:(apos.endLine==cpos.line)=true
 trees:backTo cpos (starEach [e] X.env)=[(false,eval e X.env)]
structure M2 (X:Cx) (o:Expr) (m:Str) (apos:Pos) (e f:Expr) (cpos:Pos):Prop where
 base:attributeBase o m X.env (eval o X.env)=eval o X.env
 few:((backTo cpos (starEach [e,f] X.env)).all (λx=>!x.1)&&(backToKw cpos (keywordEach [] X.env)).all (λx=>x.1.isSome)
  &&decide (([e,f]:List Expr).length+([]:List Keyword).length+(if ([]:List Keyword).isEmpty then 0 else 1)<30))=true
 line:(apos.endLine==cpos.line)=true
 trees:backTo cpos (starEach [e,f] X.env)=[(false,eval e X.env),(false,eval f X.env)]
section
variable {X:Cx} {π:List (Addr×Obj)} {σ:St} {H:Hp} {s:Shared} {a:Addr} {y d:V} {u r:Value} {o:Option V} {A:Around} {E:yey}
end
section
variable {X:Cx} {o e f:Expr} {apos cpos:Pos} {td ty tx:TE}
end
section
variable {X:Cx} {π:List (Addr×Obj)} {σ:St} {H:Hp} {s:Shared} {a:Addr} {kvs:List (bd×V)} {A:Around} {E:yey}
end
section
variable {X:Cx} {π:List (Addr×Obj)} {σ:St} {H:Hp} {s:Shared} {a:Addr} {y:V} {u:Value} {A:Around} {E:yey}
end
inductive W where
 | non | bl (b:Bool) | int (i:Int) | str (x:Str) | ref (a:Addr) | tup (xs:List W) | scr (ns:List Int)
inductive GO where
 | lst (ws:List W)
 | dct
 | exc (C:Addr)
 | dic (kvs:List (bd×W))
 | fdc (o:Obj) (us:List (bd×V)) (kvs:List (bd×W))
 | ins (C:Addr) (fs:List (Str×W))
 | tbl (ps:Array Value)
 | any (P:Hp->Addr->Prop)
noncomputable abbrev Gp:=Addr->Option GO
noncomputable def aQ (G:Gp) (a:Addr) (g:GO):Gp:=λb=>if b=a then some g else G b
theorem al {G:Gp} {g:GO}:aQ G a g a=some g:=by unfold aQ;rw[ycv rfl]
theorem aK {G:Gp} {a b:Addr} {g:GO} (h:b≠a):aQ G a g b=G b:=by unfold aQ;rw[ycw h]
noncomputable def yi (K:yav) (H:Hp) (a:Addr) (ns:List Int):Prop:=
 (∃o,H a=some (.frz o (.lst (ns.map V.int))))∨
   ∃(o:Obj) (its:Array Value) (n:Nat),K.lookup a=some o/\o.cls=.type "list"/\o.dict=none/\o.data=.seq its n/\its.size<=sizeLine/\aT (ns.map V.int) its.toList
theorem yi.sq {H:Hp} {ns:List Int} (h:yi K H a ns):dE K H a (ns.map V.int):=by
 rcases h with⟨o,h⟩ | h
 ·exact .inl (.inr ⟨o,h⟩)
 ·exact .inr h
structure aP (H H1:Hp):Prop where
 tup:∀a xs,H a=some (.tup xs)->H1 a=some (.tup xs)
 frz:∀a o xs,H a=some (.frz o (.lst xs))->H1 a=some (.frz o (.lst xs))
theorem aP.refl (H:Hp):aP H H:=⟨λ_ _ h=>h,λ_ _ _ h=>h⟩
theorem aP.trans {H H1 H2:Hp} (a:aP H H1) (b:aP H1 H2):aP H H2:=
 ⟨λx xs h=>b.tup x xs (a.tup x xs h),λx o u h=>b.frz x o u (a.frz x o u h)⟩
theorem aP.new {H:Hp} {p:Addr} (hp:H p=none) (o:HO):aP H (upd H p o):=
 ⟨λ_ _ h=>by rw[aC (bc h hp)];exact h,λ_ _ _ h=>by rw[aC (bc h hp)];exact h⟩
theorem aP.lst {H:Hp} {p:Addr} {xs:List V} (hp:H p=some (.lst xs)) (o:HO):aP H (upd H p o):=
 ⟨λ_ _ h=>by rw[aC (iu h hp (by intro z;cases z))];exact h,λ_ _ _ h=>by rw[aC (iu h hp (by intro z;cases z))];exact h⟩
mutual
inductive cj (K:yav) (H:Hp):W->V->Prop where
 | non:cj K H .non .non
 | bl (b:Bool):cj K H (.bl b) (.bl b)
 | int (i:Int):cj K H (.int i) (.int i)
 | str (x:Str):cj K H (.str x) (.str x)
 | ref (a:Addr):cj K H (.ref a) (.ref a)
 | tup {a:Addr} {ws:List W} {xs:List V} (h:H a=some (.tup xs)) (r:aR K H ws xs):cj K H (.tup ws) (.ref a)
 | scr {a:Addr} {ns:List Int} (h:yi K H a ns):cj K H (.scr ns) (.ref a)
inductive aR (K:yav) (H:Hp):List W->List V->Prop where
 | nil:aR K H [] []
 | cons {w:W} {v:V} {ws:List W} {vs:List V} (r:cj K H w v) (rs:aR K H ws vs):aR K H (w::ws) (v::vs)
end
section
variable {K:yav} {H H1:Hp}
theorem yi.mono {ns:List Int} (t:aP H H1) (h:yi K H a ns):yi K H1 a ns:=by
 rcases h with⟨o,h⟩ | h
 ·exact .inl ⟨o,t.frz _ _ _ h⟩
 ·exact .inr h
mutual
theorem cj.mono (t:aP H H1):∀{w:W} {v:V},cj K H w v->cj K H1 w v
 | _,_,.non=> .non
 | _,_,.bl b=> .bl b
 | _,_,.int i=> .int i
 | _,_,.str x=> .str x
 | _,_,.ref a=> .ref a
 | _,_,.tup h r=> .tup (t.tup _ _ h) (aR.mono t r)
 | _,_,.scr h=> .scr (h.mono t)
theorem aR.mono (t:aP H H1):∀{ws:List W} {vs:List V},aR K H ws vs->aR K H1 ws vs
 | _,_,.nil=> .nil
 | _,_,.cons r rs=> .cons (cj.mono t r) (aR.mono t rs)
end
theorem aR.length:∀{ws:List W} {vs:List V},aR K H ws vs->ws.length=vs.length
 | _,_,.nil=>rfl
 | _,_,.cons _ rs=>congrArg (·+1) rs.length
theorem aR.append:∀{ws us:List W} {vs xs:List V},aR K H ws vs->aR K H us xs->aR K H (ws++us) (vs++xs)
 | _,_,_,_,.nil,s=>s
 | _,_,_,_,.cons r rs,s=> .cons r (rs.append s)
theorem aR.take:∀{ws:List W} {vs:List V} (n:Nat),aR K H ws vs->aR K H (ws.take n) (vs.take n)
 | _,_,0,_=> .nil
 | _,_,_+1,.nil=> .nil
 | _,_,n+1,.cons r rs=> .cons r (rs.take n)
theorem aR.drop:∀{ws:List W} {vs:List V} (n:Nat),aR K H ws vs->aR K H (ws.drop n) (vs.drop n)
 | _,_,0,r=>r
 | _,_,_+1,.nil=> .nil
 | _,_,n+1,.cons _ rs=>rs.drop n
theorem aR.get:∀{ws:List W} {vs:List V} {i:Nat} {w:W},aR K H ws vs->ws[i]?=some w->∃v,vs[i]?=some v/\cj K H w v
 | _,_,_,_,.nil,e=>by simp at e
 | _,_,0,_,.cons r _,e=>by simp at e;subst e;exact⟨_,rfl,r⟩
 | _,_,i+1,w,.cons _ rs,e=>by
   obtain⟨v,h1,h2⟩:=aR.get (i:=i) (w:=w) rs (by simpa using e);exact⟨v,by simpa using h1,h2⟩
theorem aR.ints:∀ns:List Int,aR K H (ns.map W.int) (ns.map V.int)
 | []=> .nil
 | n::ns=> .cons (.int n) (aR.ints ns)
end
noncomputable abbrev bmV:List Value:=[.type "ValueError",.type "Exception",.type "BaseException",.type "object"]
structure XC (K:yav) (C:Addr) (bm:yez):Prop where
 obj:∀h:Heap,K.In h->∃N nm qn bs hdct sn sub ab col dd k0 k1 k2 k3 k5 mN,h.get? C=some (excClassObj nm qn C N bs bm hdct sn sub ab col dd k0 k1 k2 k3 k5 "ValueError.__new__")/\h.Ns N mN/\mN "__init__"=none/\OwnTail h bmV bm
 mro:∀v,mroIn K C v=some ((Value.ref C::bm).contains v)
structure XQ (K:yav) (C:Addr):Prop where
 ga:findIn K (.ref C) "__getattribute__"=some (some (.builtin "BaseException.__getattribute__"))
 gx:findIn K (.ref C) "__getattr__"=some none
 gc:findIn K (.ref C) "__class__"=some (some (.builtin "object.__class__"))
structure XD (K:yav) (D:Addr):Prop where
 cls:∃cd,clsIn K D=some cd
 ty:typeIn K (.ref D)=some (.type "type")
 ins:instIn K (.ref D) (.type "type")=some true
structure XO (K:yav) (C:Addr):Prop where
 c:∃bm,XC K C bm
 q:XQ K C
 d:XD K C
noncomputable def zG (K:yav) (H:Hp) (a:Addr):GO->Prop
 | .lst ws=>ws.length<=100000/\∃xs,H a=some (.lst xs)/\aR K H ws xs
 | .dct=>H a=some (.dK [])
 | .exc C=>XO K C/\H a=some (.ext λh=>∃o,h.get? a=some o/\o.cls=.ref C)
 | .dic kvs=>kvs.length<=100000/\∃kvs',H a=some (.dK kvs')/\kvs'.map (·.1)=kvs.map (·.1)/\aR K H (kvs.map (·.2)) (kvs'.map (·.2))
 | .fdc o us kvs=>kvs.length<=100000/\H a=some (.frz o (.dK us))/\us.map (·.1)=kvs.map (·.1)/\aR K H (kvs.map (·.2)) (us.map (·.2))
 | .ins C fs=>fs.length<=100/\∃dx fs',H a=some (.ins C dx fs')/\fs'.map (·.1)=fs.map (·.1)/\aR K H (fs.map (·.2)) (fs'.map (·.2))
 | .tbl ps=>H a=some (.tbl ps)
 | .any P=>P H a/\(∃o,H a=some o)/\∀H1 H2:Hp,aP H1 H2->H2 a=H1 a->P H1 a->P H2 a
noncomputable def aO (K:yav) (H:Hp) (G:Gp):Prop:=∀a g,G a=some g->zG K H a g
section
variable {K:yav} {H H1:Hp} {G:Gp} {p a:Addr} {g:GO}
theorem zG.has (h:zG K H a g):∃o,H a=some o:=by
 cases g with
 | lst ws=>obtain⟨_,_,e,_⟩:=h;exact⟨_,e⟩
 | dct=>exact⟨_,h⟩
 | exc C=>exact⟨_,h.2⟩
 | dic kvs=>obtain⟨_,_,e,_⟩:=h;exact⟨_,e⟩
 | fdc o us kvs=>obtain⟨_,e,_⟩:=h;exact⟨_,e⟩
 | ins C fs=>obtain⟨_,_,_,e,_⟩:=h;exact⟨_,e⟩
 | tbl ps=>exact⟨_,h⟩
 | any P=>exact h.2.1
theorem zG.mono (t:aP H H1) (e:H1 a=H a) (h:zG K H a g):zG K H1 a g:=by
 cases g with
 | lst ws=>obtain⟨l,xs,e1,r⟩:=h;exact⟨l,xs,e.trans e1,r.mono t⟩
 | dct=>exact e.trans h
 | exc C=>exact⟨h.1,e.trans h.2⟩
 | dic kvs=>obtain⟨l,xs,e1,n,r⟩:=h;exact⟨l,xs,e.trans e1,n,r.mono t⟩
 | fdc o us kvs=>obtain⟨l,e1,n,r⟩:=h;exact⟨l,e.trans e1,n,r.mono t⟩
 | ins C fs=>obtain⟨l,dx,xs,e1,n,r⟩:=h;exact⟨l,dx,xs,e.trans e1,n,r.mono t⟩
 | tbl ps=>exact e.trans h
 | any P=>exact⟨h.2.2 _ _ t e h.1,(let ⟨o,e1⟩:=h.2.1;⟨o,e.trans e1⟩),h.2.2⟩
theorem aO.fresh (h:aO K H G) (hp:H p=none):G p=none:=by
 cases e:G p with
 | none=>rfl
 | some g=>
   obtain⟨o,e1⟩:=(h p _ e).has;rw[hp] at e1;cases e1
theorem aO.upd (h:aO K H G) (t:aP H (upd H p o)) (hG:G p=none):aO K (L2.upd H p o) G:=λa g e=>by
 have hne:a≠p:=λz=>by rw[z,hG] at e;cases e
 exact(h a g e).mono t (aC hne)
theorem aO.keep (h:aO K H G) (hp:H p=none) (o:HO):aO K (L2.upd H p o) G:=h.upd (aP.new hp o) (h.fresh hp)
theorem aO.lay (h:aO K H G) {o:HO} (t:aP H (L2.upd H p o)) (n:zG K (L2.upd H p o) p g):aO K (L2.upd H p o) (aQ G p g):=λa g' e=>by
 by_cases hb:a=p
 ·subst hb;rw[al] at e;cases e;exact n
 ·rw[aK hb] at e;exact(h a g' e).mono t (aC hb)
theorem aO.put (h:aO K H G) {xs:List V} {ws:List W} (t:aP H (L2.upd H p (.lst xs))) (r:aR K H ws xs) (hl:ws.length<=100000):aO K (L2.upd H p (.lst xs)) (aQ G p (.lst ws)):=h.lay t ⟨hl,xs,ba,r.mono t⟩
noncomputable def aG (G0 G:Gp):Prop:=∀a g,G0 a=some g->G a=some g
theorem aO.le {G0:Gp} (h:aO K H G) (l:aG G0 G):aO K H G0:=λa g e=>h a g (l a g e)
theorem aG.refl (G:Gp):aG G G:=λ_ _ h=>h
theorem aG.trans {G0 G1 G2:Gp} (a:aG G0 G1) (b:aG G1 G2):aG G0 G2:=λx g h=>b x g (a x g h)
theorem aG.new {g:GO} (hp:G p=none):aG G (aQ G p g):=λa u e=>by
 rw[aK (λz=>by rw[z,hp] at e;cases e)];exact e
end
noncomputable abbrev dF:=List (Option W)
noncomputable def bh (K:yav) (H:Hp) (τ:dF) (σ:St):Prop:=τ.length=σ.length/\∀(i:Nat) (w:W),τ[i]?=some (some w)->∃v,σ[i]?=some (some v)/\cj K H w v
section
variable {K:yav} {H H1:Hp} {τ:dF} {σ:St}
theorem bh.mono (t:aP H H1) (h:bh K H τ σ):bh K H1 τ σ:=⟨h.1,λi w e=>let ⟨v,e1,r⟩:=h.2 i w e;⟨v,e1,r.mono t⟩⟩
theorem bh.set (h:bh K H τ σ) {w:W} {v:V} (r:cj K H w v) (i:Nat):bh K H (τ.set i (some w)) (σ.set i (some v)):=by
 refine⟨by simpa using h.1,λj u e=>?_⟩
 by_cases hj:i=j
 ·subst hj
  by_cases hl:i<τ.length
  ·rw[List.getElem?_set_self hl] at e;cases e;exact⟨v,List.getElem?_set_self (by rw[←h.1];exact hl),r⟩
  ·rw[List.getElem?_eq_none (by simpa using hl)] at e;cases e
 ·rw[List.getElem?_set_ne hj] at e;obtain⟨u',e1,r1⟩:=h.2 j u e;exact⟨u',by rw[List.getElem?_set_ne hj];exact e1,r1⟩
theorem bh.start {N:List Str} {ws:List W} {vs:List V} (r:aR K H ws vs):bh K H (ws.map some++List.replicate (N.length-ws.length) none) (L2.start N vs):=by
 unfold L2.start;refine⟨by simp[r.length],λi w e=>?_⟩
 by_cases hi:i<ws.length
 ·rw[List.getElem?_append_left (by simpa using hi),List.getElem?_map] at e;cases e1:ws[i]? with
  | none=>rw[e1] at e;cases e
  | some u=>
    rw[e1] at e;cases e;obtain⟨v,e2,rv⟩:=r.get e1;refine⟨v,?_,rv⟩;rw[List.getElem?_append_left (by simpa[←r.length] using hi),List.getElem?_map,e2]
    rfl
 ·rw[List.getElem?_append_right (by simpa using hi),List.getElem?_replicate] at e;split at e<;> cases e
end
noncomputable abbrev WK:=W->Gp->Prop
noncomputable abbrev WE:=dF->Gp->WK->Prop
noncomputable abbrev WT:=dF->Gp->(Bool->Gp->Prop)->Prop
noncomputable abbrev WA:=dF->Gp->(List W->Gp->Prop)->Prop
structure dL where
 nx:dF->Gp->Prop
 rt:WK
 bk:dF->Gp->Prop:=λ_ _=>False
 ct:dF->Gp->Prop:=λ_ _=>False
noncomputable abbrev WS:=dL->dF->Gp->Prop
noncomputable abbrev WG:=W->dF->Gp->(dF->Gp->Prop)->Prop
noncomputable abbrev yj:=List W->dF->Gp->(dF->Gp->Prop)->Prop
noncomputable def ic (K:yav) (t:WE):TE:=λσ H Q=>∃τ G q,bh K H τ σ/\aO K H G/\t τ G q/\∀v H1 w G1,aP H H1->cj K H1 w v->aO K H1 G1->q w G1->Q v H1
noncomputable def zH (K:yav) (t:WT):TT:=λσ H Q=>∃τ G q,bh K H τ σ/\aO K H G/\t τ G q/\∀b H1 G1,aP H H1->aO K H1 G1->q b G1->Q b H1
noncomputable def LA (K:yav) (t:WA):TA:=λσ H Q=>∃τ G q,bh K H τ σ/\aO K H G/\t τ G q/\∀vs H1 ws G1,aP H H1->aR K H1 ws vs->aO K H1 G1->q ws G1->Q vs H1
structure lW (K:yav) (H:Hp) (d:dL) (D:fe):Prop where
 nx:∀σ1 H1 τ1 G1,aP H H1->bh K H1 τ1 σ1->aO K H1 G1->d.nx τ1 G1->D.nx σ1 H1
 rt:∀v H1 w G1,aP H H1->cj K H1 w v->aO K H1 G1->d.rt w G1->D.rt v H1
 bk:∀σ1 H1 τ1 G1,aP H H1->bh K H1 τ1 σ1->aO K H1 G1->d.bk τ1 G1->D.bk σ1 H1
 ct:∀σ1 H1 τ1 G1,aP H H1->bh K H1 τ1 σ1->aO K H1 G1->d.ct τ1 G1->D.ct σ1 H1
noncomputable def LS (K:yav) (t:WS):TS:=λD σ H=>∃τ G d,bh K H τ σ/\aO K H G/\t d τ G/\lW K H d D
theorem ic.el {t:WE} {σ:St} {H:Hp} {Q:VK} {P:Prop} (h:ic K t σ H Q) (k:∀(τ:dF) (G:Gp) (q:WK),bh K H τ σ->aO K H G->t τ G q->(∀v H1 w G1,aP H H1->cj K H1 w v->aO K H1 G1->q w G1->Q v H1)->P):P:=by
 obtain⟨τ,G,q,a,b,c,d⟩:=h;exact k τ G q a b c d
theorem zH.el {t:WT} {σ:St} {H:Hp} {Q:Bool->Hp->Prop} {P:Prop} (h:zH K t σ H Q) (k:∀(τ:dF) (G:Gp) (q:Bool->Gp->Prop),bh K H τ σ->aO K H G->t τ G q->(∀b H1 G1,aP H H1->aO K H1 G1->q b G1->Q b H1)->P):P:=by
 obtain⟨τ,G,q,a,b,c,d⟩:=h;exact k τ G q a b c d
theorem LA.el {t:WA} {σ:St} {H:Hp} {Q:List V->Hp->Prop} {P:Prop} (h:LA K t σ H Q) (k:∀(τ:dF) (G:Gp) (q:List W->Gp->Prop),bh K H τ σ->aO K H G->t τ G q->(∀vs H1 ws G1,aP H H1->aR K H1 ws vs->aO K H1 G1->q ws G1->Q vs H1)->P):P:=by
 obtain⟨τ,G,q,a,b,c,d⟩:=h;exact k τ G q a b c d
theorem LS.el {t:WS} {D:fe} {σ:St} {H:Hp} {P:Prop} (h:LS K t D σ H) (k:∀(τ:dF) (G:Gp) (d:dL),bh K H τ σ->aO K H G->t d τ G->lW K H d D->P):P:=by
 obtain⟨τ,G,q,a,b,c,d⟩:=h;exact k τ G q a b c d
noncomputable def LG (K:yav) (t:WG):TG:=λv σ H Q=>∃w τ G q,cj K H w v/\bh K H τ σ/\aO K H G/\t w τ G q/\∀σ1 H1 τ1 G1,aP H H1->bh K H1 τ1 σ1->aO K H1 G1->q τ1 G1->Q σ1 H1
noncomputable def GQ (K:yav) (t:yj):vE:=λvs σ H Q=>∃ws τ G q,aR K H ws vs/\bh K H τ σ/\aO K H G/\t ws τ G q/\∀σ1 H1 τ1 G1,aP H H1->bh K H1 τ1 σ1->aO K H1 G1->q τ1 G1->Q σ1 H1
noncomputable def QE (X:Cx) (e:Expr) (t:WE):Prop:=PE X e (ic X.K t)
noncomputable def QT (X:Cx) (e:Expr) (t:WT):Prop:=PT X e (zH X.K t)
noncomputable def QW (X:Cx) (e:Expr) (t:WT):Prop:=PW X e (zH X.K t)
noncomputable def QA (X:Cx) (es:List Expr) (t:WA):Prop:=PA X es (LA X.K t)
noncomputable def QS (X:Cx) (st:Stmt) (t:WS):Prop:=PS X st (LS X.K t)
noncomputable def lH (X:Cx) (st:List Stmt) (t:WS):Prop:=lF X st (LS X.K t)
noncomputable def QG (X:Cx) (e:Expr) (t:WG):Prop:=PG X e (LG X.K t)
noncomputable def BD (X:Cx) (es:List Expr) (t:yj):Prop:=ye X es (GQ X.K t)
section
variable {X:Cx}
theorem PE.imp {t t':TE} (h:PE X e t) (f:∀σ H Q,t' σ H Q->t σ H Q):PE X e t':=λπ s σ H Q I q=>h π s σ H Q I (f _ _ _ q)
theorem PT.imp {t t':TT} (h:PT X e t) (f:∀σ H Q,t' σ H Q->t σ H Q):PT X e t':=λπ s σ H Q I q=>h π s σ H Q I (f _ _ _ q)
theorem PW.imp {t t':TT} (h:PW X e t) (f:∀σ H Q,t' σ H Q->t σ H Q):PW X e t':=λwh π s σ H Q I q=>h wh π s σ H Q I (f _ _ _ q)
theorem PA.imp {e:List Expr} {t t':TA} (h:PA X e t) (f:∀σ H Q,t' σ H Q->t σ H Q):PA X e t':=λpos π s σ H Q I q=>h pos π s σ H Q I (f _ _ _ q)
theorem PS.imp {e:Stmt} {t t':TS} (h:PS X e t) (f:∀D σ H,t' D σ H->t D σ H):PS X e t':=λπ s σ H D I q=>h π s σ H D I (f _ _ _ q)
theorem lF.imp {e:List Stmt} {t t':TS} (h:lF X e t) (f:∀D σ H,t' D σ H->t D σ H):lF X e t':=λπ s σ H D I q=>h π s σ H D I (f _ _ _ q)
theorem PG.imp {t t':TG} (h:PG X e t) (f:∀v σ H Q,t' v σ H Q->t v σ H Q):PG X e t':=λπ s σ H v u Q I r q=>h π s σ H v u Q I r (f _ _ _ _ q)
theorem ye.imp {e:List Expr} {t t':vE} (h:ye X e t) (f:∀v σ H Q,t' v σ H Q->t v σ H Q):ye X e t':=λπ s σ H v u Q I r q=>h π s σ H v u Q I r (f _ _ _ _ q)
noncomputable def zI (i:Nat):WE:=λτ G q=>match τ[i]? with | some (some w)=>q w G | _=>False
noncomputable def wC (w:W):WE:=λ_ G q=>q w G
theorem aa (i:Nat) (hN:X.N[i]?=some x:=by exact rfl) (hv:AZ X.env.scope x:=by exact .inl rfl) (hd:(x==("__debug__":Str))=false:=by decide) (hcd:(x==("__classdict__":Str))=false:=by decide):QE X (.Name x pos) (zI i):=by
 refine(n5 hN hv hd hcd).imp λσ H Q z0=>z0.el λτ G q hs hg ht hQ=>?_;unfold zI at ht;split at ht
 ·rename_i w e;obtain⟨v,e1,r⟩:=hs.2 i w e;exact⟨v,e1,hQ v H w G (aP.refl H) r hg ht⟩
 ·exact ht.elim
theorem eE {v:V} {w:W} (h:PE X e (tC v)) (r:∀H,cj X.K H w v):QE X e (wC w):=
 h.imp λσ H Q z0=>z0.el λτ G q hs hg ht hQ=>hQ v H w G (aP.refl H) (r H) hg ht
theorem af {i j pos}:QE X (.Constant (.int i) j pos) (wC (.int i)):=eE sB λ_=> .int i
theorem fX {b j pos}:QE X (.Constant (.bool b) j pos) (wC (.bl b)):=eE Bb λ_=> .bl b
theorem dM {j pos}:QE X (.Constant .none j pos) (wC .non):=eE yW λ_=> .non
theorem aZ {x j pos}:QE X (.Constant (.str x) j pos) (wC (.str x)):=eE n6 λ_=> .str x
noncomputable abbrev W2:=W->W->Gp->WK->Prop
noncomputable def LR (K:yav) (r:W2):R2:=λx y H Q=>∃wx wy G q,cj K H wx x/\cj K H wy y/\aO K H G/\r wx wy G q/\∀v H1 w G1,aP H H1->cj K H1 w v->aO K H1 G1->q w G1->Q v H1
noncomputable def fc (X:Cx) (f:Value->Value->Sem Value) (r:W2):Prop:=gA X f (LR X.K r)
noncomputable def BE (X:Cx) (r:W2):Prop:=Bz X (LR X.K r)
noncomputable def A0 (r:W2) (ta tb:WE):WE:=λτ G q=>ta τ G λx G1=>tb τ G1 λy G2=>r x y G2 q
theorem ic.op {r:W2} {ta tb:WE} {σ:St} {H:Hp} {Q:VK} (h:ic K (A0 r ta tb) σ H Q):Bn (LR K r) (ic K ta) (ic K tb) σ H Q:=by
 obtain⟨τ,G,q,hs,hg,ht,hQ⟩:=h;refine⟨τ,G,_,hs,hg,ht,λv H1 w G1 t1 r1 g1 q1=>?_⟩;refine⟨τ,G1,_,hs.mono t1,g1,q1,λv2 H2 w2 G2 t2 r2 g2 q2=>?_⟩;exact⟨w,w2,G2,q,r1.mono t2,r2,g2,q2,λv3 H3 w3 G3 t3 r3 g3 q3=>hQ v3 H3 w3 G3 ((t1.trans t2).trans t3) r3 g3 q3⟩
theorem au {op:Operator} {r:W2} {a b:Expr} {ta tb:WE} (ho:fc X (binaryOp op) r) (ha:QE X a ta) (hb:QE X b tb):QE X (.BinOp a op b pos) (A0 r ta tb):=
 (Bo ho ha hb).imp λ_ _ _ h=>h.op
theorem cv {op:CmpOp} {r:W2} {a b:Expr} {ta tb:WE} (ho:fc X (compareOp op) r) (ha:QE X a ta) (hb:QE X b tb) (hm:behindInMarks op b=false:=by exact sJ _):QE X (.Compare a [op] [b] pos) (A0 r ta tb):=
 (vK ho ha hb hm).imp λ_ _ _ h=>h.op
theorem aE {r:W2} {a b:Expr} {ta tb:WE} (ho:BE X r) (ha:QE X a ta) (hb:QE X b tb) (hs:pF b:=by exact λ_ _=>rfl):QE X (.Subscript a b pos) (A0 r ta tb):=
 (BA ho ha hb hs).imp λ_ _ _ h=>h.op
noncomputable def lX (t:WE):WT:=λτ G q=>t τ G λx G1=>match x with | .bl b=>q b G1 | _=>False
theorem zH.test {t:WE} {σ:St} {H:Hp} {Q:Bool->Hp->Prop} (h:zH K (lX t) σ H Q):sK (ic K t) σ H Q:=by
 obtain⟨τ,G,q,hs,hg,ht,hQ⟩:=h;refine⟨τ,G,_,hs,hg,ht,λv H1 w G1 t1 r1 g1 q1=>?_⟩;split at q1
 ·rename_i b;cases r1;exact⟨b,rfl,hQ b H1 G1 t1 g1 q1⟩
 ·exact q1.elim
theorem aA {op:CmpOp} {r:W2} {a b:Expr} {ta tb:WE} (ho:fc X (compareOp op) r) (ha:QE X a ta) (hb:QE X b tb) (hm:behindInMarks op b=false:=by exact sJ _):QT X (.Compare a [op] [b] pos) (lX (A0 r ta tb)):=
 (vL ho ha hb hm).imp λσ H Q h=>by
   obtain⟨τ,G,q,hs,hg,ht,hQ⟩:=h.test;exact ic.op ⟨τ,G,q,hs,hg,ht,hQ⟩
theorem bS {t:WE} (h:QE X e t) (he:∀whole,isTrue e X.env whole=(do let v ←whole;standAt e.pos;holding [v] (truthy v)):=by intro _;rfl):QT X e (lX t):=
 (yX h he).imp λσ H Q h=>h.test
noncomputable def BF (t u:WT):WT:=λτ G q=>t τ G λc G1=>if c=true then u τ G1 q else q false G1
noncomputable def Gu (t u:WT):WT:=λτ G q=>t τ G λc G1=>if c=true then q true G1 else u τ G1 q
noncomputable def BG (t:WT):WT:=λτ G q=>t τ G λc G1=>q (!c) G1
theorem dB {a:Expr} {t:WT} (ha:QT X a t):QW X (.BoolOp .And [a] pos) t:=vB ha
theorem dc {a:Expr} {t:WT} (ha:QT X a t):QW X (.BoolOp .Or [a] pos) t:=yY ha
theorem de {a b:Expr} {rest:List Expr} {t u:WT} (ha:QT X a t) (hb:QW X (.BoolOp .And (b::rest) pos) u):QW X (.BoolOp .And (a::b::rest) pos) (BF t u):=
 (yZ ha hb).imp λσ H Q z0=>z0.el λτ G q hs hg ht hQ=>⟨τ,G,_,hs,hg,ht,λc H1 G1 t1 g1 q1=>by
   cases c with
   | true=>rw[ycv rfl] at q1 ⊢;exact⟨τ,G1,q,hs.mono t1,g1,q1,λb H2 G2 t2 g2 q2=>hQ b H2 G2 (t1.trans t2) g2 q2⟩
   | false=>rw[ycw ydx] at q1 ⊢;exact hQ false H1 G1 t1 g1 q1⟩
theorem d0 {a b:Expr} {rest:List Expr} {t u:WT} (ha:QT X a t) (hb:QW X (.BoolOp .Or (b::rest) pos) u):QW X (.BoolOp .Or (a::b::rest) pos) (Gu t u):=
 (Bc ha hb).imp λσ H Q z0=>z0.el λτ G q hs hg ht hQ=>⟨τ,G,_,hs,hg,ht,λc H1 G1 t1 g1 q1=>by
   cases c with
   | true=>rw[ycv rfl] at q1 ⊢;exact hQ true H1 G1 t1 g1 q1
   | false=>rw[ycw ydx] at q1 ⊢;exact⟨τ,G1,q,hs.mono t1,g1,q1,λb H2 G2 t2 g2 q2=>hQ b H2 G2 (t1.trans t2) g2 q2⟩⟩
theorem dX {t:WT} (h:QW X e t):QT X e t:=PW.pt h
theorem dP {a:Expr} {t:WT} (ha:QT X a t):QT X (.UnaryOp .Not a pos) (BG t):=
 (y0 ha).imp λσ H Q z0=>z0.el λτ G q hs hg ht hQ=>⟨τ,G,_,hs,hg,ht,λc H1 G1 t1 g1 q1=>hQ (!c) H1 G1 t1 g1 q1⟩
noncomputable def yk (ta tb:WE):WE:=λτ G q=>ta τ G λx G1=>match x with | .bl c=>if c=true then tb τ G1 q else q (.bl false) G1 | _=>False
noncomputable def BH (ta tb:WE):WE:=λτ G q=>ta τ G λx G1=>match x with | .bl c=>if c=true then q (.bl true) G1 else tb τ G1 q | _=>False
noncomputable def ym (ta:WE):WE:=λτ G q=>ta τ G λx G1=>match x with | .bl c=>q (.bl (!c)) G1 | _=>False
theorem i7 {a:Expr} {op} {t:WE} (h:QE X a t):QE X (.BoolOp op [a] pos) t:=y3 h
theorem i8 {a b:Expr} {rest:List Expr} {ta tb:WE} (ha:QE X a ta) (hb:QE X (.BoolOp .And (b::rest) pos) tb):QE X (.BoolOp .And (a::b::rest) pos) (yk ta tb):=
 (y4 ha hb).imp λσ H Q z0=>z0.el λτ G q hs hg ht hQ=>⟨τ,G,_,hs,hg,ht,λv H1 w G1 t1 r1 g1 q1=>by
   split at q1
   ·rename_i c;cases r1;refine⟨c,rfl,?_⟩;cases c with
    | true=>rw[ycv rfl] at q1 ⊢;exact⟨τ,G1,q,hs.mono t1,g1,q1,λv2 H2 w2 G2 t2 r2 g2 q2=>hQ v2 H2 w2 G2 (t1.trans t2) r2 g2 q2⟩
    | false=>rw[ycw ydx] at q1 ⊢;exact hQ _ H1 _ G1 t1 (.bl false) g1 q1
   ·exact q1.elim⟩
theorem tu {a b:Expr} {rest:List Expr} {ta tb:WE} (ha:QE X a ta) (hb:QE X (.BoolOp .Or (b::rest) pos) tb):QE X (.BoolOp .Or (a::b::rest) pos) (BH ta tb):=
 (Bf ha hb).imp λσ H Q z0=>z0.el λτ G q hs hg ht hQ=>⟨τ,G,_,hs,hg,ht,λv H1 w G1 t1 r1 g1 q1=>by
   split at q1
   ·rename_i c;cases r1;refine⟨c,rfl,?_⟩;cases c with
    | true=>rw[ycv rfl] at q1 ⊢;exact hQ _ H1 _ G1 t1 (.bl true) g1 q1
    | false=>rw[ycw ydx] at q1 ⊢;exact⟨τ,G1,q,hs.mono t1,g1,q1,λv2 H2 w2 G2 t2 r2 g2 q2=>hQ v2 H2 w2 G2 (t1.trans t2) r2 g2 q2⟩
   ·exact q1.elim⟩
theorem zJ {a:Expr} {ta:WE} (ha:QE X a ta):QE X (.UnaryOp .Not a pos) (ym ta):=
 (y6 ha).imp λσ H Q z0=>z0.el λτ G q hs hg ht hQ=>⟨τ,G,_,hs,hg,ht,λv H1 w G1 t1 r1 g1 q1=>by
   split at q1
   ·rename_i c;cases r1;exact⟨c,rfl,hQ _ H1 _ G1 t1 (.bl _) g1 q1⟩
   ·exact q1.elim⟩
noncomputable def BI (c:WT) (ta tb:WE):WE:=λτ G q=>c τ G λb G1=>if b=true then ta τ G1 q else tb τ G1 q
theorem i9 {c a b:Expr} {tc:WT} {ta tb:WE} (hc:QT X c tc) (ha:QE X a ta) (hb:QE X b tb):QE X (.IfExp c a b pos) (BI tc ta tb):=
 (sC hc ha hb).imp λσ H Q z0=>z0.el λτ G q hs hg ht hQ=>⟨τ,G,_,hs,hg,ht,λc H1 G1 t1 g1 q1=>by
   cases c with
   | true=>rw[ycv rfl] at q1 ⊢;exact⟨τ,G1,q,hs.mono t1,g1,q1,λv2 H2 w2 G2 t2 r2 g2 q2=>hQ v2 H2 w2 G2 (t1.trans t2) r2 g2 q2⟩
   | false=>rw[ycw ydx] at q1 ⊢;exact⟨τ,G1,q,hs.mono t1,g1,q1,λv2 H2 w2 G2 t2 r2 g2 q2=>hQ v2 H2 w2 G2 (t1.trans t2) r2 g2 q2⟩⟩
noncomputable def tw:WA:=λ_ G q=>q [] G
noncomputable def yn (ta:WE) (tr:WA):WA:=λτ G q=>ta τ G λx G1=>tr τ G1 λxs G2=>q (x::xs) G2
theorem ag:QA X [] tw:=pa_nil.imp λσ H Q z0=>z0.el λτ G q hs hg ht hQ=>hQ [] H [] G (aP.refl H) .nil hg ht
theorem ac {te:WE} {t:WA} (ha:QE X e te) (hr:QA X es t) (hs:starEach (e::es) X.env=(false,eval e X.env)::starEach es X.env:=by rfl):QA X (e::es) (yn te t):=
 (dn ha hr hs).imp λσ H Q z0=>z0.el λτ G q hs hg ht hQ=>⟨τ,G,_,hs,hg,ht,λv H1 w G1 t1 r1 g1 q1=>
   ⟨τ,G1,_,hs.mono t1,g1,q1,λvs H2 ws G2 t2 r2 g2 q2=>hQ (v::vs) H2 (w::ws) G2 (t1.trans t2) (.cons (r1.mono t2) r2) g2 q2⟩⟩
theorem bQ {n:Nat} (h:n<=100000):n<=sizeLine:=by rw[sizeLine_eq];lia
noncomputable def BJ (t:WA):WE:=λτ G q=>t τ G λws G1=>ws.length<=100000/\q (.tup ws) G1
noncomputable def BK (t:WA):WE:=λτ G q=>t τ G λws G1=>ws.length<=100000/\∀p,G1 p=none->q (.ref p) (aQ G1 p (.lst ws))
theorem aD {x1} {t:WA} (h:QA X es t):QE X (.Tuple es x1 pos) (BJ t):=
 (zu h).imp λσ H Q z0=>z0.el λτ G q hs hg ht hQ=>⟨τ,G,_,hs,hg,ht,λvs H1 ws G1 t1 r1 g1 q1=>
   ⟨by rw[←r1.length];exact bQ q1.1,λp hp=>hQ _ _ _ G1 (t1.trans (aP.new hp _)) (.tup ba (r1.mono (aP.new hp _))) (g1.keep hp _) q1.2⟩⟩
theorem cK {t:WA} (h:QA X es t):QE X (.List es pos) (BK t):=
 (zv h).imp λσ H Q z0=>z0.el λτ G q hs hg ht hQ=>⟨τ,G,_,hs,hg,ht,λvs H1 ws G1 t1 r1 g1 q1=>
   ⟨by rw[←r1.length];exact bQ q1.1,λp hp=>hQ _ _ _ _ (t1.trans (aP.new hp _)) (.ref p) (g1.put (aP.new hp _) r1 q1.1) (q1.2 p (g1.fresh hp))⟩⟩
noncomputable def yo:WS:=λd τ G=>d.nx τ G
noncomputable def zK (t u:WS):WS:=λd τ G=>t { d with nx:=u d } τ G
theorem lW.mono {H H1:Hp} {d:dL} {D:fe} (l:lW K H d D) (t:aP H H1):lW K H1 d D:=
 ⟨λσ2 H2 τ2 G2 t2=>l.nx σ2 H2 τ2 G2 (t.trans t2),λv H2 w G2 t2=>l.rt v H2 w G2 (t.trans t2),λσ2 H2 τ2 G2 t2=>l.bk σ2 H2 τ2 G2 (t.trans t2),λσ2 H2 τ2 G2 t2=>l.ct σ2 H2 τ2 G2 (t.trans t2)⟩
theorem ah:lH X [] yo:=pss_nil.imp λD σ H z0=>z0.el λτ G d hs hg ht l=>l.nx σ H τ G (aP.refl H) hs hg ht
theorem ae {rest:List Stmt} {t u:WS} (h1:QS X st t) (h2:lH X rest u):lH X (st::rest) (zK t u):=
 (sE h1 h2).imp λD σ H z0=>z0.el λτ G d hs hg ht l=>⟨τ,G,_,hs,hg,ht,⟨λσ1 H1 τ1 G1 t1 s1 g1 q1=>⟨τ1,G1,d,s1,g1,q1,l.mono t1⟩,l.rt,l.bk,l.ct⟩⟩
theorem aW {t:WS} (h1:QS X st t):lH X [st] t:=vC h1
noncomputable def yp (te:WE):WS:=λd τ G=>te τ G λ_ G1=>d.nx τ G1
theorem bu {te:WE} (he:QE X e te) (hs:swapsWith e none pos.line X.env=pure false:=by rfl):QS X (.Expr e pos) (yp te):=
 (vD he hs).imp λD σ H z0=>z0.el λτ G d hs hg ht l=>⟨τ,G,_,hs,hg,ht,λv H1 w G1 t1 r1 g1 q1=>l.nx σ H1 τ G1 t1 (hs.mono t1) g1 q1⟩
noncomputable def BL (te:WE):WS:=λd τ G=>te τ G d.rt
theorem aq {te:WE} (he:QE X e te):QS X (.Return (some e) pos) (BL te):=
 (y7 he).imp λD σ H z0=>z0.el λτ G d hs hg ht l=>⟨τ,G,_,hs,hg,ht,λv H1 w G1 t1 r1 g1 q1=>l.rt v H1 w G1 t1 r1 g1 q1⟩
noncomputable def Gv (c:WT) (t u:WS):WS:=λd τ G=>c τ G λb G1=>if b=true then t d τ G1 else u d τ G1
theorem aS {c:Expr} {a b:List Stmt} {tc:WT} {t u:WS} (hc:QT X c tc) (ha:lH X a t) (hb:lH X b u):QS X (.If c a b pos) (Gv tc t u):=
 (Bk hc ha hb).imp λD σ H z0=>z0.el λτ G d hs hg ht l=>⟨τ,G,_,hs,hg,ht,λc H1 G1 t1 g1 q1=>by
   cases c with
   | true=>rw[ycv rfl] at q1 ⊢;exact⟨τ,G1,d,hs.mono t1,g1,q1,l.mono t1⟩
   | false=>rw[ycw ydx] at q1 ⊢;exact⟨τ,G1,d,hs.mono t1,g1,q1,l.mono t1⟩⟩
noncomputable def ff (i:Nat):WG:=λw τ G q=>q (τ.set i (some w)) G
theorem bI (i:Nat) (hN:X.N.Nodup) (hi:X.N[i]?=some x) (hx:vz X.env.scope x) (hf:X.fn x=true∨X.env.scope.names.lookup x=some .local:=by first | exact .inl rfl | exact .inr rfl | assumption):QG X (.Name x pos) (ff i):=
 (vF hN hi hx hf).imp λv σ H Q ⟨w,τ,G,q,r,hs,hg,ht,hQ⟩=>hQ _ H _ G (aP.refl H) (hs.set r i) hg ht
noncomputable def vX:yj:=λws τ G q=>match ws with | []=>q τ G | _=>False
noncomputable def pJ (t:WG) (u:yj):yj:=λws τ G q=>match ws with | w::r=>t w τ G λτ1 G1=>u r τ1 G1 q | []=>False
theorem kK:BD X [] vX:=pgs_nil.imp λvs σ H Q ⟨ws,τ,G,q,r,hs,hg,ht,hQ⟩=>by
 unfold vX at ht;cases r with
 | nil=>exact⟨rfl,hQ σ H τ G (aP.refl H) hs hg ht⟩
 | cons _ _=>exact ht.elim
theorem dQ {t:WG} {u:yj} (h1:QG X e t) (h2:BD X es u)
 (hs:(assignEach (e::es) X.env).map (·.2)=assign e X.env::(assignEach es X.env).map (·.2):=by rfl):BD X (e::es) (pJ t u):=
 (sF h1 h2 hs).imp λvs σ H Q ⟨ws,τ,G,q,r,hs,hg,ht,hQ⟩=>by
   unfold pJ at ht;cases r with
   | nil=>exact ht.elim
   | cons r rs=>
     exact⟨_,_,rfl,_,τ,G,_,r,hs,hg,ht,λσ1 H1 τ1 G1 t1 s1 g1 q1=>⟨_,τ1,G1,q,rs.mono t1,s1,g1,q1,λσ2 H2 τ2 G2 t2=>hQ σ2 H2 τ2 G2 (t1.trans t2)⟩⟩
noncomputable def vY (n:Nat) (t:yj):WG:=λw τ G q=>match w with | .tup ws=>ws.length=n/\t ws τ G q | _=>False
theorem oA {t:yj} (hc:X.calm=true) (h:BD X es t)
 (hn:(assignEach es X.env).length=es.length:=by rfl) (hst:(assignEach es X.env).findIdx? (·.1)=none:=by rfl):QG X (.Tuple es k pos) (vY es.length t):=
 (y8 hc h hn hst).imp λv σ H Q ⟨w,τ,G,q,r,hs,hg,ht,hQ⟩=>by
   unfold vY at ht;cases r with
   | tup h r=>exact⟨_,_,rfl,dA.of h,by rw[←r.length];exact ht.1,_,τ,G,q,r,hs,hg,ht.2,hQ⟩
   | _=>exact ht.elim
noncomputable def zL (te:WE) (g:WG):WS:=λd τ G=>te τ G λx G1=>g x τ G1 d.nx
theorem ay (i:Nat) {te:WE} {pos' pos:Pos} (hN:X.N.Nodup) (hi:X.N[i]?=some x) (hx:vz X.env.scope x) (he:QE X e te) (hs:swapsWith e (some (.Name x pos')) pos.line X.env=pure false:=by rfl) (hf:X.fn x=true∨X.env.scope.names.lookup x=some .local:=by first | exact .inl rfl | exact .inr rfl | assumption):
 QS X (.Assign [.Name x pos'] e pos) (zL te (ff i)):=
 (y9 hN hi hx he hs hf).imp λD σ H z0=>z0.el λτ G d hs hg ht l=>
   ⟨τ,G,_,hs,hg,ht,λv H1 w G1 t1 r1 g1 q1=>l.nx _ H1 _ G1 t1 ((hs.mono t1).set r1 i) g1 q1⟩
noncomputable def tz (c:WT) (tb:WS):WS:=λd τ G=>∃I:Nat->dF->Gp->Prop,(∃m,I m τ G)/\∀m τ G,I m τ G->
 c τ G λb G1=>if b=true then ∃N:dF->Gp->Prop,(∀τ1 G1,N τ1 G1->∃m1,m1<m/\I m1 τ1 G1)/\tb { d with nx:=N,ct:=N,bk:=d.nx } τ G1 else d.nx τ G1
theorem eF {c:Expr} {tc:WT} {tb:WS} (hp:PassesOwn (model X.prog X.w) X.A X.env X.xe) (hc:QT X c tc) (hb:lH X body tb):QS X (.While c body [] pos) (tz tc tb):=
 (sG hp hc hb).imp λD σ H ⟨τ,G,d,hs,hg,⟨I,⟨m,i0⟩,turn⟩,l⟩=>by
   refine⟨λm σ1 H1=>∃τ1 G1,aP H H1/\bh X.K H1 τ1 σ1/\aO X.K H1 G1/\I m τ1 G1,⟨m,τ,G,aP.refl H,hs,hg,i0⟩,?_⟩;rintro m1 σ1 H1 ⟨τ1,G1,t1,s1,g1,i1⟩;refine⟨τ1,G1,_,s1,g1,turn m1 τ1 G1 i1,λb H2 G2 t2 g2 q2=>?_⟩;cases b with
   | true=>
     rw[ycv rfl] at q2 ⊢;obtain⟨N,hN,q2⟩:=q2;refine⟨λσ3 H3=>∃τ3 G3,aP H H3/\bh X.K H3 τ3 σ3/\aO X.K H3 G3/\N τ3 G3,?_,τ1,G2,_,s1.mono t2,g2,q2,?_⟩
     ·rintro σ3 H3 ⟨τ3,G3,t3,s3,g3,n3⟩;obtain⟨m3,hm,i3⟩:=hN τ3 G3 n3;exact⟨m3,hm,τ3,G3,t3,s3,g3,i3⟩
     ·have tt:=t1.trans t2;exact⟨λσ3 H3 τ3 G3 t3 s3 g3 q3=>⟨τ3,G3,tt.trans t3,s3,g3,q3⟩,λv H3 w G3 t3=>l.rt v H3 w G3 (tt.trans t3),λσ3 H3 τ3 G3 t3=>l.nx σ3 H3 τ3 G3 (tt.trans t3),λσ3 H3 τ3 G3 t3 s3 g3 q3=>⟨τ3,G3,tt.trans t3,s3,g3,q3⟩⟩
   | false=>
     rw[ycw ydx] at q2 ⊢;exact l.nx σ1 H2 τ1 G2 (t1.trans t2) (s1.mono t2) g2 q2
end
section
variable {X:Cx}
noncomputable abbrev WX:=Value->Gp->Prop
noncomputable abbrev bA:=List W->Gp->WK->WX->Prop
noncomputable def vp (K:yav) (sp:bA):Sp:=λvs H Q E=>∃ws G q e,aR K H ws vs/\aO K H G/\sp ws G q e/\(∀v H1 w G1,aP H H1->cj K H1 w v->aO K H1 G1->q w G1->Q v H1)/\
 ∀c d H1 G1,aP H H1->aO K H1 G1->e c G1->E c d H1
noncomputable abbrev cu (P:Program) (w:World) (K:yav) (mg:yew) (base:Heap) (k:Nat) (f:Addr) (fd:FuncData) (ps:List Str) (sp:bA):Prop:=gj P w K mg base tq k f fd ps (vp K sp)
noncomputable def iA (sp:bA) (dws:List W) (t:WA):WE:=λτ G q=>t τ G λws G1=>sp (ws++dws) G1 q λ_ _=>False
theorem ic.call {sp:bA} {dws:List W} {dvs:List V} {t:WA} {σ:St} {H:Hp} {Q:VK} {E:XK} (hd:∀H,aR K H dws dvs) (h:ic K (iA sp dws t) σ H Q):sR (vp K sp) dvs E (LA K t) σ H Q:=by
 obtain⟨τ,G,q,hs,hg,ht,hQ⟩:=h;exact⟨τ,G,_,hs,hg,ht,λvs H1 ws G1 t1 r1 g1 q1=>⟨ws++dws,G1,q,_,r1.append (hd H1),g1,q1,λv H2 w G2 t2=>hQ v H2 w G2 (t1.trans t2),λ_ _ _ _ _ _ z=>z.elim⟩⟩
theorem vZ {f:Addr} {sp:bA} {p pos:Pos} {t:WA} (F:cu X.prog X.w X.K X.mg X.base k f fd ps sp) (hr:aw k X.A) (hg:Gl X x) (hm:X.mg x=some (.ref f))
 (hk:keepIn X.K (.ref f)=true) (hb:bM X.K fd ps []) (ha:QA X (e::es) t) (hdb:(x==("__debug__":Str))=false:=by decide)
 (he:starEach (e::es) X.env=(false,eval e X.env)::starEach es X.env:=by rfl) (hpl:(backTo pos (starEach es X.env)).any (·.1)=false:=by rfl):QE X (.Call (.Name x p) (e::es) [] pos) (iA sp [] t):=
 (kF F hr hg hm hk hb .nil jT ha hdb he hpl).imp λ_ _ _ h=>h.call λ_=> .nil
theorem tD {f:Addr} {sp:bA} {p pos:Pos} (F:cu X.prog X.w X.K X.mg X.base k f fd ps sp) (hr:aw k X.A) (hg:Gl X x) (hm:X.mg x=some (.ref f))
 (hk:keepIn X.K (.ref f)=true) (hb:bM X.K fd ps []) (hdb:(x==("__debug__":Str))=false:=by decide):QE X (.Call (.Name x p) [] [] pos) (iA sp [] tw):=
 (sT F hr hg hm hk hb .nil jT hdb).imp λ_ _ _ h=>by
   obtain⟨τ,G,q,hs,hg,ht,hQ⟩:=h;exact⟨[],G,q,_,.nil,hg,ht,hQ,λ_ _ _ _ _ _ z=>z.elim⟩
noncomputable def ie (N:List Str) (ws:List W):dF:=ws.map some++List.replicate (N.length-ws.length) none
theorem cu.none {f:Addr} {sp:bA} (h:∀ws G q e,¬sp ws G q e):cu P w K mg base k f fd ps sp:=
 ⟨λ_ _ _ _ ⟨_,_,_,_,_,_,z,_⟩=>absurd z (h _ _ _ _),λ_ _ _ _ _ _ _ _ _ _ _ _ _ ⟨_,_,_,_,_,_,z,_⟩=>absurd z (h _ _ _ _)⟩
theorem A5 {x qual:Str} {f:Addr} {N ps:List Str} {sp:bA} (F:cq K x qual st f fd) (S:bg N ps (ak st)) (len:∀ws G q e,sp ws G q e->ws.length=ps.length)
 (hbody:∀(cdv:Value) (A:Around) (outer:List Env) (s:Shared) (H:Hp) (E:XK),aw k (A.deeper (envOfC qual (ak st) s.heap.objs.size f cdv))->
   ∃t,lH (cZ tq P w K mg base N qual (ak st) f cdv A outer s H E).nox (ao st) t/\
    ∀(ws:List W) (G:Gp) (q:WK) (e:WX),sp ws G q e->t { nx:=λ_ G1=>∃G0,aG G0 G1/\q .non G0,rt:=λw G1=>∃G0,aG G0 G1/\q w G0 } (ie N ws) G):cu P w K mg base (k+1) f fd ps sp:=by
 refine F.ok S (λvs H Q E ⟨ws,G,q,e,r,g,z,_⟩=>by rw[←r.length];exact len _ _ _ _ z) (λcdv A outer s H vs Q E hr ⟨ws,G,q,e,r,g,z,hQ,_⟩=>?_);obtain⟨t,ht,hq⟩:=hbody cdv A outer s H E hr;exact⟨_,ht,_,G,_,bh.start r,g,hq ws G q e z,⟨λσ1 H1 τ1 G1 t1 s1 g1 ⟨G0,l,q1⟩=>hQ .non H1 .non G0 t1 .non (g1.le l) q1,λv H1 w G1 t1 r1 g1 ⟨G0,l,q1⟩=>hQ v H1 w G0 t1 r1 (g1.le l) q1,λ_ _ _ _ _ _ _ z=>z.elim,λ_ _ _ _ _ _ _ z=>z.elim⟩⟩
noncomputable def yq (K:yav) (r:List W->Gp->WK->Prop):List V->Hp->VK->Prop:=λvs H Q=>∃ws G q,aR K H ws vs/\aO K H G/\r ws G q/\∀v H1 w G1,aP H H1->cj K H1 w v->aO K H1 G1->q w G1->Q v H1
noncomputable def d4 (X:Cx) (f:Value) (r:List W->Gp->WK->Prop):Prop:=fV X f (yq X.K r)
noncomputable def DU (r:List W->Gp->WK->Prop) (t:WA):WE:=λτ G q=>t τ G λws G1=>r ws G1 q
theorem ic.cb {r:List W->Gp->WK->Prop} {t:WA} {σ:St} {H:Hp} {Q:VK} (h:ic K (DU r t) σ H Q):Em (yq K r) (LA K t) σ H Q:=by
 obtain⟨τ,G,q,hs,hg,ht,hQ⟩:=h;exact⟨τ,G,_,hs,hg,ht,λvs H1 ws G1 t1 r1 g1 q1=>⟨ws,G1,q,r1,g1,q1,λv H2 w G2 t2=>hQ v H2 w G2 (t1.trans t2)⟩⟩
theorem aM {id:String} {r:List W->Gp->WK->Prop} {p pos:Pos} {t:WA} (hc:d4 X (.builtin id) r) (hg:Gl X x) (hm:X.mg x=none) (hv:bootBuiltins x=some (.builtin id)) (ha:QA X (e::es) t)
 (hn:x≠"__name__":=by decide) (hdb:(x==("__debug__":Str))=false:=by decide)
 (he:starEach (e::es) X.env=(false,eval e X.env)::starEach es X.env:=by rfl) (hpl:(backTo pos (starEach es X.env)).any (·.1)=false:=by rfl):QE X (.Call (.Name x p) (e::es) [] pos) (DU r t):=
 (i4 hc hg hm hv ha hn hdb he hpl).imp λ_ _ _ h=>h.cb
theorem ce {T:String} {r:List W->Gp->WK->Prop} {p pos:Pos} {t:WA} (hc:d4 X (.type T) r) (hg:Gl X x) (hm:X.mg x=none) (hv:bootBuiltins x=some (.type T)) (ha:QA X (e::es) t)
 (hn:x≠"__name__":=by decide) (hdb:(x==("__debug__":Str))=false:=by decide)
 (he:starEach (e::es) X.env=(false,eval e X.env)::starEach es X.env:=by rfl) (hpl:(backTo pos (starEach es X.env)).any (·.1)=false:=by rfl):QE X (.Call (.Name x p) (e::es) [] pos) (DU r t):=
 (re hc hg hm hv ha hn hdb he hpl).imp λ_ _ _ h=>h.cb
theorem aR.one {H:Hp} {w:W} {vs:List V} (r:aR K H [w] vs):∃v,vs=[v]/\cj K H w v:=by
 cases r with
 | cons r rs=>cases rs;exact⟨_,rfl,r⟩
theorem aR.two {H:Hp} {w u:W} {vs:List V} (r:aR K H [w,u] vs):∃v x,vs=[v,x]/\cj K H w v/\cj K H u x:=by
 cases r with
 | cons r rs=>
   obtain⟨x,rfl,r2⟩:=rs.one;exact⟨_,_,rfl,r,r2⟩
noncomputable def BM:List W->Gp->WK->Prop:=λws G q=>match ws with
 | [.tup xs]=>q (.int xs.length) G
 | [.scr ns]=>q (.int ns.length) G
 | [.ref a]=>∃xs,G a=some (.lst xs)/\q (.int xs.length) G
 | _=>False
theorem yr:d4 X (.builtin "len") BM:=by
 rintro π s σ H xs us Q I r ⟨ws,G,q,rw',g,h,hQ⟩;cases rw' with
 | nil=>exact False.elim h
 | cons r1 rr'=>
   cases rr' with
   | cons _ _=>cases r1<;> exact False.elim h
   | nil=>
     cases r1 with
     | tup hh rr=>exact eS π s σ H _ us Q I r ⟨_,_,rfl,.inr (dA.of hh),hQ _ H _ G (aP.refl H) (by rw[rr.length];exact .int _) g h⟩
     | scr hh=>exact eS π s σ H _ us Q I r ⟨_,_,rfl,.inl hh.sq,hQ _ H _ G (aP.refl H) (by rw[length_map];exact .int _) g h⟩
     | ref a=>
       obtain⟨ys,e,h⟩:=h;obtain⟨_,zs,e1,rr⟩:=g a _ e;exact eS π s σ H _ us Q I r ⟨_,_,rfl,.inl (dE.of e1),hQ _ H _ G (aP.refl H) (by rw[rr.length];exact .int _) g h⟩
     | _=>exact False.elim h
noncomputable def tE:List W->Gp->WK->Prop:=λws G q=>match ws with
 | [.tup xs]=>q (.tup xs) G
 | [.ref a]=>∃xs,G a=some (.lst xs)/\q (.tup xs) G
 | _=>False
theorem gE:d4 X (.type "tuple") tE:=by
 rintro π s σ H xs us Q I r ⟨ws,G,q,rw',g,h,hQ⟩;cases rw' with
 | nil=>exact False.elim h
 | cons r1 rr'=>
   cases rr' with
   | cons _ _=>cases r1<;> exact False.elim h
   | nil=>
     cases r1 with
     | tup hh rr=>exact fW π s σ H _ us Q I r ⟨_,_,rfl,.inr ⟨dA.of hh,hQ _ H _ G (aP.refl H) (.tup hh rr) g h⟩⟩
     | ref a=>
       obtain⟨ys,e,h⟩:=h;obtain⟨_,zs,e1,rr⟩:=g a _ e;exact fW π s σ H _ us Q I r ⟨_,_,rfl,.inl ⟨dE.of e1,λl hl=>hQ _ _ _ G (aP.new hl _) (.tup ba (rr.mono (aP.new hl _))) (g.keep hl _) h⟩⟩
     | _=>exact False.elim h
noncomputable def zM:List W->Gp->WK->Prop:=λws G q=>match ws with
 | [.int i]=>q (.int i) G
 | [.bl b]=>q (.int (if b then 1 else 0)) G
 | _=>False
theorem BN:d4 X (.type "int") zM:=by
 rintro π s σ H xs us Q I r ⟨ws,G,q,rw',g,h,hQ⟩;cases rw' with
 | nil=>exact False.elim h
 | cons r1 rr'=>
   cases rr' with
   | cons _ _=>cases r1<;> exact False.elim h
   | nil=>
     cases r1 with
     | int i=>exact jN π s σ H _ us Q I r (.inl ⟨_,rfl,hQ _ H _ G (aP.refl H) (.int _) g h⟩)
     | bl b=>exact jN π s σ H _ us Q I r (.inr ⟨_,rfl,hQ _ H _ G (aP.refl H) (.int _) g h⟩)
     | _=>exact False.elim h
noncomputable def BO:W2:=λx y G q=>match x,y with
 | .int i,.int j=>q (.int (i+j)) G
 | .tup xs,.tup ys=>xs.length+ys.length<=100000/\q (.tup (xs++ys)) G
 | .ref a,.ref b=>∃xs ys,G a=some (.lst xs)/\G b=some (.lst ys)/\xs.length+ys.length<=100000/\∀p,G p=none->q (.ref p) (aQ G p (.lst (xs++ys)))
 | _,_=>False
theorem EC {σ:St} {H:Hp} {a b:Addr} {ys:List V} {Q:VK} (I:aH X π σ H s) (ha:H a=some (.tup [])) (hb:H b=some (.tup ys)) (q:Q (.ref b) H):wpAny (model X.prog X.w) X.A (binaryOp .Add (.ref a) (.ref b)) (EP X π σ Q) X.xe s:=by
 obtain⟨its,r1,p1,_⟩:=I.tuple (dA.of ha);obtain⟨its2,r2,p2,_⟩:=I.tuple (dA.of hb);cases r1;obtain⟨⟨cls,dd,data,sl⟩,ho,hc,n,hd⟩:=id p1;obtain⟨⟨cls2,dd2,data2,sl2⟩,ho2,hc2,n2,hd2⟩:=id p2;simp only at hc hd hc2 hd2;subst hc hd hc2 hd2;exact concat_meets ⟨_,ho,rfl⟩ ⟨_,ho2,rfl⟩ noFill_tuple_add seq_tuple_add PySem.F.slot_tuple_add PySem.F.entry_tuple_add (PySem.F.args_tuple_add_2 _ _)
  (tuple_addW0 a b #[] its2.toArray n n2 dd dd2 sl sl2 rfl) ⟨ho,ho2,⟨.ref b,H,I,rfl,q⟩⟩
theorem BP:fc X (binaryOp .Add) BO:=by
 rintro π s σ H x y v u Q I rx ry ⟨wx,wy,G,q,r1,r2,g,h,hQ⟩;cases r1 with
 | int i=>
   cases r2 with
   | int j=>exact zh π s σ H _ _ v u Q I rx ry ⟨_,_,rfl,rfl,hQ _ H _ G (aP.refl H) (.int _) g h⟩
   | _=>exact False.elim h
 | @tup a ws xs ha ra=>
   cases r2 with
   | @tup b us ys hb rb=>
     cases xs with
     | nil=>
       cases ra;cases rx;cases ry;exact EC I ha hb (hQ _ H _ G (aP.refl H) (.tup hb rb) g h.2)
     | cons x0 xr=>
       refine vS π s σ H _ _ v u Q I rx ry ⟨a,b,_,_,rfl,rfl,dA.of ha,dA.of hb,by simp,by rw[←ra.length,←rb.length];exact bQ h.1,λe=>?_,λ_ p hp=>?_⟩
       ·subst e;cases rb;have h2:=h.2;rw[append_nil] at h2;exact hQ _ H _ G (aP.refl H) (.tup ha ra) g h2
       ·exact hQ _ _ _ G (aP.new hp _) (.tup ba ((ra.append rb).mono (aP.new hp _))) (g.keep hp _) h.2
   | _=>exact False.elim h
 | ref a=>
   cases r2 with
   | ref b=>
     obtain⟨xs,ys,ea,eb,hl,h⟩:=h;obtain⟨_,xs',ha,ra⟩:=g _ _ ea;obtain⟨_,ys',hb,rb⟩:=g _ _ eb;refine zC π s σ H _ _ v u Q I rx ry ⟨_,_,_,_,rfl,rfl,ha,hb,by rw[←ra.length,←rb.length];exact bQ hl,λp hp=>?_⟩;exact hQ _ _ _ _ (aP.new hp _) (.ref p) (g.put (aP.new hp _) (ra.append rb) (by rw[length_append];exact hl)) (h p (g.fresh hp))
   | _=>exact False.elim h
 | _=>exact False.elim h
noncomputable def ro (C:Int->Int->Prop) (f:Int->Int->W):W2:=λx y G q=>match x,y with
 | .int i,.int j=>C i j/\q (f i j) G
 | _,_=>False
theorem oC {f:Value->Value->Sem Value} {C:Int->Int->Prop} {g:Int->Int->Int} (h:gA X f (rI C λi j=> .int (g i j))):fc X f (ro C λi j=> .int (g i j)):=by
 rintro π s σ H x y v u Q I rx ry ⟨wx,wy,G,q,r1,r2,gg,hh,hQ⟩;unfold ro at hh;split at hh
 ·cases r1;cases r2;exact h π s σ H _ _ v u Q I rx ry ⟨_,_,rfl,rfl,hh.1,hQ _ H _ G (aP.refl H) (.int _) gg hh.2⟩
 ·exact hh.elim
noncomputable def jU (f:Int->Int->W):W2:=λx y G q=>match x,y with
 | .int i,.int j=>q (f i j) G
 | _,_=>False
theorem tF {f:Value->Value->Sem Value} {g:Int->Int->Bool} (h:gA X f (vG λi j=> .bl (g i j))):fc X f (jU λi j=> .bl (g i j)):=by
 rintro π s σ H x y v u Q I rx ry ⟨wx,wy,G,q,r1,r2,gg,hh,hQ⟩;unfold jU at hh;split at hh
 ·cases r1;cases r2;exact h π s σ H _ _ v u Q I rx ry ⟨_,_,rfl,rfl,hQ _ H _ G (aP.refl H) (.bl _) gg hh⟩
 ·exact hh.elim
noncomputable abbrev ED:W2:=ro (λ_ j=>0<j) λi j=> .int (i%j)
theorem bE:fc X (binaryOp .Mod) ED:=oC zm
noncomputable abbrev GR:W2:=jU λi j=> .bl (decide (i<=j))
noncomputable abbrev GS:W2:=jU λi j=> .bl (decide (j<i))
noncomputable abbrev GU:W2:=jU λi j=> .bl (decide (j<=i))
theorem rp:fc X (compareOp .LtE) GR:=tF Bt
theorem fQ:fc X (compareOp .Gt) GS:=tF Bu
theorem v0:fc X (compareOp .GtE) GU:=tF Bv
noncomputable def BQ:W2:=λx y G q=>match x,y with
 | .tup xs,.int i=>∃w,eA xs i=some w/\q w G
 | .scr ns,.int i=>∃n,eA ns i=some n/\q (.int n) G
 | .ref a,.int i=>∃xs w,G a=some (.lst xs)/\eA xs i=some w/\q w G
 | _,_=>False
theorem aR.at {H:Hp} {ws:List W} {vs:List V} {i:Int} {w:W} (r:aR K H ws vs) (e:eA ws i=some w):∃v,eA vs i=some v/\cj K H w v:=by
 unfold eA at e ⊢;rw[r.length] at e;cases h:sY vs.length i with
 | none=>rw[h] at e;cases e
 | some j=>
   rw[h] at e;exact r.get e
theorem v6 {α β:Type} (f:α->β) (xs:List α) (i:Int):eA (xs.map f) i=(eA xs i).map f:=by
 unfold eA;rw[length_map];cases sY xs.length i with
 | none=>rfl
 | some j=>simp
theorem EE:BE X BQ:=by
 rintro value slice π s σ H x y v u Q I rx ry ⟨wx,wy,G,q,r1,r2,g,h,hQ⟩ hsl;cases r2 with
 | int i=>
   cases r1 with
   | tup hh rr=>
     obtain⟨w,e,h⟩:=h;obtain⟨v',e',r'⟩:=rr.at e;exact zy value slice π s σ H _ _ v u Q I rx ry ⟨_,_,_,v',rfl,rfl,dA.of hh,e',hQ _ H _ G (aP.refl H) r' g h⟩ hsl
   | scr hh=>
     obtain⟨n,e,h⟩:=h;exact pG value slice π s σ H _ _ v u Q I rx ry ⟨_,_,_,.int n,rfl,rfl,hh.sq,by rw[v6,e];rfl,hQ _ H _ G (aP.refl H) (.int n) g h⟩ hsl
   | ref a=>
     obtain⟨xs,w,ea,e,h⟩:=h;obtain⟨_,zs,e1,rr⟩:=g _ _ ea;obtain⟨v',e',r'⟩:=rr.at e;exact pG value slice π s σ H _ _ v u Q I rx ry ⟨_,_,_,v',rfl,rfl,dE.of e1,e',hQ _ H _ G (aP.refl H) r' g h⟩ hsl
   | _=>exact False.elim h
 | _=>cases r1<;> exact False.elim h
end
mutual
noncomputable def W.flat:W->Bool
 | .tup xs=>W.flats xs
 | .ref _=>false
 | .scr _=>false
 | _=>true
noncomputable def W.flats:List W->Bool
 | []=>true
 | x::xs=>W.flat x&&W.flats xs
end
mutual
noncomputable def W.dep:W->Nat
 | .tup xs=>W.deps xs+1
 | _=>0
noncomputable def W.deps:List W->Nat
 | []=>0
 | x::xs=>max (W.dep x) (W.deps xs)
end
mutual
noncomputable def W.eq:W->W->Bool
 | .non,.non=>true
 | .bl a,.bl b=>a==b
 | .bl a,.int j=>(if a then 1 else 0)==j
 | .int i,.bl b=>i==(if b then 1 else 0)
 | .int i,.int j=>i==j
 | .str x,.str y=>x==y
 | .tup xs,.tup ys=>W.eqs xs ys
 | _,_=>false
noncomputable def W.eqs:List W->List W->Bool
 | [],[]=>true
 | x::xs,y::ys=>W.eq x y&&W.eqs xs ys
 | _,_=>false
end
theorem dg {P:Prop} (h:false=true):P:=Bool.noConfusion h
theorem W.eq_int (i j:Int):(W.int i).eq (W.int j)=(i==j):=rfl
theorem W.eq_tup (xs ys:List W):(W.tup xs).eq (W.tup ys)=W.eqs xs ys:=rfl
mutual
theorem W.eq_refl:∀w:W,w.flat=true->w.eq w=true
 | .non,_=>rfl
 | .bl b,_=>beq_self_eq_true b
 | .int i,_=>beq_self_eq_true i
 | .str x,_=>beq_self_eq_true x
 | .tup xs,h=>W.eqs_refl xs h
 | .ref _,h=>dg h
 | .scr _,h=>dg h
theorem W.eqs_refl:∀ws:List W,W.flats ws=true->W.eqs ws ws=true
 | [],_=>rfl
 | x::xs,h=>by
   have h':x.flat=true/\W.flats xs=true:=(Bool.and_eq_true _ _).mp h;exact(Bool.and_eq_true _ _).mpr ⟨W.eq_refl x h'.1,W.eqs_refl xs h'.2⟩
end
mutual
theorem cj.inj {K:yav} {H:Hp}:∀{w u:W} {v:V},w.flat=true->u.flat=true->cj K H w v->cj K H u v->w=u:=by
 intro w u v h1 h2 r1 r2;cases r1 with
 | non=>cases r2;rfl
 | bl _=>cases r2;rfl
 | int _=>cases r2;rfl
 | str _=>cases r2;rfl
 | ref _=>exact dg h1
 | scr _=>exact dg h1
 | tup e1 r1=>
   cases r2 with
   | ref _=>exact dg h2
   | scr _=>exact dg h2
   | tup e2 r2=>
     rw[e1] at e2;cases e2;rw[aR.inj h1 h2 r1 r2]
theorem aR.inj {K:yav} {H:Hp}:∀{ws us:List W} {vs:List V},W.flats ws=true->W.flats us=true->aR K H ws vs->aR K H us vs->ws=us:=by
 intro ws us vs h1 h2 r1 r2;cases r1 with
 | nil=>cases r2;rfl
 | cons r1 s1=>
   cases r2 with
   | cons r2 s2=>
     simp only[W.flats,Bool.and_eq_true] at h1 h2;rw[cj.inj h1.1 h2.1 r1 r2,aR.inj h1.2 h2.2 s1 s2]
end
theorem W.flats_get:∀{ws:List W} {j:Nat} {w:W},W.flats ws=true->ws[j]?=some w->w.flat=true
 | [],_,_,_,e=>by simp at e
 | x::xs,0,w,h,e=>by
   have h':x.flat=true/\W.flats xs=true:=by simpa[W.flats] using h
   simp at e;subst e;exact h'.1
 | x::xs,j+1,w,h,e=>by
   have h':x.flat=true/\W.flats xs=true:=by simpa[W.flats] using h
   exact W.flats_get h'.2 (by simpa using e)
theorem W.deps_get:∀{ws:List W} {j:Nat} {w:W},ws[j]?=some w->w.dep<=W.deps ws
 | [],_,_,e=>by simp at e
 | x::xs,0,w,e=>by simp at e;subst e;simp[W.deps];lia
 | x::xs,j+1,w,e=>by
   have:=W.deps_get (ws:=xs) (j:=j) (w:=w) (by simpa using e);simp only[W.deps];(clear e;lia)
theorem W.eqs_iff:∀(ws us:List W),W.eqs ws us=true↔ws.length=us.length/\∀(j:Nat) (a b:W),ws[j]?=some a->us[j]?=some b->W.eq a b=true
 | [],[]=>by simp[W.eqs]
 | [],_::_=>by simp[W.eqs]
 | _::_,[]=>by simp[W.eqs]
 | x::xs,y::ys=>by
   rw[W.eqs,Bool.and_eq_true,W.eqs_iff xs ys];constructor
   ·rintro⟨h1,h2,h3⟩;refine⟨by simp[h2],λj a b ea eb=>?_⟩;cases j with
    | zero=>simp at ea eb;subst ea eb;exact h1
    | succ j=>exact h3 j a b (by simpa using ea) (by simpa using eb)
   ·rintro⟨h1,h2⟩;exact⟨h2 0 x y rfl rfl,by simpa using h1,λj a b ea eb=>h2 (j+1) a b (by simpa using ea) (by simpa using eb)⟩
noncomputable def ja (ws us:List W) (j:Nat):Bool:=match ws[j]?,us[j]? with | some a,some b=>W.eq a b | _,_=>true
theorem fH (ws us:List W):((List.range (min ws.length us.length)).all (ja ws us)&&(ws.length==us.length))=W.eqs ws us:=by
 rw[Bool.eq_iff_iff,Bool.and_eq_true,W.eqs_iff,all_eq_true,beq_iff_eq];constructor
 ·rintro⟨h1,h2⟩;refine⟨h2,λj a b ea eb=>?_⟩;have hj:j<ws.length:=(List.getElem?_eq_some_iff.mp ea).1;have:=h1 j (List.mem_range.mpr (by (clear ea eb;lia)));unfold ja at this;rw[ea,eb] at this;exact this
 ·rintro⟨h1,h2⟩;refine⟨λj _=>?_,h1⟩;unfold ja;split
  ·rename_i a b ea eb;exact h2 j a b ea eb
  ·rfl
section
variable {X:Cx} {π:List (Addr×Obj)} {σ:St} {H:Hp} {s:Shared}
theorem aH.tupH {xs:List V} (I:aH X π σ H s) (h:H a=some (.tup xs)):∃its:List Value,aT xs its/\s.heap.IsTuple a its.toArray/\xs.length<=sizeLine:=I.tuple (dA.of h)
theorem fh (I:aH X π σ H s):∀(n:Nat) (A:Around) {w1 w2:W} {v1 v2:V} {u1 u2:Value},w1.dep<n->w1.flat=true->w2.flat=true->A.units+n<cLine->cj X.K H w1 v1->cj X.K H w2 v2->bn v1 u1->bn v2 u2->
 SeqAt.EqAt A s u1 u2 (w1.eq w2)/\SeqAt.RcAt A s u1 u2 (w1.eq w2)/\SeqAt.RcNeAt A s u1 u2 (!(w1.eq w2)):=by
 intro n
 induction n with
 | zero=>intro A w1 w2 v1 v2 u1 u2 h;lia
 | succ n ih=>
   intro A w1 w2 v1 v2 u1 u2 hd f1 f2 hu r1 r2 q1 q2;have hu0:A.units<cLine:=by lia
   have hui:A.in1.units+n<cLine:=by show A.units+1+n<cLine;(clear hd hu0;lia)
   cases r1 with
   | ref a=>exact dg f1
   | scr a=>exact dg f1
   | non=>
     cases (show u1=Value.none from q1);cases r2 with
     | ref a=>exact dg f2
     | scr a=>exact dg f2
     | non=>cases (show u2=Value.none from q2);exact⟨SeqAt.EqAt.same _,SeqAt.RcAt.none_none,SeqAt.RcNeAt.none_none⟩
     | bl b=>cases (show u2=Value.bool b from q2);exact⟨SeqAt.EqAt.none_bool b,SeqAt.RcAt.none_bool b,SeqAt.RcNeAt.none_bool b⟩
     | int b=>obtain⟨t,rfl⟩:=q2;exact⟨SeqAt.EqAt.none_int b t,SeqAt.RcAt.none_int b t,SeqAt.RcNeAt.none_int b t⟩
     | str b=>obtain⟨t,rfl⟩:=q2;exact⟨SeqAt.EqAt.none_str b t,SeqAt.RcAt.none_str b t,SeqAt.RcNeAt.none_str b t⟩
     | tup h r=>
       cases (show u2=Value.ref _ from q2);obtain⟨its,_,p,_⟩:=aH.tupH I h;exact⟨SeqAt.EqAt.none_tuple p hu0,SeqAt.RcAt.none_tuple p hu0,SeqAt.RcNeAt.none_tuple p hu0⟩
   | bl a=>
     cases (show u1=Value.bool a from q1);cases r2 with
     | ref a=>exact dg f2
     | scr a=>exact dg f2
     | non=>cases (show u2=Value.none from q2);exact⟨SeqAt.EqAt.bool_none a,SeqAt.RcAt.bool_none a,SeqAt.RcNeAt.bool_none a⟩
     | bl b=>cases (show u2=Value.bool b from q2);exact⟨SeqAt.EqAt.bool_bool a b,SeqAt.RcAt.bool_bool a b,SeqAt.RcNeAt.bool_bool a b⟩
     | int b=>obtain⟨t,rfl⟩:=q2;exact⟨SeqAt.EqAt.bool_int a b t,SeqAt.RcAt.bool_int a b t,SeqAt.RcNeAt.bool_int a b t⟩
     | str b=>obtain⟨t,rfl⟩:=q2;exact⟨SeqAt.EqAt.bool_str a b t,SeqAt.RcAt.bool_str a b t,SeqAt.RcNeAt.bool_str a b t⟩
     | tup h r=>
       cases (show u2=Value.ref _ from q2);obtain⟨its,_,p,_⟩:=aH.tupH I h;exact⟨SeqAt.EqAt.bool_tuple a p hu0,SeqAt.RcAt.bool_tuple a p hu0,SeqAt.RcNeAt.bool_tuple a p hu0⟩
   | int a=>
     obtain⟨ta,rfl⟩:=q1;cases r2 with
     | ref a=>exact dg f2
     | scr a=>exact dg f2
     | non=>cases (show u2=Value.none from q2);exact⟨SeqAt.EqAt.int_none a ta,SeqAt.RcAt.int_none a ta,SeqAt.RcNeAt.int_none a ta⟩
     | bl b=>cases (show u2=Value.bool b from q2);exact⟨SeqAt.EqAt.int_bool a ta b,SeqAt.RcAt.int_bool a ta b,SeqAt.RcNeAt.int_bool a ta b⟩
     | int b=>obtain⟨t,rfl⟩:=q2;exact⟨SeqAt.EqAt.int_int a ta b t,SeqAt.RcAt.int_int a ta b t,SeqAt.RcNeAt.int_int a ta b t⟩
     | str b=>obtain⟨t,rfl⟩:=q2;exact⟨SeqAt.EqAt.int_str a ta b t,SeqAt.RcAt.int_str a ta b t,SeqAt.RcNeAt.int_str a ta b t⟩
     | tup h r=>
       cases (show u2=Value.ref _ from q2);obtain⟨its,_,p,_⟩:=aH.tupH I h;exact⟨SeqAt.EqAt.int_tuple a ta p hu0,SeqAt.RcAt.int_tuple a ta p hu0,SeqAt.RcNeAt.int_tuple a ta p hu0⟩
   | str a=>
     obtain⟨ta,rfl⟩:=q1;cases r2 with
     | ref a=>exact dg f2
     | scr a=>exact dg f2
     | non=>cases (show u2=Value.none from q2);exact⟨SeqAt.EqAt.str_none a ta,SeqAt.RcAt.str_none a ta,SeqAt.RcNeAt.str_none a ta⟩
     | bl b=>cases (show u2=Value.bool b from q2);exact⟨SeqAt.EqAt.str_bool a ta b,SeqAt.RcAt.str_bool a ta b,SeqAt.RcNeAt.str_bool a ta b⟩
     | int b=>obtain⟨t,rfl⟩:=q2;exact⟨SeqAt.EqAt.str_int a ta b t,SeqAt.RcAt.str_int a ta b t,SeqAt.RcNeAt.str_int a ta b t⟩
     | str b=>obtain⟨t,rfl⟩:=q2;exact⟨SeqAt.EqAt.str_str a ta b t,SeqAt.RcAt.str_str a ta b t,SeqAt.RcNeAt.str_str a ta b t⟩
     | tup h r=>
       cases (show u2=Value.ref _ from q2);obtain⟨its,_,p,_⟩:=aH.tupH I h;exact⟨SeqAt.EqAt.str_tuple a ta p hu0,SeqAt.RcAt.str_tuple a ta p hu0,SeqAt.RcNeAt.str_tuple a ta p hu0⟩
   | @tup a ws xs h r=>
     cases (show u1=Value.ref _ from q1);obtain⟨its,rv,p,_⟩:=aH.tupH I h;cases r2 with
     | ref a=>exact dg f2
     | scr a=>exact dg f2
     | non=>cases (show u2=Value.none from q2);exact⟨SeqAt.EqAt.tuple_none p hu0,SeqAt.RcAt.tuple_none p hu0,SeqAt.RcNeAt.tuple_none p hu0⟩
     | bl b=>cases (show u2=Value.bool b from q2);exact⟨SeqAt.EqAt.tuple_bool b p hu0,SeqAt.RcAt.tuple_bool b p hu0,SeqAt.RcNeAt.tuple_bool b p hu0⟩
     | int b=>obtain⟨t,rfl⟩:=q2;exact⟨SeqAt.EqAt.tuple_int b t p hu0,SeqAt.RcAt.tuple_int b t p hu0,SeqAt.RcNeAt.tuple_int b t p hu0⟩
     | str b=>obtain⟨t,rfl⟩:=q2;exact⟨SeqAt.EqAt.tuple_str b t p hu0,SeqAt.RcAt.tuple_str b t p hu0,SeqAt.RcNeAt.tuple_str b t p hu0⟩
     | @tup b us ys h2 r2=>
       cases (show u2=Value.ref _ from q2);obtain⟨its2,rv2,p2,_⟩:=aH.tupH I h2;have g1:W.flats ws=true:=f1;have g2:W.flats us=true:=f2;have hd':W.deps ws<n:=by simp only[W.dep] at hd;(clear hu hu0 hui;lia)
       have e1:its.length=ws.length:=by rw[←rv.length,r.length]
       have e2:its2.length=us.length:=by rw[←rv2.length,r2.length]
       have he:∀j (h1:j<its.toArray.size) (h2:j<its2.toArray.size),SeqAt.EqAt A.in1 s its.toArray[j] its2.toArray[j] (ja ws us j):=λj j1 j2=>by
        rw[size_toArray] at j1 j2;have ea:ws[j]?=some ws[j]:=ycz (by (clear hu hu0 hui hd hd' e2 j2;lia));have eb:us[j]?=some us[j]:=ycz (by lia);obtain⟨va,ea1,ra⟩:=r.get ea;obtain⟨vb,eb1,rb⟩:=r2.get eb;obtain⟨ua,ea2,qa⟩:=rv.get ea1;obtain⟨ub,eb2,qb⟩:=rv2.get eb1;have za:its.toArray[j]=ua:=by
         have:=(List.getElem?_eq_some_iff.mp ea2).2;simpa using this
        have zb:its2.toArray[j]=ub:=by
         have:=(List.getElem?_eq_some_iff.mp eb2).2;simpa using this
        rw[za,zb];have:=(ih A.in1 (w1:=ws[j]) (w2:=us[j]) (Nat.lt_of_le_of_lt (W.deps_get ea) hd') (W.flats_get g1 ea) (W.flats_get g2 eb) hui ra rb qa qb).1;unfold ja;rw[ea,eb];exact this
       have er:=fH ws us;have c1:=SeqAt.RcAt.tuples p p2 hu0 he;have c2:=SeqAt.RcNeAt.tuples p p2 hu0 he;rw[size_toArray,size_toArray,e1,e2,er] at c1 c2;have ee:(W.tup ws).eq (W.tup us)=W.eqs ws us:=rfl;rw[ee];refine⟨?_,c1,c2⟩
       by_cases hab:a=b
       ·subst hab;have z:=cj.inj f1 f2 (cj.tup h r) (cj.tup h2 r2);have t:W.eqs ws us=true:=by
         cases z;exact W.eqs_refl ws g1
        rw[t];exact SeqAt.EqAt.same _
       ·exact SeqAt.EqAt.of_refs hab c1
end
section
variable {X:Cx}
noncomputable def v7:W2:=λx y G q=>x.flat=true/\y.flat=true/\x.dep<=150/\q (.bl (x.eq y)) G
noncomputable def v9:W2:=λx y G q=>x.flat=true/\y.flat=true/\x.dep<=150/\q (.bl (!(x.eq y))) G
theorem zN (hr:aw k X.A):fc X (compareOp .Eq) v7:=by
 rintro π s σ H x y v u Q I rx ry ⟨wx,wy,G,q,r1,r2,g,⟨f1,f2,hd,h⟩,hQ⟩;exact(fh I 151 X.A (by lia) f1 f2 (by have:=hr.un;(clear hd;lia)) r1 r2 rx ry).2.1 X.prog X.w X.xe _ ⟨.bl _,H,I,rfl,hQ _ H _ G (aP.refl H) (.bl _) g h⟩
theorem zO (hr:aw k X.A):fc X (compareOp .NotEq) v9:=by
 rintro π s σ H x y v u Q I rx ry ⟨wx,wy,G,q,r1,r2,g,⟨f1,f2,hd,h⟩,hQ⟩;exact(fh I 151 X.A (by lia) f1 f2 (by have:=hr.un;(clear hd;lia)) r1 r2 rx ry).2.2 X.prog X.w X.xe _ ⟨.bl _,H,I,rfl,hQ _ H _ G (aP.refl H) (.bl _) g h⟩
noncomputable def tG:W2:=λx y G q=>match x,y with
 | .int i,.int j=>q (.int (i-j)) G
 | .bl a,.bl b=>q (.int (b2i a-b2i b)) G
 | _,_=>False
theorem lY:fc X (binaryOp .Sub) tG:=by
 rintro π s σ H x y v u Q I rx ry ⟨wx,wy,G,q,r1,r2,g,h,hQ⟩;cases r1 with
 | int i=>
   cases r2 with
   | int j=>exact zk π s σ H _ _ v u Q I rx ry ⟨_,_,rfl,rfl,hQ _ H _ G (aP.refl H) (.int _) g h⟩
   | _=>exact False.elim h
 | bl a=>
   cases r2 with
   | bl b=>
     cases rx;cases ry;exact sub_bool ⟨.int _,H,I.tok _,⟨_,rfl⟩,hQ _ H _ G (aP.refl H) (.int _) g h⟩
   | _=>exact False.elim h
 | _=>exact False.elim h
noncomputable def fY:W->Bool
 | .non=>true
 | _=>false
noncomputable def zP (neg:Bool):W2:=λx y G q=>y=.non/\q (.bl (neg ^^ fY x)) G
theorem pK:fc X (compareOp .Is) (zP false):=by
 rintro π s σ H x y v u Q I rx ry ⟨wx,wy,G,q,r1,r2,g,⟨e,h⟩,hQ⟩;subst e;cases r2;refine zo π s σ H _ _ v u Q I rx ry ⟨rfl,?_⟩;have z:decide (x=V.non)=fY wx:=by cases r1<;> simp[fY]
 rw[z];exact hQ _ H _ G (aP.refl H) (.bl _) g (by simpa using h)
theorem zQ:fc X (compareOp .IsNot) (zP true):=by
 rintro π s σ H x y v u Q I rx ry ⟨wx,wy,G,q,r1,r2,g,⟨e,h⟩,hQ⟩;subst e;cases r2;refine vJ π s σ H _ _ v u Q I rx ry ⟨rfl,?_⟩;have z:decide (x=V.non)=fY wx:=by cases r1<;> simp[fY]
 rw[z];exact hQ _ H _ G (aP.refl H) (.bl _) g (by simpa using h)
noncomputable abbrev WO:=dF->Gp->(Option Int->Gp->Prop)->Prop
noncomputable def LO (K:yav) (t:WO):TO:=λσ H Q=>∃τ G q,bh K H τ σ/\aO K H G/\t τ G q/\∀o H1 G1,aP H H1->aO K H1 G1->q o G1->Q o H1
noncomputable def QO (X:Cx) (e:Option Expr) (t:WO):Prop:=PO X e (LO X.K t)
theorem PO.imp {e:Option Expr} {t t':TO} (h:PO X e t) (f:∀σ H Q,t' σ H Q->t σ H Q):PO X e t':=λπ s σ H Q I q=>h π s σ H Q I (f _ _ _ q)
noncomputable def pL:WO:=λ_ G q=>q none G
noncomputable def yt (t:WE):WO:=λτ G q=>t τ G λx G1=>match x with | .int i=>q (some i) G1 | _=>False
theorem cI:QO X none pL:=po_none.imp λσ H Q ⟨τ,G,q,hs,hg,ht,hQ⟩=>hQ none H G (aP.refl H) hg ht
theorem bR {te:WE} (h:QE X e te):QO X (some e) (yt te):=
 (vR h).imp λσ H Q ⟨τ,G,q,hs,hg,ht,hQ⟩=>⟨τ,G,_,hs,hg,ht,λv H1 w G1 t1 r1 g1 q1=>by
   split at q1
   ·cases r1;exact⟨_,rfl,hQ _ H1 G1 t1 g1 q1⟩
   ·exact q1.elim⟩
noncomputable def cQ (xs:List W) (lo hi:Option Int):List W:=(xs.drop (HT.sIx xs.length 0 lo)).take (HT.sIx xs.length xs.length hi-HT.sIx xs.length 0 lo)
theorem aR.cut {H:Hp} {ws:List W} {vs:List V} (r:aR K H ws vs) (lo hi:Option Int):aR K H (cQ ws lo hi) (lR vs lo hi):=by
 unfold cQ lR;rw[r.length];exact(r.drop _).take _
noncomputable abbrev W3:=W->Option Int->Option Int->Gp->WK->Prop
noncomputable def oE:W3:=λx lo hi G q=>match x with
 | .tup xs=>q (.tup (cQ xs lo hi)) G
 | .scr ns=>ns.length<=100000/\∀p,G p=none->q (.ref p) (aQ G p (.lst (cQ (ns.map W.int) lo hi)))
 | .ref a=>∃xs,G a=some (.lst xs)/\∀p,G p=none->q (.ref p) (aQ G p (.lst (cQ xs lo hi)))
 | _=>False
theorem iB (xs:List W) (lo hi:Option Int):(cQ xs lo hi).length<=xs.length:=by
 unfold cQ;rw[length_take,length_drop];exact ycy (Nat.min_le_right _ _) (Nat.sub_le _ _)
theorem oF {xs:List W} {lo hi:Option Int} (h:HT.sIx xs.length 0 lo=0/\HT.sIx xs.length xs.length hi=xs.length):cQ xs lo hi=xs:=by
 unfold cQ;rw[h.1,h.2,drop_zero,Nat.sub_zero,take_length]
theorem rq {t sl:Addr} {vl vu:Value} {lo hi:Option Int} (ht:IsTup s.heap t items) (hs:s.heap.IsSliceOf sl vl vu .none) (pl:IsPart vl lo) (pu:IsPart vu hi)
 (hw:HT.sIx items.size 0 lo=0/\HT.sIx items.size items.size hi=items.size) (h:Q (.ref t) s):wpAny (model prog w) A (getItem (.ref t) (.ref sl)) Q E s:=by
 obtain⟨os,hos,hcs,hds⟩:=id hs;have hTs:s.TypeIs (.ref sl) "slice":=⟨os,hos,hcs⟩;unfold getItem
 try with_reducible refine wpAny_holding ?_
 first | refine wax (wpAny_pure ?_) | skip
 refine wax (wpAny_sequenceKey ht.typeIs (by decide) ?_);refine wax (wpAny_callSpecial?_slot (name:=Str.ofString "__getitem__") ht.typeIs PyProof.Rows.slot_tuple_getitem
  (wpAny_call_entry PyProof.Rows.slot_tuple_getitem ht.typeIs entry_tuple_getitem ?_ (args_tuple_getitem _ _)))
 show wpAny _ _ (Builtin.Tuple.tupleItemsOf (.ref t) >>= _) _ _ s;refine wax (tupleItemsOf_ ht ?_);refine wax (wpAny_typeOf hTs ?_);rw[ycv (by decide)];refine wax (HT.sliceApplied_gen hs pl pu ?_);have hyes:(((HT.sIx items.size 0 lo:Nat):Int)==0&&(1:Int)==1&&(HT.sIx items.size items.size hi-HT.sIx items.size 0 lo)==items.size)=true:=by
  rw[hw.1,hw.2];simp
 show wpAny _ _ (if (((HT.sIx items.size 0 lo:Nat):Int)==0&&(1:Int)==1&&(HT.sIx items.size items.size hi-HT.sIx items.size 0 lo)==items.size)=true then _ else _) _ _ s;rw[ycv hyes];refine wax ?_;show wpAny _ _ (typeOf (.ref t) >>= _) _ _ s;refine wax (wpAny_typeOf ht.typeIs (wpAny_pure ?_));rw[ycv (by simp)];exact wax (wpAny_rule (wpAny_pure ⟨_,rfl,wpAny_pure h⟩))
noncomputable def Gw (K:yav) (r:W3):V->Option Int->Option Int->Hp->VK->Prop:=λx lo hi H Q=>∃w G q,cj K H w x/\aO K H G/\r w lo hi G q/\∀v H1 w G1,aP H H1->cj K H1 w v->aO K H1 G1->q w G1->Q v H1
theorem EG:Bx X (Gw X.K oE):=by
 rintro π s σ H x v vl vu lo hi sl Q I rx hs pl pu ⟨w,G,q,r,g,h,hQ⟩;unfold oE at h;split at h
 ·cases r with
  | @tup a ws xs hh rr=>
    by_cases hw:HT.sIx xs.length 0 lo=0/\HT.sIx xs.length xs.length hi=xs.length
    ·cases rx;obtain⟨its,rv,ht,hz⟩:=I.tuple (dA.of hh);have hlen:its.toArray.size=xs.length:=by rw[size_toArray];exact rv.length.symm
     refine⟨"tuple",_,PyProof.Rows.slot_tuple_getitem.lookup,ht.typeIs,?_⟩;refine rq ht hs pl pu (by rw[hlen];exact hw) ⟨.ref a,H,I,rfl,?_⟩;rw[oF (by rw[rr.length];exact hw)] at h;exact hQ _ H _ G (aP.refl H) (.tup hh rr) g h
    ·exact zx π s σ H _ v vl vu lo hi sl Q I rx hs pl pu ⟨a,xs,rfl,dA.of hh,hw,λp hp=>hQ _ _ _ G (aP.new hp _) (.tup ba ((rr.cut lo hi).mono (aP.new hp _))) (g.keep hp _) h⟩
 ·rename_i ns;cases r with
  | scr hh=>
    refine pH π s σ H _ v vl vu lo hi sl Q I rx hs pl pu ⟨_,_,rfl,hh.sq,λp hp=>hQ _ _ _ _ (aP.new hp _) (.ref p) (g.put (aP.new hp _) ((aR.ints ns).cut lo hi) ?_) (h.2 p (g.fresh hp))⟩;exact ycy (iB _ _ _) (by rw[length_map];exact h.1)
 ·obtain⟨xs,e,h⟩:=h;cases r;obtain⟨hl,zs,e1,rr⟩:=g _ _ e;exact pH π s σ H _ v vl vu lo hi sl Q I rx hs pl pu ⟨_,zs,rfl,dE.of e1,λp hp=>hQ _ _ _ _ (aP.new hp _) (.ref p) (g.put (aP.new hp _) (rr.cut lo hi) (ycy (iB _ _ _) hl)) (h p (g.fresh hp))⟩
 ·exact h.elim
theorem lZ:bootBuiltins "isinstance"=some (.builtin "isinstance"):=by decide+kernel
noncomputable def rA (G:Gp):W->Option String
 | .non=>some "NoneType"
 | .bl _=>some "bool"
 | .int _=>some "int"
 | .str _=>some "str"
 | .tup _=>some "tuple"
 | .ref a=>match G a with | some (.lst _)=>some "list" | some .dct=>some "dict" | some (.dic _)=>some "dict" | _=>none
 | .scr _=>none
noncomputable def fR:String->String->Bool
 | "int","int"=>true
 | "bool","int"=>true
 | "bool","bool"=>true
 | "tuple","tuple"=>true
 | "list","list"=>true
 | "str","str"=>true
 | _,_=>false
noncomputable def jF (T:String):Prop:=T="int"∨T="bool"∨T="tuple"∨T="list"∨T="str"
theorem zR {t T:String} (ht:t="NoneType"∨t="bool"∨t="int"∨t="str"∨t="tuple"∨t="list"∨t="dict") (hT:jF T):PySem.W.kitOne K (.type t) (.type T)=some (fR t T):=by
 rcases ht with rfl | rfl | rfl | rfl | rfl | rfl | rfl<;> rcases hT with rfl | rfl | rfl | rfl | rfl<;> first | rfl | kernel_rfl | decide+kernel
noncomputable def BR (T:String) (te:WE):WE:=λτ G q=>te τ G λx G1=>match rA G1 x with | some t=>q (.bl (fR t T)) G1 | none=>False
theorem tH {H:Hp} {G:Gp} {w:W} {v:V} {t:String} (g:aO K H G) (r:cj K H w v) (e:rA G w=some t):hZ K H v (.type t)/\(t="NoneType"∨t="bool"∨t="int"∨t="str"∨t="tuple"∨t="list"∨t="dict"):=by
 unfold rA at e;cases r with
 | non=>cases e;exact⟨.non,by simp⟩
 | bl b=>cases e;exact⟨.bl b,by simp⟩
 | int i=>cases e;exact⟨.int i,by simp⟩
 | str x=>cases e;exact⟨.str x,by simp⟩
 | tup h _=>cases e;exact⟨.tup h,by simp⟩
 | scr h=>cases e
 | ref a=>
   simp only at e;split at e
   ·rename_i ws e1;cases e;obtain⟨_,xs,e2,_⟩:=g a _ e1;exact⟨.lst e2,by simp⟩
   ·rename_i e1;cases e;exact⟨.dK (g a _ e1),by simp⟩
   ·rename_i kvs e1;cases e;obtain⟨_,kvs',e2,_⟩:=g a _ e1;exact⟨.dK e2,by simp⟩
   ·cases e
theorem BS {T:String} (hT:jF T) {σ:St} {H:Hp} {v:V} {w:W} {G:Gp} {q:WK} {Q:VK} (I:aH X π σ H s) (ru:bn v u) (r:cj X.K H w v) (g:aO X.K H G)
 (h:match rA G w with | some t=>q (.bl (fR t T)) G | none=>False) (hQ:∀v H1 w G1,aP H H1->cj X.K H1 w v->aO X.K H1 G1->q w G1->Q v H1):
 wpAny (model X.prog X.w) X.A (call (.builtin "isinstance") [u,.type T]) (EP X π σ Q) X.xe s:=by
 split at h
 ·rename_i t e;obtain⟨ty,hk⟩:=tH g r e;exact qZ I ru ty (zR hk hT) λtk=>⟨.bl _,H,I.tok tk,rfl,hQ _ H _ G (aP.refl H) (.bl _) g h⟩
 ·exact h.elim
theorem gm {T:String} {te:WE} {p p2 pos:Pos} (hT:jF T) (hv:bootBuiltins x=some (.type T)) (hm:X.mg x=none) (hgx:Gl X x) (hm1:X.mg "isinstance"=none) (hg1:Gl X "isinstance") (he:QE X e te) (hn:x≠"__name__":=by decide) (hd:(x==("__debug__":Str))=false:=by decide)
 (hs1:starEach [e,.Name x p2] X.env=(false,eval e X.env)::starEach [.Name x p2] X.env:=by rfl) (hs2:starEach [.Name x p2] X.env=(false,eval (.Name x p2) X.env)::starEach [] X.env:=by rfl)
 (hpl:(backTo pos (starEach [.Name x p2] X.env)).any (·.1)=false:=by rfl):QE X (.Call (.Name "isinstance" p) [e,.Name x p2] [] pos) (BR T te):=by
 have hb:PE X (.Name x p2) (tC (.ty T)):=vA hgx hm hv rfl hn hd;have ha:PA X [e,.Name x p2] (lO (ic X.K te) (lO (tC (.ty T)) sQ)):=dn he (dn hb pa_nil hs2) hs1;have hc:fV X (.builtin "isinstance") (λvs H Q=>∃(v:V) (w:W) (G:Gp) (q:WK),vs=[v,.ty T]/\cj X.K H w v/\aO X.K H G/\(match rA G w with | some t=>q (.bl (fR t T)) G | none=>False)/\∀v H1 w G1,aP H H1->cj X.K H1 w v->aO X.K H1 G1->q w G1->Q v H1):=by
  rintro π s σ H xs us Q I r ⟨v,w,G,q,e1,r1,g1,h,hQ⟩;subst e1;obtain⟨u,u2,rfl,ru,ru2⟩:=sN r;cases (show u2=Value.type T from ru2);exact BS hT I ru r1 g1 h hQ
 exact(i4 hc hg1 hm1 lZ ha (by decide) (by decide) hs1 hpl).imp λσ H Q z0=>z0.el λτ G q hs hg ht hQ=>⟨τ,G,_,hs,hg,ht,λv H1 w G1 t1 r1 g1 q1=>
  ⟨v,w,G1,q,rfl,r1,g1,q1,λv2 H2 w2 G2 t2=>hQ v2 H2 w2 G2 (t1.trans t2)⟩⟩
noncomputable def zS:List W->Gp->WK->Prop:=λws G q=>match ws with
 | [.ref a]=>∃ns:List Int,G a=some (.lst (ns.map W.int))/\q (.int ns.sum) G
 | _=>False
theorem aR.ints_of {K:yav} {H:Hp}:∀{ns:List Int} {vs:List V},aR K H (ns.map W.int) vs->vs=ns.map V.int
 | [],_,r=>by cases r;rfl
 | n::ns,_,r=>by
   cases r with
   | cons r rs=>
     cases r;rw[aR.ints_of rs]
     rfl
theorem jb (hc:X.calm=true):d4 X (.builtin "sum") zS:=by
 rintro π s σ H xs us Q I r ⟨ws,G,q,rw',g,h,hQ⟩;unfold zS at h;split at h
 ·rename_i a;obtain⟨ns,e,h⟩:=h;obtain⟨v,rfl,r1⟩:=rw'.one;cases r1;obtain⟨_,zs,e1,rr⟩:=g a _ e;obtain rfl:=rr.ints_of;obtain⟨u,rfl,ru⟩:=dZ r;cases (show u=Value.ref a from ru);obtain⟨its,rv,p,hz⟩:=I.list (dE.of e1);have hi:IntsAre its ns:=L2.intsAre_of rv;obtain⟨ys,ey⟩:=hi.allInts.items;have hn:(ys.toList.map (·.1))=ns:=by rw[←nums_intItems,←ey,←hi.numsOf]
  have hl:s.heap.IsList a (intItems ys):=by rw[←ey];exact p.isList
  refine sum_intListG (I.ok.hd hc) hl λh' tk t' hk=>⟨.int _,H,I.kept hk,⟨t',rfl⟩,?_⟩;have es:preSum (numAt ys) ys.size=ns.sum:=by rw[preSum_eq,take_of_length_le (by simp),hn]
  rw[es];exact hQ _ H _ G (aP.refl H) (.int _) g h
 ·exact h.elim
noncomputable def BU (to te:WE):WE:=λτ G q=>to τ G λx G1=>match x with
 | .ref a=>(∃xs,G1 a=some (.lst xs))/\te τ G1 λy G2=>∃ys,G2 a=some (.lst ys)/\ys.length+1<=100000/\q .non (aQ G2 a (.lst (ys++[y])))
 | _=>False
theorem dh {o e:Expr} {to te:WE} {apos cpos:Pos} (ho:QE X o to) (he:QE X e te)
 (hbase:attributeBase o "append" X.env (eval o X.env)=eval o X.env:=by rfl)
 (hfew:((backTo cpos (starEach [e] X.env)).all (λx=>!x.1)&&(backToKw cpos (keywordEach [] X.env)).all (λx=>x.1.isSome)
   &&decide (([e]:List Expr).length+([]:List Keyword).length+(if ([]:List Keyword).isEmpty then 0 else 1)<30))=true:=by rfl)
 (hline:(apos.endLine==cpos.line)=true:=by rfl) (hs:starEach [e] X.env=(false,eval e X.env)::starEach [] X.env:=by rfl):
 QE X (.Call (.Attribute o "append" apos) [e] [] cpos) (BU to te):=
 (tf PySem.F.plainAttrs_list PySem.F.slot_list_append PySem.F.type_list_append rf ho (dn he pa_nil hs) hbase hfew hline hs rfl).imp λσ H Q z0=>z0.el λτ G q hs hg ht hQ=>
   ⟨τ,G,_,hs,hg,ht,λv H1 w G1 t1 r1 g1 q1=>by
     split at q1
     ·rename_i a;cases r1;obtain⟨⟨xs,e1⟩,q1⟩:=q1;obtain⟨_,xs',h1,_⟩:=g1 a _ e1;refine⟨.inl ⟨rfl,xs',dE.of h1⟩,τ,G1,_,hs.mono t1,g1,q1,λv2 H2 w2 G2 t2 r2 g2 q2=>?_⟩;obtain⟨ys,e2,hl,q2⟩:=q2;obtain⟨_,ys',h2,rr⟩:=g2 a _ e2;refine⟨a,ys',v2,rfl,rfl,h2,?_,?_⟩
      ·rw[←rr.length];exact bQ hl
      ·exact hQ _ _ _ _ ((t1.trans t2).trans (aP.lst h2 _)) .non (g2.put (aP.lst h2 _) (rr.append (.cons r2 .nil)) (by rw[length_append];exact hl)) q2
     ·exact q1.elim⟩
end
structure tI (K:yav) (J:It) (ws:List W) (C:Gp->Prop) (H0:Hp):Prop where
 stop:∀i H G,aP H0 H->aO K H G->C G->ws.length<=i->J.stop i H
 go:∀i w H G,aP H0 H->aO K H G->C G->ws[i]?=some w->J.go i H/\∀x H',J.yld i H x H'->aP H H'/\cj K H' w x/\aO K H' G
noncomputable abbrev WI:=dF->Gp->(List W->(Gp->Prop)->Gp->Prop)->Prop
noncomputable def LI (K:yav) (t:WI):TI:=λσ H R=>∃τ G r,bh K H τ σ/\aO K H G/\t τ G r/\∀J H1 ws C G1,aP H H1->aO K H1 G1->tI K J ws C H1->r ws C G1->R J H1
noncomputable def QI (X:Cx) (tg iter:Expr) (t:WI):Prop:=PI X tg iter (LI X.K t)
section
variable {X:Cx} {tg:Expr}
theorem PI.imp {t t':TI} (h:PI X tg e t) (f:∀σ H R,t' σ H R->t σ H R):PI X tg e t':=λπ s σ H R I q=>h π s σ H R I (f _ _ _ q)
theorem wc {ws:List W} {xs:List V} {H:Hp} (h:H a=some (.tup xs)) (r:aR K H ws xs):tI K (Ee K a) ws (λ_=>True) H where
 stop:=λi H1 G t g _ hl=>⟨xs,dA.of (t.tup _ _ h),by rw[←r.length];exact hl⟩
 go:=λi w H1 G t g _ e=>by
  obtain⟨v,e1,rv⟩:=r.get e;refine⟨⟨xs,v,dA.of (t.tup _ _ h),e1⟩,λx H' z9=>?_⟩;obtain⟨eH,hy⟩:=z9;subst eH;have e2:=hy xs (dA.of (t.tup _ _ h));rw[e1] at e2;cases e2;exact⟨aP.refl _,rv.mono t,g⟩
theorem wd {ws:List W} {H:Hp}:tI K (DR K a) ws (λG=>G a=some (.lst ws)) H where
 stop:=λi H1 G t g e hl=>by
  obtain⟨_,xs,h1,r⟩:=g a _ e;exact⟨xs,dE.of h1,by rw[←r.length];exact hl⟩
 go:=λi w H1 G t g eG e=>by
  obtain⟨_,xs,h1,r⟩:=g a _ eG;obtain⟨v,e1,rv⟩:=r.get e;refine⟨⟨xs,v,dE.of h1,e1⟩,λx H' z9=>?_⟩;obtain⟨eH,hy⟩:=z9;subst eH;have e2:=hy xs (dE.of h1);rw[e1] at e2;cases e2;exact⟨aP.refl _,rv,g⟩
theorem we {ns:List Int} {H:Hp} (h:yi K H a ns):tI K (DR K a) (ns.map W.int) (λ_=>True) H where
 stop:=λi H1 G t g _ hl=>⟨_,(h.mono t).sq,by simpa using hl⟩
 go:=λi w H1 G t g _ e=>by
  have r:aR K H1 (ns.map W.int) (ns.map V.int):=aR.ints ns;obtain⟨v,e1,rv⟩:=r.get e;refine⟨⟨_,v,(h.mono t).sq,e1⟩,λx H' z9=>?_⟩;obtain⟨eH,hy⟩:=z9;subst eH;have e2:=hy _ (h.mono t).sq;rw[e1] at e2;cases e2;exact⟨aP.refl _,rv,g⟩
noncomputable def sx (n:Nat):List W:=(List.range n).map λ(i:Nat)=>W.int (i:Int)
theorem wf {n:Nat} {H:Hp}:tI K (DS 0 n) (sx n) (λ_=>True) H where
 stop:=λi H1 G t g _ hl=>by have h:n<=i:=(by simpa[sx] using hl);exact h
 go:=λi w H1 G t g _ e=>by
  unfold sx at e;rw[List.getElem?_map] at e;have hi:i<n:=by
   cases h:(List.range n)[i]? with
   | none=>rw[h] at e;cases e
   | some k=>
     have:=(List.getElem?_eq_some_iff.mp h).1;simpa using this
  rw[List.getElem?_range hi] at e;cases e;refine⟨hi,λx H' z9=>?_⟩;obtain⟨eH,hy⟩:=z9;subst eH;subst hy;exact⟨aP.refl _,by simpa using cj.int _,g⟩
noncomputable def BV (ta:WA):WI:=λτ G r=>ta τ G λws G1=>match ws with
 | [.int j]=> -(2^62)<=j/\j<2^62/\r (sx j.toNat) (λ_=>True) G1
 | _=>False
theorem fi {a:Expr} {ta:WA} {p pos:Pos} (hg:Gl X "range") (hm:X.mg "range"=none) (ha:QA X [a] ta) (hs:starEach [a] X.env=[(false,eval a X.env)]:=by rfl):QI X tg (.Call (.Name "range" p) [a] [] pos) (BV ta):=
 (qS hg hm ha hs).imp λσ H R ⟨τ,G,r,hs,hg,ht,hR⟩=>⟨τ,G,_,hs,hg,ht,λvs H1 ws G1 t1 r1 g1 q1=>by
   split at q1
   ·obtain⟨v,rfl,r2⟩:=r1.one;cases r2 with
    | int j=>exact⟨_,rfl,q1.1,q1.2.1,hR _ H1 _ _ G1 t1 g1 wf q1.2.2⟩
   ·exact q1.elim⟩
noncomputable def jc (C:Gp->Prop) (g:WG) (tb:WS) (d:dL):List W->dF->Gp->Prop
 | [],τ,G=>C G/\d.nx τ G
 | w::ws,τ,G=>C G/\g w τ G λτ2 G2=>tb { d with nx:=jc C g tb d ws,ct:=jc C g tb d ws,bk:=d.nx } τ2 G2
noncomputable def BW (wi:WI) (g:WG) (tb:WS):WS:=λd τ G=>wi τ G λws C G1=>jc C g tb d ws τ G1
theorem cR {iter:Expr} {wi:WI} {g:WG} {tb:WS} (hp:PassesOwn (model X.prog X.w) X.A X.env X.xe) (hc:X.calm=true) (hi:QI X tg iter wi) (hg:QG X tg g) (hb:lH X body tb)
 (hs:∀x,foldedSetIterable iter X.env x=pure x:=by intro _;rfl):QS X (.For tg iter body [] pos) (BW wi g tb):=
 (zd hp hc hi hg hb hs).imp λD σ H z0=>z0.el λτ G d hs hg ht l=>⟨τ,G,_,hs,hg,ht,λJ H1 ws C G1 t1 g1 it q1=>by
   refine⟨λi m σ2 H2=>∃τ2 G2,m=ws.length-i/\i<=ws.length/\aP H1 H2/\bh X.K H2 τ2 σ2/\aO X.K H2 G2/\jc C g tb d (ws.drop i) τ2 G2,⟨ws.length,τ,G1,by simp,zero_le _,aP.refl _,hs.mono t1,g1,by simpa using q1⟩,?_⟩;rintro i m σ2 H2 ⟨τ2,G2,rfl,hi,t2,s2,g2,q2⟩
   by_cases hlt:i<ws.length
   ·have ed:ws.drop i=ws[i]::ws.drop (i+1):=drop_eq_getElem_cons hlt;rw[ed] at q2;obtain⟨c2,q2⟩:=q2;obtain⟨go,yl⟩:=it.go i ws[i] H2 G2 t2 g2 c2 (ycz hlt);refine .inr ⟨go,λσ3 H3=>∃τ3 G3,aP H1 H3/\bh X.K H3 τ3 σ3/\aO X.K H3 G3/\jc C g tb d (ws.drop (i+1)) τ3 G3,?_,λx H' hy=>?_⟩
    ·rintro σ3 H3 ⟨τ3,G3,t3,s3,g3,q3⟩;exact⟨ws.length- (i+1),by (clear hi ed;lia),τ3,G3,rfl,hlt,t3,s3,g3,q3⟩
    ·obtain⟨tx,rx,gx⟩:=yl x H' hy;refine⟨ws[i],τ2,G2,_,rx,s2.mono tx,gx,q2,λσ3 H3 τ3 G3 t3 s3 g3 q3=>?_⟩;have tt:=(t2.trans tx).trans t3;have t0:=t1.trans tt;exact⟨τ3,G3,_,s3,g3,q3,⟨λσ4 H4 τ4 G4 t4 s4 g4 q4=>⟨τ4,G4,tt.trans t4,s4,g4,q4⟩,λv H4 w G4 t4=>l.rt v H4 w G4 (t0.trans t4),λσ4 H4 τ4 G4 t4=>l.nx σ4 H4 τ4 G4 (t0.trans t4),λσ4 H4 τ4 G4 t4 s4 g4 q4=>⟨τ4,G4,tt.trans t4,s4,g4,q4⟩⟩⟩
   ·have e:i=ws.length:=by lia
    subst e;rw[List.drop_length] at q2;exact .inl ⟨it.stop _ H2 G2 t2 g2 q2.1 (ycx _),l.nx σ2 H2 τ2 G2 (t1.trans t2) s2 g2 q2.2⟩⟩
end
section
variable {prog:Program} {w:World} {A:Around} {E:yey} {s:Shared}
theorem gn {it t:Addr} {x:Value} (a:s.heap.IsTupleIter it t i) (b:s.heap.IsTuple t items) (e:items[i]?=some x) (q:∀h',h'.IsTupleIter it t (i+1)->Heap.SameBut it s.heap h'->Q x { s with heap:=h' }):wpAny (model prog w) A (Builtin.SmallTypes.nextOf (.ref it)) Q E s:=by
 obtain⟨o,ho,hc,hd⟩:=id a;obtain⟨ol,hol,_,nl,hdl⟩:=b;unfold Builtin.SmallTypes.nextOf;refine wax (wpAny_callSpecial?_slot (name:=Str.ofString "__next__") a.typeIs F.slot_tuple_iterator_next (wpAny_call_entry F.slot_tuple_iterator_next a.typeIs F.entry_tuple_iterator_next ?_ (F.args_tuple_iterator_next_1 _)));show wpAny _ _ (field (.ref it) 0 >>= _) _ _ s;refine wax (wpAny_field ho hd (x:= .ref t) rfl ?_);show wpAny _ _ (if (Value.ref t==Value.none)=true then _ else _) _ _ s;rw[ycw (show ¬((Value.ref t==Value.none)=true) from ydx)];show wpAny _ _ (field (.ref it) 1 >>= _) _ _ s;refine wax (wpAny_field ho hd (x:= .int i 0) rfl ?_);show wpAny _ _ (seqItems? (.ref t) >>= _) _ _ s;refine wax (wpAny_seqItems hol hdl ?_);simp only[Int.toNat_natCast,e];refine wax (wpAny_setField ho hd (by simp) (wpAny_pure ⟨x,rfl,wpAny_pure (q _ ⟨_,Heap.get?_update_self _ ho (Obj.isFreed_of_fields (Obj.data_mapFields hd _)),(Obj.cls_mapFields ..).trans hc,by rw[Obj.data_mapFields hd];simp[rawInt]⟩ (Heap.SameBut.update ..))⟩))
theorem jV {it t:Addr} (hh:A.handled=none) (a:s.heap.IsTupleIter it t i) (b:s.heap.IsTuple t items) (e:items[i]?=none) (q:∀h' x,Heap.ExtBut it s.heap h'->(∃o,h'.get? x=some o/\o.cls=.type "StopIteration")->E (.ref x) { s with heap:=h' }):wpAny (model prog w) A (Builtin.SmallTypes.nextOf (.ref it)) Q E s:=by
 obtain⟨o,ho,hc,hd⟩:=id a;obtain⟨ol,hol,_,nl,hdl⟩:=b;unfold Builtin.SmallTypes.nextOf;refine wax (wpAny_callSpecial?_slot (name:=Str.ofString "__next__") a.typeIs F.slot_tuple_iterator_next (wpAny_call_entry F.slot_tuple_iterator_next a.typeIs F.entry_tuple_iterator_next ?_ (F.args_tuple_iterator_next_1 _)));show wpAny _ _ (field (.ref it) 0 >>= _) _ _ s;refine wax (wpAny_field ho hd (x:= .ref t) rfl ?_);show wpAny _ _ (if (Value.ref t==Value.none)=true then _ else _) _ _ s;rw[ycw (show ¬((Value.ref t==Value.none)=true) from ydx)];show wpAny _ _ (field (.ref it) 1 >>= _) _ _ s;refine wax (wpAny_field ho hd (x:= .int i 0) rfl ?_);show wpAny _ _ (seqItems? (.ref t) >>= _) _ _ s;refine wax (wpAny_seqItems hol hdl ?_);simp only[Int.toNat_natCast,e];refine wax (wpAny_rule (wax (wpAny_setField ho hd (by simp) ?_)));show wpAny _ _ (newExc (.type "StopIteration") [] >>= _) _ _ _;refine wax ?_;simp only[newExc,newTuple];refine wax (wpAny_newObj_type ?_ (by size_fits));refine wax (m:=firstArgMember _ _) (wpAny_of_eq (a:=Value.none) (by first | rfl | (simp only[firstArgMember];rfl)) ?_);refine wpAny_newObj_type ?_ (by size_fits);simp only[raiseNew];refine wax (wpAny_handled ?_);first | rw[show A.in1.handled=none from hh] | rw[hh]
 refine wax (wpAny_pure (wpAny_throw ?_));exact q _ _ (((Heap.SameBut.update ..).extBut.push _).push _) ⟨_,ybw _ rfl,rfl⟩
structure ZA (z p r i j a b:Addr):Prop where
 zp:p≠z
 zr:r≠z
 zi:i≠z
 zj:j≠z
 pr:p≠r
 pi:p≠i
 pj:p≠j
 ri:r≠i
 rj:r≠j
 ij:i≠j
 az:a≠z
 ar:a≠r
 ai:a≠i
 aj:a≠j
 bz:b≠z
 br:b≠r
 bi:b≠i
 bj:b≠j
structure ZT (z p r i j a b:Addr) (n:Nat) (f:Value) (h:Heap):Prop where
 hz:IsZip h z p r f
 hp:IsPair h p (.ref i) (.ref j)
 hr:∃x y,IsPair h r x y
 hi:h.IsTupleIter i a n
 hj:h.IsTupleIter j b n
theorem rB {z p r i j a b:Addr} {n:Nat} {xs ys:Array Value} {x y:Value} {Q:Option Value->Shared->Prop} (D:ZA z p r i j a b) (T:ZT z p r i j a b n .none s.heap) (ha:s.heap.IsTuple a xs) (hb:s.heap.IsTuple b ys) (hx:xs[n]?=some x) (hy:ys[n]?=some y)
 (q:∀h',ZT z p r i j a b (n+1) (rawInt s.heap.objs.size) h'->IsPair h' s.heap.objs.size x y->(∀c o,c≠z->c≠r->c≠i->c≠j->s.heap.get? c=some o->h'.get? c=some o)->Q (some (.ref s.heap.objs.size)) { s with heap:=h' }):wpAny (model prog w) A (pyNext (.ref z)) Q E s:=by
 obtain⟨hz,hp,⟨u,v,hr⟩,hi,hj⟩:=T;have hT:s.TypeIs (.ref z) "zip":=⟨_,hz,rfl⟩;unfold pyNext;refine wax (wpAny_attempt (wpAny_callSpecial?_slot (name:=Str.ofString "__next__") hT F.slot_zip_next (wpAny_call_entry F.slot_zip_next hT F.entry_zip_next ?_ (F.args_zip_next_1 _))));show wpAny _ _ (field (.ref z) 2 >>= _) _ _ _;refine wax (wpAny_field hz rfl (x:= .bool false) rfl ?_);show wpAny _ _ (field (.ref z) 3 >>= _) _ _ _;refine wax (wpAny_field hz rfl (x:= .ref p) rfl ?_);refine wax (wpAny_seqItems hp rfl ?_);show wpAny _ _ (Builtin.SmallTypes.ownedTupleIsFree (.ref z) >>= _) _ _ _;refine wax ?_;unfold Builtin.SmallTypes.ownedTupleIsFree;refine wax (wpAny_field hz rfl (x:= .none) rfl (wpAny_pure ?_));simp only[if_true];refine wax (wpAny_rule ?_);refine wax (wpAny_field hz rfl (x:= .ref r) rfl ?_);refine wax (wpAny_setField_rec hz (by simp) λh1 z1 b1=>?_);have z1:IsZip h1 z p r .ellipsis:=z1;refine wax ?_;simp only[List.zipIdx_cons,List.zipIdx_nil,forIn_cons,List.forIn_nil];refine wax (wax (wpAny_onRaise ?_));show wpAny _ _ (Builtin.SmallTypes.nextOf (.ref i) >>= _) _ _ _;refine wax (gn (hi.extBut b1.extBut D.zi) (ha.extBut b1.extBut D.az) hx λh2 i2 b2=>wpAny_pure ?_);have r2:IsPair h2 r u v:=b2.extBut _ _ D.ri (b1.extBut _ _ D.zr hr);refine wax (wpAny_seqItems r2 rfl ?_);refine wax (wpAny_updateSeq_pair r2 λh3 r3 b3=>?_);have r3:IsPair h3 r x v:=r3;refine wax (wpAny_letGo (wpAny_pure ?_));refine wax (wax (wpAny_onRaise ?_));show wpAny _ _ (Builtin.SmallTypes.nextOf (.ref j) >>= _) _ _ _;refine wax (gn (((hj.extBut b1.extBut D.zj).extBut b2.extBut D.ij.symm).extBut b3.extBut D.rj.symm) (((hb.extBut b1.extBut D.bz).extBut b2.extBut D.bi).extBut b3.extBut D.br) hy λh4 j4 b4=>wpAny_pure ?_);have r4:IsPair h4 r x v:=b4.extBut _ _ D.rj r3;refine wax (wpAny_seqItems r4 rfl ?_);refine wax (wpAny_updateSeq_pair r4 λh5 r5 b5=>?_);have r5:IsPair h5 r x y:=r5;refine wax (wpAny_letGo (wpAny_pure (wpAny_pure ?_)));refine wax (wpAny_seqItems r5 rfl ?_);refine wax (wpAny_newTuple ?_);have sz:h5.objs.size=s.heap.objs.size:=by rw[b5.1,b4.1,b3.1,b2.1,b1.1]
 have z5:IsZip h5 z p r .ellipsis:=b5.extBut _ _ D.zr.symm (b4.extBut _ _ D.zj.symm (b3.extBut _ _ D.zr.symm (b2.extBut _ _ D.zi.symm z1)));have k5:∀c o,c≠z->c≠r->c≠i->c≠j->s.heap.get? c=some o->h5.get? c=some o:=λc o c1 c2 c3 c4 e=>b5.extBut _ _ c2 (b4.extBut _ _ c4 (b3.extBut _ _ c2 (b2.extBut _ _ c3 (b1.extBut _ _ c1 e))));have i5:h5.IsTupleIter i a (n+1):=((i2.extBut b3.extBut D.ri.symm).extBut b4.extBut D.ij).extBut b5.extBut D.ri.symm;have j5:h5.IsTupleIter j b (n+1):=j4.extBut b5.extBut D.rj.symm;have ltz:z<h5.objs.size:=ybv z5;show wpAny _ _ (Builtin.SmallTypes.ownedTupleHandOut (.ref z) (.ref h5.objs.size) >>= _) _ _ _;refine wax ?_;unfold Builtin.SmallTypes.ownedTupleHandOut;have z6:IsZip (h5.push { cls:= .type "tuple",data:= .seq #[x,y] }) z p r .ellipsis:=ybz _ z5;refine wax (wpAny_setField_rec z6 (by simp) λh7 z7 b7=>?_);have z7:IsZip h7 z p r (rawInt h5.objs.size):=z7;refine wpAny_setField_rec z7 (by simp) λh8 z8 b8=>?_;have z8:IsZip h8 z p r (rawInt h5.objs.size):=z8;have up:∀c o,c≠z->h5.get? c=some o->h8.get? c=some o:=λc o c1 e=>b8.extBut _ _ c1 (b7.extBut _ _ c1 (ybz _ e));have t8:IsPair h8 h5.objs.size x y:=b8.extBut _ _ (Nat.ne_of_gt ltz) (b7.extBut _ _ (Nat.ne_of_gt ltz) (ybw _ rfl));rw[sz] at z8 t8;refine wpAny_pure ⟨_,rfl,wpAny_pure ?_⟩;show Q (some (.ref h5.objs.size)) _;rw[sz];exact q h8 ⟨z8,up _ _ D.zp (k5 _ _ D.zp D.pr D.pi D.pj hp),⟨_,_,up _ _ D.zr r5⟩,i5.at λo e=>up _ o D.zi e,j5.at λo e=>up _ o D.zj e⟩ t8 λc o c1 c2 c3 c4 e=>up c o c1 (k5 c o c1 c2 c3 c4 e)
theorem tJ {z p r i j a b:Addr} {n:Nat} {xs ys:Array Value} {Q:Option Value->Shared->Prop} (hh:A.handled=none) (D:ZA z p r i j a b) (T:ZT z p r i j a b n .none s.heap) (ha:s.heap.IsTuple a xs) (hb:s.heap.IsTuple b ys) (hx:xs[n]?=none∨ys[n]?=none)
 (q:∀h',(∀c o,c≠z->c≠r->c≠i->c≠j->s.heap.get? c=some o->h'.get? c=some o)->Q none { s with heap:=h' }):wpAny (model prog w) A (pyNext (.ref z)) Q E s:=by
 obtain⟨hz,hp,⟨u,v,hr⟩,hi,hj⟩:=T;have hT:s.TypeIs (.ref z) "zip":=⟨_,hz,rfl⟩;unfold pyNext;have fin:∀(h':Heap) (e:Addr),(∀c o,c≠z->c≠r->c≠i->c≠j->s.heap.get? c=some o->h'.get? c=some o)->(∃o,h'.get? e=some o/\o.cls=.type "StopIteration")->wpAny (model prog w) A (do if (←isInstance (.ref e) (.type "StopIteration")) then pure none else throw (.ref e)) Q E { s with heap:=h' }:=λh' e k he=>by
  obtain⟨o,ho,hc⟩:=he;exact wax (wpAny_isInstance (T:="StopIteration") (b:=true) ⟨o,ho,hc⟩ isSubtype_stop (wpAny_pure (q _ k)))
 refine wax (wpAny_attempt (wpAny_callSpecial?_slot (name:=Str.ofString "__next__") hT F.slot_zip_next (wpAny_call_entry F.slot_zip_next hT F.entry_zip_next ?_ (F.args_zip_next_1 _))));show wpAny _ _ (field (.ref z) 2 >>= _) _ _ _;refine wax (wpAny_field hz rfl (x:= .bool false) rfl ?_);show wpAny _ _ (field (.ref z) 3 >>= _) _ _ _;refine wax (wpAny_field hz rfl (x:= .ref p) rfl ?_);refine wax (wpAny_seqItems hp rfl ?_);show wpAny _ _ (Builtin.SmallTypes.ownedTupleIsFree (.ref z) >>= _) _ _ _;refine wax ?_;unfold Builtin.SmallTypes.ownedTupleIsFree;refine wax (wpAny_field hz rfl (x:= .none) rfl (wpAny_pure ?_));simp only[if_true];refine wax (wpAny_rule ?_);refine wax (wpAny_field hz rfl (x:= .ref r) rfl ?_);refine wax (wpAny_setField_rec hz (by simp) λh1 z1 b1=>?_);have z1:IsZip h1 z p r .ellipsis:=z1;refine wax ?_;simp only[List.zipIdx_cons,List.zipIdx_nil,forIn_cons,List.forIn_nil];refine wax (wax (wpAny_onRaise ?_));show wpAny _ _ (Builtin.SmallTypes.nextOf (.ref i) >>= _) _ _ _;cases e1:xs[n]? with
 | none=>
   refine wax (jV hh (hi.extBut b1.extBut D.zi) (ha.extBut b1.extBut D.az) e1 λh2 e b2 he=>?_);obtain⟨oe,hoe,hce⟩:=he;have z2:IsZip h2 z p r .ellipsis:=b2 _ _ D.zi.symm z1;have ez:e≠z:=λx=>by subst x;rw[z2] at hoe;cases hoe;simp at hce
   exact wpAny_setField_rec z2 (by simp) λh3 _ b3=>fin h3 e (λc o c1 _ c3 _ x=>b3.extBut _ _ c1 (b2 _ _ c3 (b1.extBut _ _ c1 x))) ⟨oe,b3.extBut _ _ ez hoe,hce⟩
 | some x=>
   have e2:ys[n]?=none:=by rcases hx with h | h; ·rw[e1] at h;cases h
                           ·exact h
   refine wax (gn (hi.extBut b1.extBut D.zi) (ha.extBut b1.extBut D.az) e1 λh2 i2 b2=>wpAny_pure ?_);have r2:IsPair h2 r u v:=b2.extBut _ _ D.ri (b1.extBut _ _ D.zr hr);refine wax (wpAny_seqItems r2 rfl ?_);refine wax (wpAny_updateSeq_pair r2 λh3 r3 b3=>?_);refine wax (wpAny_letGo (wpAny_pure ?_));refine wax (wax (wpAny_onRaise ?_));show wpAny _ _ (Builtin.SmallTypes.nextOf (.ref j) >>= _) _ _ _;refine wax (jV hh (((hj.extBut b1.extBut D.zj).extBut b2.extBut D.ij.symm).extBut b3.extBut D.rj.symm) (((hb.extBut b1.extBut D.bz).extBut b2.extBut D.bi).extBut b3.extBut D.br) e2 λh4 e b4 he=>?_);obtain⟨oe,hoe,hce⟩:=he;have z4:IsZip h4 z p r .ellipsis:=b4 _ _ D.zj.symm (b3.extBut _ _ D.zr.symm (b2.extBut _ _ D.zi.symm z1));have ez:e≠z:=λx=>by subst x;rw[z4] at hoe;cases hoe;simp at hce
   exact wpAny_setField_rec z4 (by simp) λh5 _ b5=>fin h5 e (λc o c1 c2 c3 c4 x=>b5.extBut _ _ c1 (b4 _ _ c4 (b3.extBut _ _ c2 (b2.extBut _ _ c3 (b1.extBut _ _ c1 x))))) ⟨oe,b5.extBut _ _ ez hoe,hce⟩
end
noncomputable def DV (h:Heap) (a:Addr):Heap:=h.push { cls:= .type "tuple_iterator",data:= .fields #[.ref a,.int 0 0] }
noncomputable def BX (h:Heap) (a b:Addr):Heap:=(DV h a).push { cls:= .type "tuple_iterator",data:= .fields #[.ref b,.int 0 0] }
noncomputable def BY (h:Heap) (a b:Addr):Heap:=(BX h a b).push { cls:= .type "tuple",data:= .seq #[.ref h.objs.size,.ref (DV h a).objs.size] }
noncomputable def BZ (h:Heap) (a b:Addr):Heap:=(BY h a b).push { cls:= .type "tuple",data:= .seq #[.none,.none] }
noncomputable def A6 (h:Heap) (a b:Addr):Heap:=(BZ h a b).push { cls:= .type "zip",data:= .fields #[.none,.bool false,.bool false,.ref (BX h a b).objs.size,.ref (BY h a b).objs.size] }
theorem tK (a b:Addr) (xs ys:Array Value):Meets (Builtin.«zip.__new__» ⟨[.type "zip",.ref a,.ref b],[]⟩) (λ_ R s=>s.heap.IsTuple a xs/\s.heap.IsTuple b ys/\R (.ok (.ret (.ref (BZ s.heap a b).objs.size))) { s with heap:=A6 s.heap a b }):=
 .of_wp λprog w A R s h=>by
  obtain⟨hp,g,d,tk,os⟩:=s;obtain⟨ha,hb,h⟩:=h;have hsub:=sub_zip;have h1:Heap.IsTuple (Shared.heap ⟨hp,g,d,tk,os⟩) a xs:=ha;have h2:Heap.IsTuple (Shared.heap ⟨hp.push { cls:= .type "tuple_iterator",data:= .fields #[.ref a,.int 0 0] },g,d,tk,os⟩) b ys:=Heap.IsTuple.push hb _
  wp_walk using wpAny_pyIter_tuple h1,wpAny_pyIter_tuple h2
  exact⟨_,rfl,h⟩
theorem rC {a b:Addr} {xs ys:Array Value} (ha:s.heap.IsTuple a xs) (hb:s.heap.IsTuple b ys)
 (q:∀h',ZT (s.heap.objs.size+4) (s.heap.objs.size+2) (s.heap.objs.size+3) s.heap.objs.size (s.heap.objs.size+1) a b 0 .none h'->(∀c o,s.heap.get? c=some o->h'.get? c=some o)->Q (.ref (s.heap.objs.size+4)) { s with heap:=h' }):
 wpAny (model prog w) A (call (.type "zip") [.ref a,.ref b]) Q E s:=by
 refine callType_new F.called_zip (by decide) (F.typeCall_zip_2 _ _) (F.newCall_zip_2 _ _) (λobj=>F.args_object_init_3 obj _ _) F.entry_zip_new (tK a b xs ys) ⟨ha,hb,?_⟩;have z1:(DV s.heap a).objs.size=s.heap.objs.size+1:=Heap.size_push ..;have z2:(BX s.heap a b).objs.size=s.heap.objs.size+2:=by unfold BX;rw[Heap.size_push,z1]
 have z3:(BY s.heap a b).objs.size=s.heap.objs.size+3:=by unfold BY;rw[Heap.size_push,z2]
 have z4:(BZ s.heap a b).objs.size=s.heap.objs.size+4:=by unfold BZ;rw[Heap.size_push,z3]
 have g5:(A6 s.heap a b).get? (BZ s.heap a b).objs.size=some _:=ybw _ rfl;have g4:(A6 s.heap a b).get? (BY s.heap a b).objs.size=some _:=ybz _ (ybw _ rfl);have g3:(A6 s.heap a b).get? (BX s.heap a b).objs.size=some _:=ybz _ (ybz _ (ybw _ rfl));have g2:(A6 s.heap a b).get? (DV s.heap a).objs.size=some _:=ybz _ (ybz _ (ybz _ (ybw _ rfl)));have g1:(A6 s.heap a b).get? s.heap.objs.size=some _:=ybz _ (ybz _ (ybz _ (ybz _ (ybw _ rfl))));rw[z2,z3,z4] at g5;rw[z1,z2] at g3;rw[z3] at g4;rw[z1] at g2;show _/\_;rw[z4];exact⟨⟨_,g5,rfl⟩,q _ ⟨g5,g3,⟨_,_,g4⟩,⟨_,g1,rfl,rfl⟩,⟨_,g2,rfl,rfl⟩⟩ λc o x=>ybz _ (ybz _ (ybz _ (ybz _ (ybz _ x))))⟩
theorem zT {n a b:Nat} (ha:a<n) (hb:b<n):ZA (n+4) (n+2) (n+3) n (n+1) a b:=by
 constructor<;> (show(_:Nat)≠(_:Nat);lia)
section
variable {prog:Program} {w:World} {A:Around} {R:Result->Shared->Prop} {s:Shared}
noncomputable abbrev nox:Value->Shared->Prop:=λ_ _=>False
noncomputable abbrev yu (ifs:List Expr) (env:Env):Sem Bool:=forIn ifs true λc r=>if r=true then do let ok ←isTrue c env (eval c env);pure (ForInStep.yield ok) else pure (ForInStep.yield r)
theorem rD {elt tg iter:Expr} {ifs:List Expr} {it acc:Value} {env:Env} (I:Nat->Shared->Prop)
 (turn:∀n s,I n s->wpAny (model prog w) A (pyNext it) (λr s1=>match r with
   | none=>R (.ok .next) s1
   | some v=>wpAny (model prog w) A (letOwnedTupleGo tg it v) (λ_ s2=>wpAny (model prog w) A (assign tg env v) (λ_ s3=>wpAny (model prog w) A (yu ifs env) (λok s4=>
      if ok=true then wpAny (model prog w) A (eval elt env) (λx s5=>wpAny (model prog w) A (call (.builtin "list.append") [acc,x]) (λ_ s6=>∃m,m<n/\I m s6) nox s5) nox s4
      else ∃m,m<n/\I m s4) nox s3) nox s2) nox s1) nox s) (n:Nat) (h:I n s):
 codeAny (model prog w) A (.compLoop (.ListComp elt [⟨tg,iter,ifs,0⟩] scope pos) 0 it acc env) R s:=by
 refine codeAny_loop rfl I (λn s hI=>?_) n h;show wpAny _ A ((compTurn (.ListComp elt [⟨tg,iter,ifs,0⟩] scope pos) 0 it acc env).onRaise (λx=>do noteFrame x env;theTreesLotGoes x)) _ _ s;refine wpAny_noted ?_;rw[compTurn_list];refine wax (wpAny_standAt (wax (wpAny_mono (turn n s hI) (λr s1 h1=>?_) λ_ _ z=>z.elim)));cases r with
 | none=>exact wpAny_pure h1
 | some v=>
   refine wax (wpAny_mono h1 (λ_ s2 h2=>wax (wpAny_mono h2 (λ_ s3 h3=>wax (wpAny_mono h3 (λok s4 h4=>?_) λ_ _ z=>z.elim)) λ_ _ z=>z.elim)) λ_ _ z=>z.elim);cases ok with
   | false=>exact wpAny_pure ⟨rfl,h4⟩
   | true=>
     refine wax (wax (wpAny_mono h4 (λx s5 h5=>?_) λ_ _ z=>z.elim));exact wax (wpAny_mono h5 (λ_ s6 h6=>wpAny_pure (wpAny_pure ⟨rfl,h6⟩)) λ_ _ z=>z.elim)
end
noncomputable def gF (env:Env):List (Str×NameKind)->List (Str×Addr)->List (Str×Addr)
 | [],cs=>cs
 | (n,k)::r,cs=>if k== .free then gF env r ((n,(env.cells.lookup n).getD 0)::cs) else gF env r cs
theorem jd {env:Env} (h:∀y∈scope.names,y.2=.free->∃c,env.cells.lookup y.1=some c):closureFor scope env=pure (gF env scope.names []):=by
 unfold closureFor;have key:∀(l:List (Str×NameKind)) (cs:List (Str×Addr)),(∀y∈l,y.2=.free->∃c,env.cells.lookup y.1=some c)->
  (forIn l cs λ(x:Str×NameKind) (r:List (Str×Addr))=>(if (x.2==NameKind.free)=true then (do let y ←cellOf env x.1;pure (ForInStep.yield ((x.1,y)::r))) else pure (ForInStep.yield r):Sem (ForInStep (List (Str×Addr)))))=(pure (gF env l cs):Sem (List (Str×Addr))):=by
  intro l
  induction l with
  | nil=>intro cs _;rfl
  | cons y r ih=>
    intro cs hl;obtain⟨n,k⟩:=y;rw[forIn_cons];unfold gF
    by_cases hk:(k==NameKind.free)=true
    ·have hk':k=.free:=by simpa using hk
     obtain⟨c,hc⟩:=hl (n,k) yby hk';simp only[hk,if_true];have e:cellOf env n=pure c:=by unfold cellOf;rw[hc]
     rw[e,hc];simp only[pure_bind,Option.getD_some];exact ih _ λy hy=>hl y (ybx _ hy)
    ·simp only[hk,if_false,Bool.false_eq_true];simp only[pure_bind];exact ih _ λy hy=>hl y (ybx _ hy)
 have:=key scope.names [] h;simp only[bind_pure];exact this
theorem d5 {env:Env}:∀{l:List (Str×NameKind)} {cs:List (Str×Addr)},(∀y∈l,y.2=.free->∃c,env.cells.lookup y.1=some c)->(∀x c,cs.lookup x=some c->env.cells.lookup x=some c)->∀x c,(gF env l cs).lookup x=some c->env.cells.lookup x=some c
 | [],_,_,hc,x,c,e=>hc x c e
 | (n,k)::r,cs,hl,hc,x,c,e=>by
   unfold gF at e;have hr:∀y∈r,y.2=.free->∃c,env.cells.lookup y.1=some c:=λy hy=>hl y (ybx _ hy);split at e
   ·rename_i hk;obtain⟨c0,hc0⟩:=hl (n,k) yby (by simpa using hk);refine d5 hr (λx' c' e'=>?_) x c e;rw[lookup_cons] at e';cases hx:x'==n with
    | true=>
      rw[hx] at e';have:x'=n:=by simpa using hx
      subst this;rw[hc0] at e';simp at e';subst e';exact hc0
    | false=>rw[hx] at e';exact hc x' c' e'
   ·exact d5 hr hc x c e
theorem fj {env:Env}:∀{l:List (Str×NameKind)} {cs:List (Str×Addr)} {x:Str},((x,NameKind.free)∈l∨∃c,cs.lookup x=some c)->∃c,(gF env l cs).lookup x=some c
 | [],_,_,h=>by
   rcases h with h | h
   ·simp at h
   ·exact h
 | (n,k)::r,cs,x,h=>by
   unfold gF;have keep:(∃c,cs.lookup x=some c)->∃c,((n,(env.cells.lookup n).getD 0)::cs).lookup x=some c:=λ⟨c,e⟩=>by
    rw[lookup_cons];cases hx:x==n with
    | true=>exact⟨_,rfl⟩
    | false=>exact⟨c,e⟩
   split
   ·rename_i hk;refine fj ?_;rcases h with h | h
    ·rcases mem_cons.mp h with h | h
     ·cases h;exact .inr ⟨(env.cells.lookup n).getD 0,by rw[lookup_cons];simp⟩
     ·exact .inl h
    ·exact .inr (keep h)
   ·rename_i hk;refine fj ?_;rcases h with h | h
    ·rcases mem_cons.mp h with h | h
     ·cases h;exact absurd rfl hk
     ·exact .inl h
    ·exact .inr h
theorem dR {env:Env}:∀{l:List (Str×NameKind)} {x:Str} {k:NameKind},(l.map λ(n,k)=>if (k==NameKind.free&&env.scope.kind== .function&&env.kindOf n==some .cell) then (n,NameKind.cell) else (n,k)).lookup x=some k->(k=.cell∨k=.free)->(∀y∈l,y.2≠ .cell)->(x,NameKind.free)∈l
 | [],_,_,e,_,_=>by simp at e
 | (n,k0)::r,x,k,e,hk,hc=>by
   rw[map_cons,lookup_cons] at e;have hr:∀y∈r,y.2≠ .cell:=λy hy=>hc y (ybx _ hy);have hn:(if (k0==NameKind.free&&env.scope.kind== .function&&env.kindOf n==some .cell)=true then (n,NameKind.cell) else (n,k0)).1=n:=by split<;> rfl
   rw[hn] at e;cases hx:x==n with
   | false=>rw[hx] at e;exact ybx _ (dR e hk hr)
   | true=>
     rw[hx] at e;have hxn:x=n:=by simpa using hx
     subst hxn;have e':(if (k0==NameKind.free&&env.scope.kind== .function&&env.kindOf x==some .cell)=true then (x,NameKind.cell) else (x,k0)).2=k:=Option.some.inj e
     by_cases hf:k0=.free
     ·subst hf;exact yby
     ·rw[ycw (by simp[hf])] at e';have e'':k0=k:=e';subst e'';rcases hk with h | h
      ·exact absurd h (hc _ yby)
      ·exact absurd h hf
theorem fZ {env:Env}:∀{l:List (Str×NameKind)} {x:Str},(l.map λ(n,k)=>if (k==NameKind.free&&env.scope.kind== .function&&env.kindOf n==some .cell) then (n,NameKind.cell) else (n,k)).lookup x=some .local->l.lookup x=some .local
 | [],_,e=>by simp at e
 | (n,k0)::r,x,e=>by
   rw[map_cons,lookup_cons] at e;rw[lookup_cons];have hn:(if (k0==NameKind.free&&env.scope.kind== .function&&env.kindOf n==some .cell)=true then (n,NameKind.cell) else (n,k0)).1=n:=by split<;> rfl
   rw[hn] at e;cases hx:x==n with
   | false=>rw[hx] at e;exact fZ e
   | true=>
     rw[hx] at e;have e':(if (k0==NameKind.free&&env.scope.kind== .function&&env.kindOf n==some .cell)=true then (n,NameKind.cell) else (n,k0)).2=NameKind.local:=Option.some.inj e;split at e'
     ·cases e'
     ·exact congrArg some e'
noncomputable def iM (X:Cx) (N:List Str) (scope:Scope) (C:Addr) (fp:List Addr) (s₀:Shared) (H₀:Hp):Cx where
 prog:=X.prog
 w:=X.w
 K:=X.K
 mg:=X.mg
 base:=X.base
 A:=X.A
 N:=N
 s₀:=s₀
 H₀:=H₀
 env:=compEnvC scope (gF X.env scope.names []) C X.env
 outer:=X.stack
 stack:=X.stack
 ex:=fp
 fn:=λ_=>false
 calm:=X.calm
 pn:=[]
 xe:=nox
structure gq (X:Cx) (scope:Scope) (N:List Str) (fv:List (Option Nat)):Prop where
 kind:scope.kind=.function
 nocell:∀y∈scope.names,y.2≠ .cell
 names:∀x∈scope.names,x.2=.local->scope.names.lookup x.1=some .local
 free:∀y∈scope.names,y.2=.free->X.env.scope.names.lookup y.1=some .cell
 fvs:∀(i j:Nat) (x:Str),N[i]?=some x->fv[i]?=some (some j)->X.N[j]?=some x/\X.env.scope.names.lookup x=some .cell/\(x,NameKind.free)∈scope.names
 len:fv.length=N.length
 fvl:∀{x:Str},(x,NameKind.free)∈scope.names->scope.names.lookup x≠some .local
noncomputable def fS {α:Type} (fv:List (Option Nat)) (σ:List (Option α)):List (Option α):=fv.map λo=>o.bind λj=>(σ[j]?).join
theorem me {α:Type} {fv:List (Option Nat)} {σ:List (Option α)} {v:α} (h:(fS fv σ)[i]?=some (some v)):∃j,fv[i]?=some (some j)/\σ[j]?=some (some v):=by
 unfold fS at h;rw[List.getElem?_map] at h;cases e:fv[i]? with
 | none=>rw[e] at h;cases h
 | some o=>
   rw[e] at h;cases o with
   | none=>cases h
   | some j=>
     have h':(σ[j]?).join=some v:=Option.some.inj h;refine⟨j,rfl,?_⟩;cases e2:σ[j]? with
     | none=>rw[e2] at h';cases h'
     | some o=>rw[e2] at h';exact congrArg some h'
theorem tL {H:Hp} {τ:dF} {σ:St} {fv:List (Option Nat)} (h:bh K H τ σ):bh K H (fS fv τ) (fS fv σ):=by
 refine⟨by simp[fS],λi w e=>?_⟩;obtain⟨j,ej,ew⟩:=me e;obtain⟨v,ev,r⟩:=h.2 j w ew;refine⟨v,?_,r⟩;unfold fS;rw[List.getElem?_map,ej];show some ((σ[j]?).join)=_;rw[ev]
 rfl
section
variable {X:Cx} {π:List (Addr×Obj)} {σ:St} {H H2:Hp} {s s2:Shared} {scope:Scope} {N:List Str} {fv:List (Option Nat)} {fp:List Addr} {C D:Addr}
theorem gq.cells (S:gq X scope N fv) (I:aH X π σ H s):∀y∈scope.names,y.2=.free->∃c,X.env.cells.lookup y.1=some c:=λy hy hk=>I.ok.has y.1 (.inl (S.free y hy hk))
theorem rE {h4:Heap} {t4:Nat} {m:yew} (I:aH X π σ H2 s2) (S:gq X scope N fv) (hf:∀b∈fp,kD X π H2 b) (hfo:∀b∈fp,b<s2.heap.objs.size) (keep:∀b o,s2.heap.get? b=some o->h4.get? b=some o)
 (hC:s2.heap.objs.size<=C) (ns:h4.Ns C m):aH (iM X N scope C fp s2 H2) [] (fS fv σ) H2 { s2 with heap:=h4,toks:=t4 }:=by
 have look:∀x c,(gF X.env scope.names []).lookup x=some c->X.env.cells.lookup x=some c:=d5 (S.cells I) (λx c e=>by simp at e);refine⟨⟨I.ok.mod,S.kind,I.ok.glob,I.ok.blt,hC,λx y c e1 e2=>I.ok.inj x y c (look x c e1) (look y c e2),λx hx=>?_,λx c h=>absurd (show false=true from h) ydx,I.ok.hd,I.ok.frames,.inl rfl,λb hb=>?_,I.bs,ycy I.ok.bsz I.sz,λb o e hb=>?_,λb hb hx=>?_,I.stack,I.stkFree⟩,
  rfl,I.bare,Un.kept keep,⟨m,ns,λi x v e1 e2 e3=>?_⟩,λx c e=>?_,I.hok.fresh hC,λx c e=>I.freeC x c (look x c e),λp hp=>absurd (show p∈([]:List (Addr×Obj)) from hp) (by simp),I.hok.kept keep,?_⟩
 ·rcases hx with hx | hx
  ·exact fj (.inl (dR hx (.inl rfl) S.nocell))
  ·exact fj (.inl (dR hx (.inr rfl) S.nocell))
 ·exact⟨ne_of_lt (ydw (hfo b hb) hC),λx c e=>(hf b hb).2.2.2.2.1 x c (look x c e)⟩
 ·rcases(hf b hb).2.2.2.1 with z | z
  ·exact I.ok.noex b o e z
  ·exact absurd (ydw (ybv e) (ycy I.ok.bsz z)) (lt_irrefl _)
 ·rcases mem_cons.mp (I.stkSub b hx) with z | z
  ·exact(hf b hb).2.1 z
  ·exact(hf b hb).2.2.1 z
 ·obtain⟨j,ej,ev⟩:=me e2;obtain⟨h1,h2,h3⟩:=S.fvs i j x e1 ej;obtain⟨m0,_,hl⟩:=I.loc;obtain⟨u,r,l⟩:=hl j x v h1 ev (.inr (.inl h2));refine⟨u,r,.inr ?_⟩;rcases l with⟨k,_⟩ | ⟨_,c,ec,o,ho,hd⟩
  ·exact absurd (h2.symm.trans k) (by intro z;cases z)
  ·obtain⟨c',ec'⟩:=fj (env:=X.env) (l:=scope.names) (cs:=[]) (x:=x) (.inl h3);have e':=look x c' ec';rw[ec] at e';cases e';refine⟨?_,c,ec',o,keep _ _ ho,hd⟩;rcases e3 with e3 | e3 | e3
   ·exact absurd (fZ e3) λz=>S.fvl h3 z
   ·exact .inl e3
   ·exact .inr e3
 ·obtain⟨v,o,ho,hd⟩:=I.cell x c (look x c e);exact⟨v,o,keep _ _ ho,hd⟩
 ·show(fS fv σ).length=N.length;unfold fS;rw[length_map,S.len]
end
noncomputable def cf (C:Gp->Prop) (g:WG) (tt:WT) (te:WE):List W->dF->Gp->List W->(List W->Gp->Prop)->Prop
 | [],_,G,acc,q=>C G/\q acc G
 | w::ws,τ,G,acc,q=>C G/\g w τ G λτ2 G2=>tt τ2 G2 λb G3=>if b=true then te τ2 G3 λv G4=>acc.length+1<=100000/\cf C g tt te ws τ2 G4 (acc++[v]) q else cf C g tt te ws τ2 G3 acc q
noncomputable def A7 (X:Cx) (ifs:List Expr) (t:WT):Prop:=
 ∀(π:List (Addr×Obj)) (s:Shared) (σ:St) (H:Hp) (Q:Bool->Hp->Prop),aH X π σ H s->zH X.K t σ H Q->wpAny (model X.prog X.w) X.A (yu ifs X.env) (TP X π σ Q) X.xe s
noncomputable def tM:WT:=λ_ G q=>q true G
theorem cS {X:Cx}:A7 X [] tM:=λπ s σ H Q I ⟨τ,G,q,hs,hg,ht,hQ⟩=>wpAny_tests_nil ⟨H,I,hQ true H G (aP.refl H) hg ht⟩
theorem iN {X:Cx} {c:Expr} {t:WT} (h:QT X c t):A7 X [c] t:=λπ s σ H Q I hw=>wpAny_tests_one (h π s σ H Q I hw)
theorem aO.track {H:Hp} {G:Gp} {p:Addr} {xs:List V} {ws:List W} (h:aO K H G) (e:H p=some (.lst xs)) (r:aR K H ws xs) (hl:ws.length<=100000):aO K H (aQ G p (.lst ws)):=λa g ea=>by
 by_cases hb:a=p
 ·subst hb;rw[al] at ea;cases ea;exact⟨hl,xs,e,r⟩
 ·rw[aK hb] at ea;exact h a g ea
section
variable {X:Cx} {π:List (Addr×Obj)} {σ:St} {H2:Hp} {s2:Shared} {scope:Scope} {N:List Str} {fv:List (Option Nat)} {fp:List Addr} {tg elt iter:Expr} {ifs:List Expr} {pos:Pos} {J:It} {it:Addr} {tn:Nat->Heap->Prop}
 {g:WG} {tt:WT} {te:WE} {ws:List W} {Cd:Gp->Prop} {τ:dF} {G:Gp} {q:List W->Gp->Prop}
structure wg (X:Cx) (π:List (Addr×Obj)) (σ:St) (H2:Hp) (s2:Shared) (G:Gp) (q:List W->Gp->Prop) (D C:Addr) (s':Shared):Prop where
 ex:∃(Hf:Hp) (Gf:Gp) (rs:List W),(∃m,s'.heap.Ns C m)/\aH X π σ Hf s'/\Hf C=none/\s2.heap.objs.size<=C/\aP H2 Hf/\aO X.K Hf (aQ Gf D (.lst rs))/\G D=none/\Gf D=none/\q rs Gf
structure B0 (Y:Cx) (fp:List Addr) (tn:Nat->Heap->Prop) (ws:List W) (H2:Hp) (D:Addr) (R:List W->dF->Gp->List W->Prop) (n:Nat) (s:Shared) (i:Nat) (σ1:St) (H1:Hp) (τ1:dF) (G1:Gp) (acc:List W) (vs:List V) (its:yez):Prop where
 hn:n=ws.length-i
 hi:i<=ws.length
 inv:aH Y [] σ1 H1 s
 st:tn i s.heap
 fr:∀b∈fp,H1 b=none
 hd:H1 D=none
 pl:s.heap.PlainList D its.toArray
 rv:aT vs its
 ra:aR Y.K H1 acc vs
 tl:aP H2 H1
 rs:bh Y.K H1 τ1 σ1
 rg:aO Y.K H1 G1
 cw:R (ws.drop i) τ1 G1 acc
 hl:acc.length<=100000
theorem je (I:aH X π σ H2 s2) (S:gq X scope N fv) (hc:X.calm=true) (T:lM X.prog X.w X.K tg J fp it tn) (st:tn 0 s2.heap) (hf:∀b∈fp,kD X π H2 b)
 (hg:∀C,QG (iM X N scope C fp s2 H2) tg g) (htt:∀C,A7 (iM X N scope C fp s2 H2) ifs tt) (hte:∀C,QE (iM X N scope C fp s2 H2) elt te)
 (itn:tI X.K J ws Cd H2) (hs:bh X.K H2 τ σ) (gr:aO X.K H2 G) (hw:cf Cd g tt te ws (fS fv τ) G [] q) {RR:Value->Addr->Result->Shared->Prop} {E:yey}
 (hRR:∀D C s',wg X π σ H2 s2 G q D C s'->RR (.ref D) C (.ok .next) s'):
 wpAny (model X.prog X.w) X.A (newList []) (λacc s3=>wpAny (model X.prog X.w) X.A (newFunctionEnv scope X.env.globals (gF X.env scope.names []) [] X.env.qual none .none (some X.env)) (λcenv s4=>
  codeAny (model X.prog X.w) X.A (.compStart (.ListComp elt [⟨tg,iter,ifs,0⟩] scope pos) 0 (.ref it) acc { cenv with scope:=relabel scope X.env }) (RR acc cenv.locals) s4) E s3) E s2:=by
 have hfo:∀b∈fp,b<s2.heap.objs.size:=λb hb=>let ⟨o,e,_⟩:=T.obj _ _ st b hb;ybv e;refine wpAny_newObj_type (wpAny_newFunctionEnv S.nocell (by intro y hy;simp at hy) (λh1 hns1 hsb1=>?_) S.kind);dsimp only at hns1 hsb1 ⊢;generalize hP:s2.heap.push { cls:= .type "list",dict:=none,data:= .seq ([]:yez).toArray }=P at hns1 hsb1 ⊢;generalize hD:s2.heap.objs.size=D at*;have hC:P.objs.size=D+1:=by rw[←hP,Heap.size_push,hD]
 generalize hCC:P.objs.size=C at*;have hDC:D≠C:=by rw[hC];exact ne_of_lt (Nat.lt_succ_self _)
 have hDleC:D<=C:=by rw[hC];exact le_succ _
 have old:∀b o,s2.heap.get? b=some o->h1.get? b=some o:=λb o e=>hsb1.extBut b o (ne_of_lt (ydw (ybv e) (by rw[hD];exact hDleC))) (ybz _ (hP▸ybz _ e));have hacc:h1.PlainList D #[]:=⟨0,hsb1.extBut _ _ hDC (ybz _ (by rw[←hP,←hD];exact ybw _ rfl))⟩;have look:∀x c,(gF X.env scope.names []).lookup x=some c->X.env.cells.lookup x=some c:=d5 (S.cells I) (λx c e=>by simp at e);have cD:∀x c,(gF X.env scope.names []).lookup x=some c->c≠D:=λx c e z=>by
  obtain⟨v,o,ho,_⟩:=I.cell x c (look x c e);exact absurd (ybv ho) (by rw[z,hD];exact lt_irrefl _)
 have sD:D∉eP X.stack:=λhb=>by
  rcases mem_cons.mp (I.stkSub D hb) with z | z
  ·exact absurd I.lt (by rw[←z,hD];exact lt_irrefl _)
  ·exact I.nofs (by rw[hD];exact ycx _) z
 have fD:D∉fp:=λhb=>absurd (hfo D hb) (lt_irrefl _);have fpX:∀{H1:Hp} {ps:List (Addr×Obj)},(∀b∈fp,H1 b=none)->(∀p∈ps,p.1∉fp)->∀b∈fp,kD (iM X N scope C fp s2 H2) ps H1 b:=λ{H1 ps} hn hp b hb=>by
  refine⟨hn b hb,ne_of_lt (ydw (hfo b hb) hDleC),λhx=>?_,.inl hb,λx c e=>(hf b hb).2.2.2.2.1 x c (look x c e),λp hp' z=>hp p hp' (z▸hb)⟩;rcases mem_cons.mp (I.stkSub b hx) with z | z
  ·exact(hf b hb).2.1 z
  ·exact(hf b hb).2.2.1 z
 have J0:aH (iM X N scope C fp s2 H2) [] (fS fv σ) H2 { s2 with heap:=h1,toks:=s2.toks+([]:List (Str×Value)).length }:=rE I S hf (by rw[hD];exact hfo) old (by rw[hD];exact hDleC) hns1;have loop:codeAny (model X.prog X.w) X.A (.compLoop (.ListComp elt [⟨tg,iter,ifs,0⟩] scope pos) 0 (.ref it) (.ref D) (iM X N scope C fp s2 H2).env) (RR (.ref D) C) { s2 with heap:=h1,toks:=s2.toks+([]:List (Str×Value)).length }:=by
  refine rD (λn s=>∃i σ1 H1 τ1 G1 acc vs its,B0 (iM X N scope C fp s2 H2) fp tn ws H2 D (λl τ1 G1 acc=>cf Cd g tt te l τ1 G1 acc q) n s i σ1 H1 τ1 G1 acc vs its) ?_ ws.length
   ⟨0,_,H2,_,G,[],[],[],by simp,zero_le _,J0,T.keep _ _ _ st λb _ o e=>old b o e,λb hb=>(hf b hb).1,I.hok.fresh (by rw[hD];exact ycx _),hacc,.nil,.nil,aP.refl _,tL hs,gr,by simpa using hw,by simp⟩
  rintro n s ⟨i,σ1,H1,τ1,G1,acc,vs,its,rfl,hi,J1,st1,fr1,d1,pl1,rv1,ra1,t1,s1,g1,q1,hl1⟩;obtain⟨kk,eD⟩:=pl1;have J1p:aH (iM X N scope C fp s2 H2) [(D,{ cls:= .type "list",data:= .seq its.toArray kk })] σ1 H1 s:=J1.pins_of λp hp=>by
   have e:=mem_singleton.mp hp;subst e;exact⟨eD,d1,hDC,sD,λv z=>by cases z⟩
  have pnf:∀p∈[((D,{ cls:= .type "list",data:= .seq its.toArray kk }):Addr×Obj)],p.1∉fp:=λp hp=>by
   have e:=mem_singleton.mp hp;subst e;exact fD
  by_cases hlt:i<ws.length
  ·have ed:ws.drop i=ws[i]::ws.drop (i+1):=drop_eq_getElem_cons hlt;rw[ed] at q1;obtain⟨c1,q1⟩:=q1;obtain⟨go,yl⟩:=itn.go i ws[i] H1 G1 t1 g1 c1 (ycz hlt);refine ci (T.item (iM X N scope C fp s2 H2) rfl rfl rfl hc i _ s σ1 H1 nox J1p (fpX fr1 pnf) st1 go) λr s4 z9=>?_;obtain⟨u,hr,h4⟩:=z9;subst hr;refine ci h4 λ_ s5 z9=>?_;obtain⟨x,H5,I5,r5,y5,st5,fr5⟩:=z9;obtain⟨tx,rx,gx⟩:=yl x H5 y5;have I5':=I5.pinned (fpX fr5 pnf) (T.obj _ _ st5);refine ci (hg C _ s5 σ1 H5 x u (λσ6 H6=>∃τ6 G6,aP H5 H6/\bh X.K H6 τ6 σ6/\aO X.K H6 G6/\tt τ6 G6 λb G3=>if b=true then te τ6 G3 λv G4=>acc.length+1<=100000/\cf Cd g tt te (ws.drop (i+1)) τ6 G4 (acc++[v]) q else cf Cd g tt te (ws.drop (i+1)) τ6 G3 acc q) I5' r5
    ⟨ws[i],τ1,G1,_,rx,s1.mono tx,gx,q1,λσ6 H6 τ6 G6 t6 s6 g6 q6=>⟨τ6,G6,t6,s6,g6,q6⟩⟩) λ_ s6 ⟨σ6,H6,I6,τ6,G6,t6,rs6,g6,q6⟩=>?_
   refine ci (htt C _ s6 σ6 H6 (λb H7=>∃G7,aP H6 H7/\aO X.K H7 G7/\(if b=true then te τ6 G7 λv G4=>acc.length+1<=100000/\cf Cd g tt te (ws.drop (i+1)) τ6 G4 (acc++[v]) q else cf Cd g tt te (ws.drop (i+1)) τ6 G7 acc q)) I6
    ⟨τ6,G6,_,rs6,g6,q6,λb H7 G7 t7 g7 q7=>⟨G7,t7,g7,q7⟩⟩) λok s7 ⟨H7,I7,G7,t7,g7,q7⟩=>?_
   have t17:aP H1 H7:=(tx.trans t6).trans t7
   -- what the π keep up to a later state
   have keepFp:∀{σ8:St} {H8:Hp} {s8:Shared},aH (iM X N scope C fp s2 H2) ([(D,{ cls:= .type "list",data:= .seq its.toArray kk })]++iX fp s5.heap) σ8 H8 s8->tn (i+1) s8.heap/\(∀b∈fp,H8 b=none)/\H8 D=none/\s8.heap.get? D=some { cls:= .type "list",data:= .seq its.toArray kk }/\∀b∈fp,∃o,s8.heap.get? b=some o:=λ{σ8 H8 s8} I8=>by
    refine⟨T.keep _ _ _ st5 λb hb o e=>(I8.pin (b,o) (yex _ (yex _ (dJ hb e)))).1,λb hb=>?_,(I8.pin (D,_) (yex _ (mem_append_left _ yby))).2.1,(I8.pin (D,_) (yex _ (mem_append_left _ yby))).1,λb hb=>?_⟩
    ·obtain⟨o,e,_⟩:=T.obj _ _ st5 b hb;exact(I8.pin (b,o) (yex _ (yex _ (dJ hb e)))).2.1
    ·obtain⟨o,e,_⟩:=T.obj _ _ st5 b hb;exact⟨o,(I8.pin (b,o) (yex _ (yex _ (dJ hb e)))).1⟩
   cases ok with
   | false=>
     rw[ycw ydx] at q7 ⊢;obtain⟨k1,k2,k3,k4,_⟩:=keepFp I7;exact⟨ws.length- (i+1),by (clear hD hCC hC hDC hDleC hi hl1 ed;lia),i+1,σ6,H7,τ6,G7,acc,vs,its,rfl,hlt,I7.pins_of λp hp=>absurd hp (by simp),k1,k2,k3,⟨kk,k4⟩,rv1,ra1.mono t17,t1.trans t17,rs6.mono t7,g7,q7,hl1⟩
   | true=>
     rw[ycv rfl] at q7 ⊢;refine ci (hte C _ s7 σ6 H7 (λv H8=>∃w8 G8,aP H7 H8/\cj X.K H8 w8 v/\aO X.K H8 G8/\acc.length+1<=100000/\cf Cd g tt te (ws.drop (i+1)) τ6 G8 (acc++[w8]) q) I7
      ⟨τ6,G7,_,rs6.mono t7,g7,q7,λv H8 w8 G8 t8 r8 g8 q8=>⟨w8,G8,t8,r8,g8,q8⟩⟩) λu8 s8 ⟨v8,H8,I8,rv8,w8,G8,t8,r8,g8,hl8,q8⟩=>?_
     obtain⟨k1,k2,k3,k4,k5⟩:=keepFp I8;have t18:aP H1 H8:=t17.trans t8;refine wpAny_list_append_plain ⟨kk,k4⟩ (λh9 pl9 sb9=>?_) (by rw[size_toArray,←rv1.length,←ra1.length];exact bQ hl1);have I9:aH (iM X N scope C fp s2 H2) [] σ6 H8 { s8 with heap:=h9 }:=(I8.pins_of (pins':=[]) λp hp=>absurd hp (by simp)).turned (t':=s8.toks) (λb o hb e=>(sb9.2 b hb).trans e) k3 hDC (.inr (by show s2.heap.objs.size<=D;rw[hD];exact ycx _)) (λx c e=>cD x c e) λp hp=>absurd (show p∈([]:List (Addr×Obj)) from hp) (by simp);refine⟨ws.length- (i+1),by (clear hD hCC hC hDC hDleC hi hl1 ed hl8;lia),i+1,σ6,H8,τ6,G8,acc++[w8],vs++[v8],its++[u8],rfl,hlt,I9,T.keep _ _ _ k1 λb hb o e=>(sb9.2 b (λz=>fD (z▸hb))).trans e,k2,k3,by simpa using pl9,rv1.append (.cons rv8 .nil),(ra1.mono t18).append (.cons r8 .nil),t1.trans t18,(rs6.mono t7).mono t8,g8,q8,by rw[length_append];exact hl8⟩
  ·have e:i=ws.length:=by (clear hD hCC hC hDC hDleC hl1;lia)
   subst e;rw[List.drop_length] at q1;refine ci (T.done (iM X N scope C fp s2 H2) rfl rfl rfl hc _ _ s σ1 H1 nox J1p (fpX fr1 pnf) st1 (itn.stop _ H1 G1 t1 g1 q1.1 (ycx _))) λr s4 z9=>?_;obtain⟨hr,I4⟩:=z9;subst hr;have eD4:=(I4.pin (D,_) (yex _ yby)).1;have zl:vs.length<=sizeLine:=by rw[←ra1.length];exact bQ hl1
   have hb2:∀b o,s2.heap.get? b=some o->b≠D:=λb o e=>by
    have:=ybv e;rw[hD] at this;exact ne_of_lt this
   refine hRR D C s4 ⟨upd H1 D (.lst vs),G1,acc,let ⟨m,hn,_⟩:=I4.loc;⟨m,hn⟩,?_,?_,by rw[hD];exact hDleC,t1.trans (aP.new d1 _),?_,gr.fresh (I.hok.fresh (by rw[hD];exact ycx _)),g1.fresh d1,q1.2⟩
   ·refine I.call' (ch:=fp) I4.os ⟨λb o e n hb hx=>I4.base.keep b o e n hb hx,λb o e n hb hx=>I4.base.slot b o e n hb hx,λb o e n hx=>?_,λb o e hx=>I4.base.there b o e hx,λb xs e=>?_,λb o u e=>?_,λb ps e=>?_⟩ ?_ I4.bare λb hb=>⟨(hf b hb).2.2.2.1,(hf b hb).2.1,λx c e=>(hf b hb).2.2.2.2.1 x c e,λp hp=>(hf b hb).2.2.2.2.2 p hp⟩
    ·rw[aC (hb2 b o e)];exact I4.base.free b o e n hx
    ·rw[aC (bc (I4.base.tups b xs e) d1)];exact I4.base.tups b xs e
    ·rw[aC (bc (I4.base.frzs b o u e) d1)];exact I4.base.frzs b o u e
    ·obtain⟨more,e'⟩:=I4.base.tbls b ps e;exact⟨more,by rw[aC (bc e' d1)];exact e'⟩
    ·intro b u e
     by_cases hbD:b=D
     ·subst hbD;rw[ba] at e;cases e;exact⟨zl,its,kk,rv1,eD4⟩
     ·rw[aC hbD] at e;exact(I4.hok b u e).stay (λc v _ q=>q) (λc q=>by rw[aC (bc q d1)];exact q) λc xs q=>by rw[aC (bc q d1)];exact q
   ·rw[aC (Ne.symm hDC)];exact I4.free
   ·exact(g1.upd (aP.new d1 _) (g1.fresh d1)).track ba (ra1.mono (aP.new d1 _)) hl1
 exact codeAny_compStart_list loop (T.self _ 0 _ _ _ (T.keep _ _ _ st λb _ o e=>old b o e) loop)
noncomputable def tN (wi:WI) (fv:List (Option Nat)) (g:WG) (tt:WT) (te:WE):WE:=λτ G q=>wi τ G λws Cd G1=>cf Cd g tt te ws (fS fv τ) G1 [] λrs G2=>∀p,G1 p=none->q (.ref p) (aQ G2 p (.lst rs))
theorem cU {wi:WI} (S:gq X scope N fv) (hc:X.calm=true) (hi:QI X tg iter wi) (hg:∀C fp s2 H2,QG (iM X N scope C fp s2 H2) tg g) (htt:∀C fp s2 H2,A7 (iM X N scope C fp s2 H2) ifs tt) (hte:∀C fp s2 H2,QE (iM X N scope C fp s2 H2) elt te)
 (hs:∀x,foldedSetIterable iter X.env x=pure x:=by intro _;rfl):QE X (.ListComp elt [⟨tg,iter,ifs,0⟩] scope pos) (tN wi fv g tt te):=by
 rintro π s σ H Q I ⟨τ,G,q,hτ,hG,ht,hQ⟩;rw[eval_ListComp];refine wpAny_comprehension_free (use:=none) rfl hs (jd (S.cells I)) S.kind S.names (ci (hi π s σ H (λJ H1=>∃ws Cd G1,aP H H1/\aO X.K H1 G1/\tI X.K J ws Cd H1/\cf Cd g tt te ws (fS fv τ) G1 [] λrs G2=>∀p,G1 p=none->q (.ref p) (aQ G2 p (.lst rs))) I
  ⟨τ,G,_,hτ,hG,ht,λJ H1 ws C G1 t1 g1 it r1=>⟨ws,C,G1,t1,g1,it,r1⟩⟩) λv s1 h1=>ci h1 λitv s2 h2=>?_)
 obtain⟨it,fp,tn,J,H2,e,I2,T,st2,f2,ws,Cd,G1,t1,g1,itn,hw⟩:=h2;subst e;refine je (RR:=λacc C=>compPost (model X.prog X.w) X.A X.xe none (EP X π σ Q) acc C) I2 S hc T st2 f2 (λC=>hg C fp s2 H2) (λC=>htt C fp s2 H2) (λC=>hte C fp s2 H2) itn (hτ.mono t1) g1 hw λD C s' z9=>?_;obtain⟨Hf,Gf,rs,⟨m,hn⟩,I5,hC,hCs,t5,g5,hD,hD2,q5⟩:=z9;refine⟨m,hn,λh' sb=>?_⟩;have hlt:C≠X.env.locals:=λz=>absurd I2.lt (not_lt.mpr (z▸hCs));have I6:aH X π σ Hf { s' with heap:=h' }:=I5.turned (t':=s'.toks) (λb o hb e=>(sb.2 b hb).trans e) hC hlt (.inr (ycy I2.sz hCs)) (λx c e z=>by
  obtain⟨v,o,ho,_⟩:=I2.cell x c e;exact absurd (ybv ho) (not_lt.mpr (z▸hCs))) λp hp z=>absurd (ybv (I2.pin p hp).1) (not_lt.mpr (z▸hCs))
 exact⟨.ref D,Hf,I6,rfl,hQ _ Hf _ _ (t1.trans t5) (.ref D) g5 (q5 D hD)⟩
theorem iO (i:Nat) {y:Str} {py spos:Pos} {wi:WI} (S:gq X scope N fv) (hc:X.calm=true) (hN:X.N.Nodup) (hiN:X.N[i]?=some y) (hy:vz X.env.scope y) (hi:QI X tg iter wi) (hg:∀C fp s2 H2,QG (iM X N scope C fp s2 H2) tg g) (htt:∀C fp s2 H2,A7 (iM X N scope C fp s2 H2) ifs tt) (hte:∀C fp s2 H2,QE (iM X N scope C fp s2 H2) elt te)
 (hsw:swapsWith (.ListComp elt [⟨tg,iter,ifs,0⟩] scope pos) (some (.Name y py)) spos.line X.env=pure true:=by rfl) (hs:∀x,foldedSetIterable iter X.env x=pure x:=by intro _;rfl) (hfn:X.fn y=true∨X.env.scope.names.lookup y=some .local:=by first | exact .inl rfl | exact .inr rfl | assumption):
 QS X (.Assign [.Name y py] (.ListComp elt [⟨tg,iter,ifs,0⟩] scope pos) spos) (zL (tN wi fv g tt te) (ff i)):=by
 rintro π s σ H D0 I ⟨τ,G,d,hτ,hG,ht,l⟩;rw[exec_Assign_Name_used _ _ _ _ hsw];refine wax (wpAny_standAt (wax ?_));show wpAny _ _ (do let _ ←comprehension (.ListComp elt [⟨tg,iter,ifs,0⟩] scope pos) scope X.env _ (newList []) false (eval iter X.env) (some (assign (.Name y py) X.env))) _ _ s;refine wax (wpAny_mono (wpAny_comprehension_free (use:=some (assign (.Name y py) X.env)) (Q:=λ_ s'=>SP X π D0 .next s') rfl hs (jd (S.cells I)) S.kind S.names (ci (hi π s σ H (λJ H1=>∃ws Cd G1,aP H H1/\aO X.K H1 G1/\tI X.K J ws Cd H1/\cf Cd g tt te ws (fS fv τ) G1 [] λrs G2=>∀p,G1 p=none->ff i (.ref p) τ (aQ G2 p (.lst rs)) d.nx) I
  ⟨τ,G,_,hτ,hG,ht,λJ H1 ws C G1 t1 g1 it r1=>⟨ws,C,G1,t1,g1,it,r1⟩⟩) λv s1 h1=>ci h1 λitv s2 h2=>?_)) (λ_ s' hq=>wpAny_pure (wpAny_pure hq)) λ_ _ e=>e)
 obtain⟨it,fp,tn,J,H2,e,I2,T,st2,f2,ws,Cd,G1,t1,g1,itn,hw⟩:=h2;subst e;refine je (RR:=λacc C=>compPost (model X.prog X.w) X.A X.xe (some (assign (.Name y py) X.env)) (λ_ s'=>SP X π D0 .next s') acc C) I2 S hc T st2 f2 (λC=>hg C fp s2 H2) (λC=>htt C fp s2 H2) (λC=>hte C fp s2 H2) itn (hτ.mono t1) g1 hw λD C s' z9=>?_;obtain⟨Hf,Gf,rs,⟨m,hn⟩,I5,hC,hCs,t5,g5,hD,hD2,q5⟩:=z9;have hlt:C≠X.env.locals:=λz=>absurd I2.lt (not_lt.mpr (z▸hCs));have hcell:∀x c,X.env.cells.lookup x=some c->c≠C:=λx c e z=>by
  obtain⟨v,o,ho,_⟩:=I2.cell x c e;exact absurd (ybv ho) (not_lt.mpr (z▸hCs))
 show wpAny _ _ (assign (.Name y py) X.env (.ref D)) _ _ s';refine wpAny_assign_Name (jM I5 hN hiN hy (v:= .ref D) rfl (λs6 I6 z9=>?_) hfn);obtain⟨a,sb6,ha⟩:=z9;have haC:C≠a:=by
  rcases ha with z | z
  ·rw[z];exact hlt
  ·exact Ne.symm (hcell y a z)
 refine⟨m,hn.sameBut sb6 haC,λh' sb=>?_⟩;have I7:aH X π (σ.set i (some (.ref D))) Hf { s6 with heap:=h' }:=I6.turned (t':=s6.toks) (λb o hb e=>(sb.2 b hb).trans e) hC hlt (.inr (ycy I2.sz hCs)) hcell λp hp z=>absurd (ybv (I2.pin p hp).1) (not_lt.mpr (z▸hCs));exact⟨_,Hf,I7,l.nx _ Hf _ _ (t1.trans t5) ((hτ.mono (t1.trans t5)).set (.ref D) i) g5 (q5 D hD)⟩
end
noncomputable def Gx (K:yav) (a b:Addr):It:=
 ⟨λi H=>∃xs ys x y,dA K H a xs/\dA K H b ys/\xs[i]?=some x/\ys[i]?=some y,
  λi H v H'=>∃p x y,H p=none/\(∀xs,dA K H a xs->xs[i]?=some x)/\(∀ys,dA K H b ys->ys[i]?=some y)/\v=.ref p/\H'=upd H p (.tup [x,y]),
  λi H=>∃xs ys,dA K H a xs/\dA K H b ys/\(xs.length<=i∨ys.length<=i)⟩
section
variable {P:Program} {w:World} {K:yav}
theorem tO {elts:List Expr} {z p r i j a b:Addr} (D:ZA z p r i j a b):lM P w K (.Tuple elts k pos) (Gx K a b) [z,p,r,i,j] z (λn h=>ZT z p r i j a b n .none h) where
 mem:=by simp
 obj:=λn h T c hc=>by
  obtain⟨hz,hp,⟨x,y,hr⟩,⟨oi,hi,_,di⟩,⟨oj,hj,_,dj⟩⟩:=T;simp only[mem_cons,mem_nil_iff,or_false] at hc;rcases hc with rfl | rfl | rfl | rfl | rfl
  ·exact⟨_,hz,λv q=>by cases q⟩
  ·exact⟨_,hp,λv q=>by cases q⟩
  ·exact⟨_,hr,λv q=>by cases q⟩
  ·exact⟨_,hi,λv q=>by rw[di] at q;cases q⟩
  ·exact⟨_,hj,λv q=>by rw[dj] at q;cases q⟩
 keep:=λn h h' T kk=>by
  obtain⟨hz,hp,⟨x,y,hr⟩,hi,hj⟩:=T;exact⟨kk z (by simp) _ hz,kk p (by simp) _ hp,⟨x,y,kk r (by simp) _ hr⟩,hi.at λo e=>kk i (by simp) o e,hj.at λo e=>kk j (by simp) o e⟩
 item:=by
  intro X hP hw hK hc n π s σ H E I hf T hg;subst hP hw hK;obtain⟨xs,ys,x,y,qa,qb,ex,ey⟩:=hg;obtain⟨its,rv,pa,hza⟩:=I.tuple qa;obtain⟨its2,rv2,pb,hzb⟩:=I.tuple qb;obtain⟨ux,eux,rx⟩:=rv.get ex;obtain⟨uy,euy,ry⟩:=rv2.get ey;refine rB D T (show s.heap.IsTuple a its.toArray from pa) (show s.heap.IsTuple b its2.toArray from pb) (by simpa using eux) (by simpa using euy) λh1 T1 t1 k1=>⟨_,rfl,?_⟩;refine wpAny_letOwnedTupleGo_zip T1.hz λh2 hz2 sb2=>?_;have lt:∀{c:Addr} {o:Obj},s.heap.get? c=some o->c≠s.heap.objs.size:=λe=>ne_of_lt (ybv e);have hnew:H s.heap.objs.size=none:=I.hok.fresh (ycx _);have zne:z≠s.heap.objs.size:=lt T.hz;have keep:∀c o,c≠z->c≠r->c≠i->c≠j->s.heap.get? c=some o->h2.get? c=some o:=λc o c1 c2 c3 c4 e=>sb2.extBut c o c1 (k1 c o c1 c2 c3 c4 e);have tn:h2.get? s.heap.objs.size=some { cls:= .type "tuple",data:= .seq #[ux,uy] }:=sb2.extBut _ _ (Ne.symm zne) t1;have inZ:∀c∈[z,r,i,j],c∈[z,p,r,i,j]:=λc hc=>by
   simp only[mem_cons,mem_nil_iff,or_false] at hc ⊢;rcases hc with h | h | h | h<;> simp[h]
  have notin:∀{c:Addr},c∉[z,r,i,j]->c≠z/\c≠r/\c≠i/\c≠j:=λ{c} hc=>by
   simp only[mem_cons,mem_nil_iff,or_false,not_or] at hc;exact hc
  have tracked:∀c u,H c=some u->c∉[z,r,i,j]:=λc u e hc=>by
   rw[(hf c (inZ c hc)).1] at e;cases e
  refine⟨.ref s.heap.objs.size,upd H s.heap.objs.size (.tup [x,y]),?_,rfl,⟨_,x,y,hnew,λzs hz=>by rw[I.tuple_inj hz qa];exact ex,λzs hz=>by rw[I.tuple_inj hz qb];exact ey,rfl,rfl⟩,⟨hz2,?_,?_,?_,?_⟩,λc hc=>?_⟩
  ·show aH X π σ _ { s with heap:=h2,gens:=s.gens,drawn:=s.drawn,toks:=s.toks };refine I.step (g':=s.gens) (d':=s.drawn) (t':=s.toks) (ch:=[z,r,i,j]) (λc hc=>?_) (λc o _ _ hc e _=>?_) (λc o _ _ hc e _=>⟨o.slots,?_⟩) (λc o _ e n=>?_) (λc o hc e=>⟨o,?_⟩) (λc xs e=>?_) (λc o u e=>?_) (λc ps e=>⟨#[],?_⟩) (λm hm=>?_) (λc u e=>?_) I.bare
   ·obtain⟨_,f1,_,f3,f4,f5⟩:=hf c (inZ c hc);exact⟨f3,f1,f4,f5⟩
   ·obtain⟨c1,c2,c3,c4⟩:=notin hc;exact keep c o c1 c2 c3 c4 e
   ·obtain⟨c1,c2,c3,c4⟩:=notin hc;exact keep c o c1 c2 c3 c4 e
   ·rw[aC (lt e)];exact n
   ·obtain⟨c1,c2,c3,c4⟩:=notin hc;exact keep c o c1 c2 c3 c4 e
   ·rw[aC (bc e hnew)];exact e
   ·rw[aC (bc e hnew)];exact e
   ·rw[aC (bc e hnew),e];simp
   ·obtain⟨o,es,ep,ho,rest⟩:=hm;have nl:∀c∈[z,r,i,j],X.env.locals≠c:=λc hc=>Ne.symm (hf c (inZ c hc)).2.1;exact⟨o,es,ep,keep _ o (nl z (by simp)) (nl r (by simp)) (nl i (by simp)) (nl j (by simp)) ho,rest⟩
   ·by_cases hcs:c=s.heap.objs.size
    ·subst hcs;rw[ba] at e;cases e;exact⟨by show 2<=sizeLine;decide,[ux,uy],.cons rx (.cons ry .nil),⟨_,tn,rfl,_,rfl⟩⟩
    ·rw[aC hcs] at e;refine(I.hok c u e).stay (λc' v hc' q=>?_) (λc' q=>by rw[aC (bc q hnew)];exact q) λc' xs q=>by rw[aC (bc q hnew)];exact q
     have nt:c'∉[z,r,i,j]:=by
      rcases hc' with rfl | hc'
      ·exact tracked _ _ e
      ·exact tracked _ _ hc'
     obtain⟨c1,c2,c3,c4⟩:=notin nt;exact keep c' v c1 c2 c3 c4 q
  ·exact sb2.extBut _ _ D.zp T1.hp
  ·obtain⟨x',y',hr⟩:=T1.hr;exact⟨x',y',sb2.extBut _ _ D.zr hr⟩
  ·exact T1.hi.extBut sb2.extBut D.zi
  ·exact T1.hj.extBut sb2.extBut D.zj
  ·obtain⟨o,e,_⟩:∃o,s.heap.get? c=some o/\True:=by
    obtain⟨hz,hp,⟨x,y,hr⟩,⟨oi,hi,_,di⟩,⟨oj,hj,_,dj⟩⟩:=T;simp only[mem_cons,mem_nil_iff,or_false] at hc;rcases hc with rfl | rfl | rfl | rfl | rfl
    ·exact⟨_,hz,trivial⟩
    ·exact⟨_,hp,trivial⟩
    ·exact⟨_,hr,trivial⟩
    ·exact⟨_,hi,trivial⟩
    ·exact⟨_,hj,trivial⟩
   rw[aC (lt e)];exact(hf c hc).1
 done:=by
  intro X hP hw hK hc n π s σ H E I hf T hg;subst hP hw hK;obtain⟨xs,ys,qa,qb,hl⟩:=hg;obtain⟨its,rv,pa,hza⟩:=I.tuple qa;obtain⟨its2,rv2,pb,hzb⟩:=I.tuple qb;have la:=rv.length;have lb:=rv2.length;have hx:its.toArray[n]?=none∨its2.toArray[n]?=none:=by
   rcases hl with h | h
   ·exact .inl (by simp;(clear hza hzb lb;lia))
   ·exact .inr (by simp;(clear hza hzb la;lia))
  refine tJ (I.ok.hd hc) D T (show s.heap.IsTuple a its.toArray from pa) (show s.heap.IsTuple b its2.toArray from pb) hx λh' k1=>⟨rfl,?_⟩;have inZ:∀c∈[z,r,i,j],c∈[z,p,r,i,j]:=λc hc=>by
   simp only[mem_cons,mem_nil_iff,or_false] at hc ⊢;rcases hc with h | h | h | h<;> simp[h]
  have notin:∀{c:Addr},c∉[z,r,i,j]->c≠z/\c≠r/\c≠i/\c≠j:=λ{c} hc=>by
   simp only[mem_cons,mem_nil_iff,or_false,not_or] at hc;exact hc
  have tracked:∀c u,H c=some u->c∉[z,r,i,j]:=λc u e hc=>by
   rw[(hf c (inZ c hc)).1] at e;cases e
  have kk:∀c o,c∉[z,r,i,j]->s.heap.get? c=some o->h'.get? c=some o:=λc o hc e=>by
   obtain⟨c1,c2,c3,c4⟩:=notin hc;exact k1 c o c1 c2 c3 c4 e
  refine I.step (g':=s.gens) (d':=s.drawn) (t':=s.toks) (ch:=[z,r,i,j]) (λc hc=>?_) (λc o _ _ hc e _=>kk c o hc e) (λc o _ _ hc e _=>⟨o.slots,kk c o hc e⟩) (λ_ _ _ _ n=>n) (λc o hc e=>⟨o,kk c o hc e⟩) (λ_ _ e=>e) (λ_ _ _ e=>e) (λc ps e=>⟨#[],by rw[e];simp⟩) (λm hm=>?_) (λc u e=>?_) I.bare
  ·obtain⟨_,f1,_,f3,f4,f5⟩:=hf c (inZ c hc);exact⟨f3,f1,f4,f5⟩
  ·obtain⟨o,es,ep,ho,rest⟩:=hm;have nl:X.env.locals∉[z,r,i,j]:=λhc=>(hf _ (inZ _ hc)).2.1 rfl;exact⟨o,es,ep,kk _ o nl ho,rest⟩
  ·refine(I.hok c u e).stay (λc' v hc' q=>kk c' v ?_ q) (λ_ q=>q) λ_ _ q=>q;rcases hc' with rfl | hc'
   ·exact tracked _ _ e
   ·exact tracked _ _ hc'
 self:=λ_ _ _ _ _ T h=>wpAny_pyIter_zip T.hz h
end
noncomputable def d9:List W->List W->List W
 | x::xs,y::ys=> .tup [x,y]::d9 xs ys
 | _,_=>[]
theorem mf:∀{xs ys:List W} {i:Nat} {w:W},(d9 xs ys)[i]?=some w->∃x y,xs[i]?=some x/\ys[i]?=some y/\w=.tup [x,y]
 | [],_,_,_,e=>by simp[d9] at e
 | _::_,[],_,_,e=>by simp[d9] at e
 | x::xs,y::ys,0,w,e=>by simp[d9] at e;exact⟨x,y,rfl,rfl,e.symm⟩
 | x::xs,y::ys,i+1,w,e=>by
   obtain⟨a,b,h1,h2,h3⟩:=mf (xs:=xs) (ys:=ys) (i:=i) (w:=w) (by simpa[d9] using e);exact⟨a,b,by simpa using h1,by simpa using h2,h3⟩
theorem iC:∀(xs ys:List W),(d9 xs ys).length=min xs.length ys.length
 | [],_=>by simp[d9]
 | _::_,[]=>by simp[d9]
 | _::xs,_::ys=>by simp only[d9,length_cons,iC xs ys];exact(Nat.succ_min_succ _ _).symm
section
variable {X:Cx}
theorem wj {a b:Addr} {ws us:List W} {xs ys:List V} {H:Hp} (ha:H a=some (.tup xs)) (hb:H b=some (.tup ys)) (ra:aR K H ws xs) (rb:aR K H us ys):tI K (Gx K a b) (d9 ws us) (λ_=>True) H where
 stop:=λi H1 G t g _ hl=>⟨xs,ys,dA.of (t.tup _ _ ha),dA.of (t.tup _ _ hb),by
  rw[iC] at hl;rw[←ra.length,←rb.length];lia⟩
 go:=λi w H1 G t g _ e=>by
  obtain⟨x,y,ex,ey,rfl⟩:=mf e;obtain⟨vx,e1,r1⟩:=ra.get ex;obtain⟨vy,e2,r2⟩:=rb.get ey;refine⟨⟨xs,ys,vx,vy,dA.of (t.tup _ _ ha),dA.of (t.tup _ _ hb),e1,e2⟩,λv H' z9=>?_⟩;obtain⟨p,x',y',hp,h1,h2,ev,eH⟩:=z9;have z1:=h1 _ (dA.of (t.tup _ _ ha));have z2:=h2 _ (dA.of (t.tup _ _ hb));rw[e1] at z1;cases z1;rw[e2] at z2;cases z2;subst ev eH;have tn:=aP.new hp (HO.tup [vx,vy]);exact⟨tn,.tup ba (.cons ((r1.mono t).mono tn) (.cons ((r2.mono t).mono tn) .nil)),g.keep hp _⟩
noncomputable def B1 (ta:WA):WI:=λτ G r=>ta τ G λws G1=>match ws with
 | [.tup xs,.tup ys]=>r (d9 xs ys) (λ_=>True) G1
 | _=>False
theorem tP:bootBuiltins "zip"=some (.type "zip"):=by decide+kernel
theorem zU {ws:List W} {f:List W->List W->Prop} (h:match ws with | [.tup xs,.tup ys]=>f xs ys | _=>False):∃xs ys,ws=[.tup xs,.tup ys]/\f xs ys:=by
 rcases ws with _ | ⟨a,_ | ⟨b,r⟩⟩
 ·exact h.elim
 ·cases a<;> exact h.elim
 ·cases a with
  | tup i=>
    cases b with
    | tup j=>cases r with
      | nil=>exact⟨i,j,rfl,h⟩
      | cons _ _=>exact h.elim
    | _=>exact h.elim
  | _=>exact h.elim
theorem zV {elts:List Expr} {tp:Pos} {a b:Expr} {ta:WA} {p pos:Pos} (hg:Gl X "zip") (hm:X.mg "zip"=none) (ha:QA X [a,b] ta) (hs:starEach [a,b] X.env=[(false,eval a X.env),(false,eval b X.env)]:=by rfl) (hs2:starEach [b] X.env=[(false,eval b X.env)]:=by rfl):
 QI X (.Tuple elts k tp) (.Call (.Name "zip" p) [a,b] [] pos) (B1 ta):=by
 rintro π s σ H R I ⟨τ,G,r,hτ,hG,ht,hR⟩;refine Call_ (hV I hg hm tP (PyProof.Rows.callWith_type1 (ci (ha pos π s σ H (λvs H1=>∃ws G1,aP H H1/\aR X.K H1 ws vs/\aO X.K H1 G1/\match ws with | [.tup xs,.tup ys]=>r (d9 xs ys) (λ_=>True) G1 | _=>False) I ⟨τ,G,_,hτ,hG,ht,λvs H1 ws G1 t1 r1 g1 q1=>⟨ws,G1,t1,r1,g1,q1⟩⟩) λus s1 ⟨vs,H1,I1,ru,ws,G1,t1,r1,g1,q1⟩=>?_) (by rw[hs,hs2]) (by rw[hs2];rfl)));obtain⟨xs,ys,rfl,q1⟩:=zU q1;obtain⟨v1,v2,rfl,ra,rb⟩:=r1.two;cases ra with
 | @tup pa _ xs' ha' ra=>
   cases rb with
   | @tup pb _ ys' hb' rb=>
     obtain⟨u1,u2,rfl,w1,w2⟩:=sN ru;cases (show u1=Value.ref pa from w1);cases (show u2=Value.ref pb from w2);obtain⟨its,_,p1,_⟩:=I1.tuple (dA.of ha');obtain⟨its2,_,p2,_⟩:=I1.tuple (dA.of hb');refine rC (show s1.heap.IsTuple pa its.toArray from p1) (show s1.heap.IsTuple pb its2.toArray from p2) λh' T kk=>?_;refine wpAny_pyIter_zip T.hz ?_;have I2:aH X π σ H1 { s1 with heap:=h' }:=I1.kept (t':=s1.toks) kk;refine⟨_,[s1.heap.objs.size+4,s1.heap.objs.size+2,s1.heap.objs.size+3,s1.heap.objs.size,s1.heap.objs.size+1],_,_,H1,rfl,I2,tO (zT p1.lt p2.lt),T,λc hc=>?_,hR _ H1 _ _ G1 t1 g1 (wj ha' hb' ra rb) q1⟩;have hle:s1.heap.objs.size<=c:=by
      simp only[mem_cons,mem_nil_iff,or_false] at hc;rcases hc with rfl | rfl | rfl | rfl | rfl
      ·exact Nat.le_add_right _ _
      ·exact Nat.le_add_right _ _
      ·exact Nat.le_add_right _ _
      ·exact ycx _
      ·exact Nat.le_add_right _ _
     exact I1.fpOk hle (I1.hok.fresh hle)
noncomputable def B2 (te:WE):WE:=λτ G q=>te τ G λx G1=>match x with | .int i=>q (.int (-i)) G1 | _=>False
theorem fm {a:Expr} {ta:WE} (ha:QE X a ta):QE X (.UnaryOp .USub a pos) (B2 ta):=
 (Bp zn ha).imp λσ H Q z0=>z0.el λτ G q hs hg ht hQ=>⟨τ,G,_,hs,hg,ht,λv H1 w G1 t1 r1 g1 q1=>by
   split at q1
   ·cases r1;exact⟨_,rfl,hQ _ H1 _ G1 t1 (.int _) g1 q1⟩
   ·exact q1.elim⟩
noncomputable def Fx (P:Program) (w:World) (K:yav) (mg:yew) (base:Heap) (x:Str) (ps:List Str) (k:Nat) (sp:bA):Prop:=
 ∃(f:Addr) (fd:FuncData),cu P w K mg base k f fd ps sp/\mg x=some (.ref f)/\keepIn K (.ref f)=true/\bM K fd ps []
theorem B3 {sp:bA} {p pos:Pos} {t:WA} (F:Fx X.prog X.w X.K X.mg X.base x ps k sp) (hr:aw k X.A) (hg:Gl X x) (ha:QA X (e::es) t) (hdb:(x==("__debug__":Str))=false:=by decide)
 (he:starEach (e::es) X.env=(false,eval e X.env)::starEach es X.env:=by rfl) (hpl:(backTo pos (starEach es X.env)).any (·.1)=false:=by rfl):QE X (.Call (.Name x p) (e::es) [] pos) (iA sp [] t):=by
 obtain⟨f,fd,h1,h2,h3,h4⟩:=F;exact vZ h1 hr hg h2 h3 h4 ha hdb he hpl
theorem zW {sp:bA} {p pos:Pos} (F:Fx X.prog X.w X.K X.mg X.base x ps k sp) (hr:aw k X.A) (hg:Gl X x) (hdb:(x==("__debug__":Str))=false:=by decide):QE X (.Call (.Name x p) [] [] pos) (iA sp [] tw):=by
 obtain⟨f,fd,h1,h2,h3,h4⟩:=F;exact tD h1 hr hg h2 h3 h4 hdb
noncomputable def tQ (scope:Scope):List Str:=scope.names.map (·.1)
noncomputable def oG (N:List Str) (scope:Scope):List (Option Nat):=scope.names.map λy=>if y.2== .free then N.findIdx? (·==y.1) else none
noncomputable def tR (outer scope:Scope):Bool:=
 scope.kind== .function&&scope.names.all (λy=>y.2 !=.cell)&&scope.names.all (λy=>y.2 !=.local||scope.names.lookup y.1==some .local)&&
  scope.names.all (λy=>y.2 !=.free||(outer.names.lookup y.1==some .cell&&scope.names.lookup y.1 !=some .local))
theorem cL (h:tR X.env.scope scope=true):gq X scope (tQ scope) (oG X.N scope):=by
 unfold tR at h;simp only[Bool.and_eq_true,all_eq_true,Bool.or_eq_true,bne_iff_ne,beq_iff_eq,ne_eq] at h;obtain⟨⟨⟨h1,h2⟩,h3⟩,h4⟩:=h;refine⟨h1,h2,λx hx hk=>(h3 x hx).resolve_left λz=>z hk,λy hy hk=>((h4 y hy).resolve_left λz=>z hk).1,λi j x e1 e2=>?_,by simp[tQ,oG],λ{x} hx=>((h4 _ hx).resolve_left λz=>z rfl).2⟩;unfold tQ at e1;unfold oG at e2;rw[List.getElem?_map] at e1 e2;cases e:scope.names[i]? with
 | none=>rw[e] at e1;cases e1
 | some y=>
   rw[e] at e1 e2;have e1':y.1=x:=Option.some.inj e1;have e2':(if (y.2==NameKind.free)=true then X.N.findIdx? (·==y.1) else none)=some j:=Option.some.inj e2;have hm:y∈scope.names:=List.mem_of_getElem? e;split at e2'
   ·rename_i hk;have hk':y.2=.free:=by simpa using hk
    have hy:y=(x,NameKind.free):=by rw[←e1',←hk']
    have:=List.findIdx?_eq_some_iff_getElem.mp e2';obtain⟨hj,hj2,_⟩:=this;refine⟨?_,?_,hy▸hm⟩
    ·rw[ycz hj];have:X.N[j]=y.1:=by simpa using hj2
     rw[this,e1']
    ·have:=((h4 y hm).resolve_left λz=>z hk').1;rw[e1'] at this;exact this
   ·cases e2'
theorem bO (i:Nat) {N:List Str} {C:Addr} {fp:List Addr} {s2:Shared} {H2:Hp} (hN:N.Nodup) (hi:N[i]?=some x) (hx:vz (iM X N scope C fp s2 H2).env.scope x) (hf:(iM X N scope C fp s2 H2).fn x=true∨(iM X N scope C fp s2 H2).env.scope.names.lookup x=some .local:=by first | exact .inl rfl | exact .inr rfl):
 QG (iM X N scope C fp s2 H2) (.Name x pos) (ff i):=bI (X:=iM X N scope C fp s2 H2) i hN hi hx hf
theorem d6:bootBuiltins "tuple"=some (.type "tuple"):=by decide+kernel
theorem mh:bootBuiltins "max"=some (.builtin "max"):=by decide+kernel
theorem jf:bootBuiltins "sum"=some (.builtin "sum"):=by decide+kernel
theorem aL {R:WS->Prop} {t:WS} (h:lH X body t) (g:R t):∃t,lH X body t/\R t:=⟨t,h,g⟩
end
mutual
noncomputable def W.lt:W->W->Bool
 | .int i,.int j=>decide (i<j)
 | .tup xs,.tup ys=>W.lts xs ys
 | _,_=>false
noncomputable def W.lts:List W->List W->Bool
 | [],[]=>false
 | [],_::_=>true
 | _::_,[]=>false
 | x::xs,y::ys=>if W.eq x y=true then W.lts xs ys else W.lt x y
end
mutual
noncomputable def W.ord:W->W->Bool
 | .int _,.int _=>true
 | .tup xs,.tup ys=>W.ords xs ys
 | _,_=>false
noncomputable def W.ords:List W->List W->Bool
 | x::xs,y::ys=>if W.eq x y=true then W.ords xs ys else W.ord x y
 | _,_=>true
end
noncomputable def rF (A:Around) (s:Shared) (y x:Value) (b:Bool):Prop:=
 ∀(prog:Program) (w:World) (E:yey) (Q:yey),Q (.bool b) s->wpAny (model prog w) A (richCompare .Lt y x) Q E s
inductive ig (A:Around) (s:Shared):List Value->List Value->Bool->Prop where
 | nn:ig A s [] [] false
 | nc {y:Value} {ys:yez}:ig A s [] (y::ys) true
 | cn {x:Value} {xs:yez}:ig A s (x::xs) [] false
 | eq {x y:Value} {xs ys:yez} {r:Bool} (h:SeqAt.EqAt A s x y true) (t:ig A s xs ys r):ig A s (x::xs) (y::ys) r
 | ne {x y:Value} {xs ys:yez} {r:Bool} (h:SeqAt.EqAt A s x y false) (t:rF A s x y r):ig A s (x::xs) (y::ys) r
section
open PySem.SeqAt
open PySem.AutoSeq1 (wpAny_loadPart')
open PySem.MeetsSeq PySem.MeetsSeq2 PySem.MeetsSeq3
theorem oH (l b:Addr) (items items2:Array Value) (n n2:Nat) (dd dd2:Option Addr) (sl sl2:Array (Option Value)) (r:Bool):
 Meets (Builtin.«tuple.__lt__» ⟨[.ref l,.ref b],[]⟩)
  (λA R s=>s.heap.get? l=some { cls:= .type "tuple",dict:=dd,data:= .seq items n,slots:=sl }/\s.heap.get? b=some { cls:= .type "tuple",dict:=dd2,data:= .seq items2 n2,slots:=sl2 }/\
    ig A.in1 s items.toList items2.toList r/\R (.ok (.ret (.bool r))) s):=
 .of_wp λprog w A R s h=>by
  obtain⟨hp,g,d,tk,os⟩:=s;obtain⟨hl,hb,hc,h⟩:=h;have f2:=AutoSeq1.sub_tuple_tuple
  wp_walk using wpAny_loadPart' hl,wpAny_loadPart' hb,wpAny_forIn_list _ (λrest b s'=>b.1=none/\s'=⟨hp,g,d,tk,os⟩/\∃(vs ws:yez),rest=vs.zip ws/\
   ig A.in1 ⟨hp,g,d,tk,os⟩ vs ws r/\vs.length+items2.size=ws.length+items.size) _
  case turn=>
   rintro⟨y,x⟩ rest b s' ⟨hb',rfl,vs,ws,hz,hC,hlen⟩;cases hC with
   | nn=>rw[List.zip_nil_left] at hz;cases hz
   | nc=>rw[List.zip_nil_left] at hz;cases hz
   | cn=>rw[List.zip_nil_right] at hz;cases hz
   | eq he ht=>
     rw[zip_cons_cons] at hz;injection hz with hyx hrest
     injection hyx with hy hx
     subst hy hx;simp only[length_cons] at hlen;refine wax (he prog w _ _ ?_)
     wp_walk
     exact⟨rfl,rfl,_,_,hrest,ht,by lia⟩
   | ne he ht=>
     rw[zip_cons_cons] at hz;injection hz with hyx hrest
     injection hyx with hy hx
     subst hy hx;refine wax (he prog w _ _ ?_);have hri:=ht prog w
     wp_walk using hri
     exact⟨_,rfl,by simpa using h⟩
  case fin=>
   rintro⟨b1,b2⟩ s' ⟨hb',rfl,vs,ws,hz,hC,hlen⟩;simp only at hb';subst hb';have hv:r=decide (items.size<items2.size):=by
    cases hC with
    | nn=>simp only[length_nil] at hlen;exact(ydy (by lia)).symm
    | nc=>simp only[length_nil,length_cons] at hlen;exact(ydz (by lia)).symm
    | cn=>simp only[length_nil,length_cons] at hlen;exact(ydy (by lia)).symm
    | eq he ht=>rw[zip_cons_cons] at hz;cases hz
    | ne he ht=>rw[zip_cons_cons] at hz;cases hz
   rw[hv] at h
   wp_walk
   exact⟨_,rfl,by simpa[Builtin.Tuple.tupleCompareSizes] using h⟩
  case h=>
   exact⟨rfl,rfl,_,_,rfl,hc,by simp;lia⟩
end
theorem rF.tuples {l b:Addr} {items items2:Array Value} {r:Bool} (hl:s.heap.IsTuple l items) (hb:s.heap.IsTuple b items2) (hu:A.units<cLine)
 (hc:ig A.in1 s items.toList items2.toList r):rF A s (.ref l) (.ref b) r:=λprog w E Q h=>by
 obtain⟨⟨cls,dd,data,sl⟩,ho,hcl,n,hd⟩:=id hl;obtain⟨⟨cls2,dd2,data2,sl2⟩,ho2,hc2,n2,hd2⟩:=id hb;simp only at hcl hd hc2 hd2;subst hcl hd hc2 hd2;exact richCompare_meets_room (op:= .Lt) ⟨_,ho,rfl⟩ ⟨_,ho2,rfl⟩ PySem.F.slot_tuple_lt PySem.F.entry_tuple_lt (PySem.F.args_tuple_lt_2 _ _) (oH l b items items2 n n2 dd dd2 sl sl2 r)
  ⟨ho,ho2,hc,show Value.bool r≠Value.notImplemented/\Q (.bool r) s from ⟨(λx=>nomatch x),h⟩⟩ hu
section
variable {X:Cx} {π:List (Addr×Obj)} {σ:St} {H:Hp} {s:Shared}
theorem wk (I:aH X π σ H s) (n:Nat) (A:Around)
 (ih:∀{w1 w2:W} {v1 v2:V} {u1 u2:Value},w1.dep<n->w1.flat=true->w2.flat=true->W.ord w1 w2=true->cj X.K H w1 v1->cj X.K H w2 v2->bn v1 u1->bn v2 u2->rF A s u1 u2 (w1.lt w2)) (hu:A.units+n<cLine):
 ∀{ws us:List W} {xs ys:List V} {its its2:yez},W.deps ws<n->W.flats ws=true->W.flats us=true->W.ords ws us=true->aR X.K H ws xs->aR X.K H us ys->aT xs its->aT ys its2->ig A s its its2 (W.lts ws us):=by
 intro ws
 induction ws with
 | nil=>
   intro us xs ys its its2 hd f1 f2 ho r1 r2 q1 q2;cases r1;cases q1;cases r2 with
   | nil=>cases q2;simpa[W.lts] using ig.nn
   | cons _ _=>cases q2;simpa[W.lts] using ig.nc
 | cons x xs IH=>
   intro us vs1 vs2 its its2 hd f1 f2 ho r1 r2 q1 q2;cases r1 with
   | cons r1 s1=>
     cases q1 with
     | cons q1 t1=>
       cases r2 with
       | nil=>cases q2;simpa[W.lts] using ig.cn
       | @cons y ys _ _ r2 s2=>
         cases q2 with
         | cons q2 t2=>
           simp only[W.deps] at hd;simp only[W.flats,Bool.and_eq_true] at f1 f2;have e:=(fh I n A (w1:=x) (w2:=y) (by (clear hu;lia)) f1.1 f2.1 hu r1 r2 q1 q2).1;rw[W.ords] at ho;rw[W.lts];cases he:W.eq x y with
           | true=>
             rw[he] at e ho;rw[ycv rfl] at ho ⊢;exact .eq e (IH (by (clear hu;lia)) f1.2 f2.2 ho s1 s2 t1 t2)
           | false=>
             rw[he] at e ho;rw[ycw ydx] at ho ⊢;exact .ne e (ih (by (clear hu;lia)) f1.1 f2.1 ho r1 r2 q1 q2)
theorem zX (I:aH X π σ H s):∀(n:Nat) (A:Around) {w1 w2:W} {v1 v2:V} {u1 u2:Value},w1.dep<n->w1.flat=true->w2.flat=true->W.ord w1 w2=true->A.units+n<cLine->cj X.K H w1 v1->cj X.K H w2 v2->bn v1 u1->bn v2 u2->
 rF A s u1 u2 (w1.lt w2):=by
 intro n
 induction n with
 | zero=>intro A w1 w2 v1 v2 u1 u2 h;lia
 | succ n ih=>
   intro A w1 w2 v1 v2 u1 u2 hd f1 f2 ho hu r1 r2 q1 q2;cases r1 with
   | ref a=>simp[W.flat] at f1
   | scr a=>simp[W.flat] at f1
   | non=>simp[W.ord] at ho
   | bl b=>simp[W.ord] at ho
   | str b=>simp[W.ord] at ho
   | int a=>
     cases r2 with
     | int b=>
       obtain⟨t,rfl⟩:=q1;obtain⟨t',rfl⟩:=q2;rw[W.lt];exact λprog w E Q h=>HT.rcLt_int A s a t b t' prog w E Q h
     | _=>simp[W.ord] at ho
   | @tup a ws xs h r=>
     cases r2 with
     | @tup b us ys h2 r2=>
       cases (show u1=Value.ref _ from q1);cases (show u2=Value.ref _ from q2);obtain⟨its,rv,p,_⟩:=aH.tupH I h;obtain⟨its2,rv2,p2,_⟩:=aH.tupH I h2;have g1:W.flats ws=true:=by simpa[W.flat] using f1
       have g2:W.flats us=true:=by simpa[W.flat] using f2
       have ho':W.ords ws us=true:=by simpa[W.ord] using ho
       have hd':W.deps ws<n:=by simp only[W.dep] at hd;(clear hu;lia)
       have hui:A.in1.units+n<cLine:=by show A.units+1+n<cLine;(clear hd hd';lia)
       rw[W.lt];exact rF.tuples p p2 (by (clear hd hd' hui;lia)) (wk I n A.in1 (λh1 h2 h3 h4=>ih A.in1 h1 h2 h3 h4 hui) hui hd' g1 g2 ho' r r2 rv rv2)
     | _=>simp[W.ord] at ho
end
section
variable {X:Cx}
noncomputable def wm:W2:=λx y G q=>match x,y with
 | .int i,.int j=>q (.bl (decide (i<j))) G
 | .tup xs,.tup ys=>W.flats xs=true/\W.flats ys=true/\W.deps xs<=149/\W.ords xs ys=true/\q (.bl (W.lts xs ys)) G
 | _,_=>False
theorem gf (hr:aw k X.A):fc X (compareOp .Lt) wm:=by
 rintro π s σ H x y v u Q I rx ry ⟨wx,wy,G,q,r1,r2,g,h,hQ⟩;unfold wm at h;split at h
 ·cases r1;cases r2;exact Bs π s σ H _ _ v u Q I rx ry ⟨_,_,rfl,rfl,hQ _ H _ G (aP.refl H) (.bl _) g h⟩
 ·rename_i xs ys;obtain⟨f1,f2,hd,ho,h⟩:=h;have z:=zX I 151 X.A (w1:= .tup xs) (w2:= .tup ys) (by simp only[W.dep];lia) (by simpa[W.flat] using f1) (by simpa[W.flat] using f2) (by simpa[W.ord] using ho) (by have:=hr.un;(clear hd;lia)) r1 r2 rx ry;rw[W.lt] at z;exact z X.prog X.w X.xe _ ⟨.bl _,H,I,rfl,hQ _ H _ G (aP.refl H) (.bl _) g h⟩
 ·exact h.elim
end
section
variable {X:Cx}
end
section
variable {X:Cx} {π:List (Addr×Obj)} {σ:St} {H:Hp} {s:Shared}
theorem EH (I:aH X π σ H s) {n:Nat} {ws us:List W} {xs ys:List V} {its its2:yez} (hd:W.deps ws<n) (g1:W.flats ws=true) (g2:W.flats us=true) (hu:A.in1.units+n<cLine) (r:aR X.K H ws xs) (r2:aR X.K H us ys) (rv:aT xs its) (rv2:aT ys its2):
 ∀j (h1:j<its.toArray.size) (h2:j<its2.toArray.size),SeqAt.EqAt A.in1 s its.toArray[j] its2.toArray[j] (ja ws us j):=λj j1 j2=>by
 have e1:its.length=ws.length:=by rw[←rv.length,r.length]
 have e2:its2.length=us.length:=by rw[←rv2.length,r2.length]
 rw[size_toArray] at j1 j2;have ea:ws[j]?=some ws[j]:=ycz (by (clear hd hu j2 e2;lia));have eb:us[j]?=some us[j]:=ycz (by lia);obtain⟨va,ea1,ra⟩:=r.get ea;obtain⟨vb,eb1,rb⟩:=r2.get eb;obtain⟨ua,ea2,qa⟩:=rv.get ea1;obtain⟨ub,eb2,qb⟩:=rv2.get eb1;have za:its.toArray[j]=ua:=by
  have:=(List.getElem?_eq_some_iff.mp ea2).2;simpa using this
 have zb:its2.toArray[j]=ub:=by
  have:=(List.getElem?_eq_some_iff.mp eb2).2;simpa using this
 rw[za,zb];have:=(fh I n A.in1 (w1:=ws[j]) (w2:=us[j]) (Nat.lt_of_le_of_lt (W.deps_get ea) hd) (W.flats_get g1 ea) (W.flats_get g2 eb) hu ra rb qa qb).1;unfold ja;rw[ea,eb];exact this
theorem kL {ws us:List W} (h:ws.length≠us.length):W.eqs ws us=false:=by
 cases e:W.eqs ws us with
 | false=>rfl
 | true=>exact absurd ((W.eqs_iff ws us).mp e).1 h
end
section
variable {X:Cx}
noncomputable def B4:W2:=λx y G q=>match x,y with
 | .ref a,.ref b=>∃xs ys,G a=some (.lst xs)/\G b=some (.lst ys)/\W.flats xs=true/\W.flats ys=true/\W.deps xs<=149/\q (.bl (W.eqs xs ys)) G
 | x,y=>v7 x y G q
noncomputable def B5:W2:=λx y G q=>match x,y with
 | .ref a,.ref b=>∃xs ys,G a=some (.lst xs)/\G b=some (.lst ys)/\W.flats xs=true/\W.flats ys=true/\W.deps xs<=149/\q (.bl (!(W.eqs xs ys))) G
 | x,y=>v9 x y G q
theorem B6 (hr:aw k X.A):fc X (compareOp .Eq) B4:=by
 rintro π s σ H x y v u Q I rx ry ⟨wx,wy,G,q,r1,r2,g,h,hQ⟩;unfold B4 at h;split at h
 ·obtain⟨ws,us,ea,eb,f1,f2,hd,h⟩:=h;cases r1;cases r2;cases rx;cases ry;obtain⟨_,xs,e1,ra⟩:=g _ _ ea;obtain⟨_,ys,e2,rb⟩:=g _ _ eb;obtain⟨its,rv,p,_⟩:=I.list (dE.of e1);obtain⟨its2,rv2,p2,_⟩:=I.list (dE.of e2);have l1:its.length=ws.length:=by rw[←rv.length,ra.length]
  have l2:its2.length=us.length:=by rw[←rv2.length,rb.length]
  have hu:=hr.un;have fin:EP X π σ Q (.bool (W.eqs ws us)) s:=⟨.bl _,H,I,rfl,hQ _ H _ G (aP.refl H) (.bl _) g h⟩
  by_cases hl:ws.length=us.length
  ·have c1:=SeqAt.RcAt.lists p.isList p2.isList (by rw[size_toArray,size_toArray,l1,l2,hl]) (A:=X.A) (by (clear hd l1 l2 hl;lia)) (EH I (n:=150) (by (clear l1 l2 hu hl;lia)) f1 f2 (by show X.A.units+1+150<cLine;(clear hd l1 l2 hl;lia)) ra rb rv rv2);have er:=fH ws us;rw[←hl,Nat.min_self,beq_self_eq_true,Bool.and_true] at er;rw[size_toArray,l1,er] at c1;exact c1 X.prog X.w X.xe _ fin
  ·rw[kL hl] at fin;exact SeqAt.RcAt.lists_lengths p.isList p2.isList (by rw[size_toArray,size_toArray,l1,l2];simpa using hl) (A:=X.A) (by (clear hd l1 l2 hl;lia)) X.prog X.w X.xe _ fin
 ·exact zN hr π s σ H x y v u Q I rx ry ⟨wx,wy,G,q,r1,r2,g,h,hQ⟩
theorem B7 (hr:aw k X.A):fc X (compareOp .NotEq) B5:=by
 rintro π s σ H x y v u Q I rx ry ⟨wx,wy,G,q,r1,r2,g,h,hQ⟩;unfold B5 at h;split at h
 ·obtain⟨ws,us,ea,eb,f1,f2,hd,h⟩:=h;cases r1;cases r2;cases rx;cases ry;obtain⟨_,xs,e1,ra⟩:=g _ _ ea;obtain⟨_,ys,e2,rb⟩:=g _ _ eb;obtain⟨its,rv,p,_⟩:=I.list (dE.of e1);obtain⟨its2,rv2,p2,_⟩:=I.list (dE.of e2);have l1:its.length=ws.length:=by rw[←rv.length,ra.length]
  have l2:its2.length=us.length:=by rw[←rv2.length,rb.length]
  have hu:=hr.un;have fin:EP X π σ Q (.bool (!(W.eqs ws us))) s:=⟨.bl _,H,I,rfl,hQ _ H _ G (aP.refl H) (.bl _) g h⟩
  by_cases hl:ws.length=us.length
  ·have c1:=SeqAt.RcNeAt.lists p.isList p2.isList (by rw[size_toArray,size_toArray,l1,l2,hl]) (A:=X.A) (by (clear hd l1 l2 hl;lia)) (EH I (n:=150) (by (clear l1 l2 hu hl;lia)) f1 f2 (by show X.A.units+1+150<cLine;(clear hd l1 l2 hl;lia)) ra rb rv rv2);have er:=fH ws us;rw[←hl,Nat.min_self,beq_self_eq_true,Bool.and_true] at er;rw[size_toArray,l1,er] at c1;exact c1 X.prog X.w X.xe _ fin
  ·rw[kL hl] at fin;exact SeqAt.RcNeAt.lists_lengths p.isList p2.isList (by rw[size_toArray,size_toArray,l1,l2];simpa using hl) (A:=X.A) (by (clear hd l1 l2 hl;lia)) X.prog X.w X.xe _ fin
 ·exact zO hr π s σ H x y v u Q I rx ry ⟨wx,wy,G,q,r1,r2,g,h,hQ⟩
end
structure HV (lo hi c:Int):Prop where
 c0:0<c
 c1:c<1000
 l0: -(2^40)<=lo
 l1:lo<2^40
 h0: -(2^40)<=hi
 h1:hi<2^40
section
variable {X:Cx} {tg:Expr}
end
section
variable {X:Cx}
noncomputable def EI (i j:Int):Prop:=i.natAbs<2^4000/\j.natAbs<2^4000
noncomputable def EJ (j:Int):Prop:=0<j/\j.natAbs<2^4000
noncomputable def pM (i j:Int):Prop:=vI i j∨EI i j
theorem pM.ok {i j:Int} (h:pM i j):IntMulOk i j:=by
 rcases h with h | ⟨h1,h2⟩
 ·exact h.ok
 ·have b1:=PyProof.Rows.intBits_le h1;have b2:=PyProof.Rows.intBits_le h2;unfold IntMulOk Builtin.Int.intTooBig;have:¬(((Builtin.Int.intBits i+Builtin.Int.intBits j:Int)) > bitsLine):=by
   have hb:(8000:Int)<=bitsLine:=by decide
   (clear h1 h2;lia)
  simp[this]
noncomputable def tS (i j:Int):Prop:=Br i j∨EJ j
theorem tT:gA X (binaryOp .FloorDiv) (rI tS λi j=> .int (i/j)):=DT λi j _ _ _ _ _ hc q=>by
 rcases hc with hc | ⟨h0,h1⟩
 ·have h1:(0:Int)<j:=hc.1;have h2:j<1073741824:=hc.2;exact floordiv_int (by lia) (by rw[Int.fdiv_eq_ediv_of_nonneg i (by lia)];exact q) (.inl (PyProof.noPylong_small (by lia)))
 ·refine floordiv_int (by (clear h1;lia)) (by rw[Int.fdiv_eq_ediv_of_nonneg i (by (clear h1;lia))];exact q) (.inl (PyProof.noPylong_of_log2 ?_));have hne:j.natAbs≠0:=by (clear h1;lia)
  exact ydw ((Nat.log2_lt hne).mpr h1) (by decide)
noncomputable abbrev B8:W2:=ro tS λi j=> .int (i/j)
theorem ck:fc X (binaryOp .FloorDiv) B8:=oC tT
end
section
variable {X:Cx}
end
structure gs (K:yav) (x qual:Str) (st:Stmt) (f:Addr) (fd:FuncData) (T:Addr) (ds:yez):Prop where
 ex:∃(oc:Value) (od:Option Addr) (kV doc pm:Value) (an:Option Addr) (cdv ct:Value) (osl:Array (Option Value)) (ot:Obj) (nt:Nat),
  fd=fnOf x qual (av st) (ao st) (ak st) (.ref T) kV doc pm an cdv ct/\K.lookup f=some ⟨oc,od,.func fd,osl⟩/\codeIn K cdv qual=true/\K.lookup T=some ot/\ot.data=.seq ds.toArray nt
 kp:keepIn K (.ref f)=true
section
variable {P:Program} {w:World} {K:yav} {mg:yew} {base:Heap} {x qual:Str} {st:Stmt} {f T:Addr} {fd:FuncData} {ds:yez}
theorem kM {oc:Value} {od an:Option Addr} {osl:Array (Option Value)} {kV doc pm cdv ct:Value} {ot:Obj} {nt:Nat} (l:K.lookup f=some ⟨oc,od,.func (fnOf x qual (av st) (ao st) (ak st) (.ref T) kV doc pm an cdv ct),osl⟩)
 (c:codeIn K cdv qual=true) (k:keepIn K (.ref f)=true) (t:K.lookup T=some ot) (h:ot.data=.seq ds.toArray nt):gs K x qual st f (fnOf x qual (av st) (ao st) (ak st) (.ref T) kV doc pm an cdv ct) T ds:=
 ⟨⟨oc,od,kV,doc,pm,an,cdv,ct,osl,ot,nt,rfl,l,c,t,h⟩,k⟩
theorem gs.binds {es:yez} (F:gs K x qual st f fd T ds)
 (h:∀(kV doc pm:Value) (an:Option Addr) (cdv ct:Value) (us:yez),(us++es).length=ps.length->∃k,bindArgs (fnOf x qual (av st) (ao st) (ak st) (.ref T) kV doc pm an cdv ct) ⟨us,[]⟩=seqItems? (.ref T) >>= k/\k (some ds.toArray)=pure (ps.zip (us++es))):bM K fd ps es:=by
 obtain⟨oc,od,kV,doc,pm,an,cdv,ct,osl,ot,nt,rfl,lk,hcd,ht,hd⟩:=F.ex;intro s us KX hl;obtain⟨k,h1,h2⟩:=h kV doc pm an cdv ct us hl;exact BindsTo.of_defaults (T:=T) rfl (KX _ _ ht) hd h1 h2
theorem B9 {N ps:List Str} {sp:bA} (F:gs K x qual st f fd T ds) (S:bg N ps (ak st)) (len:∀ws G q e,sp ws G q e->ws.length=ps.length)
 (hbody:∀(cdv:Value) (A:Around) (outer:List Env) (s:Shared) (H:Hp) (E:XK),aw k (A.deeper (envOfC qual (ak st) s.heap.objs.size f cdv))->
   ∃t,lH (cZ tq P w K mg base N qual (ak st) f cdv A outer s H E).nox (ao st) t/\
    ∀(ws:List W) (G:Gp) (q:WK) (e:WX),sp ws G q e->t { nx:=λ_ G1=>∃G0,aG G0 G1/\q .non G0,rt:=λw G1=>∃G0,aG G0 G1/\q w G0 } (ie N ws) G):cu P w K mg base (k+1) f fd ps sp:=by
 obtain⟨oc,od,kV,doc,pm,an,cdv,ct,osl,ot,nt,rfl,lk,hcd,ht,hd⟩:=F.ex;refine pD lk hcd S (λvs H Q E ⟨ws,G,q,e,r,g,z,_⟩=>by rw[←r.length];exact len _ _ _ _ z) (λA outer s H vs Q E hr ⟨ws,G,q,e,r,g,z,hQ,_⟩=>?_);obtain⟨t,ht,hq⟩:=hbody cdv A outer s H E hr;have ht':lF (cZ tq P w K mg base N qual (ak st) f cdv A outer s H E).nox (ao st) (LS K t):=ht;exact⟨_,ht'.nox,_,G,_,bh.start r,g,hq ws G q e z,⟨λσ1 H1 τ1 G1 t1 s1 g1 ⟨G0,l,q1⟩=>hQ .non H1 .non G0 t1 .non (g1.le l) q1,λv H1 w G1 t1 r1 g1 ⟨G0,l,q1⟩=>hQ v H1 w G0 t1 r1 (g1.le l) q1,λ_ _ _ _ _ _ _ z=>z.elim,λ_ _ _ _ _ _ _ z=>z.elim⟩⟩
noncomputable def Ca (P:Program) (w:World) (K:yav) (mg:yew) (base:Heap) (x:Str) (ps:List Str) (k:Nat) (sp:bA) (dws:List W):Prop:=
 ∃(f:Addr) (fd:FuncData) (ds:yez) (dvs:List V),cu P w K mg base k f fd ps sp/\mg x=some (.ref f)/\keepIn K (.ref f)=true/\bM K fd ps ds/\aT dvs ds/\∀H,aR K H dws dvs
noncomputable def wn (K:yav) (mg:yew) (x:Str) (st:Stmt) (ps:List Str) (dws:List W):Prop:=
 ∃(f:Addr) (fd:FuncData) (T:Addr) (ds:yez) (dvs:List V),gs K x x st f fd T ds/\bM K fd ps []/\bM K fd ps ds/\mg x=some (.ref f)/\aT dvs ds/\∀H,aR K H dws dvs
theorem wn.fx {sp:bA} {dws:List W} (D:wn K mg x st ps dws) (h:∀(f:Addr) (fd:FuncData) (T:Addr) (ds:yez),gs K x x st f fd T ds->cu P w K mg base k f fd ps sp):Fx P w K mg base x ps k sp:=by
 obtain⟨f,fd,T,ds,dvs,F,b,b',m,_,_⟩:=D;exact⟨f,fd,h f fd T ds F,m,F.kp,b⟩
theorem wn.fxd {sp:bA} {dws:List W} (D:wn K mg x st ps dws) (h:∀(f:Addr) (fd:FuncData) (T:Addr) (ds:yez),gs K x x st f fd T ds->cu P w K mg base k f fd ps sp):Ca P w K mg base x ps k sp dws:=by
 obtain⟨f,fd,T,ds,dvs,F,b,b',m,v,r⟩:=D;exact⟨f,fd,ds,dvs,h f fd T ds F,m,F.kp,b',v,r⟩
end
section
variable {X:Cx}
theorem aB {sp:bA} {p pos:Pos} {t:WA} (F:Fx X.prog X.w X.K X.mg X.base x ps k sp) (hr:aw k X.A) (hg:Gl X x) (ha:QA X (e::es) t) (_hn:(e::es).length=ps.length:=by rfl) (hdb:(x==("__debug__":Str))=false:=by decide)
 (he:starEach (e::es) X.env=(false,eval e X.env)::starEach es X.env:=by rfl) (hpl:(backTo pos (starEach es X.env)).any (·.1)=false:=by rfl):QE X (.Call (.Name x p) (e::es) [] pos) (iA sp [] t):=B3 F hr hg ha hdb he hpl
theorem kN {sp:bA} {dws:List W} {p pos:Pos} {t:WA} (F:Ca X.prog X.w X.K X.mg X.base x ps k sp dws) (hr:aw k X.A) (hg:Gl X x) (ha:QA X (e::es) t) (_hn:(e::es).length+dws.length=ps.length:=by rfl) (hdb:(x==("__debug__":Str))=false:=by decide)
 (he:starEach (e::es) X.env=(false,eval e X.env)::starEach es X.env:=by rfl) (hpl:(backTo pos (starEach es X.env)).any (·.1)=false:=by rfl):QE X (.Call (.Name x p) (e::es) [] pos) (iA sp dws t):=by
 obtain⟨f,fd,ds,dvs,h1,h2,h3,h4,h5,h6⟩:=F;exact(kF h1 hr hg h2 h3 h4 h5 jT ha hdb he hpl).imp λ_ _ _ h=>h.call h6
noncomputable def tU:WS:=λ_ _ _=>False
theorem mo:QS X st tU:=λ_ _ _ _ _ _ ⟨_,_,_,_,_,z,_⟩=>z.elim
end
variable {X:Cx}
noncomputable def tV:List W->Gp->WK->Prop:=λws G q=>match ws with
 | [.int i,.int j]=>q (.int (if j > i then j else i)) G
 | [.int i,.int j,.int k]=>q (.int (if j > i then (if k > j then k else j) else if k > i then k else i)) G
 | [.ref a]=>∃ns:List Int,G a=some (.lst (ns.map W.int))/\ns≠[]/\∀m:Int,m∈ns->(∀x,x∈ns->x<=m)->q (.int m) G
 | _=>False
theorem kO (hc:X.calm=true):d4 X (.builtin "max") tV:=by
 rintro π s σ H xs us Q I r ⟨ws,G,q,rw',g,h,hQ⟩;unfold tV at h;split at h
 ·obtain⟨v,u,rfl,r1,r2⟩:=rw'.two;cases r1;cases r2;exact qV hc π s σ H _ us Q I r ⟨_,_,rfl,hQ _ H _ G (aP.refl H) (.int _) g h⟩
 ·rename_i i j k;cases rw' with
  | cons r1 rw'=>
    cases rw' with
    | cons r2 rw'=>
      cases rw' with
      | cons r3 rw'=>
        cases rw';cases r1;cases r2;cases r3;cases r with
        | cons a1 r=>
          cases r with
          | cons a2 r=>
            cases r with
            | cons a3 r=>
              cases r;obtain⟨t1,rfl⟩:=a1;obtain⟨t2,rfl⟩:=a2;obtain⟨t3,rfl⟩:=a3;refine max_three_ints (I.ok.hd hc) λh' tk k'=>⟨.int (if j > i then (if k > j then k else j) else if k > i then k else i),H,I.kept k',?_,hQ _ H _ G (aP.refl H) (.int _) g h⟩
              by_cases h1:j > i
              ·by_cases h2:k > j
               ·rw[ycv h1,ycv h2,ycv h1,ycv h2];exact⟨_,rfl⟩
               ·rw[ycv h1,ycw h2,ycv h1,ycw h2];exact⟨_,rfl⟩
              ·by_cases h2:k > i
               ·rw[ycw h1,ycv h2,ycw h1,ycv h2];exact⟨_,rfl⟩
               ·rw[ycw h1,ycw h2,ycw h1,ycw h2];exact⟨_,rfl⟩
 ·rename_i a;obtain⟨ns,e,hne,h⟩:=h;obtain⟨v,rfl,r1⟩:=rw'.one;cases r1;obtain⟨_,zs,e1,rr⟩:=g a _ e;obtain rfl:=rr.ints_of;obtain⟨u,rfl,ru⟩:=dZ r;cases (show u=Value.ref a from ru);obtain⟨its,rv,p,hz⟩:=I.list (dE.of e1);have hi:IntsAre its ns:=L2.intsAre_of rv;obtain⟨ys,ey⟩:=hi.allInts.items;have hn:(ys.toList.map (·.1))=ns:=by rw[←nums_intItems,←ey,←hi.numsOf]
  have hl:s.heap.IsList a (intItems ys):=by rw[←ey];exact p.isList
  have hsz:ys.size=ns.length:=by rw[←hn];simp
  have hpos:0<ys.size:=by
   rw[hsz];exact List.length_pos_iff.mpr hne
  refine max_intList (I.ok.hd hc) hl hpos λv h' tk hv hk=>?_;have ab:=argBest_gt (numAt ys) (ys.size-1);generalize argBest (λi j=>decide (numAt ys i > numAt ys j)) (ys.size-1)=ix at hv ab;have hix:ix<ys.size:=by (clear hz hv;lia)
  have hna:∀j (hj:j<ys.size),numAt ys j=ns[j]'(by (clear hz hpos hv ab hix;lia)):=λj hj=>by
   unfold numAt;rw[Array.getElem?_eq_getElem hj];simp[←hn]
  have hv2:v=Value.int (ys[ix].1) (ys[ix].2):=by
   unfold intItems at hv;rw[Array.getElem?_map,Array.getElem?_eq_getElem hix] at hv;simpa using hv.symm
  have hm:ys[ix].1=ns[ix]'(by (clear hz hpos hv ab hv2;lia)):=by
   have:=hna ix hix;unfold numAt at this;rw[Array.getElem?_eq_getElem hix] at this;simpa using this
  rw[hm] at hv2;subst hv2;refine⟨.int _,H,I.kept hk,⟨_,rfl⟩,hQ _ H _ G (aP.refl H) (.int _) g (h _ (getElem_mem _) λx hx=>?_)⟩;obtain⟨j,hj,rfl⟩:=List.mem_iff_getElem.mp hx;have:=ab.2 j (by (clear hz ab hm hv;lia));rw[hna j (by (clear hz hpos ab hm hv this;lia)),hna ix hix] at this;exact this
 ·exact h.elim
theorem dC {i:Int} {t:Tok} (hg:Gl X x) (hm:X.mg x=some (.int i t)) (hd:(x==("__debug__":Str))=false:=by decide):QE X (.Name x pos) (wC (.int i)):=eE (kC (v:= .int i) hg hm ⟨t,rfl⟩ hd) λ_=> .int i
end L2
namespace L2
open PySem PySem.Spec PyProof.Rows
theorem XC.of {C:Addr} (q:excIn K C bmV "ValueError.__new__"=true):∃bm,XC K C bm:=by
 unfold excIn at q;cases lk:List.lookup C K with
 | none=>rw[lk] at q;exact dg q
 | some o=>
   rw[lk] at q;obtain⟨cls,d1,data,⟨ls⟩⟩:=o;cases cls with
   | type s=>
     by_cases hs:s="type"
     ·subst hs;cases data with
      | cls cl=>
        obtain⟨nm,bs,mro,ns,qn,hd,sn,sb,ab,co,del⟩:=cl;rcases mro with _ | ⟨v,tl⟩
        ·exact dg q
        cases v with
        | ref C2=>
          rcases ls with _ | ⟨j0,_ | ⟨j1,_ | ⟨j2,_ | ⟨j3,_ | ⟨(_ | j4),r⟩⟩⟩⟩⟩
          any_goals first | exact dg q | skip
          cases j4 with
          | builtin id=>
            rcases r with _ | ⟨j5,_ | _⟩
            any_goals first | exact dg q | skip
            replace q:(C2==C&&id=="ValueError.__new__"&&!del&&W.tailIn K bmV tl&&W.nsOkIn K ns&&W.nsIn K ns (Str.ofString "__init__")==some none)=true:=q
            simp only[beq_iff_eq,Bool.not_eq_true',Bool.and_eq_true] at q;obtain⟨⟨⟨⟨⟨e1,e2⟩,e3⟩,e4⟩,e5⟩,e6⟩:=q;subst e1 e2;subst e3;refine⟨tl,λh X=>⟨ns,nm,qn,bs,hd,sn,sb,ab,co,d1,j0,j1,j2,j3,j5,_,X _ _ lk,.of_isNs (PySem.W.isNs_of_in X e5),PySem.W.nsMap_none_of_in X e5 e6,PySem.W.tail_of_in X e4⟩,λv=>?_⟩;unfold mroIn clsIn;rw[lk]
            rfl
          | _=>exact dg q
        | _=>exact dg q
      | _=>exact dg q
     ·delta PySem.W.excIn.match_6 at q
      change (dite (s="type") _ _:Bool)=true at q;rw[dif_neg hs] at q;exact dg q
   | _=>exact dg q
theorem XC.has {C:Addr} (x:XC K C bm) {h:Heap} (X:K.In h) {t:String} {b:Bool} (hb:bmV.contains (.type t)=b):(Value.ref C::bm).contains (.type t)=b:=by
 obtain⟨_,_,_,_,_,_,_,_,_,_,_,_,_,_,_,_,_,_,_,T⟩:=x.obj h X;rw[List.contains_cons,T.hasType hb]
 rfl
section
variable {M:Model} {A:Around} {E:yey} {K:yav} {C D a:Addr} {bm bmD:yez} {oe:Obj}
theorem jW {Q:Bool->Shared->Prop} {b:Bool} (X:K.In s.heap) (hC:XC K C bm) (hD:XC K D bmD) (he:s.heap.get? a=some oe) (hcls:oe.cls=.ref C) (hs:mroIn K C (.ref D)=some b) (hq:Q b s):
 wpAny M A (excMatches (.ref a) (.ref D)) Q E s:=by
 obtain⟨h,g,d,t,os⟩:=s;have hb:=hD.has X (t:="BaseException") (b:=true) rfl;have hcd:(Value.ref C::bm).contains (.ref D)=b:=by
  have:=(hC.mro (.ref D)).symm.trans hs;exact Option.some.inj this
 obtain⟨N1,n1,q1,b1,d1,s1,u1,a1,c1,f1,g0,g1,g2,g3,g5,m1,gC,_,_,_⟩:=hC.obj h X;obtain⟨N2,n2,q2,b2,d2,s2,u2,a2,c2,f2,l0,l1,l2,l3,l5,m2,gD,_,_,_⟩:=hD.obj h X;have nt:=tc_notTuple;unfold excMatches
 repeat (first | (with_reducible refine wpAny_loadPart_at he ?_;rw[hcls]) | with_reducible refine wpAny_loadPart_at gD ?_ | (with_reducible refine wpAny_isSubtype_exc gD ?_;rw[hb]) | (with_reducible refine wpAny_isSubtype_exc gC ?_;rw[hcd]) | wp_step)
 cases b with
 | true=>wp_walk;exact hq
 | false=>wp_walk;exact hq
end
theorem gz.none_of {H:Hp} {h:Heap} (x:gz P w H h) (e:h.get? a=none):H a=none:=by
 cases q:H a with
 | none=>rfl
 | some o=>
   have y:=x a o q;cases o with
   | lst xs=>obtain⟨_,_,_,_,z⟩:=y;rw[e] at z;cases z
   | tup xs=>obtain⟨_,_,_,p,z,_⟩:=y;rw[e] at z;cases z
   | dK kvs=>obtain⟨_,_,_,_,o,_,_,z,_⟩:=y;rw[e] at z;cases z
   | dT kvs=>obtain⟨_,_,_,_,o,_,_,z,_⟩:=y;rw[e] at z;cases z
   | set S n=>obtain⟨o,_,_,_,z,_⟩:=y;rw[e] at z;cases z
   | ins C dx fs=>obtain⟨_,_,_,z,_⟩:=y;rw[e] at z;cases z
   | own y2=>obtain⟨_,z⟩:=y;rw[e] at z;cases z
   | xd fs=>obtain⟨_,⟨_,_,_,z,_⟩,_⟩:=y;rw[e] at z;cases z
   | rng lo hi=>obtain⟨_,_,_,z⟩:=y;rw[e] at z;cases z
   | frz ob u=>obtain⟨z,_⟩:=y;rw[e] at z;cases z
   | tbl ps=>have z:h.get? a=some _:=y;rw[e] at z;cases z
   | met f y2=>have z:h.get? a=some _:=y;rw[e] at z;cases z
   | ext φ=>obtain⟨_,⟨_,z⟩,_⟩:=y;rw[e] at z;cases z
theorem fo {h B:Heap} {m:List Addr}:∀{l:List Env},h.FunFrames B l->(∀b∈eP l,b∈m)->h.FunFrames (hideAll h m) l
 | [],_,_=>trivial
 | env::r,⟨e0,⟨L,o,e1,_,e3,e4⟩,e5⟩,hm=>
   have hl:eP (env::r)=L::eP r:=by unfold eP;rw[filterMap_cons,e1]
   ⟨e0,⟨L,o,e1,hideAll_none m (hm L (by rw[hl];exact .head _)),e3,e4⟩,fo e5 λb hb=>hm b (by rw[hl];exact .tail _ hb)⟩
structure Fl (P:Program) (w:World) (fs:List Addr) (H H':Hp) (h0 h:Heap) (a T:Addr) (c fl:Value):Prop where
 un:Un fs [] H H' h0 h
 hok:gz P w H' h
 na:h0.get? a=none
 nT:h0.get? T=none
 ha:H' a=none
 hT:H' T=none
 tr:∃oe vs oT ts a0,h.get? a=some oe/\(oe.cls=c/\vs[0]?=some a0)/\oe.data=.fields vs/\vs[1]?=some (.ref T)/\T≠a/\h.get? T=some oT/\oT.data=.fields ts/\ts[3]?=some fl
section
variable {P:Program} {w:World} {fs:List Addr} {H H':Hp} {h0 h h':Heap} {a T:Addr} {c fl fl':Value}
theorem Fl.traced (F:Fl P w fs H H' h0 h a T c fl):∃a0,h.TracedAtW (hideAll h (a::T::fs)) a c a0 fl:=by
 obtain⟨oe,vs,oT,ts,a0,e1,e2,e3,e4,e5,e6,e7,e8⟩:=F.tr;exact⟨a0,oe,vs,T,oT,ts,e1,e2,e3,e4,hideAll_none _ (.tail _ (.head _)),e5,e6,e7,e8⟩
theorem Fl.move {a0:Value} (F:Fl P w fs H H' h0 h a T c fl) (hfs:∀b∈fs,H' b=none/\∃o,h.get? b=some o/\∀vs,o.data≠ .fields vs)
 (k1:(hideAll h (a::T::fs)).StaysIn h') (k3:h'.TracedAtW (hideAll h (a::T::fs)) a c a0 fl') (k4:h.UpToSlots h'):∃T',Fl P w fs H H' h0 h' a T' c fl':=by
 have keep:∀b o,b≠a->b≠T->b∉fs->h.get? b=some o->h'.get? b=some o:=λb o n1 n2 n3 e=>k1 b o (hideAll_get _ e (by simp[n1,n2,n3]));have slot:∀b o,b∈fs->h.get? b=some o->∃sl,h'.get? b=some { o with slots:=sl }:=λb o hb e=>by
  obtain⟨_,o2,e2,d2⟩:=hfs b hb;rw[e] at e2;cases e2;exact k4 b o e d2
 obtain⟨oe,vs,T',oT,ts,q1,q2,q3,q4,q5,q6,q7,q8,q9⟩:=k3;have hT':T'=T∨h.get? T'=none:=by
  by_cases z:T'=T
  ·exact .inl z
  ·refine .inr ?_;cases e:h.get? T' with
   | none=>rfl
   | some o=>
     by_cases zf:T'∈fs
     ·obtain⟨_,o2,e2,d2⟩:=hfs T' zf;obtain⟨sl,e3⟩:=k4 T' o2 e2 d2;rw[q7] at e3;cases e3;exact absurd q8 (d2 ts)
     ·rw[hideAll_get _ e (by simp[z,zf,q6])] at q5;cases q5
 have back:∀b,h.get? b=none->h0.get? b=none:=λb e=>by
  cases q:h0.get? b with
  | none=>rfl
  | some o=>
    obtain⟨o',e'⟩:=F.un.there b o q (by simp);rw[e] at e';cases e'
 refine⟨T',⟨⟨λb o q n hb hx=>?_,λb o q n hb hx=>?_,F.un.free,λb o q hx=>?_,F.un.tups,F.un.frzs,F.un.tbls⟩,λb u e=>?_,F.na,?_,F.ha,?_,⟨oe,vs,oT,ts,a0,q1,q2,q3,q4,q6,q7,q8,q9⟩⟩⟩
 ·exact keep b o (λz=>by rw[z,F.na] at q;cases q) (λz=>by rw[z,F.nT] at q;cases q) hb (F.un.keep b o q n hb hx)
 ·obtain⟨sl,e1⟩:=F.un.slot b o q n hb hx;obtain⟨sl2,e2⟩:=slot b _ hb e1;exact⟨sl2,e2⟩
 ·obtain⟨o1,e1⟩:=F.un.there b o q hx
  by_cases hb:b∈fs
  ·obtain⟨sl,e2⟩:=slot b o1 hb e1;exact⟨_,e2⟩
  ·exact⟨o1,keep b o1 (λz=>by rw[z,F.na] at q;cases q) (λz=>by rw[z,F.nT] at q;cases q) hb e1⟩
 ·have nn:∀x v,H' x=some v->x≠a/\x≠T/\x∉fs:=λx v e=>⟨λz=>(by rw[z,F.ha] at e;cases e),λz=>(by rw[z,F.hT] at e;cases e),λz=>(by rw[(hfs x z).1] at e;cases e)⟩;refine(F.hok b u e).stay (λx v hc q=>?_) (λ_ q=>q) λ_ _ q=>q;rcases hc with hc | hc
  ·obtain⟨z1,z2,z3⟩:=nn b u e;rw[hc] at q ⊢;exact keep b v z1 z2 z3 q
  ·obtain⟨z1,z2,z3⟩:=nn x _ hc;exact keep x v z1 z2 z3 q
 ·rcases hT' with z | z
  ·rw[z];exact F.nT
  ·exact back T' z
 ·rcases hT' with z | z
  ·rw[z];exact F.hT
  ·exact F.hok.none_of z
end
noncomputable def kP (P:Program) (w:World):q0:=λouter H s E e s'=>∃a T C H',e=.ref a/\s'.os=s.os/\AllBare s'.gens/\Fl P w (eP outer) H H' s.heap s'.heap a T (.ref C) .none/\E (.ref C) none H'
noncomputable abbrev jG (P:Program) (w:World) (K:yav) (mg:yew) (base:Heap) (k:Nat) (f:Addr) (fd:FuncData) (ps:List Str) (sp:bA):Prop:=gj P w K mg base (kP P w) k f fd ps (vp K sp)
section
variable {P:Program} {w:World} {K:yav} {mg:yew} {base:Heap} {N:List Str} {qual:Str} {scope:Scope} {f:Addr} {cdv:Value} {A:Around} {outer:List Env} {s:Shared} {H:Hp} {E:XK}
theorem zY {σ:St} {H2:Hp} {s2:Shared} {h':Heap} {e C:Addr} {vs:yez} (I:aH (cZ (kP P w) P w K mg base N qual scope f cdv A outer s H E) π σ H2 s2)
 (mx:Heap.MadeExcOf s2.heap h' e (.ref C) vs) (hE:E (.ref C) none H2):(cZ (kP P w) P w K mg base N qual scope f cdv A outer s H E).xe (.ref e) { s2 with heap:=h' }:=by
 have ST:=I.stack;have SF:=I.stkFree;refine wpAny_leaves_madeW (base:=hideAll s2.heap (eP (envOfC qual scope s.heap.objs.size f cdv::outer))) (h:=s2.heap) (L:=s.heap.objs.size) I.ok.frames rfl (λb o q=>of_hideAll _ q) (fo ST λ_ z=>z) mx λh3 t fly _ _ ups=>?_;obtain⟨k1,_,_,k3⟩:=fly;obtain⟨oe,ws,T,oT,ts,q1,q2,q3,q4,q5,q6,q7,q8,q9⟩:=k3;have keep:∀b o,b∉eP (envOfC qual scope s.heap.objs.size f cdv::outer)->s2.heap.get? b=some o->h3.get? b=some o:=λb o hb q=>k1 b o (hideAll_get _ q hb);have slot:∀b o,b∈eP (envOfC qual scope s.heap.objs.size f cdv::outer)->s2.heap.get? b=some o->(∃sl,h3.get? b=some { o with slots:=sl })/\∀vs,o.data≠ .fields vs:=λb o hb q=>by
  obtain⟨_,o2,e2,d2⟩:=ST.mem hb;rw[q] at e2;cases e2;exact⟨ups b o (mx.keeps b o q) d2,d2⟩
 have nL:∀b o,s.heap.get? b=some o->b∉eP outer->b∉eP (envOfC qual scope s.heap.objs.size f cdv::outer):=λb o q hb z=>by
  rcases mem_cons.mp (show b∈s.heap.objs.size::eP outer from z) with z | z
  ·exact absurd (ybv q) (by rw[z];exact lt_irrefl _)
  ·exact hb z
 have back:∀b,s2.heap.get? b=none->s.heap.get? b=none:=λb q=>by
  cases z:s.heap.get? b with
  | none=>rfl
  | some o=>
    obtain⟨o',e'⟩:=I.base.there b o z (by intro y;cases y);rw[q] at e';cases e'
 have nT:s2.heap.get? T=none:=by
  cases z:s2.heap.get? T with
  | none=>rfl
  | some o=>
    by_cases zf:T∈eP (envOfC qual scope s.heap.objs.size f cdv::outer)
    ·obtain⟨⟨sl,e3⟩,d2⟩:=slot T o zf z;rw[q7] at e3;cases e3;exact absurd q8 (d2 ts)
    ·rw[hideAll_get _ z zf] at q5;cases q5
 refine⟨e,T,C,H2,rfl,I.os,I.bare,⟨⟨λb o q n hb hx=>?_,λb o q n hb hx=>?_,λb o q n hx=>I.base.free b o q n (by intro y;cases y),λb o q hx=>?_,I.base.tups,I.base.frzs,I.base.tbls⟩,λb u q=>?_,back e mx.new,back T nT,I.hok.none_of mx.new,I.hok.none_of nT,
  ⟨oe,ws,oT,ts,_,q1,q2,q3,q4,q6,q7,q8,q9⟩⟩,hE⟩
 ·exact keep b o (nL b o q hb) (I.base.keep b o q n hb (by intro y;cases y))
 ·obtain⟨sl,e1⟩:=I.base.slot b o q n hb (by intro y;cases y);obtain⟨⟨sl2,e2⟩,_⟩:=slot b _ (ybx _ hb) e1;exact⟨sl2,e2⟩
 ·obtain⟨o1,e1⟩:=I.base.there b o q (by intro y;cases y)
  by_cases hb:b∈eP (envOfC qual scope s.heap.objs.size f cdv::outer)
  ·obtain⟨⟨sl,e2⟩,_⟩:=slot b o1 hb e1;exact⟨_,e2⟩
  ·exact⟨o1,keep b o1 hb e1⟩
 ·have nn:∀x v,H2 x=some v->x∉eP (envOfC qual scope s.heap.objs.size f cdv::outer):=λx v q z=>by rw[SF x z] at q;cases q
  refine(I.hok b u q).stay (λx v hc q2=>?_) (λ_ q=>q) λ_ _ q=>q;rcases hc with hc | hc
  ·rw[hc] at q2 ⊢;exact keep b v (nn b u q) q2
  ·exact keep x v (nn x _ hc) q2
noncomputable def tW (C:Addr) (e:WX):WS:=λ_ _ G=>e (.ref C) G
theorem du {x msg:Str} {C:Addr} {e:WX} {np cpos pos p1:Pos} {j} (hm:mg x=some (.ref C)) (hC:XC K C bm) (hE:∀H1 G1,aP H H1->aO K H1 G1->e (.ref C) G1->E (.ref C) none H1)
 (hg:Gl (cZ (kP P w) P w K mg base N qual scope f cdv A outer s H E) x) (hd:(x==("__debug__":Str))=false:=by decide):
 QS (cZ (kP P w) P w K mg base N qual scope f cdv A outer s H E) (.Raise (some (.Call (.Name x np) [.Constant (.str msg) j p1] [] cpos)) none pos) (tW C e):=by
 rintro π s2 σ H2 D I ⟨τ,G,d,hs,hgG,ht,l⟩;obtain⟨N1,n1,q1,b1,d1,s1,u1,a1,c1,f1,g0,g1,g2,g3,g5,m1,gC,gN,gi,gT⟩:=hC.obj _ I.ok.mod.kin;refine wpAny_Raise_call_subT (C:=C) (nm:=n1) (q:=q1) (N:=N1) (bs:=b1) (bm:=bm) (hdct:=d1) (sn:=s1) (sub:=u1) (ab:=a1) (col:=c1) (dd:=f1) (k0:=g0) (k1:=g1) (k2:=g2) (k3:=g3) (k5:=g5) PySem.F.excBase_ValueError (mN:=m1) (gT.hasType rfl) (I.ok.hd rfl) rfl gi
  (dY I hg hm ⟨rfl,?_⟩ hd)
 have ha:=(dn (X:=cZ (kP P w) P w K mg base N qual scope f cdv A outer s H E) (n6 (x:=msg) (j:=j) (pos:=p1)) pa_nil) cpos π s2 σ H2 (λvs H'=>vs.length=1/\H'=H2) I ⟨rfl,rfl⟩;refine Calls.evalArgs_plain (wpAny_mono ha (λus s3 h3=>?_) λ_ _ y=>y);obtain⟨vs,H3,I3,rv,hl,rfl⟩:=h3;refine⟨rfl,?_,I3.bk _ _ gC,gN.keeps I3.bk,gT.keeps I3.bk,λh' a mx=>zY I3 mx (hE _ G ⟨I3.base.tups,λb o u q=>I3.base.frzs b o _ q⟩ hgG ht)⟩;show us.length<=sizeLine;rw[←rv.length,hl];decide
end
theorem jH {x qual:Str} {f:Addr} {N ps:List Str} {sp:bA} (F:cq K x qual st f fd) (S:bg N ps (ak st)) (len:∀ws G q e,sp ws G q e->ws.length=ps.length)
 (hbody:∀(cdv:Value) (A:Around) (outer:List Env) (s:Shared) (H:Hp) (E:XK) (ws:List W) (G:Gp) (q:WK) (e:WX),aw k (A.deeper (envOfC qual (ak st) s.heap.objs.size f cdv))->sp ws G q e->(∀c H1 G1,aP H H1->aO K H1 G1->e c G1->E c none H1)->
   ∃t,lH (cZ (kP P w) P w K mg base N qual (ak st) f cdv A outer s H E) (ao st) t/\t { nx:=λ_ G1=>∃G0,aG G0 G1/\q .non G0,rt:=λw G1=>∃G0,aG G0 G1/\q w G0 } (ie N ws) G):jG P w K mg base (k+1) f fd ps sp:=by
 obtain⟨oc,od,kV,doc,pm,an,cdv,ct,osl,rfl,lk,hcd⟩:=F.ex;refine pD lk hcd S (λvs H Q E ⟨ws,G,q,e,r,g,z,_⟩=>by rw[←r.length];exact len _ _ _ _ z) (λA outer s H vs Q E hr ⟨ws,G,q,e,r,g,z,hQ,hX⟩=>?_);obtain⟨t,ht,hq⟩:=hbody cdv A outer s H E ws G q e hr z λc H1 G1 t1 g1 z1=>hX c none H1 G1 t1 g1 z1;exact⟨_,ht,_,G,_,bh.start r,g,hq,⟨λσ1 H1 τ1 G1 t1 s1 g1 ⟨G0,l,q1⟩=>hQ .non H1 .non G0 t1 .non (g1.le l) q1,λv H1 w G1 t1 r1 g1 ⟨G0,l,q1⟩=>hQ v H1 w G0 t1 r1 (g1.le l) q1,λ_ _ _ _ _ _ _ z=>z.elim,λ_ _ _ _ _ _ _ z=>z.elim⟩⟩
theorem Cb {x qual:Str} {f T:Addr} {ds:yez} {N ps:List Str} {sp:bA} (F:gs K x qual st f fd T ds) (S:bg N ps (ak st)) (len:∀ws G q e,sp ws G q e->ws.length=ps.length)
 (hbody:∀(cdv:Value) (A:Around) (outer:List Env) (s:Shared) (H:Hp) (E:XK) (ws:List W) (G:Gp) (q:WK) (e:WX),aw k (A.deeper (envOfC qual (ak st) s.heap.objs.size f cdv))->sp ws G q e->(∀c H1 G1,aP H H1->aO K H1 G1->e c G1->E c none H1)->
   ∃t,lH (cZ (kP P w) P w K mg base N qual (ak st) f cdv A outer s H E) (ao st) t/\t { nx:=λ_ G1=>∃G0,aG G0 G1/\q .non G0,rt:=λw G1=>∃G0,aG G0 G1/\q w G0 } (ie N ws) G):jG P w K mg base (k+1) f fd ps sp:=by
 obtain⟨oc,od,kV,doc,pm,an,cdv,ct,osl,ot,nt,rfl,lk,hcd,ht,hd⟩:=F.ex;refine pD lk hcd S (λvs H Q E ⟨ws,G,q,e,r,g,z,_⟩=>by rw[←r.length];exact len _ _ _ _ z) (λA outer s H vs Q E hr ⟨ws,G,q,e,r,g,z,hQ,hX⟩=>?_);obtain⟨t,ht,hq⟩:=hbody cdv A outer s H E ws G q e hr z λc H1 G1 t1 g1 z1=>hX c none H1 G1 t1 g1 z1;exact⟨_,ht,_,G,_,bh.start r,g,hq,⟨λσ1 H1 τ1 G1 t1 s1 g1 ⟨G0,l,q1⟩=>hQ .non H1 .non G0 t1 .non (g1.le l) q1,λv H1 w G1 t1 r1 g1 ⟨G0,l,q1⟩=>hQ v H1 w G0 t1 r1 (g1.le l) q1,λ_ _ _ _ _ _ _ z=>z.elim,λ_ _ _ _ _ _ _ z=>z.elim⟩⟩
noncomputable def Rx (P:Program) (w:World) (K:yav) (mg:yew) (base:Heap) (x:Str) (ps:List Str) (k:Nat) (sp:bA) (dws:List W):Prop:=
 ∃(f:Addr) (fd:FuncData) (ds:yez) (dvs:List V),jG P w K mg base k f fd ps sp/\mg x=some (.ref f)/\keepIn K (.ref f)=true/\bM K fd ps ds/\aT dvs ds/\∀H,aR K H dws dvs
noncomputable abbrev Cx.xmk (X:Cx) (a:Addr) (oe:Obj):Cx:={ X with A:=X.A.mark (some (.ref a)),calm:=false,xe:=λ_ _=>False,pn:=(a,oe)::X.pn }
section
variable {X:Cx} {π:List (Addr×Obj)} {σ:St} {H:Hp} {s:Shared} {a:Addr} {oe:Obj}
theorem aH.xmk (I:aH X π σ H s) (e:s.heap.get? a=some oe) (n:H a=none) (hl:a≠X.env.locals) (hf:a∉X.fs) (hd:∀v,oe.data≠ .cell v):aH (X.xmk a oe) π σ H s:=
 ⟨⟨I.ok.mod,I.ok.kind,I.ok.glob,I.ok.blt,I.ok.above,I.ok.inj,I.ok.has,I.ok.cab,λz=>(ydx z).elim,I.ok.frames,I.ok.stk,I.ok.exf,I.ok.bs,I.ok.bsz,I.ok.noex,I.ok.exfs,I.ok.funs,I.ok.frf⟩,I.os,I.bare,I.base,I.loc,I.cell,I.free,I.freeC,
   λp hp=>by
    rcases mem_cons.mp (show p∈(a,oe)::(X.pn++π) from hp) with z | z
    ·rw[z];exact⟨e,n,hl,hf,hd⟩
    ·exact I.pin p z,I.hok,I.len⟩
theorem aH.unx (I:aH (X.xmk a oe) π σ H s) (hh:X.calm=true->X.A.handled=none):aH X π σ H s:=
 ⟨⟨I.ok.mod,I.ok.kind,I.ok.glob,I.ok.blt,I.ok.above,I.ok.inj,I.ok.has,I.ok.cab,hh,I.ok.frames,I.ok.stk,I.ok.exf,I.ok.bs,I.ok.bsz,I.ok.noex,I.ok.exfs,I.ok.funs,I.ok.frf⟩,I.os,I.bare,I.base,I.loc,I.cell,I.free,I.freeC,
   λp hp=>I.pin p (ybx _ hp),I.hok,I.len⟩
theorem SP.unx {D:fe} {f:Flow} {s':Shared} (h:SP (X.xmk a oe) π D f s') (hh:X.calm=true->X.A.handled=none):SP X π D f s':=by
 cases f with
 | next=>obtain⟨σ',H',I,q⟩:=h;exact⟨σ',H',I.unx hh,q⟩
 | brk=>obtain⟨σ',H',I,q⟩:=h;exact⟨σ',H',I.unx hh,q⟩
 | cont=>obtain⟨σ',H',I,q⟩:=h;exact⟨σ',H',I.unx hh,q⟩
 | ret u=>obtain⟨v,σ',H',I,r,q⟩:=h;exact⟨v,σ',H',I.unx hh,r,q⟩
end
noncomputable def QH (X:Cx) (C:Addr) (hs:List ExceptHandler) (th:WS):Prop:=
 ∀(π:List (Addr×Obj)) (s0:Shared) (σ:St) (H0:Hp) (s:Shared) (H:Hp) (a T:Addr) (D:fe),aH X π σ H0 s0->Fl X.prog X.w (eP X.stack) H0 H s0.heap s.heap a T (.ref C) .none->s.os=s0.os->AllBare s.gens->LS X.K th D σ H->
  wpAny (model X.prog X.w) X.A (handleBy (.ref a) X.env hs) (SP X π D) X.xe s
section
variable {X:Cx} {π:List (Addr×Obj)} {σ:St} {H0 H:Hp} {s0 s:Shared} {a T:Addr} {c fl:Value}
theorem Fl.inv (F:Fl X.prog X.w (eP X.stack) H0 H s0.heap s.heap a T c fl) (I:aH X π σ H0 s0) (os:s.os=s0.os) (bare:AllBare s.gens):aH X π σ H s:=I.call' (ch:=[]) os F.un F.hok bare λb z=>absurd z (by simp)
theorem aH.frmem (I:aH X π σ H s):∀b∈eP X.stack,H b=none/\∃o,s.heap.get? b=some o/\∀vs,o.data≠ .fields vs:=λb hb=>⟨I.stkFree b hb,(I.stack.mem hb).2⟩
theorem Fl.there (F:Fl X.prog X.w (eP X.stack) H0 H s0.heap s.heap a T c fl) (I:aH X π σ H0 s0):∃oe,s.heap.get? a=some oe/\oe.cls=c/\H a=none/\a≠X.env.locals/\a∉X.fs/\∀v,oe.data≠ .cell v:=by
 obtain⟨oe,vs,oT,ts,a0,e1,e2,e3,_⟩:=F.tr;refine⟨oe,e1,e2.1,F.ha,λz=>?_,λz=>?_,λv z=>by rw[e3] at z;cases z⟩
 ·obtain⟨m,⟨o,_,_,ho,_⟩,_⟩:=I.loc;rw[←z,F.na] at ho;cases ho
 ·obtain⟨_,o,ho,_⟩:=I.funs.mem z;rw[F.na] at ho;cases ho
theorem Fl.lands {M:Model} {Q:Unit->Shared->Prop} (F:Fl X.prog X.w (eP X.stack) H0 H s0.heap s.heap a T c fl) (I:aH X π σ H0 s0) (os:s.os=s0.os) (bare:AllBare s.gens)
 (h:∀h' T',Fl X.prog X.w (eP X.stack) H0 H s0.heap h' a T' c .none->Q () { s with heap:=h' }):wpAny M A (setFlight (.ref a) none) Q E s:=by
 have I1:=F.inv I os bare;obtain⟨a0,tr⟩:=F.traced;refine wpAny_setFlight_noneW (base:=hideAll s.heap (a::T::eP X.stack)) (λb o q=>of_hideAll _ q) (fo I1.stack λb z=> .tail _ (.tail _ z)) tr λh' k1 _ k3 k4=>?_;obtain⟨T',F'⟩:=F.move I1.frmem k1 k3 λb o e n=>⟨o.slots,k4 b o e n⟩;exact h h' T' F'
variable {C D:Addr} {bm bmD:yez} {x:Str} {p pos:Pos} {name:Option Str} {body:List Stmt} {rest:List ExceptHandler} {b0:Stmt} {th:WS}
theorem wo (hm:X.mg x=some (.ref D)) (hg:Gl X x) (hC:XC X.K C bm) (hD:XC X.K D bmD) (hs:mroIn X.K C (.ref D)=some true) (hb:∀a oe,oe.cls=.ref C->lH (X.xmk a oe) (b0::body) th) (hd:(x==("__debug__":Str))=false:=by decide):
 QH X C (.ExceptHandler (some (.Name x p)) none (b0::body) pos::rest) th:=by
 intro π s0 σ H0 s H a T D' I0 F os bare hLS;have I:=F.inv I0 os bare;obtain⟨oe,e1,e2,e3,e4,e5,e6⟩:=F.there I0;refine wpAny_handleBy_cons (codeAny_handlers_test (dY (X:=X.xmk a oe) (I.xmk e1 e3 e4 e5 e6) hg hm ?_ hd)) (by intro q;cases q);refine jW I.kIn hC hD e1 e2 hs ?_;refine codeAny_handlers_suite (F.lands I0 os bare λh' T' F'=>?_);have I':=Fl.inv (s:={ s with heap:=h' }) F' I0 os bare;obtain⟨oe',q1,q2,q3,q4,q5,q6⟩:=Fl.there (s:={ s with heap:=h' }) F' I0;exact wpAny_mono (hb a oe' q2 π _ σ H D' (I'.xmk q1 q3 q4 q5 q6) hLS) (λf s2 z=>z.unx I0.ok.hd) λ_ _ z=>z.elim
theorem fI {M:Model} {Q:Unit->Shared->Prop} {n:Str} (I:aH X π σ H s) (hN:X.N.Nodup) (hi:X.N[i]?=some n) (hl:X.env.scope.names.lookup n=some .local)
 (h:∀s',aH X π (σ.set i none) H s'->Q () s'):wpAny M A (do bindName X.env n .none;unbindBehindTheSuite X.env n pos) Q E s:=by
 obtain⟨m,hn,hlk⟩:=id I.loc;obtain⟨oL,_,_,hoL,_⟩:=id hn;refine wpAny_nameGoes_keeps hl hn (by rw[I.ok.kind];rfl) λh' v hn' hs=>h _ ?_;have ne0:∀b o,X.s₀.heap.get? b=some o->b≠X.env.locals:=λb o e=>ne_of_lt (ydw (ybv e) I.ok.above);refine⟨I.ok,I.os,I.bare,⟨λb o e n hb hx=>?_,λb o e n hb hx=>?_,I.base.free,λb o e hx=>?_,I.base.tups,I.base.frzs,I.base.tbls⟩,⟨_,hn',λj y v' e1 e2 e3=>?_⟩,λy c e=>?_,I.free,I.freeC,λp hp=>?_,λb ob e=>?_,by simpa using I.len⟩
 ·exact(hs.2 b (ne0 b o e)).trans (I.base.keep b o e n hb hx)
 ·obtain⟨sl,z⟩:=I.base.slot b o e n hb hx;exact⟨sl,(hs.2 b (ne0 b o e)).trans z⟩
 ·obtain⟨o',z⟩:=I.base.there b o e hx;exact⟨o',(hs.2 b (ne0 b o e)).trans z⟩
 ·have hj:j≠i:=λz=>by
   subst z
   by_cases hjl:j<σ.length
   ·rw[List.getElem?_set_self hjl] at e2;cases e2
   ·rw[List.getElem?_eq_none (by simpa using hjl)] at e2;cases e2
  rw[List.getElem?_set_ne (Ne.symm hj)] at e2;obtain⟨u',r',q⟩:=hlk j y v' e1 e2 e3;refine⟨u',r',?_⟩;rcases q with⟨k,e⟩ | ⟨k,c,e,z⟩
  ·refine .inl ⟨k,?_⟩;have:y≠n:=λe=>hj (iW hN e1 (e▸hi));simp[this,e]
  ·exact .inr ⟨k,c,e,z.sameBut hs (I.cne y c e)⟩
 ·obtain⟨w',z⟩:=I.cell y c e;exact⟨w',z.sameBut hs (I.cne y c e)⟩
 ·obtain⟨e,n,ne,nf,d⟩:=I.pin p hp;exact⟨(hs.2 p.1 ne).trans e,n,ne,nf,d⟩
 ·refine(I.hok b ob e).stay (λx w' hc q=>(hs.2 x ?_).trans q) (λ_ q=>q) λ_ _ q=>q;intro z;rcases hc with hc | hc
  ·rw[←hc,z,I.free] at e;cases e
  ·rw[z,I.free] at hc;cases hc
theorem bh.drop {H:Hp} {τ:dF} {σ:St} (h:bh K H τ σ) (i:Nat):bh K H (τ.set i none) (σ.set i none):=by
 refine⟨by simpa using h.1,λj u e=>?_⟩
 by_cases hj:i=j
 ·subst hj
  by_cases hl:i<τ.length
  ·rw[List.getElem?_set_self hl] at e;cases e
  ·rw[List.getElem?_eq_none (by simpa using hl)] at e;cases e
 ·rw[List.getElem?_set_ne hj] at e;obtain⟨u',e1,r1⟩:=h.2 j u e;exact⟨u',by rw[List.getElem?_set_ne hj];exact e1,r1⟩
end
section
variable {X:Cx} {a:Addr} {oe:Obj} {C D:Addr} {bm bmD:yez}
theorem kQ {x y:V} (r:aT [x,y] us):∃u v,us=[u,v]/\bn x u/\bn y v:=by
 cases r with
 | cons r1 r=>
   cases r with
   | cons r2 r=>cases r;exact⟨_,_,rfl,r1,r2⟩
end
theorem XC.self {C:Addr} (x:XC K C bm):mroIn K C (.ref C)=some true:=by rw[x.mro];simp
section
variable {prog:Program} {w:World} {A:Around} {R:Result->Shared->Prop} {I:Addr} {fp wr:List Addr} {n:Nat} {P:Nat->Value->Prop} {St:Nat->Heap->Prop} {kw:List (Str×Value)}
theorem rG (a d:Value):argsOk "max" ⟨[a],[("default",d)]⟩:=by unfold argsOk;kernel_rfl
theorem Cc (W:Walks prog w A.in1 I fp wr n P St) (bt:Nat->Nat->Bool) (hcmp:CmpOf prog w A.in1 .Gt P bt) (S:Addr) (hSf:S∉fp):
 ∀(k j:Nat) (s:Shared) (vb:Value) (c:Nat),n- (j+1)=k->j+1<=n->St (j+1) s.heap->P (argBest bt j) vb->s.heap.get? S=some { cls:= .type "list",dict:=none,data:= .seq #[vb,vb] c,slots:= #[] }->
  (∀v h' tk,P (argBest bt (n-1)) v->(∀b o,b∉wr->b≠S->s.heap.get? b=some o->h'.get? b=some o)->R (.ok (.ret v)) { s with heap:=h',toks:=tk })->
  codeAny (model prog w) A (.builtin "max.loop" ⟨[.ref I,.none,.ref S],kw⟩) R s:=by
 have nw:S∉wr:=λz=>hSf (W.sub _ z);have nm:(toString "max"++toString ".loop":String)="max.loop":=by decide
 intro k
 induction k with
 | zero=>
   intro j s vb c hk hj hst hb hS hR;have hin:j+1=n:=by lia
   refine(codeAny_builtin F.entry_max_loop ?_);rw[Around.under_plainId F.plain_max_loop _];show wpAny _ A.in1 (seqItems? (Value.ref S) >>= _) _ _ s;refine wax (wpAny_seqItems hS rfl (?_:wpAny _ A.in1 (tryCatch (pyNext (.ref I)) _ >>= _) _ _ s));refine wax (wpAny_tryCatch (W.done s _ _ (hin▸hst) λh1 tk k1=>(?_:wpAny _ A.in1 (updateSeq S (λ_=> #[]) >>= _) _ _ _)));refine wax (wpAny_updateSeq (k1 S _ nw hS) rfl (wax (wpAny_letGo (wpAny_pure ?_))));exact hR vb _ tk (by rw[←hin];exact hb) λb o n1 n2 e=>(Heap.get?_update_other _ _ (Ne.symm n2)).trans (k1 b o n1 e)
 | succ k ih=>
   intro j s vb c hk hj hst hb hS hR;have hlt:j+1<n:=by lia
   refine(codeAny_builtin F.entry_max_loop ?_);rw[Around.under_plainId F.plain_max_loop _];show wpAny _ A.in1 (seqItems? (Value.ref S) >>= _) _ _ s;refine wax (wpAny_seqItems hS rfl (?_:wpAny _ A.in1 (tryCatch (pyNext (.ref I)) _ >>= _) _ _ s));refine wax (wpAny_tryCatch (W.item (j+1) s _ _ hlt hst λv h1 tk hP hst1 k1=>(?_:wpAny _ A.in1 (tryCatch (holding [v,v] (richCompare .Gt v vb >>= _)) _ >>= _) _ _ _)));have hS1:=k1 S _ nw hS;refine wax (wpAny_tryCatch (wpAny_holding (wax (hcmp (j+1) (argBest bt j) v vb _ _ _ hP hb (wax (wpAny_holding (wpAny_truthy_bool (wax (wpAny_letGo (wpAny_pure ?_))))))))));cases e0:bt (j+1) (argBest bt j) with
   | true=>
     simp only[if_true];refine wax (wpAny_updateSeq hS1 rfl (wax (wpAny_letGo ?_)));rw[nm];refine wpAny_pure ⟨plainId_quiet F.plain_max_loop _,ih (j+1) _ v _ (by (clear hj;lia)) hlt (W.frame _ _ _ hst1 λb hf o e=>?_) (by simp only[argBest,e0,if_true];exact hP) (Heap.get?_update_self _ hS1 rfl) λv2 h2 tk2 hP2 k2=>?_⟩
     ·exact(Heap.get?_update_other _ _ (λz:S=b=>hSf (by rw[z];exact hf))).trans e
     ·exact hR v2 h2 tk2 hP2 λb o n1 n2 e=>k2 b o n1 n2 ((Heap.get?_update_other _ _ (Ne.symm n2)).trans (k1 b o n1 e))
   | false=>
     simp only[if_false,Bool.false_eq_true];refine wax (wpAny_letGo ?_);rw[nm];refine wpAny_pure ⟨plainId_quiet F.plain_max_loop _,ih (j+1) _ vb c (by (clear hj;lia)) hlt hst1 (by simp only[argBest,e0,if_false,Bool.false_eq_true];exact hb) hS1 λv2 h2 tk2 hP2 k2=>?_⟩;exact hR v2 h2 tk2 hP2 λb o n1 n2 e=>k2 b o n1 n2 (k1 b o n1 e)
end
section
variable {prog:Program} {w:World} {A:Around} {E:yey} {s:Shared} {l:Addr} {xs:Array (Int×Tok)} {d:Value}
theorem rH (hh:A.handled=none) (hl:s.heap.IsList l (intItems xs))
 (h0:xs.size=0->∀h' tk,(∀b o,s.heap.get? b=some o->h'.get? b=some o)->Q d { s with heap:=h',toks:=tk })
 (h1:0<xs.size->∀v h' tk,(intItems xs)[argBest (λi j=>decide (numAt xs i > numAt xs j)) (xs.size-1)]?=some v->(∀b o,s.heap.get? b=some o->h'.get? b=some o)->Q v { s with heap:=h',toks:=tk }):
 wpAny (model prog w) A (call (.builtin "max") [.ref l] [("default",d)]) Q E s:=by
 have nm:(toString "max"++toString ".loop":String)="max.loop":=by decide
 have body:wpAny (model prog w) A.in1 (Builtin.«max» ⟨[.ref l],[("default",d)]⟩) (λfin s'=>match fin with
  | .done f=>(match (Except.ok f:Result) with | .ok (.ret v)=>Q v s' | .ok _=>False | .error e=>E e s')
  | .again c'=>c'.quiet=true/\codeAny (model prog w) A c' (λr s'=>match r with | .ok (.ret v)=>Q v s' | .ok _=>False | .error e=>E e s') s') E s:=by
  show wpAny _ A.in1 (Builtin.Builtins.bindParams "max" ["key","default"] 0 ⟨[],[("default",d)]⟩ >>= _) _ _ s;refine wax (wpAny_of_eq (show Builtin.Builtins.bindParams "max" ["key","default"] 0 ⟨[],[("default",d)]⟩=pure [none,some d] from rfl) (wax (wpAny_pure (wax (iter_intList hl λs2 e st hfp hlI=>?_)))));subst e;have Wk:=Walks.list (prog:=prog) (w:=w) (A:=A.in1) hh s.heap.objs.size l hlI (intItems xs);refine wax (wpAny_newObj_type ?_);rw[nm];have hSf:(s.heap.push { cls:= .type "list_iterator",data:= .fields #[.ref l,.int 0 0] }).objs.size∉[s.heap.objs.size,l]:=λz=>lt_irrefl _ (hfp _ z);have nw:(s.heap.push { cls:= .type "list_iterator",data:= .fields #[.ref l,.int 0 0] }).objs.size∉[s.heap.objs.size]:=λz=>hSf (Wk.sub _ z);have st1:=Wk.frame _ _ _ st λb _ o e=>ybz (h:=s.heap.push { cls:= .type "list_iterator",data:= .fields #[.ref l,.int 0 0] }) { cls:= .type "list",data:= .seq #[] } e;have hS:((s.heap.push { cls:= .type "list_iterator",data:= .fields #[.ref l,.int 0 0] }).push { cls:= .type "list",data:= .seq #[] }).get? (s.heap.push { cls:= .type "list_iterator",data:= .fields #[.ref l,.int 0 0] }).objs.size=some { cls:= .type "list",dict:=none,data:= .seq #[] 0,slots:= #[] }:=ybw _ rfl;have old:∀b o,s.heap.get? b=some o->b∉[s.heap.objs.size]/\b≠(s.heap.push { cls:= .type "list_iterator",data:= .fields #[.ref l,.int 0 0] }).objs.size/\((s.heap.push { cls:= .type "list_iterator",data:= .fields #[.ref l,.int 0 0] }).push { cls:= .type "list",data:= .seq #[] }).get? b=some o:=λb o e=>by
   have hb:=ybv e;refine⟨λz=>?_,λz=>?_,ybz _ (ybz _ e)⟩
   ·rw[mem_singleton.mp z] at hb;exact lt_irrefl _ hb
   ·rw[z,Heap.size_push] at hb;exact absurd hb (not_lt.mpr (le_succ _))
  refine wpAny_pure ⟨plainId_quiet F.plain_max_loop _,?_⟩;refine(codeAny_builtin F.entry_max_loop ?_);rw[Around.under_plainId F.plain_max_loop _];show wpAny _ A.in1 (seqItems? (Value.ref (s.heap.push { cls:= .type "list_iterator",data:= .fields #[.ref l,.int 0 0] }).objs.size) >>= _) _ _ _;refine wax (wpAny_seqItems hS rfl (?_:wpAny _ A.in1 (tryCatch (pyNext (.ref s.heap.objs.size)) _ >>= _) _ _ _));have hsz:(intItems xs).size=xs.size:=by simp[intItems]
  by_cases hz:xs.size=0
  ·refine wax (wpAny_tryCatch (Wk.done _ _ _ ((hsz.trans hz).symm▸st1) λh' tk k1=>?_));refine wax (wpAny_rule (wpAny_pure ?_));exact h0 hz h' tk λb o e=>k1 b o (old b o e).1 (old b o e).2.2
  ·have hp:0<xs.size:=Nat.pos_of_ne_zero hz;refine wax (wpAny_tryCatch (Wk.item 0 _ _ _ (by rw[hsz];exact hp) st1 λv h' tk hP hst' k1=>(?_:wpAny _ A.in1 (updateSeq (s.heap.push { cls:= .type "list_iterator",data:= .fields #[.ref l,.int 0 0] }).objs.size (λ_=> #[v,v]) >>= _) _ _ _)));have hS1:=k1 _ _ nw hS;refine wax (wpAny_updateSeq hS1 rfl ?_);rw[nm];refine wpAny_pure ⟨plainId_quiet F.plain_max_loop _,Cc Wk _ (CmpOf.ints_gt (numAt xs) λ_ _=>intItems_at) _ hSf _ 0 _ v _ rfl (by rw[hsz];exact hp) (Wk.frame _ _ _ hst' λb hf o e=>?_) hP (Heap.get?_update_self _ hS1 rfl) λv2 h2 tk2 hP2 k2=>?_⟩
   ·exact(Heap.get?_update_other _ _ (λz=>hSf (by rw[z];exact hf))).trans e
   ·refine h1 hp v2 h2 tk2 (by rw[←hsz];exact hP2) λb o e=>k2 b o (old b o e).1 (old b o e).2.1 ((Heap.get?_update_other _ _ (Ne.symm (old b o e).2.1)).trans (k1 b o (old b o e).1 (old b o e).2.2))
 have ha:=rG (.ref l) d;refine wpAny_call (codeAny_call_builtin F.plain_max F.entry_max ?_);simp only[F.kind_max,checkBuiltinCall];cases sg:Manifest.signature? "max" with
 | none=>exact wpAny_pure body
 | some sig=>
   simp only[argsOk,sg] at ha;show wpAny _ A.in1 (Bind.checkArgs "max" sig ⟨[.ref l],[("default",d)]⟩) _ _ s;rw[show Bind.checkArgs "max" sig ⟨[.ref l],[("default",d)]⟩=pure () from ha];exact wpAny_pure body
end
section
variable {X:Cx}
noncomputable def yv (te:WE) (d:Int):WE:=λτ G q=>te τ G λx G1=>match x with
 | .ref a=>∃ns:List Int,G1 a=some (.lst (ns.map W.int))/\(ns=[]->q (.int d) G1)/\∀m:Int,m∈ns->(∀x,x∈ns->x<=m)->q (.int m) G1
 | _=>False
theorem pN {te:WE} {d:Int} {j} {p pos kp cp:Pos} (hc:X.calm=true) (hg:Gl X "max") (hm:X.mg "max"=none) (he:QE X e te)
 (hs1:starEach [e] X.env=(false,eval e X.env)::starEach [] X.env:=by rfl) (hb1:backTo pos (starEach [e] X.env)=(false,eval e X.env)::backTo pos (starEach [] X.env):=by rfl) (hpl:(backTo pos (starEach [e] X.env)).any (·.1)=false:=by rfl):
 QE X (.Call (.Name "max" p) [e] [⟨some "default",.Constant (.int d) j cp,kp⟩] pos) (yv te d):=by
 rintro π s σ H Q I ⟨τ,G,q,hs,hgG,ht,hQ⟩;refine wpAny_Call_Name_kw (hV I hg hm mh ?_);have go:=(dn he pa_nil hs1) pos π s σ H (λvs H1=>∃v w G1,vs=[v]/\aP H H1/\cj X.K H1 w v/\aO X.K H1 G1/\(match w with
  | .ref a=>∃ns:List Int,G1 a=some (.lst (ns.map W.int))/\(ns=[]->q (.int d) G1)/\∀m:Int,m∈ns->(∀x,x∈ns->x<=m)->q (.int m) G1
  | _=>False)) I ⟨τ,G,_,hs,hgG,ht,λv H1 w G1 t1 r1 g1 q1=>⟨v,w,G1,rfl,t1,r1,g1,q1⟩⟩
 refine callWith_kw (ci go λus s1 ⟨vs,H1,I1,rv,v,w,G1,ev,t1,rw1,g1,hw⟩=>kws_cons ?_) hb1 hpl rfl rfl;subst ev;refine ci (sB (X:=X) (i:=d) (j:=j) (pos:=cp) π s1 σ H1 (λv H2=>v=.int d/\H2=H1) I1 ⟨rfl,rfl⟩) λu2 s2 ⟨v2,H2,I2,rv2,e1,e2⟩=>kws_nil ?_;subst e1 e2;obtain⟨td,rfl⟩:=rv2;show wpAny _ _ (call (.builtin "max") us [("default",.int d td)]) _ _ s2;split at hw
 ·rename_i a;obtain⟨ns,e,h0,h1⟩:=hw;cases rw1;obtain⟨_,zs,e1,rr⟩:=g1 a _ e;obtain rfl:=rr.ints_of;obtain⟨u,rfl,ru⟩:=dZ rv;cases (show u=Value.ref a from ru);obtain⟨its,ri,pl,hz⟩:=I2.list (dE.of e1);have hi:IntsAre its ns:=L2.intsAre_of ri;obtain⟨ys,ey⟩:=hi.allInts.items;have hn:(ys.toList.map (·.1))=ns:=by rw[←nums_intItems,←ey,←hi.numsOf]
  have hl:s2.heap.IsList a (intItems ys):=by rw[←ey];exact pl.isList
  have hsz:ys.size=ns.length:=by rw[←hn];simp
  refine rH (I2.ok.hd hc) hl (λhz h' tk hk=>⟨.int d,H2,I2.kept hk,⟨_,rfl⟩,hQ _ H2 _ G1 t1 (.int _) g1 (h0 ?_)⟩) λhpos v h' tk hv hk=>?_
  ·exact List.eq_nil_of_length_eq_zero (hsz.symm.trans hz)
  ·have ab:=argBest_gt (numAt ys) (ys.size-1);generalize argBest (λi j=>decide (numAt ys i > numAt ys j)) (ys.size-1)=ix at hv ab;have hix:ix<ys.size:=by (clear hz hv;lia)
   have hna:∀j (hj:j<ys.size),numAt ys j=ns[j]'(by (clear hz hpos hv ab hix;lia)):=λj hj=>by
    unfold numAt;rw[Array.getElem?_eq_getElem hj];simp[←hn]
   have hv2:v=Value.int (ys[ix].1) (ys[ix].2):=by
    unfold intItems at hv;rw[Array.getElem?_map,Array.getElem?_eq_getElem hix] at hv;simpa using hv.symm
   have hm:ys[ix].1=ns[ix]'(by (clear hz hpos hv ab hv2;lia)):=by
    have:=hna ix hix;unfold numAt at this;rw[Array.getElem?_eq_getElem hix] at this;simpa using this
   rw[hm] at hv2;subst hv2;refine⟨.int _,H2,I2.kept hk,⟨_,rfl⟩,hQ _ H2 _ G1 t1 (.int _) g1 (h1 _ (getElem_mem _) λx hx=>?_)⟩;obtain⟨j,hj,rfl⟩:=List.mem_iff_getElem.mp hx;have:=ab.2 j (by (clear hz ab hm hv;lia));rw[hna j (by (clear hz hpos ab hm hv this;lia)),hna ix hix] at this;exact this
 ·exact hw.elim
end
section
variable {P:Program} {w:World} {K:yav} {mg:yew} {base:Heap} {N:List Str} {qual:Str} {scope:Scope} {f:Addr} {cdv:Value} {A:Around} {outer:List Env} {s:Shared} {H:Hp} {E:XK}
theorem pO {E':XK} (hE:∀C H1,aP H H1->E' (.ref C) none H1->E (.ref C) none H1):eQ (kP P w) (cZ (kP P w) P w K mg base N qual scope f cdv A outer s H E) E':=by
 intro π σ H2 s2 e s3 I hx;obtain⟨a,T,C,H',rfl,os,bare,F,hw⟩:=hx;have I':=F.inv I os bare;obtain⟨a0,tr⟩:=F.traced;show wpAny _ _ (leaving (envOfC qual scope s.heap.objs.size f cdv) (.ref a)) _ _ s3;refine wpAny_leaving_nextW (base:=hideAll s3.heap (a::T::eP (envOfC qual scope s.heap.objs.size f cdv::outer))) (outer:=outer) (L:=s.heap.objs.size) I'.ok.frames (fo I'.stack λb z=> .tail _ (.tail _ z)) rfl tr (λb o q=>of_hideAll _ q) (hideAll_none _ (.head _)) λh3 left=>?_;obtain⟨k1,_,k3,k4⟩:=left;obtain⟨T',F'⟩:=F.move I'.frmem k1 k3 k4;have nL:∀b o,s.heap.get? b=some o->b∉eP outer->b∉eP (envOfC qual scope s.heap.objs.size f cdv::outer):=λb o q hb z=>by
  rcases mem_cons.mp (show b∈s.heap.objs.size::eP outer from z) with z | z
  ·exact absurd (ybv q) (by rw[z];exact lt_irrefl _)
  ·exact hb z
 have no:∀b:Addr,b∉(cZ (kP P w) P w K mg base N qual scope f cdv A outer s H E).ex:=λb y=>nomatch y;have back:∀b,s2.heap.get? b=none->s.heap.get? b=none:=λb q=>by
  cases z:s.heap.get? b with
  | none=>rfl
  | some o=>
    obtain⟨o',e'⟩:=I.base.there b o z (no b);rw[q] at e';cases e'
 have tl:aP H H':=⟨λb xs q=>F.un.tups b xs (I.base.tups b xs q),λb o u q=>F.un.frzs b o _ (I.base.frzs b o _ q)⟩;refine⟨a,T',C,H',rfl,os.trans I.os,bare,⟨⟨λb o q n hb hx=>?_,λb o q n hb hx=>?_,λb o q n hx=>?_,λb o q hx=>?_,λb xs q=>F.un.tups b xs (I.base.tups b xs q),λb o u q=>F.un.frzs b o u (I.base.frzs b o u q),λb ps q=>?_⟩,F'.hok,back a F'.na,back T' F'.nT,F'.ha,F'.hT,F'.tr⟩,hE C H' tl hw⟩
 ·exact F'.un.keep b o (I.base.keep b o q n hb (no b)) (I.base.free b o q n (no b)) (nL b o q hb) (by simp)
 ·obtain⟨sl,e1⟩:=I.base.slot b o q n hb (no b);obtain⟨sl2,e2⟩:=F'.un.slot b _ e1 (I.base.free b o q n (no b)) (ybx _ hb) (by simp);exact⟨sl2,e2⟩
 ·obtain⟨o',e'⟩:=I.base.there b o q (no b);exact F'.un.free b o' e' (I.base.free b o q n (no b)) (by simp)
 ·obtain⟨o',e'⟩:=I.base.there b o q (no b);exact F'.un.there b o' e' (by simp)
 ·obtain⟨m1,e1⟩:=I.base.tbls b ps q;obtain⟨m2,e2⟩:=F.un.tbls b _ e1;exact⟨m1++m2,by rw[e2,Array.append_assoc]⟩
noncomputable def tX (sp:bA) (dws:List W) (t:WA) (e:WX):WE:=λτ G q=>t τ G λws G1=>sp (ws++dws) G1 q e
theorem eI {sp:bA} {dws:List W} {p pos:Pos} {e0:Expr} {t:WA} {e:WX} (F:Rx P w K mg base x ps k sp dws) (hr:aw k (A.deeper (envOfC qual scope s.heap.objs.size f cdv)))
 (hE:∀c H1 G1,aP H H1->aO K H1 G1->e c G1->E c none H1) (hg:Gl (cZ (kP P w) P w K mg base N qual scope f cdv A outer s H E) x) (ha:QA (cZ (kP P w) P w K mg base N qual scope f cdv A outer s H E) (e0::es) t) (hdb:(x==("__debug__":Str))=false:=by decide)
 (he:starEach (e0::es) (envOfC qual scope s.heap.objs.size f cdv)=(false,eval e0 (envOfC qual scope s.heap.objs.size f cdv))::starEach es (envOfC qual scope s.heap.objs.size f cdv):=by rfl) (hpl:(backTo pos (starEach es (envOfC qual scope s.heap.objs.size f cdv))).any (·.1)=false:=by rfl):
 QE (cZ (kP P w) P w K mg base N qual scope f cdv A outer s H E) (.Call (.Name x p) (e0::es) [] pos) (tX sp dws t e):=by
 obtain⟨f1,fd,ds,dvs,F1,h2,h3,h4,h5,h6⟩:=F;refine(kF (X:=cZ (kP P w) P w K mg base N qual scope f cdv A outer s H E) (E:=λc _ H1=>∃G1,aO K H1 G1/\e c G1) F1 hr hg h2 h3 h4 h5 (pO λC H1 t1 z=>?_) ha hdb he hpl).imp λσ H2 Q h=>?_
 ·obtain⟨G1,g1,z1⟩:=z;exact hE _ H1 G1 t1 g1 z1
 ·obtain⟨τ,G,q,hs,hgG,ht,hQ⟩:=h;exact⟨τ,G,_,hs,hgG,ht,λvs H1 ws G1 t1 r1 g1 q1=>⟨ws++dws,G1,q,e,r1.append (h6 H1),g1,q1,λv H3 w G3 t3=>hQ v H3 w G3 (t1.trans t3),λc d H3 G3 _ g3 z=>⟨G3,g3,z⟩⟩⟩
end
section
variable {X:Cx} {π:List (Addr×Obj)} {σ:St} {H:Hp} {s:Shared}
theorem aH.big (I:aH X π σ H s):sysModules<s.heap.objs.size:=by
 have h:mainGlobals<s.heap.objs.size:=(I.mod.glob.keeps I.bk).lt;exact Nat.lt_trans (by decide) h
end
section
variable {prog:Program} {w:World} {A:Around} {E:yey} {s:Shared} {I l:Addr} {items:Array Value}
end
section
variable {X:Cx}
end
section
variable {X:Cx} {tg:Expr}
noncomputable def EK (i j:Int):Prop:=0<=j/\j<=1000/\i.natAbs<2^4000
noncomputable def tY (i j:Int):Prop:=zg i j∨EK i j
noncomputable abbrev Ce:W2:=ro tY λi j=> .int (i^j.toNat)
theorem wp:gA X (binaryOp .Pow) (rI tY λi j=> .int (i^j.toNat)):=DT λi j _ _ _ _ _ hc q=>by
 rcases hc with hc | ⟨h0,h1,h2⟩
 ·exact pow_int_small hc.1 hc.2.1 hc.2.2 q
 ·refine pow_int h0 ?_ q;have b1:=PyProof.Rows.intBits_le h2;have b2:(Builtin.Int.intBits i:Int)*j<=4000*1000:=Int.mul_le_mul (by (clear h0 h1 h2;lia)) h1 h0 (by decide);have hb:(4000000:Int)<=bitsLine:=by decide
  first | (clear h0 h1 h2 b1 hb;lia) | (simp[Builtin.Int.intTooBig];lia)
theorem dS:fc X (binaryOp .Pow) Ce:=oC wp
end
section
variable {X:Cx} {C:Addr} {th:WS} {x:Str} {p pos:Pos}
end
theorem jG.none {f:Addr} {sp:bA} (h:∀ws G q e,¬sp ws G q e):jG P w K mg base k f fd ps sp:=
 ⟨λ_ _ _ _ ⟨_,_,_,_,_,_,z,_⟩=>absurd z (h _ _ _ _),λ_ _ _ _ _ _ _ _ _ _ _ _ _ ⟨_,_,_,_,_,_,z,_⟩=>absurd z (h _ _ _ _)⟩
section
variable {X:Cx}
end
theorem ii:fillsNumberSlot (.type "tuple") "mul"=pure false:=
 PySem.fillsNumberSlot_seq (id:="tuple.__mul__") (r:=some (.builtin "tuple.__rmul__")) F.slot_tuple_mul.lookup (by decide+kernel) F.slot_tuple_rmul.lookup (by decide+kernel)
theorem kR:seqRepeat? (.type "tuple")=pure (some (.builtin "tuple.__mul__")):=by
 unfold seqRepeat?;rw[PySem.seqSlot_of (T:="tuple") (name:="__mul__") (id:="tuple.__mul__") F.slot_tuple_mul.lookup (by decide+kernel),PySem.seqSlot_of (T:="tuple") (name:="__rmul__") (id:="tuple.__rmul__") F.slot_tuple_rmul.lookup (by decide+kernel)]
 rfl
theorem jg (a:Int) (t:Tok) (l:Addr) (items:Array Value) (n:Nat) (dd:Option Addr) (sl:Array (Option Value)):
 Meets (Builtin.«int.__rmul__» ⟨[.int a t,.ref l],[]⟩) (λ_ R s=>s.heap.get? l=some { cls:= .type "tuple",dict:=dd,data:= .seq items n,slots:=sl }/\R (.ok (.ret Value.notImplemented)) s):=
 .of_wp λprog w A R s h=>by obtain⟨hp,g,d,tk,os⟩:=s;obtain⟨hl,h⟩:=h;wp_walk;exact⟨_,rfl,h⟩
theorem oI (l:Addr) (items:Array Value) (n:Nat) (dd:Option Addr) (sl:Array (Option Value)) (u:Tok):
 Meets (Builtin.«tuple.__mul__» ⟨[.ref l,.int 1 u],[]⟩) (λ_ R s=>s.heap.get? l=some { cls:= .type "tuple",dict:=dd,data:= .seq items n,slots:=sl }/\R (.ok (.ret (.ref l))) s):=
 .of_wp λprog w A R s h=>by
  obtain⟨hp,g,d,tk,os⟩:=s;obtain⟨hl,h⟩:=h
  wp_walk
  exact⟨_,rfl,h⟩
theorem oJ (l:Addr) (items:Array Value) (n:Nat) (dd:Option Addr) (sl:Array (Option Value)) (x:Int) (u:Tok) (h0:items.isEmpty=false) (h1:(x==1)=false) (h2:0<x) (hf:(decide (x< -(2^63))||decide (x≥2^63))=false) (hm:decide ((items.size:Int)*x > (2^63-1)/8)=false) (ht:Builtin.Tuple.tupleTooMany ((items.size:Int)*x)=false) (hsz:((List.replicate x.toNat items).foldl (·++ ·) #[]).size<=sizeLine):
 Meets (Builtin.«tuple.__mul__» ⟨[.ref l,.int x u],[]⟩) (λ_ R s=>s.heap.get? l=some { cls:= .type "tuple",dict:=dd,data:= .seq items n,slots:=sl }/\R (.ok (.ret (.ref s.heap.objs.size))) { s with heap:=s.heap.push { cls:= .type "tuple",data:= .seq ((List.replicate x.toNat items).foldl (·++ ·) #[]) } }):=
 .of_wp λprog w A R s h=>by
  obtain⟨hp,g,d,tk,os⟩:=s;obtain⟨hl,h⟩:=h;have c1:(items.isEmpty||x==1)=false:=by rw[h0,h1];rfl
  have c2:(decide (x<=0)||items.isEmpty)=false:=by rw[h0,ydy (by (clear hf hm hsz;lia))];rfl
  wp_walk
  refine wpAny_ite_false (by rw[hf];rfl) ?_
  wp_walk
  refine wpAny_ite_false hm ?_
  wp_walk
  exact⟨_,rfl,h⟩
theorem oK (l:Addr) (items:Array Value) (n:Nat) (dd:Option Addr) (sl:Array (Option Value)) (u:Tok) (h0:items.isEmpty=false):
 Meets (Builtin.«tuple.__mul__» ⟨[.ref l,.int 0 u],[]⟩) (λ_ R s=>s.heap.get? l=some { cls:= .type "tuple",dict:=dd,data:= .seq items n,slots:=sl }/\R (.ok (.ret (.ref s.heap.objs.size))) { s with heap:=s.heap.push { cls:= .type "tuple",data:= .seq #[] } }):=
 .of_wp λprog w A R s h=>by
  obtain⟨hp,g,d,tk,os⟩:=s;obtain⟨hl,h⟩:=h;have c1:(items.isEmpty||(0:Int)==1)=false:=by rw[h0];rfl
  wp_walk
  exact⟨_,rfl,h⟩
section
variable {X:Cx}
noncomputable def Cf (K:yav):R2:=λx y H Q=>∃a k xs,x=.ref a/\y=.int k/\dA K H a xs/\xs≠[]/\0<=k/\k<=100000/\xs.length*k.toNat<=sizeLine/\
 (k=1->Q (.ref a) H)/\(k≠1->∀p,H p=none->Q (.ref p) (upd H p (.tup (List.replicate k.toNat xs).flatten)))
theorem wq:gA X (binaryOp .Mult) (Cf X.K):=by
 intro π s σ H x y v u Q I rx ry h;obtain⟨a,k,xs,rfl,rfl,ha,hx,h0,h1,hz,q1,q2⟩:=h;cases rx;obtain⟨t,rfl⟩:=ry;obtain⟨its,r1,p1,_⟩:=I.tuple ha;have hl:=r1.length;obtain⟨⟨cls,dd,data,sl⟩,ho,hc,n,hd⟩:=id p1;simp only at hc hd;subst hc hd;have he:its.toArray.isEmpty=false:=by
  cases its with
  | nil=>exact absurd (r1.nil_iff.mp rfl) hx
  | cons _ _=>rfl
 refine wpAny_binaryOp_repeat_ref (T:="tuple") (U:="int") (by decide) ⟨_,ho,rfl⟩ (λs'=>typeIs_int s' k t) ii F.fills_int_mul F.slot_int_rmul kR F.slot_int_index.lookup
  (call_meets F.slot_int_rmul (typeIs_int s k t) F.entry_int_rmul (F.args_int_rmul_2 _ _) (jg k t a its.toArray n dd sl) ⟨ho,rfl,⟨_,ho,rfl⟩,?_⟩)
 by_cases hk1:k=1
 ·subst hk1;exact call_meets F.slot_tuple_mul ⟨_,ho,rfl⟩ F.entry_tuple_mul (F.args_tuple_mul_2 _ _) (oI a its.toArray n dd sl t) ⟨ho,⟨.ref a,H,I,rfl,q1 rfl⟩⟩
 ·by_cases hk0:k=0
  ·subst hk0;refine call_meets F.slot_tuple_mul ⟨_,ho,rfl⟩ F.entry_tuple_mul (F.args_tuple_mul_2 _ _) (oK a its.toArray n dd sl t he) ⟨ho,?_⟩;refine⟨.ref s.heap.objs.size,_,I.laid (t':=s.toks) (o:= .tup []) (λb ob q=>ybz _ q) (ycx _) ?_,rfl,q2 (by decide) _ (I.hok.fresh (ycx _))⟩;exact⟨zero_le _,[],.nil,IsTup.new _ _⟩
  ·have hsz:(its.toArray.size:Int)*k<=(sizeLine:Int):=by
    rw[size_toArray,←hl,←Int.toNat_of_nonneg h0]
    exact_mod_cast hz
   have hnew:List.foldl (λx1 x2=>x1++x2) #[] (List.replicate k.toNat its.toArray)=(List.replicate k.toNat its).flatten.toArray:=by
    have:=ia its k.toNat [];rw[nil_append] at this;exact this
   refine call_meets F.slot_tuple_mul ⟨_,ho,rfl⟩ F.entry_tuple_mul (F.args_tuple_mul_2 _ _) (oJ a its.toArray n dd sl k t he (by simpa using hk1) (by (clear hz hl hk1 hsz;lia)) ?_ ?_ ?_ ?_) ⟨ho,?_⟩
   ·rw[ydy (by (clear hz hl hk1 hk0 hsz;lia)),ydy (by (clear hz hl hk1 hk0 hsz;lia))];rfl
   ·refine ydy (Int.not_lt.mpr (ydv hsz ?_));decide
   ·unfold Builtin.Tuple.tupleTooMany;exact ydy (Int.not_lt.mpr hsz)
   ·rw[hnew,size_toArray,iL,Nat.mul_comm,←hl];exact hz
   ·rw[hnew];refine⟨.ref s.heap.objs.size,_,I.laid (t':=s.toks) (o:= .tup (List.replicate k.toNat xs).flatten) (λb ob q=>ybz _ q) (ycx _) ?_,rfl,q2 hk1 _ (I.hok.fresh (ycx _))⟩;exact⟨by rw[iL,Nat.mul_comm];exact hz,_,r1.rep k.toNat,IsTup.new _ _⟩
end
section
variable {X:Cx}
end
noncomputable abbrev wt:=Addr->dF->Gp->Prop
noncomputable def XP (X:Cx) (π:List (Addr×Obj)) (H:Hp) (ex:wt) (e:Value) (s':Shared):Prop:=
 ∃a T C H0 s0 σ H' τ G,e=.ref a/\aH X π σ H0 s0/\Fl X.prog X.w (eP X.stack) H0 H' s0.heap s'.heap a T (.ref C) .none/\s'.os=s0.os/\AllBare s'.gens/\aP H H'/\bh X.K H' τ σ/\aO X.K H' G/\ex C τ G
noncomputable def QY (X:Cx) (st:Stmt) (t:wt->WS):Prop:=
 ∀(ex:wt) (π:List (Addr×Obj)) (s:Shared) (σ:St) (H:Hp) (D:fe),aH X π σ H s->LS X.K (t ex) D σ H->wpAny (model X.prog X.w) X.A (exec st X.env) (SP X π D) (XP X π H ex) s
noncomputable def Gy (X:Cx) (st:List Stmt) (t:wt->WS):Prop:=
 ∀(ex:wt) (π:List (Addr×Obj)) (s:Shared) (σ:St) (H:Hp) (D:fe),aH X π σ H s->LS X.K (t ex) D σ H->wpAny (model X.prog X.w) X.A (execs st X.env) (SP X π D) (XP X π H ex) s
section
variable {X:Cx} {x:Str} {p pos:Pos}
theorem pP {t:wt->WS} (h:QY X st t):Gy X [st] t:=by
 intro ex π s σ H D I hl;refine wpAny_execs_cons (ci (h ex π s σ H D I hl) λf s1 q=>?_);cases f with
 | next=>exact wpAny_execs_nil q
 | ret v=>exact q
 | brk=>exact q
 | cont=>exact q
noncomputable def tZ (i:Nat) (sp:bA) (dws:List W) (t:WA):wt->WS:=λex d τ G=>t τ G λws G1=>sp (ws++dws) G1 (λv G2=>d.nx (τ.set i (some v)) G2) λc G2=>∀C,c=.ref C->ex C τ G2
theorem uc (i:Nat) {y:Str} {sp:bA} {dws:List W} {t:WA} {cpos epos ypos:Pos} (hnx:∀e s,¬X.xe e s)
 (hN:X.N.Nodup) (hi:X.N[i]?=some y) (hy:vz X.env.scope y)
 (F:Rx X.prog X.w X.K X.mg X.base x ps k sp dws) (hr:aw k X.A) (hg:Gl X x) (ha:QA X (e::es) t) (hdb:(x==("__debug__":Str))=false:=by decide)
 (he:starEach (e::es) X.env=(false,eval e X.env)::starEach es X.env:=by rfl) (hpl:(backTo cpos (starEach es X.env)).any (·.1)=false:=by rfl) (hsw:swapsWith (.Call (.Name x p) (e::es) [] cpos) (some (.Name y ypos)) epos.line X.env=pure false:=by rfl)
 (hf:X.fn y=true∨X.env.scope.names.lookup y=some .local:=by first | exact .inl rfl | exact .inr rfl | assumption):
 QY X (.Assign [.Name y ypos] (.Call (.Name x p) (e::es) [] cpos) epos) (tZ i sp dws t):=by
 rintro ex π s σ H D I ⟨τ,G,d,rs,rg,ht,l⟩;obtain⟨f,fd,ds,dvs,F,hm,hk,hb,hd,hrep⟩:=F;refine wpAny_Assign_Name (wpAny_Call_Name_kw (dY I hg hm ?_ hdb)) hsw;have go:=ha cpos π s σ H (λvs H1=>vp X.K sp (vs++dvs) H1 (λv H2=>D.nx (σ.set i (some v)) H2) λc _ H2=>∀C,c=.ref C->aP H H2/\∃G2,bh X.K H2 τ σ/\aO X.K H2 G2/\ex C τ G2) I ⟨τ,G,_,rs,rg,ht,λvs H1 ws G1 t1 r1 g1 q1=>
  ⟨ws++dws,G1,_,_,r1.append (hrep H1),g1,q1,λv H2 w G2 t2 r2 g2 q2=>l.nx _ H2 _ G2 (t1.trans t2) ((rs.mono (t1.trans t2)).set r2 i) g2 q2,
    λc dd H2 G2 t2 g2 q2 C ec=>⟨t1.trans t2,G2,rs.mono (t1.trans t2),g2,q2 C ec⟩⟩⟩
 refine callWith_K (h₀:=X.base) I.ok.mod.kin hk (wpAny_mono go (λus s1 h1=>?_) λe s1 z=>(hnx e s1 z).elim) he hpl;obtain⟨vs,H1,I1,r,q⟩:=h1;refine⟨I1.kIn,?_⟩;have r2:aT (vs++dvs) (us++ds):=r.append hd;have hl:(us++ds).length=ps.length:=by rw[←r2.length];exact F.len _ _ _ _ q
 refine wpAny_call (codeAny_mono (F.run X.A X.stack s1 H1 ⟨us,[]⟩ (us++ds) (vs++dvs) _ _ hr I1.env0 (hb s1 us I1.kIn hl) r2 q) λr s' hq=>?_);cases r with
 | ok fl=>
   cases fl with
   | ret u=>
     obtain⟨v,H',I',rv,q'⟩:=I1.after hq;exact gB I' hN hi hy rv (λs2 I2=>⟨_,H',I2,q'⟩) hf
   | next=>exact False.elim hq
   | brk=>exact False.elim hq
   | cont=>exact False.elim hq
 | error e=>
   obtain⟨a,T,C',H',rfl,os,bare,F1,hx⟩:=hq;obtain⟨tl,G2,rs2,rg2,hx⟩:=hx C' rfl;exact⟨a,T,C',H1,s1,σ,H',τ,G2,rfl,I1,F1,os,bare,tl,rs2,rg2,hx⟩
noncomputable def yw (t:wt->WS) (cs:List (Addr×WS)):WS:=λd τ G=>t (λC τ1 G1=>∃th,(C,th)∈cs/\th d τ1 G1) d τ G
theorem pQ {h0:ExceptHandler} {hs:List ExceptHandler} {t:wt->WS} {cs:List (Addr×WS)} (hst:X.stack=X.env::X.outer) (hfr:X.env.frame=some X.env.locals) (hb:Gy X body t) (hh:∀c,c∈cs->QH X c.1 (h0::hs) c.2):
 QS X (.Try body (h0::hs) [] [] pos) (yw t cs):=by
 rintro π s σ H D I ⟨τ,G,d,rs,rg,ht,l⟩;refine wpAny_Try_except (wpAny_mono (hb _ π s σ H D I ⟨τ,G,d,rs,rg,ht,l⟩) (λf s1 q=>?_) λe s' hx=>?_)
 ·cases f with
  | next=>exact wpAny_execs_nil q
  | ret v=>exact q
  | brk=>exact q
  | cont=>exact q
 ·obtain⟨a,T,C,H1,s1,σ1,H',τ1,G1,rfl,I1,F1,os,bare,tl,rs1,rg1,th,hc,hx⟩:=hx;have I':=F1.inv I1 os bare;obtain⟨a0,tr⟩:=F1.traced;refine wpAny_noteFrame_onW (base:=hideAll s'.heap (a::T::eP X.stack)) (outer:=X.outer) (by rw[←hst];exact I'.ok.frames) (by rw[←hst];exact fo I'.stack λb z=> .tail _ (.tail _ z)) hfr tr (λb o q=>of_hideAll _ q) (hideAll_none _ (.head _)) λh2 N2=>?_;obtain⟨k1,_,k3,k4⟩:=N2;obtain⟨T2,F2⟩:=F1.move I'.frmem k1 k3 k4;refine Fl.lands (s:={ s' with heap:=h2 }) F2 I1 os bare λh3 T3 F3=>?_;exact hh _ hc π s1 σ1 H1 { s' with heap:=h3 } H' a T3 D I1 F3 os bare ⟨τ1,G1,d,rs1,rg1,hx,l.mono tl⟩
theorem pR {hs:List ExceptHandler}:∀c:Addr×WS,c∈([]:List (Addr×WS))->QH X c.1 hs c.2:=λ_ h=>nomatch h
theorem gG {hs:List ExceptHandler} {C:Addr} {th:WS} {cs:List (Addr×WS)} (h1:QH X C hs th) (h2:∀c:Addr×WS,c∈cs->QH X c.1 hs c.2):∀c:Addr×WS,c∈(C,th)::cs->QH X c.1 hs c.2:=λc h=>by
 rcases mem_cons.mp h with z | z
 ·rw[z];exact h1
 ·exact h2 c z
end
section
variable {prog:Program} {w:World} {A:Around} {E:yey} {s:Shared}
end
section
variable {prog:Program} {w:World} {A:Around} {E:yey} {s:Shared}
end
mutual
noncomputable def W.ge:W->W->Bool
 | .int i,.int j=>decide (i≥j)
 | .tup xs,.tup ys=>W.ges xs ys
 | _,_=>false
noncomputable def W.ges:List W->List W->Bool
 | [],[]=>true
 | [],_::_=>false
 | _::_,[]=>true
 | x::xs,y::ys=>if W.eq x y=true then W.ges xs ys else W.ge x y
end
noncomputable def EL (A:Around) (s:Shared) (y x:Value) (b:Bool):Prop:=
 ∀(prog:Program) (w:World) (E:yey) (Q:yey),Q (.bool b) s->wpAny (model prog w) A (richCompare .GtE y x) Q E s
inductive rJ (A:Around) (s:Shared):List Value->List Value->Bool->Prop where
 | nn:rJ A s [] [] true
 | nc {y:Value} {ys:yez}:rJ A s [] (y::ys) false
 | cn {x:Value} {xs:yez}:rJ A s (x::xs) [] true
 | eq {x y:Value} {xs ys:yez} {r:Bool} (h:SeqAt.EqAt A s x y true) (t:rJ A s xs ys r):rJ A s (x::xs) (y::ys) r
 | ne {x y:Value} {xs ys:yez} {r:Bool} (h:SeqAt.EqAt A s x y false) (t:EL A s x y r):rJ A s (x::xs) (y::ys) r
section
open PySem.SeqAt
open PySem.AutoSeq1 (wpAny_loadPart')
open PySem.MeetsSeq PySem.MeetsSeq2 PySem.MeetsSeq3
end
section
variable {X:Cx} {π:List (Addr×Obj)} {σ:St} {H:Hp} {s:Shared}
end
section
variable {X:Cx}
noncomputable def EM:W2:=λx y G q=>match x,y with
 | .int i,.int j=>q (.bl (decide (i≥j))) G
 | .tup xs,.tup ys=>W.flats xs=true/\W.flats ys=true/\W.deps xs<=149/\W.ords xs ys=true/\q (.bl (W.ges xs ys)) G
 | _,_=>False
end
section
variable {X:Cx}
noncomputable def Cg (to te:WE):WE:=λτ G q=>to τ G λx G1=>match x with
 | .ref a=>(∃xs,G1 a=some (.lst xs))/\te τ G1 λy G2=>match y with
   | .ref b=>∃ys zs,G2 a=some (.lst ys)/\G2 b=some (.lst zs)/\ys.length+zs.length<=100000/\q .non (aQ G2 a (.lst (ys++zs)))
   | _=>False
 | _=>False
theorem zZ {o e:Expr} {to te:WE} {apos cpos:Pos} (ho:QE X o to) (he:QE X e te)
 (hbase:attributeBase o "extend" X.env (eval o X.env)=eval o X.env:=by rfl)
 (hfew:((backTo cpos (starEach [e] X.env)).all (λx=>!x.1)&&(backToKw cpos (keywordEach [] X.env)).all (λx=>x.1.isSome)
   &&decide (([e]:List Expr).length+([]:List Keyword).length+(if ([]:List Keyword).isEmpty then 0 else 1)<30))=true:=by rfl)
 (hline:(apos.endLine==cpos.line)=true:=by rfl) (hs:starEach [e] X.env=(false,eval e X.env)::starEach [] X.env:=by rfl):
 QE X (.Call (.Attribute o "extend" apos) [e] [] cpos) (Cg to te):=
 (tf PySem.F.plainAttrs_list PySem.F.slot_list_extend PySem.F.type_list_extend rh ho (dn he pa_nil hs) hbase hfew hline hs rfl).imp λσ H Q z0=>z0.el λτ G q hs hg ht hQ=>
   ⟨τ,G,_,hs,hg,ht,λv H1 w G1 t1 r1 g1 q1=>by
     split at q1
     ·rename_i a;cases r1;obtain⟨⟨xs,e1⟩,q1⟩:=q1;obtain⟨_,xs',h1,_⟩:=g1 a _ e1;refine⟨.inl ⟨rfl,xs',dE.of h1⟩,τ,G1,_,hs.mono t1,g1,q1,λv2 H2 w2 G2 t2 r2 g2 q2=>?_⟩;split at q2
      ·rename_i b;cases r2;obtain⟨ys,zs,e2,e3,hl,q2⟩:=q2;obtain⟨_,ys',h2,rr⟩:=g2 a _ e2;obtain⟨_,zs',h3,rz⟩:=g2 b _ e3;refine⟨a,b,ys',zs',rfl,rfl,h2,h3,?_,?_⟩
       ·rw[←rr.length,←rz.length];exact bQ hl
       ·exact hQ _ _ _ _ ((t1.trans t2).trans (aP.lst h2 _)) .non (g2.put (aP.lst h2 _) (rr.append rz) (by rw[length_append];exact hl)) q2
      ·exact q2.elim
     ·exact q1.elim⟩
end
section
variable {prog:Program} {w:World} {A:Around} {E:yey} {h:Heap} {g:Array GenState} {d:Drawn} {t:Nat} {os:OsState} {a C:Addr} {o:Obj} {K:yav} {bm:yez}
theorem mq {R:Result->Shared->Prop} (X:K.In h) (hC:XC K C bm) (hx:h.get? a=some o) (hc:o.cls=.ref C) (hq:R (.ok (.ret (.ref C))) ⟨h,g,d,t,os⟩):
 codeAny (model prog w) A (.call (.builtin "getset_descriptor.__get__") ⟨[.builtin "object.__class__",.ref a,.ref C],[]⟩) R ⟨h,g,d,t,os⟩:=by
 have hT5:(⟨h,g,d,t,os⟩:Shared).TypeIs (.builtin "object.__class__") "getset_descriptor":=F.typeOf_object_class;have hcB:(Value.ref C::bm).contains (.type (".".intercalate ("object.__class__".cutAt '.').dropLast))=true:=by
  rw[F.owner_object_class];exact hC.has X rfl
 obtain⟨N1,n1,q1,b1,d1,s1,u1,a1,c1,f1,g0,g1,g2,g3,g5,m1,gC,_,_,_⟩:=hC.obj h X;refine codeAny_call_builtin F.slot_gs_get.plain F.entry_gs_get (F.slot_gs_get.check _ _ _ _ _ _ _ _ hT5 (F.args_gs_get _ _ _) ?_)
 repeat (any_goals (first | assumption | (with_reducible refine wpAny_loadPart_at hx ?_;rw[hc]) | (with_reducible refine wpAny_isSubtype_exc gC ?_;rw[hcB]) | wp_step))
 refine⟨Code.quiet_builtin _ (by decide+kernel),codeAny_builtin F.entry_object_class ?_⟩
 repeat (any_goals (first | assumption | (with_reducible refine wpAny_loadPart_at hx ?_;rw[hc]) | wp_step))
theorem jI {tk:Tok} {Q:Fin->Shared->Prop} (X:K.In h) (hC:XC K C bm) (hQ:XQ K C) (hx:h.get? a=some o) (hc:o.cls=.ref C) (hq:Q (.done (.ret (.ref C))) ⟨h,g,d,t,os⟩):
 wpAny (model prog w) A (Builtin.«object.__getattribute__» ⟨[.ref a,.str "__class__" tk],[]⟩) Q E ⟨h,g,d,t,os⟩:=by
 have hT5:(⟨h,g,d,t,os⟩:Shared).TypeIs (.builtin "object.__class__") "getset_descriptor":=F.typeOf_object_class;have f5:=F.typeOf_object_class;have f6:=F.slot_gs_get.lookup;have f7:=F.slot_gs_set.lookup;have L1:=looks_findIn (M:=model prog w) X hQ.gc
 repeat (any_goals (first | assumption | (with_reducible refine wpAny_loadPart_at hx ?_;rw[hc]) | with_reducible refine L1.at ?_ | wp_step))
 refine mq X hC hx hc ?_
 repeat (any_goals (first | assumption | wp_step))
theorem oM {M:Model} {nameV:Value} {Q:Unit->Shared->Prop} (X:K.In h) (hC:XC K C bm) (hx:h.get? a=some o) (hc:o.cls=.ref C) (hq:Q () ⟨h,g,d,t,os⟩):wpAny M A (checkBuiltinCall "BaseException.__getattribute__" ⟨[.ref a,nameV],[]⟩) Q E ⟨h,g,d,t,os⟩:=by
 have hk:builtinKind "BaseException.__getattribute__"=some .slot:=by decide+kernel
 have hsplit:splitId "BaseException.__getattribute__"=some ("BaseException","__getattribute__"):=by decide+kernel
 have hcB:(Value.ref C::bm).contains (.type "BaseException")=true:=hC.has X rfl;have ha:=F.args_bexc_ga (.ref a) nameV;obtain⟨N1,n1,q1,b1,d1,s1,u1,a1,c1,f1,g0,g1,g2,g3,g5,m1,gC,_,_,_⟩:=hC.obj h X;simp only[checkBuiltinCall,hk,hsplit];refine wax ?_
 ·unfold isInstance
  repeat (first | (with_reducible refine wpAny_loadPart_at hx ?_;rw[hc]) | (with_reducible refine wpAny_isSubtype_exc gC ?_;rw[hcB]) | wp_step)
  exact hq
theorem kS {tk:Tok} {R:Result->Shared->Prop} (X:K.In h) (hC:XC K C bm) (hQ:XQ K C) (hx:h.get? a=some o) (hc:o.cls=.ref C) (hq:R (.ok (.ret (.ref C))) ⟨h,g,d,t,os⟩):
 codeAny (model prog w) A (.call (.builtin "BaseException.__getattribute__") ⟨[.ref a,.str "__class__" tk],[]⟩) R ⟨h,g,d,t,os⟩:=
 codeAny_call_builtin F.excAttr_ValueError.ga.plain F.entry_bexc_ga (oM X hC hx hc (jI X hC hQ hx hc hq))
theorem oN {tk:Tok} {fill expr:Bool} (X:K.In h) (hC:XC K C bm) (hQ:XQ K C) (hx:h.get? a=some o) (hc:o.cls=.ref C) (hq:Q (.ref C) ⟨h,g,d,t,os⟩):
 wpAny (model prog w) A (getAttrBy (.ref a) (.str "__class__" tk) fill expr) Q E ⟨h,g,d,t,os⟩:=by
 have f3:=F.excAttr_ValueError.ga.bind (.ref a);have hx0:(expr&&onTheHeap (Value.builtin "BaseException.__getattribute__"))=false:=by cases expr<;> rfl
 have hx2:(Value.builtin "BaseException.__getattribute__"==Value.builtin "object.__getattribute__")=false:=by decide+kernel
 have hx1:(onTheHeap (Value.ref C)&&Value.builtin "BaseException.__getattribute__"==Value.builtin "object.__getattribute__")=false:=by rw[hx2];rfl
 have L1:=looks_findIn (M:=model prog w) X hQ.ga;have L2:=looks_findIn (M:=model prog w) X hQ.gx
 repeat (any_goals (first | assumption | (with_reducible refine wpAny_loadPart_at hx ?_;rw[hc]) | with_reducible refine L1.at ?_ | with_reducible refine L2.at ?_ | wp_step))
 refine kS X hC hQ hx hc ?_
 repeat (any_goals (first | assumption | wp_step))
theorem kT {Q:Option Value->Shared->Prop} (X:K.In h) (hC:XC K C bm) (hQ:XQ K C) (hx:h.get? a=some o) (hc:o.cls=.ref C) (hq:Q (some (.ref C)) ⟨h,g,d,t+1,os⟩):
 wpAny (model prog w) A (getAttr? (.ref a) "__class__") Q E ⟨h,g,d,t,os⟩:=by
 unfold getAttr? getAttrBy?
 repeat (any_goals (first | assumption | with_reducible apply oN X hC hQ hx hc | wp_step))
end
section
variable {prog:Program} {w:World} {A:Around} {E:yey} {s:Shared} {a C D:Addr} {o:Obj} {K:yav} {bm:yez}
theorem jJ {dep:Int} {tk:Tok} {Q:Fin->Shared->Prop} (X:K.In s.heap) (hC:XC K C bm) (hQ:XQ K C) (hE:XD K C) (hD:XD K D) (hs:mroIn K C (.ref D)=some false) (hne:C≠D) (hx:s.heap.get? a=some o) (hc:o.cls=.ref C)
 (h:Q (.done (.ret (.bool false))) { s with toks:=s.toks+1 }):
 wpAny (model prog w) A (Builtin.«isinstance.nested» ⟨[.ref a,.ref D,.int dep tk],[]⟩) Q E s:=by
 obtain⟨hh,g,d,tt,os⟩:=s;have ht:Looks (model prog w) hh (typeOf (.ref a)) (.ref C):=hc▸(PySem.W.Looks.ld hx).andThen .now;unfold Builtin.«isinstance.nested»;refine wax (ht.at ?_);rw[ycw (λq=>by cases beq_iff_eq.mp q;exact hne rfl)];have L1:=PySem.W.looks_typeIn (M:=model prog w) X hD.ty;have L2:=PySem.W.looks_instIn (M:=model prog w) X hD.ins;have L4:Looks (model prog w) hh (isSubtype (.ref C) (.ref D)) false:=PySem.W.looks_subIn X hs;have L3:Looks (model prog w) hh (isInstance (.ref a) (.ref D)) false:=ht.andThen L4;refine wax (L1.at ?_);rw[ycv (by decide)]
 k_delta "plainIsInstance"
 obtain⟨cd,e0⟩:=hD.cls;obtain⟨cd',e1⟩:=hE.cls;have L5:=PySem.W.looks_typeIn (M:=model prog w) X hE.ty;have L6:=PySem.W.looks_instIn (M:=model prog w) X hE.ins;unfold isType
 repeat lk
 unfold clsIn at e0 e1;split at e0
 ·rename_i ho;split at e1
  ·rename_i ho1;refine PySem.W.nd_load (X _ _ ho) (PySem.W.nd_pure (wpAny_pure ?_));simp only[Bool.not_true,Bool.false_eq_true,if_false];refine wax (L3.at ?_);simp only[Bool.false_eq_true,if_false];refine wax (kT X hC hQ hx hc ?_);dsimp only;refine wax ?_;refine PySem.W.nd_load (X _ _ ho1) (PySem.W.nd_pure ?_);simp only[Bool.not_true,Bool.false_eq_true,if_false];refine wax (wpAny_rule ?_);refine L4.at ?_;exact wpAny_pure h
  ·cases e1
 ·cases e0
theorem mv (X:K.In s.heap) (hC:XC K C bm) (hQ:XQ K C) (hE:XD K C) (hD:XD K D) (hs:mroIn K C (.ref D)=some false) (hne:C≠D) (hx:s.heap.get? a=some o) (hc:o.cls=.ref C)
 (h:Q (.bool false) { s with toks:=s.toks+1 }):wpAny (model prog w) A (call (.builtin "isinstance") [.ref a,.ref D]) Q E s:=
 call_isinstance (S:=λ_ R s=>(K.In s.heap/\s.heap.get? a=some o)/\R (.ok (.ret (.bool false))) { s with toks:=s.toks+1 })
  (λ_ _ _ _ _ hs1=>isinstance_outer (jJ hs1.1.1 hC hQ hE hD hs hne hs1.1.2 hc hs1.2) (λz=>nomatch z)) ⟨⟨X,hx⟩,h⟩
end
theorem rK {C D:Addr} (hC:XC K C bm) (hs:mroIn K C (.ref D)=some false):C≠D:=λz=>by
 subst z;rw[hC.self] at hs;cases hs
section
variable {X:Cx} {a:Addr} {oe:Obj} {C D:Addr} {bm:yez}
end
section
variable {prog:Program} {w:World} {A:Around} {E:yey} {s:Shared} {I l:Addr} {items:Array Value}
end
section
variable {X:Cx}
end
section
variable {X:Cx}
end
noncomputable abbrev Cx.xmq (X:Cx) (a:Addr):Cx:={ X with A:=X.A.mark (some (.ref a)),calm:=false,xe:=λ_ _=>False }
noncomputable abbrev Aa (a C:Addr):HO:= .ext λh=>∃o,h.get? a=some o/\o.cls=.ref C
section
variable {X:Cx} {π:List (Addr×Obj)} {σ:St} {H0 H:Hp} {s0 s:Shared} {a T C D:Addr}
theorem aH.takeX (I0:aH X π σ H0 s0) (F:Fl X.prog X.w (eP X.stack) H0 H s0.heap s.heap a T (.ref C) .none) (os:s.os=s0.os) (bare:AllBare s.gens):
 aH (X.xmq a) π σ (upd H a (Aa a C)) s:=by
 have I:=F.inv I0 os bare;obtain⟨oe,e1,e2,e3,e4,e5,e6⟩:=F.there I0;have ne:∀b o,X.s₀.heap.get? b=some o->b∉X.ex->b≠a:=λb o q hx z=>by
  obtain⟨o',e'⟩:=I0.base.there b o q hx;rw[z,F.na] at e';cases e'
 have nh:∀b u,H b=some u->b≠a:=λb u q z=>by rw[z,e3] at q;cases q
 refine⟨⟨I.ok.mod,I.ok.kind,I.ok.glob,I.ok.blt,I.ok.above,I.ok.inj,I.ok.has,I.ok.cab,λz=>(ydx z).elim,I.ok.frames,I.ok.stk,I.ok.exf,I.ok.bs,I.ok.bsz,I.ok.noex,I.ok.exfs,I.ok.funs,I.ok.frf⟩,I.os,I.bare,
  ⟨I.base.keep,I.base.slot,λb o q n hx=>?_,I.base.there,λb xs q=>?_,λb o u q=>?_,λb ps q=>?_⟩,I.loc,I.cell,?_,λx c q=>?_,λp hp=>?_,λb u q=>?_,I.len⟩
 ·rw[aC (ne b o q hx)];exact I.base.free b o q n hx
 ·have:=I.base.tups b xs q;rw[aC (nh b _ this)];exact this
 ·have:=I.base.frzs b o u q;rw[aC (nh b _ this)];exact this
 ·obtain⟨m,this⟩:=I.base.tbls b ps q;exact⟨m,by rw[aC (nh b _ this)];exact this⟩
 ·rw[aC (Ne.symm e4)];exact I.free
 ·have hc:c≠a:=λz=>by
   obtain⟨v,o,h1,h2⟩:=I.cell x c q;rw[z,e1] at h1;cases h1;exact e6 _ h2
  rw[aC hc];exact I.freeC x c q
 ·obtain⟨p1,p2,p3,p4,p5⟩:=I.pin p hp;have hp0:=(I0.pin p hp).1;have hne:p.1≠a:=λz=>by rw[z,F.na] at hp0;cases hp0
  exact⟨p1,by rw[aC hne];exact p2,p3,p4,p5⟩
 ·by_cases hb:b=a
  ·subst hb;rw[ba] at q;cases q;exact⟨⟨oe,e1,e2⟩,⟨oe,e1⟩,λh1 h2 ⟨o,z1,z2⟩ k=>⟨o,k o z1,z2⟩⟩
  ·rw[aC hb] at q;exact(I.hok b u q).stay (λ_ _ _ z=>z) (λx z=>by rw[aC (nh x _ z)];exact z) λx xs z=>by rw[aC (nh x _ z)];exact z
theorem aH.unq (I:aH (X.xmq a) π σ H s) (hh:X.calm=true->X.A.handled=none):aH X π σ H s:=
 ⟨⟨I.ok.mod,I.ok.kind,I.ok.glob,I.ok.blt,I.ok.above,I.ok.inj,I.ok.has,I.ok.cab,hh,I.ok.frames,I.ok.stk,I.ok.exf,I.ok.bs,I.ok.bsz,I.ok.noex,I.ok.exfs,I.ok.funs,I.ok.frf⟩,I.os,I.bare,I.base,I.loc,I.cell,I.free,I.freeC,I.pin,I.hok,I.len⟩
theorem SP.unq {D:fe} {f:Flow} {s':Shared} (h:SP (X.xmq a) π D f s') (hh:X.calm=true->X.A.handled=none):SP X π D f s':=by
 cases f with
 | next=>obtain⟨σ',H',I,q⟩:=h;exact⟨σ',H',I.unq hh,q⟩
 | brk=>obtain⟨σ',H',I,q⟩:=h;exact⟨σ',H',I.unq hh,q⟩
 | cont=>obtain⟨σ',H',I,q⟩:=h;exact⟨σ',H',I.unq hh,q⟩
 | ret u=>obtain⟨v,σ',H',I,r,q⟩:=h;exact⟨v,σ',H',I.unq hh,r,q⟩
noncomputable def Ci (i:Nat) (C:Addr) (ts:WS):WS:=λd τ G=>∀a,G a=none->ts { nx:=λτ1 G1=>d.nx (τ1.set i none) G1,rt:=d.rt,bk:=λτ1 G1=>d.bk (τ1.set i none) G1,ct:=λτ1 G1=>d.ct (τ1.set i none) G1 } (τ.set i (some (.ref a))) (aQ G a (.exc C))
variable {bm bmD:yez} {x:Str} {p pos:Pos} {name:Option Str} {body:List Stmt} {rest:List ExceptHandler} {b0:Stmt} {th:WS}
theorem oO (i:Nat) {n:Str} {ts:WS} (hm:X.mg x=some (.ref D)) (hg:Gl X x) (hO:XO X.K C) (hD:XC X.K D bmD) (hs:mroIn X.K C (.ref D)=some true) (hN:X.N.Nodup) (hi:X.N[i]?=some n) (hl:X.env.scope.names.lookup n=some .local)
 (hb:∀a,lH (X.xmq a) (b0::body) ts) (hd:(x==("__debug__":Str))=false:=by decide):
 QH X C (.ExceptHandler (some (.Name x p)) (some n) (b0::body) pos::rest) (Ci i C ts):=by
 rintro π s0 σ H0 s H a T D' I0 F os bare ⟨τ,G,d,rs,rg,ht,l⟩;have I:=F.inv I0 os bare;obtain⟨bm,hC⟩:=hO.c;obtain⟨oe,e1,e2,e3,e4,e5,e6⟩:=F.there I0;refine wpAny_handleBy_cons (codeAny_handlers_test (dY (X:=X.xmk a oe) (I.xmk e1 e3 e4 e5 e6) hg hm ?_ hd)) (by intro q;cases q);refine jW I.kIn hC hD e1 e2 hs ?_;refine codeAny_handlers_suite_as (F.lands I0 os bare λh' T' F'=>?_);obtain⟨oe',q1,q2,q3,q4,q5,q6⟩:=Fl.there (s:={ s with heap:=h' }) F' I0;have J:=aH.takeX (s:={ s with heap:=h' }) I0 F' os bare;have tl:aP H (upd H a (Aa a C)):=aP.new q3 _;refine gB (X:=X.xmq a) (v:= .ref a) J hN hi (.inl hl) rfl (λs3 I3=>?_) (.inr hl);have rs':bh X.K (upd H a (Aa a C)) (τ.set i (some (.ref a))) (σ.set i (some (.ref a))):=(rs.mono tl).set (.ref a) i;have rg':aO X.K (upd H a (Aa a C)) (aQ G a (.exc C)):=rg.lay tl ⟨hO,ba⟩;refine wpAny_mono (hb a π s3 _ _ { nx:=λσ1 H1=>D'.nx (σ1.set i none) H1,rt:=D'.rt,bk:=λσ1 H1=>D'.bk (σ1.set i none) H1,ct:=λσ1 H1=>D'.ct (σ1.set i none) H1 } I3
  ⟨_,_,_,rs',rg',ht a (rg.fresh q3),⟨λσ1 H1 τ1 G1 t1 r1 g1 z=>l.nx _ H1 _ G1 (tl.trans t1) (r1.drop i) g1 z,λv H1 w G1 t1=>l.rt v H1 w G1 (tl.trans t1),λσ1 H1 τ1 G1 t1 r1 g1 z=>l.bk _ H1 _ G1 (tl.trans t1) (r1.drop i) g1 z,λσ1 H1 τ1 G1 t1 r1 g1 z=>l.ct _ H1 _ G1 (tl.trans t1) (r1.drop i) g1 z⟩⟩) (λf s2 z=>?_) λ_ _ z=>z.elim
 have z2:=z.unq I0.ok.hd;cases f with
 | next=>obtain⟨σ',H',I2,q⟩:=z2;exact fI I2 hN hi hl λs' I4=>⟨_,H',I4,q⟩
 | brk=>obtain⟨σ',H',I2,q⟩:=z2;exact fI I2 hN hi hl λs' I4=>⟨_,H',I4,q⟩
 | cont=>obtain⟨σ',H',I2,q⟩:=z2;exact fI I2 hN hi hl λs' I4=>⟨_,H',I4,q⟩
 | ret u=>obtain⟨v,σ',H',I2,r,q⟩:=z2;exact fI I2 hN hi hl λs' I4=>⟨v,_,H',I4,r,q⟩
theorem aH.excAt (I:aH X π σ H s) (e:H a=some (Aa a C)):∃o,s.heap.get? a=some o/\o.cls=.ref C:=(I.hok a _ e).1
theorem aH.excTyG (I:aH X π σ H s) (e:H a=some (Aa a C)) (M:Model):Looks M s.heap (typeOf (.ref a)) (.ref C):=by
 obtain⟨o,e,hc⟩:=I.excAt e;exact hc▸(PySem.W.Looks.ld e).andThen .now
noncomputable def ud (K:yav) (i:Nat) (D:Addr):WE:=λτ G q=>∃a C b,τ[i]?=some (some (.ref a))/\G a=some (.exc C)/\mroIn K C (.ref D)=some b/\q (.bl b) G
theorem wu {C D:Addr} (hD:XD K D) (h:mroIn K C (.ref D)=some true):PySem.W.isIn K (.ref C) D=true:=by
 unfold PySem.W.isIn;obtain⟨cd,e⟩:=hD.cls;have hs:PySem.W.subIn K (.ref C) (.ref D)=some true:=h;rw[e,hD.ty,hD.ins,hs];simp
theorem oP {n y:Str} {p p1 p2 pos:Pos} (hi:X.N[i]?=some n) (hv:AZ X.env.scope n) (hym:X.mg y=some (.ref D)) (hD:XD X.K D) (hgy:Gl X y)
 (hm1:X.mg "isinstance"=none) (hg1:Gl X "isinstance") (hdy:(y==("__debug__":Str))=false:=by decide) (hd:(n==("__debug__":Str))=false:=by decide) (hcd:(n==("__classdict__":Str))=false:=by decide)
 (hs1:starEach [.Name n p1,.Name y p2] X.env=(false,eval (.Name n p1) X.env)::starEach [.Name y p2] X.env:=by rfl) (hs2:starEach [.Name y p2] X.env=(false,eval (.Name y p2) X.env)::starEach [] X.env:=by rfl)
 (hpl:(backTo pos (starEach [.Name y p2] X.env)).any (·.1)=false:=by rfl):QE X (.Call (.Name "isinstance" p) [.Name n p1,.Name y p2] [] pos) (ud X.K i D):=by
 have hv1:PE X (.Name n p1) (yV i):=n5 hi hv hd hcd;have ha:PA X [.Name n p1,.Name y p2] (lO (yV i) (lO (tC (.ref D)) sQ)):=dn hv1 (dn (kC hgy hym rfl hdy) pa_nil hs2) hs1;have hCR:fV X (.builtin "isinstance") (λvs H Q=>∃a C b,vs=[.ref a,.ref D]/\XO X.K C/\H a=some (Aa a C)/\mroIn X.K C (.ref D)=some b/\Q (.bl b) H):=by
  rintro π s σ H xs us Q I r ⟨a,C,b,e1,hO,hH,hb,q⟩;subst e1;obtain⟨u,u2,rfl,ru,ru2⟩:=kQ r;cases (show u=Value.ref a from ru);cases (show u2=Value.ref D from ru2);obtain⟨bm,hC⟩:=hO.c;cases b with
  | true=>exact PySem.W.isi_call I.kIn (I.excTyG hH) (wu hD hb) (λz=>nomatch z) ⟨.bl true,H,I,rfl,q⟩
  | false=>
    obtain⟨o,e,hc⟩:=I.excAt hH;exact mv I.kIn hC hO.q hO.d hD hb (rK hC hb) e hc ⟨.bl false,H,I.tok _,rfl,q⟩
 exact(i4 hCR hg1 hm1 lZ ha (by decide) (by decide) hs1 hpl).imp λσ H Q ⟨τ,G,q,hs,hg,⟨a,C,b,ht,hG,hb,hq⟩,hQ⟩=>by
  obtain⟨v,e1,r⟩:=hs.2 i _ ht;cases r;obtain⟨hO,hH⟩:=hg a _ hG;exact⟨_,e1,a,C,b,rfl,hO,hH,hb,hQ _ H _ G (aP.refl H) (.bl b) hg hq⟩
theorem aR.bools_of {K:yav} {H:Hp}:∀{bs:List Bool} {vs:List V},aR K H (bs.map W.bl) vs->vs=bs.map V.bl
 | [],_,r=>by cases r;rfl
 | n::ns,_,r=>by
   cases r with
   | cons r rs=>
     cases r;rw[aR.bools_of rs]
     rfl
theorem mw {bs:List Bool}:∀{us:yez},aT (bs.map V.bl) us->LSm.BoolsAre us bs:=by
 induction bs with
 | nil=>intro us r;rw[map_nil] at r;cases r;exact .nil
 | cons n ns ih=>
   intro us r;rw[map_cons] at r;cases r with
   | @cons _ u _ _ r1 r2=>
     cases (show u=Value.bool n from r1);exact .cons n (ih r2)
end
structure Cj (k:Nat) (A:Around):Prop where
 dp:A.depth+3*k+5<recursionLimit
 un:A.units+16*k+200<cLine
structure HW (P:Program) (w:World) (K:yav) (mg:yew) (base:Heap) (CX:q0) (k:Nat) (f:Addr) (fd:FuncData) (ps:List Str) (sp:Sp):Prop where
 len:∀vs H Q E,sp vs H Q E->vs.length=ps.length
 run:∀(A:Around) (outer:List Env) (s:Shared) (H:Hp) (args:Args) (us:yez) (vs:List V) (Q:VK) (E:XK),Cj k A->lP P w K mg base A outer s H->BindsTo s fd args (ps.zip us)->aT vs us->sp vs H Q E->
  codeAny (model P w) A (.call (.ref f) args) (CR CX outer P w H s Q E) s
section
variable {X:Cx}
end
section
variable {P:Program} {w:World} {K:yav} {mg:yew} {base:Heap} {k:Nat} {f:Addr} {fd:FuncData} {ps:List Str} {sp sp':bA}
end
theorem aP.ins {H:Hp} {p C dx:Addr} {fs:List (Str×V)} (hp:H p=some (.ins C dx fs)) (o:HO):aP H (upd H p o):=
 ⟨λ_ _ h=>by rw[aC (iu h hp (by intro z;cases z))];exact h,λ_ _ _ h=>by rw[aC (iu h hp (by intro z;cases z))];exact h⟩
noncomputable def my (f:Str) (v:W):List (Str×W)->List (Str×W)
 | []=>[(f,v)]
 | (g,x)::r=>if g=f then (g,v)::r else (g,x)::my f v r
section
variable {K:yav} {H:Hp}
theorem iD {f:Str} {w:W}:∀{fs:List (Str×W)} {fs':List (Str×V)},fs'.map (·.1)=fs.map (·.1)->aR K H (fs.map (·.2)) (fs'.map (·.2))->fs.lookup f=some w->∃v,fs'.lookup f=some v/\cj K H w v
 | [],_,_,_,e=>by cases e
 | (g,x)::r,[],n,_,_=>by cases n
 | (g,x)::r,(g',x')::r',n,rs,e=>by
   rw[map_cons,map_cons,List.cons.injEq] at n;obtain⟨n1,n2⟩:=n;have n1:g'=g:=n1;subst n1;cases rs with
   | cons r1 r2=>
     rw[lookup_cons] at e ⊢;cases h:f==g' with
     | true=>rw[h] at e;cases e;exact⟨x',rfl,r1⟩
     | false=>rw[h] at e;exact iD n2 r2 e
theorem fJ {f:Str}:∀{fs:List (Str×W)} {fs':List (Str×V)},fs'.map (·.1)=fs.map (·.1)->fs.lookup f=none->fs'.lookup f=none
 | [],[],_,_=>rfl
 | [],_::_,n,_=>by cases n
 | _::_,[],n,_=>by cases n
 | (g,x)::r,(g',x')::r',n,e=>by
   rw[map_cons,map_cons,List.cons.injEq] at n;obtain⟨n1,n2⟩:=n;have n1:g'=g:=n1;subst n1;rw[lookup_cons] at e ⊢;cases h:f==g' with
   | true=>rw[h] at e;cases e
   | false=>rw[h] at e;exact fJ n2 e
theorem mB {f:Str} {w:W} {v:V} (rv:cj K H w v):∀{fs:List (Str×W)} {fs':List (Str×V)},fs'.map (·.1)=fs.map (·.1)->aR K H (fs.map (·.2)) (fs'.map (·.2))->(eB f v fs').map (·.1)=(my f w fs).map (·.1)/\aR K H ((my f w fs).map (·.2)) ((eB f v fs').map (·.2))/\(my f w fs).length<=fs.length+1
 | [],[],_,_=>⟨rfl,.cons rv .nil,ycx _⟩
 | [],_::_,n,_=>by cases n
 | _::_,[],n,_=>by cases n
 | (g,x)::r,(g',x')::r',n,rs=>by
   rw[map_cons,map_cons,List.cons.injEq] at n;obtain⟨n1,n2⟩:=n;have n1:g'=g:=n1;subst n1;cases rs with
   | cons r1 r2=>
     obtain⟨a1,a2,a3⟩:=mB (f:=f) rv n2 r2;unfold eB my
     by_cases h:g'=f
     ·rw[ycv h,ycv h];refine⟨?_,.cons rv r2,by simp⟩;rw[map_cons,map_cons,n2]
     ·rw[ycw h,ycw h];refine⟨?_,.cons r1 a2,by simp;assumption⟩;rw[map_cons,map_cons,a1]
end
section
variable {X:Cx}
noncomputable def Ck (K:yav) (to:WE) (f:Str):WE:=λτ G q=>to τ G λx G1=>∃a C fs v,x=.ref a/\G1 a=some (.ins C fs)/\(lG K C/\cP K C f)/\fs.lookup f=some v/\q v G1
theorem dm {o:Expr} {to:WE} {f:Str} (ho:QE X o to) (hb:attributeBase o f X.env (eval o X.env)=eval o X.env:=by rfl):QE X (.Attribute o f pos) (Ck X.K to f):=
 (zq ho hb).imp λσ H Q z0=>z0.el λτ G q hs hg ht hQ=>⟨τ,G,_,hs,hg,ht,λv H1 w G1 t1 r1 g1 q1=>by
   obtain⟨a,C,fs,v',rfl,hG,hc,hl,q1⟩:=q1;cases r1;obtain⟨_,dx,fs',hH,hn,hr⟩:=g1 a _ hG;obtain⟨v2,hv2,rv2⟩:=iD hn hr hl;exact⟨a,C,dx,fs',v2,rfl,hH,hc.1,hc.2,hv2,hQ v2 H1 v' G1 t1 rv2 g1 q1⟩⟩
noncomputable def yx (K:yav) (to te:WE) (f:Str):WS:=λd τ G=>te τ G λy G1=>to τ G1 λx G2=>∃a C fs,x=.ref a/\G2 a=some (.ins C fs)/\(lG K C/\cP K C f)/\fs.length<100/\d.nx τ (aQ G2 a (.ins C (my f y fs)))
theorem jh {o e:Expr} {to te:WE} {f:Str} {pos pos':Pos} (ho:QE X o to) (he:QE X e te) (hs:swapsWith e (some (.Attribute o f pos')) pos.line X.env=pure false:=by rfl):QS X (.Assign [.Attribute o f pos'] e pos) (yx X.K to te f):=
 (zt ho he hs).imp λD σ H z0=>z0.el λτ G d rs rg ht l=>⟨τ,G,_,rs,rg,ht,λy H1 w G1 t1 r1 g1 q1=>⟨τ,G1,_,rs.mono t1,g1,q1,λv H2 w2 G2 t2 r2 g2 q2=>by
   obtain⟨a,C,fs,rfl,hG,hc,hlen,q2⟩:=q2;cases r2;obtain⟨_,dx,fs',hH,hn,hr⟩:=g2 a _ hG;obtain⟨a1,a2,a3⟩:=mB (f:=f) (r1.mono t2) hn hr;have tl:=aP.ins hH (.ins C dx (eB f y fs'));have hlen':fs'.length=fs.length:=by simpa using congrArg List.length hn
   refine⟨a,C,dx,fs',rfl,hH,hc.1,hc.2,by (clear a3;lia),l.nx σ _ τ _ ((t1.trans t2).trans tl) (((rs.mono t1).mono t2).mono tl) (g2.lay (g:= .ins C (my f w fs)) tl ⟨by lia,dx,_,ba,a1,a2.mono tl⟩) q2⟩⟩⟩
noncomputable def pS (C:Addr) (sp:bA) (dws:List W) (t:WA):WE:=λτ G q=>t τ G λws G1=>∀p,G1 p=none->sp (.ref p::(ws++dws)) (aQ G1 p (.ins C [])) (λv G2=>v=.non/\q (.ref p) G2) λ_ _=>False
theorem ic.make {C:Addr} {sp:bA} {dws:List W} {dvs:List V} {t:WA} {σ:St} {H:Hp} {Q:VK} {E:XK} (hd:∀H,aR K H dws dvs) (h:ic K (pS C sp dws t) σ H Q):yg C (vp K sp) dvs E (LA K t) σ H Q:=by
 obtain⟨τ,G,q,hs,hg,ht,hQ⟩:=h;refine⟨τ,G,_,hs,hg,ht,λvs H1 ws G1 t1 r1 g1 q1 x dx hx hdx hne=>?_⟩;have hdx':upd H1 dx (.own x) x=none:=by rw[aC (Ne.symm hne)];exact hx
 have tl:=(aP.new hdx (.own x)).trans (aP.new hdx' (.ins C dx []));have g2:aO K (upd (upd H1 dx (.own x)) x (.ins C dx [])) (aQ G1 x (.ins C [])):=(g1.keep hdx (.own x)).lay (aP.new hdx' _) ⟨by simp,dx,[],ba,rfl,.nil⟩;exact⟨.ref x::(ws++dws),_,_,_,.cons (.ref x) ((r1.mono tl).append (hd _)),g2,q1 x (g1.fresh hx),λv H2 w G2 t2 r2 g2 q2=>by
  obtain⟨e,q2⟩:=q2;subst e;cases r2;exact⟨rfl,hQ _ H2 _ G2 ((t1.trans tl).trans t2) (.ref x) g2 q2⟩,λ_ _ _ _ _ _ z=>z.elim⟩
theorem wv {C f:Addr} {sp:bA} {p pos:Pos} {t:WA} (M:Mk X.K C f) (F:cu X.prog X.w X.K X.mg X.base k f fd ps sp) (hr:aw (k+1) X.A) (hg:Gl X x) (hm:X.mg x=some (.ref C)) (hb:bM X.K fd ps [])
 (ha:QA X (e::es) t) (hdb:(x==("__debug__":Str))=false:=by decide) (he:starEach (e::es) X.env=(false,eval e X.env)::starEach es X.env:=by rfl) (hpl:(backTo pos (starEach es X.env)).any (·.1)=false:=by rfl):
 QE X (.Call (.Name x p) (e::es) [] pos) (pS C sp [] t):=
 (vP (dvs:=[]) M F hr hg hm hb .nil (jT (X:=X)) ha hdb he hpl).imp λ_ _ _ h=>ic.make (λ_=> .nil) h
noncomputable def pT (C:Addr) (m:Str) (sp:bA) (dws:List W) (to:WE) (t:WA):WE:=λτ G q=>to τ G λx G1=>∃a fs,x=.ref a/\G1 a=some (.ins C fs)/\fs.lookup m=none/\t τ G1 λws G2=>sp (x::(ws++dws)) G2 q λ_ _=>False
theorem ic.meth {C:Addr} {m:Str} {sp:bA} {dws:List W} {dvs:List V} {to:WE} {t:WA} {σ:St} {H:Hp} {Q:VK} {E:XK} (hd:∀H,aR K H dws dvs) (h:ic K (pT C m sp dws to t) σ H Q):sS C m (vp K sp) dvs E (ic K to) (LA K t) σ H Q:=by
 obtain⟨τ,G,q,hs,hg,ht,hQ⟩:=h;refine⟨τ,G,_,hs,hg,ht,λx H1 w G1 t1 r1 g1 q1=>?_⟩;obtain⟨a,fs,rfl,hG,hl,q1⟩:=q1;cases r1;obtain⟨_,dx,fs',hH,hn,_⟩:=g1 a _ hG;refine⟨a,dx,fs',rfl,hH,fJ hn hl,τ,G1,_,hs.mono t1,g1,q1,λvs H2 ws G2 t2 r2 g2 q2=>?_⟩;exact⟨.ref a::(ws++dws),G2,q,_,.cons (.ref a) (r2.append (hd _)),g2,q2,λv H3 w3 G3 t3=>hQ v H3 w3 G3 ((t1.trans t2).trans t3),λ_ _ _ _ _ _ z=>z.elim⟩
structure Mt (P:Program) (w:World) (K:yav) (mg:yew) (base:Heap) (C:Addr) (m:Str) (ps:List Str) (k:Nat) (sp:bA) (dws:List W):Prop where
 ex:∃(f:Addr) (fd:FuncData) (ds:yez) (dvs:List V),qY K C m f/\cu P w K mg base k f fd ps sp/\bM K fd ps ds/\aT dvs ds/\∀H,aR K H dws dvs
 cl:lG K C
theorem gH {C:Addr} {m:Str} {sp:bA} {dws:List W} {o e:Expr} {to:WE} {t:WA} {apos pos:Pos} {pl:Sem Bool} (ho:QE X o to) (M:Mt X.prog X.w X.K X.mg X.base C m ps k sp dws) (hr:aw k X.A) (ha:QA X (e::es) t)
 (hst:starEach (e::es) X.env=(false,eval e X.env)::starEach es X.env:=by rfl) (hpl:(backTo pos (starEach es X.env)).any (·.1)=false:=by rfl)
 (ht:eval (.Call (.Attribute o m apos) (e::es) [] pos) X.env=(do
   let ov ←eval o X.env
   standAt apos.atName
   let (f,first) ←holding [ov] (getMethod ov m pl)
   callWith pos f first (backTo pos (starEach (e::es) X.env)) (backToKw pos (keywordEach [] X.env))):=by rfl):QE X (.Call (.Attribute o m apos) (e::es) [] pos) (pT C m sp dws to t):=by
 obtain⟨⟨f,fd,ds,dvs,hm,F,hb,hd,hrep⟩,c⟩:=M;exact(pC (pl:=pl) ho c hm F hr hb hd (jT (X:=X)) ha hst hpl ht).imp λ_ _ _ h=>ic.meth hrep h
theorem fq {C:Addr} {m:Str} {sp:bA} {dws:List W} {o:Expr} {to:WE} {apos pos:Pos} {pl:Sem Bool} (ho:QE X o to) (M:Mt X.prog X.w X.K X.mg X.base C m ps k sp dws) (hr:aw k X.A)
 (ht:eval (.Call (.Attribute o m apos) [] [] pos) X.env=(do
   let ov ←eval o X.env
   standAt apos.atName
   let (f,first) ←holding [ov] (getMethod ov m pl)
   callWith pos f first (backTo pos (starEach [] X.env)) (backToKw pos (keywordEach [] X.env))):=by rfl):QE X (.Call (.Attribute o m apos) [] [] pos) (pT C m sp dws to tw):=by
 obtain⟨⟨f,fd,ds,dvs,hm,F,hb,hd,hrep⟩,c⟩:=M;refine(sU (pl:=pl) ho c hm F hr hb hd (jT (X:=X)) ht).imp λσ H Q z0=>z0.el λτ G q hs hg ht hQ=>?_;refine⟨τ,G,_,hs,hg,ht,λx H1 w G1 t1 r1 g1 q1=>?_⟩;obtain⟨a,fs,rfl,hG,hl,q1⟩:=q1;cases r1;obtain⟨_,dx,fs',hH,hn,_⟩:=g1 a _ hG;exact⟨a,dx,fs',rfl,hH,fJ hn hl,.ref a::([]++dws),G1,q,_,.cons (.ref a) (hrep _),g1,q1,λv H3 w3 G3 t3=>hQ v H3 w3 G3 (t1.trans t3),λ_ _ _ _ _ _ z=>z.elim⟩
noncomputable def Ab (to:WE):WE:=λτ G q=>to τ G λx G1=>match x with
 | .ref a=>∃ys y,G1 a=some (.lst (ys++[y]))/\q y (aQ G1 a (.lst ys))
 | _=>False
theorem aR.snoc {K:yav} {H:Hp}:∀{ys:List W} {y:W} {xs:List V},aR K H (ys++[y]) xs->∃v,xs[xs.length-1]?=some v/\cj K H y v/\aR K H ys xs.dropLast
 | [],y,xs,r=>by
   obtain⟨v,rfl,rv⟩:=r.one;exact⟨v,rfl,rv,.nil⟩
 | w::ys,y,_,.cons (v:=v) (vs:=vs) r rs=>by
   obtain⟨u,h1,h2,h3⟩:=aR.snoc rs;have hl:=rs.length;cases vs with
   | nil=>simp at hl
   | cons v2 vs2=>
     refine⟨u,?_,h2,?_⟩
     ·simpa using h1
     ·rw[List.dropLast_cons₂];exact .cons r h3
theorem oQ {o:Expr} {to:WE} {apos cpos:Pos} (ho:QE X o to)
 (hbase:attributeBase o "pop" X.env (eval o X.env)=eval o X.env:=by rfl) (hline:(apos.endLine==cpos.line)=true:=by rfl):QE X (.Call (.Attribute o "pop" apos) [] [] cpos) (Ab to):=
 (zA PySem.F.plainAttrs_list PySem.F.slot_list_pop PySem.F.type_list_pop zB ho hbase hline).imp λσ H Q z0=>z0.el λτ G q hs hg ht hQ=>
   ⟨τ,G,_,hs,hg,ht,λv H1 w G1 t1 r1 g1 q1=>by
     split at q1
     ·rename_i a;cases r1;obtain⟨ys,y,e1,q1⟩:=q1;obtain⟨hl,xs',h1,rr⟩:=g1 a _ e1;obtain⟨u,hu,ru,rd⟩:=rr.snoc;refine⟨.inl ⟨rfl,xs',dE.of h1⟩,a,xs',u,rfl,rfl,h1,hu,?_⟩;have tl:=aP.lst h1 (.lst xs'.dropLast);exact hQ _ _ _ _ (t1.trans tl) (ru.mono tl) (g1.put tl rd (by simp at hl;lia)) q1
     ·exact q1.elim⟩
noncomputable def EN:Stmt->List Stmt
 | .ClassDef _ _ _ b _ _ _ _ _ _ _=>b
 | _=>[]
noncomputable def Md (K:yav) (C:Addr) (m qual:Str) (st:Stmt) (ps:List Str):Prop:=∃(f:Addr) (fd:FuncData),qY K C m f/\cq K m qual st f fd/\bM K fd ps []
noncomputable def DW (K:yav) (C:Addr) (qual:Str) (st:Stmt) (ps:List Str):Prop:=∃(f:Addr) (fd:FuncData),Mk K C f/\cq K "__init__" qual st f fd/\bM K fd ps []
section
variable {P:Program} {w:World} {K:yav} {mg:yew} {base:Heap} {C:Addr} {m qual:Str} {st:Stmt} {ps:List Str} {k:Nat} {sp:bA} {dws:List W}
theorem Md.mt (D:Md K C m qual st ps) (c:lG K C) (h:∀(f:Addr) (fd:FuncData),cq K m qual st f fd->cu P w K mg base k f fd ps sp):Mt P w K mg base C m ps k sp []:=by
 obtain⟨f,fd,hm,F,b⟩:=D;exact⟨⟨f,fd,[],[],hm,h f fd F,b,.nil,λ_=> .nil⟩,c⟩
noncomputable def EO (P:Program) (w:World) (K:yav) (mg:yew) (base:Heap) (x:Str) (C:Addr) (ps:List Str) (k:Nat) (sp:bA):Prop:=∃(f:Addr) (fd:FuncData),Mk K C f/\cu P w K mg base k f fd ps sp/\mg x=some (.ref C)/\bM K fd ps []
theorem DW.new (D:DW K C qual st ps) (hm:mg x=some (.ref C)) (h:∀(f:Addr) (fd:FuncData),cq K "__init__" qual st f fd->cu P w K mg base k f fd ps sp):EO P w K mg base x C ps k sp:=by
 obtain⟨f,fd,M,F,b⟩:=D;exact⟨f,fd,M,h f fd F,hm,b⟩
end
theorem Ac {C:Addr} {sp:bA} {p pos:Pos} {t:WA} (M:EO X.prog X.w X.K X.mg X.base x C ps k sp) (hr:aw (k+1) X.A) (hg:Gl X x)
 (ha:QA X (e::es) t) (hdb:(x==("__debug__":Str))=false:=by decide) (he:starEach (e::es) X.env=(false,eval e X.env)::starEach es X.env:=by rfl) (hpl:(backTo pos (starEach es X.env)).any (·.1)=false:=by rfl):
 QE X (.Call (.Name x p) (e::es) [] pos) (pS C sp [] t):=by
 obtain⟨f,fd,M,F,hm,b⟩:=M;exact wv M F hr hg hm b ha hdb he hpl
theorem Fx.alias {x y:Str} {sp:bA} (F:Fx P w K mg base x ps k sp) (h:mg y=mg x):Fx P w K mg base y ps k sp:=by
 obtain⟨f,fd,h1,h2,h3,h4⟩:=F;exact⟨f,fd,h1,h.trans h2,h3,h4⟩
theorem cM {α:Type} {p:List α->Prop} (h:p []) (us:List α) (e:us.length=0):p us:=by
 rw[List.eq_nil_of_length_eq_zero e];exact h
theorem bJ {α:Type} {n:Nat} {p:List α->Prop} (h:∀a,∀us:List α,us.length=n->p (a::us)) (us:List α) (e:us.length=n+1):p us:=by
 cases us with
 | nil=>exact absurd e (Nat.succ_ne_zero n).symm
 | cons a us=>exact h a us (Nat.succ.inj e)
end
structure pU (P:Program) (w:World) (K:yav) (mg:yew) (base:Heap) (C:Addr) (m:Str) (ps:List Str) (k:Nat) (sp:bA) (dws:List W):Prop where
 ex:∃(f:Addr) (fd:FuncData) (ds:yez) (dvs:List V),qY K C m f/\jG P w K mg base k f fd ps sp/\bM K fd ps ds/\aT dvs ds/\∀H,aR K H dws dvs
 cl:lG K C
section
variable {X:Cx} {x:Str} {p pos:Pos}
theorem ww {D:Addr} {y:Str} {p:Pos} (hg:Gl X y) (hm:X.mg y=some (.ref D)) (hd:(y==("__debug__":Str))=false:=by decide):QE X (.Name y p) (wC (.ref D)):=eE (v:= .ref D) (kC (v:= .ref D) hg hm rfl hd) λ_=> .ref D
end
section
variable {X:Cx} {p pos:Pos}
noncomputable def Ad:List W->Gp->WK->Prop:=λws G q=>match ws with
 | [.ref a]=>∃bs:List Bool,G a=some (.lst (bs.map W.bl))/\q (.bl (bs.all id)) G
 | _=>False
theorem yy (hc:X.calm=true):d4 X (.builtin "all") Ad:=by
 rintro π s σ H xs us Q I r ⟨ws,G,q,rw',g,h,hQ⟩;unfold Ad at h;split at h
 ·rename_i a;obtain⟨bs,e,h⟩:=h;obtain⟨v,rfl,r1⟩:=rw'.one;cases r1;obtain⟨_,zs,e1,rr⟩:=g a _ e;obtain rfl:=rr.bools_of;obtain⟨u,rfl,ru⟩:=dZ r;cases (show u=Value.ref a from ru);obtain⟨its,rv,p,hz⟩:=I.list (dE.of e1);have hb:=mw rv;have hl:s.heap.IsList a its.toArray:=p.isList;have hlt:a<s.heap.objs.size:=by obtain⟨_,e,_⟩:=hl;exact ybv e
  refine call_all_walk (wpAny_pyIter_list hl ?_);refine⟨s.heap.objs.size,[s.heap.objs.size,a],[s.heap.objs.size],its.toArray.size,_,_,λi=>(bs[i]?).getD true,rfl,Walks.list (A:=X.A.in1) (I.ok.hd hc) _ a (ne_of_lt hlt) its.toArray,
   ⟨⟨_,ybw _ rfl,rfl,rfl⟩,hl.push _⟩,λi v s' Q' E' hP hQ=>?_,λh' tk hk=>?_⟩
  ·obtain⟨b,e,rfl⟩:=hb.get i v (by simpa using hP);simp only[e,Option.getD_some] at hQ;exact wpAny_truthy_bool hQ
  ·have e:((List.range its.toArray.size).all λi=>(bs[i]?).getD true)=bs.all id:=by
    rw[size_toArray,hb.length];exact LSm.range_all bs
   rw[e];exact⟨.bl _,H,I.kept (LSm.kept_iter hk),rfl,hQ _ H _ G (aP.refl H) (.bl _) g h⟩
 ·exact h.elim
end
section
variable {X:Cx}
end
section
variable {P:Program} {w:World} {K:yav} {mg:yew} {base:Heap} {N:List Str} {qual:Str} {scope:Scope} {f:Addr} {cdv:Value} {A:Around} {outer:List Env} {s:Shared} {H:Hp} {E:XK}
noncomputable def eT (C:Addr) (m:Str) (sp:bA) (dws:List W) (to:WE) (t:WA) (e:WX):WE:=λτ G q=>to τ G λx G1=>∃a fs,x=.ref a/\G1 a=some (.ins C fs)/\fs.lookup m=none/\t τ G1 λws G2=>sp (x::(ws++dws)) G2 q e
theorem dv {C:Addr} {m:Str} {sp:bA} {dws:List W} {o e0:Expr} {to:WE} {t:WA} {apos pos:Pos} {pl:Sem Bool} {e:WX} (ho:QE (cZ (kP P w) P w K mg base N qual scope f cdv A outer s H E) o to) (M:pU P w K mg base C m ps k sp dws) (hr:aw k (A.deeper (envOfC qual scope s.heap.objs.size f cdv)))
 (hE:∀c H1 G1,aP H H1->aO K H1 G1->e c G1->E c none H1) (ha:QA (cZ (kP P w) P w K mg base N qual scope f cdv A outer s H E) (e0::es) t)
 (hst:starEach (e0::es) (envOfC qual scope s.heap.objs.size f cdv)=(false,eval e0 (envOfC qual scope s.heap.objs.size f cdv))::starEach es (envOfC qual scope s.heap.objs.size f cdv):=by rfl) (hpl:(backTo pos (starEach es (envOfC qual scope s.heap.objs.size f cdv))).any (·.1)=false:=by rfl)
 (ht:eval (.Call (.Attribute o m apos) (e0::es) [] pos) (envOfC qual scope s.heap.objs.size f cdv)=(do
   let ov ←eval o (envOfC qual scope s.heap.objs.size f cdv)
   standAt apos.atName
   let (fn,first) ←holding [ov] (getMethod ov m pl)
   callWith pos fn first (backTo pos (starEach (e0::es) (envOfC qual scope s.heap.objs.size f cdv))) (backToKw pos (keywordEach [] (envOfC qual scope s.heap.objs.size f cdv)))):=by rfl):QE (cZ (kP P w) P w K mg base N qual scope f cdv A outer s H E) (.Call (.Attribute o m apos) (e0::es) [] pos) (eT C m sp dws to t e):=by
 obtain⟨⟨f1,fd,ds,dvs,hm,F,hb,hd,hrep⟩,c⟩:=M;refine(pC (X:=cZ (kP P w) P w K mg base N qual scope f cdv A outer s H E) (E:=λc _ H1=>∃G1,aO K H1 G1/\e c G1) (pl:=pl) ho c hm F hr hb hd (pO λC H1 t1 z=>?_) ha hst hpl ht).imp λσ H2 Q h=>?_
 ·obtain⟨G1,g1,z1⟩:=z;exact hE _ H1 G1 t1 g1 z1
 ·obtain⟨τ,G,q,hs,hg,ht,hQ⟩:=h;refine⟨τ,G,_,hs,hg,ht,λx H1 w G1 t1 r1 g1 q1=>?_⟩;obtain⟨a,fs,rfl,hG,hl,q1⟩:=q1;cases r1;obtain⟨_,dx,fs',hH,hn,_⟩:=g1 a _ hG;refine⟨a,dx,fs',rfl,hH,fJ hn hl,τ,G1,_,hs.mono t1,g1,q1,λvs H2 ws G2 t2 r2 g2 q2=>?_⟩;exact⟨.ref a::(ws++dws),G2,q,e,.cons (.ref a) (r2.append (hrep _)),g2,q2,λv H3 w3 G3 t3=>hQ v H3 w3 G3 ((t1.trans t2).trans t3),λc d H3 G3 _ g3 z=>⟨G3,g3,z⟩⟩
end
section
variable {X:Cx} {π:List (Addr×Obj)} {σ:St} {H:Hp} {s:Shared} {h':Heap} {ch:List Addr}
end
structure ZL (z p r i j a b:Addr) (n:Nat) (f:Value) (h:Heap):Prop where
 hz:IsZip h z p r f
 hp:IsPair h p (.ref i) (.ref j)
 hr:∃x y,IsPair h r x y
 hi:h.IsListIter i a n
 hj:h.IsListIter j b n
section
variable {P:Program} {w:World} {K:yav}
end
section
variable {X:Cx}
end
end L2
namespace Nm
inductive O where
 | z
 | c (e:O) (n:Int) (r:O)
 deriving DecidableEq
namespace O
noncomputable def cmp:O->O->Int
 | z,z=>0
 | z,c _ _ _=> -1
 | c _ _ _,z=>1
 | c e n r,c e' n' r'=>
   if cmp e e'≠0 then cmp e e' else if n<n' then -1 else if n'<n then 1 else cmp r r'
noncomputable def size:O->Nat
 | z=>0
 | c e _ r=>1+size e+size r
noncomputable def dp:O->Nat
 | z=>0
 | c e _ r=>max (dp e+1) (dp r)
noncomputable def len:O->Nat
 | z=>0
 | c _ _ r=>len r+1
noncomputable def app:O->O->O
 | z,b=>b
 | c e n r,b=>c e n (app r b)
noncomputable def filt (p:O->Int->Bool):O->O
 | z=>z
 | c e n r=>if p e n then c e n (filt p r) else filt p r
noncomputable def same (x:O):O->Int
 | z=>0
 | c e n r=>if e=x then n+same x r else same x r
noncomputable def withO (a e:O) (n:Int):O:=app (filt (λx _=>decide (0<cmp x e)) a) (c e (same e a+n) (filt (λx _=>decide (cmp x e<0)) a))
noncomputable def init:O->O
 | z=>z
 | c _ _ z=>z
 | c e n r=>c e n (init r)
noncomputable def last:O->O
 | z=>z
 | c e n z=>c e n z
 | c _ _ r=>last r
theorem cmp_self:∀a:O,cmp a a=0
 | z=>rfl
 | c e n r=>by simp[cmp,cmp_self e,cmp_self r]
theorem cmp_eq:∀a b:O,cmp a b=0->a=b
 | z,z,_=>rfl
 | z,c _ _ _,h=>by simp[cmp] at h
 | c _ _ _,z,h=>by simp[cmp] at h
 | c e n r,c e' n' r',h=>by
   unfold cmp at h
   by_cases he:cmp e e'=0
   ·rw[ycw (by simpa using he)] at h
    by_cases h1:n<n'
    ·rw[ycv h1] at h;(clear he h1;lia)
    ·rw[ycw h1] at h
     by_cases h2:n'<n
     ·rw[ycv h2] at h;(clear he h1 h2;lia)
     ·rw[ycw h2] at h;have:=cmp_eq e e' he;have:=cmp_eq r r' h;have:n=n':=by (clear h he;lia)
      subst_vars
      rfl
   ·rw[ycv he] at h;exact absurd h he
theorem cmp_range:∀a b:O,cmp a b= -1∨cmp a b=0∨cmp a b=1
 | z,z=>by simp[cmp]
 | z,c _ _ _=>by simp[cmp]
 | c _ _ _,z=>by simp[cmp]
 | c e n r,c e' n' r'=>by
   have h1:=cmp_range e e';have h2:=cmp_range r r';unfold cmp;split
   ·exact h1
   ·split
    ·exact .inl rfl
    ·split
     ·exact .inr (.inr rfl)
     ·exact h2
theorem bb:∀a b:O,cmp b a= -cmp a b
 | z,z=>rfl
 | z,c _ _ _=>rfl
 | c _ _ _,z=>rfl
 | c e n r,c e' n' r'=>by
   have h1:=bb e e';have h2:=bb r r';unfold cmp;rw[h1,h2]
   by_cases he:cmp e e'=0
   ·rcases Int.lt_trichotomy n n' with k | k | k
    ·have k':¬n'<n:=by (clear h1 h2 he;lia)
     simp[he,k,k']
    ·subst k;simp[he]
    ·have k':¬n<n':=by (clear h1 h2 he;lia)
     simp[he,k,k']
   ·have he':¬-cmp e e'=0:=by (clear h1 h2;lia)
    simp[he,he']
theorem cm:∀a b d:O,cmp a b<0->cmp b d<0->cmp a d<0
 | z,z,_,h,_=>by simp[cmp] at h
 | z,c _ _ _,z,_,h=>by simp[cmp] at h
 | z,c _ _ _,c _ _ _,_,_=>by simp[cmp]
 | c _ _ _,z,_,h,_=>by simp[cmp] at h
 | c _ _ _,c _ _ _,z,_,h=>by simp[cmp] at h
 | c e n r,c e' n' r',c f m t,h1,h2=>by
   have ih1:=cm e e' f;have ih2:=cm r r' t;have r1:=cmp_range e e';have r2:=cmp_range e' f;unfold cmp at h1 h2 ⊢
   by_cases k1:cmp e e'=0
   ·have e1:=cmp_eq e e' k1;subst e1;rw[ycw (by (clear r1 r2 h1 h2;lia))] at h1
    by_cases k2:cmp e f=0
    ·rw[ycw (by (clear r1 r2 h1 h2 k1;lia))] at h2 ⊢
     by_cases a1:n<n'
     ·by_cases a2:n'<m
      ·rw[ycv (by (clear r1 r2 h1 h2 k1 k2;lia))];(clear r1 r2 h1 h2 k1 k2 a1 a2;lia)
      ·rw[ycw a2] at h2
       by_cases a3:m<n'
       ·rw[ycv a3] at h2;(clear r1 r2 h1 k1 k2 a1 a2 a3;lia)
       ·rw[ycv (by (clear r1 r2 h1 h2 k1 k2;lia))];(clear r1 r2 h1 h2 k1 k2 a1 a2 a3;lia)
     ·rw[ycw a1] at h1
      by_cases a2:n'<n
      ·rw[ycv a2] at h1;(clear r1 r2 h2 k1 k2 a1 a2;lia)
      ·rw[ycw a2] at h1
       by_cases a3:n'<m
       ·rw[ycv (by (clear r1 r2 h1 h2 k1 k2;lia))];(clear r1 r2 h1 h2 k1 k2 a1 a2 a3;lia)
       ·rw[ycw a3] at h2
        by_cases a4:m<n'
        ·rw[ycv a4] at h2;(clear r1 r2 h1 k1 k2 a1 a2 a3 a4;lia)
        ·rw[ycw a4] at h2;rw[ycw (by (clear r1 r2 h1 h2 k1 k2;lia)),ycw (by (clear r1 r2 h1 h2 k1 k2;lia))];exact ih2 h1 h2
    ·rw[ycv k2] at h2 ⊢;exact h2
   ·rw[ycv k1] at h1
    by_cases k2:cmp e' f=0
    ·have e2:=cmp_eq e' f k2;subst e2;rw[ycv k1];exact h1
    ·rw[ycv k2] at h2;have:=ih1 h1 h2;rw[ycv (by (clear r1 r2 h1 h2 k1 k2;lia))];exact this
theorem dp_le_size:∀a:O,dp a<=size a
 | z=>ycx _
 | c e n r=>by
   have:=dp_le_size e;have:=dp_le_size r;simp only[dp,size];lia
theorem len_le_size:∀a:O,len a<=size a
 | z=>ycx _
 | c e n r=>by
   have:=len_le_size r;simp only[len,size];lia
theorem mD:∀a b:O,size (app a b)=size a+size b
 | z,b=>by simp[app,size]
 | c e n r,b=>by simp[app,size,mD r b];lia
theorem ik (p:O->Int->Bool):∀a:O,size (filt p a)<=size a
 | z=>ycx _
 | c e n r=>by
   have:=ik p r;unfold filt;split<;> simp only[size]<;> lia
theorem size_init:∀a:O,size (init a)<=size a
 | z=>ycx _
 | c _ _ z=>by simp[init,size]
 | c e n (c e' n' r')=>by
   have h:=size_init (c e' n' r');have e0:init (c e n (c e' n' r'))=c e n (init (c e' n' r')):=by simp[init]
   rw[e0];simp only[size] at h ⊢;lia
theorem size_last:∀a:O,size (last a)<=size a
 | z=>ycx _
 | c _ _ z=>by simp[last]
 | c e n (c e' n' r')=>by
   have h:=size_last (c e' n' r');have e0:last (c e n (c e' n' r'))=last (c e' n' r'):=by simp[last]
   rw[e0];simp only[size] at h ⊢;lia
noncomputable def Lt (e:O):O->Prop
 | z=>True
 | c x _ r=>cmp x e<0/\Lt e r
noncomputable def NF:O->Prop
 | z=>True
 | c e n r=>NF e/\1<=n/\Lt e r/\NF r
theorem Lt.app {e:O}:∀{a b:O},Lt e a->Lt e b->Lt e (app a b)
 | z,_,_,h=>h
 | c _ _ _,_,h1,h2=>⟨h1.1,Lt.app h1.2 h2⟩
theorem Lt.filt {e:O} (p:O->Int->Bool):∀{a:O},Lt e a->Lt e (O.filt p a)
 | z,_=>trivial
 | c _ _ _,h=>by
   unfold O.filt;split
   ·exact⟨h.1,Lt.filt p h.2⟩
   ·exact Lt.filt p h.2
theorem Lt.of_filt {e x:O} (hx:0<cmp x e):∀{a:O},Lt x (O.filt (λy _=>decide (cmp y e<0)) a)
 | z=>trivial
 | c y n r=>by
   unfold O.filt;split
   ·rename_i h;have h':cmp y e<0:=by simpa using h
    have hs:=bb x e;exact⟨cm y e x h' (by (clear h h';lia)),Lt.of_filt hx⟩
   ·exact Lt.of_filt hx
theorem Lt.below (e:O):∀{a:O},Lt e (O.filt (λy _=>decide (cmp y e<0)) a)
 | z=>trivial
 | c y n r=>by
   unfold O.filt;split
   ·rename_i h;exact⟨by simpa using h,Lt.below e⟩
   ·exact Lt.below e
theorem NF.filt (p:O->Int->Bool):∀{a:O},NF a->NF (O.filt p a)
 | z,_=>trivial
 | c _ _ _,h=>by
   unfold O.filt;split
   ·exact⟨h.1,h.2.1,h.2.2.1.filt p,NF.filt p h.2.2.2⟩
   ·exact NF.filt p h.2.2.2
theorem same_nonneg (x:O):∀{a:O},NF a->0<=same x a
 | z,_=>by simp[same]
 | c e n r,h=>by
   have h1:=h.2.1;have h2:=same_nonneg x h.2.2.2;unfold same;split<;> lia
theorem NF.join {e:O} {n:Int} {b:O} (he:NF e) (hn:1<=n) (hb:NF b) (hl:Lt e b) (hx:∀x,0<cmp x e->Lt x b):∀{a:O},NF a->NF (O.app (O.filt (λx _=>decide (0<cmp x e)) a) (c e n b))
 | z,_=>⟨he,hn,hl,hb⟩
 | c x k r,h=>by
   unfold O.filt;split
   ·rename_i hp;have hp':0<cmp x e:=by simpa using hp
    have hs:=bb x e;exact⟨h.1,h.2.1,Lt.app (h.2.2.1.filt _) ⟨by (clear hn hp;lia),hx x hp'⟩,NF.join he hn hb hl hx h.2.2.2⟩
   ·exact NF.join he hn hb hl hx h.2.2.2
theorem NF.withO {a e:O} {n:Int} (ha:NF a) (he:NF e) (hn:1<=n):NF (O.withO a e n):=by
 have:=same_nonneg e ha;exact NF.join he (by lia) (ha.filt _) (Lt.below e) (λx hx=>Lt.of_filt hx) ha
theorem Lt.init {e:O}:∀{a:O},Lt e a->Lt e (O.init a)
 | z,_=>trivial
 | c _ _ z,_=>trivial
 | c x n (c x' n' r'),h=>by
   have e0:O.init (c x n (c x' n' r'))=c x n (O.init (c x' n' r')):=by simp[O.init]
   rw[e0];exact⟨h.1,Lt.init h.2⟩
theorem NF.init:∀{a:O},NF a->NF (O.init a)
 | z,_=>trivial
 | c _ _ z,_=>trivial
 | c x n (c x' n' r'),h=>by
   have e0:O.init (c x n (c x' n' r'))=c x n (O.init (c x' n' r')):=by simp[O.init]
   rw[e0];exact⟨h.1,h.2.1,h.2.2.1.init,NF.init h.2.2.2⟩
theorem NF.last:∀{a:O},NF a->NF (O.last a)
 | z,_=>trivial
 | c _ _ z,h=>⟨h.1,h.2.1,trivial,trivial⟩
 | c x n (c x' n' r'),h=>by
   have e0:O.last (c x n (c x' n' r'))=O.last (c x' n' r'):=by simp[O.last]
   rw[e0];exact NF.last h.2.2.2
end O
namespace O
theorem d7 (a:O):¬cmp a a<0:=by rw[cmp_self];lia
theorem oS (x:O):same x z=0:=rfl
theorem same_eq (e:O) (n:Int) (r:O):same e (c e n r)=n+same e r:=by simp[same]
theorem same_ne {x e:O} (h:e≠x) (n:Int) (r:O):same x (c e n r)=same x r:=by simp[same,h]
theorem cx {e x:O} (hx:¬cmp x e<0):∀{r:O},Lt e r->same x r=0
 | z,_=>rfl
 | c y n t,h=>by
   have hy:y≠x:=λk=>hx (k▸h.1);rw[same_ne hy];exact cx hx h.2
theorem same_self {e:O} {n:Int} {r:O} (h:Lt e r):same e (c e n r)=n:=by
 rw[same_eq,cx (d7 e) h];lia
theorem bf {x e:O} {n:Int} {r:O} (h:Lt e r) (hx:0<cmp x e):same x (c e n r)=0:=by
 have hne:e≠x:=λk=>by subst k;rw[cmp_self] at hx;lia
 rw[same_ne hne,cx (by lia) h]
theorem fu {x:O}:∀{a b:O},NF a->NF b->same x a<same x b->(∀y,0<cmp y x->same y a=same y b)->cmp a b<0
 | z,z,_,_,h,_=>by simp[same] at h
 | z,c _ _ _,_,_,_,_=>by simp[cmp]
 | c e n r,z,ha,_,h,_=>by
   have:=same_nonneg x ha;rw[oS] at h;lia
 | c e n r,c e' n' r',ha,hb,h,hy=>by
   rcases cmp_range e e' with k | k | k
   ·rw[cmp,ycv (by (clear h;lia))];(clear h;lia)
   ·have k':=cmp_eq _ _ k;subst k';rw[cmp,ycw (by (clear h;lia))];rcases cmp_range x e with q | q | q
    ·have hne:e≠x:=λz=>by subst z;rw[cmp_self] at q;(clear k h;lia)
     have h1:=hy e (by have:=bb x e;(clear h k;lia));rw[same_self ha.2.2.1,same_self hb.2.2.1] at h1;subst h1;rw[ycw (by (clear k q h;lia)),ycw (by (clear k q h;lia))];rw[same_ne hne,same_ne hne] at h;refine fu ha.2.2.2 hb.2.2.2 h λy hyx=>?_
     by_cases hye:e=y
     ·subst hye;rw[cx (d7 e) ha.2.2.1,cx (d7 e) hb.2.2.1]
     ·have:=hy y hyx;rw[same_ne hye,same_ne hye] at this;exact this
    ·have q':=cmp_eq _ _ q;subst q';rw[same_self ha.2.2.1,same_self hb.2.2.1] at h;rw[ycv h];(clear h k q;lia)
    ·rw[bf ha.2.2.1 (by (clear h k;lia)),bf hb.2.2.1 (by (clear h k;lia))] at h
     (clear k q;lia)
   ·have hn:=ha.2.1;rcases cmp_range e x with q | q | q
    ·have qx:0<cmp x e:=by have:=bb e x;(clear h k hn;lia)
     have qx':0<cmp x e':=by
      have:=cm e' e x (by have:=bb e e';(clear h hn q qx;lia)) (by (clear h k hn qx;lia));have:=bb e' x
      (clear h k hn q qx;lia)
     rw[bf ha.2.2.1 qx,bf hb.2.2.1 qx'] at h
     (clear k hn q qx qx';lia)
    ·have q':=cmp_eq _ _ q;subst q';rw[same_self ha.2.2.1,bf hb.2.2.1 (by (clear hn h q;lia))] at h
     (clear k q;lia)
    ·have h1:=hy e (by (clear h k hn;lia));rw[same_self ha.2.2.1,bf hb.2.2.1 (by (clear h hn q h1;lia))] at h1
     (clear h k q;lia)
theorem d8:∀{a b:O},NF a->NF b->cmp a b<0->∃x,same x a<same x b/\∀y,0<cmp y x->same y a=same y b
 | z,z,_,_,h=>by simp[cmp] at h
 | z,c e n r,_,hb,_=>by
   refine⟨e,?_,λy hy=>?_⟩
   ·rw[same_self hb.2.2.1,oS];have:=hb.2.1;assumption
   ·rw[bf hb.2.2.1 hy,oS]
 | c _ _ _,z,_,_,h=>by simp[cmp] at h
 | c e n r,c e' n' r',ha,hb,h=>by
   rcases cmp_range e e' with k | k | k
   ·refine⟨e',?_,λy hy=>?_⟩
    ·rw[same_self hb.2.2.1,bf ha.2.2.1 (by have:=bb e e';(clear h;lia))];have:=hb.2.1;assumption
    ·have hy2:0<cmp y e:=by
      have:=cm e e' y (by (clear h hy;lia)) (by have:=bb y e';(clear h k;lia));have:=bb e y
      (clear h k hy;lia)
     rw[bf hb.2.2.1 hy,bf ha.2.2.1 hy2]
   ·have k':=cmp_eq _ _ k;subst k';rw[cmp,ycw (by (clear h;lia))] at h
    by_cases h1:n<n'
    ·refine⟨e,?_,λy hy=>?_⟩
     ·rw[same_self ha.2.2.1,same_self hb.2.2.1];exact h1
     ·rw[bf hb.2.2.1 hy,bf ha.2.2.1 hy]
    ·rw[ycw h1] at h
     by_cases h2:n'<n
     ·rw[ycv h2] at h;(clear k h1 h2;lia)
     ·rw[ycw h2] at h;have hn:n=n':=by (clear h k;lia)
      subst hn;obtain⟨x,hx,hy⟩:=d8 ha.2.2.2 hb.2.2.2 h;have hxe:cmp x e<0:=by
       refine Classical.byContradiction λq=>?_;rw[cx q ha.2.2.1,cx q hb.2.2.1] at hx
       (clear h k h1 h2 q;lia)
      have hne:e≠x:=λz=>by subst z;rw[cmp_self] at hxe;(clear h k h1 h2 hx;lia)
      refine⟨x,by rw[same_ne hne,same_ne hne];exact hx,λy hyx=>?_⟩
      by_cases hye:e=y
      ·subst hye;rw[same_self ha.2.2.1,same_self hb.2.2.1]
      ·rw[same_ne hye,same_ne hye];exact hy y hyx
   ·rw[cmp,ycv (by (clear h;lia))] at h;lia
theorem oU {a b:O} (ha:NF a) (hb:NF b) (h:∀x,same x a<=same x b):cmp a b<=0:=by
 rcases cmp_range a b with k | k | k
 ·lia
 ·lia
 ·have hs:=bb a b;obtain⟨x,hx,_⟩:=d8 hb ha (by lia);have:=h x
  (clear k hs;lia)
noncomputable def plusO:O->O->O
 | a,z=>a
 | a,c e n r=>app (filt (λx _=>decide (0<cmp x e)) a) (c e (same e a+n) r)
theorem mE:∀(x a b:O),same x (app a b)=same x a+same x b
 | x,z,b=>by simp[app,same]
 | x,c e n r,b=>by
   have:=mE x r b;show same x (c e n (app r b))=_
   by_cases h:e=x
   ·subst h;rw[same_eq,same_eq,this];(clear this;lia)
   ·rw[same_ne h,same_ne h,this]
theorem jX (p:O->Bool):∀(x a:O),same x (filt (λy _=>p y) a)=if p x then same x a else 0
 | x,z=>by simp[filt,same]
 | x,c e n r=>by
   have ih:=jX p x r;unfold filt
   by_cases hp:p e=true
   ·rw[ycv hp]
    by_cases h:e=x
    ·subst h;rw[same_eq,same_eq,ih,ycv hp,ycv hp]
    ·rw[same_ne h,same_ne h,ih]
   ·rw[ycw hp,ih]
    by_cases h:e=x
    ·subst h;rw[ycw hp,ycw hp]
    ·rw[same_ne h]
theorem NF.join' {e:O} {n:Int} {b:O} (he:NF e) (hn:1<=n) (hb:NF b) (hl:Lt e b) {a:O} (ha:NF a):NF (O.app (O.filt (λx _=>decide (0<cmp x e)) a) (c e n b)):=by
 refine NF.join he hn hb hl (λx hx=>?_) ha;have:∀{b:O},Lt e b->Lt x b:=by
  intro b
  induction b with
  | z=>exact λ_=>trivial
  | c y m t _ ih=>exact λh=>⟨cm y e x h.1 (by have:=bb x e;(clear hn;lia)),ih h.2⟩
 exact this hl
theorem NF.plus {a b:O} (ha:NF a) (hb:NF b):NF (plusO a b):=by
 cases b with
 | z=>exact ha
 | c e n r=>
   have:=same_nonneg e ha;exact NF.join' hb.1 (by have:=hb.2.1;lia) hb.2.2.2 hb.2.2.1 ha
theorem il {a e:O} {n:Int} {r:O} (hr:Lt e r) (x:O):same x (plusO a (c e n r))=if 0<cmp x e then same x a else if cmp x e<0 then same x (c e n r) else same x a+same x (c e n r):=by
 show same x (app _ _)=_;rw[mE,jX (λy=>decide (0<cmp y e))]
 by_cases h1:0<cmp x e
 ·rw[ycv (by simpa using h1),ycv h1,bf hr h1];(clear h1;lia)
 ·rw[ycw (by simpa using h1),ycw h1]
  by_cases h2:cmp x e<0
  ·have hne:e≠x:=λz=>by subst z;rw[cmp_self] at h2;(clear h1;lia)
   rw[ycv h2,same_ne hne,same_ne hne];(clear h1 h2;lia)
  ·have:cmp x e=0:=by lia
   have h3:=cmp_eq _ _ this;subst h3;rw[ycw h2,same_self hr,same_self hr];(clear h1 h2 this;lia)
end O
namespace O
noncomputable def yz (b y:O):Prop:=∃w,cmp y w<0/\same w b≠0
theorem Cn (y:O):¬yz z y:=λ⟨_,_,h⟩=>h rfl
theorem yA {e:O} {n:Int} {r y:O} (hn:1<=n) (hr:Lt e r):yz (c e n r) y↔cmp y e<0:=by
 constructor
 ·rintro⟨w,hw,hs⟩;have:¬0<cmp w e:=λk=>hs (bf hr k);rcases cmp_range w e with k | k | k
  ·exact cm y w e hw (by (clear hn hw hs this;lia))
  ·rw[cmp_eq _ _ k] at hw;exact hw
  ·(clear hn hw hs;lia)
 ·intro h;exact⟨e,h,by rw[same_self hr];(clear h;lia)⟩
theorem dq {a b y:O} (hb:NF b) (h:yz b y):same y (plusO a b)=same y b:=by
 cases b with
 | z=>exact absurd h (Cn y)
 | c e n r=>
   have h':=(yA hb.2.1 hb.2.2.1).mp h;rw[il hb.2.2.1,ycw (by lia),ycv h']
theorem cV {a b y:O} (hb:NF b) (h:¬yz b y):same y (plusO a b)=same y b+same y a:=by
 cases b with
 | z=>show same y a=0+same y a;lia
 | c e n r=>
   have h':¬cmp y e<0:=λk=>h ((yA hb.2.1 hb.2.2.1).mpr k);rw[il hb.2.2.1]
   by_cases k:0<cmp y e
   ·rw[ycv k,bf hb.2.2.1 k];(clear h' k;lia)
   ·rw[ycw k,ycw h'];(clear h' k;lia)
theorem jY {b d x y:O} (h:∀y,0<cmp y x->same y b=same y d) (hy:¬cmp y x<0):yz b y↔yz d y:=by
 have go:∀w,cmp y w<0->0<cmp w x:=λw hw=>by
  have hs:=bb w x;rcases cmp_range y x with k | k | k
  ·(clear hw hs;lia)
  ·rw[cmp_eq _ _ k] at hw;(clear hy k;lia)
  ·have h3:=cm x y w (by have:=bb y x;(clear hy hw hs;lia)) hw
   (clear hy hw k;lia)
 constructor
 ·rintro⟨w,hw,hs⟩;exact⟨w,hw,by rw[←h w (go w hw)];exact hs⟩
 ·rintro⟨w,hw,hs⟩;exact⟨w,hw,by rw[h w (go w hw)];exact hs⟩
theorem pV {a b d:O} (ha:NF a) (hb:NF b) (hd:NF d) (h:cmp b d<0):cmp (plusO a b) (plusO a d)<0:=by
 obtain⟨x,hx,hy⟩:=d8 hb hd h;refine fu (x:=x) (ha.plus hb) (ha.plus hd) ?_ λy hyx=>?_
 ·have q:=jY hy (d7 x)
  by_cases k:yz b x
  ·rw[dq hb k,dq hd (q.mp k)];exact hx
  ·rw[cV hb k,cV hd (λz=>k (q.mpr z))];(clear h;lia)
 ·have q:=jY (y:=y) hy (by (clear h hx;lia))
  by_cases k:yz b y
  ·rw[dq hb k,dq hd (q.mp k)];exact hy y hyx
  ·rw[cV hb k,cV hd (λz=>k (q.mpr z)),hy y hyx]
theorem rL {f:O->O} {b d:O} (h1:cmp b d<0->cmp (f b) (f d)<0) (h2:cmp d b<0->cmp (f d) (f b)<0):cmp (f b) (f d)=cmp b d:=by
 rcases cmp_range b d with k | k | k
 ·have:=h1 (by lia);rcases cmp_range (f b) (f d) with q | q | q<;> lia
 ·rw[cmp_eq _ _ k,cmp_self,cmp_self]
 ·have:=h2 (by have:=bb b d;lia);have:=bb (f d) (f b);rcases cmp_range (f b) (f d) with q | q | q<;> lia
theorem ji {a b d:O} (ha:NF a) (hb:NF b) (hd:NF d):cmp (plusO a b) (plusO a d)=cmp b d:=rL (pV ha hb hd) (pV ha hd hb)
theorem Lt.mono {e f:O} (h:cmp e f<0):∀{r:O},Lt e r->Lt f r
 | z,_=>trivial
 | c _ _ _,k=>⟨cm _ _ _ k.1 h,Lt.mono h k.2⟩
end O
namespace O
noncomputable def getP:O->Nat->Option (O×Int)
 | z,_=>none
 | c e n _,0=>some (e,n)
 | c _ _ r,i+1=>getP r i
noncomputable def dropO:Nat->O->O
 | 0,a=>a
 | _+1,z=>z
 | i+1,c _ _ r=>dropO i r
theorem getP_none:∀{a:O} {i:Nat},getP a i=none↔a.len<=i
 | z,i=>by simp[getP,len]
 | c e n r,0=>by simp[getP,len]
 | c e n r,i+1=>by
   have:=getP_none (a:=r) (i:=i);simp only[getP,len,this];(clear this;lia)
theorem getP_some {a:O} (h:i<a.len):∃e n,getP a i=some (e,n):=by
 cases k:getP a i with
 | none=>rw[getP_none] at k;lia
 | some p=>exact⟨p.1,p.2,rfl⟩
theorem dropO_get:∀{a:O} {i:Nat} {e:O} {n:Int},getP a i=some (e,n)->dropO i a=c e n (dropO (i+1) a)
 | z,_,_,_,h=>by simp[getP] at h
 | c e n r,0,_,_,h=>by simp[getP] at h;obtain⟨rfl,rfl⟩:=h;simp[dropO]
 | c e n r,i+1,x,m,h=>by
   have:=dropO_get (a:=r) (i:=i) (e:=x) (n:=m) (by simpa[getP] using h);simpa[dropO] using this
theorem len_dropO:∀(i:Nat) (a:O),(dropO i a).len=a.len-i
 | 0,a=>rfl
 | _+1,z=>by simp[dropO,len]
 | i+1,c e n r=>by
   have:=len_dropO i r;simp only[dropO,len,this];lia
theorem getP_size:∀{a:O} {i:Nat} {e:O} {n:Int},getP a i=some (e,n)->e.size<a.size/\e.dp<a.dp
 | z,_,_,_,h=>by simp[getP] at h
 | c e n r,0,_,_,h=>by simp[getP] at h;obtain⟨rfl,rfl⟩:=h;simp only[size,dp];lia
 | c e n r,i+1,x,m,h=>by
   have:=getP_size (a:=r) (i:=i) (e:=x) (n:=m) (by simpa[getP] using h);simp only[size,dp];lia
theorem pW:∀{a:O} {i:Nat} {e:O} {n:Int},NF a->getP a i=some (e,n)->NF e/\1<=n
 | z,_,_,_,_,h=>by simp[getP] at h
 | c e n r,0,_,_,ha,h=>by simp[getP] at h;obtain⟨rfl,rfl⟩:=h;exact⟨ha.1,ha.2.1⟩
 | c e n r,i+1,x,m,ha,h=>pW (a:=r) (i:=i) ha.2.2.2 (by simpa[getP] using h)
noncomputable def stay (e a:O):Nat:=(filt (λx _=>decide (0<cmp x e)) a).len
theorem cW {y e:O} (h:¬0<cmp y e):∀{r:O},Lt y r->filt (λx _=>decide (0<cmp x e)) r=z
 | z,_=>rfl
 | c x n t,k=>by
   have hx:¬0<cmp x e:=λq=>by
    have h1:=bb x e;have h2:=cm e x y (by (clear h;lia)) k.1;have h3:=bb e y
    (clear q h1;lia)
   unfold filt;rw[ycw (by simpa using hx)];exact cW h k.2
theorem filt_c (p:O->Int->Bool) (e:O) (n:Int) (r:O):filt p (c e n r)=if p e n then c e n (filt p r) else filt p r:=rfl
theorem eU {e y:O} {n:Int} {r:O} (h:0<cmp y e):stay e (c y n r)=stay e r+1:=by
 unfold stay;rw[filt_c,ycv (by simpa using h)]
 rfl
theorem eV {e y:O} {n:Int} {r:O} (h:¬0<cmp y e) (hr:Lt y r):stay e (c y n r)=0:=by
 unfold stay;rw[filt_c,ycw (by simpa using h),cW h hr]
 rfl
theorem stay_le {e:O}:∀{a:O},stay e a<=a.len
 | z=>ycx _
 | c y n r=>by
   have:=stay_le (e:=e) (a:=r);unfold stay at this ⊢;unfold filt;split<;> simp only[len]<;> lia
theorem above_iff {e:O}:∀{a:O} {i:Nat} {x:O} {n:Int},NF a->getP a i=some (x,n)->(0<cmp x e↔i<stay e a)
 | z,_,_,_,_,h=>by simp[getP] at h
 | c y m r,0,x,n,ha,h=>by
   simp[getP] at h;obtain⟨rfl,rfl⟩:=h
   by_cases k:0<cmp y e
   ·rw[eU k];exact⟨λ_=>by (clear k;lia),λ_=>k⟩
   ·rw[eV k ha.2.2.1];exact⟨λq=>absurd q k,λq=>by (clear k;lia)⟩
 | c y m r,i+1,x,n,ha,h=>by
   have h':getP r i=some (x,n):=by simpa[getP] using h
   have ih:=above_iff (e:=e) ha.2.2.2 h'
   by_cases k:0<cmp y e
   ·rw[eU k,ih];(clear ih k;lia)
   ·rw[eV k ha.2.2.1];constructor
    ·intro q;have z0:stay e r=0:=by unfold stay;rw[cW k ha.2.2.1];rfl
     have:=ih.mp q
     (clear ih k q;lia)
    ·intro q;(clear ih k;lia)
theorem same_stay {e:O}:∀{a:O},NF a->same e a=match getP a (stay e a) with | some (x,m)=>if x=e then m else 0 | none=>0
 | z,_=>rfl
 | c y n r,ha=>by
   by_cases k:0<cmp y e
   ·have hne:y≠e:=λq=>by subst q;rw[cmp_self] at k;lia
    rw[eU k,same_ne hne,same_stay ha.2.2.2]
    rfl
   ·rw[eV k ha.2.2.1];show _=if y=e then n else 0
    by_cases q:y=e
    ·subst q;rw[ycv rfl,same_self ha.2.2.1]
    ·rw[ycw q,same_ne q];refine cx (λhl=>?_) ha.2.2.1;have h1:=bb e y;lia
noncomputable def takeO:Nat->O->O
 | 0,_=>z
 | _+1,z=>z
 | i+1,c e n r=>c e n (takeO i r)
theorem take_stay {e:O}:∀{a:O},NF a->takeO (stay e a) a=filt (λx _=>decide (0<cmp x e)) a
 | z,_=>rfl
 | c y n r,ha=>by
   by_cases k:0<cmp y e
   ·rw[eU k,filt_c,ycv (by simpa using k),takeO,take_stay ha.2.2.2]
   ·rw[eV k ha.2.2.1,filt_c,ycw (by simpa using k),cW k ha.2.2.1]
    rfl
theorem size_with (a e:O) (n:Int):(withO a e n).size<=2*a.size+e.size+1:=by
 unfold withO;rw[mD];have h1:=ik (λx _=>decide (0<cmp x e)) a;have h2:=ik (λx _=>decide (cmp x e<0)) a;simp only[size];lia
end O
namespace O
noncomputable def mx:O->Int
 | z=>0
 | c e n r=>max n (max (mx e) (mx r))
theorem mx_c (e:O) (n:Int) (r:O):mx (c e n r)=max n (max (mx e) (mx r)):=rfl
theorem mx_hn {e:O} {n:Int} {r:O}:n<=mx (c e n r):=Int.le_max_left _ _
theorem mx_he {e:O} {n:Int} {r:O}:mx e<=mx (c e n r):=ydv (Int.le_max_left _ _) (Int.le_max_right _ _)
theorem mF {e:O} {n:Int} {r:O}:mx r<=mx (c e n r):=ydv (Int.le_max_right _ _) (Int.le_max_right _ _)
theorem oV {e:O} {n:Int} {r:O} {B:Int} (h1:n<=B) (h2:mx e<=B) (h3:mx r<=B):mx (c e n r)<=B:=Int.max_le.mpr ⟨h1,Int.max_le.mpr ⟨h2,h3⟩⟩
theorem mx_nonneg:∀a:O,0<=mx a
 | z=>Int.le_refl _
 | c _ _ r=>ydv (mx_nonneg r) mF
theorem oW:∀a b:O,mx (app a b)=max (mx a) (mx b)
 | z,b=>by have:=mx_nonneg b;show mx b=max 0 (mx b);lia
 | c e n r,b=>by
   show mx (c e n (app r b))=_;rw[mx_c,oW r b,mx_c,Int.max_assoc,Int.max_assoc]
theorem mx_filt (p:O->Int->Bool):∀a:O,mx (filt p a)<=mx a
 | z=>Int.le_refl _
 | c e n r=>by
   have:=mx_filt p r;rw[filt_c];split
   ·exact oV mx_hn mx_he (ydv this mF)
   ·exact ydv this mF
theorem same_le_mx (x:O):∀{a:O},NF a->same x a<=mx a
 | z,_=>Int.le_refl _
 | c e n r,h=>by
   have h1:=same_le_mx x h.2.2.2;rw[mx_c]
   by_cases k:e=x
   ·subst k;rw[same_self h.2.2.1];(clear h1;lia)
   ·rw[same_ne k];lia
theorem wz {a e:O} {n:Int} (ha:NF a):mx (withO a e n)<=max (mx a+max n 0) (mx e):=by
 unfold withO;have h1:=mx_filt (λx _=>decide (0<cmp x e)) a;have h2:=mx_filt (λx _=>decide (cmp x e<0)) a;have h3:=same_le_mx e ha;have h4:=mx_nonneg a;rw[oW,mx_c]
 (clear h4;lia)
theorem pX:∀a:O,mx (init a)<=mx a
 | z=>Int.le_refl _
 | c _ _ z=>by simp only[init];exact mx_nonneg _
 | c e n (c e' n' r')=>by
   have h:=pX (c e' n' r');have e0:init (c e n (c e' n' r'))=c e n (init (c e' n' r')):=by simp[init]
   rw[e0,mx_c,mx_c e];lia
theorem pY:∀a:O,mx (last a)<=mx a
 | z=>Int.le_refl _
 | c _ _ z=>by simp[last]
 | c e n (c e' n' r')=>by
   have h:=pY (c e' n' r');have e0:last (c e n (c e' n' r'))=last (c e' n' r'):=by simp[last]
   rw[e0,mx_c e];lia
theorem pZ:∀{a:O} {i:Nat} {e:O} {n:Int},getP a i=some (e,n)->mx e<=mx a/\n<=mx a
 | z,_,_,_,h=>by simp[getP] at h
 | c e n r,0,_,_,h=>by simp[getP] at h;obtain⟨rfl,rfl⟩:=h;rw[mx_c];lia
 | c e n r,i+1,x,m,h=>by
   have:=pZ (a:=r) (i:=i) (e:=x) (n:=m) (by simpa[getP] using h);rw[mx_c];lia
theorem oY:∀a b:O,dp (app a b)=max (dp a) (dp b)
 | z,b=>by show dp b=max 0 (dp b);lia
 | c e n r,b=>by
   show dp (c e n (app r b))=_;simp only[dp,oY r b];rw[Nat.max_assoc]
theorem dp_filt (p:O->Int->Bool):∀a:O,dp (filt p a)<=dp a
 | z=>ycx _
 | c e n r=>by
   have:=dp_filt p r;rw[filt_c];split<;> simp only[dp]<;> lia
theorem dp_with (a e:O) (n:Int):dp (withO a e n)<=max (dp a) (dp e+1):=by
 unfold withO;have h1:=dp_filt (λx _=>decide (0<cmp x e)) a;have h2:=dp_filt (λx _=>decide (cmp x e<0)) a;rw[oY];simp only[dp];lia
theorem dp_plus (a b:O):dp (plusO a b)<=max (dp a) (dp b):=by
 cases b with
 | z=>show dp a<=_;lia
 | c e n r=>
   show dp (app _ _)<=_;rw[oY];have:=dp_filt (λx _=>decide (0<cmp x e)) a;simp only[dp];lia
structure Good (B:Int) (o:O):Prop where
 nf:NF o
 sz:o.size<=24
 mx:O.mx o<=B
theorem Good.dp {B:Int} {o:O} (h:Good B o):o.dp<=24:=ycy (dp_le_size o) h.sz
theorem Good.mono {B B':Int} {o:O} (h:Good B o) (k:B<=B'):Good B' o:=⟨h.nf,h.sz,ydv h.mx k⟩
theorem Good.init {B:Int} {o:O} (h:Good B o):Good B (O.init o):=⟨h.nf.init,ycy (size_init o) h.sz,ydv (pX o) h.mx⟩
theorem Good.last {B:Int} {o:O} (h:Good B o):Good B (O.last o):=⟨h.nf.last,ycy (size_last o) h.sz,ydv (pY o) h.mx⟩
theorem Good.whole {B n:Int} (h1:1<=n) (h2:n<=B):Good B (c z n z):=⟨⟨trivial,h1,trivial,trivial⟩,by simp[size],by rw[mx_c];show max n (max 0 0)<=B;lia⟩
theorem Good.part {B:Int} {o e:O} {n:Int} (h:Good B o) (k:getP o i=some (e,n)):Good B e/\1<=n/\n<=B:=by
 have h1:=getP_size k;have h2:=pW h.nf k;have h3:=pZ k;have:=h.mx;have:=h.sz;exact⟨⟨h2.1,by (clear h2 h3;lia),by (clear h1 h2 this;lia)⟩,h2.2,by (clear h1 h2 this;lia)⟩
theorem Good.with {B n:Int} {o e:O} (h:Good B o) (he:Good B e) (hn:1<=n) (hs:(withO o e n).size<=24):Good (B+n) (withO o e n):=
 ⟨h.nf.withO he.nf hn,hs,by have:=wz (e:=e) (n:=n) h.nf;have:=h.mx;have:=he.mx;(clear hs;lia)⟩
end O
namespace O
theorem ue:∀a:O,plusO z a=a
 | z=>rfl
 | c e n r=>by
   simp[plusO,filt,app,same]
theorem oZ (a:O):plusO a z=a:=rfl
theorem plus_c (a e:O) (n:Int) (r:O):plusO a (c e n r)=app (filt (λx _=>decide (0<cmp x e)) a) (c e (same e a+n) r):=rfl
noncomputable def minusO:O->O->O
 | a,z=>a
 | z,_=>z
 | c e n r,c e' n' r'=>if e=e' then (if n=n' then minusO r r' else c e (n-n') r) else c e n r
theorem eW (a:O):minusO a z=a:=by cases a<;> rfl
theorem Lt.minus {g:O}:∀{a b:O},Lt g a->Lt g (minusO a b)
 | a,z,h=>by rw[eW];exact h
 | z,c _ _ _,h=>h
 | c e n r,c e' n' r',h=>by
   unfold minusO;split
   ·split
    ·exact Lt.minus h.2
    ·exact h
   ·exact h
theorem NF.minus:∀{a b:O},NF a->cmp b a<=0->NF (minusO a b)
 | a,z,h,_=>by rw[eW];exact h
 | z,c _ _ _,h,_=>h
 | c e n r,c e' n' r',h,k=>by
   unfold minusO;split
   ·rename_i q;subst q;rw[cmp,ycw (by rw[cmp_self];simp)] at k;split
    ·rename_i q2;subst q2;rw[ycw (by (clear k;lia)),ycw (by (clear k;lia))] at k;exact NF.minus h.2.2.2 k
    ·rename_i q2;have:n'<n:=by
      rcases Int.lt_trichotomy n' n with j | j | j
      ·exact j
      ·exact absurd j.symm q2
      ·rw[ycw (by (clear k q2;lia)),ycv j] at k;(clear q2 j;lia)
     exact⟨h.1,by (clear k q2;lia),h.2.2.1,h.2.2.2⟩
   ·exact h
theorem iE {e:O} {n:Int} {r:O} (hr:Lt e r) {f:O} (h:cmp e f<=0):filt (λx _=>decide (0<cmp x f)) (c e n r)=z:=by
 rw[filt_c,ycw (by simp;assumption),cW (by lia) hr]
theorem gt:∀{a b:O},NF a->NF b->cmp b a<=0->plusO b (minusO a b)=a
 | a,z,_,_,_=>by rw[eW,ue]
 | z,c _ _ _,_,_,h=>by simp[cmp] at h
 | c e n r,c e' n' r',ha,hb,h=>by
   unfold minusO
   by_cases q:e=e'
   ·subst q;rw[cmp,ycw (by rw[cmp_self];simp)] at h;rw[ycv rfl]
    by_cases q2:n=n'
    ·subst q2;rw[ycw (by (clear h;lia)),ycw (by (clear h;lia))] at h;rw[ycv rfl];have ih:=gt ha.2.2.2 hb.2.2.2 h;have hl:Lt e (minusO r r'):=ha.2.2.1.minus;cases k:minusO r r' with
     | z=>
       rw[k,oZ] at ih;rw[oZ,ih]
     | c f m t=>
       rw[k] at ih hl;have hf:0<cmp e f:=by have:=bb e f;have:=hl.1;(clear h;lia)
       have hne:e≠f:=λz=>by subst z;rw[cmp_self] at hf;(clear h;lia)
       rw[plus_c] at ih ⊢;rw[filt_c,ycv (by simpa using hf),same_ne hne];show c e n (app _ _)=_;rw[ih]
    ·rw[ycw q2];have hlt:n'<n:=by
      rcases Int.lt_trichotomy n' n with j | j | j
      ·exact j
      ·exact absurd j.symm q2
      ·rw[ycw (by (clear h q2;lia)),ycv j] at h;(clear q2 j;lia)
     rw[plus_c,iE hb.2.2.1 (by rw[cmp_self];(clear h q2 hlt;lia)),same_self hb.2.2.1];show c e (n'+(n-n')) r=_;have e1:n'+(n-n')=n:=by (clear h q2 hlt;lia)
     rw[e1]
   ·rw[ycw q];have hk:cmp e' e<0:=by
     rcases cmp_range e' e with j | j | j
     ·(clear h;lia)
     ·exact absurd (cmp_eq _ _ j).symm q
     ·rw[cmp,ycv (by (clear h;lia))] at h;lia
    rw[plus_c,iE hb.2.2.1 (by (clear h;lia)),bf hb.2.2.1 (by have:=bb e' e;(clear h;lia))];show c e (0+n) r=_;rw[Int.zero_add]
theorem wA {a:O} (h:a≠z):cmp z a<0:=by
 cases a with
 | z=>exact absurd rfl h
 | c _ _ _=>simp[cmp]
theorem p0 {e f:O} (he:NF e) (hf:NF f) (h:f≠z):cmp e (plusO e f)<0:=by
 have:=ji (b:=z) he trivial hf;rw[oZ] at this;have:=wA h;lia
noncomputable def mulP (e:O) (n:Int) (r:O):O->O
 | z=>z
 | c f d t=>if f=z then c e (n*d) r else c (plusO e f) d (mulP e n r t)
noncomputable def timesO:O->O->O
 | z,_=>z
 | c e n r,b=>mulP e n r b
theorem mulP_c (e:O) (n:Int) (r f:O) (d:Int) (t:O):mulP e n r (c f d t)=if f=z then c e (n*d) r else c (plusO e f) d (mulP e n r t):=rfl
theorem p7 {e:O} {n:Int} {r:O} (he:NF e) (hr:Lt e r) {f:O} (hf:NF f) (h0:f≠z):∀{t:O},NF t->Lt f t->Lt (plusO e f) (mulP e n r t)
 | z,_,_=>trivial
 | c g d u,ht,hl=>by
   rw[mulP_c];split
   ·exact⟨p0 he hf h0,hr.mono (p0 he hf h0)⟩
   ·exact⟨by rw[ji he ht.1 hf];exact hl.1,p7 he hr hf h0 ht.2.2.2 hl.2⟩
theorem o0 {a b:Int} (ha:1<=a) (hb:1<=b):1<=a*b:=by
 have:=Int.mul_le_mul ha hb (by (clear ha hb;lia)) (by (clear hb;lia));simpa using this
theorem p9 {e:O} {n:Int} {r:O} (h:NF (c e n r)):∀{t:O},NF t->NF (mulP e n r t)
 | z,_=>trivial
 | c g d u,ht=>by
   rw[mulP_c];split
   ·exact⟨h.1,o0 h.2.1 ht.2.1,h.2.2.1,h.2.2.2⟩
   ·rename_i hg;exact⟨h.1.plus ht.1,ht.2.1,p7 h.1 h.2.2.1 ht.1 hg ht.2.2.2 ht.2.2.1,p9 h ht.2.2.2⟩
theorem NF.times {a b:O} (ha:NF a) (hb:NF b):NF (timesO a b):=by
 cases a with
 | z=>exact trivial
 | c e n r=>exact p9 ha hb
theorem Lt_z {t:O} (h:Lt z t):t=z:=by
 cases t with
 | z=>rfl
 | c x _ _=>
   have:=h.1;cases x<;> simp[cmp] at this
section
variable {e:O} {n:Int} {r:O}
end
end O
namespace O
section
variable {e:O} {n:Int} {r:O}
end
end O
namespace O
end O
namespace O
noncomputable def hw:O->Nat
 | z=>0
 | c e _ r=>max (len r+1) (max (hw e) (hw r))
theorem hw_c (e:O) (n:Int) (r:O):hw (c e n r)=max (len r+1) (max (hw e) (hw r)):=rfl
theorem len_le_hw:∀a:O,len a<=hw a
 | z=>ycx _
 | c e n r=>by rw[hw_c];simp only[len];lia
theorem hw_le_size:∀a:O,hw a<=size a
 | z=>ycx _
 | c e n r=>by
   have h1:=hw_le_size e;have h2:=hw_le_size r;have h3:=len_le_size r;rw[hw_c];simp only[size];lia
theorem mI:∀a b:O,(app a b).len=a.len+b.len
 | z,b=>by simp[app,len]
 | c e n r,b=>by have:=mI r b;simp only[app,len];lia
theorem im (p:O->Int->Bool):∀a:O,(a.filt p).len<=a.len
 | z=>ycx _
 | c e n r=>by
   have:=im p r;rw[filt_c];split<;> simp only[len]<;> lia
theorem uf:∀a b:O,hw (app a b)<=max (len a+len b) (max (hw a) (hw b))
 | z,b=>by show hw b<=_;lia
 | c e n r,b=>by
   have ih:=uf r b;show hw (c e n (app r b))<=_;have l0:len (c e n r)=len r+1:=rfl;have b1:hw e<=hw (c e n r):=ycy (le_max_left _ _) (le_max_right _ _);have b2:hw r<=hw (c e n r):=ycy (le_max_right _ _) (le_max_right _ _);have c1:len (c e n r)+len b<=max (len (c e n r)+len b) (max (hw (c e n r)) (hw b)):=le_max_left _ _;have c2:hw (c e n r)<=max (len (c e n r)+len b) (max (hw (c e n r)) (hw b)):=ycy (le_max_left _ _) (le_max_right _ _);have c3:hw b<=max (len (c e n r)+len b) (max (hw (c e n r)) (hw b)):=ycy (le_max_right _ _) (le_max_right _ _);generalize max (len (c e n r)+len b) (max (hw (c e n r)) (hw b))=R at c1 c2 c3 ⊢;rw[hw_c,mI];refine max_le.mpr ⟨by (clear ih b1 b2 c2 c3;lia),max_le.mpr ⟨ycy b1 c2,ycy ih (max_le.mpr ⟨by (clear ih b1 b2 c2 c3;lia),max_le.mpr ⟨ycy b2 c2,c3⟩⟩)⟩⟩
theorem hw_filt (p:O->Int->Bool):∀a:O,hw (filt p a)<=hw a
 | z=>ycx _
 | c e n r=>by
   have ih:=hw_filt p r;have h:=im p r;rw[filt_c];split
   ·rw[hw_c,hw_c];exact max_le.mpr ⟨ycy (Nat.succ_le_succ h) (le_max_left _ _),ycy (max_le.mpr ⟨le_max_left _ _,ycy ih (le_max_right _ _)⟩) (le_max_right _ _)⟩
   ·exact ycy ih (ycy (le_max_right _ _) (le_max_right _ _))
theorem hw_plus (a b:O):hw (plusO a b)<=hw a+hw b:=by
 cases b with
 | z=>show hw a<=_;lia
 | c e n r=>
   rw[plus_c];have h1:=uf (filt (λx _=>decide (0<cmp x e)) a) (c e (same e a+n) r);have h2:=hw_filt (λx _=>decide (0<cmp x e)) a;have h3:=im (λx _=>decide (0<cmp x e)) a;have h4:=len_le_hw a;have h5:=len_le_hw (c e n r);have e1:hw (c e (same e a+n) r)=hw (c e n r):=rfl;have e2:len (c e (same e a+n) r)=len (c e n r):=rfl;rw[e1,e2] at h1;exact ycy h1 (max_le.mpr ⟨by (clear h1 h2;lia),max_le.mpr ⟨by (clear h1 h3 h4 h5 e2;lia),by (clear h1 h3 h4 h5 e1 e2;lia)⟩⟩)
theorem qc (e:O) (n:Int) (r:O):∀b:O,(mulP e n r b).len<=b.len+r.len
 | z=>by simp[mulP,len]
 | c f d t=>by
   have ih:=qc e n r t;rw[mulP_c];split<;> simp only[len]<;> lia
theorem ug (e:O) (n:Int) (r:O):∀b:O,hw (mulP e n r b)<=hw (c e n r)+hw b
 | z=>by simp[mulP,hw]
 | c f d t=>by
   have ih:=ug e n r t;have h1:=hw_plus e f;have h2:=qc e n r t;have h3:=len_le_hw t;have h4:hw e<=hw (c e n r):=ycy (le_max_left _ _) (le_max_right _ _);have h5:len r+1<=hw (c e n r):=le_max_left _ _;have h6:hw f<=hw (c f d t):=ycy (le_max_left _ _) (le_max_right _ _);have h7:hw t<=hw (c f d t):=ycy (le_max_right _ _) (le_max_right _ _);have h8:len t+1<=hw (c f d t):=le_max_left _ _;rw[mulP_c];split
   ·have e1:hw (c e (n*d) r)=hw (c e n r):=rfl;rw[e1];(clear ih h1 h2 h3 h4 h5 h6 h7 h8 e1;lia)
   ·rw[hw_c (plusO e f)];exact max_le.mpr ⟨by (clear ih h1 h3 h4 h6 h7;lia),max_le.mpr ⟨by (clear ih h2 h3 h5 h7 h8;lia),by (clear h1 h2 h3 h4 h5 h6 h8;lia)⟩⟩
theorem hw_times (a b:O):hw (timesO a b)<=hw a+hw b:=by
 cases a with
 | z=>show hw z<=_;exact zero_le _
 | c e n r=>exact ug e n r b
theorem qd (e:O) (n:Int) (r:O):∀b:O,(mulP e n r b).dp<=max (dp (c e n r)) (b.dp)
 | z=>by simp[mulP,dp]
 | c f d t=>by
   have ih:=qd e n r t;have h:=dp_plus e f;have h1:dp e+1<=dp (c e n r):=le_max_left _ _;have h2:dp f+1<=dp (c f d t):=le_max_left _ _;have h3:dp t<=dp (c f d t):=le_max_right _ _;rw[mulP_c];split
   ·have e1:dp (c e (n*d) r)=dp (c e n r):=rfl;rw[e1];exact le_max_left _ _
   ·refine max_le.mpr ⟨?_,ycy ih (max_le.mpr ⟨le_max_left _ _,ycy h3 (le_max_right _ _)⟩)⟩;rcases Nat.le_total (dp e) (dp f) with k | k
    ·rw[Nat.max_eq_right k] at h;exact ycy (Nat.succ_le_succ h) (ycy h2 (le_max_right _ _))
    ·rw[Nat.max_eq_left k] at h;exact ycy (Nat.succ_le_succ h) (ycy h1 (le_max_left _ _))
theorem dp_times (a b:O):dp (timesO a b)<=max (dp a) (dp b):=by
 cases a with
 | z=>show dp z<=_;exact zero_le _
 | c e n r=>exact qd e n r b
theorem wB {a b:O} (ha:NF a):mx (plusO a b)<=mx a+mx b:=by
 have h0:=mx_nonneg a;cases b with
 | z=>show mx a<=mx a+0;(clear h0;lia)
 | c e n r=>
   rw[plus_c,oW,mx_c,mx_c];have h2:=mx_filt (λx _=>decide (0<cmp x e)) a;have h3:=same_le_mx e ha;have e1:n<=max n (max (mx e) (mx r)):=mx_hn (e:=e) (r:=r);have e2:max (mx e) (mx r)<=max n (max (mx e) (mx r)):=Int.le_max_right _ _;have e3:0<=max n (max (mx e) (mx r)):=mx_nonneg (c e n r);generalize max n (max (mx e) (mx r))=M at e1 e2 e3 ⊢;refine Int.max_le.mpr ⟨ydv h2 (Int.le_add_of_nonneg_right e3),Int.max_le.mpr ⟨Int.add_le_add h3 e1,ydv e2 (Int.le_add_of_nonneg_left h0)⟩⟩
theorem uh {e:O} {n:Int} {r:O} (h:NF (c e n r)):∀{b:O},NF b->mx (mulP e n r b)<=(mx (c e n r)+1)*(mx b+1)
 | z,_=>by
   have:=mx_nonneg (c e n r);show(0:Int)<=(mx (c e n r)+1)*(0+1);lia
 | c f d t,hb=>by
   have ih:=uh h hb.2.2.2;have hp:=wB (a:=e) (b:=f) h.1;have n0:=mx_nonneg (c e n r);have n1:=mx_nonneg f;have n2:=mx_nonneg t;have hd:=hb.2.1;have hn:=h.2.1;obtain⟨A,hA⟩:∃A,A=mx (c e n r):=⟨_,rfl⟩;rw[←hA] at ih n0 ⊢;rw[mx_c] at hA;have k1:(A+1)*(mx t+1)<=(A+1)*(mx (c f d t)+1):=Int.mul_le_mul_of_nonneg_left (Int.add_le_add_right mF 1) (Int.le_add_one n0);have e1:mx e<=A:=by rw[hA];exact mx_he
   have e2:mx r<=A:=by rw[hA];exact mF
   have e3:n<=A:=by rw[hA];exact mx_hn
   have e4:mx f<=mx (c f d t):=mx_he;have e5:d<=mx (c f d t):=mx_hn;have e6:=mx_nonneg (c f d t);clear hA n1 n2 hn;generalize mx (c f d t)=M at k1 e4 e5 e6 ⊢;have k2:A+M<=(A+1)*(M+1):=by
    have:=Int.mul_nonneg n0 e6;rw[Int.mul_add,Int.add_mul];generalize A*M=P at this ⊢;clear ih hp hd k1 e1 e2 e3 e4 e5
    (clear n0 e6;lia)
   have k5:A<=(A+1)*(M+1):=ydv (Int.le_add_of_nonneg_right e6) k2;rw[mulP_c];split
   ·exact oV (Int.mul_le_mul (ydv e3 (Int.le_add_one (Int.le_refl A))) (ydv e5 (Int.le_add_one (Int.le_refl M))) (Int.le_of_lt hd) (Int.le_add_one n0)) (ydv e1 k5) (ydv e2 k5)
   ·exact oV (ydv (ydv e5 (Int.le_add_of_nonneg_left n0)) k2) (ydv (ydv hp (Int.add_le_add e1 e4)) k2) (ydv ih k1)
end O
namespace O
noncomputable def mJ:O->O
 | z=>z
 | c e n z=>if n=1 then z else c e (n-1) z
 | c e n (c e' n' r')=>c e n (mJ (c e' n' r'))
noncomputable def jj:O->O
 | z=>z
 | c e _ z=>e
 | c _ _ (c e' n' r')=>jj (c e' n' r')
noncomputable def Gz (a:O):Prop:=a≠z/\same z a=0
inductive A8:O->Int->O->Prop where
 | suc {a:O} {n:Int} (h0:a≠z) (h:jj a=z):A8 a n (mJ a)
 | lim {a:O} {n:Int} {o:O} (h0:a≠z) (h:Gz (jj a)) (k:A8 (jj a) n o):A8 a n (app (mJ a) (c o 1 z))
 | one {a:O} {n:Int} (h0:a≠z) (h:jj a≠z) (h':¬Gz (jj a)):A8 a n (app (mJ a) (if n=0 then z else c (mJ (jj a)) n z))
end O
namespace O
end O
namespace O
structure Rg (a b:O) (n:Int):Prop where
 pos:0<=n
 pass:∀o,A8 a n o->cmp b o<0
 least:0<n->∀o,A8 a (n-1) o->¬cmp b o<0
end O
namespace O
noncomputable def alike:O->O->Nat
 | c e n r,c e' n' r'=>if e=e'/\n=n' then alike r r'+1 else 0
 | _,_=>0
theorem gI (e:O) (n:Int) (r e':O) (n':Int) (r':O):alike (c e n r) (c e' n' r')=if e=e'/\n=n' then alike r r'+1 else 0:=by rw[alike]
theorem alike_le:∀a b:O,alike a b<=a.len/\alike a b<=b.len
 | z,b=>by simp[alike]
 | c _ _ _,z=>by simp[alike]
 | c e n r,c e' n' r'=>by
   have:=alike_le r r';rw[gI];simp only[len];split<;> lia
theorem alike_at:∀{a b:O} {i:Nat} {e:O} {n:Int} {e':O} {n':Int},getP a i=some (e,n)->getP b i=some (e',n')->i<=alike a b->(i<alike a b↔e=e'/\n=n')
 | z,_,_,_,_,_,_,h,_,_=>by simp[getP] at h
 | c _ _ _,z,_,_,_,_,_,_,h,_=>by simp[getP] at h
 | c x k r,c x' k' r',0,e,n,e',n',h1,h2,_=>by
   simp only[getP,Option.some.injEq,Prod.mk.injEq] at h1 h2;obtain⟨rfl,rfl⟩:=h1;obtain⟨rfl,rfl⟩:=h2;rw[gI];split<;> simp_all
 | c x k r,c x' k' r',i+1,e,n,e',n',h1,h2,h3=>by
   simp only[getP] at h1 h2;rw[gI] at h3 ⊢;split at h3
   ·rename_i q;have:=alike_at h1 h2 (by (clear q;lia));rw[ycv q,←this]
    (clear q this;lia)
   ·lia
theorem minus_end:∀{a b:O},alike a b=b.len->minusO a b=dropO (alike a b) a
 | a,z,_=>by
   rw[eW];cases a<;> rfl
 | z,c _ _ _,h=>by simp[alike,len] at h
 | c e n r,c e' n' r',h=>by
   rw[gI] at h ⊢;simp only[len] at h;split at h
   ·rename_i q;rw[ycv q,minusO,ycv q.1,ycv q.2];exact minus_end (by (clear q;lia))
   ·lia
theorem alike_more:∀{a b:O},cmp b a<=0->alike a b<b.len->∃e n e' n',getP a (alike a b)=some (e,n)/\getP b (alike a b)=some (e',n')/\minusO a b=if e=e' then c e (n-n') (dropO (alike a b+1) a) else dropO (alike a b) a
 | a,z,_,h=>by simp[len] at h
 | z,c _ _ _,h,_=>by simp[cmp] at h
 | c e n r,c e' n' r',hc,h=>by
   rw[gI] at h ⊢;simp only[len] at h
   by_cases q:e=e'/\n=n'
   ·obtain⟨rfl,rfl⟩:=q;rw[ycv ⟨rfl,rfl⟩] at h ⊢;rw[cmp,ycw (by rw[cmp_self];simp),ycw (by (clear hc h;lia)),ycw (by (clear hc h;lia))] at hc;obtain⟨x,k,x',k',h1,h2,h3⟩:=alike_more hc (by (clear hc;lia));refine⟨x,k,x',k',h1,h2,?_⟩;rw[minusO,ycv rfl,ycv rfl,h3]
    rfl
   ·rw[ycw q];refine⟨e,n,e',n',rfl,rfl,?_⟩;rw[minusO]
    by_cases q1:e=e'
    ·rw[ycv q1,ycv q1,ycw (λk=>q ⟨q1,k⟩)]
     rfl
    ·rw[ycw q1,ycw q1]
     rfl
theorem mK:∀a b:O,(minusO a b).dp<=a.dp
 | a,z=>by rw[eW];exact ycx _
 | z,c _ _ _=>ycx _
 | c e n r,c e' n' r'=>by
   have:=mK r r';unfold minusO;split
   ·split
    ·simp only[dp];lia
    ·simp only[dp];(clear this;lia)
   ·exact ycx _
theorem mM:∀a b:O,hw (minusO a b)<=hw a
 | a,z=>by rw[eW];exact ycx _
 | z,c _ _ _=>ycx _
 | c e n r,c e' n' r'=>by
   have:=mM r r';unfold minusO;split
   ·split
    ·rw[hw_c];lia
    ·rw[hw_c,hw_c];(clear this;lia)
   ·exact ycx _
end O
namespace O
end O
namespace O
noncomputable def wh (m:Int):O:=if m=0 then z else c z m z
theorem wh_pos {m:Int} (h:0<m):wh m=c z m z:=by unfold wh;rw[ycw (by lia)]
theorem Ae {a b:O} (ha:NF a) (hb:NF b) (h:cmp a b<0):cmp (plusO a (c z 1 z)) b<=0:=by
 have n1:NF (c z 1 z):=⟨trivial,by (clear h;lia),trivial,trivial⟩;have sm:∀y,same y (plusO a (c z 1 z))=same y a+(if y=z then 1 else 0):=λy=>by
  rw[il (show Lt z z from trivial)]
  by_cases q:y=z
  ·subst q;rw[cmp_self,ycw (by (clear h;lia)),ycw (by (clear h;lia)),same_eq,ycv rfl]
   rfl
  ·have:0<cmp y z:=by have:=wA q;have:=bb z y;(clear h;lia)
   rw[ycv this,ycw q]
   (clear h this;lia)
 obtain⟨x,h1,h2⟩:=d8 ha hb h
 by_cases q:x=z
 ·subst q;refine oU (ha.plus n1) hb λy=>?_;rw[sm]
  by_cases q:y=z
  ·subst q;rw[ycv rfl];assumption
  ·have:0<cmp y z:=by have:=wA q;have:=bb z y;(clear h h1;lia)
   rw[ycw q,h2 y this]
   (clear h h1 this;lia)
 ·have:cmp (plusO a (c z 1 z)) b<0:=by
   refine fu (x:=x) (ha.plus n1) hb (by rw[sm,ycw q];(clear h;lia)) λy hy=>?_;have hyz:y≠z:=λk=>by subst k;cases x<;> simp[cmp] at hy
   rw[sm,ycw hyz,h2 y hy]
   (clear h h1 hy;lia)
  (clear h h1;lia)
end O
namespace O
noncomputable abbrev one:O:=c z 1 z
theorem NF.one:NF one:=⟨trivial,by lia,trivial,trivial⟩
theorem one_le_ne {f:O} (hf:NF f) (h:f≠z):cmp one f<=0:=by
 have:=Ae (a:=z) trivial hf (wA h);rw[ue] at this;exact this
theorem ui {e x y:O} (he:NF e) (hx:NF x) (hy:NF y) (h1:cmp e x<=0) (h2:cmp e y<=0) (h:cmp y x<0):cmp (minusO y e) (minusO x e)<0:=by
 have p1:=gt hx he h1;have p2:=gt hy he h2;have:=ji he (hy.minus h2) (hx.minus h1);rw[p1,p2] at this
 (clear h1 h2;lia)
noncomputable def Lm:O->Prop
 | z=>True
 | c f _ t=>f≠z/\Lm t
theorem Lm.filt:∀(b:O),Lm (O.filt (λy _=>decide (¬y=z)) b)
 | z=>trivial
 | c f d t=>by
   rw[filt_c];split
   ·rename_i h;exact⟨by simpa using h,Lm.filt t⟩
   ·exact Lm.filt t
noncomputable def decr:O->O
 | z=>z
 | c f d t=>c (minusO f one) d (decr t)
theorem qe {f:O} (hf:NF f) (h0:f≠z):∀{t:O},NF t->Lm t->Lt f t->Lt (minusO f one) (decr t)
 | z,_,_,_=>trivial
 | c g d t,ht,hl,h=>⟨ui NF.one hf ht.1 (one_le_ne hf h0) (one_le_ne ht.1 hl.1) h.1,qe hf h0 ht.2.2.2 hl.2 h.2⟩
theorem NF.decr:∀{t:O},NF t->Lm t->NF (O.decr t)
 | z,_,_=>trivial
 | c f d t,ht,hl=>⟨ht.1.minus (one_le_ne ht.1 hl.1),ht.2.1,qe ht.1 hl.1 ht.2.2.2 hl.2 ht.2.2.1,NF.decr ht.2.2.2 hl.2⟩
noncomputable def npow (a:O):Nat->O
 | 0=>one
 | n+1=>timesO (npow a n) a
theorem NF.npow {a:O} (ha:NF a):∀n:Nat,NF (O.npow a n)
 | 0=>NF.one
 | n+1=>(NF.npow ha n).times ha
noncomputable def endP (e L:O):O:=if e=z then c (decr L) 1 z else c (timesO e L) 1 z
noncomputable abbrev lim (b:O):O:=filt (λy _=>decide (¬y=z)) b
noncomputable def genP (a e b:O):O:=timesO (endP e (lim b)) (npow a (same z b).toNat)
noncomputable def powO (a b:O):O:=
 if b=z then one else if a=one then a else match a with
 | z=>z
 | c e n z=>if e=z then genP (c e n z) e b else c (timesO e b) (if 0<same z b then n else 1) z
 | c e n r=>genP (c e n r) e b
theorem pow_z (a:O):powO a z=one:=by unfold powO;rw[ycv rfl]
theorem pow_part {e:O} {n:Int} {b:O} (he:e≠z) (hb:b≠z):powO (c e n z) b=c (timesO e b) (if 0<same z b then n else 1) z:=by
 unfold powO;rw[ycw hb,ycw (by simp[one];intro k;exact absurd k he)];simp only;rw[ycw he]
theorem pow_gen {e:O} {n:Int} {r b:O} (hb:b≠z) (ha:c e n r≠one) (h:e=z∨r≠z):powO (c e n r) b=genP (c e n r) e b:=by
 unfold powO;rw[ycw hb,ycw ha];cases r with
 | z=>
   have he:e=z:=by
    rcases h with h | h
    ·exact h
    ·exact absurd rfl h
   simp only;rw[ycv he]
 | c f d t=>rfl
theorem pow_same {a b:O} (hb:b≠z) (h:a=z∨a=one):powO a b=a:=by
 unfold powO;rw[ycw hb];rcases h with rfl | rfl
 ·rw[ycw (by simp[one])]
 ·rw[ycv rfl]
theorem NF.endP {e L:O} (he:NF e) (hL:NF L) (hl:Lm L):NF (O.endP e L):=by
 unfold O.endP;split
 ·exact⟨hL.decr hl,by lia,trivial,trivial⟩
 ·exact⟨he.times hL,by lia,trivial,trivial⟩
theorem jZ:∀t:O,(decr t).dp<=t.dp/\hw (decr t)<=hw t/\(decr t).len=t.len
 | z=>⟨ycx _,ycx _,rfl⟩
 | c f d t=>by
   have h:=jZ t;have h1:=mK f one;have h2:=mM f one;simp only[decr,dp,len];rw[hw_c,hw_c];lia
theorem Af:hw one=1:=rfl
theorem npow_hw (a:O):∀n:Nat,hw (npow a n)<=1+n*hw a
 | 0=>by show hw one<=_;rw[Af];lia
 | n+1=>by
   have h1:=npow_hw a n;have h2:=hw_times (npow a n) a;have e1:(n+1)*hw a=n*hw a+hw a:=by rw[Nat.add_mul,Nat.one_mul]
   show hw (timesO (npow a n) a)<=_;lia
theorem npow_dp (a:O):∀n:Nat,(npow a n).dp<=max 1 a.dp
 | 0=>by show(1:Nat)<=_;lia
 | n+1=>by
   have h1:=npow_dp a n;have h2:=dp_times (npow a n) a;show(timesO (npow a n) a).dp<=_;lia
theorem mO {a b:O} (ha:NF a) (hb:NF b):mx (timesO a b)<=(mx a+1)*(mx b+1):=by
 cases a with
 | z=>
   have:=mx_nonneg b;show(0:Int)<=(0+1)*(mx b+1);lia
 | c e n r=>exact uh ha hb
theorem npow_mx {a:O} {A:Int} (ha:NF a) (hA:mx a<=A):∀n:Nat,mx (npow a n)+1<=2*(A+2)^n
 | 0=>by rw[Int.pow_zero];show mx (c z 1 z)+1<=2*1;decide
 | n+1=>by
   have h1:=npow_mx ha hA n;have h2:=mO (NF.npow ha n) ha;have m0:=mx_nonneg a;have m1:=mx_nonneg (npow a n);show mx (timesO (npow a n) a)+1<=_;have h3:(mx (npow a n)+1)*(mx a+1)+1<=(mx (npow a n)+1)*(A+2):=by
    have e1:(mx (npow a n)+1)*(A+2)=(mx (npow a n)+1)*(A+1)+(mx (npow a n)+1):=by
     rw[show A+2=(A+1)+1 by (clear hA h1 h2 m0 m1;lia),Int.mul_add,Int.mul_one]
    have e2:(mx (npow a n)+1)*(mx a+1)<=(mx (npow a n)+1)*(A+1):=Int.mul_le_mul_of_nonneg_left (by (clear h1 h2 m0 m1 e1;lia)) (by (clear hA h1 h2 m0;lia))
    (clear hA h1 h2 m0;lia)
   have h4:(mx (npow a n)+1)*(A+2)<=2*(A+2)^n*(A+2):=Int.mul_le_mul_of_nonneg_right h1 (by (clear h1 h2 m1 h3;lia));have e3:2*(A+2)^ (n+1)=2*(A+2)^n*(A+2):=by rw[Int.pow_succ,Int.mul_assoc]
   (clear hA h1 m0 m1;lia)
theorem rM {f:O} (h:NF f) (h0:f≠z):minusO f one=match f with | z=>z | c e n r=>if e=z then (if n=1 then r else c e (n-1) r) else c e n r:=by
 cases f with
 | z=>exact absurd rfl h0
 | c e n r=>
   show minusO (c e n r) (c z 1 z)=_;rw[minusO];simp only
   by_cases k:e=z
   ·rw[ycv k,ycv k]
    by_cases k2:n=1
    ·rw[ycv k2,ycv k2,eW]
    ·rw[ycw k2,ycw k2]
   ·rw[ycw k,ycw k]
theorem ipow_mono {B:Int} (h:1<=B) {n:Nat}:∀k:Nat,B^n<=B^ (n+k)
 | 0=>Int.le_refl _
 | k+1=>by
   have h1:=ipow_mono h (n:=n) k;have h2:0<=B^ (n+k):=Int.pow_nonneg (by (clear h1;lia));have h3:B^ (n+k)*1<=B^ (n+k)*B:=Int.mul_le_mul_of_nonneg_left h h2;rw[show n+(k+1)=n+k+1 by (clear h h1 h2 h3;lia),Int.pow_succ]
   (clear h h2;lia)
theorem kU {f:O} (h:NF f) (h0:f≠z):mx (minusO f one)<=mx f:=by
 rw[rM h h0];cases f with
 | z=>exact absurd rfl h0
 | c e n r=>
   have:=h.2.1;simp only;split
   ·split
    ·rw[mx_c];(clear this;lia)
    ·rw[mx_c,mx_c];(clear this;lia)
   ·exact Int.le_refl _
theorem qf:∀{t:O},NF t->Lm t->mx (decr t)<=mx t
 | z,_,_=>Int.le_refl _
 | c f d t,ht,hl=>by
   have h1:=qf ht.2.2.2 hl.2;have h2:=kU ht.1 hl.1;show mx (c (minusO f one) d (decr t))<=_;rw[mx_c,mx_c];lia
theorem endP_more {e L:O} (he:NF e) (hL:NF L) (hl:Lm L):(endP e L).dp<=1+max e.dp L.dp/\hw (endP e L)<=1+hw e+hw L/\mx (endP e L)<=(mx e+1)*(mx L+1):=by
 have h1:=jZ L;have h2:=qf hL hl;have h3:=dp_times e L;have h4:=hw_times e L;have h5:=mO he hL;have m0:=mx_nonneg e;have m1:=mx_nonneg L;have h6:(mx L+1)<=(mx e+1)*(mx L+1):=by
  have:1*(mx L+1)<=(mx e+1)*(mx L+1):=Int.mul_le_mul_of_nonneg_right (by (clear h1 h2 h3 h4 h5 m1;lia)) (by (clear h1 h2 h3 h4 h5 m0;lia))
  (clear h1 h2 h3 h4 h5 m0 m1;lia)
 unfold endP;split
 ·simp only[dp];rw[hw_c,mx_c];simp only[hw,len,mx]
  (clear h3 h5 m0;lia)
 ·simp only[dp];rw[hw_c,mx_c];simp only[hw,len,mx]
  (clear h1 h2 m0;lia)
end O
namespace O
section
variable {x:O} {n m:Int}
end
end O
namespace O
noncomputable abbrev w1:O:=c one 1 z
end O
namespace O
end O
namespace O
noncomputable def ot:O->Int
 | z=>0
 | c _ n r=>max n (ot r)
theorem ot_c (e:O) (n:Int) (r:O):ot (c e n r)=max n (ot r):=rfl
end O
namespace O
end O
namespace O
noncomputable def val (b:Nat):O->Nat
 | z=>0
 | c e n r=>n.toNat*b^val b e+val b r
structure Wr (b:Nat) (a:O):Prop where
 nf:NF a
 mx:O.mx a<b
end O
namespace O
noncomputable def tp (b:Nat):O->Nat
 | z=>0
 | c e _ _=>val b e+1
end O
namespace O
open Classical in
noncomputable def rep (b s:Nat):O:=if h:∃o,Wr b o/\val b o=s then choose h else z
noncomputable def tl (b:Nat):Nat->O
 | 0=>z
 | s+1=>c (rep b s) ((b:Int)-1) (tl b s)
end O
open O
mutual
inductive Rw (α:Type) where
 | set (b:α) (n:Int)
 | copy (b o:α)
 | add (b o:α)
 | less (b:α)
 | times (b:α) (rs:uj α)
 | count (rs:uj α) (n:Int)
inductive uj (α:Type) where
 | nil
 | cons (r:Rw α) (rs:uj α)
end
noncomputable def om:O:= .c (O.wh 1) 1 .z
section
variable {α:Type}
mutual
noncomputable def Rw.hb:Rw α->Nat
 | .times _ rs=>rs.hb+2
 | .count rs _=>rs.hb+3
 | _=>1
noncomputable def uj.hb:uj α->Nat
 | .nil=>0
 | .cons r rs=>rs.hb+r.hb
end
mutual
noncomputable def Rw.mb:Rw α->Nat
 | .times _ rs=>(rs.mb+2)*2
 | .count rs n=>(rs.mb+2)*(n.toNat+1)+1
 | _=>1
noncomputable def uj.mb:uj α->Nat
 | .nil=>0
 | .cons r rs=>rs.mb+r.mb
end
mutual
noncomputable def Rw.lb:Rw α->Nat
 | .count rs _=>rs.lb+2
 | _=>1
noncomputable def uj.lb:uj α->Nat
 | .nil=>0
 | .cons r rs=>rs.lb+r.lb
end
mutual
noncomputable def Rw.nn:Rw α->Prop
 | .times _ rs=>rs.nn
 | .count rs n=>rs.nn/\0<=n
 | _=>True
noncomputable def uj.nn:uj α->Prop
 | .nil=>True
 | .cons r rs=>r.nn/\rs.nn
end
structure Wb (o:O) (h m l:Nat):Prop where
 nf:o.NF
 dp:o.dp<=3
 hw:O.hw o<=h
 mx:O.mx o<=m
 ln:o.len<=l
end
inductive bx where
 | num (a:O)
 | nam (l:List Nat)
 | op (y:Nat)
deriving DecidableEq
noncomputable def cE (y:Nat):Bool:=decide (48<=y/\y<=57)
noncomputable def dw (y:Nat):Bool:=decide (97<=y/\y<=122)
noncomputable def eJ (y:Nat):Bool:=cE y||dw y
noncomputable def dU:List Nat->List Nat
 | []=>[]
 | y::l=>if eJ y then y::dU l else []
noncomputable def o4:List Nat->List Nat
 | []=>[]
 | y::l=>if eJ y then o4 l else y::l
theorem fK:∀l,dU l++o4 l=l
 | []=>rfl
 | y::l=>by
   unfold dU o4;split
   ·show y::(dU l++o4 l)=_;rw[fK l]
   ·rfl
noncomputable def mP (l:List Nat):Nat:=l.foldl (λa y=>a*10+(y-48)) 0
noncomputable def bX (l:List Nat):Bool:=decide (1<=l.length/\l.length<=60)&&l.all cE&&(decide (l=[48])||decide (l.head?≠some 48))
noncomputable def bY (l:List Nat):Bool:=decide (1<=l.length/\l.length<=8)&&decide (l≠[119])&&l.all dw
noncomputable def j6 (l:List Nat):Option bx:=
 if l=[119] then some (.num om) else if bX l then some (.num (O.wh (mP l))) else if bY l then some (.nam l) else none
noncomputable abbrev Rd:=Option (List bx×List Nat)
noncomputable def aX (rd:List Nat->Rd):List Nat->Rd
 | 40::l=>match rd l with
   | some (s,41::r)=>some (s,r)
   | _=>none
 | l=>match j6 (dU l) with
   | some x=>some ([x],o4 l)
   | none=>none
noncomputable def cy (rd:List Nat->Rd) (l:List Nat):Rd:=
 match aX rd l with
 | some (s,94::r)=>match aX rd r with
   | some (s2,r2)=>some (s++s2++[.op 94],r2)
   | none=>none
 | x=>x
noncomputable def bq (one:List Nat->Rd) (y:Nat):Nat->List bx->List Nat->Rd
 | 0,s,l=>some (s,l)
 | n+1,s,l=>if l.head?=some y then match one l.tail with
    | some (s2,r)=>bq one y n (s++s2++[.op y]) r
    | none=>none
   else some (s,l)
noncomputable def cC (rd:List Nat->Rd) (l:List Nat):Rd:=
 match cy rd l with
 | some (s,r)=>bq (cy rd) 42 r.length s r
 | none=>none
noncomputable def dt (rd:List Nat->Rd) (l:List Nat):Rd:=
 match cC rd l with
 | some (s,r)=>bq (cC rd) 43 r.length s r
 | none=>none
noncomputable def dW:Nat->List Nat->Rd
 | 0=>dt λ_=>none
 | d+1=>dt (dW d)
noncomputable def dy (l:List Nat):Option (List bx):=
 match dW 20 l with
 | some (s,[])=>some s
 | _=>none
structure Ag (fg:Nat->List Nat):Prop where
 ok:∀m,m<10^60->bX (fg m)=true
 val:∀m,mP (fg m)=m
noncomputable def GA (e:O):Bool:=match e with
 | z=>true
 | c z _ z=>true
 | _=>false
section
variable (fg:Nat->List Nat)
noncomputable def Co (e:O) (te:List Nat):List Nat:=
 if e=c z 1 z then [119] else if GA e=true∨e=om then 119::94::te else 119::94::40::(te++[41])
noncomputable def EQ (e:O) (n:Int) (te:List Nat):List Nat:=
 if e=z then fg n.toNat else if n=1 then Co e te else Co e te++42::fg n.toNat
noncomputable def ER:O->List Nat
 | z=>[48]
 | c e n r=>EQ fg e n (ER e)++(match r with | z=>[] | c _ _ _=>43::ER r)
end
noncomputable def Cp (e:O) (se:List bx):List bx:=if e=c z 1 z then [.num om] else .num om::(se++[.op 94])
noncomputable def Cq (e:O) (n:Int) (se:List bx):List bx:=
 if e=z then [.num (wh n)] else if n=1 then Cp e se else Cp e se++[.num (wh n),.op 42]
mutual
noncomputable def ES:O->List bx
 | z=>[.num z]
 | c e n r=>Cq e n (ES e)++ET r
noncomputable def ET:O->List bx
 | z=>[]
 | c e n r=>Cq e n (ES e)++ .op 43::ET r
end
noncomputable def EU:O->Nat
 | z=>0
 | c e _ r=>max (if GA e=true∨e=om then 0 else EU e+1) (EU r)
noncomputable def Nx (cs:List Nat) (l:List Nat):Prop:=∀x,l.head?=some x->eJ x=false/\x∉cs
theorem Nx.nil {cs:List Nat}:Nx cs []:=λx h=>by cases h
theorem Nx.cons {cs:List Nat} {x:Nat} {l:List Nat} (h1:eJ x=false) (h2:x∉cs):Nx cs (x::l):=λy h=>by cases h;exact⟨h1,h2⟩
theorem Nx.less {cs ds:List Nat} {l:List Nat} (h:Nx cs l) (hs:∀x,x∈ds->x∈cs):Nx ds l:=λx hx=>⟨(h x hx).1,λz=>(h x hx).2 (hs x z)⟩
theorem qg:∀{t rest:List Nat},(∀x,x∈t->eJ x=true)->Nx [] rest->dU (t++rest)=t/\o4 (t++rest)=rest
 | [],[],_,_=>⟨rfl,rfl⟩
 | [],x::rest,_,h=>by
   have:=(h x rfl).1;show dU (x::rest)=[]/\o4 (x::rest)=x::rest;unfold dU o4;rw[this];exact⟨rfl,rfl⟩
 | y::t,rest,ht,h=>by
   obtain⟨a,b⟩:=qg (t:=t) (λx hx=>ht x (ybx _ hx)) h;have:=ht y yby;show dU (y::(t++rest))=y::t/\o4 (y::(t++rest))=rest;unfold dU o4;rw[this,ycv rfl,ycv rfl,a,b];exact⟨rfl,rfl⟩
theorem kX {rd:List Nat->Rd} {t rest:List Nat} {x:bx} (ht:∀y,y∈t->eJ y=true) (hx:j6 t=some x) (hn:Nx [] rest):aX rd (t++rest)=some ([x],rest):=by
 obtain⟨a,b⟩:=qg ht hn;have h40:∀l',t++rest≠40::l':=λl' e=>by
  cases t with
  | nil=>simp[j6,bX,bY] at hx
  | cons y t=>
    cases e;have:=ht 40 yby;exact absurd this (by decide)
 unfold aX;split
 ·rename_i l e;exact absurd e (h40 l)
 ·rw[a,b,hx]
theorem Ah {rd:List Nat->Rd} {t rest:List Nat} {s:List bx} (h:rd (t++41::rest)=some (s,41::rest)):aX rd (40::(t++[41])++rest)=some (s,rest):=by
 have e:40::(t++[41])++rest=40::(t++41::rest):=by simp
 rw[e];show(match rd (t++41::rest) with | some (s,41::r)=>some (s,r) | _=>none)=_;rw[h]
 rfl
theorem wD {t:List Nat} (h:bX t=true):∀y,y∈t->eJ y=true:=λy hy=>by
 unfold bX at h;simp only[Bool.and_eq_true,all_eq_true] at h;unfold eJ;rw[h.1.2 y hy]
 rfl
theorem wE {t:List Nat} (h:bX t=true):j6 t=some (.num (wh (mP t))):=by
 have h1:t≠[119]:=λe=>by rw[e] at h;exact absurd h (by decide)
 unfold j6;rw[ycw h1,ycv h]
theorem o5 {fg:Nat->List Nat} (F:Ag fg) {rd:List Nat->Rd} {n:Int} (h0:0<=n) (h1:n<10^60) {rest:List Nat} (hn:Nx [] rest):aX rd (fg n.toNat++rest)=some ([.num (wh n)],rest):=by
 have hm:n.toNat<10^60:=by lia
 have:=kX (rd:=rd) (wD (F.ok _ hm)) (wE (F.ok _ hm)) hn;rw[F.val,Int.toNat_of_nonneg h0] at this;exact this
theorem EV {rd:List Nat->Rd} {rest:List Nat} (hn:Nx [] rest):aX rd (119::rest)=some ([.num om],rest):=
 kX (t:=[119]) (λy hy=>by cases mem_singleton.mp hy;rfl) rfl hn
theorem Ai {rd:List Nat->Rd} {l:List Nat} {s:List bx} {rest:List Nat} (h:aX rd l=some (s,rest)) (hn:Nx [94] rest):cy rd l=some (s,rest):=by
 unfold cy;rw[h];split
 ·rename_i s' r e;cases e;exact absurd yby (hn 94 rfl).2
 ·rfl
theorem wF {rd:List Nat->Rd} {l m:List Nat} {s s2:List bx} {rest:List Nat} (h:aX rd l=some (s,94::m)) (h2:aX rd m=some (s2,rest)):cy rd l=some (s++s2++[.op 94],rest):=by
 unfold cy;rw[h];show(match aX rd m with | some (s2,r2)=>some (s++s2++[bx.op 94],r2) | none=>none)=_;rw[h2]
theorem qh {one:List Nat->Rd} {x:Nat} {s:List bx} {l:List Nat} (hn:Nx [x] l):∀k,bq one x k s l=some (s,l)
 | 0=>rfl
 | k+1=>by
   unfold bq;rw[if_neg];intro e;exact(hn x e).2 yby
theorem mQ {one:List Nat->Rd} {x k:Nat} {s s2:List bx} {l r:List Nat} (h:one l=some (s2,r)):bq one x (k+1) s (x::l)=bq one x k (s++s2++[.op x]) r:=by
 conv=>lhs;unfold bq
 rw[ycv (show(x::l).head?=some x from rfl)];show(match one l with | some (s2,r)=>bq one x k (s++s2++[bx.op x]) r | none=>none)=_;rw[h]
noncomputable def Tm:O->Prop
 | z=>True
 | c e n r=>Tm e/\(1<=n/\n<10^60)/\Tm r
section
variable {fg:Nat->List Nat}
noncomputable def yB (fg:Nat->List Nat):O->List Nat
 | z=>[]
 | c e n r=>43::ER fg (c e n r)
noncomputable def cA:Nat->List Nat->Rd
 | 0=>λ_=>none
 | d+1=>dW d
theorem fy (d:Nat):dW d=dt (cA d):=by cases d<;> rfl
noncomputable def TT (fg:Nat->List Nat) (r:O):Prop:=∀(d k:Nat) (s:List bx) (rest:List Nat),EU r<=d->Tm r->Nx [42,43,94] rest->(yB fg r++rest).length<=k->bq (cC (cA d)) 43 k s (yB fg r++rest)=some (s++ET r,rest)
end
noncomputable def Aj (a:O):Prop:=size a<=400/\mx a<10^100/\dp a<=30
noncomputable instance (a:O):Decidable (Aj a):=by unfold Aj;infer_instance
noncomputable def gJ (x:Nat) (a b:O):O:=if x=43 then plusO a b else if x=42 then timesO a b else powO a b
noncomputable def wG:List bx->List O->Option (List O)
 | [],st=>some st
 | .num a::s,st=>wG s (a::st)
 | .op x::s,b::a::st=>if Aj (gJ x a b)/\(x=94->a=om) then wG s (gJ x a b::st) else none
 | _,_=>none
noncomputable def RR (a:O):Prop:=NF a->Aj a->∀(s:List bx) (st:List O),wG (ES a++s) st=wG s (a::st)
section
variable {fg:Nat->List Nat}
end
noncomputable def hJ (l r:List Nat):Prop:=∃p,l=p++r
theorem hJ.refl (l:List Nat):hJ l l:=⟨[],rfl⟩
theorem hJ.trans {l m r:List Nat} (h:hJ l m) (g:hJ m r):hJ l r:=by
 obtain⟨p,rfl⟩:=h;obtain⟨q,rfl⟩:=g;exact⟨p++q,by rw[append_assoc]⟩
theorem hJ.cons (x:Nat) (l:List Nat):hJ (x::l) l:=⟨[x],rfl⟩
theorem hJ.len {l r:List Nat} (h:hJ l r):r.length<=l.length:=by
 obtain⟨p,rfl⟩:=h;rw[length_append];lia
theorem hJ.drop {l r:List Nat} (h:hJ l r):l.drop (l.length-r.length)=r:=by
 obtain⟨p,rfl⟩:=h;rw[length_append,Nat.add_sub_cancel];simp
noncomputable def rN (f:List Nat->Rd):Prop:=∀l s r,f l=some (s,r)->hJ l r/\s.length+r.length<=l.length
theorem wH (l:List Nat):hJ l (o4 l):=⟨dU l,(fK l).symm⟩
theorem uk {l:List Nat} {x:bx} (h:j6 l=some x):1<=l.length:=by
 cases l with
 | nil=>simp[j6,bX,bY] at h
 | cons y l=>simp
theorem j7 {rd:List Nat->Rd} (h:rN rd):rN (aX rd):=λl s r e=>by
 unfold aX at e;split at e
 ·rename_i l';split at e
  ·rename_i s' r' e';cases e;obtain⟨h1,h2⟩:=h _ _ _ e';refine⟨(hJ.cons 40 l').trans (h1.trans (hJ.cons 41 r)),?_⟩;rw[length_cons] at h2 ⊢;lia
  ·cases e
 ·split at e
  ·rename_i x e';cases e;refine⟨wH l,?_⟩;have h1:=uk e';have h2:=congrArg List.length (fK l);rw[length_append] at h2;simp only[length_cons,length_nil];lia
  ·cases e
theorem kY {rd:List Nat->Rd} (h:rN rd):rN (cy rd):=λl s r e=>by
 have ht:=j7 h;unfold cy at e;split at e
 ·rename_i s1 r1 e1;obtain⟨a1,a2⟩:=ht _ _ _ e1;split at e
  ·rename_i s2 r2 e2;cases e;obtain⟨b1,b2⟩:=ht _ _ _ e2;refine⟨a1.trans ((hJ.cons 94 r1).trans b1),?_⟩;rw[length_cons] at a2;simp only[length_append,length_cons,length_nil];lia
  ·cases e
 ·exact ht _ _ _ e
theorem jk {one:List Nat->Rd} (h:rN one) (x:Nat):∀(k:Nat) (s0:List bx) (l:List Nat) (s:List bx) (r:List Nat),bq one x k s0 l=some (s,r)->hJ l r/\s.length+r.length<=s0.length+l.length
 | 0,s0,l,s,r,e=>by cases e;exact⟨hJ.refl _,ycx _⟩
 | k+1,s0,l,s,r,e=>by
   unfold bq at e;split at e
   ·rename_i hx;split at e
    ·rename_i s2 r2 e2;obtain⟨a1,a2⟩:=h _ _ _ e2;obtain⟨b1,b2⟩:=jk h x k _ _ _ _ e;cases l with
     | nil=>cases hx
     | cons y l=>
       refine⟨(hJ.cons y l).trans (a1.trans b1),?_⟩;simp only[length_append,length_cons,length_nil,List.tail_cons] at a2 b2 ⊢;lia
    ·cases e
   ·cases e;exact⟨hJ.refl _,ycx _⟩
theorem jl {rd:List Nat->Rd} (h:rN rd):rN (cC rd):=λl s r e=>by
 unfold cC at e;split at e
 ·rename_i s1 r1 e1;obtain⟨a1,a2⟩:=kY h _ _ _ e1;obtain⟨b1,b2⟩:=jk (kY h) 42 _ _ _ _ _ e;exact⟨a1.trans b1,ycy b2 a2⟩
 ·cases e
theorem rO {rd:List Nat->Rd} (h:rN rd):rN (dt rd):=λl s r e=>by
 unfold dt at e;split at e
 ·rename_i s1 r1 e1;obtain⟨a1,a2⟩:=jl h _ _ _ e1;obtain⟨b1,b2⟩:=jk (jl h) 43 _ _ _ _ _ e;exact⟨a1.trans b1,ycy b2 a2⟩
 ·cases e
theorem dI:∀d,rN (cA d)
 | 0=>λ_ _ _ e=>by cases e
 | d+1=>by
   show rN (dW d);rw[fy];exact rO (dI d)
noncomputable def mS:bx->Prop
 | .num a=>a.NF/\Aj a
 | .nam l=>bY l=true
 | .op x=>x=43∨x=42∨x=94
noncomputable def ul (f:List Nat->Rd):Prop:=∀l s r,f l=some (s,r)->∀x,x∈s->mS x
theorem qi:∀(l:List Nat) (a:Nat),l.all cE=true->l.foldl (λa c=>a*10+(c-48)) a<(a+1)*10^l.length
 | [],a,_=>by simp
 | x::l,a,h=>by
   rw[all_cons,Bool.and_eq_true] at h;have hx:x<=57:=(of_decide_eq_true h.1).2;have:=qi l (a*10+(x-48)) h.2;rw[foldl_cons,length_cons];refine ydw this ?_;rw[Nat.pow_succ,Nat.mul_comm (10^l.length) 10,←Nat.mul_assoc];exact Nat.mul_le_mul_right _ (by (clear this;lia))
theorem Ak {n:Int} (h0:0<=n) (h1:n<10^100):(wh n).NF/\Aj (wh n):=by
 by_cases hz:n=0
 ·subst hz;exact⟨trivial,by decide⟩
 ·have e:wh n=c z n z:=ycw hz;rw[e];refine⟨⟨trivial,by lia,trivial,trivial⟩,show 1+0+0<=400 by decide,?_,show max (0+1) 0<=30 by decide⟩;rw[mx_c];simp only[mx]
  (clear hz;lia)
theorem um {l:List Nat} {x:bx} (h:j6 l=some x):mS x:=by
 unfold j6 at h;split at h
 ·cases h;exact⟨⟨⟨trivial,by decide,trivial,trivial⟩,by decide,trivial,trivial⟩,by decide⟩
 ·split at h
  ·rename_i hf;cases h;refine Ak (Int.natCast_nonneg _) ?_;unfold bX at hf;simp only[Bool.and_eq_true,decide_eq_true_eq] at hf;have h1:=qi l 0 hf.1.2;have h2:(0+1)*10^l.length<=10^60:=by rw[Nat.zero_add,Nat.one_mul];exact Nat.pow_le_pow_right (by decide) hf.1.1.2
   have h3:mP l<10^60:=ydw h1 h2;have h4:((mP l:Nat):Int)<((10^60:Nat):Int):=Int.ofNat_lt.mpr h3;exact Int.lt_of_lt_of_le h4 (by decide)
  ·split at h
   ·rename_i hn;cases h;exact hn
   ·cases h
theorem rP {rd:List Nat->Rd} (h:ul rd):ul (aX rd):=λl s r e x hx=>by
 unfold aX at e;split at e
 ·split at e
  ·rename_i s' r' e';cases e;exact h _ _ _ e' x hx
  ·cases e
 ·split at e
  ·rename_i y e';cases e;rw[mem_singleton.mp hx];exact um e'
  ·cases e
theorem qj {rd:List Nat->Rd} (h:ul rd):ul (cy rd):=λl s r e x hx=>by
 have ht:=rP h;unfold cy at e;split at e
 ·rename_i s1 r1 e1;split at e
  ·rename_i s2 r2 e2;cases e;rcases mem_append.mp hx with hx | hx
   ·rcases mem_append.mp hx with hx | hx
    ·exact ht _ _ _ e1 x hx
    ·exact ht _ _ _ e2 x hx
   ·rw[mem_singleton.mp hx];exact Or.inr (.inr rfl)
  ·cases e
 ·exact ht _ _ _ e x hx
theorem jm {one:List Nat->Rd} (h:ul one) {y:Nat} (hy:mS (.op y)):∀(k:Nat) (s0:List bx) (l:List Nat) (s:List bx) (r:List Nat),bq one y k s0 l=some (s,r)->(∀x,x∈s0->mS x)->∀x,x∈s->mS x
 | 0,s0,l,s,r,e,h0=>by cases e;exact h0
 | k+1,s0,l,s,r,e,h0=>by
   unfold bq at e;split at e
   ·split at e
    ·rename_i s2 r2 e2;refine jm h hy k _ _ _ _ e λx hx=>?_;rcases mem_append.mp hx with hx | hx
     ·rcases mem_append.mp hx with hx | hx
      ·exact h0 x hx
      ·exact h _ _ _ e2 x hx
     ·rw[mem_singleton.mp hx];exact hy
    ·cases e
   ·cases e;exact h0
theorem mU {rd:List Nat->Rd} (h:ul rd):ul (cC rd):=λl s r e=>by
 unfold cC at e;split at e
 ·rename_i s1 r1 e1;exact jm (qj h) (Or.inr (.inl rfl)) _ _ _ _ _ e (qj h _ _ _ e1)
 ·cases e
theorem rQ {rd:List Nat->Rd} (h:ul rd):ul (dt rd):=λl s r e=>by
 unfold dt at e;split at e
 ·rename_i s1 r1 e1;exact jm (mU h) (Or.inl rfl) _ _ _ _ _ e (mU h _ _ _ e1)
 ·cases e
theorem j8:∀d,ul (cA d)
 | 0=>λ_ _ _ e=>by cases e
 | d+1=>by
   show ul (dW d);rw[fy];exact rQ (j8 d)
theorem wI {l:List Nat} {s:List bx} (h:dy l=some s):∀x,x∈s->mS x:=by
 unfold dy at h;split at h
 ·rename_i s' e;cases h;exact j8 21 _ _ _ e
 ·cases h
noncomputable def dD (nm:List Nat->Option O):List bx->Option (List bx)
 | []=>some []
 | .nam l::s=>match nm l with
   | some b=>(dD nm s).map (.num b:: ·)
   | none=>none
 | x::s=>(dD nm s).map (x:: ·)
section
variable {fg:Nat->List Nat} (F:Ag fg) {a b:O}
end
noncomputable def A9:List bx->List (List Nat)
 | []=>[]
 | .nam l::s=>l::A9 s
 | .num _::s=>A9 s
 | .op _::s=>A9 s
noncomputable def mV (p:Nat->Bool):List Nat->Nat
 | []=>0
 | cc::l=>if p cc then mV p l+1 else 0
noncomputable def Cr (l:List Nat):Option Nat:=
 if 0<mV dw l/\mV dw l<=8 then some (mV dw l)
 else if 0<mV cE l/\mV cE l<=60/\(l.head?≠some 48∨mV cE l=1) then some (mV cE l)
 else none
noncomputable def EW (l:List Nat) (f:List (List Nat)):List (List Nat):=if l.head?.any dw=true/\l≠[119] then l::f else f
noncomputable def rR:Nat->Bool->List Bool->Bool->List Nat->Option (List (List Nat))
 | _,w,ab,_,[]=>if w=true∨ab≠[] then none else some []
 | 0,_,_,_,_::_=>none
 | n+1,w,ab,x,cc::l=>
   if cc=40 then (if w=true/\ab.length<20 then rR n true (x::ab) false l else none)
   else if w=true then match Cr (cc::l) with
    | some k=>(rR n false ab x ((cc::l).drop k)).map (EW ((cc::l).take k))
    | none=>none
   else if cc=41 then match ab with
    | y::ab=>rR n false ab y l
    | []=>none
   else if cc=94 then (if x=true then none else rR n true ab true l)
   else if cc=43∨cc=42 then rR n true ab false l
   else none
noncomputable def sc (w:Bool) (ab:List Bool) (x:Bool) (l:List Nat):Option (List (List Nat)):=rR l.length w ab x l
noncomputable def lI:List bx->Nat->Option Nat
 | [],k=>some k
 | .op _::s,k+2=>lI s (k+1)
 | .op _::_,_=>none
 | .num _::s,k=>lI s (k+1)
 | .nam _::s,k=>lI s (k+1)
theorem gK:∀(s t:List bx) (k j:Nat),lI s k=some j->lI (s++t) k=lI t j
 | [],t,k,j,h=>by cases h;rfl
 | .num _::s,t,k,j,h=>gK s t (k+1) j h
 | .nam _::s,t,k,j,h=>gK s t (k+1) j h
 | .op _::s,t,0,j,h=>by cases h
 | .op _::s,t,1,j,h=>by cases h
 | .op _::s,t,k+2,j,h=>gK s t (k+1) j h
noncomputable def uo (f:List Nat->Rd):Prop:=∀l s r,f l=some (s,r)->∀k,lI s k=some (k+1)
theorem wJ {l:List Nat} {x:bx} (h:j6 l=some x) (k:Nat):lI [x] k=some (k+1):=by
 have:=um h;unfold j6 at h;split at h
 ·cases h;rfl
 ·split at h
  ·cases h;rfl
  ·split at h
   ·cases h;rfl
   ·cases h
theorem rS {rd:List Nat->Rd} (h:uo rd):uo (aX rd):=λl s r e=>by
 unfold aX at e;split at e
 ·split at e
  ·rename_i s' r' e';cases e;exact h _ _ _ e'
  ·cases e
 ·split at e
  ·rename_i y e';cases e;exact wJ e'
  ·cases e
theorem qk {s t:List bx} {y k:Nat} (h1:lI s k=some (k+1)) (h2:lI t (k+1)=some (k+2)):lI (s++t++[.op y]) k=some (k+1):=by
 rw[append_assoc,gK s _ k _ h1,gK t _ _ _ h2]
 rfl
theorem ql {rd:List Nat->Rd} (h:uo rd):uo (cy rd):=λl s r e k=>by
 have ht:=rS h;unfold cy at e;split at e
 ·rename_i s1 r1 e1;split at e
  ·rename_i s2 r2 e2;cases e;exact qk (ht _ _ _ e1 k) (ht _ _ _ e2 (k+1))
  ·cases e
 ·exact ht _ _ _ e k
theorem jn {one:List Nat->Rd} (h:uo one) (y:Nat):∀(n:Nat) (s0:List bx) (l:List Nat) (s:List bx) (r:List Nat),bq one y n s0 l=some (s,r)->(∀k,lI s0 k=some (k+1))->∀k,lI s k=some (k+1)
 | 0,s0,l,s,r,e,h0=>by cases e;exact h0
 | n+1,s0,l,s,r,e,h0=>by
   unfold bq at e;split at e
   ·split at e
    ·rename_i s2 r2 e2;exact jn h y n _ _ _ _ e λk=>qk (h0 k) (h _ _ _ e2 (k+1))
    ·cases e
   ·cases e;exact h0
theorem mW {rd:List Nat->Rd} (h:uo rd):uo (cC rd):=λl s r e=>by
 unfold cC at e;split at e
 ·rename_i s1 r1 e1;exact jn (ql h) _ _ _ _ _ _ e (ql h _ _ _ e1)
 ·cases e
theorem rT {rd:List Nat->Rd} (h:uo rd):uo (dt rd):=λl s r e=>by
 unfold dt at e;split at e
 ·rename_i s1 r1 e1;exact jn (mW h) _ _ _ _ _ _ e (mW h _ _ _ e1)
 ·cases e
theorem j9:∀d,uo (cA d)
 | 0=>λ_ _ _ e=>by cases e
 | d+1=>by
   show uo (dW d);rw[fy];exact rT (j9 d)
theorem wK {l:List Nat} {s:List bx} (h:dy l=some s):lI s 0=some 1:=by
 unfold dy at h;split at h
 ·rename_i s' e;cases h;exact j9 21 _ _ _ e 0
 ·cases h
theorem gL (nm:List Nat->Option O):∀s:List bx,dD nm s=none↔∃l,l∈A9 s/\nm l=none
 | []=>⟨λh=>(by cases h),λ⟨l,h,_⟩=>by cases h⟩
 | .num a::s=>by
   show(dD nm s).map _=none↔_;rw[Option.map_eq_none_iff];exact gL nm s
 | .op a::s=>by
   show(dD nm s).map _=none↔_;rw[Option.map_eq_none_iff];exact gL nm s
 | .nam l::s=>by
   show(match nm l with | some b=>(dD nm s).map (bx.num b:: ·) | none=>none)=none↔_;cases e:nm l with
   | none=>exact⟨λ_=>⟨l,mem_cons_self,e⟩,λ_=>rfl⟩
   | some b=>
     show(dD nm s).map _=none↔_;rw[Option.map_eq_none_iff,gL nm s];constructor
     ·rintro⟨m,h1,h2⟩;exact⟨m,ybx _ h1,h2⟩
     ·rintro⟨m,h1,h2⟩;rcases mem_cons.mp h1 with rfl | h1
      ·rw[e] at h2;cases h2
      ·exact⟨m,h1,h2⟩
theorem kZ (nm:List Nat->Option O):∀(s s':List bx),dD nm s=some s'->(∀k,lI s' k=lI s k)/\s'.length=s.length/\∀x,x∈s'->(∃l b,x=.num b/\nm l=some b)∨(x∈s/\∀l,x≠ .nam l)
 | [],s',h=>by cases h;exact⟨λ_=>rfl,rfl,λx hx=>by cases hx⟩
 | .num a::s,s',h=>by
   have h:(dD nm s).map (bx.num a:: ·)=some s':=h;obtain⟨t,ht,rfl⟩:=Option.map_eq_some_iff.mp h;obtain⟨h1,h2,h3⟩:=kZ nm s t ht;refine⟨λk=>h1 (k+1),by rw[length_cons,length_cons,h2],λx hx=>?_⟩;rcases mem_cons.mp hx with rfl | hx
   ·exact .inr ⟨yby,λl z=>by cases z⟩
   ·exact(h3 x hx).imp id λz=>⟨ybx _ z.1,z.2⟩
 | .op a::s,s',h=>by
   have h:(dD nm s).map (bx.op a:: ·)=some s':=h;obtain⟨t,ht,rfl⟩:=Option.map_eq_some_iff.mp h;obtain⟨h1,h2,h3⟩:=kZ nm s t ht;refine⟨λk=>?_,by rw[length_cons,length_cons,h2],λx hx=>?_⟩
   ·match k with
    | 0=>rfl
    | 1=>rfl
    | k+2=>exact h1 (k+1)
   ·rcases mem_cons.mp hx with rfl | hx
    ·exact .inr ⟨yby,λl z=>by cases z⟩
    ·exact(h3 x hx).imp id λz=>⟨ybx _ z.1,z.2⟩
 | .nam l::s,s',h=>by
   have h:(match nm l with | some b=>(dD nm s).map (bx.num b:: ·) | none=>none)=some s':=h;cases e:nm l with
   | none=>rw[e] at h;cases h
   | some b=>
     rw[e] at h;obtain⟨t,ht,rfl⟩:=Option.map_eq_some_iff.mp h;obtain⟨h1,h2,h3⟩:=kZ nm s t ht;refine⟨λk=>h1 (k+1),by rw[length_cons,length_cons,h2],λx hx=>?_⟩;rcases mem_cons.mp hx with rfl | hx
     ·exact .inl ⟨l,b,rfl,e⟩
     ·exact(h3 x hx).imp id λz=>⟨ybx _ z.1,z.2⟩
noncomputable def lg (D:Nat) (l:List Nat) (s:List bx):Prop:=∀d,D<=d->∀rest,Nx [] rest->aX (cA d) (l++rest)=some (s,rest)
noncomputable def qm (D:Nat) (l:List Nat) (s:List bx):Prop:=∀d,D<=d->∀rest,Nx [94] rest->cy (cA d) (l++rest)=some (s,rest)
noncomputable def nX (D:Nat) (l:List Nat) (s:List bx):Prop:=∀d,D<=d->∀rest,Nx [94] rest->∃k,rest.length<=k/\cC (cA d) (l++rest)=bq (cy (cA d)) 42 k s rest
noncomputable def nY (D:Nat) (l:List Nat) (s:List bx):Prop:=∀d,D<=d->∀rest,Nx [42,94] rest->∃k,rest.length<=k/\dW d (l++rest)=bq (cC (cA d)) 43 k s rest
section
variable {D D2:Nat} {l m:List Nat} {s t:List bx}
theorem lg.up (h:lg D l s):qm D l s:=λd hd rest hn=>Ai (h d hd rest (hn.less λx hx=>by cases hx)) hn
theorem qm.up (h:qm D l s):nX D l s:=λd hd rest hn=>by
 refine⟨rest.length,ycx _,?_⟩;unfold cC;rw[h d hd rest hn]
theorem nX.get (h:nX D l s) {d:Nat} (hd:D<=d) {rest:List Nat} (hn:Nx [42,94] rest):cC (cA d) (l++rest)=some (s,rest):=by
 obtain⟨k,_,e⟩:=h d hd rest (hn.less λx hx=>by rw[mem_singleton.mp hx];decide);rw[e];exact qh (hn.less λx hx=>by rw[mem_singleton.mp hx];decide) k
theorem nX.up (h:nX D l s):nY D l s:=λd hd rest hn=>by
 refine⟨rest.length,ycx _,?_⟩;rw[fy];unfold dt;rw[h.get hd hn]
theorem nY.get (h:nY D l s) {d:Nat} (hd:D<=d) {rest:List Nat} (hn:Nx [42,43,94] rest):dW d (l++rest)=some (s,rest):=by
 obtain⟨k,_,e⟩:=h d hd rest (hn.less λx hx=>by simp at hx ⊢;rcases hx with h | h<;> simp[h]);rw[e];exact qh (hn.less λx hx=>by rw[mem_singleton.mp hx];decide) k
theorem nY.all (h:nY D l s) (hd:D<=20):dy l=some s:=by
 have:=h.get hd (rest:=[]) Nx.nil;rw[append_nil] at this;unfold dy;rw[this]
theorem wL {x:bx} (ht:∀y,y∈l->eJ y=true) (hx:j6 l=some x):lg D l [x]:=λ_ _ _ hn=>kX ht hx hn
theorem nY.br (h:nY D l s):lg (D+1) (40::(l++[41])) s:=λd hd rest _=>by
 obtain⟨d,rfl⟩:∃k,d=k+1:=⟨d-1,by lia⟩;exact Ah (h.get (d:=d) (by lia) (Nx.cons (by decide) (by decide)))
theorem Am (h:nY D l s) (h2:nX D m t):nY D (l++43::m) (s++t++[.op 43]):=λd hd rest hn=>by
 obtain⟨k,hk,e⟩:=h d hd (43::(m++rest)) (Nx.cons (by decide) (by decide));rw[length_cons,length_append] at hk;obtain⟨k,rfl⟩:∃j,k=j+1:=⟨k-1,by (clear hd;lia)⟩;refine⟨k,by (clear hd;lia),?_⟩;rw[show l++43::m++rest=l++(43::(m++rest)) by simp,e,mQ (h2.get hd hn)]
theorem wM (h:nX D l s) (h2:qm D m t):nX D (l++42::m) (s++t++[.op 42]):=λd hd rest hn=>by
 obtain⟨k,hk,e⟩:=h d hd (42::(m++rest)) (Nx.cons (by decide) (by decide));rw[length_cons,length_append] at hk;obtain⟨k,rfl⟩:∃j,k=j+1:=⟨k-1,by (clear hd;lia)⟩;refine⟨k,by (clear hd;lia),?_⟩;rw[show l++42::m++rest=l++(42::(m++rest)) by simp,e,mQ (h2 d hd rest hn)]
theorem An (h:lg D l s) (h2:lg D m t):qm D (l++94::m) (s++t++[.op 94]):=λd hd rest hn=>by
 rw[show l++94::m++rest=l++(94::(m++rest)) by simp];exact wF (h d hd _ (Nx.cons (by decide) (by decide))) (h2 d hd rest (hn.less λx hx=>by cases hx))
theorem lg.le (h:lg D l s) (hD:D<=D2):lg D2 l s:=λd hd=>h d (ycy hD hd)
theorem qm.le (h:qm D l s) (hD:D<=D2):qm D2 l s:=λd hd=>h d (ycy hD hd)
theorem nX.le (h:nX D l s) (hD:D<=D2):nX D2 l s:=λd hd=>h d (ycy hD hd)
theorem nY.le (h:nY D l s) (hD:D<=D2):nY D2 l s:=λd hd=>h d (ycy hD hd)
noncomputable def kc:Nat->Nat->List Nat->List bx->Prop
 | 0=>lg
 | 1=>qm
 | 2=>nX
 | _=>nY
theorem kc.le (h:kc k D l s) (hD:D<=D2):kc k D2 l s:=
 match k,h with
 | 0,h=>lg.le h hD
 | 1,h=>qm.le h hD
 | 2,h=>nX.le h hD
 | _+3,h=>nY.le h hD
theorem kc.sum (h:kc k D l s):nY D l s:=
 match k,h with
 | 0,h=>(lg.up h).up.up
 | 1,h=>(qm.up h).up
 | 2,h=>nX.up h
 | _+3,h=>h
theorem kc.prod (h:kc k D l s) (hk:k<=2):nX D l s:=
 match k,h,hk with
 | 0,h,_=>(lg.up h).up
 | 1,h,_=>qm.up h
 | 2,h,_=>h
theorem kc.pow (h:kc k D l s) (hk:k<=1):qm D l s:=
 match k,h,hk with
 | 0,h,_=>lg.up h
 | 1,h,_=>h
theorem kc.thing (h:kc k D l s) (hk:k=0):lg D l s:=by subst hk;exact h
theorem gM (nm:List Nat->Option O):∀{s t s' t':List bx},dD nm s=some s'->dD nm t=some t'->dD nm (s++t)=some (s'++t')
 | [],t,s',t',h,g=>by
   cases h;exact g
 | .nam l::s,t,s',t',h,g=>by
   show(match nm l with | some b=>(dD nm (s++t)).map (bx.num b:: ·) | none=>none)=_
   replace h:(match nm l with | some b=>(dD nm s).map (bx.num b:: ·) | none=>none)=some s':=h
   cases hl:nm l with
   | none=>rw[hl] at h;cases h
   | some b=>
     rw[hl] at h;cases hs:dD nm s with
     | none=>rw[hs] at h;cases h
     | some s1=>
       rw[hs] at h;cases h;simp only[gM nm hs g]
       rfl
 | .num a::s,t,s',t',h,g=>by
   show(dD nm (s++t)).map (bx.num a:: ·)=_
   replace h:(dD nm s).map (bx.num a:: ·)=some s':=h
   cases hs:dD nm s with
   | none=>rw[hs] at h;cases h
   | some s1=>
     rw[hs] at h;cases h;rw[gM nm hs g]
     rfl
 | .op a::s,t,s',t',h,g=>by
   show(dD nm (s++t)).map (bx.op a:: ·)=_
   replace h:(dD nm s).map (bx.op a:: ·)=some s':=h
   cases hs:dD nm s with
   | none=>rw[hs] at h;cases h
   | some s1=>
     rw[hs] at h;cases h;rw[gM nm hs g]
     rfl
end
end Nm
namespace L2
open PySem PySem.Spec PyProof.Rows Nm
noncomputable def am:O->List W
 | .z=>[]
 | .c e n r=> .tup [.tup (am e),.int n]::am r
noncomputable def eK (o:O):W:= .tup (am o)
noncomputable def cO (e:O) (n:Int):W:= .tup [eK e,.int n]
theorem Ao:am .z=[]:=rfl
theorem bp (e:O) (n:Int) (r:O):am (.c e n r)=cO e n::am r:=rfl
theorem aJ:∀a:O,(am a).length=a.len
 | .z=>rfl
 | .c e n r=>by rw[bp,length_cons,aJ r];rfl
theorem mX {e:O} {n:Int} (h:W.flats (am e)=true):(cO e n).flat=true:=by
 simp[cO,eK,W.flat,W.flats,h]
theorem cz:∀a:O,W.flats (am a)=true
 | .z=>by simp[am,W.flats]
 | .c e n r=>by
   rw[bp];simp[W.flats,mX (cz e),cz r]
theorem uq (a:O):(eK a).flat=true:=by simp[eK,W.flat,cz a]
theorem kd (e:O) (n:Int):(cO e n).flat=true:=mX (cz e)
theorem gP:∀a:O,W.deps (am a)<=2*a.dp
 | .z=>by simp[am,W.deps]
 | .c e n r=>by
   have h1:=gP e;have h2:=gP r;rw[bp];simp only[W.deps,cO,eK,W.dep,O.dp];lia
theorem qo (a:O):(eK a).dep<=2*a.dp+1:=by
 have:=gP a;simp only[eK,W.dep];lia
theorem wN (e:O) (n:Int):(cO e n).dep<=2*e.dp+2:=by
 have:=qo e;simp only[cO,W.dep,W.deps];lia
theorem iP:∀a b:O,W.eqs (am a) (am b)=decide (a=b)
 | .z,.z=>by simp[am,W.eqs]
 | .z,.c _ _ _=>by simp[am,W.eqs]
 | .c _ _ _,.z=>by simp[am,W.eqs]
 | .c e n r,.c e' n' r'=>by
   have h1:=iP e e';have h2:=iP r r';simp only[am,W.eqs,W.eq_tup,W.eq_int,h1,h2,Bool.and_true];rw[Bool.eq_iff_iff];simp only[Bool.and_eq_true,decide_eq_true_eq,beq_iff_eq,O.c.injEq];constructor
   ·rintro⟨⟨a,b⟩,c⟩;exact⟨a,b,c⟩
   ·rintro⟨a,b,c⟩;exact⟨⟨a,b⟩,c⟩
theorem o6 (a b:O):(eK a).eq (eK b)=decide (a=b):=iP a b
theorem ur (e e':O) (n n':Int):(cO e n).eq (cO e' n')=(decide (e=e')&&decide (n=n')):=by
 have:=o6 e e';simp only[cO,W.eq_tup,W.eq_int,W.eqs,this,Bool.and_true]
 congr 1
theorem fA (a b:O):(W.tup (am a)).eq (W.tup (am b))=decide (a=b):=o6 a b
theorem aY (a:O):(W.tup (am a)).flat=true:=uq a
theorem bV (a:O):(W.tup (am a)).dep<=2*a.dp+1:=qo a
noncomputable def gv (n m:Int):Int:=if n<m then -1 else if m<n then 1 else 0
noncomputable def mY (e:O) (n:Int) (e':O) (n':Int):Int:=if O.cmp e e'≠0 then O.cmp e e' else gv n n'
theorem ut (e:O) (n:Int) (r e':O) (n':Int) (r':O):O.cmp (.c e n r) (.c e' n' r')=if mY e n e' n'≠0 then mY e n e' n' else O.cmp r r':=by
 unfold mY gv;rw[O.cmp]
 by_cases h:O.cmp e e'=0
 ·rcases Int.lt_trichotomy n n' with k | k | k
  ·have k':¬n'<n:=by (clear h;lia)
   simp[h,k]
  ·subst k;simp[h]
  ·have k':¬n<n':=by (clear h;lia)
   simp[h,k,k']
 ·simp[h]
theorem qp (n m:Int):b2i (decide (m<n))-b2i (decide (n<m))=gv n m:=by
 unfold gv;rcases Int.lt_trichotomy n m with k | k | k
 ·have k':¬m<n:=by lia
  simp[b2i,k,k']
 ·subst k;simp[b2i]
 ·have k':¬n<m:=by lia
  simp[b2i,k,k']
theorem mZ {a b:O} (h:am a=am b):a=b:=by
 have:=iP a b;rw[h,W.eqs_refl _ (cz b)] at this;simpa using this.symm
theorem fB:∀a b:O,am (a.app b)=am a++am b
 | .z,b=>by simp[O.app,am]
 | .c e n r,b=>by
   show am (.c e n (r.app b))=_;rw[bp,bp,fB r b]
   rfl
theorem Cs {α:Type} (x:α) (xs:List α):eA (x::xs) 0=some x:=by
 simp[eA,sY]
theorem Ct {α:Type} (x y:α) (xs:List α):eA (x::y::xs) 1=some y:=by
 have h:(1:Int)<((xs.length:Int)+1+1):=by lia
 simp[eA,sY,h]
theorem uu (i:Int):(W.int i).flat=true:=by simp[W.flat]
theorem wO (i:Int):(W.int i).dep=0:=by simp[W.dep]
theorem o7 (i j:Int):(W.int i).eq (W.int j)=(i==j):=rfl
theorem uv:(W.tup []).flat=true:=by simp[W.flat,W.flats]
theorem wP:(W.tup []).dep=1:=by simp[W.dep,W.deps]
theorem bP (a:O):(W.tup (am a)).eq (W.tup [])=decide (a=.z):=o6 a .z
theorem EX (i j:Int):(i==j)=decide (i=j):=by
 by_cases h:i=j<;> simp[h]
theorem aG.done {G:Gp} {q:Gp->Prop} (h:q G):∃G0,aG G0 G/\q G0:=⟨G,aG.refl G,h⟩
theorem bU {C:Gp->Prop} {g:WG} {tb:WS} {d:dL} (Iv:List W->dF->Gp->Prop) (stop:∀τ G,Iv [] τ G->C G/\d.nx τ G)
 (step:∀w ws τ G (k:dF->Gp->Prop),Iv (w::ws) τ G->(∀τ3 G3,Iv ws τ3 G3->k τ3 G3)->C G/\g w τ G λτ2 G2=>tb { d with nx:=k,ct:=k,bk:=d.nx } τ2 G2):∀ws τ G,Iv ws τ G->jc C g tb d ws τ G
 | [],τ,G,h=>stop τ G h
 | w::ws,τ,G,h=>step w ws τ G _ h λτ3 G3 h3=>bU Iv stop step ws τ3 G3 h3
theorem wQ {x y:O} (h:d9 (am x) (am y)=[]):x=.z∨y=.z:=by
 cases x with
 | z=>exact .inl rfl
 | c e n r=>
   cases y with
   | z=>exact .inr rfl
   | c e' n' r'=>simp[am,d9] at h
theorem uw {x y:O} {w:W} {ws:List W} (h:d9 (am x) (am y)=w::ws):∃e n r e' n' r',x=.c e n r/\y=.c e' n' r'/\w=.tup [cO e n,cO e' n']/\ws=d9 (am r) (am r'):=by
 cases x with
 | z=>simp[am,d9] at h
 | c e n r=>
   cases y with
   | z=>simp[am,d9] at h
   | c e' n' r'=>
     rw[bp,bp] at h;simp only[d9,List.cons.injEq] at h;exact⟨e,n,r,e',n',r',rfl,rfl,h.1.symm,h.2.symm⟩
theorem lh {n m:Int} (h:n<m):gv n m= -1:=by unfold gv;rw[ycv h]
theorem li {n m:Int} (h:m<n):gv n m=1:=by unfold gv;rw[ycw (by lia),ycv h]
theorem ke (n:Int):gv n n=0:=by unfold gv;simp
theorem m8 {x y:O} (h:x=.z∨y=.z):O.cmp x y=gv x.len y.len:=by
 rcases h with rfl | rfl
 ·cases y with
  | z=>rfl
  | c e n r=>rw[lh (by simp only[O.len];lia)];rfl
 ·cases x with
  | z=>rfl
  | c e n r=>rw[li (by simp only[O.len];lia)];rfl
theorem o8 {a b x y:Nat} (h:a+y=b+x):gv (a:Int) (b:Int)=gv (x:Int) (y:Int):=by
 rcases Nat.lt_trichotomy x y with k | k | k
 ·rw[lh (by lia),lh (by (clear h;lia))]
 ·have:a=b:=by lia
  subst k this;rw[ke,ke]
 ·rw[li (by lia),li (by (clear h;lia))]
theorem jo:∀(a:O) (i:Nat),(am a)[i]?=(a.getP i).map λp=>cO p.1 p.2
 | .z,i=>by simp[am,O.getP]
 | .c e n r,0=>by rw[bp];rfl
 | .c e n r,i+1=>by
   rw[bp];simpa[O.getP] using jo r i
theorem eX {a:O} {e:O} {n:Int} (h:a.getP i=some (e,n)):eA (am a) (i:Int)=some (cO e n):=eR (by rw[jo,h];rfl)
theorem io:∀(i:Nat) (a:O),(am a).drop i=am (O.dropO i a)
 | 0,a=>rfl
 | i+1,.z=>by simp[am,O.dropO]
 | i+1,.c e n r=>by
   rw[bp];simpa[O.dropO] using io i r
theorem ip:∀(i:Nat) (a:O),(am a).take i=am (O.takeO i a)
 | 0,a=>by simp[O.takeO,am]
 | i+1,.z=>by simp[am,O.takeO]
 | i+1,.c e n r=>by
   rw[bp,List.take_succ_cons,ip i r]
   rfl
theorem o9 (xs:List W) (k:Nat):cQ xs none (some (k:Int))=xs.take k:=by
 unfold cQ;rw[HT.sIx_none,HT.sIx_nat,drop_zero,Nat.sub_zero];rcases Nat.le_total k xs.length with h | h
 ·rw[Nat.min_eq_left h]
 ·rw[Nat.min_eq_right h,take_length,take_of_length_le h]
theorem gQ (xs:List W) (k:Nat):cQ xs (some (k:Int)) none=xs.drop k:=by
 unfold cQ;rw[HT.sIx_none,HT.sIx_nat];rcases Nat.le_total k xs.length with h | h
 ·rw[Nat.min_eq_left h];exact take_of_length_le (by rw[length_drop];(clear h;lia))
 ·rw[Nat.min_eq_right h,List.drop_length,List.drop_of_length_le h];simp
theorem wR (xs:List W):cQ xs none (some (-1))=xs.take (xs.length-1):=by
 unfold cQ;have e:HT.sIx xs.length xs.length (some (-1))=xs.length-1:=by
  show(if (-1:Int)<0 then ((-1:Int)+(xs.length:Int)).toNat else min (-1:Int).toNat xs.length)=_;rw[ycv (by lia)];lia
 rw[HT.sIx_none,e,drop_zero,Nat.sub_zero]
theorem rV (xs:List W):cQ xs (some (-1)) none=xs.drop (xs.length-1):=by
 unfold cQ;have e:HT.sIx xs.length 0 (some (-1))=xs.length-1:=by
  show(if (-1:Int)<0 then ((-1:Int)+(xs.length:Int)).toNat else min (-1:Int).toNat xs.length)=_;rw[ycv (by lia)];lia
 rw[HT.sIx_none,e];exact take_of_length_le (by rw[length_drop];(clear e;lia))
theorem kf:∀a:O,O.takeO (a.len-1) a=O.init a
 | .z=>rfl
 | .c _ _ .z=>rfl
 | .c e n (.c e' n' r')=>by
   have h:=kf (.c e' n' r');simp only[O.len,Nat.add_sub_cancel] at h ⊢;rw[O.takeO,h];simp[O.init]
theorem kg:∀a:O,O.dropO (a.len-1) a=O.last a
 | .z=>rfl
 | .c _ _ .z=>rfl
 | .c e n (.c e' n' r')=>by
   have h:=kg (.c e' n' r');simp only[O.len,Nat.add_sub_cancel] at h ⊢;rw[O.dropO,h];simp[O.last]
theorem m9 (a:O):cQ (am a) none (some (-1))=am (O.init a):=by rw[wR,aJ,ip,kf]
theorem uz (a:O):cQ (am a) (some (-1)) none=am (O.last a):=by rw[rV,aJ,io,kg]
theorem pe:∀{a:O},a≠ .z->∃e n,O.last a=.c e n .z/\a.getP (a.len-1)=some (e,n)
 | .z,h=>absurd rfl h
 | .c e n .z,_=>⟨e,n,rfl,rfl⟩
 | .c e n (.c e' n' r'),_=>by
   obtain⟨x,m,h1,h2⟩:=pe (a:= .c e' n' r') (by simp);refine⟨x,m,?_,?_⟩
   ·rw[←h1];simp[O.last]
   ·simp only[O.len,Nat.add_sub_cancel] at h2 ⊢;rw[←h2];simp[O.getP]
theorem uA {xs:List W} {w:W} (h:xs[xs.length-1]?=some w):eA xs (-1)=some w:=by
 have hl:xs.length-1<xs.length:=(List.getElem?_eq_some_iff.mp h).1;unfold eA sY;rw[ycw (by (clear h hl;lia)),ycv (by (clear h;lia))];show xs[((-1:Int)+(xs.length:Int)).toNat]?=some w;rw[←h]
 congr 1
 (clear h;lia)
theorem eY {a:O} {e:O} {n:Int} (h:a.getP (a.len-1)=some (e,n)):eA (am a) (-1)=some (cO e n):=uA (by rw[aJ,jo,h];rfl)
theorem jp:∀a b:O,W.ords (am a) (am b)=true/\W.lts (am a) (am b)=decide (O.cmp a b<0)
 | .z,.z=>by simp[am,W.ords,W.lts,O.cmp]
 | .z,.c _ _ _=>by simp[am,W.ords,W.lts,O.cmp]
 | .c _ _ _,.z=>by simp[am,W.ords,W.lts,O.cmp]
 | .c e n r,.c e' n' r'=>by
   obtain⟨o1,l1⟩:=jp e e';obtain⟨o2,l2⟩:=jp r r';rw[bp,bp,W.ords,W.lts,ur]
   by_cases h:(decide (e=e')&&decide (n=n'))=true
   ·rw[ycv h,ycv h];have h':e=e'/\n=n':=by simpa using h
    obtain⟨rfl,rfl⟩:=h';refine⟨o2,?_⟩;rw[l2,O.cmp,ycw (by rw[O.cmp_self];simp),ycw (by (clear l2 l1 h;lia)),ycw (by (clear l2 l1 h;lia))]
   ·rw[ycw h,ycw h];have ee:(W.tup (am e)).eq (W.tup (am e'))=decide (e=e'):=fA e e';unfold cO eK;rw[W.ord,W.lt,W.ords,W.lts,ee]
    by_cases q:e=e'
    ·subst q;rw[ycv (by simp),ycv (by simp),W.ords,W.lts];have hn:¬n=n':=λz=>h (by simp[z]);rw[o7,ycw (by simpa using hn),ycw (by simpa using hn),W.ord,W.lt];refine⟨rfl,?_⟩;rw[O.cmp,ycw (by rw[O.cmp_self];simp)]
     by_cases k:n<n'
     ·rw[ycv k];simp[k]
     ·rw[ycw k,ycv (by (clear l2 l1 h;lia))];simp[k]
    ·rw[ycw (by simpa using q),ycw (by simpa using q),W.ord,W.lt];refine⟨o1,?_⟩;rw[l1,O.cmp,ycv (λz=>q (O.cmp_eq _ _ z))]
theorem kh (a:O) (h:a.dp<=70):W.deps (am a)<=149:=by
 have:=gP a;lia
noncomputable def Df (K:yav) (mg:yew) (x:Str) (st:Stmt) (ps:List Str):Prop:=∃(f:Addr) (fd:FuncData),cq K x x st f fd/\bM K fd ps []/\mg x=some (.ref f)
theorem Df.fx {sp:bA} (D:Df K mg x st ps) (h:∀(f:Addr) (fd:FuncData),cq K x x st f fd->cu P w K mg base k f fd ps sp):Fx P w K mg base x ps k sp:=by
 obtain⟨f,fd,F,b,m⟩:=D;exact⟨f,fd,h f fd F,m,F.kp,b⟩
noncomputable def ki:bA:=λws _ q _=>∃ns:List Int,ws=[.scr ns]/\ns.length<=63/\∀G',q (.bl true) G'
theorem Ap {H:Hp} {ns:List Int} (hO:tj H) (hS:dE K H a (ns.map V.int)):yi K H a ns:=by
 rcases hS with(h | h) | h
 ·rcases hO a with z | ⟨o,xs,z⟩
  ·rw[z] at h;cases h
  ·rw[z] at h;cases h
 ·exact .inl h
 ·exact .inr h
theorem rW {H:Hp} {ns:List Int} (hO:tj H) (hS:dE K H a (ns.map V.int)) (hl:ns.length<=63):vp K ki [.ref a] H (λv _=>v=.bl true) λ_ _ _=>False:=
 ⟨[.scr ns],λ_=>none,λw _=>w=.bl true,λ_ _=>False,.cons (.scr (Ap hO hS)) .nil,λ_ _ e=>(by cases e),⟨ns,rfl,hl,λ_=>rfl⟩,λv H1 w G1 _ r _ e=>(by subst e;cases r;rfl),λ_ _ _ _ _ _ z=>z⟩
noncomputable def cF (os:List O):List W:=os.map λo=> .tup (am o)
theorem bW (os:List O):(cF os).length=os.length:=length_map _
theorem uB {os:List O} {o:O} (h:os[i]?=some o):(cF os)[i]?=some (.tup (am o)):=by
 unfold cF;rw[List.getElem?_map,h];rfl
theorem wS {os:List O} {i:Int} (h0:0<=i) (h1:i<os.length):∃o,o∈os/\eA (cF os) i=some (.tup (am o)):=by
 have hl:i.toNat<os.length:=by lia
 have e:((i.toNat:Nat):Int)=i:=Int.toNat_of_nonneg h0;have q:=eR (uB (ycz hl));rw[e] at q;exact⟨_,getElem_mem hl,q⟩
theorem eL (os:List O) (o:O):cF os++[.tup (am o)]=cF (os++[o]):=by simp[cF]
theorem fC {i j:Int} (h:0<j):0<=i%j/\i%j<j:=⟨Int.emod_nonneg _ (by lia),Int.emod_lt_of_pos _ h⟩
theorem ng {os:List O} {X n:Int} {R:W->Prop} (hn:n=(os.length:Int)) (h0:0<os.length) (hR:∀o,o∈os->R (.tup (am o))):∃w,eA (cF os) (X%n)=some w/\R w:=by
 have h:=fC (i:=X) (j:=n) (by lia);obtain⟨o,m,e⟩:=wS (os:=os) (i:=X%n) h.1 (by (clear h0;lia));exact⟨_,e,hR o m⟩
theorem ni {A B X lo hi:Int} {R:W->Prop} (hA:lo<=A/\A<hi) (hB:lo<=B/\B<hi) (hR:∀m,lo<=m->m<hi->R (.int m)):∃w,eA [W.int A,W.int B] (X%2)=some w/\R w:=by
 have h:=fC (i:=X) (j:=2) (by (clear hA hB;lia));have k:X%2=0∨X%2=1:=by (clear hA hB;lia)
 rcases k with k | k
 ·rw[k];exact⟨_,Cs _ _,hR A hA.1 hA.2⟩
 ·rw[k];exact⟨_,Ct _ _ _,hR B hB.1 hB.2⟩
theorem Aq (j:Int):zg 10 j=(0<=j/\j<=1000000):=by
 unfold zg;have:(10:Int).natAbs<2^64:=by decide
 simp[this]
theorem aI {t u:WS} {d:dL} {τ:dF} {G:Gp} (h:∀U:WS,U=u->t { d with nx:=U d } τ G):zK t u d τ G:=h u rfl
theorem aV {G:Gp} {a b:Addr} {g g':GO} (h:G b=some g') (ha:G a=none):aQ G a g b=some g':=by
 rw[aK (λz=>by rw[z,ha] at h;cases h)];exact h
theorem fE (p:O->Int->Bool):∀a:O,(a.filt p).len<=a.len
 | .z=>ycx _
 | .c e n r=>by
   have:=fE p r;rw[O.filt_c];split<;> simp only[O.len]<;> lia
theorem yC {xs:List W} {i:Int} {R:List W->W->Prop} (h:∃w,eA xs i=some w/\R xs w):∃xs' w,xs=xs'/\eA xs' i=some w/\R xs' w:=by
 obtain⟨w,e,r⟩:=h;exact⟨xs,w,rfl,e,r⟩
theorem gy {g:Option GO} {xs:List W} {i:Int} {R:List W->W->Prop} (e:g=some (.lst xs)) (h:∃w,eA xs i=some w/\R xs w):∃xs' w,g=some (.lst xs')/\eA xs' i=some w/\R xs' w:=by
 obtain⟨w,e',r⟩:=h;exact⟨xs,w,e,e',r⟩
theorem wT (G:Gp) (i:Int):rA G (.int i)=some "int":=rfl
theorem Ar (G:Gp) (b:Bool):rA G (.bl b)=some "bool":=rfl
theorem wU (G:Gp) (ws:List W):rA G (.tup ws)=some "tuple":=rfl
theorem wV (G:Gp):rA G .non=some "NoneType":=rfl
theorem wW:fR "int" "int"=true:=by decide
theorem wX:fR "int" "bool"=false:=by decide
theorem wY:fR "int" "tuple"=false:=by decide
theorem wZ:fR "bool" "int"=true:=by decide
theorem w6:fR "bool" "bool"=true:=by decide
theorem w9:fR "bool" "tuple"=false:=by decide
theorem xb:fR "tuple" "tuple"=true:=by decide
theorem xc:fR "tuple" "int"=false:=by decide
theorem xf:fR "tuple" "bool"=false:=by decide
theorem xg:fR "list" "list"=true:=by decide
theorem xh:fR "NoneType" "tuple"=false:=by decide
theorem As:((0:Nat):Int)=0:=rfl
theorem At:((1:Nat):Int)=1:=rfl
theorem Au:((2:Nat):Int)=2:=rfl
theorem Av:((3:Nat):Int)=3:=rfl
theorem jq {c:WT} {tb:WS} {d:dL} {τ:dF} {G:Gp} (I:Nat->dF->Gp->Prop) (h0:∃m,I m τ G)
 (h:∀m τ G,I m τ G->∀B:WS,B=tb->c τ G λb G1=>if b=true then ∃N:dF->Gp->Prop,(∀τ1 G1,N τ1 G1->∃m1,m1<m/\I m1 τ1 G1)/\B { d with nx:=N,ct:=N,bk:=d.nx } τ G1 else d.nx τ G1):tz c tb d τ G:=
 ⟨I,h0,λm τ G hI=>h m τ G hI tb rfl⟩
theorem EY {α:Type} (x y v:α) (xs:List α):eA (x::y::v::xs) 2=some v:=eR (j:=2) rfl
theorem nj (n i:Nat) (h:i<n):(sx n).drop i=.int (i:Int)::(sx n).drop (i+1):=by
 have hl:i<(sx n).length:=by simp[sx,h]
 rw[drop_eq_getElem_cons hl]
 congr 1
 simp[sx]
theorem iQ {C:Gp->Prop} {g:WG} {tb:WS} {d:dL} {τ:dF} {G:Gp} (n:Nat) (Iv:Nat->dF->Gp->Prop) (h0:Iv 0 τ G) (stop:∀τ G,Iv n τ G->C G/\d.nx τ G)
 (step:∀(i:Nat) τ G (k:dF->Gp->Prop),i<n->Iv i τ G->(∀τ3 G3,Iv (i+1) τ3 G3->k τ3 G3)->C G/\g (.int (i:Int)) τ G λτ2 G2=>tb { d with nx:=k,ct:=k,bk:=d.nx } τ2 G2):jc C g tb d (sx n) τ G:=by
 refine bU (λws τ G=>∃i,i<=n/\ws=(sx n).drop i/\Iv i τ G) ?_ ?_ _ _ _ ⟨0,zero_le _,rfl,h0⟩
 ·rintro τ G ⟨i,hi,hw,hI⟩;have:i=n:=by
   rcases Nat.lt_or_ge i n with k | k
   ·rw[nj n i k] at hw;cases hw
   ·lia
  subst this;exact stop τ G hI
 ·rintro w ws τ G k ⟨i,hi,hw,hI⟩ hk;have hlt:i<n:=by
   rcases Nat.lt_or_ge i n with j | j
   ·exact j
   ·rw[List.drop_of_length_le (by simp[sx];assumption)] at hw;cases hw
  rw[nj n i hlt] at hw;cases hw;exact step i τ G k hlt hI λτ3 G3 h3=>hk τ3 G3 ⟨i+1,hlt,rfl,h3⟩
noncomputable def jK (Pd:O->Int->Prop):O->Prop
 | .z=>True
 | .c e n r=>Pd e n/\jK Pd r
theorem jK.imp {Pd Pd':O->Int->Prop} (h:∀e n,Pd e n->Pd' e n):∀{a:O},jK Pd a->jK Pd' a
 | .z,_=>trivial
 | .c _ _ _,k=>⟨h _ _ k.1,jK.imp h k.2⟩
theorem fL:∀a:O,jK (λe _=>e.dp<a.dp/\e.size<a.size) a
 | .z=>trivial
 | .c e n r=>⟨by simp only[O.dp,O.size];lia,(fL r).imp λx m h=>by simp only[O.dp,O.size];lia⟩
theorem fM:∀a:O,jK (λe _=>e.dp<a.dp/\O.hw e<=O.hw a) a
 | .z=>trivial
 | .c e n r=>⟨by rw[O.hw_c];simp only[O.dp];lia,(fM r).imp λx m h=>by rw[O.hw_c];simp only[O.dp];lia⟩
noncomputable def mapP (p:O->Int->Bool) (f:O->Int->W):O->List W
 | .z=>[]
 | .c e n r=>if p e n then f e n::mapP p f r else mapP p f r
theorem jr (p:O->Int->Bool):∀a:O,mapP p cO a=am (a.filt p)
 | .z=>rfl
 | .c e n r=>by
   rw[mapP,O.filt_c,jr p r];split
   ·rw[bp]
   ·rfl
theorem kj:∀a:O,∃ns:List Int,mapP (λ_ _=>true) (λe _=> .int e.size) a=ns.map W.int/\(a.len:Int)+ns.sum=a.size
 | .z=>⟨[],rfl,rfl⟩
 | .c e n r=>by
   obtain⟨ns,h1,h2⟩:=kj r;refine⟨(e.size:Int)::ns,by rw[mapP,h1];rfl,?_⟩;simp only[O.len,O.size,sum_cons];lia
theorem iq (x:O):∀a:O,∃ns:List Int,mapP (λe _=>decide (e=x)) (λ_ n=> .int n) a=ns.map W.int/\ns.sum=O.same x a
 | .z=>⟨[],rfl,rfl⟩
 | .c e n r=>by
   obtain⟨ns,h1,h2⟩:=iq x r
   by_cases h:e=x
   ·subst h;refine⟨n::ns,by rw[mapP,ycv (by simp),h1];rfl,?_⟩;rw[O.same_eq,sum_cons,h2]
   ·refine⟨ns,by rw[mapP,ycw (by simpa using h),h1],?_⟩;rw[O.same_ne h,h2]
theorem cg {C:Gp->Prop} {tt:WT} {te:WE} {i:Nat} {τ0:dF} {G:Gp} {q:List W->Gp->Prop} {Pd:O->Int->Prop} (p:O->Int->Bool) (f:O->Int->W) (hC:C G):∀{a:O} {acc:List W} {τ:dF},jK Pd a->
 (∀e n,Pd e n->∀k:Bool->Gp->Prop,k (p e n) G->tt (τ0.set i (some (cO e n))) G k)->(∀e n,Pd e n->p e n=true->∀k:W->Gp->Prop,k (f e n) G->te (τ0.set i (some (cO e n))) G k)->acc.length+a.len<=100000->(∀x,τ.set i x=τ0.set i x)->
 q (acc++mapP p f a) G->cf C (ff i) tt te (am a) τ G acc q
 | .z,acc,τ,_,_,_,_,_,hq=>⟨hC,by simpa[mapP] using hq⟩
 | .c e n r,acc,τ,hP,ht,he,hl,hτ,hq=>by
   rw[bp];refine⟨hC,?_⟩;show tt (τ.set i (some (cO e n))) G _;rw[hτ];refine ht e n hP.1 _ ?_;have hτ':∀x,(τ0.set i (some (cO e n))).set i x=τ0.set i x:=λx=>List.set_set ..;simp only[O.len] at hl;rw[mapP] at hq;cases hp:p e n with
   | true=>
     rw[ycv rfl];refine he e n hP.1 hp _ ⟨by lia,?_⟩;rw[hp,ycv rfl] at hq;exact cg p f hC hP.2 ht he (by rw[length_append];simp;lia) hτ' (by simpa using hq)
   | false=>
     rw[ycw ydx];rw[hp,ycw ydx] at hq;exact cg p f hC hP.2 ht he (by lia) hτ' hq
theorem aG.put {G G1:Gp} {p:Addr} {g:GO} (h:aG G G1) (hp:G p=none):aG G (aQ G1 p g):=λa u e=>by
 have:=h a u e;unfold aQ;split
 ·rename_i q;subst q;rw[hp] at e;cases e
 ·exact this
noncomputable def xi:Int:=(10^172)^7
theorem qr {i:Int} (h0:0<=i) (h:i<=xi):i.natAbs<2^4000:=by
 have h2:xi<((2^4000:Nat):Int):=by decide+kernel
 generalize (2:Nat)^4000=B at h2 ⊢;lia
theorem Aw:(10:Int)^200<=xi:=by decide+kernel
theorem xj:(2:Int)*(10^50+3)^24<=xi:=by decide+kernel
end L2
namespace Nm
namespace O
end O
end Nm
namespace L2
open PySem PySem.Spec PyProof.Rows Nm
section
variable {P:Program} {w:World} {K:yav} {mg:yew} {base:Heap} {x:Str} {st:Stmt} {ps:List Str} {k:Nat} {sp:bA}
theorem Df.rx (D:Df K mg x st ps) (h:∀(f:Addr) (fd:FuncData),cq K x x st f fd->jG P w K mg base k f fd ps sp):Rx P w K mg base x ps k sp []:=by
 obtain⟨f,fd,F,b,m⟩:=D;exact⟨f,fd,[],[],h f fd F,m,F.kp,b,.nil,λ_=> .nil⟩
theorem wn.rx {dws:List W} (D:wn K mg x st ps dws) (h:∀(f:Addr) (fd:FuncData) (T:Addr) (ds:yez),gs K x x st f fd T ds->jG P w K mg base k f fd ps sp):Rx P w K mg base x ps k sp []:=by
 obtain⟨f,fd,T,ds,dvs,F,b,b',m,_,_⟩:=D;exact⟨f,fd,[],[],h f fd T ds F,m,F.kp,b,.nil,λ_=> .nil⟩
end
open PySem PySem.Spec PyProof.Rows PySem.W
@[irreducible] def GV (i:Int):Prop:=i.natAbs<2^1048576
@[irreducible] def Wide (i:Int):Prop:=i.natAbs<2^1048577
set_option exponentiation.threshold 500 in
noncomputable def Cu (i j:Int):Prop:=(Wide i/\j.natAbs<2^4000)∨(i.natAbs<2^4000/\Wide j)
noncomputable def js (i j:Int):Prop:=pM i j∨Cu i j
theorem js.ok {i j:Int} (h:js i j):IntMulOk i j:=by
 have key:∀{x y:Int},Wide x->y.natAbs<2^4000->¬(((Builtin.Int.intBits x+Builtin.Int.intBits y:Int)) > bitsLine):=λ{x y} h1 h2=>by
  unfold Wide at h1;have b1:=PyProof.Rows.intBits_le h1;have b2:=PyProof.Rows.intBits_le h2;have hb:(1053000:Int)<=bitsLine:=by decide
  (clear h1 h2;lia)
 rcases h with h | ⟨h1,h2⟩ | ⟨h1,h2⟩
 ·exact h.ok
 ·have:=key h1 h2;unfold IntMulOk Builtin.Int.intTooBig;simp[this]
 ·have:=key h2 h1;rw[Int.add_comm] at this;unfold IntMulOk Builtin.Int.intTooBig;simp[this]
theorem lj {n:Nat} (h:n<10^7000):Wide (n:Int):=by
 unfold Wide;have h1:(10:Nat)^7000<=2^24000:=by decide+kernel
 have h2:(2:Nat)^24000<=2^1048577:=Nat.pow_le_pow_right (by decide) (by decide);exact ydw h (ycy h1 h2)
section
variable {X:Cx}
theorem xk:gA X (binaryOp .Mult) (rI js λi j=> .int (i*j)):=DT λ_ _ _ _ _ _ _ hc q=>mul_int q hc.ok
end
open PySem PySem.Spec PyProof.Rows
theorem aR.rep {K:yav} {H:Hp} {ws:List W} {vs:List V} (r:aR K H ws vs):∀k:Nat,aR K H (List.replicate k ws).flatten (List.replicate k vs).flatten
 | 0=> .nil
 | k+1=>by
   rw[replicate_succ,flatten_cons,replicate_succ,flatten_cons];exact r.append (aR.rep r k)
section
variable {X:Cx}
noncomputable def yD:W2:=λx y G q=>match x,y with
 | .int i,.int j=>js i j/\q (.int (i*j)) G
 | .ref a,.int k=>∃xs,G a=some (.lst xs)/\0<=k/\k<=100000/\xs.length*k.toNat<=100000/\∀p,G p=none->q (.ref p) (aQ G p (.lst (List.replicate k.toNat xs).flatten))
 | .tup xs,.int k=>xs≠[]/\0<=k/\k<=100000/\xs.length*k.toNat<=100000/\q (.tup (List.replicate k.toNat xs).flatten) G
 | _,_=>False
theorem Ax:fc X (binaryOp .Mult) yD:=by
 rintro π s σ H x y v u Q I rx ry ⟨wx,wy,G,q,r1,r2,g,h,hQ⟩;cases r2 with
 | int k=>
   cases r1 with
   | int i=>exact xk π s σ H _ _ v u Q I rx ry ⟨_,_,rfl,rfl,h.1,hQ _ H _ G (aP.refl H) (.int _) g h.2⟩
   | ref a=>
     obtain⟨xs,ea,h0,h1,hl,h⟩:=h;obtain⟨_,xs',ha,ra⟩:=g _ _ ea;refine zD π s σ H _ _ v u Q I rx ry ⟨_,_,_,rfl,rfl,ha,ydv (by decide) h0,Int.lt_of_le_of_lt h1 (by decide),by rw[←ra.length];exact bQ hl,λp hp=>?_⟩;exact hQ _ _ _ _ (aP.new hp _) (.ref p) (g.put (aP.new hp _) (ra.rep _) (by rw[iL,Nat.mul_comm];exact hl)) (h p (g.fresh hp))
   | @tup a ws xs ha ra=>
     obtain⟨hne,h0,h1,hl,h⟩:=h;refine wq π s σ H _ _ v u Q I rx ry ⟨a,_,_,rfl,rfl,dA.of ha,λz=>?_,h0,h1,by rw[←ra.length];exact bQ hl,λe=>?_,λ_ p hp=>?_⟩
     ·subst z;cases ra;exact hne rfl
     ·subst e;have e1:∀zs:List W,(List.replicate (Int.toNat 1) zs).flatten=zs:=λzs=>by simp
      rw[e1] at h;exact hQ _ H _ G (aP.refl H) (.tup ha ra) g h
     ·exact hQ _ _ _ G (aP.new hp _) (.tup ba ((ra.rep _).mono (aP.new hp _))) (g.keep hp _) h
   | _=>exact False.elim h
 | _=>cases r1<;> exact False.elim h
end
end L2
namespace Nm
namespace O
end O
end Nm
namespace L2
open PySem PySem.Spec PyProof.Rows
section
variable {X:Cx}
theorem lp (z:Str):z.cps.toList.length=z.length:=by simp[Str.length]
noncomputable def kl:W2:=λx y G q=>match x,y with
 | .str a,.str b=>a.length+b.length<=100000/\q (.str (a++b)) G
 | x,y=>BO x y G q
theorem aU:fc X (binaryOp .Add) kl:=by
 rintro π s σ H x y v u Q I rx ry ⟨wx,wy,G,q,r1,r2,g,h,hQ⟩;unfold kl at h;split at h
 ·cases r1;cases r2;exact og π s σ H _ _ v u Q I rx ry ⟨_,_,rfl,rfl,bQ h.1,hQ _ H _ G (aP.refl H) (.str _) g h.2⟩
 ·exact BP π s σ H x y v u Q I rx ry ⟨wx,wy,G,q,r1,r2,g,h,hQ⟩
noncomputable def km:W2:=λx y G q=>match x,y with
 | .str a,.int k=>0<=k/\k<=100000/\a.length*k.toNat<=100000/\∀z:Str,z.length<=a.length*k.toNat->q (.str z) G
 | x,y=>yD x y G q
theorem kn (a:Array Nat):∀(n:Nat) (b:Array Nat),(List.foldl (λx1 x2=>x1++x2) b (List.replicate n a)).size=b.size+a.size*n
 | 0,b=>by simp
 | n+1,b=>by
   rw[replicate_succ,foldl_cons,kn a n,Array.size_append,Nat.mul_succ];lia
theorem xl (x:Str) {n:Int} (h:0<=n):(Txt.mul x n).length<=x.length*n.toNat:=by
 unfold Txt.mul;split
 ·exact zero_le _
 ·split
  ·rename_i h1 h2;have:1<=n.toNat:=by (clear h;lia)
   exact Nat.le_mul_of_pos_right _ this
  ·show Array.size _<=x.cps.size*n.toNat;rw[kn];simp
theorem ir:fc X (binaryOp .Mult) km:=by
 rintro π s σ H x y v u Q I rx ry ⟨wx,wy,G,q,r1,r2,g,h,hQ⟩;unfold km at h;split at h
 ·rename_i a k;obtain⟨h0,h1,hl,h⟩:=h;cases r1;cases r2;obtain⟨t,rfl⟩:=rx;obtain⟨t',rfl⟩:=ry;refine SB.mul ?_ λt' tk=>⟨.str _,H,I.tok _,⟨_,rfl⟩,hQ _ H _ G (aP.refl H) (.str _) g (h _ (xl a h0))⟩;have hk:(k.toNat:Int)=k:=by (clear hl;lia)
  refine⟨?_,λh2 h3=>?_,λh2 h3=>?_⟩
  ·have e1:decide (k< -(2^63:Int))=false:=ydy (by (clear hl;lia));have e2:decide (k≥2^63)=false:=ydy (by (clear hl e1;lia));rw[e1,e2,Bool.or_false]
  ·have h4:((a.length*k.toNat:Nat):Int)<=((100000:Nat):Int):=Int.ofNat_le.mpr hl;rw[Int.natCast_mul,hk] at h4;have h5:(a.length:Int)<=(2^63-1)/k:=by
    rw[Int.le_ediv_iff_mul_le (by (clear hl h4;lia))];exact ydv h4 (by decide)
   exact Int.not_lt.mpr h5
  ·exact ydy (not_lt.mpr (bQ hl))
 ·exact Ax π s σ H x y v u Q I rx ry ⟨wx,wy,G,q,r1,r2,g,h,hQ⟩
noncomputable def uC:W2:=λx y G q=>match x,y with
 | .str z,.int i=>z.length<=100000/\∃c,eA z.cps.toList i=some c/\q (.str ⟨#[c]⟩) G
 | x,y=>BQ x y G q
theorem Cv:BE X uC:=by
 rintro value slice π s σ H x y v u Q I rx ry ⟨wx,wy,G,q,r1,r2,g,h,hQ⟩ hsl;unfold uC at h;split at h
 ·obtain⟨hz,c,e,h⟩:=h;cases r1;cases r2;exact zz value slice π s σ H _ _ v u Q I rx ry ⟨_,_,c,rfl,rfl,bQ hz,e,hQ _ H _ G (aP.refl H) (.str _) g h⟩ hsl
 ·exact EE value slice π s σ H x y v u Q I rx ry ⟨wx,wy,G,q,r1,r2,g,h,hQ⟩ hsl
noncomputable def uD:List W->Gp->WK->Prop:=λws G q=>match ws with
 | [.str z]=>z.length<=100000/\q (.int z.length) G
 | ws=>BM ws G q
theorem Ay:d4 X (.builtin "len") uD:=by
 rintro π s σ H xs us Q I r ⟨ws,G,q,rw',g,h,hQ⟩;unfold uD at h;split at h
 ·obtain⟨v,rfl,r1⟩:=rw'.one;cases r1;exact kI π s σ H _ us Q I r ⟨_,rfl,bQ h.1,hQ _ H _ G (aP.refl H) (.int _) g h.2⟩
 ·exact yr π s σ H xs us Q I r ⟨ws,G,q,rw',g,h,hQ⟩
noncomputable def EZ (x:Str):It:=⟨λi _=>i<x.cps.toList.length,λi H y H'=>H'=H/\∃c,x.cps.toList[i]?=some c/\y=.str ⟨#[c]⟩,λi _=>x.cps.toList.length<=i⟩
theorem ko (hA:A.handled=none) (it:Addr) (x:Str) (t:Tok):Walks P w A it [it] [it] x.cps.size (SignAt x) (λi h=>h.IsStrIter it (strIterType x) x t i):=by
 unfold strIterType;split
 ·exact Walks.strAscii hA it x t
 ·exact Walks.strWide hA it x t
theorem uE {tg:Expr} (it:Addr) (x:Str) (t:Tok):lM P w K tg (EZ x) [it] it (λi h=>i<=x.cps.size/\h.IsStrIter it (strIterType x) x t i) where
 mem:=by simp
 obj:=λi h st b hb=>by
  have e:b=it:=by simpa using hb
  subst e;obtain⟨_,o,e1,e2,e3⟩:=st;exact⟨_,e1,λv z=>by rw[e3] at z;cases z⟩
 keep:=λi h h' st k=>by
  obtain⟨hi,o,e1,e2,e3⟩:=st;exact⟨hi,o,k it (by simp) _ e1,e2,e3⟩
 item:=by
  intro X hP hw hK hc i π s σ H E I hf st hg;subst hP hw hK;obtain⟨f0,f1,f2,f3,f4,f5⟩:=hf it (by simp);have hg':i<x.cps.size:=by
   have h:i<x.cps.toList.length:=hg;simpa using h
  refine(ko (I.ok.hd hc) it x t).item i s _ _ hg' st.2 λv h' tk hv st' kk=>?_;obtain⟨c,u,e,rfl⟩:=hv;have I1:aH X π σ H { s with heap:=h',toks:=tk }:=I.turned (λb o hb e=>kk b o (by simpa using hb) e) f0 f1 f3 f4 f5;obtain⟨o,e1,e2,e3⟩:=id st';refine⟨_,rfl,lN (s:={ s with heap:=h',toks:=tk }) (n:=strIterType x) e1 e2 e3 ?_ ⟨.str ⟨#[c]⟩,H,I1,⟨u,rfl⟩,⟨rfl,c,by simpa using e,rfl⟩,⟨hg',st'⟩,λb hb=>(hf b hb).1⟩⟩;unfold strIterType;split<;> decide
 done:=by
  intro X hP hw hK hc i π s σ H E I hf st hg;subst hP hw hK;obtain⟨f0,f1,f2,f3,f4,f5⟩:=hf it (by simp);have hg':x.cps.size<=i:=by
   have h:x.cps.toList.length<=i:=hg;simpa using h
  have hi:i=x.cps.size:=Nat.le_antisymm st.1 hg';subst hi;exact(ko (I.ok.hd hc) it x t).done s _ _ st.2 λh' tk kk=>⟨rfl,I.turned (t':=tk) (λb o hb e=>kk b o (by simpa using hb) e) f0 f1 f3 f4 f5⟩
 self:=λA i s Q E st h=>by
  obtain⟨_,o,e1,e2,e3⟩:=st;unfold strIterType at e2;split at e2
  ·exact wpAny_pyIter_striter_ascii ⟨o,e1,e2,e3⟩ h
  ·exact wpAny_pyIter_striter_wide ⟨o,e1,e2,e3⟩ h
noncomputable def DX (l:List Nat):List W:=l.map λc=> .str ⟨#[c]⟩
theorem xm {H:Hp}:tI K (EZ x) (DX x.cps.toList) (λ_=>True) H where
 stop:=λi H1 G t g _ hl=>by
  have h:x.cps.toList.length<=i:=by simpa[DX] using hl
  exact h
 go:=λi w H1 G t g _ e=>by
  unfold DX at e;rw[List.getElem?_map] at e;cases h:x.cps.toList[i]? with
  | none=>rw[h] at e;cases e
  | some c=>
    rw[h] at e;cases e;refine⟨(List.getElem?_eq_some_iff.mp h).1,λy H' ⟨eH,c',hc,hy⟩=>?_⟩;subst eH hy;rw[h] at hc;cases hc;exact⟨aP.refl _,.str _,g⟩
variable {tg:Expr}
theorem xn {l:Expr} {tl:TE} (hl:PE X l tl):PI X tg l (λσ H R=>tl σ H λx H1=>(∃z,x=.str z/\R (EZ z) H1)∨∃a,x=.ref a/\(((∃xs,dE X.K H1 a xs)/\R (DR X.K a) H1)∨((∃xs,dA X.K H1 a xs)/\R (Ee X.K a) H1))):=by
 intro π s σ H R I h;refine ci (hl π s σ H _ I h) λv s1 z9=>?_;obtain⟨x,H1,I1,r1,q1⟩:=z9;rcases q1 with⟨z,rfl,q⟩ | ⟨a,e,q1⟩
 ·obtain⟨t,rfl⟩:=r1;refine wpAny_pyIter_strU ?_;refine⟨s1.heap.objs.size,[s1.heap.objs.size],_,_,H1,rfl,I1.kept (t':=s1.toks) λb o e=>ybz _ e,uE _ z t,⟨zero_le _,_,ybw _ rfl,rfl,rfl⟩,λb hb=>?_,q⟩;have e:b=s1.heap.objs.size:=by simpa using hb
  subst e;exact I1.fpOk (ycx _) (I1.hok.fresh (ycx _))
 ·subst e;cases r1;rcases q1 with⟨⟨xs,hq⟩,q⟩ | ⟨⟨xs,hq⟩,q⟩
  ·obtain⟨its,rv,p,hz⟩:=I1.list hq;refine wpAny_pyIter_list p.isList ?_;refine⟨s1.heap.objs.size,[s1.heap.objs.size],_,_,H1,rfl,I1.kept (t':=s1.toks) λb o e=>ybz _ e,qR a _,⟨_,ybw _ rfl,rfl,rfl⟩,λb hb=>?_,q⟩;have e:b=s1.heap.objs.size:=by simpa using hb
   subst e;exact I1.fpOk (ycx _) (I1.hok.fresh (ycx _))
  ·obtain⟨its,rv,p,hz⟩:=I1.tuple hq;refine wpAny_pyIter_tuple (show s1.heap.IsTuple a its.toArray from p) ?_;refine⟨s1.heap.objs.size,[s1.heap.objs.size],_,_,H1,rfl,I1.kept (t':=s1.toks) λb o e=>ybz _ e,n8 a _,⟨_,ybw _ rfl,rfl,rfl⟩,λb hb=>?_,q⟩;have e:b=s1.heap.objs.size:=by simpa using hb
   subst e;exact I1.fpOk (ycx _) (I1.hok.fresh (ycx _))
noncomputable def yE (te:WE):WI:=λτ G r=>te τ G λx G1=>match x with
 | .str z=>r (DX z.cps.toList) (λ_=>True) G1
 | .tup ws=>r ws (λ_=>True) G1
 | .scr ns=>r (ns.map W.int) (λ_=>True) G1
 | .ref a=>∃ws,G1 a=some (.lst ws)/\r ws (λG=>G a=some (.lst ws)) G1
 | _=>False
theorem bv {l:Expr} {te:WE} (hl:QE X l te):QI X tg l (yE te):=
 (xn hl).imp λσ H R ⟨τ,G,r,hs,hg,ht,hR⟩=>⟨τ,G,_,hs,hg,ht,λv H1 w G1 t1 r1 g1 q1=>by
   split at q1
   ·cases r1;exact .inl ⟨_,rfl,hR _ H1 _ _ G1 t1 g1 xm q1⟩
   ·cases r1 with
    | tup h rr=>exact .inr ⟨_,rfl,.inr ⟨⟨_,dA.of h⟩,hR _ H1 _ _ G1 t1 g1 (wc h rr) q1⟩⟩
   ·cases r1 with
    | scr h=>exact .inr ⟨_,rfl,.inl ⟨⟨_,h.sq⟩,hR _ H1 _ _ G1 t1 g1 (we h) q1⟩⟩
   ·obtain⟨ws,e,q1⟩:=q1;cases r1;obtain⟨_,xs,h1,_⟩:=g1 _ _ e;exact .inr ⟨_,rfl,.inl ⟨⟨xs,dE.of h1⟩,hR _ H1 _ _ G1 t1 g1 wd q1⟩⟩
   ·exact q1.elim⟩
noncomputable def rX (ts:List Str):Str:=⟨(ts.map λt=>t.cps.toList).flatten.toArray⟩
theorem iF:∀(ts:List Str) (b:Array Nat),List.foldl (λacc (p:Str)=>acc++(#[]:Array Nat)++p.cps) b ts=b++(ts.map λt=>t.cps.toList).flatten.toArray
 | [],b=>by simp
 | t::ts,b=>by
   rw[foldl_cons,iF ts];apply Array.toList_inj.mp;simp
theorem uF (ts:List Str):Txt.join ⟨#[]⟩ ts=rX ts:=by
 unfold Txt.join Builtin.Str.glued rX;cases ts with
 | nil=>rfl
 | cons t ts=>
   show Str.mk (List.foldl (λacc (p:Str)=>acc++(#[]:Array Nat)++p.cps) t.cps ts)=_;rw[iF];apply congrArg;apply Array.toList_inj.mp;simp
noncomputable def Cw (K:yav):V->List V->Hp->VK->Prop:=λx vs H Q=>∃l ts,x=.str ⟨#[]⟩/\vs=[.ref l]/\dE K H l (ts.map V.str)/\(ts.map λt=>t.length).sum<=100000/\Q (.str (rX ts)) H
theorem nk:∀{ts:List Str} {its:yez},aT (ts.map V.str) its->StrsAre its ts
 | [],_,h=>by cases h;exact .nil
 | t::ts,_,h=>by
   cases h with
   | cons r rs=>
     obtain⟨k,rfl⟩:=r;exact .cons _ _ (nk rs)
theorem xo:Er X "str.join" (Cw X.K):=by
 intro π s σ H x vs v us Q I rx rv h;obtain⟨l,ts,rfl,rfl,hl,hs,q⟩:=h;obtain⟨t,rfl⟩:=rx;obtain⟨u1,rfl,r1⟩:=dZ rv;cases r1;obtain⟨its,rv,p,hz⟩:=I.list hl;refine join_list (ys:=ts) p.isList (nk rv) ?_ λt' k=>?_
 ·have e:ts.length*(Str.mk #[]).length=0:=Nat.mul_zero _;rw[e];exact ycy hs (by decide)
 ·rw[uF];exact⟨.str _,H,I.tok _,⟨_,rfl⟩,q⟩
noncomputable def yF (te:WE):WE:=λτ G q=>te τ G λy G2=>∃a ts,y=.ref a/\G2 a=some (.lst (ts.map W.str))/\(ts.map λt=>t.length).sum<=100000/\q (.str (rX ts)) G2
theorem nq {K:yav} {H:Hp}:∀{ts:List Str} {vs:List V},aR K H (ts.map W.str) vs->vs=ts.map V.str
 | [],_,h=>by cases h;rfl
 | t::ts,_,h=>by
   cases h with
   | cons r rs=>
     cases r;rw[nq rs]
     rfl
theorem xp {z:Str} {op:Pos} {te:WE} {apos cpos:Pos} (he:QE X e te) (hz:z=⟨#[]⟩:=by rfl)
 (hbase:attributeBase (.Constant (.str z) k op) "join" X.env (eval (.Constant (.str z) k op) X.env)=eval (.Constant (.str z) k op) X.env:=by rfl)
 (hfew:((backTo cpos (starEach [e] X.env)).all (λx=>!x.1)&&(backToKw cpos (keywordEach [] X.env)).all (λx=>x.1.isSome)
   &&decide (([e]:List Expr).length+([]:List Keyword).length+(if ([]:List Keyword).isEmpty then 0 else 1)<30))=true:=by rfl)
 (hline:(apos.endLine==cpos.line)=true:=by rfl) (hs:starEach [e] X.env=(false,eval e X.env)::starEach [] X.env:=by rfl) (hpl:(backTo cpos (starEach [] X.env)).any (·.1)=false:=by rfl):
 QE X (.Call (.Attribute (.Constant (.str z) k op) "join" apos) [e] [] cpos) (yF te):=
 (tf PySem.F.plainAttrs_str PySem.F.slot_str_join PySem.F.type_str_join xo n6 (dn he pa_nil hs) hbase hfew hline hs hpl).imp λσ H Q z0=>z0.el λτ G q hs hg ht hQ=>by
   subst hz;refine⟨rfl,τ,G,_,hs,hg,ht,λv2 H2 w2 G2 t2 r2 g2 q2=>?_⟩;obtain⟨a,ts,rfl,e2,hl,q2⟩:=q2;cases r2;obtain⟨_,xs,h1,rr⟩:=g2 _ _ e2;rw[nq rr] at h1;exact⟨_,ts,rfl,rfl,dE.of h1,hl,hQ _ _ _ _ t2 (.str _) g2 q2⟩
end
open PySem PySem.Spec PyProof.Rows Nm
theorem gR {β:Type} {C:Gp->Prop} {te:WE} {i:Nat} {τ0:dF} {G:Gp} {q:List W->Gp->Prop} (key val:β->W) (hC:C G):∀{ps:List β} {acc:List W} {τ:dF},
 (∀p,p∈ps->∀k:W->Gp->Prop,k (val p) G->te (τ0.set i (some (key p))) G k)->acc.length+ps.length<=100000->(∀x,τ.set i x=τ0.set i x)->q (acc++ps.map val) G->cf C (ff i) tM te (ps.map key) τ G acc q
 | [],acc,τ,_,_,_,hq=>⟨hC,by simpa using hq⟩
 | p::ps,acc,τ,ht,hl,hτ,hq=>by
   refine⟨hC,?_⟩;show te (τ.set i (some (key p))) G _;rw[hτ];refine ht p yby _ ?_;rw[length_cons] at hl;refine⟨by lia,gR key val hC (λu hu=>ht u (ybx _ hu)) (by rw[length_append];simp only[length_cons,length_nil];lia) (λx=>?_) (by simpa using hq)⟩;rw[List.set_set]
theorem jt {G:Gp} {p:Addr} {g g':GO}:aQ (aQ G p g) p g'=aQ G p g':=by
 funext b
 unfold aQ;split<;> rfl
theorem bB {c A B:Prop} {d:Decidable c} (h1:c->A) (h2:¬c->B): @ite Prop c d A B:=by
 cases d with
 | isTrue h=>exact h1 h
 | isFalse h=>exact h2 h
section
variable {X:Cx} {π:List (Addr×Obj)} {σ:St} {H:Hp} {s:Shared} {a:Addr} {o:Obj} {kvs:List (bd×V)}
theorem aH.swap {u v:HO} (I:aH X π σ H s) (e:H a=some u) (un:Un X.fs X.ex X.H₀ (upd H a v) X.s₀.heap s.heap) (hv:ca X.prog X.w (upd H a v) s.heap a v) (nu:∀xs,u≠ .tup xs) (no:∀x,u≠ .own x):aH X π σ (upd H a v) s:=by
 have ne:∀b,H b=none->b≠a:=λb hb z=>by rw[z,e] at hb;cases hb
 refine⟨I.ok,I.os,I.bare,un,I.loc,I.cell,by rw[aC (ne _ I.free)];exact I.free,λx c hc=>by rw[aC (ne _ (I.freeC x c hc))];exact I.freeC x c hc,λp hp=>?_,λb w hb=>?_,I.len⟩
 ·obtain⟨h1,h2,h3⟩:=I.pin p hp;exact⟨h1,by rw[aC (ne _ h2)];exact h2,h3⟩
 ·by_cases hba:b=a
  ·subst hba;rw[ba] at hb;cases hb;exact hv
  ·rw[aC hba] at hb;refine(I.hok b w hb).stay (λd v _ q=>q) (λd q=>?_) λd xs q=>?_
   ·rw[aC (λz=>by rw[z,e] at q;exact no _ (Option.some.inj q))];exact q
   ·rw[aC (λz=>by rw[z,e] at q;exact nu _ (Option.some.inj q))];exact q
theorem aH.freeze (I:aH X π σ H s) (e:H a=some (.dK kvs)) (ho:s.heap.get? a=some o):aH X π σ (upd H a (.frz o (.dK kvs))) s:=by
 refine I.swap e ?_ ⟨ho,(I.hok a _ e)⟩ (λ_ z=>by cases z) (λ_ z=>by cases z);have U:=I.base;refine⟨U.keep,U.slot,λb ob h1 h2 h3=>?_,U.there,λb xs h1=>?_,λb ob w h1=>?_,λb ps h1=>?_⟩
 ·have h4:=U.free b ob h1 h2 h3;rw[aC (λz=>by rw[z,e] at h4;cases h4)];exact h4
 ·have h4:=U.tups b xs h1;rw[aC (λz=>by rw[z,e] at h4;cases h4)];exact h4
 ·have h4:=U.frzs b ob w h1;rw[aC (λz=>by rw[z,e] at h4;cases h4)];exact h4
 ·obtain⟨m,h4⟩:=U.tbls b ps h1;exact⟨m,by rw[aC (λz=>by rw[z,e] at h4;cases h4)];exact h4⟩
theorem aH.thaw (I:aH X π σ H s) (e:H a=some (.frz o (.dK kvs))) (h0:∀ob w,X.H₀ a≠some (.frz ob w)):aH X π σ (upd H a (.dK kvs)) s:=by
 refine I.swap e ?_ (I.hok a _ e).2 (λ_ z=>by cases z) (λ_ z=>by cases z);have U:=I.base;refine⟨U.keep,U.slot,λb ob h1 h2 h3=>?_,U.there,λb xs h1=>?_,λb ob w h1=>?_,λb ps h1=>?_⟩
 ·have h4:=U.free b ob h1 h2 h3;rw[aC (λz=>by rw[z,e] at h4;cases h4)];exact h4
 ·have h4:=U.tups b xs h1;rw[aC (λz=>by rw[z,e] at h4;cases h4)];exact h4
 ·have h4:=U.frzs b ob w h1;rw[aC (λz=>by rw[z] at h1;exact h0 _ _ h1)];exact h4
 ·obtain⟨m,h4⟩:=U.tbls b ps h1;exact⟨m,by rw[aC (λz=>by rw[z,e] at h4;cases h4)];exact h4⟩
theorem aH.nofrz (I:aH X π σ H s) (e:H a=some (.dK kvs)):∀ob w,X.H₀ a≠some (.frz ob w):=λob w h=>by
 have:=I.base.frzs a ob w h;rw[e] at this;cases this
noncomputable def E1 (d:Addr) (o:Obj) (kvs:List (bd×V)):It:=⟨λi H=>H d=some (.frz o (.dK kvs))/\i<kvs.length,λi H y H'=>H'=H/\∃kv,kvs[i]?=some kv/\y=kV kv.1,λi H=>H d=some (.frz o (.dK kvs))/\kvs.length<=i⟩
theorem aH.dictAt {es:Array DictEntry} {ep:Nat} (I:aH X π σ H s) (e:H a=some (.frz o (.dK kvs))) (hd:o.data=.dict es ep):∃vs,KV kvs vs/\s.heap.DictAt (bF X.prog X.w) a vs ep/\(a==sysModules)=false:=by
 obtain⟨h1,_,h2,vs,h3,o2,es2,ep2,h4,h5,h6,h7⟩:=I.hok a _ e;rw[h1] at h4;cases h4;rw[hd] at h6;cases h6;exact⟨vs,h3,⟨o,es,h1,h5,hd,h7⟩,h2⟩
theorem xq {k:bd} {v:Value} (h:iV k v=true):bn (kV k) v:=by
 rcases bL h with⟨i,t,rfl,rfl⟩ | ⟨x,t,rfl,rfl⟩
 ·exact⟨t,rfl⟩
 ·exact⟨t,rfl⟩
theorem rY {tg:Expr} {es:Array DictEntry} {ep:Nat} (it d:Addr) (hne:d≠it) (hd:o.data=.dict es ep):lM P w K tg (E1 d o kvs) [it] it (λi h=>i<=kvs.length/\h.IsKeyIter it d i kvs.length ep) where
 mem:=by simp
 obj:=λi h st b hb=>by
  have e:b=it:=by simpa using hb
  subst e;obtain⟨_,o,e1,e2,e3⟩:=st;exact⟨_,e1,λv z=>by rw[e3] at z;cases z⟩
 keep:=λi h h' st k=>by
  obtain⟨hi,o,e1,e2,e3⟩:=st;exact⟨hi,o,k it (by simp) _ e1,e2,e3⟩
 item:=by
  intro X hP hw hK hc i π s σ H E I hf st hg;subst hP hw hK;obtain⟨f0,f1,f2,f3,f4,f5⟩:=hf it (by simp);obtain⟨hfz,hi⟩:=hg;obtain⟨vs,kv,da,_⟩:=I.dictAt hfz hd;have hl:=kv.length;refine(Walks.dictKeys (knd:=bF X.prog X.w) (I.ok.hd hc) it d hne vs ep).item i s _ _ (by (clear st f3;lia)) ⟨by rw[←hl];exact st.2,da⟩ λv h' tk hv st' kk=>?_;obtain⟨k,x,e1,e2⟩:=hv;have I1:aH X π σ H { s with heap:=h',toks:=tk }:=I.turned (λb o hb e=>kk b o (by simpa using hb) e) f0 f1 f3 f4 f5;obtain⟨⟨o',g1,g2,g3⟩,_⟩:=id st';have hk:∃kv0,kvs[i]?=some kv0/\kv0.1=k:=by
   have h1:=KV.keys kv;have h2:(kvs.map (·.1))[i]?=some k:=by rw[h1,List.getElem?_map,e1];rfl
   rw[List.getElem?_map] at h2;cases h3:kvs[i]? with
   | none=>rw[h3] at h2;cases h2
   | some p=>rw[h3] at h2;exact⟨p,rfl,Option.some.inj h2⟩
  obtain⟨kv0,h3,h4⟩:=hk;refine⟨_,rfl,lN (s:={ s with heap:=h',toks:=tk }) (n:="dict_keyiterator") g1 g2 g3 (by decide) ⟨kV k,H,I1,xq e2,⟨rfl,kv0,h3,by rw[h4]⟩,⟨by assumption,by rw[hl];exact st'.1⟩,λb hb=>(hf b hb).1⟩⟩
 done:=by
  intro X hP hw hK hc i π s σ H E I hf st hg;subst hP hw hK;obtain⟨f0,f1,f2,f3,f4,f5⟩:=hf it (by simp);obtain⟨hfz,hi⟩:=hg;obtain⟨vs,kv,da,_⟩:=I.dictAt hfz hd;have hl:=kv.length;have hi2:i=kvs.length:=Nat.le_antisymm st.1 hi;subst hi2;exact(Walks.dictKeys (knd:=bF X.prog X.w) (I.ok.hd hc) it d hne vs ep).done s _ _ (by rw[←hl];exact⟨st.2,da⟩) λh' tk kk=>⟨rfl,I.turned (t':=tk) (λb o hb e=>kk b o (by simpa using hb) e) f0 f1 f3 f4 f5⟩
 self:=λA i s Q E st h=>wpAny_pyIter_keyiter st.2 h
variable {tg:Expr}
theorem xt {p:Pos} (hN:X.N[i]?=some x) (hv:AZ X.env.scope x) (hd:(x==("__debug__":Str))=false:=by decide) (hcd:(x==("__classdict__":Str))=false:=by decide):
 PI X tg (.Name x p) (λσ H R=>∃a kvs,σ[i]?=some (some (.ref a))/\H a=some (.dK kvs)/\∀o,R (E1 a o kvs) (upd H a (.frz o (.dK kvs)))):=by
 rintro π s σ H R I ⟨a,kvs,hi,e,h⟩;refine ci (n5 (pos:=p) hN hv hd hcd π s σ H (λv H'=>v=.ref a/\H'=H) I ⟨_,hi,rfl,rfl⟩) λu s1 z9=>?_;obtain⟨v,H1,I1,r,hv1,hH⟩:=z9;subst hv1;subst hH;obtain rfl:u=Value.ref a:=r;obtain⟨_,hm,vs,kv,o,es,ep,h1,h2,h3,h4⟩:=yh I1.hok e;have J:=I1.freeze e h1;refine wpAny_pyIter_dict (knd:=bF X.prog X.w) hm ⟨o,es,h1,h2,h3,h4⟩ ?_;have hne:a≠s1.heap.objs.size:=ne_of_lt (ybv h1);refine⟨s1.heap.objs.size,[s1.heap.objs.size],_,_,_,rfl,J.kept (t':=s1.toks) λb o e=>ybz _ e,rY (o:=o) (kvs:=kvs) (es:=es) (ep:=ep) _ a hne h3,⟨zero_le _,by rw[kv.length];exact⟨_,ybw _ rfl,rfl,rfl⟩⟩,λb hb=>?_,h o⟩;have e:b=s1.heap.objs.size:=by simpa using hb
 subst e;exact J.fpOk (ycx _) (J.hok.fresh (ycx _))
end
noncomputable def eg (kvs:List (bd×W)) (k:bd):Option W:=(kvs.find? λkv=>decide (kv.1=k)).map (·.2)
noncomputable def fT (kvs:List (bd×W)) (k:bd) (w:W):List (bd×W):=
 if (kvs.any λkv=>decide (kv.1=k))=true then kvs.map (λkv=>if kv.1=k then (kv.1,w) else kv) else kvs++[(k,w)]
inductive DP (K:yav) (H:Hp):List (bd×W)->List (bd×V)->Prop where
 | nil:DP K H [] []
 | cons {k:bd} {w:W} {v:V} {kvs:List (bd×W)} {us:List (bd×V)} (r:cj K H w v) (t:DP K H kvs us):DP K H ((k,w)::kvs) ((k,v)::us)
section
variable {K:yav} {H H1:Hp}
theorem DP.of:∀{kvs:List (bd×W)} {us:List (bd×V)},us.map (·.1)=kvs.map (·.1)->aR K H (kvs.map (·.2)) (us.map (·.2))->DP K H kvs us
 | [],[],_,_=> .nil
 | [],_::_,h,_=>by simp at h
 | _::_,[],h,_=>by simp at h
 | (k,w)::kvs,(k',v)::us,h,r=>by
   simp only[map_cons,List.cons.injEq] at h;obtain⟨rfl,h⟩:=h;cases r with
   | cons r rs=>exact .cons r (DP.of h rs)
theorem DP.keys {kvs:List (bd×W)} {us:List (bd×V)} (d:DP K H kvs us):us.map (·.1)=kvs.map (·.1):=by
 induction d with
 | nil=>rfl
 | cons r t ih=>rw[map_cons,map_cons,ih]
theorem DP.vals {kvs:List (bd×W)} {us:List (bd×V)} (d:DP K H kvs us):aR K H (kvs.map (·.2)) (us.map (·.2)):=by
 induction d with
 | nil=>exact .nil
 | cons r t ih=>exact .cons r ih
theorem DP.len {kvs:List (bd×W)} {us:List (bd×V)} (d:DP K H kvs us):us.length=kvs.length:=by
 have:=congrArg List.length d.keys;simpa using this
theorem DP.mono {kvs:List (bd×W)} {us:List (bd×V)} (t:aP H H1) (d:DP K H kvs us):DP K H1 kvs us:=DP.of d.keys (d.vals.mono t)
theorem DP.val {kvs:List (bd×W)} {us:List (bd×V)} (d:DP K H kvs us) (k:bd):(eg kvs k=none/\kJ us k=none)∨∃w v,eg kvs k=some w/\kJ us k=some v/\cj K H w v:=by
 induction d with
 | nil=>exact .inl ⟨rfl,rfl⟩
 | @cons k' w v kvs us r t ih=>
   by_cases e:k'=k
   ·exact .inr ⟨w,v,by simp[eg,List.find?_cons,e],lT e,r⟩
   ·rw[show eg ((k',w)::kvs) k=eg kvs k by simp[eg,List.find?_cons,e],lU (p:=(k',v)) e];exact ih
theorem DP.any {kvs:List (bd×W)} {us:List (bd×V)} (d:DP K H kvs us) (k:bd):(us.any λkv=>decide (kv.1=k))=kvs.any λkv=>decide (kv.1=k):=by
 induction d with
 | nil=>rfl
 | cons r t ih=>rw[any_cons,any_cons,ih]
theorem DP.put {kvs:List (bd×W)} {us:List (bd×V)} (d:DP K H kvs us) (k:bd) {w:W} {v:V} (r:cj K H w v):DP K H (fT kvs k w) (ib us k v):=by
 unfold fT ib;rw[d.any k]
 by_cases e:(kvs.any λkv=>decide (kv.1=k))=true
 ·rw[ycv e,ycv e];clear e
  induction d with
  | nil=>exact .nil
  | @cons k' w' v' kvs us r' t ih=>
    rw[map_cons,map_cons]
    by_cases e:k'=k
    ·rw[ycv e,ycv e];exact .cons r ih
    ·rw[ycw e,ycw e];exact .cons r' ih
 ·rw[ycw e,ycw e];clear e
  induction d with
  | nil=>exact .cons r .nil
  | cons r' t ih=>exact .cons r' ih
end
theorem gS (kvs:List (bd×W)) (k:bd) (w:W):(fT kvs k w).length<=kvs.length+1:=by
 unfold fT;split
 ·rw[length_map];lia
 ·rw[length_append,length_cons,length_nil];lia
noncomputable def GD (G:Gp) (a:Addr) (kvs:List (bd×W)):Prop:=G a=some (.dic kvs)∨∃o us,G a=some (.fdc o us kvs)
section
variable {K:yav} {H:Hp} {G:Gp} {a:Addr} {kvs:List (bd×W)}
theorem GD.rd (h:GD G a kvs) (g:aO K H G):kvs.length<=100000/\∃us,Rd H a (.dK us)/\DP K H kvs us:=by
 rcases h with h | ⟨o,us,h⟩
 ·obtain⟨l,us,e,n,r⟩:=g a _ h;exact⟨l,us,.inl e,DP.of n r⟩
 ·obtain⟨l,e,n,r⟩:=g a _ h;exact⟨l,us,.inr ⟨o,e⟩,DP.of n r⟩
theorem aP.dk {us:List (bd×V)} (hp:H a=some (.dK us)) (o:HO):aP H (upd H a o):=
 ⟨λ_ _ h=>by rw[aC (iu h hp (by intro z;cases z))];exact h,λ_ _ _ h=>by rw[aC (iu h hp (by intro z;cases z))];exact h⟩
theorem aP.fz {us:List (bd×V)} {ob:Obj} (hp:H a=some (.frz ob (.dK us))) (o:HO):aP H (upd H a o):=
 ⟨λ_ _ h=>by rw[aC (iu h hp (by intro z;cases z))];exact h,λ_ _ _ h=>by rw[aC (iu h hp (by intro z;cases z))];exact h⟩
end
section
variable {X:Cx} {π:List (Addr×Obj)} {σ:St} {H:Hp} {s:Shared} {A:Around} {E:yey}
noncomputable def pf:W2:=λx y G q=>match x,y with
 | .ref a,.str z=>∃kvs w,GD G a kvs/\eg kvs (.inr z)=some w/\q w G
 | x,y=>uC x y G q
theorem aF:BE X pf:=by
 rintro value slice π s σ H x y v u Q I rx ry ⟨wx,wy,G,q,r1,r2,g,h,hQ⟩ hsl;unfold pf at h;split at h
 ·rename_i a z;obtain⟨kvs,w,hd,hv,h⟩:=h;cases r1;cases r2;cases rx;obtain⟨_,us,rd,dp⟩:=hd.rd g;obtain⟨hl,hm,vs,rel,dd⟩:=eC I.hok rd;rcases dp.val (.inr z) with⟨e,_⟩ | ⟨w',v',e,e',r⟩
  ·rw[e] at hv;cases hv
  ·rw[e] at hv;cases hv;obtain⟨u',hw,ru⟩:=fP.some_of (v:=v') (o:=valueAt vs (.inr z)) (by rw[←e'];exact rel.val (.inr z));exact tail_any dd.typeIs PySem.F.slot_dict_getitem.lookup (wpAny_getItem_of (pI (P:=X.prog) (w:=X.w) (k:= .inr z) ry) dd.mapOf hw ⟨v',H,I.tok _,ru,hQ _ H _ G (aP.refl H) r g h⟩) hsl
 ·exact Cv value slice π s σ H x y v u Q I rx ry ⟨wx,wy,G,q,r1,r2,g,h,hQ⟩ hsl
structure GB (ws:List W) (x:W):Prop where
 fx:x.flat=true
 fs:W.flats ws=true
 hd:W.deps ws<=149
inductive E2 (G:Gp) (a:Addr):W->Bool->Prop where
 | dic {kvs:List (bd×W)} {z:Str} (h:GD G a kvs):E2 G a (.str z) (eg kvs (.inr z)).isSome
 | lst {ws:List W} {x:W} (h:G a=some (.lst ws)) (l:GB ws x):E2 G a x (ws.any λw=>w.eq x)
noncomputable def Az:W2:=λx y G q=>match y with
 | .ref a=>∃b,E2 G a x b/\q (.bl b) G
 | _=>False
theorem DP.isSome {kvs:List (bd×W)} {us:List (bd×V)} (d:DP K H kvs us) (k:bd):(kJ us k).isSome=(eg kvs k).isSome:=by
 rcases d.val k with⟨e,e'⟩ | ⟨w',v',e,e',r⟩
 ·rw[e,e'];rfl
 ·rw[e,e'];rfl
open Classical in
theorem AA (hr:aw k X.A) {wx:W} {x:V} {v:Value} {ws:List W} {G:Gp} (I:aH X π σ H s) (rx:bn x v) (r1:cj X.K H wx x) (g:aO X.K H G) (ea:G a=some (.lst ws)) (l:GB ws wx):
 ∃(e:Value->Bool) (its:yez),s.heap.IsList a its.toArray/\(∀y,y∈its.toArray->SeqAt.EqAt X.A.in1 s y v (e y))/\(its.toArray.any e=ws.any λw=>w.eq wx)/\its.length=ws.length/\∀(i:Nat) (w:W) (z:Value),ws[i]?=some w->its[i]?=some z->e z=w.eq wx:=by
 obtain⟨_,xs,e1,ra⟩:=g _ _ ea;obtain⟨its,rv,p,_⟩:=I.list (dE.of e1);have l1:its.length=ws.length:=by rw[←rv.length,ra.length]
 have hu:=hr.un;have hd:=l.hd;have key:∀(i:Nat) (w:W) (z:Value),ws[i]?=some w->its[i]?=some z->decide (∃w',w'∈ws/\(∃v',cj X.K H w' v'/\bn v' z)/\w'.eq wx=true)=w.eq wx/\SeqAt.EqAt X.A.in1 s z v (w.eq wx):=λi w z ew ez=>by
  obtain⟨va,ea1,rva⟩:=ra.get ew;obtain⟨ua,eua,qa⟩:=rv.get ea1;rw[ez] at eua;cases eua;have fw:=W.flats_get l.fs ew;refine⟨?_,(fh I 150 X.A.in1 (w1:=w) (w2:=wx) (Nat.lt_of_le_of_lt (W.deps_get ew) (by (clear l1 hu ew ez ea1;lia))) fw l.fx (by show X.A.units+1+150<cLine;(clear l1 hd ew ez ea1;lia)) rva r1 qa rx).1⟩
  by_cases hw:w.eq wx=true
  ·rw[hw];exact ydz ⟨w,List.mem_of_getElem? ew,⟨va,rva,qa⟩,hw⟩
  ·have:¬∃w',w'∈ws/\(∃v',cj X.K H w' v'/\bn v' z)/\w'.eq wx=true:=λ⟨w',hm,⟨v',rv',qv'⟩,he⟩=>by
    obtain⟨j,hj⟩:=List.getElem?_of_mem hm;have hv:=qv'.inj qa;subst hv;have:=cj.inj (W.flats_get l.fs hj) fw rv' rva;subst this;exact hw he
   rw[ydy this];simpa using hw
 refine⟨λz=>decide (∃w',w'∈ws/\(∃v',cj X.K H w' v'/\bn v' z)/\w'.eq wx=true),its,p.isList,λz hz=>?_,?_,l1,λi w z ew ez=>(key i w z ew ez).1⟩
 ·obtain⟨i,hi⟩:=List.getElem?_of_mem (show z∈its by simpa using hz);have hi2:i<ws.length:=by rw[←l1];exact(List.getElem?_eq_some_iff.mp hi).1
  obtain⟨k1,k2⟩:=key i _ z (ycz hi2) hi;show SeqAt.EqAt _ s z v (decide _);rw[k1];exact k2
 ·rw[show its.toArray.any (λz=>decide (∃w',w'∈ws/\(∃v',cj X.K H w' v'/\bn v' z)/\w'.eq wx=true))=its.any (λz=>decide (∃w',w'∈ws/\(∃v',cj X.K H w' v'/\bn v' z)/\w'.eq wx=true)) by simp];rw[Bool.eq_iff_iff,List.any_eq_true,List.any_eq_true];constructor
  ·rintro⟨z,hz,he⟩;obtain⟨w',hm,_,he'⟩:=of_decide_eq_true he;exact⟨w',hm,he'⟩
  ·rintro⟨w,hm,he⟩;obtain⟨i,hi⟩:=List.getElem?_of_mem hm;have hi2:i<its.length:=by rw[l1];exact(List.getElem?_eq_some_iff.mp hi).1
   have k1:=(key i w its[i] hi (ycz hi2)).1;exact⟨its[i],getElem_mem hi2,k1.trans he⟩
theorem Cy (hr:aw k X.A):fc X (compareOp .In) Az:=by
 rintro π s σ H x y v u Q I rx ry ⟨wx,wy,G,q,r1,r2,g,h,hQ⟩;unfold Az at h;split at h
 ·obtain⟨b,hb,h⟩:=h;cases r2;cases ry;cases hb with
  | dic hd=>
    cases r1;obtain⟨_,us,rd,dp⟩:=hd.rd g;obtain⟨hl,hm,vs,rel,dd⟩:=eC I.hok rd;refine wpAny_in_of (pI (P:=X.prog) (w:=X.w) (k:= .inr _) rx) hm dd.mapOf ⟨.bl _,H,I.tok _,rfl,hQ _ H _ G (aP.refl H) ?_ g h⟩;rw[←(rel.val _).isSome_eq,dp.isSome];exact .bl _
  | lst ea l=>
    obtain⟨e,its,p,he,ha,_⟩:=AA hr I rx r1 g ea l;refine SeqAt.in_listAt e p he ?_;rw[ha];exact⟨.bl _,H,I,rfl,hQ _ H _ G (aP.refl H) (.bl _) g h⟩
 ·exact h.elim
noncomputable def yG:WE:=λ_ G q=>∀p,G p=none->q (.ref p) (aQ G p (.dic []))
theorem qt:QE X (.Dict [] [] pos) yG:=
 pe_dnewK.imp λσ H Q z0=>z0.el λτ G q hs hg ht hQ p hp=>hQ _ _ _ _ (aP.new hp _) (.ref p) (hg.lay (g:= .dic []) (aP.new hp _) ⟨zero_le _,[],ba,rfl,.nil⟩) (ht p (hg.fresh hp))
noncomputable def kW:bd->W
 | .inl i=> .int i
 | .inr x=> .str x
theorem AB (k:bd):cj K H (kW k) (kV k):=by
 cases k with
 | inl i=>exact .int i
 | inr x=>exact .str x
theorem E3 {k:bd} {v:V} (r:cj K H (kW k) v):v=kV k:=by
 cases k<;> cases r<;> rfl
noncomputable def DY {α:Type} (mk:α->bd) (d:dL) (τ:dF) (w x y:W) (G:Gp):Prop:=∃a z kvs,x=.ref a/\y=kW (mk z)/\G a=some (.dic kvs)/\kvs.length+1<=100000/\d.nx τ (aQ G a (.dic (fT kvs (mk z) w)))
theorem uG {α:Type} (mk:α->bd) {o i value:Expr} {to ti tv:WE} {pos pos':Pos} (hv:QE X value tv) (ho:QE X o to) (hi:QE X i ti) (hs:swapsWith value (some (.Subscript o i pos')) pos.line X.env=pure false:=by rfl):
 QS X (.Assign [.Subscript o i pos'] value pos) (λd τ G=>tv τ G λw G1=>to τ G1 λx G2=>ti τ G2 λy G3=>DY mk d τ w x y G3):=by
 intro π s σ H D I h;obtain⟨τ,G,d,hst,hg,ht,l⟩:=h;refine wpAny_Assign_Subscript (ci (hv π s σ H (λv H1=>∃w G1,aP H H1/\cj X.K H1 w v/\aO X.K H1 G1/\to τ G1 λx G2=>ti τ G2 λy G3=>DY mk d τ w x y G3) I ⟨τ,G,_,hst,hg,ht,λv H1 w G1 t1 r1 g1 q1=>⟨w,G1,t1,r1,g1,q1⟩⟩) λr s1 z9=>?_) hs;obtain⟨v,H1,I1,rv,w,G1,t1,r1,g1,q1⟩:=z9;refine ci (ho π s1 σ H1 (λv2 H2=>∃w2 G2,aP H1 H2/\cj X.K H2 w2 v2/\aO X.K H2 G2/\ti τ G2 λy G3=>DY mk d τ w w2 y G3) I1 ⟨τ,G1,_,hst.mono t1,g1,q1,λv2 H2 w2 G2 t2 r2 g2 q2=>⟨w2,G2,t2,r2,g2,q2⟩⟩) λu s2 z9=>?_;obtain⟨x,H2,I2,rx,w2,G2,t2,r2,g2,q2⟩:=z9;refine ci (hi π s2 σ H2 (λv3 H3=>∃w3 G3,aP H2 H3/\cj X.K H3 w3 v3/\aO X.K H3 G3/\DY mk d τ w w2 w3 G3) I2 ⟨τ,G2,_,(hst.mono t1).mono t2,g2,q2,λv3 H3 w3 G3 t3 r3 g3 q3=>⟨w3,G3,t3,r3,g3,q3⟩⟩) λiv s3 z9=>?_;obtain⟨y,H3,I3,ry,w3,G3,t3,r3,g3,a,z,kvs,e1,e2,e3,hl,q3⟩:=z9;subst e1 e2;cases r2;obtain rfl:=E3 r3;cases rx;obtain⟨_,us,e4,n4,r4⟩:=g3 a _ e3;have dp:=DP.of n4 r4;obtain⟨zl,hd,vs,rel,dd⟩:=yh I3.hok e4;have hz:vs.length<=sizeLine:=by rw[←rel.length];exact zl
 have hlen:kvs.length+1<=sizeLine:=bQ hl;have hl2:(ib us (mk z) v).length<=sizeLine:=by have:=lV us (mk z) v;have:=dp.len;(clear hl zl hz;lia)
 refine wpAny_setItem_pairs (hsz:=hz) (pI (P:=X.prog) (w:=X.w) (k:=mk z) ry) dd λh' dd' hs=>?_;have he:∃q,h'.get? a=some q:=let ⟨q,_,_,hq,_⟩:=dd';⟨q,hq⟩;have I4:=vW (t':=s3.toks+1) I3 (by rw[e4];exact True.intro) hs he (zE hl2 hd (rel.put (mk z) rv) dd');have tt:=(t1.trans t2).trans t3;have t4:=aP.dk e4 (.dK (ib us (mk z) v));have dp2:=(dp.put (mk z) (r1.mono (t2.trans t3))).mono t4;exact⟨σ,_,I4,l.nx σ _ τ _ (tt.trans t4) (hst.mono (tt.trans t4)) (g3.lay (g:= .dic _) t4 ⟨ycy (gS _ _ _) hl,_,ba,dp2.keys,dp2.vals⟩) q3⟩
noncomputable def yH (tv to ti:WE):WS:=λd τ G=>tv τ G λw G1=>to τ G1 λx G2=>ti τ G2 λy G3=>∃a z kvs,x=.ref a/\y=.str z/\G3 a=some (.dic kvs)/\kvs.length+1<=100000/\d.nx τ (aQ G3 a (.dic (fT kvs (.inr z) w)))
theorem qw {o i value:Expr} {to ti tv:WE} {pos pos':Pos} (hv:QE X value tv) (ho:QE X o to) (hi:QE X i ti) (hs:swapsWith value (some (.Subscript o i pos')) pos.line X.env=pure false:=by rfl):QS X (.Assign [.Subscript o i pos'] value pos) (yH tv to ti):=uG Sum.inr hv ho hi hs
noncomputable def dL.th (a:Addr) (d:dL):dL where
 nx:=λτ G=>∃o us kvs,G a=some (.fdc o us kvs)/\d.nx τ (aQ G a (.dic kvs))
 rt:=λw G=>∃o us kvs,G a=some (.fdc o us kvs)/\d.rt w (aQ G a (.dic kvs))
 bk:=λτ G=>∃o us kvs,G a=some (.fdc o us kvs)/\d.bk τ (aQ G a (.dic kvs))
 ct:=λτ G=>∃o us kvs,G a=some (.fdc o us kvs)/\d.ct τ (aQ G a (.dic kvs))
noncomputable def fe.th (a:Addr) (d:fe):fe where
 nx:=λτ G=>∃o us,G a=some (.frz o (.dK us))/\d.nx τ (upd G a (.dK us))
 rt:=λw G=>∃o us,G a=some (.frz o (.dK us))/\d.rt w (upd G a (.dK us))
 bk:=λτ G=>∃o us,G a=some (.frz o (.dK us))/\d.bk τ (upd G a (.dK us))
 ct:=λτ G=>∃o us,G a=some (.frz o (.dK us))/\d.ct τ (upd G a (.dK us))
theorem xu {t:TS} (h:PS X st t):PS X st (λD σ H=>∃a us,H a=some (.dK us)/\t (fe.th a D) σ H):=by
 rintro π s σ H D I ⟨a,us,e,q⟩;have h0:=I.nofrz e;refine ci (h π s σ H _ I q) λf s1 z=>?_;cases f with
 | next=>obtain⟨σ1,H1,I1,o,us,e,q⟩:=z;exact⟨σ1,_,I1.thaw e h0,q⟩
 | cont=>obtain⟨σ1,H1,I1,o,us,e,q⟩:=z;exact⟨σ1,_,I1.thaw e h0,q⟩
 | brk=>obtain⟨σ1,H1,I1,o,us,e,q⟩:=z;exact⟨σ1,_,I1.thaw e h0,q⟩
 | ret u=>obtain⟨v,σ1,H1,I1,rv,o,us,e,q⟩:=z;exact⟨v,σ1,_,I1.thaw e h0,rv,q⟩
theorem aO.thaw {G:Gp} {o:Obj} {us:List (bd×V)} {kvs:List (bd×W)} (g:aO K H G) (e:G a=some (.fdc o us kvs)):
 H a=some (.frz o (.dK us))/\aP H (L2.upd H a (.dK us))/\aO K (L2.upd H a (.dK us)) (aQ G a (.dic kvs)):=by
 obtain⟨l,e1,n,r⟩:=g a _ e;have t:=aP.fz e1 (.dK us);exact⟨e1,t,g.lay (g:= .dic _) t ⟨l,us,ba,n,r.mono t⟩⟩
noncomputable def yI (t:WS):WS:=λd τ G=>∃a kvs,G a=some (.dic kvs)/\t (d.th a) τ G
theorem xv {t:WS} (h:QS X st t):QS X st (yI t):=
 (xu h).imp λD σ H z0=>z0.el λτ G d hs hg ⟨a,kvs,ea,ht⟩ l=>by
   obtain⟨_,us,e1,_⟩:=hg a _ ea;refine⟨a,us,e1,τ,G,d.th a,hs,hg,ht,⟨?_,?_,?_,?_⟩⟩
   ·rintro σ1 H1 τ1 G1 t1 s1 g1 ⟨o,us,kvs,e,q⟩;obtain⟨e2,t2,g2⟩:=g1.thaw e;exact⟨o,us,e2,l.nx _ _ _ _ (t1.trans t2) (s1.mono t2) g2 q⟩
   ·rintro v H1 w G1 t1 r1 g1 ⟨o,us,kvs,e,q⟩;obtain⟨e2,t2,g2⟩:=g1.thaw e;exact⟨o,us,e2,l.rt _ _ _ _ (t1.trans t2) (r1.mono t2) g2 q⟩
   ·rintro σ1 H1 τ1 G1 t1 s1 g1 ⟨o,us,kvs,e,q⟩;obtain⟨e2,t2,g2⟩:=g1.thaw e;exact⟨o,us,e2,l.bk _ _ _ _ (t1.trans t2) (s1.mono t2) g2 q⟩
   ·rintro σ1 H1 τ1 G1 t1 s1 g1 ⟨o,us,kvs,e,q⟩;obtain⟨e2,t2,g2⟩:=g1.thaw e;exact⟨o,us,e2,l.ct _ _ _ _ (t1.trans t2) (s1.mono t2) g2 q⟩
theorem aO.freeze {G:Gp} {us:List (bd×V)} {kvs:List (bd×W)} (g:aO K H G) (e:G a=some (.dic kvs)) (e1:H a=some (.dK us)) (o:Obj):
 aP H (L2.upd H a (.frz o (.dK us)))/\aO K (L2.upd H a (.frz o (.dK us))) (aQ G a (.fdc o us kvs)):=by
 obtain⟨l,us',e2,n,r⟩:=g a _ e;rw[e1] at e2;cases e2;have t:=aP.dk e1 (.frz o (.dK us));exact⟨t,g.lay (g:= .fdc _ _ _) t ⟨l,ba,n,r.mono t⟩⟩
theorem uH {o:Obj} {us:List (bd×V)} {kvs:List (bd×W)}:tI K (E1 a o us) (kvs.map λp=>kW p.1) (λG=>G a=some (.fdc o us kvs)) H where
 stop:=λi H1 G t g e hl=>by
  obtain⟨_,e1,n,r⟩:=g a _ e;have:=(DP.of n r).len;rw[length_map] at hl;exact⟨e1,by lia⟩
 go:=λi w H1 G t g eG e=>by
  obtain⟨_,e1,n,r⟩:=g a _ eG;have hl:=(DP.of n r).len;rw[List.getElem?_map] at e;cases hk:kvs[i]? with
  | none=>rw[hk] at e;cases e
  | some p=>
    rw[hk] at e;cases e;have hi:=(List.getElem?_eq_some_iff.mp hk).1;refine⟨⟨e1,by (clear hk;lia)⟩,λx H' ⟨eH,kv,h1,h2⟩=>?_⟩;subst eH h2;have h3:(us.map (·.1))[i]?=some kv.1:=by rw[List.getElem?_map,h1];rfl
    rw[n,List.getElem?_map,hk] at h3;have h3':p.1=kv.1:=Option.some.inj h3;exact⟨aP.refl _,by show cj K _ (kW p.1) _;rw[h3'];exact AB _,g⟩
variable {tg:Expr}
noncomputable def uI (i:Nat):WI:=λτ G r=>match τ[i]? with
 | some (some (.ref a))=>∃kvs,G a=some (.dic kvs)/\∀o us,r (kvs.map λp=>kW p.1) (λG=>G a=some (.fdc o us kvs)) (aQ G a (.fdc o us kvs))
 | _=>False
theorem xw (i:Nat) {p:Pos} (hN:X.N[i]?=some x) (hv:AZ X.env.scope x) (hd:(x==("__debug__":Str))=false:=by decide) (hcd:(x==("__classdict__":Str))=false:=by decide):QI X tg (.Name x p) (uI i):=
 (xt hN hv hd hcd).imp λσ H R ⟨τ,G,r,hs,hg,ht,hR⟩=>by
   unfold uI at ht;split at ht
   ·rename_i a e;obtain⟨kvs,ea,ht⟩:=ht;obtain⟨v,e1,rv⟩:=hs.2 i _ e;cases rv;obtain⟨_,us,e2,_⟩:=hg a _ ea;refine⟨a,us,e1,e2,λo=>?_⟩;obtain⟨t,g⟩:=hg.freeze ea e2 o;exact hR _ _ _ _ _ t g uH (ht o us)
   ·exact ht.elim
end
section
variable {X:Cx} {elts:List Expr} {k:Nat} {tp:Pos}
end
section
variable {X:Cx} {π:List (Addr×Obj)} {σ:St} {H:Hp} {s:Shared}
theorem AC:bootBuiltins "dict"=some (.type "dict"):=by decide+kernel
inductive xx (G:Gp) (a:Addr):Nat->Prop where
 | lst {ws:List W} (h:G a=some (.lst ws)):xx G a ws.length
 | dic {kvs:List (bd×W)} (h:GD G a kvs):xx G a kvs.length
noncomputable def kq:List W->Gp->WK->Prop:=λws G q=>match ws with
 | [.ref a]=>∃n:Nat,xx G a n/\q (.int n) G
 | ws=>uD ws G q
theorem bD:d4 X (.builtin "len") kq:=by
 rintro π s σ H xs us Q I r ⟨ws,G,q,rw',g,h,hQ⟩;unfold kq at h;split at h
 ·obtain⟨n,hn,h⟩:=h;cases hn with
  | lst e=>exact yr π s σ H xs us Q I r ⟨_,G,q,rw',g,⟨_,e,h⟩,hQ⟩
  | dic hd=>
    obtain⟨v,rfl,r1⟩:=rw'.one;cases r1;obtain⟨u,rfl,ru⟩:=dZ r;cases ru;obtain⟨_,us,rd,dp⟩:=hd.rd g;refine BC I rd λt s' I'=>⟨.int us.length,H,I',⟨t,rfl⟩,hQ _ H _ G (aP.refl H) ?_ g h⟩;rw[dp.len];exact .int _
 ·exact Ay π s σ H xs us Q I r ⟨ws,G,q,rw',g,h,hQ⟩
inductive Cz (G:Gp) (a:Addr):List W->Prop where
 | lst {ws:List W} (h:G a=some (.lst ws)):Cz G a ws
 | dic {kvs:List (bd×W)} (h:GD G a kvs):Cz G a (kvs.map λp=>kW p.1)
inductive kt (G:Gp):W->W->Prop where
 | int (i:Int):kt G (.int i) (.int i)
 | lst {a b:Addr} {ws us:List W} (ea:G a=some (.lst ws)) (eb:G b=some (.lst us)) (f1:W.flats ws=true) (f2:W.flats us=true) (hd:W.deps ws<=8) (he:W.eqs ws us=true):kt G (.ref a) (.ref b)
inductive CA (G:Gp) (a b:Addr):Bool->Prop where
 | lst {ws us:List W} (ea:G a=some (.lst ws)) (eb:G b=some (.lst us)) (f1:W.flats ws=true) (f2:W.flats us=true) (hd:W.deps ws<=149):CA G a b (W.eqs ws us)
 | dic {kvs us:List (bd×W)} (ea:GD G a kvs) (eb:GD G b us) (hl:kvs.length=us.length) (hv:∀p,p∈kvs->∃w',eg us p.1=some w'/\kt G p.2 w'):CA G a b true
noncomputable def CB:W2:=λx y G q=>match x,y with
 | .ref a,.ref b=>∃r,CA G a b r/\q (.bl r) G
 | x,y=>v7 x y G q
noncomputable def CC:W2:=λx y G q=>match x,y with
 | .ref a,.ref b=>∃r,CA G a b r/\q (.bl (!r)) G
 | x,y=>v9 x y G q
theorem xy (hu:A.units+20<cLine) {G:Gp} {w1 w2:W} {v1 v2:V} {u1 u2:Value} (I:aH X π σ H s) (g:aO X.K H G) (h:kt G w1 w2) (r1:cj X.K H w1 v1) (r2:cj X.K H w2 v2) (q1:bn v1 u1) (q2:bn v2 u2):SeqAt.EqAt A s u1 u2 true:=by
 cases h with
 | int i=>
   cases r1;cases r2;have:=(fh I 10 A (w1:= .int i) (w2:= .int i) (by show 0<10;decide) rfl rfl (by lia) (.int i) (.int i) q1 q2).1;rw[o7] at this;simpa using this
 | @lst a b ws us ea eb f1 f2 hd he=>
   cases r1;cases r2;cases q1;cases q2
   by_cases hne:a=b
   ·subst hne;exact SeqAt.EqAt.same _
   obtain⟨_,xs,e1,ra⟩:=g _ _ ea;obtain⟨_,ys,e2,rb⟩:=g _ _ eb;obtain⟨its,rv,p,_⟩:=I.list (dE.of e1);obtain⟨its2,rv2,p2,_⟩:=I.list (dE.of e2);have l1:its.length=ws.length:=by rw[←rv.length,ra.length]
   have l2:its2.length=us.length:=by rw[←rv2.length,rb.length]
   have hl:ws.length=us.length:=by
    by_cases hl:ws.length=us.length
    ·exact hl
    ·rw[kL hl] at he;cases he
   have c1:=SeqAt.RcAt.lists p.isList p2.isList (by rw[size_toArray,size_toArray,l1,l2,hl]) (A:=A) (by (clear hd l1 l2 hl;lia)) (EH I (n:=10) (by (clear hu l1 l2 hl;lia)) f1 f2 (by show A.units+1+10<cLine;(clear hd l1 l2 hl;lia)) ra rb rv rv2);have er:=fH ws us;rw[←hl,Nat.min_self,beq_self_eq_true,Bool.and_true] at er;rw[size_toArray,l1,er,he] at c1;exact SeqAt.EqAt.of_refs hne c1
theorem lq (hu:A.units+20<cLine) {G:Gp} (I:aH X π σ H s) (g:aO X.K H G) {kb:List (bd×Value)} {us:List (bd×W)} {ub:List (bd×V)} (db:DP X.K H us ub) (rb:KV ub kb):
 ∀{kvs:List (bd×W)} {ua:List (bd×V)} {ka:List (bd×Value)},DP X.K H kvs ua->KV ua ka->(∀p,p∈kvs->∃w',eg us p.1=some w'/\kt G p.2 w')->PySem.W.KeqHits A s kb ka true:=by
 intro kvs ua ka d
 induction d generalizing ka with
 | nil=>
   intro r _;cases r;exact .nil
 | @cons k w v kvs ua rw' t ih=>
   intro r hv;cases r with
   | @cons _ b _ bs r1 rt=>
     obtain⟨b1,b2⟩:=b;obtain⟨e1,r2⟩:=r1;cases (show k=b1 from e1);obtain⟨w',hw,sv⟩:=hv _ yby;rcases db.val k with⟨e,_⟩ | ⟨w2,v2,e,e',r3⟩
     ·rw[e] at hw;cases hw
     ·rw[e] at hw;cases hw;obtain⟨y,hy,ry⟩:=fP.some_of (v:=v2) (o:=valueAt kb k) (by rw[←e'];exact rb.val k);exact .hit (e:=true) (b:=true) hy (xy hu I g sv rw' r3 r2 ry) (ih rt λp hp=>hv p (ybx _ hp))
theorem CD (hr:aw k X.A):fc X (compareOp .Eq) CB:=by
 rintro π s σ H x y v u Q I rx ry ⟨wx,wy,G,q,r1,r2,g,h,hQ⟩;unfold CB at h;split at h
 ·obtain⟨r,he,h⟩:=h;cases he with
  | lst ea eb f1 f2 hd=>exact B6 hr π s σ H x y v u Q I rx ry ⟨_,_,G,q,r1,r2,g,⟨_,_,ea,eb,f1,f2,hd,h⟩,hQ⟩
  | dic ea eb hl hv=>
    cases r1;cases r2;cases rx;cases ry;have hu:=hr.un;obtain⟨_,ua,ra,da⟩:=ea.rd g;obtain⟨_,ub,rb,db⟩:=eb.rd g;obtain⟨_,ma,ka,qa,dda⟩:=eC I.hok ra;obtain⟨_,mb,kb,qb,ddb⟩:=eC I.hok rb;have hlen:ka.length=kb.length:=by rw[←qa.length,←qb.length,da.len,db.len,hl]
    refine PySem.W.keq_eq ma mb dda ddb (by (clear hl hlen;lia)) (λ_=>lq (A:=X.A.in1) (by show X.A.units+1+20<cLine;(clear hl hlen;lia)) I g db qb da qa hv) ?_;rw[hlen,beq_self_eq_true,Bool.true_and];exact⟨.bl _,H,I,rfl,hQ _ H _ G (aP.refl H) (.bl _) g h⟩
 ·exact zN hr π s σ H x y v u Q I rx ry ⟨wx,wy,G,q,r1,r2,g,h,hQ⟩
theorem CF (hr:aw k X.A):fc X (compareOp .NotEq) CC:=by
 rintro π s σ H x y v u Q I rx ry ⟨wx,wy,G,q,r1,r2,g,h,hQ⟩;unfold CC at h;split at h
 ·obtain⟨r,he,h⟩:=h;cases he with
  | lst ea eb f1 f2 hd=>exact B7 hr π s σ H x y v u Q I rx ry ⟨_,_,G,q,r1,r2,g,⟨_,_,ea,eb,f1,f2,hd,h⟩,hQ⟩
  | dic ea eb hl hv=>
    cases r1;cases r2;cases rx;cases ry;have hu:=hr.un;obtain⟨_,ua,ra,da⟩:=ea.rd g;obtain⟨_,ub,rb,db⟩:=eb.rd g;obtain⟨_,ma,ka,qa,dda⟩:=eC I.hok ra;obtain⟨_,mb,kb,qb,ddb⟩:=eC I.hok rb;have hlen:ka.length=kb.length:=by rw[←qa.length,←qb.length,da.len,db.len,hl]
    refine PySem.W.keq_ne ma mb dda ddb (by (clear hl hlen;lia)) (λ_=>lq (A:=X.A.in1) (by show X.A.units+1+20<cLine;(clear hl hlen;lia)) I g db qb da qa hv) ?_;rw[hlen,beq_self_eq_true,Bool.true_and];exact⟨.bl _,H,I,rfl,hQ _ H _ G (aP.refl H) (.bl _) g h⟩
 ·exact zO hr π s σ H x y v u Q I rx ry ⟨wx,wy,G,q,r1,r2,g,h,hQ⟩
structure HX (ws:List W) (x:W) (j:Nat):Prop where
 hit:∃w,ws[j]?=some w/\w.eq x=true
 no:∀m w,m<j->ws[m]?=some w->w.eq x=false
end
section
variable {prog:Program} {w:World} {A:Around} {R:Result->Shared->Prop} {I:Addr} {fp wr:List Addr} {Gn:Array GenState->Array GenState->Prop} {n:Nat} {P:Nat->Value->Prop} {St:Nat->Shared->Prop}
end
section
variable {prog:Program} {w:World} {A:Around} {E:yey} {s:Shared}
set_option maxHeartbeats 3200000 in
end
section
variable {X:Cx}
end
section
variable {X:Cx} {π:List (Addr×Obj)} {σ:St} {H:Hp} {s:Shared}
theorem nv {xs:Array Value} {sl:Array (Option Value)} {h:Heap} {g:_} {d:_} {t:Nat} {os:_} {Q:Option Value->Shared->Prop}
 (hx:h.get? a=some { cls:= .type "list",dict:=none,data:= .seq xs k,slots:=sl }) (hA:A.handled=none)
 (hq:∀(h':Heap) (tk:Nat),(∀(b:Addr) (o:Obj),h.get? b=some o->h'.get? b=some o)->Q none ⟨h',g,d,tk,os⟩):
 wpAny (model prog w) A (getAttr? (.ref a) "keys") Q E ⟨h,g,d,t,os⟩:=by
 unfold getAttr? getAttrBy?;have hT:∀t,(Shared.mk h g d t os).TypeIs (.ref a) "list":=λt=>⟨_,hx,rfl⟩;have f1:=PySem.sub_AttributeError;have f3:=PySem.F.slot_list_getattribute.lookup;have f4:=PySem.F.slot_list_getattribute.bind (Value.ref a);have f5:=PySem.am_list_getattr_none;refine wax ?_;unfold mkText;refine wax (wpAny_fresh' (wpAny_pure ?_));refine wax (wpAny_attempt ?_);unfold getAttrBy;refine wpAny_holding ?_;refine wax ?_;unfold typeOf;refine wax (wpAny_loadPart' hx (wpAny_pure ?_));refine wax (wpAny_of_eq f3 ?_);refine wpAny_ite_false (by rfl) ?_;unfold getAttrByItsOwn;refine wax ?_;unfold hookBefore;refine wpAny_ite_false (by rfl) (wpAny_pure ?_);refine wax (wpAny_attempt ?_);refine wpAny_holding ?_;unfold callGetattribute;refine wpAny_ite_false (by rfl) ?_;refine wax (wpAny_of_eq f4 ?_);refine call_meets PySem.F.slot_list_getattribute (hT _) PySem.am_entry_list_getattribute (PySem.F.args_list_getattribute_2 _ _) (PySem.meets_getattribute_miss_list a xs k sl "keys" t (by rfl) (by decide)) ⟨hx,?_⟩;refine⟨hA,λh' tk e hx'=>?_⟩;have te:(Shared.mk h' g d tk os).TypeIs (.ref e) "AttributeError":=by
  obtain⟨t1,u1,e1⟩:=hx'.there;exact⟨_,e1,rfl⟩
 show wpAny _ _ (getattributeRaised _ _ _ _ _ _ _) _ _ _;unfold getattributeRaised;refine wax (wpAny_isInstance te f1 ?_);refine wpAny_ite_true (by rfl) ?_;unfold hookBehind hookOrError;refine wax (wpAny_ite_false (by rfl) (wpAny_of_eq f5 ?_));show wpAny _ _ (attributeErrorLeaves _ _ _ _ _) _ _ _;unfold attributeErrorLeaves
 repeat (any_goals (first | assumption | wp_step))
 exact hq h' tk hx'.keeps
set_option maxHeartbeats 4000000 in
theorem iG:entryFor table "dict.update.loop"=some Builtin.«dict.update.loop»:=by rfl
theorem ny {prog:Program} {w:World} {A:Around} (hA:A.handled=none) {d it l:Addr} (hdi:d≠it) (hdl:d≠l) (hil:it≠l) {items:Array Value} {R:Result->Shared->Prop}:
 ∀(ps:List (bd×Value)) (i:Nat) (s:Shared) (kvs:List (bd×Value)) (tok:Tok),i+ps.length=items.size->s.heap.IsListIter it l i->s.heap.IsList l items->s.heap.DictOf (bF prog w) d kvs->
 (∀(j:Nat) (p:bd×Value),ps[j]?=some p->∃t k,items[i+j]?=some (.ref t)/\t≠d/\t≠it/\s.heap.IsTuple t #[k,p.2]/\(bF prog w).is p.1 k=true)->
 kvs.length+ps.length<=sizeLine->
 (∀(h':Heap) (tk:Nat),(∀(b:Addr) (o:Obj),b≠d->b≠it->s.heap.get? b=some o->h'.get? b=some o)->h'.DictOf (bF prog w) d (ps.foldl (λkvs p=>stored kvs p.1 p.2) kvs)->R (.ok (.ret .none)) ⟨h',s.gens,s.drawn,tk,s.os⟩)->
 codeAny (model prog w) A (.builtin "dict.update.loop" ⟨[.ref d,.ref it,.int (i:Int) tok,.none],[]⟩) R s
 | [],i,s,kvs,tok,hn,hi,hl,hd,hp,hz,hR=>by
   refine codeAny_builtin iG ?_;unfold Builtin.«dict.update.loop»;dsimp only;refine wax (wpAny_pyNext_list_end (by exact hA) hi hl (by simp at hn ⊢;(clear hz;lia)) λh' eb=>?_);dsimp only;refine wax ?_;unfold Builtin.Dict.addKeywords;refine wax (wpAny_pure (wpAny_pure (wpAny_pure ?_)));refine hR h' s.toks (λb o _ hb e=>eb b o hb e) ?_;obtain⟨o,es,ep,e,c⟩:=hd;exact⟨o,es,ep,eb d o hdi e,c⟩
 | p::ps,i,s,kvs,tok,hn,hi,hl,hd,hp,hz,hR=>by
   refine codeAny_builtin iG ?_;unfold Builtin.«dict.update.loop»;dsimp only;obtain⟨t,k,e1,td,ti,e2,e3⟩:=hp 0 p rfl;refine wax (wpAny_pyNext_list_item hi hl e1 λh' hi' sb=>?_);dsimp only;refine wax (wpAny_holding ?_);refine wax ?_;refine wpAny_tryCatch ?_;obtain⟨o,g1,g2,n,g3⟩:=e2;have g1':h'.get? t=some o:=(sb.2 t ti).trans g1;unfold Builtin.Dict.pairItems;refine wax (wpAny_typeOf (T:="tuple") ⟨o,g1',g2⟩ ?_);refine wpAny_ite_true (by rfl) ?_;refine wax (wpAny_seqItems g1' g3 (wpAny_pure ?_));show wpAny _ _ (holding [k,p.2] (dictSet d k p.2)) _ _ _;have hz':kvs.length+(ps.length+1)<=sizeLine:=hz;refine wpAny_holding (wpAny_dictSet_pairs e3 (hd.sameBut sb hdi) (λh2 hd2 sb2=>wpAny_pure ⟨PySem.Code.quiet_builtin _ (by decide+kernel),?_⟩) (by (clear hn e1 hz';lia)));have k2:∀b,b≠d->b≠it->h2.get? b=s.heap.get? b:=λb h1 h2=>(sb2.2 b h1).trans (sb.2 b h2);have hn':i+(ps.length+1)=items.size:=hn;refine ny (items:=items) hA hdi hdl hil ps (i+1) ⟨h2,s.gens,s.drawn,s.toks+1,s.os⟩ (stored kvs p.1 p.2) 0 (by (clear hz e1 hz';lia)) ?_ ?_ hd2 (λj q hq=>?_) ?_ λh3 tk kp hd3=>?_
   ·obtain⟨o1,e1,c1⟩:=hi';exact⟨o1,(sb2.2 it hdi.symm).trans e1,c1⟩
   ·obtain⟨o1,e1,c1⟩:=hl;exact⟨o1,(k2 l hdl.symm hil.symm).trans e1,c1⟩
   ·obtain⟨t',k',a1,a2,a3,⟨o1,a4,a5⟩,a6⟩:=hp (j+1) q hq;exact⟨t',k',by rw[show i+1+j=i+(j+1) by (clear hn hz e1 hz' hn' hq a1;lia)];exact a1,a2,a3,⟨o1,(k2 t' a2 a3).trans a4,a5⟩,a6⟩
   ·have:=PySem.stored_length_le kvs p.1 p.2;show(stored kvs p.1 p.2).length+ps.length<=sizeLine
    (clear hn hz e1 hn';lia)
   ·exact hR h3 tk (λb o h1 h2 e=>kp b o h1 h2 ((k2 b h1 h2).trans e)) hd3
theorem ph (hA:A.handled=none) (hb:sysModules<s.heap.objs.size) {l:Addr} {n:Nat} {sl:Array (Option Value)} {ps:List (bd×Value)}
 (hl:s.heap.get? l=some { cls:= .type "list",dict:=none,data:= .seq items n,slots:=sl }) (hn:ps.length=items.size) (hz:ps.length<=sizeLine)
 (hp:∀(j:Nat) (p:bd×Value),ps[j]?=some p->∃t k,items[j]?=some (.ref t)/\s.heap.IsTuple t #[k,p.2]/\(bF prog w).is p.1 k=true)
 (hQ:∀(h':Heap) (tk:Nat),(∀(b:Addr) (o:Obj),s.heap.get? b=some o->h'.get? b=some o)->h'.DictOf (bF prog w) s.heap.objs.size (ps.foldl (λkvs p=>stored kvs p.1 p.2) [])->Q (.ref s.heap.objs.size) ⟨h',s.gens,s.drawn,tk,s.os⟩):
 wpAny (model prog w) A (call (.type "dict") [.ref l]) Q E s:=by
 refine callType_codes PySem.F.kt_called_dict (PySem.F.kt_typeCall_dict_1 (.ref l)) PySem.F.entry_dict_init (kt_code_dict_new (.ref l) (Q₁:=λobj s₁=>obj=.ref s.heap.objs.size/\s₁={ s with heap:=s.heap.push { cls:= .type "dict",data:= .dict #[] } }) ⟨rfl,rfl⟩) λobj s₁ a=>?_;obtain⟨rfl,rfl⟩:=a;have hnew:=PySem.Heap.DictOf.new (knd:=bF prog w) s.heap;have hpu:∀b o,s.heap.get? b=some o->(s.heap.push { cls:= .type "dict",data:= .dict #[] }).get? b=some o:=λb o e=>ybz _ e;refine⟨PySem.Heap.DictOf.typeIs hnew,PySem.F.args_dict_init_2 _ _,?_⟩;unfold Builtin.«dict.__init__»;refine wax ?_;unfold Builtin.Dict.selfAndRest;refine wax (wpAny_notOrdered_dict (PySem.Heap.DictOf.typeIs hnew) (wpAny_pure ?_));show wpAny _ _ (Builtin.Dict.updateFrom "dict.__init__" s.heap.objs.size (.ref l) [] .none) _ _ _;unfold Builtin.Dict.updateFrom;refine wax (wpAny_typeOf (T:="list") ⟨_,hpu _ _ hl,rfl⟩ ?_);refine wpAny_ite_true (by rfl) ?_;refine wax (nv (hpu _ _ hl) (by exact hA) λh1 tk k1=>?_);refine wpAny_ite_true (by rfl) ?_;refine wax (wpAny_rule ?_);have hl1:=k1 _ _ (hpu _ _ hl);refine wax (wpAny_pyIter_list (items:=items) ⟨_,hl1,rfl,n,rfl⟩ ?_);obtain⟨od,es,ep,ed,hnew'⟩:=hnew;have ed1:=k1 _ _ ed;have d1:=ybv ed1;have l0:=ybv hl;have l1:=ybv hl1;have kk:∀b o,s.heap.get? b=some o->(h1.push { cls:= .type "list_iterator",data:= .fields #[.ref l,.int 0 0] }).get? b=some o:=λb o e=>ybz _ (k1 _ _ (hpu _ _ e));refine wpAny_pure ⟨PySem.Code.quiet_builtin _ (by decide+kernel),ny (A:=A.in1) (items:=items) (l:=l) hA (ne_of_lt d1) (Nat.ne_of_gt l0) (Nat.ne_of_gt l1) ps 0 _ [] 0 (by (clear hb hz d1 l0 l1;lia)) ⟨_,ybw _ rfl,rfl,rfl⟩ ⟨_,kk _ _ hl,rfl,n,rfl⟩ ⟨od,es,ep,ybz _ ed1,hnew'⟩ (λj p hj=>?_) (by simpa using hz) λh' tk' kp hd'=>⟨rfl,hQ h' tk' (λb o e=>kp b o (ne_of_lt (ybv e)) (ne_of_lt (ybv (k1 _ _ (hpu _ _ e)))) (kk b o e)) hd'⟩⟩;obtain⟨t,k,e1,⟨o,e2,e3⟩,e4⟩:=hp j p hj;exact⟨t,k,by rw[Nat.zero_add];exact e1,ne_of_lt (ybv e2),ne_of_lt (ybv (k1 _ _ (hpu _ _ e2))),⟨o,kk _ _ e2,e3⟩,e4⟩
inductive AD (G:Gp) (a:Addr) (kvs:List (bd×W)):Prop where
 | dic (h:GD G a kvs):AD G a kvs
 | lst {ps:List (bd×W)} (h:G a=some (.lst (ps.map λp=> .tup [kW p.1,p.2]))) (e:kvs=ps.foldl (λa p=>fT a p.1 p.2) []):AD G a kvs
noncomputable def AE:List W->Gp->WK->Prop:=λws G q=>match ws with
 | [.ref a]=>∃kvs,AD G a kvs/\∀p,G p=none->q (.ref p) (aQ G p (.dic kvs))
 | _=>False
theorem nz:∀(ps:List (bd×W)) (kvs:List (bd×W)),(ps.foldl (λa p=>fT a p.1 p.2) kvs).length<=kvs.length+ps.length
 | [],kvs=>ycx _
 | p::ps,kvs=>by
   have h1:=nz ps (fT kvs p.1 p.2);have h2:=gS kvs p.1 p.2;simp only[foldl_cons,length_cons];lia
theorem qy:∀{qs:List (bd×V)} {ps:List (bd×Value)},KV qs ps->∀{kvs:List (bd×V)} {vs:List (bd×Value)},KV kvs vs->KV (qs.foldl (λa p=>ib a p.1 p.2) kvs) (ps.foldl (λa p=>stored a p.1 p.2) vs)
 | _,_,.nil,_,_,h=>h
 | q::qs,p::ps,.cons r t,_,_,h=>qy (qs:=qs) (ps:=ps) t (by show KV (ib _ q.1 q.2) (stored _ p.1 p.2);rw[show p.1=q.1 from r.1.symm];exact h.put q.1 r.2)
theorem qz {K:yav}:∀{ps:List (bd×W)} {qs:List (bd×V)},DP K H ps qs->∀{kvs:List (bd×W)} {us:List (bd×V)},DP K H kvs us->DP K H (ps.foldl (λa p=>fT a p.1 p.2) kvs) (qs.foldl (λa p=>ib a p.1 p.2) us)
 | _,_,.nil,_,_,h=>h
 | _,_,.cons r t,_,_,h=>qz t (h.put _ r)
theorem xz {k:bd} {v:V} (r:cj K H (kW k) v):v=kV k:=by
 cases k with
 | inl i=>cases r;rfl
 | inr z=>cases r;rfl
theorem nA (I:aH X π σ H s):∀{ps:List (bd×W)} {xs:List V} {its:yez},aR X.K H (ps.map λp=> .tup [kW p.1,p.2]) xs->aT xs its->
 ∃(qs:List (bd×V)) (vs:List (bd×Value)),DP X.K H ps qs/\KV qs vs/\vs.length=its.length/\∀(j:Nat) (p:bd×Value),vs[j]?=some p->∃t k,its[j]?=some (.ref t)/\s.heap.IsTuple t #[k,p.2]/\(bF X.prog X.w).is p.1 k=true
 | [],_,_,.nil,.nil=>⟨[],[],.nil,.nil,rfl,λj p h=>by cases h⟩
 | (k,w)::ps,_,[],.cons r rs,z=>by cases z
 | (k,w)::ps,_,u::its,.cons r rs,.cons v vs=>by
   obtain⟨qs,ys,h1,h2,h3,h4⟩:=nA I rs vs;cases r with
   | @tup t _ zs hT rr=>
     cases (show u=Value.ref t from v);obtain⟨its2,rv,hp,_⟩:=I.tuple (dA.of hT);cases rr with
     | cons r1 rr=>
       cases rr with
       | cons r2 rr=>
         cases rr;obtain⟨u1,u2,rfl,ru1,ru2⟩:=kQ rv;rw[xz r1] at ru1;refine⟨_,(k,u2)::ys,.cons r2 h1,.cons ⟨rfl,ru2⟩ h2,by simp[h3],λj p hj=>?_⟩;cases j with
         | zero=>
           cases hj;exact⟨t,u1,rfl,hp,pI (P:=X.prog) (w:=X.w) ru1⟩
         | succ j=>exact h4 j p hj
theorem CG (hc:X.calm=true):d4 X (.type "dict") AE:=by
 rintro π s σ H xs us Q I r ⟨ws,G,q,rw',g,h,hQ⟩;unfold AE at h;split at h
 ·rename_i a;obtain⟨kvs,hs,h⟩:=h;obtain⟨v,rfl,r1⟩:=rw'.one;cases r1;obtain⟨u,rfl,ru⟩:=dZ r;cases ru;have hp:=I.hok.fresh (ycx s.heap.objs.size);cases hs with
  | dic hd=>
    obtain⟨hl,us,rd,dp⟩:=hd.rd g;obtain⟨zl,hm,vs,rel,dd⟩:=eC I.hok rd;refine kt_call_dict hm dd (by rw[←rel.length];exact zl) λh' hd' sb=>?_;refine⟨.ref s.heap.objs.size,_,I.laid (t':=s.toks) (λb o q=>(sb.2 b (ne_of_lt (ybv q))).trans (ybz _ q)) (ycx _) (show ca X.prog X.w _ h' _ (.dK us) from ⟨zl,beq_eq_false_iff_ne.mpr (Ne.symm (ne_of_lt I.big)),vs,rel,hd'⟩),rfl,?_⟩;exact hQ _ _ _ _ (aP.new hp _) (.ref _) (g.lay (g:= .dic kvs) (aP.new hp _) ⟨hl,us,ba,dp.keys,(dp.mono (aP.new hp _)).vals⟩) (h _ (g.fresh hp))
  | @lst ps e ek=>
    subst ek;obtain⟨hl,xs,eH,rr⟩:=g a _ e;obtain⟨zl,its,c,rv,eo⟩:=I.hok a _ eH;obtain⟨qs,vs,dp,kv,hn,ht⟩:=nA I rr rv;have hll:ps.length<=100000:=by simpa using hl
    have hqs:=dp.len;have hvs:=kv.length;have fl:=nz ps [];have fd:=qz dp (H:=H) (K:=X.K) .nil;have fk:=qy kv (kvs:=[]) (vs:=[]) .nil;have hz:(qs.foldl (λa p=>ib a p.1 p.2) []).length<=sizeLine:=by
     rw[fd.len];exact bQ (by simp only[length_nil] at fl;(clear hl zl hn hvs;lia))
    refine ph (I.ok.hd hc) I.big eo (by rw[hn];simp) (bQ (by (clear hl zl fl hz;lia))) (λj p hj=>?_) λh' tk kp hd'=>?_
    ·obtain⟨t,k,e1,e2,e3⟩:=ht j p hj;exact⟨t,k,by simpa using e1,e2,e3⟩
    ·refine⟨.ref s.heap.objs.size,_,I.laid (t':=tk) kp (ycx _) (show ca X.prog X.w _ h' _ (.dK (qs.foldl (λa p=>ib a p.1 p.2) [])) from ⟨hz,beq_eq_false_iff_ne.mpr (Ne.symm (ne_of_lt I.big)),_,fk,hd'⟩),rfl,?_⟩;exact hQ _ _ _ _ (aP.new hp _) (.ref _) (g.lay (g:= .dic (ps.foldl (λa p=>fT a p.1 p.2) [])) (aP.new hp _) ⟨by simp only[length_nil] at fl;(clear hl zl hn hvs hz;lia),_,ba,fd.keys,(fd.mono (aP.new hp _)).vals⟩) (h _ (g.fresh hp))
 ·exact h.elim
end
section
variable {prog:Program} {w:World} {A:Around} {s:Shared}
noncomputable def ju (prog:Program) (w:World) (A:Around) (s:Shared) (u v:Value):Prop:=∀(E:yey) (Q:Bool->Shared->Prop),Q true s->wpAny (model prog w) A (eqBool u v) Q E s
theorem ju.of {u v:Value} (h:SeqAt.EqAt A s u v true):ju prog w A s u v:=λE Q q=>h prog w E Q q
theorem ju.refs {l b:Addr} (h:l≠b->∀(E:yey) (Q:yey),Q (.bool true) s->wpAny (model prog w) A (richCompare .Eq (.ref l) (.ref b)) Q E s):ju prog w A s (.ref l) (.ref b):=by
 by_cases hne:l=b
 ·subst hne;exact .of (SeqAt.EqAt.same _)
 ·exact λE Q q=>wpAny_holding (wpAny_ite_split (λhab=>absurd (by have:=eq_of_beq hab;injection this) hne) λ_=>wax (h hne E _ (wpAny_truthy_bool q)))
theorem xA {l b:Addr} {x1 x2 y1 y2:Value} (hl:s.heap.IsTuple l #[x1,x2]) (hb:s.heap.IsTuple b #[y1,y2]) (hu:A.units<cLine) (h1:ju prog w A.in1 s x1 y1) (h2:ju prog w A.in1 s x2 y2) (E:yey) (Q:yey) (q:Q (.bool true) s):
 wpAny (model prog w) A (richCompare .Eq (.ref l) (.ref b)) Q E s:=by
 obtain⟨o1,e1,c1,n1,d1⟩:=id hl;obtain⟨o2,e2,c2,n2,d2⟩:=id hb;refine wpAny_richCompare_same_room (T:="tuple") ⟨o1,e1,c1⟩ ⟨o2,e2,c2⟩ PySem.F.slot_tuple_eq (wpAny_call_entry PySem.F.slot_tuple_eq ⟨o1,e1,c1⟩ PySem.F.entry_tuple_eq ?_ (PySem.F.args_tuple_eq_2 _ _)) hu;unfold Builtin.«tuple.__eq__»
 k_delta "compare"
 refine wax ?_;unfold slotArgs;refine wpAny_ite_false (by rfl) (wpAny_ite_false (by rfl) (wpAny_pure ?_));dsimp only;refine wax (wpAny_isInstance (T:="tuple") (b:=true) ⟨o2,e2,c2⟩ (by rfl) ?_);refine wpAny_ite_false (by rfl) ?_;refine wax (wpAny_tupleItemsOf e1 d1 ?_);refine wax (wpAny_tupleItemsOf e2 d2 ?_);rw[show(#[x1,x2]:Array Value).toList.zip (#[y1,y2]:Array Value).toList=[(x1,y1),(x2,y2)] from rfl];simp only[forIn_cons,List.forIn_nil];refine wax (wax (wax (h1 _ _ ?_)));refine wpAny_ite_false (by rfl) (wpAny_pure ?_);dsimp only;refine wax (wax (h2 _ _ ?_));refine wpAny_ite_false (by rfl) (wpAny_pure ?_);refine wpAny_pure ?_;dsimp only;exact wpAny_pure ⟨.bool true,rfl,(λz=>nomatch z),q⟩
theorem lu {c:Int} {r:Bool} (hc:(c=2/\r=true)∨(c=3/\r=false)) {l b:Addr} {items items2:Array Value} {o1 o2:Obj} {n1 n2:Nat} (e1:s.heap.get? l=some o1) (d1:o1.data=.seq items n1) (e2:s.heap.get? b=some o2) (d2:o2.data=.seq items2 n2) (hz:items.size=items2.size) {R:Result->Shared->Prop}
 (he:∀(j:Nat) (u v:Value),items[j]?=some u->items2[j]?=some v->ju prog w A.in1 s u v) (hR:R (.ok (.ret (.bool r))) s):
 ∀(m i:Nat) (t t':Tok),i+m=items.size->codeAny (model prog w) A (.builtin "list.__eq__.loop" ⟨[.ref l,.ref b,.int (i:Int) t,.int c t'],[]⟩) R s
 | 0,i,t,t',hi=>by
   refine codeAny_builtin PySem.MeetsSeq3.entry_eq_loop ?_;have n1:items[i]?=none:=by simp;(clear hc;lia)
   unfold Builtin.«list.__eq__.loop»
   k_delta "cmpOps"
   rcases hc with⟨rfl,rfl⟩ | ⟨rfl,rfl⟩
   ·dsimp only;rw[show(([CmpOp.Lt,CmpOp.LtE,CmpOp.Eq,CmpOp.NotEq,CmpOp.Gt,CmpOp.GtE]:List CmpOp)[Int.toNat 2]?)=some CmpOp.Eq from rfl];refine wax (wpAny_listItems e1 d1 (wax (wpAny_listItems e2 d2 ?_)));rw[Int.toNat_natCast,n1];refine wax (wpAny_listItems e1 d1 (wax (wpAny_listItems e2 d2 ?_)));refine wpAny_pure ?_;show R (Except.ok (Flow.ret (Value.bool (items.size==items2.size)))) s;rw[hz,beq_self_eq_true];exact hR
   ·dsimp only;rw[show(([CmpOp.Lt,CmpOp.LtE,CmpOp.Eq,CmpOp.NotEq,CmpOp.Gt,CmpOp.GtE]:List CmpOp)[Int.toNat 3]?)=some CmpOp.NotEq from rfl];refine wax (wpAny_listItems e1 d1 (wax (wpAny_listItems e2 d2 ?_)));rw[Int.toNat_natCast,n1];refine wax (wpAny_listItems e1 d1 (wax (wpAny_listItems e2 d2 ?_)));refine wpAny_pure ?_;show R (Except.ok (Flow.ret (Value.bool (items.size !=items2.size)))) s;rw[hz,bne_self_eq_false];exact hR
 | m+1,i,t,t',hi=>by
   have ih:=lu hc e1 d1 e2 d2 hz he hR m (i+1) 0 0 (by (clear hc;lia));refine codeAny_builtin PySem.MeetsSeq3.entry_eq_loop ?_;have l1:i<items.size:=by (clear hc;lia)
   have n1:items[i]?=some items[i]:=by simp
   have n2:items2[i]?=some (items2[i]'(by (clear hc l1 n1;lia))):=by simp
   unfold Builtin.«list.__eq__.loop»
   k_delta "cmpOps"
   rcases hc with⟨rfl,rfl⟩ | ⟨rfl,rfl⟩
   ·dsimp only;rw[show(([CmpOp.Lt,CmpOp.LtE,CmpOp.Eq,CmpOp.NotEq,CmpOp.Gt,CmpOp.GtE]:List CmpOp)[Int.toNat 2]?)=some CmpOp.Eq from rfl];refine wax (wpAny_listItems e1 d1 (wax (wpAny_listItems e2 d2 ?_)));rw[Int.toNat_natCast,n1,n2];refine wax (he i _ _ n1 n2 _ _ ?_);refine wpAny_ite_true (by rfl) ?_;exact wpAny_pure ⟨PySem.plainId_quiet PySem.MeetsSeq3.plain_eq_loop _,ih⟩
   ·dsimp only;rw[show(([CmpOp.Lt,CmpOp.LtE,CmpOp.Eq,CmpOp.NotEq,CmpOp.Gt,CmpOp.GtE]:List CmpOp)[Int.toNat 3]?)=some CmpOp.NotEq from rfl];refine wax (wpAny_listItems e1 d1 (wax (wpAny_listItems e2 d2 ?_)));rw[Int.toNat_natCast,n1,n2];refine wax (he i _ _ n1 n2 _ _ ?_);refine wpAny_ite_true (by rfl) ?_;exact wpAny_pure ⟨PySem.plainId_quiet PySem.MeetsSeq3.plain_eq_loop _,ih⟩
theorem xB {op:CmpOp} {r:Bool} (hop:(op=.Eq/\r=true)∨(op=.NotEq/\r=false)) {l b:Addr} {items items2:Array Value} (hl:s.heap.IsList l items) (hb:s.heap.IsList b items2) (hz:items.size=items2.size) (hu:A.units<cLine)
 (he:∀(j:Nat) (u v:Value),items[j]?=some u->items2[j]?=some v->ju prog w A.in1 s u v) (E:yey) (Q:yey) (q:Q (.bool r) s):
 wpAny (model prog w) A (richCompare op (.ref l) (.ref b)) Q E s:=by
 obtain⟨o1,e1,c1,n1,d1⟩:=id hl;obtain⟨o2,e2,c2,n2,d2⟩:=id hb;rcases hop with⟨rfl,rfl⟩ | ⟨rfl,rfl⟩
 ·refine wpAny_richCompare_same_room (T:="list") ⟨o1,e1,c1⟩ ⟨o2,e2,c2⟩ PySem.F.slot_list_eq (call_meetsIn PySem.F.slot_list_eq ⟨o1,e1,c1⟩ PySem.F.entry_list_eq (PySem.F.args_list_eq_2 _ _) (S:=λA' R s'=>A'=A/\s'=s/\R (.ok (.ret (.bool true))) s) ?_ ⟨rfl,rfl,(λz=>nomatch z),q⟩) hu;rintro A' R s' ⟨rfl,rfl,hR⟩;unfold Builtin.«list.__eq__»
  k_delta "listCompare"
  refine wax ?_;unfold slotArgs;refine wpAny_ite_false (by rfl) (wpAny_ite_false (by rfl) (wpAny_pure ?_));dsimp only;refine wax (wpAny_isInstance (T:="list") (b:=true) ⟨o2,e2,c2⟩ PySem.AutoSeq1.sub_list_list ?_);refine wpAny_ite_false (by rfl) ?_;refine wpAny_ite_true (by rfl) ?_;refine wax (wpAny_listItems e1 d1 (wax (wpAny_listItems e2 d2 ?_)));refine wpAny_ite_false (by rw[hz,bne_self_eq_false];rfl) ?_;exact wpAny_pure ⟨PySem.plainId_quiet PySem.MeetsSeq3.plain_eq_loop _,lu (.inl ⟨rfl,rfl⟩) e1 d1 e2 d2 hz he hR items.size 0 0 0 (by (clear hz hu;lia))⟩
 ·refine wpAny_richCompare_same_room (T:="list") ⟨o1,e1,c1⟩ ⟨o2,e2,c2⟩ PySem.F.slot_list_ne (call_meetsIn PySem.F.slot_list_ne ⟨o1,e1,c1⟩ PySem.F.entry_list_ne (PySem.F.args_list_ne_2 _ _) (S:=λA' R s'=>A'=A/\s'=s/\R (.ok (.ret (.bool false))) s) ?_ ⟨rfl,rfl,(λz=>nomatch z),q⟩) hu;rintro A' R s' ⟨rfl,rfl,hR⟩;unfold Builtin.«list.__ne__»
  k_delta "listCompare"
  refine wax ?_;unfold slotArgs;refine wpAny_ite_false (by rfl) (wpAny_ite_false (by rfl) (wpAny_pure ?_));dsimp only;refine wax (wpAny_isInstance (T:="list") (b:=true) ⟨o2,e2,c2⟩ PySem.AutoSeq1.sub_list_list ?_);refine wpAny_ite_false (by rfl) ?_;refine wpAny_ite_true (by rfl) ?_;refine wax (wpAny_listItems e1 d1 (wax (wpAny_listItems e2 d2 ?_)));refine wpAny_ite_false (by rw[hz,bne_self_eq_false];rfl) ?_;exact wpAny_pure ⟨PySem.plainId_quiet PySem.MeetsSeq3.plain_eq_loop _,lu (.inr ⟨rfl,rfl⟩) e1 d1 e2 d2 hz he hR items.size 0 0 0 (by (clear hz hu;lia))⟩
end
section
variable {X:Cx} {π:List (Addr×Obj)} {σ:St} {H:Hp} {s:Shared}
inductive gU (G:Gp):Nat->W->W->Prop where
 | flat {n:Nat} {x y:W} (f1:x.flat=true) (f2:y.flat=true) (hd:x.dep<=140) (he:x.eq y=true):gU G n x y
 | same {n:Nat} {a:Addr}:gU G n (.ref a) (.ref a)
 | dic {n:Nat} {a b:Addr} {kvs us:List (bd×W)} (ea:GD G a kvs) (eb:GD G b us) (hl:kvs.length=us.length) (hv:∀p,p∈kvs->∃w',eg us p.1=some w'/\kt G p.2 w'):gU G n (.ref a) (.ref b)
 | pair {n:Nat} {x1 x2 y1 y2:W} (h1:gU G n x1 y1) (h2:gU G n x2 y2):gU G (n+1) (.tup [x1,x2]) (.tup [y1,y2])
theorem rZ {G:Gp} (I:aH X π σ H s) (g:aO X.K H G) {n:Nat} {w1 w2:W} (h:gU G n w1 w2):∀{A:Around} {v1 v2:V} {u1 u2:Value},A.units+n+160<cLine->cj X.K H w1 v1->cj X.K H w2 v2->bn v1 u1->bn v2 u2->ju X.prog X.w A s u1 u2:=by
 induction h with
 | @flat n x y f1 f2 hd he=>
   intro A v1 v2 u1 u2 hu r1 r2 q1 q2;have:=(fh I 150 A (w1:=x) (w2:=y) (by (clear hu;lia)) f1 f2 (by (clear hd;lia)) r1 r2 q1 q2).1;rw[he] at this;exact .of this
 | same=>
   intro A v1 v2 u1 u2 hu r1 r2 q1 q2;cases r1;cases r2;cases q1;cases q2;exact .of (SeqAt.EqAt.same _)
 | @dic n a b kvs us ea eb hl hv=>
   intro A v1 v2 u1 u2 hu r1 r2 q1 q2;cases r1;cases r2;cases q1;cases q2;obtain⟨_,ua,ra,da⟩:=ea.rd g;obtain⟨_,ub,rb,db⟩:=eb.rd g;obtain⟨_,ma,ka,qa,dda⟩:=eC I.hok ra;obtain⟨_,mb,kb,qb,ddb⟩:=eC I.hok rb;have hlen:ka.length=kb.length:=by rw[←qa.length,←qb.length,da.len,db.len,hl]
   refine ju.refs λhne E Q q=>?_;refine PySem.W.keq_eq ma mb dda ddb (by (clear hl hlen;lia)) (λ_=>lq (A:=A.in1) (by show A.units+1+20<cLine;(clear hl hlen;lia)) I g db qb da qa hv) ?_;rw[hlen,beq_self_eq_true,Bool.true_and];exact q
 | @pair n x1 x2 y1 y2 h1 h2 ih1 ih2=>
   intro A v1 v2 u1 u2 hu r1 r2 q1 q2;cases r1 with
   | @tup a _ xs hT rr=>
     cases r2 with
     | @tup b _ ys hT2 rr2=>
       cases (show u1=Value.ref a from q1);cases (show u2=Value.ref b from q2);obtain⟨its,rv,hp,_⟩:=I.tuple (dA.of hT);obtain⟨its2,rv2,hp2,_⟩:=I.tuple (dA.of hT2);cases rr with
       | cons a1 rr=>
         cases rr with
         | cons a2 rr=>
           cases rr;cases rr2 with
           | cons b1 rr2=>
             cases rr2 with
             | cons b2 rr2=>
               cases rr2;obtain⟨p1,p2,rfl,c1,c2⟩:=kQ rv;obtain⟨t1,t2,rfl,d1,d2⟩:=kQ rv2;exact ju.refs λhne E Q q=>xA hp hp2 (by lia) (ih1 (A:=A.in1) (by show A.units+1+n+160<cLine;lia) a1 b1 c1 d1) (ih2 (A:=A.in1) (by show A.units+1+n+160<cLine;lia) a2 b2 c2 d2) E Q q
inductive AF (G:Gp) (a b:Addr):Bool->Prop where
 | old {r:Bool} (h:CA G a b r):AF G a b r
 | nil {ws:List W} (ea:G a=some (.lst ws)) (eb:G b=some (.lst [])):AF G a b ws.isEmpty
 | deep {ws us:List W} (ea:G a=some (.lst ws)) (eb:G b=some (.lst us)) (hl:ws.length=us.length) (he:∀(j:Nat) (x y:W),ws[j]?=some x->us[j]?=some y->gU G 9 x y):AF G a b true
noncomputable def lv:W2:=λx y G q=>match x,y with
 | .ref a,.ref b=>∃r,AF G a b r/\q (.bl r) G
 | x,y=>v7 x y G q
noncomputable def nB:W2:=λx y G q=>match x,y with
 | .ref a,.ref b=>∃r,AF G a b r/\q (.bl (!r)) G
 | x,y=>v9 x y G q
theorem iR (hr:aw k X.A) {op:CmpOp} {r:Bool} (hop:(op=.Eq/\r=true)∨(op=.NotEq/\r=false)) {G:Gp} (I:aH X π σ H s) (g:aO X.K H G) {a b:Addr} {ws us:List W} (ea:G a=some (.lst ws)) (eb:G b=some (.lst us)) (hl:ws.length=us.length)
 (he:∀(j:Nat) (x y:W),ws[j]?=some x->us[j]?=some y->gU G 9 x y) (E:yey) (Q:yey) (q:Q (.bool r) s):wpAny (model X.prog X.w) X.A (richCompare op (.ref a) (.ref b)) Q E s:=by
 have hu:=hr.un;obtain⟨_,xs,e1,ra⟩:=g _ _ ea;obtain⟨_,ys,e2,rb⟩:=g _ _ eb;obtain⟨its,rv,p,_⟩:=I.list (dE.of e1);obtain⟨its2,rv2,p2,_⟩:=I.list (dE.of e2);have l1:its.length=ws.length:=by rw[←rv.length,ra.length]
 have l2:its2.length=us.length:=by rw[←rv2.length,rb.length]
 refine xB hop p.isList p2.isList (by rw[size_toArray,size_toArray,l1,l2,hl]) (by (clear hl l1 l2;lia)) (λj u v hj hv=>?_) E Q q;rw[List.getElem?_toArray] at hj hv;have j1:j<ws.length:=by
  rw[←l1];exact(List.getElem?_eq_some_iff.mp hj).1
 have gw:=ycz j1;have gu:=ycz (show j<us.length by (clear hu hj hv gw;lia));obtain⟨x,hx,rx⟩:=ra.get gw;obtain⟨y,hy,ry⟩:=rb.get gu;obtain⟨u',hu',qu⟩:=rv.get hx;obtain⟨v',hv',qv⟩:=rv2.get hy;rw[hj] at hu';rw[hv] at hv';cases hu';cases hv';exact rZ I g (he j _ _ gw gu) (A:=X.A.in1) (by show X.A.units+1+9+160<cLine;lia) rx ry qu qv
theorem uJ (hr:aw k X.A) {G:Gp} (I:aH X π σ H s) (g:aO X.K H G) {a b:Addr} {x:W} {ws:List W} (ea:G a=some (.lst (x::ws))) (eb:G b=some (.lst [])) (E:yey) (Q:yey):
 (Q (.bool false) s->wpAny (model X.prog X.w) X.A (richCompare .Eq (.ref a) (.ref b)) Q E s)/\(Q (.bool true) s->wpAny (model X.prog X.w) X.A (richCompare .NotEq (.ref a) (.ref b)) Q E s):=by
 have hu:=hr.un;obtain⟨_,xs,e1,ra⟩:=g _ _ ea;obtain⟨_,ys,e2,rb⟩:=g _ _ eb;obtain⟨its,rv,p,_⟩:=I.list (dE.of e1);obtain⟨its2,rv2,p2,_⟩:=I.list (dE.of e2);have l1:its.length=(x::ws).length:=by rw[←rv.length,ra.length]
 have l2:its2.length=([]:List W).length:=by rw[←rv2.length,rb.length]
 have ne:(its.toArray.size !=its2.toArray.size)=true:=by rw[size_toArray,size_toArray,l1,l2];simp
 exact⟨λq=>SeqAt.RcAt.lists_lengths p.isList p2.isList (by simpa using ne) (A:=X.A) (by (clear l1 l2;lia)) X.prog X.w E Q q,λq=>SeqAt.RcNeAt.lists_lengths p.isList p2.isList (by simpa using ne) (A:=X.A) (by (clear l1 l2;lia)) X.prog X.w E Q q⟩
theorem bo (hr:aw k X.A):fc X (compareOp .Eq) lv:=by
 rintro π s σ H x y v u Q I rx ry ⟨wx,wy,G,q,r1,r2,g,h,hQ⟩;unfold lv at h;split at h
 ·rename_i a b;obtain⟨r,he,h⟩:=h;have fin:EP X π σ Q (.bool r) s:=⟨.bl _,H,I,rfl,hQ _ H _ G (aP.refl H) (.bl _) g h⟩;cases he with
  | old he=>exact CD hr π s σ H x y v u Q I rx ry ⟨_,_,G,q,r1,r2,g,⟨r,he,h⟩,hQ⟩
  | @nil ws ea eb=>
    cases r1;cases r2;cases rx;cases ry;cases ws with
    | nil=>exact iR hr (.inl ⟨rfl,rfl⟩) I g ea eb rfl (λj x y z=>by cases z) X.xe _ fin
    | cons x ws=>exact(uJ hr I g ea eb X.xe _).1 fin
  | deep ea eb hl he=>
    cases r1;cases r2;cases rx;cases ry;exact iR hr (.inl ⟨rfl,rfl⟩) I g ea eb hl he X.xe _ fin
 ·exact zN hr π s σ H x y v u Q I rx ry ⟨wx,wy,G,q,r1,r2,g,h,hQ⟩
theorem gW (hr:aw k X.A):fc X (compareOp .NotEq) nB:=by
 rintro π s σ H x y v u Q I rx ry ⟨wx,wy,G,q,r1,r2,g,h,hQ⟩;unfold nB at h;split at h
 ·rename_i a b;obtain⟨r,he,h⟩:=h;have fin:EP X π σ Q (.bool (!r)) s:=⟨.bl _,H,I,rfl,hQ _ H _ G (aP.refl H) (.bl _) g h⟩;cases he with
  | old he=>exact CF hr π s σ H x y v u Q I rx ry ⟨_,_,G,q,r1,r2,g,⟨r,he,h⟩,hQ⟩
  | @nil ws ea eb=>
    cases r1;cases r2;cases rx;cases ry;cases ws with
    | nil=>exact iR hr (.inr ⟨rfl,rfl⟩) I g ea eb rfl (λj x y z=>by cases z) X.xe _ fin
    | cons x ws=>exact(uJ hr I g ea eb X.xe _).2 fin
  | deep ea eb hl he=>
    cases r1;cases r2;cases rx;cases ry;exact iR hr (.inr ⟨rfl,rfl⟩) I g ea eb hl he X.xe _ fin
 ·exact zO hr π s σ H x y v u Q I rx ry ⟨wx,wy,G,q,r1,r2,g,h,hQ⟩
end
section
variable {X:Cx} {pos:Pos}
end
section
variable {X:Cx} {tg:Expr}
end
section
variable {P:Program} {w:World} {K:yav} {mg:yew} {base:Heap} {N:List Str} {qual:Str} {scope:Scope} {f:Addr} {cdv:Value} {A:Around} {outer:List Env} {s:Shared} {H:Hp} {E:XK}
end
section
variable {X:Cx} {pos:Pos}
end
section
variable {X:Cx} {π:List (Addr×Obj)} {σ:St} {H:Hp} {s:Shared}
noncomputable def CH (x y:W):Prop:=x.flat=true/\y.flat=true/\x.dep<=140/\x.eq y=true
theorem CI (hu:A.units+160<cLine) (I:aH X π σ H s) {kb:List (bd×Value)} {us:List (bd×W)} {ub:List (bd×V)} (db:DP X.K H us ub) (rb:KV ub kb):
 ∀{kvs:List (bd×W)} {ua:List (bd×V)} {ka:List (bd×Value)},DP X.K H kvs ua->KV ua ka->(∀p,p∈kvs->∃w',eg us p.1=some w'/\CH p.2 w')->PySem.W.KeqHits A s kb ka true:=by
 intro kvs ua ka d
 induction d generalizing ka with
 | nil=>
   intro r _;cases r;exact .nil
 | @cons k w v kvs ua rw' t ih=>
   intro r hv;cases r with
   | @cons _ b _ bs r1 rt=>
     obtain⟨b1,b2⟩:=b;obtain⟨e1,r2⟩:=r1;cases (show k=b1 from e1);obtain⟨w',hw,f1,f2,hd,he⟩:=hv _ yby;rcases db.val k with⟨e,_⟩ | ⟨w2,v2,e,e',r3⟩
     ·rw[e] at hw;cases hw
     ·rw[e] at hw;cases hw;obtain⟨y,hy,ry⟩:=fP.some_of (v:=v2) (o:=valueAt kb k) (by rw[←e'];exact rb.val k);have hd':w.dep<=140:=hd;have:=(fh I 150 A (w1:=w) (by (clear hu hd;lia)) f1 f2 (by (clear hd hd';lia)) rw' r3 r2 ry).1;rw[show W.eq w _=true from he] at this;exact .hit (e:=true) (b:=true) hy this (ih rt λp hp=>hv p (ybx _ hp))
noncomputable def CJ:W2:=λx y G q=>match x,y with
 | .ref a,.ref b=>∃kvs us,GD G a kvs/\GD G b us/\kvs.length=us.length/\(∀p,p∈kvs->∃w',eg us p.1=some w'/\CH p.2 w')/\q (.bl true) G
 | _,_=>False
theorem CK (hr:aw k X.A):fc X (compareOp .Eq) CJ:=by
 rintro π s σ H x y v u Q I rx ry ⟨wx,wy,G,q,r1,r2,g,h,hQ⟩;unfold CJ at h;split at h
 ·obtain⟨kvs,us,ea,eb,hl,hv,h⟩:=h;cases r1;cases r2;cases rx;cases ry;have hu:=hr.un;obtain⟨_,ua,ra,da⟩:=ea.rd g;obtain⟨_,ub,rb,db⟩:=eb.rd g;obtain⟨_,ma,ka,qa,dda⟩:=eC I.hok ra;obtain⟨_,mb,kb,qb,ddb⟩:=eC I.hok rb;have hlen:ka.length=kb.length:=by rw[←qa.length,←qb.length,da.len,db.len,hl]
  refine PySem.W.keq_eq ma mb dda ddb (by (clear hl hlen;lia)) (λ_=>CI (A:=X.A.in1) (by show X.A.units+1+160<cLine;(clear hl hlen;lia)) I db qb da qa hv) ?_;rw[hlen,beq_self_eq_true,Bool.true_and];exact⟨.bl _,H,I,rfl,hQ _ H _ G (aP.refl H) (.bl _) g h⟩
 ·exact h.elim
end
mutual
inductive E4 (h:Heap):Nat->W->Value->Prop where
 | int {d:Nat} (n:Int) (t:Tok):E4 h d (.int n) (.int n t)
 | tup {d:Nat} {a:Addr} {o:Obj} {items:Array Value} {n:Nat} {ws:List W} (gO:h.get? a=some o) (hc:o.cls=.type "tuple") (dO:o.data=.seq items n) (hs:xD h d ws items.toList):E4 h (d+1) (.tup ws) (.ref a)
inductive xD (h:Heap):Nat->List W->List Value->Prop where
 | nil {d:Nat}:xD h d [] []
 | cons {d:Nat} {w:W} {v:Value} {ws:List W} {vs:yez} (r:E4 h d w v) (rs:xD h d ws vs):xD h d (w::ws) (v::vs)
end
section
variable {h h':Heap}
end
section
variable (P:Program) (w:World)
end
section
variable {prog:Program} {w:World}
inductive Sh:W->W->Prop where
 | int (n m:Int):Sh (.int n) (.int m)
 | tup {xs ys:List W} (h:∀p,p∈xs.zip ys->Sh p.1 p.2):Sh (.tup xs) (.tup ys)
end
section
variable {X:Cx} {π:List (Addr×Obj)} {σ:St} {H:Hp} {s:Shared}
end
inductive E5 (K:yav) (H:Hp):List (O×W)->List (O×Addr×Value)->Prop where
 | nil:E5 K H [] []
 | cons {k:O} {a:Addr} {w:W} {v:V} {u:Value} {kvs:List (O×W)} {xs:List (O×Addr×Value)} (rk:cj K H (.tup (am k)) (.ref a)) (rv:cj K H w v) (ru:bn v u) (t:E5 K H kvs xs):E5 K H ((k,w)::kvs) ((k,a,u)::xs)
section
variable {X:Cx} {π:List (Addr×Obj)} {σ:St} {H:Hp} {s:Shared}
end
open PySem PySem.Spec PyProof.Rows Nm PySem.W
section
variable {X:Cx} {π:List (Addr×Obj)} {σ:St} {H:Hp} {s:Shared}
end
section
variable {prog:Program} {w:World} {A:Around} {E:yey} {s:Shared} {it d:Addr} {i ep:Nat} {es:Array DictEntry}
end
end L2
set_option maxHeartbeats 1000000
namespace L2
open PySem PySem.Spec PyProof.Rows Nm PySem.W
inductive NV (K:yav) (H:Hp):List O->List Value->Prop where
 | nil:NV K H [] []
 | cons {o:O} {a:Addr} {os:List O} {us:yez} (r:cj K H (.tup (am o)) (.ref a)) (hd:o.dp<=3) (t:NV K H os us):NV K H (o::os) (.ref a::us)
section
variable {X:Cx} {π:List (Addr×Obj)} {σ:St} {H:Hp} {s:Shared}
end
section
variable {X:Cx} {π:List (Addr×Obj)} {σ:St} {H:Hp} {s:Shared}
end
open PySem PySem.Spec PyProof.Rows
section
variable {G:Gp} {q:WK} {a b:Addr} {i j:Int} {xs ys:List W} {z z':PySem.Str} {ns:List Int} {y:W} {c d:Bool}
theorem GW:kl (.int i) (.int j) G q=q (.int (i+j)) G:=rfl
theorem GX:kl (.tup xs) (.tup ys) G q=(xs.length+ys.length<=100000/\q (.tup (xs++ys)) G):=rfl
theorem GY:kl (.ref a) (.ref b) G q=(∃xs ys,G a=some (.lst xs)/\G b=some (.lst ys)/\xs.length+ys.length<=100000/\∀p,G p=none->q (.ref p) (aQ G p (.lst (xs++ys)))):=rfl
theorem GZ:kl (.str z) (.str z') G q=(z.length+z'.length<=100000/\q (.str (z++z')) G):=rfl
theorem Ha:km (.int i) (.int j) G q=(js i j/\q (.int (i*j)) G):=rfl
theorem Hb:km (.ref a) (.int j) G q=(∃xs,G a=some (.lst xs)/\0<=j/\j<=100000/\xs.length*j.toNat<=100000/\∀p,G p=none->q (.ref p) (aQ G p (.lst (List.replicate j.toNat xs).flatten))):=rfl
theorem Hc:km (.tup xs) (.int j) G q=(xs≠[]/\0<=j/\j<=100000/\xs.length*j.toNat<=100000/\q (.tup (List.replicate j.toNat xs).flatten) G):=rfl
theorem Hd:km (.str z) (.int j) G q=(0<=j/\j<=100000/\z.length*j.toNat<=100000/\∀z':PySem.Str,z'.length<=z.length*j.toNat->q (.str z') G):=rfl
theorem He:pf (.ref a) (.str z) G q=(∃kvs w,GD G a kvs/\eg kvs (.inr z)=some w/\q w G):=rfl
theorem Hg:pf (.str z) (.int i) G q=(z.length<=100000/\∃c,eA z.cps.toList i=some c/\q (.str ⟨#[c]⟩) G):=rfl
theorem Hh:pf (.tup xs) (.int i) G q=(∃w,eA xs i=some w/\q w G):=rfl
theorem Hi:pf (.scr ns) (.int i) G q=(∃n,eA ns i=some n/\q (.int n) G):=rfl
theorem Hj:pf (.ref a) (.int i) G q=(∃xs w,G a=some (.lst xs)/\eA xs i=some w/\q w G):=rfl
theorem Hk:lv (.ref a) (.ref b) G q=(∃r,AF G a b r/\q (.bl r) G):=rfl
theorem Hl:lv (.tup xs) y G q=((W.tup xs).flat=true/\y.flat=true/\(W.tup xs).dep<=150/\q (.bl ((W.tup xs).eq y)) G):=rfl
theorem Hn:lv (.int i) y G q=((W.int i).flat=true/\y.flat=true/\(W.int i).dep<=150/\q (.bl ((W.int i).eq y)) G):=rfl
theorem Ho:lv (.str z) y G q=((W.str z).flat=true/\y.flat=true/\(W.str z).dep<=150/\q (.bl ((W.str z).eq y)) G):=rfl
theorem Hq:lv (.bl c) y G q=((W.bl c).flat=true/\y.flat=true/\(W.bl c).dep<=150/\q (.bl ((W.bl c).eq y)) G):=rfl
theorem Hr:lv .non y G q=(W.non.flat=true/\y.flat=true/\W.non.dep<=150/\q (.bl (W.non.eq y)) G):=rfl
theorem Hs:nB (.ref a) (.ref b) G q=(∃r,AF G a b r/\q (.bl (!r)) G):=rfl
theorem Ht:nB (.tup xs) y G q=((W.tup xs).flat=true/\y.flat=true/\(W.tup xs).dep<=150/\q (.bl (!(W.tup xs).eq y)) G):=rfl
theorem Hu:nB (.int i) y G q=((W.int i).flat=true/\y.flat=true/\(W.int i).dep<=150/\q (.bl (!(W.int i).eq y)) G):=rfl
theorem Hv:nB (.str z) y G q=((W.str z).flat=true/\y.flat=true/\(W.str z).dep<=150/\q (.bl (!(W.str z).eq y)) G):=rfl
theorem Hw:nB (.bl c) y G q=((W.bl c).flat=true/\y.flat=true/\(W.bl c).dep<=150/\q (.bl (!(W.bl c).eq y)) G):=rfl
theorem Hx:nB .non y G q=(W.non.flat=true/\y.flat=true/\W.non.dep<=150/\q (.bl (!W.non.eq y)) G):=rfl
theorem Hz:wm (.int i) (.int j) G q=q (.bl (decide (i<j))) G:=rfl
theorem HA:wm (.tup xs) (.tup ys) G q=(W.flats xs=true/\W.flats ys=true/\W.deps xs<=149/\W.ords xs ys=true/\q (.bl (W.lts xs ys)) G):=rfl
theorem HB:tG (.int i) (.int j) G q=q (.int (i-j)) G:=rfl
theorem HC:tG (.bl c) (.bl d) G q=q (.int (b2i c-b2i d)) G:=rfl
theorem HD {C:Int->Int->Prop} {f:Int->Int->W}:ro C f (.int i) (.int j) G q=(C i j/\q (f i j) G):=rfl
theorem HE {f:Int->Int->W}:jU f (.int i) (.int j) G q=q (f i j) G:=rfl
theorem HF:kq [.ref a] G q=(∃n:Nat,xx G a n/\q (.int n) G):=rfl
theorem HG:kq [.str z] G q=(z.length<=100000/\q (.int z.length) G):=rfl
theorem HH:kq [.tup xs] G q=q (.int xs.length) G:=rfl
theorem HI:kq [.scr ns] G q=q (.int ns.length) G:=rfl
theorem HJ:EM (.int i) (.int j) G q=q (.bl (decide (i≥j))) G:=rfl
theorem HK:lv (.ref a) (.int i) G q=((W.ref a).flat=true/\(W.int i).flat=true/\(W.ref a).dep<=150/\q (.bl ((W.ref a).eq (.int i))) G):=rfl
end
section
variable {τ:dF} {G:Gp} {d:dL} {i:Nat} {k:Int} {a b:Str} {ws:List W} {t u v:WS} {c:WT}
end
section
variable {X:Cx} {pos:Pos}
noncomputable def lw (r r':W2) (ta tb tc:WE):WE:=λτ G q=>ta τ G λx G1=>tb τ G1 λy G2=>r x y G2 λz G3=>∃k,z=.bl k/\(if k=true then tc τ G3 λv G4=>r' y v G4 q else q (.bl false) G3)
theorem ic.chain {r r':W2} {ta tb tc:WE} {σ:St} {H:Hp} {Q:VK} (h:ic K (lw r r' ta tb tc) σ H Q):oa (LR K r) (LR K r') (ic K ta) (ic K tb) (ic K tc) σ H Q:=by
 obtain⟨τ,G,q,hs,hg,ht,hQ⟩:=h;refine⟨τ,G,_,hs,hg,ht,λv H1 w G1 t1 r1 g1 q1=>?_⟩;refine⟨τ,G1,_,hs.mono t1,g1,q1,λv2 H2 w2 G2 t2 r2 g2 q2=>?_⟩;refine⟨w,w2,G2,_,r1.mono t2,r2,g2,q2,λv3 H3 w3 G3 t3 r3 g3 q3=>?_⟩;obtain⟨k,rfl,q3⟩:=q3;cases r3;refine⟨k,rfl,?_⟩;have tt:=(t1.trans t2).trans t3;cases k with
 | false=>exact hQ _ H3 _ G3 tt (.bl false) g3 q3
 | true=>
   refine⟨τ,G3,_,hs.mono tt,g3,q3,λv4 H4 w4 G4 t4 r4 g4 q4=>?_⟩;exact⟨w2,w4,G4,q,(r2.mono t3).mono t4,r4,g4,q4,λv5 H5 w5 G5 t5 r5 g5 q5=>hQ v5 H5 w5 G5 ((tt.trans t4).trans t5) r5 g5 q5⟩
theorem nC {op op':CmpOp} {r r':W2} {a b c:Expr} {ta tb tc:WE} (ho:fc X (compareOp op) r) (ho':fc X (compareOp op') r') (ha:QE X a ta) (hb:QE X b tb) (hc:QE X c tc)
 (hm:lastMarks [op,op'] [b,c]=false:=by with_unfolding_all rfl):QE X (.Compare a [op,op'] [b,c] pos) (lw r r' ta tb tc):=
 (sL ho ho' ha hb hc hm).imp λ_ _ _ h=>h.chain
theorem jv {op op':CmpOp} {r r':W2} {a b c:Expr} {ta tb tc:WE} (ho:fc X (compareOp op) r) (ho':fc X (compareOp op') r') (ha:QE X a ta) (hb:QE X b tb) (hc:QE X c tc)
 (hm:lastMarks [op,op'] [b,c]=false:=by with_unfolding_all rfl):QT X (.Compare a [op,op'] [b,c] pos) (lX (lw r r' ta tb tc)):=
 (sM ho ho' ha hb hc hm).imp λσ H Q h=>by
   obtain⟨τ,G,q,hs,hg,ht,hQ⟩:=h.test;exact ic.chain ⟨τ,G,q,hs,hg,ht,hQ⟩
noncomputable def xE:W2:=λx y G q=>match x,y with
 | .str a,.str b=>q (.bl (!decide (b.cps.toList<a.cps.toList))) G
 | .int i,.int j=>q (.bl (decide (i<=j))) G
 | _,_=>False
theorem iH:fc X (compareOp .LtE) xE:=by
 rintro π s σ H x y v u Q I rx ry ⟨wx,wy,G,q,r1,r2,g,h,hQ⟩;unfold xE at h;split at h
 ·cases r1;cases r2;obtain⟨t,rfl⟩:=rx;obtain⟨t',rfl⟩:=ry;exact P.le_str ⟨.bl _,H,I,rfl,hQ _ H _ G (aP.refl H) (.bl _) g h⟩
 ·exact rp π s σ H x y v u Q I rx ry ⟨_,_,G,q,r1,r2,g,h,hQ⟩
 ·exact h.elim
end
section
variable {X:Cx} {pos:Pos}
noncomputable def e9 (m:Nat):List Nat:=(Nat.toDigits 10 m).map Char.toNat
theorem uK (m:Nat):PySem.Str.ofString (toString ((m:Nat):Int))=⟨(e9 m).toArray⟩:=by
 have h:=W.KIN.signs_num m;generalize PySem.Str.ofString (toString ((m:Nat):Int))=z at h ⊢;obtain⟨a⟩:=z;show Str.mk a=_;have h:a.toList=e9 m:=h;rw[←h]
noncomputable def CL:List W->Gp->WK->Prop:=λws G q=>match ws with
 | [.int i]=>∃m:Nat,i=(m:Int)/\m<2^1900/\q (.str ⟨(e9 m).toArray⟩) G
 | _=>False
theorem log2_lt {m:Nat} (h:m<2^1900):m.log2<1920:=by
 by_cases h0:m=0
 ·rw[h0];decide
 ·exact Nat.lt_trans ((Nat.log2_lt h0).mpr h) (by decide)
theorem CM:d4 X (.type "str") CL:=by
 rintro π s σ H xs us Q I r ⟨ws,G,q,rw',g,h,hQ⟩;cases rw' with
 | nil=>exact False.elim h
 | cons r1 rr'=>
   cases rr' with
   | cons _ _=>cases r1<;> exact False.elim h
   | nil=>
     cases r1 with
     | int i=>
       obtain⟨m,rfl,hm,hq⟩:=h;obtain⟨u,rfl,t,rfl⟩:=dZ r;refine PySem.P.str_of_int (log2_lt hm) ⟨.str _,H,I.tok _,⟨_,rfl⟩,hQ _ H _ G (aP.refl H) ?_ g hq⟩;rw[uK];exact .str _
     | _=>exact False.elim h
noncomputable def uL:List W->Gp->WK->Prop:=λws G q=>match ws with
 | [.str z]=>PySem.NumText.AllDigits z.cps.toList/\z.cps.toList≠[]/\z.length<=600/\q (.int ((PySem.NumText.digitsVal z.cps.toList:Nat):Int)) G
 | ws=>zM ws G q
theorem lx:d4 X (.type "int") uL:=by
 rintro π s σ H xs us Q I r ⟨ws,G,q,rw',g,h,hQ⟩;unfold uL at h;split at h
 ·rename_i z;obtain⟨h1,h2,h3,h4⟩:=h;cases rw' with
  | cons r1 rr'=>
    cases rr';cases r1;obtain⟨u,rfl,t,rfl⟩:=dZ r;exact W.KIN.call_text (PySem.intText_digits h1 h2 (ycy h3 (by decide))) (ycy h3 (by decide)) ⟨.int _,H,I.tok _,⟨_,rfl⟩,hQ _ H _ G (aP.refl H) (.int _) g h4⟩
 ·exact BN π s σ H xs us Q I r ⟨_,G,q,rw',g,h,hQ⟩
end
section
variable {G:Gp} {q:WK} {a b:Str} {i j:Int}
theorem HL:xE (.str a) (.str b) G q=q (.bl (!decide (b.cps.toList<a.cps.toList))) G:=rfl
theorem HM:xE (.int i) (.int j) G q=q (.bl (decide (i<=j))) G:=rfl
end
noncomputable def E6 (K:yav) (mg:yew) (u x:Str) (st:Stmt) (ps:List Str):Prop:=∃(f:Addr) (fd:FuncData),cq K x x st f fd/\bM K fd ps []/\mg u=some (.ref f)
section
variable {P:Program} {w:World} {K:yav} {mg:yew} {base:Heap} {u x:Str} {st:Stmt} {ps:List Str} {k:Nat} {sp:bA}
theorem E6.fx (D:E6 K mg u x st ps) (h:∀(f:Addr) (fd:FuncData),cq K x x st f fd->cu P w K mg base k f fd ps sp):Fx P w K mg base u ps k sp:=by
 obtain⟨f,fd,F,b,m⟩:=D;exact⟨f,fd,h f fd F,m,F.kp,b⟩
end
theorem lz {a b:Int} {p m:Nat} (ha:a=(p:Int)) (hb:b=(m:Int)):sliceRange a b 1=(List.range (m-p)).map λk=>p+k:=by
 subst ha hb;unfold sliceRange;simp only[show(1:Int) > 0 by decide,if_true];have ec:(if (p:Int)<(m:Int) then ((m:Int)-p+1-1)/1 else 0).toNat=m-p:=by split<;> lia
 rw[ec];apply List.map_congr_left;intro k _
 (clear ec;lia)
theorem clip_n {p n:Nat}:max 0 (min (if (p:Int)<0 then (p:Int)+n else p) n)=((min p n:Nat):Int):=by
 rw[ycw (by lia)];lia
theorem uM (lo hi:Option Int) (p q n:Nat) (hp:p<=n) (h1:(lo=none/\p=0)∨lo=some (p:Int)) (h2:(hi=none/\n<=q)∨hi=some (q:Int)):Builtin.Str.strSliceIndices lo hi 1 n=(List.range (min q n-p)).map λk=>p+k:=by
 have hp':min p n=p:=Nat.min_eq_left hp;rcases h1 with⟨rfl,rfl⟩ | rfl<;> rcases h2 with⟨rfl,h⟩ | rfl
 ·exact lz rfl (show(n:Int)=((min q n:Nat):Int) by rw[Nat.min_eq_right h])
 ·exact lz rfl clip_n
 ·exact lz (clip_n.trans (by rw[hp'])) (show(n:Int)=((min q n:Nat):Int) by rw[Nat.min_eq_right h])
 ·exact lz (clip_n.trans (by rw[hp'])) clip_n
theorem ku (l:List Nat) (p:Nat):∀m,p+m<=l.length->((List.range m).map λk=>p+k).filterMap (l.toArray[·]?)=(l.drop p).take m
 | 0,_=>by simp
 | m+1,h=>by
   rw[List.range_succ,map_append,List.filterMap_append,ku l p m (by lia)];have hg:(l.drop p)[m]?=some l[p+m]:=by rw[List.getElem?_drop,ycz (by assumption)]
   rw[List.take_succ,hg];simp[ycz (show p+m<l.length by assumption)]
theorem r0 (l:List Nat) (lo hi:Option Int) (p q:Nat) (hp:p<=l.length) (h1:(lo=none/\p=0)∨lo=some (p:Int)) (h2:(hi=none/\l.length<=q)∨hi=some (q:Int)):Txt.slice ⟨l.toArray⟩ lo hi=⟨((l.drop p).take (q-p)).toArray⟩:=by
 unfold Txt.slice;have hn:(⟨l.toArray⟩:Str).length=l.length:=by simp[Str.length]
 rw[hn,uM lo hi p q l.length hp h1 h2];have hl:((List.range (min q l.length-p)).map λk=>p+k).length=min q l.length-p:=by simp
 rw[hl];have et:(l.drop p).take (q-p)=(l.drop p).take (min q l.length-p):=by
  rcases Nat.le_total q l.length with h | h
  ·rw[Nat.min_eq_left h]
  ·rw[Nat.min_eq_right h,take_of_length_le (by rw[length_drop];(clear h1 h2 hl;lia)),take_of_length_le (by rw[length_drop];exact ycx _)]
 rw[et];split
 ·rename_i h;have h:min q l.length-p=l.length:=by simpa using h
  have h0:(l.drop p).take (min q l.length-p)=l:=by
   rw[h];rcases Nat.eq_zero_or_pos p with rfl | hp0
   ·rw[drop_zero,take_length]
   ·have:l.length=0:=by (clear hp h1 h2;lia)
    rw[List.length_eq_zero_iff.mp this]
    rfl
  rw[h0]
 ·rw[ku l p _ (by (clear h1 h2 hl;lia))]
section
variable {X:Cx} {pos:Pos}
noncomputable def pk:W3:=λx lo hi G k=>match x with
 | .str z=>z.length<=100000/\∃p q:Nat,p<=z.length/\((lo=none/\p=0)∨lo=some (p:Int))/\((hi=none/\z.length<=q)∨hi=some (q:Int))/\k (.str ⟨((z.cps.toList.drop p).take (q-p)).toArray⟩) G
 | x=>oE x lo hi G k
theorem CN:Bx X (Gw X.K pk):=by
 rintro π s σ H x v vl vu lo hi sl Q I rx hs pl pu ⟨w,G,q,r,g,h,hQ⟩;unfold pk at h;split at h
 ·rename_i z;obtain⟨hz,p,qq,hp,h1,h2,h⟩:=h;have ez:(⟨z.cps.toList.toArray⟩:Str)=z:=by cases z;simp
  have hs0:=r0 z.cps.toList lo hi p qq (by rw[lp];exact hp) h1 (by rw[lp];exact h2);rw[ez] at hs0;rw[←hs0] at h;cases r;obtain⟨t,rfl⟩:=rx;refine⟨"str",_,slot_str_getitem.lookup,typeIs_str s z t,?_⟩;have hl:∃l:Option (Int×Tok),vl=partValue l/\l.map (·.1)=lo:=by
   cases pl with
   | none=>exact⟨none,rfl,rfl⟩
   | int i t=>exact⟨some (i,t),rfl,rfl⟩
  have hu:∃u:Option (Int×Tok),vu=partValue u/\u.map (·.1)=hi:=by
   cases pu with
   | none=>exact⟨none,rfl,rfl⟩
   | int i t=>exact⟨some (i,t),rfl,rfl⟩
  obtain⟨l,rfl,el⟩:=hl;obtain⟨u,rfl,eu⟩:=hu;refine wpAny_getItem_str_slice (l:=l) (u:=u) (st:=none) ?_ rfl ?_
  ·obtain⟨o,e1,e2,e3⟩:=hs;exact⟨o,e1,e2,e3⟩
  ·have hle:=Txt.slice_le z lo hi;rw[←el,←eu] at h hle;unfold sliceMade;split
   ·rename_i hy;have e:Txt.slice z (l.map (·.1)) (u.map (·.1))=z:=ycv hy;rw[e] at h;exact⟨.str z,H,I,⟨_,rfl⟩,hQ _ H _ G (aP.refl H) (.str _) g h⟩
   ·rename_i hn;have e:=show Txt.slice z (l.map (·.1)) (u.map (·.1))=_ from ycw hn
    rw[e] at h hle;exact⟨ycy hle (bQ hz),.str _,H,I.tok _,⟨_,rfl⟩,hQ _ H _ G (aP.refl H) (.str _) g h⟩
 ·exact EG π s σ H x v vl vu lo hi sl Q I rx hs pl pu ⟨w,G,q,r,g,h,hQ⟩
noncomputable def CO (te:WE) (tl th:WO):WE:=λτ G q=>te τ G λx G1=>tl τ G1 λl G2=>th τ G2 λu G3=>pk x l u G3 q
theorem bw {lo hi:Option Expr} {te:WE} {tl th:WO} {pos p2:Pos} (he:QE X e te) (hl:QO X lo tl) (hu:QO X hi th):QE X (.Subscript e (.Slice lo hi none p2) pos) (CO te tl th):=
 (sX CN he hl hu).imp λσ H Q z0=>z0.el λτ G q hs hg ht hQ=>⟨τ,G,_,hs,hg,ht,λv H1 w G1 t1 r1 g1 q1=>⟨τ,G1,_,hs.mono t1,g1,q1,λl H2 G2 t2 g2 q2=>
   ⟨τ,G2,_,(hs.mono t1).mono t2,g2,q2,λu H3 G3 t3 g3 q3=>⟨w,G3,q,(r1.mono t2).mono t3,g3,q3,λv4 H4 w4 G4 t4=>hQ v4 H4 w4 G4 (((t1.trans t2).trans t3).trans t4)⟩⟩⟩⟩
theorem HN {z:Str} {lo hi:Option Int} {G:Gp} {k:WK}:pk (.str z) lo hi G k=(z.length<=100000/\∃p q:Nat,p<=z.length/\((lo=none/\p=0)∨lo=some (p:Int))/\((hi=none/\z.length<=q)∨hi=some (q:Int))/\k (.str ⟨((z.cps.toList.drop p).take (q-p)).toArray⟩) G):=rfl
theorem E7 {xs:List W} {lo hi:Option Int} {G:Gp} {k:WK}:pk (.tup xs) lo hi G k=oE (.tup xs) lo hi G k:=rfl
theorem HP {lo hi:Option Int} {G:Gp} {k:WK}:pk (.ref a) lo hi G k=oE (.ref a) lo hi G k:=rfl
theorem HQ {ns:List Int} {lo hi:Option Int} {G:Gp} {k:WK}:pk (.scr ns) lo hi G k=oE (.scr ns) lo hi G k:=rfl
end
section
variable {X:Cx}
noncomputable def E8 (K:yav) (a:Addr) (ts:List Str):Prop:=∃(d:Option Addr) (n:Nat) (sl:Array (Option Value)) (us:yez),K.lookup a=some ⟨.type "tuple",d,.seq us.toArray n,sl⟩/\aT (ts.map V.str) us
noncomputable def E9 (a:Addr) (ts:List Str):W2:=λx y G q=>∃z,x=.str z/\y=.ref a/\q (.bl (ts.any λt=>t==z)) G
noncomputable def xF (z:Str):Value->Bool
 | .str t _=>t==z
 | _=>false
theorem qA (z:Str):∀{ts:List Str} {us:yez},aT (ts.map V.str) us->us.any (xF z)=ts.any (λt=>t==z)/\∀y,y∈us->∃t k,y=Value.str t k
 | [],[],_=>⟨rfl,λy h=>by cases h⟩
 | [],_::_,h=>by cases h
 | _::_,[],h=>by cases h
 | t::ts,u::us,h=>by
   cases h with
   | cons h1 h2=>
     obtain⟨k,rfl⟩:=h1;obtain⟨i1,i2⟩:=qA z h2;refine⟨?_,λy hy=>?_⟩
     ·rw[any_cons,any_cons,i1]
      rfl
     ·rcases mem_cons.mp hy with rfl | hy
      ·exact⟨t,k,rfl⟩
      ·exact i2 y hy
theorem CP {ts:List Str} (hK:E8 X.K a ts):fc X (compareOp .In) (E9 a ts):=by
 rintro π s σ H x y v u Q I rx ry ⟨wx,wy,G,q,r1,r2,g,h,hQ⟩;obtain⟨z,e1,e2,h⟩:=h;subst e1 e2;cases r1;cases r2;obtain⟨t,rfl⟩:=rx;cases ry;obtain⟨d,n,sl,us,hk,hv⟩:=hK;obtain⟨i1,i2⟩:=qA z hv;have hh:=I.kIn _ _ hk;refine SeqAt.in_tupleAt (xF z) ⟨_,hh,rfl,n,rfl⟩ (λy hy=>?_) ?_
 ·obtain⟨t',k,rfl⟩:=i2 y (by simpa using hy);exact SeqAt.EqAt.str_str _ _ _ _
 ·rw[show us.toArray.any (xF z)=us.any (xF z) by simp,i1];exact⟨.bl _,H,I,rfl,hQ _ H _ G (aP.refl H) (.bl _) g h⟩
end
section
variable {X:Cx}
end
open PySem PySem.Spec PyProof.Rows Nm
theorem nD:∀d:Nat,d<10->(Nat.digitChar d).toNat=48+d:=by decide
theorem qB (m:Nat):e9 m=if m<10 then [48+m] else e9 (m/10)++[48+m%10]:=by
 unfold e9;rw[Nat.toDigits_eq_if (by decide)];split
 ·rename_i h;rw[map_cons,map_nil,nD m h]
 ·rw[map_append,map_cons,map_nil,nD _ (Nat.mod_lt _ (by decide))]
theorem jw:∀(n m:Nat),m<=n->(e9 m).all cE=true/\mP (e9 m)=m/\(m≠0->(e9 m).head?≠some 48)/\e9 m≠[]
 | 0,m,h=>by
   have:m=0:=by lia
   subst this;rw[qB];exact⟨rfl,rfl,λh=>absurd rfl h,by simp⟩
 | n+1,m,h=>by
   rw[qB];split
   ·rename_i hm;refine⟨?_,?_,λh0 hh=>?_,by simp⟩
    ·simp only[all_cons,List.all_nil,Bool.and_true];exact ydz ⟨by (clear h;lia),by (clear h;lia)⟩
    ·show 0*10+(48+m-48)=m
     (clear h;lia)
    ·have:=Option.some.inj hh
     (clear h hm;lia)
   ·rename_i hm;obtain⟨h1,h2,h3,h4⟩:=jw n (m/10) (by lia);refine⟨?_,?_,λh0 hh=>?_,by simp⟩
    ·rw[List.all_append,h1];simp only[all_cons,List.all_nil,Bool.and_true,Bool.true_and];exact ydz ⟨by (clear h hm h2;lia),by have:=Nat.mod_lt m (y:=10) (by decide);(clear h hm h2 this;lia)⟩
    ·unfold mP at h2 ⊢;rw[List.foldl_append,h2];show m/10*10+(48+m%10-48)=m
     (clear h hm h2;lia)
    ·rw[List.head?_append] at hh;cases e:(e9 (m/10)).head? with
     | none=>exact h4 (List.head?_eq_none_iff.mp e)
     | some y=>
       rw[e] at hh;exact h3 (by (clear h h2 h0;lia)) (e.trans hh)
theorem nE {m k:Nat} (hk:0<k) (h:m<10^k):(e9 m).length<=k:=by
 unfold e9;rw[length_map];exact(Nat.length_toDigits_le_iff (by decide) hk).mpr h
theorem AG:Ag e9:=⟨λm hm=>by
 obtain⟨h1,h2,h3,h4⟩:=jw m m (ycx _);have hl:=nE (k:=60) (by decide) hm;have h0:1<=(e9 m).length:=List.length_pos_iff.mpr h4;unfold bX;rw[h1,ydz ⟨h0,hl⟩,Bool.true_and,Bool.true_and,Bool.or_eq_true]
 by_cases hz:m=0
 ·subst hz;exact .inl rfl
 ·exact .inr (ydz (h3 hz)),λm=>(jw m m (ycx _)).2.1⟩
section
variable {X:Cx}
end
theorem eM {x qual:Str} {f:Addr} {N ps:List Str} {sp:bA} (F:cq K x qual st f fd) (S:bg N ps (ak st)) (len:∀ws G q e,sp ws G q e->ws.length=ps.length) (hb:∀(cdv:Value) (A:Around) (outer:List Env) (s:Shared) (H:Hp) (E:XK),N.Nodup->aw k (A.deeper (envOfC qual (ak st) s.heap.objs.size f cdv))->∃t,lH (cZ tq P w K mg base N qual (ak st) f cdv A outer s H E).nox (ao st) t/\∀(ws:List W) (G:Gp) (q:WK) (e:WX),sp ws G q e->t { nx:=λ_ G1=>∃G0,aG G0 G1/\q .non G0,rt:=λw G1=>∃G0,aG G0 G1/\q w G0 } (ie N ws) G):cu P w K mg base (k+1) f fd ps sp:=A5 F S len λ_ _ _ _ _ _ hr=>hb _ _ _ _ _ _ S.nd hr
end L2
open PySem PySem.Spec PyProof.Rows L2 Nm
seal QE QT QW QA QS lH QG BD QI QO A7 fc BE d4
seal PySem.compareOp PySem.binaryOp PySem.unaryOp
set_option bootstrap.genMatcherCode true
set_option compiler.extract_closed false
local macro_rules | `(tactic| walk_at "s") => `(tactic| exact ⟨rfl, rfl, rfl, by decide +kernel, rfl, by decide +kernel, by decide +kernel⟩)
local macro_rules | `(tactic| walk_at "l") => `(tactic| (intro ws G q e h; repeat (first | (obtain ⟨h1, _⟩ := h; subst h1; rfl) | obtain ⟨_, h⟩ := h)))
local macro_rules | `(tactic| walk_at "R") => `(tactic| simp (config := { failIfUnchanged := false, maxSteps := 2000000 }) only [AE, Ad, Az, yG, yH, yI, uI, yE, yF, Ab, Ck, yx, pS, pT, Ab, my, ud, Ci, ie, zK, Gv, lX, A0, zI, wC, B2, BL, yo, zL, tU, tW, yw, tZ, yv, tY, tX, ff, iA, DU, yn, tw, BJ, BK, BR, BF, Gu, BG, yk, BH, ym, BI, yp, yt, pL, BW, BV, B1, Cg, tN, BU, tM, vY, pJ, vX, zP, oE, tE, zS, zM, tV, List.map_cons, List.map_nil, List.length_cons, List.length_nil, List.replicate_succ, List.replicate_zero, List.cons_append, List.nil_append, List.append_nil, List.getElem?_cons_zero, List.getElem?_cons_succ, List.set_cons_zero, List.set_cons_succ, Nat.reduceAdd, Nat.reduceSub, Nat.zero_add, Nat.add_zero, Nat.sub_self, Nat.sub_zero, Cs, Ct, EY, Option.some.injEq, exists_eq_left', uu, wO, o7, uv, wP, EX, decide_eq_true_eq, Bool.not_eq_true', decide_eq_false_iff_not, true_and, Nat.zero_le, Aq, js, pM, tS, vI, Br, Int.reduceLE, Int.reduceLT, Nat.reducePow, Nat.reduceLT, Nat.reduceLeDiff, Int.reduceToNat, Int.reducePow, Int.reduceNeg, and_true, or_true, true_or, and_self, wT, Ar, wU, wV, wW, wX, wY, wZ, w6, w9, xb, xc, xf, xg, xh, Int.toNat_natCast, if_true, if_false, Bool.false_eq_true, Bool.true_eq_false, Bool.not_true, Bool.not_false, eq_self, not_true_eq_false, not_false_eq_true, As, At, Au, Av, GW, GX, GY, GZ, Ha, Hb, Hc, Hd, He, Hg, Hh, Hi, Hj, Hk, Hl, Hn, Ho, Hq, Hr, Hs, Ht, Hu, Hv, Hw, Hx, Hz, HA, HB, HC, HD, HE, HF, HG, HH, HI, HJ, HK, lw, CL, uL, HL, HM, CO, HN, E7, HP, HQ])
local macro_rules | `(tactic| walk_at "om") => `(tactic| first | assumption | lia | lia)
local macro_rules | `(tactic| walk_at "s") => `(tactic| exact ⟨rfl, rfl, rfl, by decide +kernel, rfl, by decide +kernel, by decide +kernel⟩)
namespace Lw
open PySem PySem.Spec PyProof.Rows L2 Nm
set_option hygiene false
local macro_rules | `(tactic| walk_at "a") => `(tactic| (subst hU; refine aI fun U hU => ?_; walk_at "R"))
local macro_rules | `(tactic| walk_at "a0") => `(tactic| (refine aI fun U hU => ?_; walk_at "R"))
set_option hygiene true
noncomputable def ax (i:Nat):Stmt:=PySem.Challenge.pw_hydrahouse_k72_read_and_reckoned.main.body.getD i (.Pass ⟨0,0,0,0⟩)
noncomputable def cJ (i j:Nat):Stmt:=(EN (ax i)).getD j (.Pass ⟨0,0,0,0⟩)
structure Txt (K:yav) (mg:yew):Prop where
 d_is_whole:wn K mg "is_whole" (ax 8) ["thing","least"] [.int 0]
 d_whole:Df K mg "whole" (ax 9) ["n"]
 d_endless:Df K mg "endless" (ax 10) []
 d_raised:wn K mg "raised" (ax 11) ["exponent","times"] [.int 1]
 d_compare:Df K mg "compare" (ax 12) ["a","b"]
 d_whole_part:Df K mg "whole_part" (ax 13) ["a"]
 d_without_whole:Df K mg "without_whole" (ax 14) ["a"]
 d_greatest:Df K mg "greatest" (ax 15) ["a"]
 d_deep:Df K mg "deep" (ax 16) ["a"]
 d_plus:Df K mg "plus" (ax 18) ["a","b"]
 d_parts_above:Df K mg "parts_above" (ax 19) ["a","exponent"]
 d_minus:Df K mg "minus" (ax 20) ["a","b"]
 d_parts_alike:Df K mg "parts_alike" (ax 21) ["a","b"]
 d_times:Df K mg "times" (ax 23) ["a","b"]
 d_power:Df K mg "power" (ax 27) ["a","b"]
 d_power_of_part:Df K mg "power_of_part" (ax 28) ["part","b"]
 d_is_too_great_powers:E6 K mg "is_too_great_powers" "is_too_great" (ax 29) ["a","b"]
 d_endless_power:Df K mg "endless_power" (ax 31) ["a","limit"]
 d_whole_power:Df K mg "whole_power" (ax 32) ["a","n"]
 d_is_figure:Df K mg "is_figure" (ax 41) ["sign"]
 d_is_letter:Df K mg "is_letter" (ax 42) ["sign"]
 d_is_figures:Df K mg "is_figures" (ax 43) ["text"]
 d_is_name:Df K mg "is_name" (ax 44) ["text"]
 d_thing_of:Df K mg "thing_of" (ax 45) ["word"]
 d_steps_of:Df K mg "steps_of" (ax 47) ["text"]
 d_looked_up:Df K mg "looked_up" (ax 48) ["steps","names"]
 d_reckoned:Df K mg "reckoned" (ax 49) ["steps"]
 d_joined:Df K mg "joined" (ax 50) ["first","sign","second"]
 d_is_too_great:Df K mg "is_too_great" (ax 51) ["a"]
 d_has_many_parts:Df K mg "has_many_parts" (ax 53) ["a"]
 d_read:wn K mg "read" (ax 55) ["text","names"] [.non]
 d__law_compare:Df K mg "_law_compare" (ax 57) ["_law_a","_law_b"]
 d__law_with:Df K mg "_law_with" (ax 58) ["_law_number","_law_exponent","_law_many"]
 d__law_size:Df K mg "_law_size" (ax 59) ["_law_number"]
 d__law_next:Df K mg "_law_next" (ax 60) ["_law_pool_here","_law_cell"]
 d__law_pool:Df K mg "_law_pool" (ax 61) ["_law_script"]
 d__law_pure:Df K mg "_law_pure" (ax 62) ["_law_number"]
 d__law_is:Df K mg "_law_is" (ax 63) ["_law_found","_law_due_here"]
 d__law_name:Df K mg "_law_name" (ax 64) ["_law_cell"]
 d__law_deep:Df K mg "_law_deep" (ax 65) ["_law_number"]
 d__law_greatest:Df K mg "_law_greatest" (ax 66) ["_law_number"]
 d__law_whole:Df K mg "_law_whole" (ax 67) ["_law_number"]
 d__law_chain:Df K mg "_law_chain" (ax 68) ["_law_many"]
 d__law_big:Df K mg "_law_big" (ax 69) ["_law_cell"]
 d__law_joined:Df K mg "_law_joined" (ax 70) ["_law_way","_law_one","_law_other"]
 d__law_due:Df K mg "_law_due" (ax 71) ["_law_way","_law_one","_law_other"]
 d__law_side:Df K mg "_law_side" (ax 72) ["_law_entry","_law_most","_law_always"]
 d__law_text:Df K mg "_law_text" (ax 73) ["_law_way","_law_one","_law_other","_law_cell"]
 d__law_told:Df K mg "_law_told" (ax 74) ["_law_text_here","_law_names","_law_due_here"]
 d__law_rows:Df K mg "_law_rows" (ax 75) ["_law_names"]
 a_is_too_great_readings:mg "is_too_great_readings"=mg "is_too_great"
 k_Reading:∃C:Addr,mg "Reading"=some (.ref C)/\lG K C/\cP K C "text"/\cP K C "place"/\cP K C "steps"/\DW K C "Reading.__init__" (cJ 46 0) ["self","text"]/\Md K C "read_sum" "Reading.read_sum" (cJ 46 1) ["self","within"]/\Md K C "read_product" "Reading.read_product" (cJ 46 2) ["self","within"]/\Md K C "read_power" "Reading.read_power" (cJ 46 3) ["self","within"]/\Md K C "read_thing" "Reading.read_thing" (cJ 46 4) ["self","within"]/\Md K C "word" "Reading.word" (cJ 46 5) ["self"]/\Md K C "pass_by" "Reading.pass_by" (cJ 46 6) ["self","sign"]/\Md K C "sign" "Reading.sign" (cJ 46 7) ["self"]
 x_:∃c0 c1 c2 c3:Addr,(mg "HydraError"=some (.ref c0)/\excIn K c0 [.type "ValueError",.type "Exception",.type "BaseException",.type "object"] "ValueError.__new__"=true)/\(mg "NoText"=some (.ref c1)/\excIn K c1 [.type "ValueError",.type "Exception",.type "BaseException",.type "object"] "ValueError.__new__"=true)/\(mg "NoName"=some (.ref c2)/\excIn K c2 [.type "ValueError",.type "Exception",.type "BaseException",.type "object"] "ValueError.__new__"=true)/\(mg "TooGreat"=some (.ref c3)/\excIn K c3 [.type "ValueError",.type "Exception",.type "BaseException",.type "object"] "ValueError.__new__"=true)/\mroIn K c1 (.ref c0)=some true/\mroIn K c1 (.ref c2)=some false/\mroIn K c1 (.ref c3)=some false/\mroIn K c2 (.ref c0)=some true/\mroIn K c2 (.ref c1)=some false/\mroIn K c2 (.ref c3)=some false/\mroIn K c3 (.ref c0)=some true/\mroIn K c3 (.ref c1)=some false/\mroIn K c3 (.ref c2)=some false/\(XQ K c0/\XD K c0)/\(XQ K c1/\XD K c1)/\(XQ K c2/\XD K c2)/\(XQ K c3/\XD K c3)
 c_MOST_FACTORS:∃t:Tok,mg "MOST_FACTORS"=some (.int 24 t)
 c_MOST_PARTS_powers:∃t:Tok,mg "MOST_PARTS_powers"=some (.int 24 t)
 c_MOST_SIGNS:∃t:Tok,mg "MOST_SIGNS"=some (.int 2000 t)
 c_MOST_FIGURES:∃t:Tok,mg "MOST_FIGURES"=some (.int 60 t)
 c_MOST_LETTERS:∃t:Tok,mg "MOST_LETTERS"=some (.int 8 t)
 c_MOST_BRACKETS:∃t:Tok,mg "MOST_BRACKETS"=some (.int 20 t)
 c_MOST_PARTS_readings:∃t:Tok,mg "MOST_PARTS_readings"=some (.int 400 t)
 c_MOST_DEEP:∃t:Tok,mg "MOST_DEEP"=some (.int 40 t)
 g_JOINING:∃a:Addr,mg "JOINING"=some (.ref a)/\E8 K a ["+","*","^"]
 z_ValueError:mg "ValueError"=none
 z_all:mg "all"=none
 z_bool:mg "bool"=none
 z_dict:mg "dict"=none
 z_int:mg "int"=none
 z_isinstance:mg "isinstance"=none
 z_len:mg "len"=none
 z_max:mg "max"=none
 z_range:mg "range"=none
 z_str:mg "str"=none
 z_sum:mg "sum"=none
 z_tuple:mg "tuple"=none
 z_zip:mg "zip"=none
section
variable {P:Program} {w:World} {K:yav} {mg:yew} {base:Heap} {f:Addr} {fd:FuncData}
set_option maxHeartbeats 0
noncomputable def AH:bA:=λws G q _=>∃a b:O,ws=[.tup (am a),.tup (am b)]/\a.dp<=60/\q (.int (O.cmp a b)) G
noncomputable def CQ:bA:=λws G q _=>∃a x:O,ws=[.tup (am a),.tup (am x)]/\a.NF/\a.dp<=60/\a.len<=30000/\q (.int (O.stay x a)) G
noncomputable def xI:bA:=λws G q _=>∃a b:O,ws=[.tup (am a),.tup (am b)]/\a.NF/\a.dp<=60/\b.dp<=60/\a.len<=30000/\b.len<=30000/\q (.tup (am (O.plusO a b))) G
noncomputable def nF:Int:=(10^1000)^8
theorem lj {i:Int} (h0:0<=i) (h:i<=nF):Wide i:=by
 have h1:nF=(((10^1000)^8:Nat):Int):=by unfold nF;rw[Int.natCast_pow,Int.natCast_pow];rfl
 have h2:((10:Nat)^1000)^8<=2^1048576:=by
  rw[←Nat.pow_mul];refine ycy (Nat.pow_le_pow_left (show 10<=2^4 by decide) _) ?_;rw[←Nat.pow_mul];exact Nat.pow_le_pow_right (by decide) (by decide)
 have h3:(2:Nat)^1048577=2^1048576*2:=Nat.pow_succ 2 1048576;have h4:0<(2:Nat)^1048576:=Nat.pow_pos (by decide);unfold Wide;rw[h3];rw[h1] at h;generalize (2:Nat)^1048576=c at h2 h4 ⊢;generalize ((10:Nat)^1000)^8=d at h h2
 (clear h1 h3;lia)
noncomputable def AI (a b:O):Prop:=(O.mx a<=nF/\O.mx b<=xi)∨(O.mx a<=xi/\O.mx b<=nF)
theorem Fa (F:cq K "compare" "compare" (ax 12) f fd):cu P w K mg base 1 f fd ["a","b"] AH:=by
 refine eM F (N:=["a","b"]) (by walk_at "s") (by walk_at "l") λ_ _ _ _ _ _ nd hr=>?_;apply aL
 ·exact(ae (aS (aA (bo hr) (aa 0) (aa 1)) (ae (aq af) ah) ah) (ae (aq (i9 (aA (gf hr) (aa 0) (aa 1)) (fm af) af)) ah))
 ·rintro ws G q e ⟨a,b,rfl,hx,hq⟩;walk_at "R";have h1:=jp a b;have hd:=bV a;rw[fA,h1.2];refine⟨aY a,aY b,by (clear h1;lia),?_⟩;rcases O.cmp_range a b with k | k | k
  ·rw[ycw (by simp;intro z;rw[z,O.cmp_self] at k;(clear hx h1 hd;lia)),ycv (by simp;(clear hx h1 hd;lia))];exact⟨cz a,cz b,kh a (by walk_at "om"),h1.1,aG.done (by rw[k] at hq;exact hq)⟩
  ·rw[ycv (by simpa using O.cmp_eq _ _ k)];exact aG.done (by rw[k] at hq;exact hq)
  ·rw[ycw (by simp;intro z;rw[z,O.cmp_self] at k;(clear hx h1 hd;lia)),ycw (by simp;(clear hx h1 hd;lia))];exact⟨cz a,cz b,kh a (by walk_at "om"),h1.1,aG.done (by rw[k] at hq;exact hq)⟩
theorem Fb (F:cq K "parts_above" "parts_above" (ax 19) f fd) (F1:Fx P w K mg base "compare" ["a","b"] 1 AH) (ml:mg "len"=none):cu P w K mg base 2 f fd ["a","exponent"] CQ:=by
 refine eM F (N:=["a","exponent","low","high","middle"]) (by walk_at "s") (by walk_at "l") λ_ _ _ _ _ _ nd hr=>?_;apply aL
 ·exact(ae (ay 2 nd rfl (.inl rfl) af) (ae (ay 3 nd rfl (.inl rfl) (aM bD rfl ml PySem.boot_len (ac (aa 0) ag))) (ae (eF PySem.PassesOwn.never (aA (gf hr) (aa 2) (aa 3)) (ae (ay 4 nd rfl (.inl rfl) (au ck (au aU (aa 2) (aa 3)) af)) (ae (aS (aA fQ (aB F1 (aw.mono hr (by lia)) rfl (ac (aE aF (aE aF (aa 0) (aa 4)) af) (ac (aa 1) ag))) af) (ae (ay 2 nd rfl (.inl rfl) (au aU (aa 4) af)) ah) (ae (ay 3 nd rfl (.inl rfl) (aa 4)) ah)) ah))) (ae (aq (aa 2)) ah))))
 ·rintro ws G q e ⟨a,x,rfl,hn,hx,hl,hq⟩;walk_at "a0";walk_at "a";rw[aJ];subst hU;refine aI λU hU=>?_;refine⟨λm τ G'=>G'=G/\∃(lo hi:Nat) (t4:Option W),τ=[some (.tup (am a)),some (.tup (am x)),some (.int (lo:Int)),some (.int (hi:Int)),t4]/\lo<=O.stay x a/\O.stay x a<=hi/\hi<=a.len/\m=hi-lo,⟨a.len,rfl,0,a.len,none,rfl,zero_le _,O.stay_le,ycx _,rfl⟩,?_⟩;rintro m τ G' ⟨rfl,lo,hi,t4,rfl,h1,h2,h3,rfl⟩;walk_at "R";split
  ·rename_i hlt;refine⟨λτ1 G1=>G1=G'/\∃(lo' hi':Nat) (t4:Option W),τ1=[some (.tup (am a)),some (.tup (am x)),some (.int (lo':Int)),some (.int (hi':Int)),t4]/\lo'<=O.stay x a/\O.stay x a<=hi'/\hi'<=a.len/\hi'-lo'<hi-lo,?_,?_⟩
   ·rintro τ1 G1 ⟨rfl,lo',hi',t4,rfl,k1,k2,k3,k4⟩;exact⟨_,k4,rfl,lo',hi',t4,rfl,k1,k2,k3,rfl⟩
   ·have em:((lo:Int)+hi)/2=(((lo+hi)/2:Nat):Int):=by (clear hx hl h1 h2 h3 hlt;lia)
    obtain⟨y,n,hp⟩:=O.getP_some (a:=a) (i:=(lo+hi)/2) (by (clear hx hl h1 h2;lia));rw[em];refine⟨_,eX hp,?_⟩;have hs:=O.getP_size hp;have hab:=O.above_iff (e:=x) hn hp;unfold cO eK;walk_at "R";refine⟨y,x,rfl,by (clear hl h1 h2 h3 hlt em hab;lia),?_⟩;walk_at "R";split
    ·rename_i hc;have:=hab.mp hc;exact⟨(lo+hi)/2+1,hi,_,rfl,by assumption,h2,h3,by (clear hx h1 h2 hs hab hc this;lia)⟩
    ·rename_i hc;have:=λz=>hc (hab.mpr z);exact⟨lo,(lo+hi)/2,_,rfl,h1,by (clear hx hl h1 h2 h3 hlt em hs;lia),by (clear hx hl h1 h2 hs hab hc;lia),by (clear hx h1 h2 hs hab hc;lia)⟩
  ·subst hU;walk_at "R";have:(lo:Int)=O.stay x a:=by (clear hx hl h3;lia)
   rw[this];exact aG.done hq
theorem Fc (F:cq K "plus" "plus" (ax 18) f fd) (F1:Fx P w K mg base "parts_above" ["a","exponent"] 2 CQ) (ml:mg "len"=none):cu P w K mg base 3 f fd ["a","b"] xI:=by
 refine eM F (N:=["a","b","exponent","stay","both"]) (by walk_at "s") (by walk_at "l") λ_ _ _ _ _ _ nd hr=>?_;apply aL
 ·exact(ae (aS (aA (bo hr) (aa 1) (aD ag)) (ae (aq (aa 0)) ah) ah) (ae (ay 2 nd rfl (.inl rfl) (aE aF (aE aF (aa 1) af) af)) (ae (ay 3 nd rfl (.inl rfl) (aB F1 (aw.mono hr (by lia)) rfl (ac (aa 0) (ac (aa 2) ag)))) (ae (aS (dX (de (aA (gf hr) (aa 3) (aM bD rfl ml PySem.boot_len (ac (aa 0) ag))) (dB (aA (bo hr) (aE aF (aE aF (aa 0) (aa 3)) af) (aa 2))))) (ae (ay 4 nd rfl (.inl rfl) (aD (ac (aa 2) (ac (au aU (aE aF (aE aF (aa 0) (aa 3)) af) (aE aF (aE aF (aa 1) af) af)) ag)))) (ae (aq (au aU (au aU (bw (aa 0) cI (bR (aa 3))) (aD (ac (aa 4) ag))) (bw (aa 1) (bR af) cI))) ah)) ah) (ae (aq (au aU (bw (aa 0) cI (bR (aa 3))) (aa 1))) ah)))))
 ·rintro ws G q e ⟨a,b,rfl,hn,hx,hy,hl,hl2,hq⟩;have hd:=bV b;walk_at "a0";refine⟨aY b,by (clear hx hl hl2;lia),?_⟩;rw[bP];cases b with
  | z=>
    rw[ycv (by simp)];exact aG.done hq
  | c e n r=>
    rw[ycw (by simp)];simp only[O.len] at hl2;have hde:e.dp<=60:=by simp only[O.dp] at hy;(clear hx hl hl2 hd;lia)
    subst hU;refine aI λU hU=>?_;rw[bp];unfold cO eK;walk_at "R";walk_at "a";refine⟨a,e,rfl,hn,hx,hl,?_⟩;subst hU;have hst:=O.stay_le (e:=e) (a:=a);have hsame:=O.same_stay (e:=e) hn;have htake:=O.take_stay (e:=e) hn;have e1:cQ (W.tup [W.tup (am e),W.int n]::am r) (some 1) none=am r:=by rw[show(1:Int)=((1:Nat):Int) from rfl,gQ];rfl
    have e2:cQ (am a) none (some (O.stay e a:Int))=am (O.filt (λx _=>decide (0<O.cmp x e)) a):=by rw[o9,ip,htake]
    have l1:=fE (λx _=>decide (0<O.cmp x e)) a;have hq':q (.tup (am (O.filt (λx _=>decide (0<O.cmp x e)) a)++(cO e (O.same e a+n)::am r))) G:=by
     rw[O.plus_c,fB,bp] at hq;exact hq
    refine aI λU hU=>?_;have other:O.same e a=0->U { nx:=λx G1=>∃G0,aG G0 G1/\q W.non G0,rt:=λw G1=>∃G0,aG G0 G1/\q w G0 } [some (W.tup (am a)),some (W.tup (W.tup [W.tup (am e),W.int n]::am r)),some (W.tup (am e)),some (W.int (O.stay e a)),none] G:=λhz=>by
     subst hU;walk_at "R";rw[e2];refine⟨by rw[aJ,aJ];(clear hx hy hd hde hst hsame htake e2 hz;lia),aG.done ?_⟩;rw[hz,Int.zero_add] at hq';exact hq'
    walk_at "R";rw[aJ];split
    ·rename_i hlt;obtain⟨y,m,hp⟩:=O.getP_some (a:=a) (i:=O.stay e a) (by (clear hx hl hy hl2 hd hde hst hsame htake e2 l1;lia));have hs:=O.getP_size hp;have hdy:=bV y;refine⟨_,eX hp,?_⟩;rw[hp] at hsame;have hsame':O.same e a=if y=e then m else 0:=hsame
     unfold cO eK;walk_at "R";refine⟨aY y,aY e,by (clear hl hy hl2 hd hde hst htake e2 l1 hlt hsame hsame';lia),?_⟩;rw[fA]
     by_cases hye:y=e
     ·rw[ycv (by simpa using hye)];refine⟨_,eX hp,?_⟩;unfold cO eK;walk_at "R";rw[e1,e2];rw[ycv hye] at hsame';refine⟨by rw[aJ];(clear hx hy hl2 hd hde hst htake e2 hlt hsame hs hdy hsame';lia),by rw[length_append,aJ,aJ];simp;(clear hx hy hd hde hst htake e2 hlt hsame hs hdy hsame';lia),aG.done ?_⟩;rw[hsame'] at hq';rw[append_assoc];exact hq'
     ·rw[ycw (by simpa using hye)];rw[ycw hye] at hsame';exact other hsame'
    ·rename_i hlt;rw[O.getP_none.mpr (by (clear hx hl hy hl2 hd hde hsame htake e2 l1;lia))] at hsame;exact other hsame
theorem jx:∀{a:O} {x:O} {n:Int},a.NF->O.last a=.c x n .z->O.same .z a=if x=.z then n else 0
 | .z,_,_,_,h=>by cases h
 | .c e m .z,x,n,ha,h=>by
   have:O.last (.c e m .z)=.c e m .z:=rfl;rw[this] at h;injection h with h1 h2 _
   subst h1 h2
   by_cases k:e=.z
   ·subst k;rw[ycv rfl,O.same_self ha.2.2.1]
   ·rw[ycw k,O.same_ne k];rfl
 | .c e m (.c e' m' r'),x,n,ha,h=>by
   have e0:O.last (.c e m (.c e' m' r'))=O.last (.c e' m' r'):=by simp[O.last]
   rw[e0] at h;have hne:e≠ .z:=λz=>by
    subst z;have:=ha.2.2.1.1;cases e'<;> simp[O.cmp] at this
   rw[O.same_ne hne];exact jx ha.2.2.2 h
theorem nG:∀{a:O},a.NF->O.same .z a=0->O.filt (λy _=>decide (¬y=.z)) a=a
 | .z,_,_=>rfl
 | .c e m r,ha,h=>by
   have hne:e≠ .z:=λz=>by
    subst z;rw[O.same_self ha.2.2.1] at h;have:=ha.2.1;lia
   rw[O.same_ne hne] at h;rw[O.filt_c,ycv (by simpa using hne),nG ha.2.2.2 h]
theorem jy:∀{a:O},a.NF->O.same .z a≠0->O.filt (λy _=>decide (¬y=.z)) a=O.init a
 | .z,_,h=>absurd rfl h
 | .c e m .z,ha,h=>by
   have:e=.z:=Classical.byContradiction λk=>h (by rw[O.same_ne k];rfl);subst this
   rfl
 | .c e m (.c e' m' r'),ha,h=>by
   have hne:e≠ .z:=λz=>by
    subst z;have:=ha.2.2.1.1;cases e'<;> simp[O.cmp] at this
   rw[O.same_ne hne] at h;have e0:O.init (.c e m (.c e' m' r'))=.c e m (O.init (.c e' m' r')):=by simp[O.init]
   rw[O.filt_c,ycv (by simpa using hne),jy ha.2.2.2 h,e0]
noncomputable def r6:bA:=λws G q _=>∃a:O,ws=[.tup (am a)]/\a.NF/\a.dp<=60/\q (.int (O.same .z a)) G
noncomputable def AJ:bA:=λws G q _=>∃a:O,ws=[.tup (am a)]/\a.NF/\a.dp<=60/\q (.tup (am (O.filt (λy _=>decide (¬y=.z)) a))) G
theorem Fd (F:cq K "whole_part" "whole_part" (ax 13) f fd):cu P w K mg base 1 f fd ["a"] r6:=by
 refine eM F (N:=["a"]) (by walk_at "s") (by walk_at "l") λ_ _ _ _ _ _ nd hr=>?_;apply aL
 ·exact(ae (aS (dX (d0 (aA (bo hr) (aa 0) (aD ag)) (dc (aA (gW hr) (aE aF (aE aF (aa 0) (fm af)) af) (aD ag))))) (ae (aq af) ah) ah) (ae (aq (aE aF (aE aF (aa 0) (fm af)) af)) ah))
 ·rintro ws G q e ⟨a,rfl,ha,hd,hq⟩;have hd2:=bV a;walk_at "R";refine⟨aY a,by walk_at "om",?_⟩;rw[bP]
  by_cases hz:a=.z
  ·subst hz;rw[ycv (by simp)];exact aG.done hq
  ·rw[ycw (by simpa using hz)];obtain⟨x,n,h1,h2⟩:=pe hz;have hw:=jx ha h1;have hs:=O.getP_size h2;have hdx:=bV x;refine⟨_,eY h2,?_⟩;unfold cO eK;walk_at "R";refine⟨aY x,by (clear hd2 hw;lia),?_⟩;rw[bP]
   by_cases hx:x=.z
   ·rw[ycw (by simpa using hx)];rw[ycv hx] at hw;have h3:=eY h2;unfold cO eK at h3;refine⟨_,h3,?_⟩;walk_at "R";rw[hw] at hq;exact aG.done hq
   ·rw[ycv (by simpa using hx)];rw[ycw hx] at hw;rw[hw] at hq;exact aG.done hq
theorem Fe (F:cq K "without_whole" "without_whole" (ax 14) f fd) (F1:Fx P w K mg base "whole_part" ["a"] 1 r6):cu P w K mg base 2 f fd ["a"] AJ:=by
 refine eM F (N:=["a"]) (by walk_at "s") (by walk_at "l") λ_ _ _ _ _ _ nd hr=>?_;apply aL
 ·exact(ae (aS (aA (bo hr) (aB F1 (aw.mono hr (by lia)) rfl (ac (aa 0) ag)) af) (ae (aq (aa 0)) ah) ah) (ae (aq (bw (aa 0) cI (bR (fm af)))) ah))
 ·rintro ws G q e ⟨a,rfl,ha,hd,hq⟩;walk_at "R";refine⟨a,rfl,ha,hd,?_⟩;walk_at "R";split
  ·rename_i h;rw[nG ha h] at hq;exact aG.done hq
  ·rename_i h;rw[jy ha h] at hq;rw[m9];exact aG.done hq
noncomputable def jL (e:O):O->O
 | .z=> .z
 | .c f d t=> .c (O.plusO e f) d (jL e t)
theorem kx (e:O):∀b:O,mapP (λ_ _=>true) (λx m=>cO (O.plusO e x) m) b=am (jL e b)
 | .z=>rfl
 | .c f d t=>by rw[mapP,ycv rfl,kx e t];rfl
theorem nH (e:O):∀b:O,(jL e b).len=b.len
 | .z=>rfl
 | .c f d t=>by simp only[jL,O.len,nH e t]
theorem ky {e:O} {n:Int} {r:O}:∀{b:O},b.NF->O.mulP e n r b=O.app (jL e (O.filt (λy _=>decide (¬y=.z)) b)) (if O.same .z b=0 then .z else .c e (n*O.same .z b) r)
 | .z,_=>rfl
 | .c f d t,hb=>by
   rw[O.mulP_c,O.filt_c]
   by_cases k:f=.z
   ·subst k;have hd:=hb.2.1;rw[ycv rfl,ycw (by simp),O.Lt_z hb.2.2.1,O.same_self (r:= .z) trivial,ycw (by walk_at "om")]
    rfl
   ·rw[ycw k,ycv (by simpa using k),O.same_ne k,ky hb.2.2.2]
    rfl
noncomputable def pp:bA:=λws G q _=>∃a b:O,ws=[.tup (am a),.tup (am b)]/\a.NF/\b.NF/\a.dp<=50/\b.dp<=50/\O.hw a<=15000/\O.hw b<=15000/\AI a b/\q (.tup (am (O.timesO a b))) G
theorem Ff (F:cq K "times" "times" (ax 23) f fd) (F1:Fx P w K mg base "whole_part" ["a"] 1 r6) (F2:Fx P w K mg base "without_whole" ["a"] 2 AJ) (F3:Fx P w K mg base "plus" ["a","b"] 3 xI) (mt:mg "tuple"=none):cu P w K mg base 4 f fd ["a","b"] pp:=by
 refine eM F (N:=["a","b","exponent","parts","many"]) (by walk_at "s") (by walk_at "l") λ_ _ _ _ _ _ nd hr=>?_;apply aL
 ·exact(ae (aS (dX (d0 (aA (bo hr) (aa 0) (aD ag)) (dc (aA (bo hr) (aa 1) (aD ag))))) (ae (aq (aD ag)) ah) ah) (ae (ay 2 nd rfl (.inr rfl) (aE aF (aE aF (aa 0) af) af)) (ae (iO 3 (cL (by first | rfl | decide+kernel)) rfl nd rfl (.inl rfl) (bv (aB F2 (aw.mono hr (by lia)) rfl (ac (aa 1) ag))) (λ_ _ _ _=>(bO 1 (by first | assumption | decide+kernel | rfl) rfl (.inl rfl))) (λ_ _ _ _=>cS) (λ_ _ _ _=>(aD (ac (aB F3 (aw.mono hr (by lia)) rfl (ac (aa 3 rfl (.inr (.inl rfl))) (ac (aE aF (aa 1) af) ag))) (ac (aE aF (aa 1) af) ag))))) (ae (ay 4 nd rfl (.inl rfl) (aB F1 (aw.mono hr (by lia)) rfl (ac (aa 1) ag))) (ae (aS (aA (bo hr) (aa 4) af) (ae (aq (ce gE rfl mt d6 (ac (aa 3) ag))) ah) ah) (ae (aq (au aU (au aU (ce gE rfl mt d6 (ac (aa 3) ag)) (aD (ac (aD (ac (aa 2 rfl (.inr (.inl rfl))) (ac (au ir (aE aF (aE aF (aa 0) af) af) (aa 4)) ag))) ag))) (bw (aa 0) (bR af) cI))) ah))))))
 ·rintro ws G q e ⟨a,b,rfl,na,nb,da,db,sa,sb,mu,hq⟩;have hda:=bV a;have hdb:=bV b;have la:=O.len_le_hw a;have lb:=O.len_le_hw b;walk_at "a0";refine⟨aY a,by (clear db sa sb hdb la lb;lia),?_⟩;rw[bP];cases a with
  | z=>
    rw[ycv (by simp)];exact aG.done hq
  | c e n r=>
    rw[ycw (by simp)];refine⟨aY b,by (clear sb lb da sa hda la;lia),?_⟩;rw[bP]
    by_cases hb0:b=.z
    ·subst hb0;rw[ycv (by simp)];exact aG.done hq
    ·rw[ycw (by simpa using hb0)];subst hU;rw[O.hw_c] at sa;simp only[O.dp,O.len] at da la;have le1:=O.len_le_hw e;have lr1:=O.len_le_hw r;rw[bp];unfold cO eK;walk_at "a0";walk_at "a";refine⟨b,rfl,nb,by walk_at "om",?_⟩;walk_at "R";show cf _ _ _ _ _ [none,none,none,some (W.tup (am e))] G [] _;have lf:=fE (λy _=>decide (¬y=O.z)) b;have df:=O.dp_filt (λy _=>decide (¬y=O.z)) b;have sf:=O.hw_filt (λy _=>decide (¬y=O.z)) b;refine cg (λ_ _=>true) (λx m=>cO (O.plusO e x) m) trivial (fM _) (λy m hy k hk=>?_) (λy m hy _ k hk=>?_) (by rw[length_nil];(clear db hdb da sa hda la le1 lr1 df sf;lia)) (λ_=>rfl) λp1 hp1=>?_
     ·walk_at "R";exact hk
     ·have ly:=O.len_le_hw y;unfold cO eK at hk ⊢;walk_at "R";exact⟨e,y,rfl,na.1,by (clear db sb hdb lb sa hda la le1 lf df sf hy ly;lia),by (clear sb hdb lb da sa hda la le1 lr1 lf sf ly;lia),by (clear db sb hdb lb da hda la lf df sf hy ly;lia),by (clear db hdb lb da sa hda la le1 lr1 lf df;lia),hk⟩
     rw[nil_append,kx];have hG1:=al (G:=G) (a:=p1) (g:=GO.lst (am (jL e (O.filt (λy _=>decide (¬y=O.z)) b))));have le:aG G (aQ G p1 (GO.lst (am (jL e (O.filt (λy _=>decide (¬y=O.z)) b))))):=aG.new hp1;generalize aQ G p1 (GO.lst (am (jL e (O.filt (λy _=>decide (¬y=O.z)) b))))=G1 at hG1 le ⊢;walk_at "a";refine⟨b,rfl,nb,by walk_at "om",?_⟩;have hsp:O.timesO (.c e n r) b=_:=ky (e:=e) (n:=n) (r:=r) nb;rw[hsp] at hq;have hn:=na.2.1;have hsm:=O.same_le_mx .z nb;have hs0:=O.same_nonneg .z nb;have hnm:=O.mx_hn (e:=e) (n:=n) (r:=r);have mulOk:js n (O.same .z b):=by
      rcases mu with⟨m1,m2⟩ | ⟨m1,m2⟩
      ·exact .inr (.inl ⟨lj (by (clear db sb hdb lb da sa hda la le1 lr1 lf df sf hsp hsm hs0 hnm m1 m2;lia)) (ydv hnm m1),qr hs0 (ydv hsm m2)⟩)
      ·exact .inr (.inr ⟨qr (by (clear db sb hdb lb da sa hda la le1 lr1 lf df sf hsp hsm hs0 hnm m1 m2;lia)) (ydv hnm m1),lj hs0 (ydv hsm m2)⟩)
     have lm:=nH e (O.filt (λy _=>decide (¬y=O.z)) b);walk_at "a";split
     ·rename_i h0;refine⟨_,hG1,G,le,?_⟩;rw[ycv h0] at hq;have:O.app (jL e (O.filt (λy _=>decide (¬y=O.z)) b)) .z=jL e (O.filt (λy _=>decide (¬y=O.z)) b):=mZ (by rw[fB,Ao,append_nil]);rw[this] at hq;exact hq
     ·rename_i h0;rw[ycw h0,fB,bp] at hq;subst hU;have e1:cQ (W.tup [W.tup (am e),W.int n]::am r) (some 1) none=am r:=by rw[show(1:Int)=((1:Nat):Int) from rfl,gQ];rfl
      walk_at "R";rw[e1];refine⟨_,hG1,mulOk,by rw[aJ,lm];(clear db hdb da sa hda la le1 lr1 df sf hsp hn hsm hs0 hnm h0;lia),by rw[length_append,aJ,aJ,length_cons,length_nil,lm];(clear db hdb da hda la le1 lr1 df sf hsp hn hsm hnm;lia),G,le,?_⟩;rw[append_assoc];exact hq
noncomputable def CS:bA:=λws G q _=>∃a b:O,ws=[.tup (am a),.tup (am b)]/\a.dp<=60/\q (.int (O.alike a b:Nat)) G
theorem Fh (F:cq K "parts_alike" "parts_alike" (ax 21) f fd) (ml:mg "len"=none):cu P w K mg base 1 f fd ["a","b"] CS:=by
 refine eM F (N:=["a","b","alike"]) (by walk_at "s") (by walk_at "l") λ_ _ _ _ _ _ nd hr=>?_;apply aL
 ·exact(ae (ay 2 nd rfl (.inl rfl) af) (ae (eF PySem.PassesOwn.never (dX (de (aA (gf hr) (aa 2) (aM bD rfl ml PySem.boot_len (ac (aa 0) ag))) (de (aA (gf hr) (aa 2) (aM bD rfl ml PySem.boot_len (ac (aa 1) ag))) (dB (aA (bo hr) (aE aF (aa 0) (aa 2)) (aE aF (aa 1) (aa 2))))))) (ae (ay 2 nd rfl (.inl rfl) (au aU (aa 2) af)) ah)) (ae (aq (aa 2)) ah)))
 ·rintro ws G q e ⟨a,b,rfl,hd,hq⟩;have hle:=O.alike_le a b;walk_at "a0";subst hU;refine aI λU hU=>?_;refine jq (λm τ G'=>G'=G/\∃i:Nat,τ=[some (.tup (am a)),some (.tup (am b)),some (.int (i:Int))]/\i<=O.alike a b/\m=a.len-i) ⟨_,rfl,0,rfl,zero_le _,rfl⟩ ?_;rintro m τ G' ⟨rfl,i,rfl,hi,rfl⟩ B hB;have stop:i=O.alike a b->U { nx:=λx G1=>∃G0,aG G0 G1/\q W.non G0,rt:=λw G1=>∃G0,aG G0 G1/\q w G0 } [some (.tup (am a)),some (.tup (am b)),some (.int (i:Int))] G':=λh=>by
   subst hU;walk_at "R";rw[h];exact aG.done hq
  walk_at "R";rw[aJ,aJ];split
  ·rename_i h1;split
   ·rename_i h2;obtain⟨x,n,hp⟩:=O.getP_some (a:=a) (i:=i) (by (clear hd hle hi h2;lia));obtain⟨x',n',hp'⟩:=O.getP_some (a:=b) (i:=i) (by (clear hd hle hi h1;lia));have hs:=O.getP_size hp;have hat:=O.alike_at hp hp' hi;have pd:=wN x n;refine⟨_,eX hp,_,eX hp',?_⟩;refine⟨kd x n,kd x' n',by (clear hle hi h1 h2 hat;lia),?_⟩;rw[ur];dsimp only
    by_cases hh:x=x'/\n=n'
    ·rw[ycv (by simpa using hh)];refine⟨λτ1 G1=>G1=G'/\τ1=[some (.tup (am a)),some (.tup (am b)),some (.int ((i+1:Nat):Int))],?_,?_⟩
     ·rintro τ1 G1 ⟨rfl,rfl⟩;have:=hat.mpr hh;exact⟨a.len- (i+1),by (clear hd hle hi h2 hs hat pd hh this;lia),rfl,i+1,rfl,by assumption,rfl⟩
     ·subst hB;walk_at "R"
      rfl
    ·rw[ycw (by simpa using hh)];have:¬i<O.alike a b:=λk=>hh (hat.mp k);exact stop (by (clear hd hle h1 h2 hs hat pd hh;lia))
   ·exact stop (by (clear hd h1;lia))
  ·exact stop (by (clear hd;lia))
noncomputable def CT:bA:=λws G q _=>∃a b:O,ws=[.tup (am a),.tup (am b)]/\O.cmp b a<=0/\a.dp<=60/\b.dp<=60/\a.len<=5000/\q (.tup (am (O.minusO a b))) G
theorem Fi (F:cq K "minus" "minus" (ax 20) f fd) (F1:Fx P w K mg base "compare" ["a","b"] 1 AH) (F2:Fx P w K mg base "parts_alike" ["a","b"] 1 CS) (ml:mg "len"=none):cu P w K mg base 2 f fd ["a","b"] CT:=by
 refine eM F (N:=["a","b","alike","rest"]) (by walk_at "s") (by walk_at "l") λ_ _ _ _ _ _ nd hr=>?_;apply aL
 ·exact(ae (aS (aA fQ (aB F1 (aw.mono hr (by lia)) rfl (ac (aa 1) (ac (aa 0) ag))) af) (ae mo ah) ah) (ae (ay 2 nd rfl (.inl rfl) (aB F2 (aw.mono hr (by lia)) rfl (ac (aa 0) (ac (aa 1) ag)))) (ae (ay 3 nd rfl (.inl rfl) (bw (aa 0) (bR (aa 2)) cI)) (ae (aS (dX (d0 (aA (bo hr) (aa 2) (aM bD rfl ml PySem.boot_len (ac (aa 1) ag))) (dc (aA (gW hr) (aE aF (aE aF (aa 3) af) af) (aE aF (aE aF (aa 1) (aa 2)) af))))) (ae (aq (aa 3)) ah) ah) (ae (aq (au aU (aD (ac (aD (ac (aE aF (aE aF (aa 3) af) af) (ac (au lY (aE aF (aE aF (aa 3) af) af) (aE aF (aE aF (aa 1) (aa 2)) af)) ag))) ag)) (bw (aa 3) (bR af) cI))) ah)))))
 ·rintro ws G q e ⟨a,b,rfl,hc,hd,hd2,hl,hq⟩;have hle:=O.alike_le a b;walk_at "a0";refine⟨b,a,rfl,hd2,?_⟩;walk_at "R";rw[ycw (by (clear hd hd2 hl hle;lia))];walk_at "a";refine⟨a,b,rfl,hd,?_⟩;walk_at "a";rw[gQ,io];walk_at "a";rw[aJ]
  by_cases hb:O.alike a b=b.len
  ·rw[ycv (by (clear hc hd hd2 hl hle;lia))];rw[O.minus_end hb] at hq;exact aG.done hq
  ·rw[ycw (by (clear hc hd hd2 hl hle;lia))];obtain⟨x,n,x',n',h1,h2,h3⟩:=O.alike_more hc (by (clear hc hd hd2 hl;lia));have hdr:=O.dropO_get h1;have hs:=O.getP_size h1;have hdx:=bV x;have lend:=O.len_dropO (O.alike a b+1) a;rw[hdr,bp];unfold cO eK;walk_at "R";refine⟨_,eX h2,?_⟩;unfold cO eK;walk_at "R";refine⟨aY x,aY x',by (clear hc hd2 hl hle hb lend;lia),?_⟩;rw[fA]
   by_cases hx:x=x'
   ·rw[ycw (by simpa using hx)];rw[h3,ycv hx,bp] at hq;subst hU;have e1:cQ (W.tup [W.tup (am x),W.int n]::am (O.dropO (O.alike a b+1) a)) (some 1) none=am (O.dropO (O.alike a b+1) a):=by rw[show(1:Int)=((1:Nat):Int) from rfl,gQ];rfl
    walk_at "R";refine⟨_,eX h2,?_⟩;unfold cO eK;walk_at "R";rw[e1,aJ];exact⟨by (clear hc hd hd2 hle hb hs hdx;lia),aG.done hq⟩
   ·rw[ycv (by simpa using hx)];rw[h3,ycw hx,hdr,bp] at hq;exact aG.done hq
noncomputable def CU:bA:=λws G q _=>∃n k:Int,ws=[.int n,.int k]/\q (.bl (decide (k<=n))) G
theorem scWh:bg ["thing","least"] ["thing","least"] (ak (ax 8)):=by walk_at "s"
theorem Fj {T:Addr} {ds:yez} (F:gs K "is_whole" "is_whole" (ax 8) f fd T ds) (mi:mg "isinstance"=none) (mn:mg "int"=none) (mb:mg "bool"=none):cu P w K mg base 1 f fd ["thing","least"] CU:=by
 have nd:=scWh.nd;refine B9 F scWh (λws G q e h=>by obtain⟨_,_,rfl,_⟩:=h;rfl) (λcdv A outer s H E hr=>?_);apply aL
 ·exact(ae (aq (i8 (gm (T:="int") (x:="int") (by first | simp[jF] | assumption | decide+kernel) PyProof.Rows.boot_int mn rfl mi rfl (aa 0)) (i8 (zJ (gm (T:="bool") (x:="bool") (by first | simp[jF] | assumption | decide+kernel) PyProof.Rows.boot_bool mb rfl mi rfl (aa 0))) (i7 (cv v0 (aa 0) (aa 1)))))) ah)
 ·rintro ws G q e ⟨n,k,rfl,hq⟩;walk_at "R";exact aG.done hq
noncomputable def uN:bA:=λws G q _=>∃(x:O) (n:Int),ws=[.tup (am x),.int n]/\0<=n/\q (.tup (am (if n=0 then .z else .c x n .z))) G
theorem scRs:bg ["exponent","times"] ["exponent","times"] (ak (ax 11)):=by walk_at "s"
theorem CV {T:Addr} {ds:yez} (F:gs K "raised" "raised" (ax 11) f fd T ds) (F1:Ca P w K mg base "is_whole" ["thing","least"] 1 CU [.int 0]):cu P w K mg base 2 f fd ["exponent","times"] uN:=by
 have nd:=scRs.nd;refine B9 F scRs (λws G q e h=>by obtain⟨_,_,rfl,_⟩:=h;rfl) (λcdv A outer s H E hr=>?_);apply aL
 ·exact(ae (aS (dP (bS (kN F1 (aw.mono hr (by lia)) rfl (ac (aa 1) ag)))) (ae mo ah) ah) (ae (aS (aA (bo hr) (aa 1) af) (ae (aq (aD ag)) ah) ah) (ae (aq (aD (ac (aD (ac (aa 0) (ac (aa 1) ag))) ag))) ah)))
 ·rintro ws G q e ⟨x,n,rfl,hn,hq⟩;walk_at "R";refine⟨n,0,rfl,?_⟩;walk_at "R";rw[ycw (by walk_at "om")];split
  ·rename_i h;rw[ycv h] at hq;exact aG.done hq
  ·rename_i h;rw[ycw h,bp] at hq;exact aG.done hq
noncomputable def r9:bA:=λws G q _=>∃n:Int,ws=[.int n]/\0<=n/\q (.tup (am (O.wh n))) G
theorem Fk (F:cq K "whole" "whole" (ax 9) f fd) (F1:Fx P w K mg base "raised" ["exponent","times"] 2 uN):cu P w K mg base 3 f fd ["n"] r9:=by
 refine eM F (N:=["n"]) (by walk_at "s") (by walk_at "l") λ_ _ _ _ _ _ nd hr=>?_;apply aL
 ·exact(ae (aq (aB F1 (aw.mono hr (by lia)) rfl (ac (aD ag) (ac (aa 0) ag)))) ah)
 ·rintro ws G q e ⟨n,rfl,hn,hq⟩;walk_at "R";exact⟨.z,n,rfl,hn,aG.done hq⟩
theorem qC:∀{a:O},a.NF->O.Lm a->jK (λe _=>e.NF/\e≠ .z/\e.dp<a.dp/\O.hw e<=O.hw a) a
 | .z,_,_=>trivial
 | .c e n r,h,l=>by
   refine⟨⟨h.1,l.1,by simp only[O.dp];lia,by rw[O.hw_c];lia⟩,?_⟩;refine jK.imp (λe' _ ⟨h1,h2,h3,h4⟩=>⟨h1,h2,?_,?_⟩) (qC h.2.2.2 l.2)
   ·simp only[O.dp];(clear h3 h4;lia)
   ·rw[O.hw_c];(clear h3 h4;lia)
theorem kz:∀a:O,mapP (λ_ _=>true) (λe n=>cO (O.minusO e O.one) n) a=am (O.decr a)
 | .z=>rfl
 | .c e n r=>by rw[mapP,ycv rfl,kz r];rfl
theorem pq:(10:Int)^301<=xi:=by decide+kernel
theorem nI {a:O} {n:Nat} (ha:a.NF) (hm:O.mx a<10^301) (hn:n<=24):O.mx (O.npow a n)<=nF:=by
 have h1:=O.npow_mx ha (Int.le_of_lt hm) n;have m0:=O.mx_nonneg a;have h5:=O.ipow_mono (B:=(10:Int)^301+2) (by decide+kernel) (n:=n) (24-n);rw[show n+(24-n)=24 by (clear hm h1 m0 h5;lia)] at h5;have h6:2*((10:Int)^301+2)^24<=nF:=by decide+kernel
 have h7:2*((10:Int)^301+2)^n<=2*((10:Int)^301+2)^24:=Int.mul_le_mul_of_nonneg_left h5 (by decide);generalize 2*((10:Int)^301+2)^24=B at h6 h7;generalize 2*((10:Int)^301+2)^n=D at h1 h7
 (clear hm hn m0 h5;lia)
theorem xJ:xi<=nF:=by decide+kernel
theorem xK {a b:O} (h1:O.mx a<10^301) (h2:O.mx b<10^301):AI a b:= .inl ⟨ydv (ydv (Int.le_of_lt h1) pq) xJ,ydv (Int.le_of_lt h2) pq⟩
noncomputable def CW:bA:=λws G q _=>∃(a:O) (n:Nat),ws=[.tup (am a),.int (n:Int)]/\a.NF/\n<=24/\a.dp<=48/\O.hw a<=410/\O.mx a<10^301/\q (.tup (am (O.npow a n))) G
theorem Fm (F:cq K "whole_power" "whole_power" (ax 32) f fd) (F1:Fx P w K mg base "times" ["a","b"] 4 pp) (F2:Fx P w K mg base "whole" ["n"] 3 r9) (mr:mg "range"=none):cu P w K mg base 5 f fd ["a","n"] CW:=by
 refine eM F (N:=["a","n","found","step"]) (by walk_at "s") (by walk_at "l") λ_ _ _ _ _ _ nd hr=>?_;apply aL
 ·exact(ae (ay 2 nd rfl (.inl rfl) (aB F2 (aw.mono hr (by lia)) rfl (ac af ag))) (ae (cR PySem.PassesOwn.never rfl (fi rfl mr (ac (aa 1) ag)) (bI 3 nd rfl (.inl rfl)) (ae (ay 2 nd rfl (.inl rfl) (aB F1 (aw.mono hr (by lia)) rfl (ac (aa 2) (ac (aa 0) ag)))) ah)) (ae (aq (aa 2)) ah)))
 ·rintro ws G q e ⟨a,n,rfl,ha,hn,hd,hw,hm,hq⟩;walk_at "a0";refine⟨1,rfl,by (clear hn hd hw hm;lia),?_⟩;walk_at "a";refine⟨by lia,by lia,?_⟩;have hc:=Aw;have hpc:=xj;refine iQ (n:Int).toNat (λi τ G'=>G'=G/\∃t3,τ=[some (.tup (am a)),some (.int (n:Int)),some (.tup (am (O.npow a i))),t3]) ⟨rfl,_,rfl⟩ ?_ ?_
  ·rintro τ G' ⟨rfl,t3,rfl⟩;refine⟨trivial,?_⟩;subst hU;walk_at "R";exact aG.done hq
  ·rintro i τ G' kk hi ⟨rfl,t3,rfl⟩ hk;refine⟨trivial,?_⟩;have h1:=O.npow_hw a i;have h2:=O.npow_dp a i;have h4:i*O.hw a<=24*410:=Nat.mul_le_mul (by (clear hd hw hm hc hpc h1 h2;lia)) hw;walk_at "R";refine⟨_,a,rfl,ha.npow i,ha,by (clear hn hw hm hc hpc hi h1 h4;lia),by walk_at "om",by (clear hn hd hw hm hc hpc hi h2;lia),by walk_at "om",.inl ⟨nI ha hm (by (clear hd hw hm hc hpc h1 h2 h4;lia)),ydv (Int.le_of_lt hm) pq⟩,?_⟩;exact hk _ _ ⟨rfl,_,rfl⟩
noncomputable def CY:bA:=λws G q _=>∃(e:O) (n:Int) (r L:O),ws=[.tup (am (.c e n r)),.tup (am L)]/\e.NF/\L.NF/\O.Lm L/\e.dp<=48/\L.dp<=48/\O.hw e<=500/\O.hw L<=500/\O.mx e<10^301/\O.mx L<10^301/\q (.tup (am (O.endP e L))) G
theorem Fn (F:cq K "endless_power" "endless_power" (ax 31) f fd) (F1:Fx P w K mg base "times" ["a","b"] 4 pp) (F2:Fx P w K mg base "whole" ["n"] 3 r9) (F3:Fx P w K mg base "minus" ["a","b"] 2 CT) (F4:Ca P w K mg base "raised" ["exponent","times"] 2 uN [.int 1]) (mt:mg "tuple"=none):cu P w K mg base 5 f fd ["a","limit"] CY:=by
 refine eM F (N:=["a","limit"]) (by walk_at "s") (by walk_at "l") λ_ _ _ _ _ _ nd hr=>?_;apply aL
 ·exact(ae (aS (aA (bo hr) (aE aF (aE aF (aa 0) af) af) (aD ag)) (ae (aq (kN F4 (aw.mono hr (by lia)) rfl (ac (ce gE rfl mt d6 (ac (cU (cL (by first | rfl | decide+kernel)) rfl (bv (aa 1)) (λ_ _ _ _=>(bO 1 (by first | assumption | decide+kernel | rfl) rfl (.inl rfl))) (λ_ _ _ _=>cS) (λ_ _ _ _=>(aD (ac (aB F3 (aw.mono hr (by lia)) rfl (ac (aE aF (aa 1) af) (ac (aB F2 (aw.mono hr (by lia)) rfl (ac af ag)) ag))) (ac (aE aF (aa 1) af) ag))))) ag)) ag))) ah) ah) (ae (aq (kN F4 (aw.mono hr (by lia)) rfl (ac (aB F1 (aw.mono hr (by lia)) rfl (ac (aE aF (aE aF (aa 0) af) af) (ac (aa 1) ag))) ag))) ah))
 ·rintro ws G q e0 ⟨e,n,r,L,rfl,he,hL,hl,hde,hdL,hwe,hwL,hme,hmL,hq⟩;have hdx:=bV e;have ll:=O.len_le_hw L;rw[bp];unfold cO eK;walk_at "a0";refine⟨aY e,by (clear hdL hwe hwL hme hmL ll;lia),?_⟩;rw[bP];unfold O.endP at hq
  by_cases h:e=.z
  ·rw[ycv (by simpa using h)];rw[ycv h] at hq;show cf _ _ _ _ _ [none,none,none,none] G [] _;refine cg (λ_ _=>true) (λx m=>cO (O.minusO x O.one) m) trivial (qC hL hl) (λy m hy k hk=>?_) (λy m hy _ k hk=>?_) (by rw[length_nil];(clear hde hdL hwe hme hmL hdx;lia)) (λ_=>rfl) λp1 hp1=>?_
   ·walk_at "R";exact hk
   ·have ly:=O.len_le_hw y;unfold cO eK at hk ⊢;walk_at "R";exact⟨1,rfl,by (clear hde hdL hwe hwL hme hmL hdx ll hy ly;lia),y,O.one,rfl,O.one_le_ne hy.1 hy.2.1,by (clear hde hwe hwL hme hmL hdx ll ly;lia),by decide,by (clear hde hdL hwe hme hmL hdx ll;lia),hk⟩
   rw[nil_append,kz];refine⟨_,al,O.decr L,1,rfl,by (clear hde hdL hwe hwL hme hmL hdx ll;lia),G,aG.new hp1,?_⟩;rw[ycw (by (clear hde hdL hwe hwL hme hmL hdx ll;lia))];exact hq
  ·rw[ycw (by simpa using h)];rw[ycw h] at hq;subst hU;walk_at "R";refine⟨e,L,rfl,he,hL,by walk_at "om",by walk_at "om",by walk_at "om",by walk_at "om",xK hme hmL,_,1,rfl,by (clear hde hdL hwe hwL hme hmL hdx ll;lia),?_⟩;rw[ycw (by (clear hde hdL hwe hwL hme hmL hdx ll;lia))];exact aG.done hq
noncomputable def CZ:bA:=λws G q _=>∃(e:O) (n:Int) (b:O),ws=[cO e n,.tup (am b)]/\e.NF/\b.NF/\1<=n/\e.dp<=48/\b.dp<=48/\O.hw e<=1000/\O.hw b<=1000/\O.mx e<10^301/\O.mx b<10^301/\q (.tup (am (.c (O.timesO e b) (if 0<O.same .z b then n else 1) .z))) G
theorem Fo (F:cq K "power_of_part" "power_of_part" (ax 28) f fd) (F1:Fx P w K mg base "whole_part" ["a"] 1 r6) (F2:Fx P w K mg base "times" ["a","b"] 4 pp) (F3:Fx P w K mg base "raised" ["exponent","times"] 2 uN):cu P w K mg base 5 f fd ["part","b"] CZ:=by
 refine eM F (N:=["part","b","many"]) (by walk_at "s") (by walk_at "l") λ_ _ _ _ _ _ nd hr=>?_;apply aL
 ·exact(ae (ay 2 nd rfl (.inl rfl) (i9 (aA fQ (aB F1 (aw.mono hr (by lia)) rfl (ac (aa 1) ag)) af) (aE aF (aa 0) af) af)) (ae (aq (aB F3 (aw.mono hr (by lia)) rfl (ac (aB F2 (aw.mono hr (by lia)) rfl (ac (aE aF (aa 0) af) (ac (aa 1) ag))) (ac (aa 2) ag)))) ah))
 ·rintro ws G q e0 ⟨e,n,b,rfl,ne,nb,hn,hde,hdb,hwe,hwb,hme,hmb,hq⟩;unfold cO eK;refine aI λU hU=>?_;have fin:∀k:Int,1<=k->k=(if 0<O.same .z b then n else 1)->U { nx:=λx G1=>∃G0,aG G0 G1/\q W.non G0,rt:=λw G1=>∃G0,aG G0 G1/\q w G0 } [some (.tup [.tup (am e),.int n]),some (.tup (am b)),some (.int k)] G:=λk hk ek=>by
   subst hU;walk_at "R";refine⟨e,b,rfl,ne,nb,by walk_at "om",by walk_at "om",by walk_at "om",by walk_at "om",xK hme hmb,_,k,rfl,by (clear hn hde hdb hwe hwb hme hmb;lia),?_⟩;rw[ycw (by (clear hn hde hdb hwe hwb hme hmb;lia)),ek];exact aG.done hq
  walk_at "R";refine⟨b,rfl,nb,by walk_at "om",?_⟩;walk_at "R";split
  ·rename_i h;exact fin n hn (by rw[ycv h])
  ·rename_i h;exact fin 1 (by (clear hn hde hdb hwe hwb hme hmb h;lia)) (by rw[ycw h])
theorem qD:∀a:O,∃ns:List Int,mapP (λ_ _=>true) (λ_ n=> .int n) a=ns.map W.int/\ns.length=a.len/\(∀x,x∈ns->x<=O.ot a)/\(a.NF->a≠ .z->O.ot a∈ns)
 | .z=>⟨[],rfl,rfl,λx h=>(by cases h),λ_ h=>absurd rfl h⟩
 | .c e n r=>by
   obtain⟨ns,h1,h2,h3,h4⟩:=qD r;refine⟨n::ns,by rw[mapP,ycv rfl,h1];rfl,by simp[O.len,h2],λx hx=>?_,λhn _=>?_⟩
   ·rw[O.ot_c];rcases mem_cons.mp hx with rfl | h
    ·(clear h2;lia)
    ·have:=h3 x h;(clear h2;lia)
   ·rw[O.ot_c]
    by_cases hr:r=.z
    ·subst hr;have h0:O.ot .z<=n:=ydv (by decide) hn.2.1;rw[show max n (O.ot .z)=n by (clear h2;lia)];exact yby
    ·rcases Int.le_total n (O.ot r) with h | h
     ·rw[show max n (O.ot r)=O.ot r by (clear h2;lia)];exact ybx _ (h4 hn.2.2.2 hr)
     ·rw[show max n (O.ot r)=n by (clear h2;lia)];exact yby
noncomputable def yJ (a b:O):Prop:=24<O.same .z b∨24<a.len∨10^60<=O.ot a
noncomputable instance (a b:O):Decidable (yJ a b):=by unfold yJ;infer_instance
noncomputable def C0:bA:=λws G q _=>∃a b:O,ws=[.tup (am a),.tup (am b)]/\a≠ .z/\a.NF/\a.dp<=60/\b.NF/\b.dp<=60/\a.len<=1000/\q (.bl (decide (yJ a b))) G
theorem Fp (F:cq K "is_too_great" "is_too_great" (ax 29) f fd) (F1:Fx P w K mg base "whole_part" ["a"] 1 r6) (ml:mg "len"=none) (mx:mg "max"=none) {t1 t2:Tok} (hf:mg "MOST_FACTORS"=some (.int 24 t1)) (hp:mg "MOST_PARTS_powers"=some (.int 24 t2)):cu P w K mg base 2 f fd ["a","b"] C0:=by
 refine eM F (N:=["a","b"]) (by walk_at "s") (by walk_at "l") λ_ _ _ _ _ _ nd hr=>?_;apply aL
 ·exact(ae (aS (dX (d0 (aA fQ (aB F1 (aw.mono hr (by lia)) rfl (ac (aa 1) ag)) (dC rfl hf)) (dc (aA fQ (aM bD rfl ml PySem.boot_len (ac (aa 0) ag)) (dC rfl hp))))) (ae (aq fX) ah) ah) (ae (aq (cv v0 (aM (kO rfl) rfl mx mh (ac (cU (cL (by first | rfl | decide+kernel)) rfl (bv (aa 0)) (λ_ _ _ _=>(bO 1 (by first | assumption | decide+kernel | rfl) rfl (.inl rfl))) (λ_ _ _ _=>cS) (λ_ _ _ _=>(aE aF (aa 1) af))) ag)) (au dS af af))) ah))
 ·rintro ws G q e0 ⟨a,b,rfl,hz,na,hda,nb,hdb,hla,hq⟩;walk_at "a0";refine⟨b,rfl,nb,by assumption,?_⟩;walk_at "R";refine bB (λh=>aG.done (by rw[ydz (show yJ a b from .inl (by assumption))] at hq;exact hq)) λh1=>?_;rw[aJ];refine bB (λh=>aG.done (by rw[ydz (show yJ a b from .inr (.inl (by (clear hda hdb h1;lia))))] at hq;exact hq)) λh2=>?_;subst hU;walk_at "R";show cf _ _ _ _ _ [none,none] G [] _;refine cg (λ_ _=>true) (λ_ n=> .int n) trivial (fL a) (λy m hy k hk=>?_) (λy m _ _ k hk=>?_) (by rw[length_nil];(clear hda hdb h1;lia)) (λ_=>rfl) λp1 hp1=>?_
  ·walk_at "R";exact hk
  ·unfold cO eK;walk_at "R";exact hk
  obtain⟨ns,h1',h2',h3,h4⟩:=qD a;rw[nil_append,h1'];have h0:ns≠[]:=λh=>by
   rw[h] at h2';cases a with
   | z=>exact hz rfl
   | c _ _ _=>simp[O.len] at h2'
  refine⟨ns,al,h0,λm hm hmx=>?_⟩;have hme:m=O.ot a:=Int.le_antisymm (h3 m hm) (hmx _ (h4 na hz));subst hme;walk_at "R";have e60:decide ((10:Int)^60<=O.ot a)=decide (yJ a b):=by
   apply decide_eq_decide.mpr;constructor
   ·exact λh=> .inr (.inr h)
   ·intro h;rcases h with h | h | h
    ·(clear hda hdb hla h2 h2';lia)
    ·(clear hda hdb h1;lia)
    ·exact h
  simp only[Int.reducePow] at e60;rw[e60];exact⟨G,aG.new hp1,hq⟩
noncomputable def gh (a:O):Prop:=a.NF/\a.size<=410/\O.mx a<10^301/\a.dp<=47
noncomputable def sd (a b:O):Prop:=b≠ .z/\a≠ .z/\a≠O.one/\(¬∃e n,a=.c e n .z/\e≠ .z)/\yJ a b
noncomputable def xL (a:O):Prop:=a.NF/\O.hw a<=20000/\a.dp<=50
noncomputable def AK (TG:Addr):bA:=λws G q e=>∃a b:O,ws=[.tup (am a),.tup (am b)]/\gh a/\gh b/\(¬sd a b->xL (O.powO a b)->q (.tup (am (O.powO a b))) G)/\(sd a b->∀G',aG G G'->e (.ref TG) G')
theorem scPw:bg ["a","b"] ["a","b"] (ak (ax 27)):=by walk_at "s"
theorem Fq {TG:Addr} {bT:yez} (F:cq K "power" "power" (ax 27) f fd) (F1:Fx P w K mg base "whole" ["n"] 3 r9) (F2:Fx P w K mg base "power_of_part" ["part","b"] 5 CZ) (F3:Fx P w K mg base "is_too_great_powers" ["a","b"] 2 C0) (F4:Fx P w K mg base "times" ["a","b"] 4 pp) (F5:Fx P w K mg base "endless_power" ["a","limit"] 5 CY) (F6:Fx P w K mg base "without_whole" ["a"] 2 AJ) (F7:Fx P w K mg base "whole_power" ["a","n"] 5 CW) (F8:Fx P w K mg base "whole_part" ["a"] 1 r6) (ml:mg "len"=none) (mC:mg "TooGreat"=some (.ref TG)) (xC:XC K TG bT):jG P w K mg base 6 f fd ["a","b"] (AK TG):=by
 have nd:=scPw.nd;refine jH (k:=5) F scPw (λws G q e h=>by obtain⟨_,_,rfl,_⟩:=h;rfl) (λcdv A outer s0 H E ws G q e hr hsp hE=>?_);obtain⟨a,b,rfl,fa,fb,hgood,hbad⟩:=hsp;obtain⟨na,sa,ma,da⟩:=fa;obtain⟨nb,sb,mb,db⟩:=fb;apply aL
 ·refine' ae ?s1 (ae ?s2 (ae ?s3 (ae (aS ?c4 (aW (du mC xC (λH1 G1=>hE _ H1 G1) rfl)) ah) (aW ?s5))))
  case s1=>exact(aS (aA (bo hr) (aa 1) (aD ag)) (ae (aq (aB F1 (aw.mono hr (by lia)) rfl (ac af ag))) ah) ah)
  case s2=>exact(aS (dX (d0 (aA (bo hr) (aa 0) (aD ag)) (dc (aA (bo hr) (aa 0) (aB F1 (aw.mono hr (by lia)) rfl (ac af ag)))))) (ae (aq (aa 0)) ah) ah)
  case s3=>exact(aS (dX (de (aA (bo hr) (aM bD rfl ml PySem.boot_len (ac (aa 0) ag)) af) (dB (aA (gW hr) (aE aF (aE aF (aa 0) af) af) (aD ag))))) (ae (aq (aB F2 (aw.mono hr (by lia)) rfl (ac (aE aF (aa 0) af) (ac (aa 1) ag)))) ah) ah)
  case c4=>exact(bS (aB F3 (aw.mono hr (by lia)) rfl (ac (aa 0) (ac (aa 1) ag))))
  case s5=>exact(aq (aB F4 (aw.mono hr (by lia)) rfl (ac (aB F5 (aw.mono hr (by lia)) rfl (ac (aa 0) (ac (aB F6 (aw.mono hr (by lia)) rfl (ac (aa 1) ag)) ag))) (ac (aB F7 (aw.mono hr (by lia)) rfl (ac (aa 0) (ac (aB F8 (aw.mono hr (by lia)) rfl (ac (aa 1) ag)) ag))) ag))))
 ·have ha':=bV a;have hb':=bV b;have wa:=O.hw_le_size a;have wb:=O.hw_le_size b;have la:=O.len_le_size a;walk_at "a0";refine⟨aY b,by (clear sa ma da sb mb ha' wa wb la;lia),?_⟩;rw[bP];refine bB (λh=>?_) λh0=>?_
  ·have hb0:b=.z:=of_decide_eq_true h;have hg:=hgood (λz=>z.1 hb0);rw[hb0,O.pow_z] at hg;exact⟨1,rfl,by (clear sa ma da sb mb db ha' hb' wa wb la;lia),aG.done (hg ⟨O.NF.one,by decide,by decide⟩)⟩
  have hb0:b≠ .z:=λz=>h0 (ydz z);walk_at "a";refine⟨aY a,by (clear sa ma sb mb db hb' wa wb la;lia),?_⟩;rw[bP];have same:xL a:=⟨na,by (clear ma da sb mb db ha' hb' wb la;lia),by walk_at "om"⟩;refine bB (λh=>?_) λh1=>?_
  ·have ha0:a=.z:=of_decide_eq_true h;have hg:=hgood (λz=>z.2.1 ha0);rw[O.pow_same hb0 (.inl ha0)] at hg;exact aG.done (hg same)
  refine⟨1,rfl,by (clear sa ma da sb mb db ha' hb' wa wb la;lia),aY a,aY _,by (clear sa ma sb mb db hb' wa wb la;lia),?_⟩;rw[fA];refine bB (λh=>?_) λh2=>?_
  ·have ha1:a=O.one:=of_decide_eq_true h;have hg:=hgood (λz=>z.2.2.1 ha1);rw[O.pow_same hb0 (.inr ha1)] at hg;exact aG.done (hg same)
  have az:a≠ .z:=λz=>h1 (ydz z);have a1:a≠O.one:=λz=>h2 (ydz z);subst hU;refine aI λU hU=>?_;cases a with
  | z=>exact absurd rfl az
  | c x n r=>
    have hde:=bV x;have hmx:=O.mx_he (e:=x) (n:=n) (r:=r);have wx:O.hw x<=O.hw (.c x n r):=by rw[O.hw_c];(clear sb mb db hb' wb sa ma da ha' wa la hde hmx;lia)
    have hxm:O.mx x<10^301:=Int.lt_of_le_of_lt hmx ma;have hdx:x.dp+1<=O.dp (.c x n r):=le_max_left _ _;have gen:(x=.z∨r≠ .z)->U { nx:=λx G1=>∃G0,aG G0 G1/\q W.non G0,rt:=λw G1=>∃G0,aG G0 G1/\q w G0 } [some (W.tup (am (.c x n r))),some (W.tup (am b))] G:=λhgn=>by
     have hsing:¬∃e' n',O.c x n r=.c e' n' .z/\e'≠ .z:=λ⟨e',n',k1,k2⟩=>by cases k1;exact hgn.elim k2 λz=>z rfl
     walk_at "a";refine⟨.c x n r,b,rfl,by simp,na,by walk_at "om",nb,by walk_at "om",by (clear sb mb db hb' wb ma da ha' wa hde hmx wx hxm hdx;lia),?_⟩;walk_at "R"
     by_cases ht:yJ (.c x n r) b
     ·rw[ycv ht];exact hbad ⟨hb0,az,a1,hsing,ht⟩ G (aG.refl _)
     ·rw[ycw ht];have hs:O.same .z b<=24:=Int.not_lt.mp λz=>ht (.inl z);have hl:O.len (.c x n r)<=24:=not_lt.mp λz=>ht (.inr (.inl z));have hg:=hgood (λz=>ht z.2.2.2.2);rw[O.pow_gen hb0 a1 hgn] at hg;unfold O.genP O.lim at hg;subst hU;walk_at "R";obtain⟨L,hL⟩:∃L,L=O.filt (λy _=>decide (¬y=.z)) b:=⟨_,rfl⟩;have nL:O.NF L:=hL▸nb.filt _;have lL:O.Lm L:=hL▸O.Lm.filt b;have d1:L.dp<=b.dp:=hL▸O.dp_filt (λy _=>decide (¬y=O.z)) b;have w1:O.hw L<=O.hw b:=hL▸O.hw_filt (λy _=>decide (¬y=O.z)) b;have m1:O.mx L<=O.mx b:=hL▸O.mx_filt (λy _=>decide (¬y=O.z)) b;have em:=O.endP_more na.1 nL lL;have s0:=O.same_nonneg .z nb;have h1:=O.npow_hw (.c x n r) (O.same .z b).toNat;have h2:=O.npow_dp (.c x n r) (O.same .z b).toNat;have h4:(O.same .z b).toNat*O.hw (.c x n r)<=24*410:=Nat.mul_le_mul (by (clear sb mb db hb' wb sa ma da ha' wa la hde hmx wx hxm hdx hl d1 w1 m1 em h1 h2;lia)) (by (clear sb mb db hb' wb ma da ha' la hde hmx wx hxm hdx hs hl d1 w1 m1 em s0 h1 h2;lia));have mL:O.mx L<10^301:=Int.lt_of_le_of_lt m1 mb;have x0:=O.mx_nonneg x;have L0:=O.mx_nonneg L;have mm:(O.mx x+1)*(O.mx L+1)<=10^301*10^301:=Int.mul_le_mul (Int.add_one_le_of_lt hxm) (Int.add_one_le_of_lt mL) (by (clear sb mb db hb' wb sa ma da ha' wa la hde hmx wx hxm hdx hs hl d1 w1 m1 em s0 h1 h2 h4 x0;lia)) (by decide+kernel);have mm2:(10:Int)^301*10^301<=xi:=by decide+kernel
      rw[←hL] at hg;refine⟨b,rfl,nb,by walk_at "om",?_⟩;rw[←hL];refine⟨x,n,r,L,rfl,na.1,nL,lL,by (clear sb mb db hb' wb sa ma ha' wa la hde hmx wx hxm hs hl d1 w1 m1 em s0 h1 h2 h4 mL x0 L0 mm mm2;lia),by (clear sb mb hb' wb sa ma da ha' wa la hde hmx wx hxm hdx hs hl w1 m1 em s0 h1 h2 h4 mL x0 L0 mm mm2;lia),by (clear sb mb db hb' wb ma da ha' la hde hmx hxm hdx hs hl d1 w1 m1 em s0 h1 h2 h4 mL x0 L0 mm mm2;lia),by (clear mb db hb' sa ma da ha' wa la hde hmx wx hxm hdx hs hl d1 m1 em s0 h1 h2 h4 mL x0 L0 mm mm2;lia),hxm,mL,?_⟩;refine⟨b,rfl,nb,by walk_at "om",.c x n r,(O.same .z b).toNat,by congr 3;(clear sb mb db hb' wb sa ma da ha' wa la hde hmx wx hxm hdx hl d1 w1 m1 em h1 h2 h4 mL x0 L0 mm mm2;lia),na,by (clear sb mb db hb' wb sa ma da ha' wa la hde hmx wx hxm hdx hl d1 w1 m1 em h1 h2 h4 mL x0 L0 mm mm2;lia),by walk_at "om",by (clear sb mb db hb' wb ma da ha' la hde hmx wx hxm hdx hs hl d1 w1 m1 em s0 h1 h2 h4 mL x0 L0 mm mm2;lia),ma,?_⟩;have mu:AI (O.endP x L) (O.npow (.c x n r) (O.same .z b).toNat):= .inr ⟨ydv em.2.2 (ydv mm mm2),nI na ma (by (clear sb mb db hb' wb sa ma da ha' wa la hde hmx wx hxm hdx hl d1 w1 m1 em h1 h2 h4 mL x0 L0 mm mm2;lia))⟩;have ht:=O.hw_times (O.endP x L) (O.npow (.c x n r) (O.same .z b).toNat);have hd:=O.dp_times (O.endP x L) (O.npow (.c x n r) (O.same .z b).toNat);refine⟨_,_,rfl,O.NF.endP na.1 nL lL,na.npow _,by (clear sb mb hb' wb sa ma ha' wa la hde hmx wx hxm hs hl w1 m1 s0 h1 h4 mL x0 L0 mm mm2 ht hd;lia),by (clear sb mb db hb' wb sa ma ha' wa la hde hmx wx hxm hs hl d1 w1 m1 em s0 h1 h4 mL x0 L0 mm mm2 ht hd;lia),by (clear mb db hb' ma da ha' la hde hmx hxm hdx hs hl d1 m1 s0 h1 h2 h4 mL x0 L0 mm mm2 ht hd;lia),by (clear sb mb db hb' wb sa ma da ha' wa la hde hmx wx hxm hdx hs hl d1 w1 m1 em s0 h2 mL x0 L0 mm mm2 ht hd;lia),mu,aG.done (hg ⟨O.NF.times (O.NF.endP na.1 nL lL) (na.npow _),by (clear mb db hb' ma da ha' la hde hmx hxm hdx hs hl d1 m1 s0 h2 mL x0 L0 mm mm2 hd;lia),by (clear sb mb hb' wb sa ma ha' wa la hde hmx wx hxm hs hl w1 m1 s0 h1 h4 mL x0 L0 mm mm2 ht;lia)⟩)⟩
    rw[bp];unfold cO eK;walk_at "R";have lr:(am r).length=r.len:=aJ r;refine bB (λh3=>?_) λh3=>gen (.inr λz=>h3 (by rw[z];rfl));have hr0:r=.z:=by
     cases r with
     | z=>rfl
     | c _ _ _=>simp only[bp,length_cons] at h3;(clear sb mb db hb' wb hde hxm sa ma da ha' wa la hmx wx hdx lr;lia)
    subst hr0;refine⟨aY x,by (clear sb mb db hb' wb hxm sa ma ha' wa la hmx wx lr h3;lia),?_⟩;rw[bP];refine bB (λh4=>?_) λh4=>gen (.inl (Decidable.of_not_not λz=>h4 (ydy z)));have hx0:x≠ .z:=of_decide_eq_false h4;have hg:=hgood (λz=>z.2.2.2.1 ⟨x,n,rfl,hx0⟩);rw[O.pow_part hx0 hb0] at hg;have ht:=O.hw_times x b;have hd:=O.dp_times x b;have hk:(1:Int)<=if 0<O.same .z b then n else 1:=by split;exact na.2.1;decide
    refine⟨x,n,b,rfl,na.1,nb,na.2.1,by (clear sb mb db hb' wb hde hxm sa ma ha' wa la hmx wx lr h3 ht hd hk;lia),by walk_at "om",by (clear sb mb db hb' wb hde hxm ma da ha' la hmx hdx lr h3 ht hd hk;lia),by (clear mb db hb' hde hxm sa ma da ha' wa la hmx wx hdx lr h3 ht hd hk;lia),hxm,mb,aG.done (hg ⟨⟨O.NF.times na.1 nb,hk,trivial,trivial⟩,?_,?_⟩)⟩
    ·rw[O.hw_c];show max (0+1) (max (O.hw (O.timesO x b)) 0)<=20000
     (clear mb db hb' hde hxm ma da ha' la hmx hdx lr h3 hd hk;lia)
    ·show max ((O.timesO x b).dp+1) 0<=50
     (clear sb mb hb' wb hde hxm sa ma ha' wa la hmx wx lr h3 ht hk;lia)
noncomputable def jz:O->List O
 | .z=>[]
 | .c e _ r=>e::jz r
noncomputable def qE (os:List O):Nat:=(os.map O.size).sum
theorem kA:∀a:O,mapP (λ_ _=>true) (λe _=> .tup (am e)) a=cF (jz a)
 | .z=>rfl
 | .c e n r=>by rw[mapP,ycv rfl,kA r];rfl
theorem nJ:∀a:O,(jz a).length=a.len
 | .z=>rfl
 | .c e n r=>by simp only[jz,length_cons,nJ r,O.len]
theorem qF:∀a:O,qE (jz a)+a.len=a.size
 | .z=>rfl
 | .c e n r=>by
   have:=qF r;simp only[jz,qE,map_cons,sum_cons,O.len,O.size] at this ⊢;lia
theorem qI:∀(a:O) (x:O),x∈jz a->x.dp<=a.dp
 | .z,x,h=>by cases h
 | .c e n r,x,h=>by
   simp only[O.dp];rcases mem_cons.mp h with rfl | h
   ·lia
   ·have:=qI r x h;lia
theorem qJ:∀(a:O) (x:O),x∈jz a->O.hw x<=O.hw a
 | .z,x,h=>by cases h
 | .c e n r,x,h=>by
   rw[O.hw_c];rcases mem_cons.mp h with rfl | h
   ·lia
   ·have:=qJ r x h;lia
theorem iS (a b:List O):qE (a++b)=qE a+qE b:=by simp[qE]
noncomputable def GC (G:Gp) (a:O) (p:Addr) (j:Nat) (τ:dF) (G':Gp):Prop:=∃(os:List O) (m:Nat) (t3:Option W),j=qE os+os.length/\τ=[some (.tup (am a)),some (.int (m:Int)),some (.ref p),t3]/\aG G G'/\G' p=some (.lst (cF os))/\m+qE os=a.size/\os.length<=m+1/\∀x,x∈os->x.dp<=60/\O.hw x<=20000
noncomputable def C1:bA:=λws G q _=>∃a:O,ws=[.tup (am a)]/\a.dp<=60/\O.hw a<=20000/\∀G',aG G G'->q (.bl (decide (400<a.size))) G'
theorem Ft {t1:Tok} (F:cq K "has_many_parts" "has_many_parts" (ax 53) f fd) (hm:mg "MOST_PARTS_readings"=some (.int 400 t1)) (ml:mg "len"=none):cu P w K mg base 1 f fd ["a"] C1:=by
 refine eM F (N:=["a","many","left","number"]) (by walk_at "s") (by walk_at "l") λ_ _ _ _ _ _ nd hr=>?_;apply aL
 ·exact(ae (ay 1 nd rfl (.inl rfl) af) (ae (ay 2 nd rfl (.inl rfl) (cK (ac (aa 0) ag))) (ae (eF PySem.PassesOwn.never (dX (de (aA (gW hr) (aa 2) (cK ag)) (dB (aA rp (aa 1) (dC rfl hm))))) (ae (ay 3 nd rfl (.inl rfl) (oQ (aa 2))) (ae (ay 1 nd rfl (.inl rfl) (au aU (aa 1) (aM bD rfl ml PySem.boot_len (ac (aa 3) ag)))) (ae (bu (zZ (aa 2) (cU (cL (by first | rfl | decide+kernel)) rfl (bv (aa 3)) (λ_ _ _ _=>(bO 1 (by first | assumption | decide+kernel | rfl) rfl (.inl rfl))) (λ_ _ _ _=>cS) (λ_ _ _ _=>(aE aF (aa 1) af))))) ah)))) (ae (aq (cv fQ (aa 1) (dC rfl hm))) ah))))
 ·rintro ws G q e ⟨a,rfl,hd,hs,hq⟩;walk_at "a0";walk_at "a";intro p hp;subst hU;refine aI λU hU=>?_;refine jq (GC G a p) ⟨_,[a],0,none,rfl,rfl,aG.new hp,al,by simp[qE],by simp,λx hx=>by rw[mem_singleton.mp hx];exact⟨hd,hs⟩⟩ ?_;rintro j τ G' ⟨os,m,t3,rfl,rfl,hle,hG,hsz,hlen,hdp⟩ B hB;have fin:(os=[]∨400<m)->∀G2,aG G G2->U { nx:=λx G1=>∃G0,aG G0 G1/\q W.non G0,rt:=λw G1=>∃G0,aG G0 G1/\q w G0 } [some (W.tup (am a)),some (W.int ↑m),some (W.ref p),t3] G2:=λh G2 le2=>by
   subst hU;walk_at "R";have e1:decide ((400:Int)<(m:Int))=decide (400<a.size):=by
    apply decide_eq_decide.mpr;rcases h with h | h
    ·subst h;simp[qE] at hsz
     (clear hd hs hlen;lia)
    ·(clear hd hs hlen;lia)
   rw[e1];exact aG.done (hq G2 le2)
  walk_at "R";intro p1 hp1;refine⟨_,.nil (aV hG hp1) al,?_⟩;rcases List.eq_nil_or_concat os with e | ⟨os,o,e⟩
  ·subst e;rw[ycw (by decide)];exact fin (.inl rfl) _ (hle.trans (aG.new hp1))
  ·subst e;rw[List.concat_eq_append] at*;rw[ycv (by simp[cF])];refine bB (λh4=>?_) λh4=>fin (.inr (by (clear hd hs hlen;lia))) _ (hle.trans (aG.new hp1));have hG1:=aV (g:=GO.lst []) hG hp1;have le1:=hle.trans (aG.new (g:=GO.lst []) hp1);generalize aQ G' p1 (GO.lst [])=G1 at hG1 le1 ⊢;rw[iS] at hsz;rw[length_append,length_singleton] at hlen;have hso:qE [o]=o.size:=by simp[qE]
   have ho:=qF o;have hl:=nJ o;have hdo:=hdp o (by simp);have hlw:=O.len_le_hw o;refine⟨λτ1 G1=>∃m1,m1<qE (os++[o])+(os++[o]).length/\GC G a p m1 τ1 G1,λ_ _ h=>h,?_⟩;subst hB;walk_at "a0";refine⟨cF os,.tup (am o),by rw[eL];exact hG1,?_⟩;walk_at "a";have hP:G p=none:=hp;have le2:aG G (aQ G1 p (GO.lst (cF os))):=aG.put le1 hp;have hG2:aQ G1 p (GO.lst (cF os)) p=some (.lst (cF os)):=al;have hlo:(am o).length=o.len:=aJ o;rw[hlo];generalize aQ G1 p (GO.lst (cF os))=G2 at le2 hG2 ⊢;subst hU;walk_at "R";refine⟨⟨_,hG2⟩,?_⟩;show cf _ _ _ _ _ [none,none] G2 [] _;refine cg (λ_ _=>true) (λe _=> .tup (am e)) trivial (fL o) (λy m hy k hk=>?_) (λy m _ _ k hk=>?_) (by rw[length_nil];(clear hd hs hsz hlen h4 hso ho;lia)) (λ_=>rfl) λp2 hp2=>?_
   ·walk_at "R";exact hk
   ·unfold cO eK;walk_at "R";exact hk
   ·rw[nil_append,kA];refine⟨_,_,aV hG2 hp2,al,?_,?_⟩
    ·simp only[cF,length_map]
     (clear hd hs;lia)
    ·refine⟨qE (os++jz o)+(os++jz o).length,?_,os++jz o,m+o.len,some (.tup (am o)),rfl,?_,aG.put (le2.trans (aG.new hp2)) hp,?_,?_,?_,?_⟩
     ·rw[iS,iS,length_append,length_append,length_singleton]
      (clear hd hs hsz hlen h4 hdo hlw hlo;lia)
     ·rw[Int.natCast_add]
     ·rw[al];simp[cF]
     ·rw[iS]
      (clear hd hs hlen h4 hl hdo hlw hlo;lia)
     ·rw[length_append]
      (clear hd hs h4 hdo hlw;lia)
     ·intro x hx;rcases mem_append.mp hx with h | h
      ·exact hdp x (mem_append_left _ h)
      ·exact⟨ycy (qI o x h) hdo.1,ycy (qJ o x h) hdo.2⟩
noncomputable def xM (d:Nat):bA:=λws G q _=>∃a:O,ws=[.tup (am a)]/\a.dp<d/\q (.int (O.mx a)) G
theorem Fu {d k:Nat} (F:cq K "greatest" "greatest" (ax 15) f fd) (F1:Fx P w K mg base "greatest" ["a"] k (xM d)) (mx:mg "max"=none):cu P w K mg base (k+1) f fd ["a"] (xM (d+1)):=by
 refine eM F (N:=["a","found","exponent","times"]) (by walk_at "s") (by walk_at "l") λ_ _ _ _ _ _ nd hr=>?_;apply aL
 ·exact(ae (ay 1 nd rfl (.inl rfl) af) (ae (cR PySem.PassesOwn.never rfl (bv (aa 0)) (oA rfl (dQ (bI 2 nd rfl (.inl rfl)) (dQ (bI 3 nd rfl (.inl rfl)) kK))) (ae (ay 1 nd rfl (.inl rfl) (aM (kO rfl) rfl mx mh (ac (aa 1) (ac (aa 3) (ac (aB F1 (aw.mono hr (by lia)) rfl (ac (aa 2) ag)) ag))))) ah)) (ae (aq (aa 1)) ah)))
 ·rintro ws G q e ⟨a,rfl,hx,hq⟩;have h0:=O.mx_nonneg a;walk_at "a0";walk_at "a";refine bU (λws τ G'=>G'=G/\∃(r:O) (m:Int) (t2 t3:Option W),ws=am r/\τ=[some (.tup (am a)),some (.int m),t2,t3]/\max m (O.mx r)=O.mx a/\0<=m/\r.dp<d+1) ?_ ?_ _ _ _ ⟨rfl,a,0,none,none,rfl,rfl,by (clear hx;lia),by (clear hx h0;lia),hx⟩
  ·rintro τ G' ⟨rfl,r,m,t2,t3,hw,rfl,hm,hm0,_⟩;refine⟨trivial,?_⟩;cases r with
   | z=>
     subst hU;walk_at "R";simp only[O.mx] at hm;rw[show m=O.mx a by (clear hx;lia)];exact aG.done hq
   | c y n r=>cases hw
  ·rintro w1 ws τ G' kk ⟨rfl,r,m,t2,t3,hw,rfl,hm,hm0,hd⟩ hk;cases r with
   | z=>cases hw
   | c y n r=>
     rw[bp] at hw;cases hw;refine⟨trivial,?_⟩;simp only[O.dp] at hd;rw[O.mx_c] at hm;unfold cO eK;walk_at "R";refine⟨y,rfl,by (clear hx h0 hm0 hm;lia),?_⟩;walk_at "R";refine hk _ _ ⟨rfl,r,_,_,_,rfl,rfl,?_,?_,by (clear hx h0 hm0 hm;lia)⟩
     ·have:=O.mx_nonneg y;split<;> split<;> (clear hx h0 hm0 hd this;lia)
     ·split<;> split<;> lia
theorem C3 (T:Txt K mg):∀d:Nat,Fx P w K mg base "greatest" ["a"] d (xM d)
 | 0=>T.d_greatest.fx λf fd F=>cu.none λws G q e ⟨a,_,h,_⟩=>by walk_at "om"
 | d+1=>T.d_greatest.fx λf fd F=>Fu F (C3 T d) T.z_max
noncomputable def xO (d:Nat):bA:=λws G q _=>∃a:O,ws=[.tup (am a)]/\a.dp<d/\q (.int (a.dp:Int)) G
theorem Fv {d k:Nat} (F:cq K "deep" "deep" (ax 16) f fd) (F1:Fx P w K mg base "deep" ["a"] k (xO d)) (mx:mg "max"=none):cu P w K mg base (k+1) f fd ["a"] (xO (d+1)):=by
 refine eM F (N:=["a","found","part"]) (by walk_at "s") (by walk_at "l") λ_ _ _ _ _ _ nd hr=>?_;apply aL
 ·exact(ae (ay 1 nd rfl (.inl rfl) af) (ae (cR PySem.PassesOwn.never rfl (bv (aa 0)) (bI 2 nd rfl (.inl rfl)) (ae (ay 1 nd rfl (.inl rfl) (aM (kO rfl) rfl mx mh (ac (aa 1) (ac (au aU (aB F1 (aw.mono hr (by lia)) rfl (ac (aE aF (aa 2) af) ag)) af) ag)))) ah)) (ae (aq (aa 1)) ah)))
 ·rintro ws G q e ⟨a,rfl,hx,hq⟩;walk_at "a0";walk_at "a";refine bU (λws τ G'=>G'=G/\∃(r:O) (m:Int) (t2:Option W),ws=am r/\τ=[some (.tup (am a)),some (.int m),t2]/\max m (r.dp:Int)=a.dp/\0<=m/\r.dp<d+1) ?_ ?_ _ _ _ ⟨rfl,a,0,none,rfl,rfl,by (clear hx;lia),by (clear hx;lia),hx⟩
  ·rintro τ G' ⟨rfl,r,m,t2,hw,rfl,hm,hm0,_⟩;refine⟨trivial,?_⟩;cases r with
   | z=>
     subst hU;walk_at "R";simp only[O.dp] at hm;rw[show m=(a.dp:Int) by (clear hx;lia)];exact aG.done hq
   | c y n r=>cases hw
  ·rintro w1 ws τ G' kk ⟨rfl,r,m,t2,hw,rfl,hm,hm0,hd⟩ hk;cases r with
   | z=>cases hw
   | c y n r=>
     rw[bp] at hw;cases hw;refine⟨trivial,?_⟩;simp only[O.dp] at hd hm;unfold cO eK;walk_at "R";refine⟨y,rfl,by (clear hx hm0 hm;lia),?_⟩;walk_at "R";exact hk _ _ ⟨rfl,r,_,_,rfl,rfl,by split<;> (clear hx hm0 hd;lia),by split<;> lia,by (clear hx hm0 hm;lia)⟩
theorem C4 (T:Txt K mg):∀d:Nat,Fx P w K mg base "deep" ["a"] d (xO d)
 | 0=>T.d_deep.fx λf fd F=>cu.none λws G q e ⟨a,_,h,_⟩=>by walk_at "om"
 | d+1=>T.d_deep.fx λf fd F=>Fv F (C4 T d) T.z_max
noncomputable def jA (a:O):Prop:=400<a.size∨10^300<=O.mx a∨40<a.dp
noncomputable instance (a:O):Decidable (jA a):=by unfold jA;infer_instance
noncomputable def C5:bA:=λws G q _=>∃a:O,ws=[.tup (am a)]/\a.dp<=60/\O.hw a<=20000/\∀G',aG G G'->q (.bl (decide (jA a))) G'
theorem Fw {t1:Tok} (F:cq K "is_too_great" "is_too_great" (ax 51) f fd) (F1:Fx P w K mg base "has_many_parts" ["a"] 1 C1) (F2:Fx P w K mg base "greatest" ["a"] 61 (xM 61)) (F3:Fx P w K mg base "deep" ["a"] 61 (xO 61)) (hm:mg "MOST_DEEP"=some (.int 40 t1)):cu P w K mg base 62 f fd ["a"] C5:=by
 refine eM F (N:=["a"]) (by walk_at "s") (by walk_at "l") λ_ _ _ _ _ _ nd hr=>?_;apply aL
 ·exact(ae (aq (tu (aB F1 (aw.mono hr (by lia)) rfl (ac (aa 0) ag)) (tu (cv v0 (aB F2 (aw.mono hr (by lia)) rfl (ac (aa 0) ag)) (au dS (au dS af af) af)) (i7 (cv fQ (aB F3 (aw.mono hr (by lia)) rfl (ac (aa 0) ag)) (dC rfl hm)))))) ah)
 ·rintro ws G q e ⟨a,rfl,hd,hs,hq⟩;walk_at "R";refine⟨a,rfl,hd,hs,λG1 le1=>?_⟩;walk_at "R";have e5:((10:Int)^60)^5=10^300:=by decide+kernel
  simp only[Int.reducePow] at e5;refine bB (λh1=>?_) λh1=>?_
  ·rw[show true=decide (jA a) from (ydz (.inl h1)).symm];exact aG.done (hq G1 le1)
  refine⟨a,rfl,by (clear hs e5 h1;lia),?_⟩;walk_at "R";refine⟨.inr ⟨by decide,by decide,by decide+kernel⟩,?_⟩;rw[e5];refine @bB _ _ _ _ (λh2=>?_) λh2=>?_
  ·rw[show true=decide (jA a) from (ydz (.inr (.inl h2))).symm];exact aG.done (hq G1 le1)
  refine⟨a,rfl,by (clear hs e5 h1 h2;lia),?_⟩;walk_at "R";have e1:decide ((40:Int)<(a.dp:Int))=decide (jA a):=by
   apply decide_eq_decide.mpr;constructor
   ·intro h;exact .inr (.inr (by (clear hs e5 h1 h2;lia)))
   ·intro h;rcases h with h | h | h
    ·exact absurd h h1
    ·exact absurd h h2
    ·(clear hs e5 h1 h2;lia)
  rw[e1];exact aG.done (hq G1 le1)
noncomputable abbrev bZ (l:List Nat):Str:=⟨l.toArray⟩
theorem gX (l m:List Nat):bZ l++bZ m=bZ (l++m):=by
 show Str.mk (l.toArray++m.toArray)=_;simp
theorem bK (l:List Nat):(bZ l).length=l.length:=by simp[Str.length]
theorem AL (x y:Str):(W.str x).eq (.str y)=decide (x=y):=by
 simp only[W.eq];rw[Bool.eq_iff_iff,beq_iff_eq,decide_eq_true_eq]
theorem qK {l m:List Nat}:bZ l=bZ m↔l=m:=⟨λh=>by have:=congrArg (λz:Str=>z.cps.toList) h;simpa using this,λh=>by rw[h]⟩
theorem fF (l m:List Nat):(W.str (bZ l)).eq (.str (bZ m))=decide (l=m):=by
 rw[AL];exact decide_eq_decide.mpr qK
noncomputable def xP:List Nat->Bool
 | [x]=>cE x
 | _=>false
noncomputable def xQ:List Nat->Bool
 | [x]=>dw x
 | _=>false
noncomputable def pv:bA:=λws G q _=>∃l:List Nat,ws=[.str (bZ l)]/\l.length<=1/\q (.bl (xP l)) G
noncomputable def pw:bA:=λws G q _=>∃l:List Nat,ws=[.str (bZ l)]/\l.length<=1/\q (.bl (xQ l)) G
theorem lA (a x:Nat):(!decide (([x]:List Nat)<[a]))=decide (a<=x):=by
 rw[Bool.eq_iff_iff];simp[List.cons_lt_cons_iff]
theorem nK (a x:Nat):(!decide (([a]:List Nat)<[x]))=decide (x<=a):=lA x a
theorem Fy (F:cq K "is_figure" "is_figure" (ax 41) f fd):cu P w K mg base 1 f fd ["sign"] pv:=by
 refine eM F (N:=["sign"]) (by walk_at "s") (by walk_at "l") λ_ _ _ _ _ _ nd hr=>?_;apply aL
 ·exact(ae (aq (nC iH iH aZ (aa 0) aZ)) ah)
 ·rintro ws G q e ⟨l,rfl,hl,hq⟩;walk_at "R";refine⟨_,rfl,?_⟩;rw[show(Str.ofString "0").cps.toList=[48] from rfl,show(Str.ofString "9").cps.toList=[57] from rfl]
  match l,hl with
  | [],_=>exact aG.done hq
  | [x],_=>
    rw[lA,nK];refine bB (λh=>?_) λh=>?_
    ·rw[show decide (x<=57)=xP [x] from ?_]
     ·exact aG.done hq
     ·show _=decide (48<=x/\x<=57);exact decide_eq_decide.mpr ⟨λz=>⟨of_decide_eq_true h,z⟩,λz=>z.2⟩
    ·rw[show false=xP [x] from ?_]
     ·exact aG.done hq
     ·show _=decide (48<=x/\x<=57);exact(ydy λz=>h (ydz z.1)).symm
theorem Fz (F:cq K "is_letter" "is_letter" (ax 42) f fd):cu P w K mg base 1 f fd ["sign"] pw:=by
 refine eM F (N:=["sign"]) (by walk_at "s") (by walk_at "l") λ_ _ _ _ _ _ nd hr=>?_;apply aL
 ·exact(ae (aq (nC iH iH aZ (aa 0) aZ)) ah)
 ·rintro ws G q e ⟨l,rfl,hl,hq⟩;walk_at "R";refine⟨_,rfl,?_⟩;rw[show(Str.ofString "a").cps.toList=[97] from rfl,show(Str.ofString "z").cps.toList=[122] from rfl]
  match l,hl with
  | [],_=>exact aG.done hq
  | [x],_=>
    rw[lA,nK];refine bB (λh=>?_) λh=>?_
    ·rw[show decide (x<=122)=xQ [x] from ?_]
     ·exact aG.done hq
     ·show _=decide (97<=x/\x<=122);exact decide_eq_decide.mpr ⟨λz=>⟨of_decide_eq_true h,z⟩,λz=>z.2⟩
    ·rw[show false=xQ [x] from ?_]
     ·exact aG.done hq
     ·show _=decide (97<=x/\x<=122);exact(ydy λz=>h (ydz z.1)).symm
noncomputable def C6:bA:=λws G q _=>∃l:List Nat,ws=[.str (bZ l)]/\l.length<=5000/\∀G',aG G G'->q (.bl (bX l)) G'
theorem FA {t1:Tok} (F:cq K "is_figures" "is_figures" (ax 43) f fd) (F1:Fx P w K mg base "is_figure" ["sign"] 1 pv) (hm:mg "MOST_FIGURES"=some (.int 60 t1)) (ml:mg "len"=none) (ma:mg "all"=none):cu P w K mg base 2 f fd ["text"] C6:=by
 refine eM F (N:=["text"]) (by walk_at "s") (by walk_at "l") λ_ _ _ _ _ _ nd hr=>?_;apply aL
 ·exact(ae (aS (dX (d0 (dP (jv iH iH af (aM bD rfl ml PySem.boot_len (ac (aa 0) ag)) (dC rfl hm))) (dc (dP (bS (aM (yy rfl) rfl ma PyProof.Rows.boot_all (ac (cU (cL (by first | rfl | decide+kernel)) rfl (bv (aa 0)) (λ_ _ _ _=>(bO 1 (by first | assumption | decide+kernel | rfl) rfl (.inl rfl))) (λ_ _ _ _=>cS) (λ_ _ _ _=>(aB F1 (aw.mono hr (by lia)) rfl (ac (aa 1) ag)))) ag))))))) (ae (aq fX) ah) ah) (ae (aq (tu (cv (bo hr) (aa 0) aZ) (i7 (cv (gW hr) (aE aF (aa 0) af) aZ)))) ah))
 ·rintro ws G q e ⟨l,rfl,hl,hq⟩;walk_at "a0";have nope:∀{c:Prop},¬c->(bX l=true->c)->∀G',aG G G'->∃G0,aG G0 G'/\q (.bl false) G0:=λhc hi G' le=>by
   have:bX l=false:=Bool.eq_false_iff.mpr λz=>hc (hi z);rw[←this];exact aG.done (hq G' le)
  have fst:bX l=true->1<=l.length/\l.length<=60/\l.all cE=true:=λh=>by
   unfold bX at h;simp only[Bool.and_eq_true,decide_eq_true_eq] at h;exact⟨h.1.1.1,h.1.1.2,h.1.2⟩
  refine⟨by rw[bK];lia,_,rfl,?_⟩;rw[bK];refine bB (λh1=>?_) λh1=>nope (c:=1<=l.length) (λz=>h1 (ydz (by (clear h1;lia)))) (λz=>(fst z).1) _ (aG.refl _);refine bB (λh2=>nope (c:=l.length<=60) (λz=>h2 (by (clear h1;lia))) (λz=>(fst z).2.1) _ (aG.refl _)) λh2=>?_;have h1:1<=l.length:=by have:=of_decide_eq_true h1;(clear h1;lia)
  have h2:l.length<=60:=by have:=Decidable.of_not_not h2;(clear this;lia)
  refine gR (i:=1) (λc:Nat=>W.str (bZ [c])) (λc=>W.bl (cE c)) (τ0:=fS _ _) trivial (λc hc k hk=>?_) (by show 0+_<=_;(clear h2;lia)) (λ_=>rfl) λp hp=>⟨l.map cE,?_,?_⟩
  ·walk_at "R";exact⟨[c],rfl,ycx _,hk⟩
  ·rw[al,nil_append,map_map]
   rfl
  have ea:(l.map cE).all id=l.all cE:=by rw[List.all_map];rfl
  rw[ea];have le1:=aG.new (g:=GO.lst ([]++l.map λc=>W.bl (cE c))) hp;generalize aQ G p (GO.lst ([]++l.map λc=>W.bl (cE c)))=G1 at le1 ⊢;refine bB (λh3=>nope (c:=l.all cE=true) (λz=>by rw[z] at h3;cases h3) (λz=>(fst z).2.2) _ le1) λh3=>?_;have h3:l.all cE=true:=by cases e:l.all cE with | true=>rfl | false=>exact absurd e h3
  have ef:bX l=(decide (l=[48])||decide (l.head?≠some 48)):=by
   unfold bX;rw[h3,ydz ⟨h1,h2⟩]
   rfl
  subst hU;walk_at "R";refine⟨rfl,rfl,zero_le _,?_⟩;rw[show Str.ofString "0"=bZ [48] from rfl,fF];refine bB (λh4=>?_) λh4=>?_
  ·have:bX l=true:=by rw[ef,h4];rfl
   rw[←this];exact aG.done (hq _ le1)
  ·cases l with
   | nil=>exact absurd h1 (by decide)
   | cons x l=>
     refine⟨by rw[bK];lia,x,eR (j:=0) rfl,rfl,rfl,zero_le _,?_⟩;rw[show({ cps:= #[x] }:Str)=bZ [x] from rfl,fF];have h4:decide (x::l=[48])=false:=Bool.eq_false_iff.mpr h4;have:(!decide ([x]=[48]))=bX (x::l):=by
      rw[ef,h4,Bool.false_or,Bool.eq_iff_iff];simp
     rw[this];exact aG.done (hq _ le1)
noncomputable def C7:bA:=λws G q _=>∃l:List Nat,ws=[.str (bZ l)]/\l.length<=5000/\∀G',aG G G'->q (.bl (bY l)) G'
theorem FB {t1:Tok} (F:cq K "is_name" "is_name" (ax 44) f fd) (F1:Fx P w K mg base "is_letter" ["sign"] 1 pw) (hm:mg "MOST_LETTERS"=some (.int 8 t1)) (ml:mg "len"=none) (ma:mg "all"=none):cu P w K mg base 2 f fd ["text"] C7:=by
 refine eM F (N:=["text"]) (by walk_at "s") (by walk_at "l") λ_ _ _ _ _ _ nd hr=>?_;apply aL
 ·exact(ae (aS (dX (d0 (dP (jv iH iH af (aM bD rfl ml PySem.boot_len (ac (aa 0) ag)) (dC rfl hm))) (dc (aA (bo hr) (aa 0) aZ)))) (ae (aq fX) ah) ah) (ae (aq (aM (yy rfl) rfl ma PyProof.Rows.boot_all (ac (cU (cL (by first | rfl | decide+kernel)) rfl (bv (aa 0)) (λ_ _ _ _=>(bO 1 (by first | assumption | decide+kernel | rfl) rfl (.inl rfl))) (λ_ _ _ _=>cS) (λ_ _ _ _=>(aB F1 (aw.mono hr (by lia)) rfl (ac (aa 1) ag)))) ag))) ah))
 ·rintro ws G q e ⟨l,rfl,hl,hq⟩;walk_at "a0";have nope:∀{c:Prop},¬c->(bY l=true->c)->∀G',aG G G'->∃G0,aG G0 G'/\q (.bl false) G0:=λhc hi G' le=>by
   have:bY l=false:=Bool.eq_false_iff.mpr λz=>hc (hi z);rw[←this];exact aG.done (hq G' le)
  have fst:bY l=true->1<=l.length/\l.length<=8/\l≠[119]:=λh=>by
   unfold bY at h;simp only[Bool.and_eq_true,decide_eq_true_eq] at h;exact⟨h.1.1.1,h.1.1.2,h.1.2⟩
  refine⟨by rw[bK];lia,_,rfl,?_⟩;rw[bK];refine bB (λh1=>?_) λh1=>nope (c:=1<=l.length) (λz=>h1 (ydz (by (clear h1;lia)))) (λz=>(fst z).1) _ (aG.refl _);refine bB (λh2=>nope (c:=l.length<=8) (λz=>h2 (by (clear h1;lia))) (λz=>(fst z).2.1) _ (aG.refl _)) λh2=>?_;have h1:1<=l.length:=by have:=of_decide_eq_true h1;(clear h1;lia)
  have h2:l.length<=8:=by have:=Decidable.of_not_not h2;(clear this;lia)
  refine⟨rfl,rfl,zero_le _,?_⟩;rw[show Str.ofString "w"=bZ [119] from rfl,fF];refine bB (λh3=>nope (c:=l≠[119]) (λz=>z (of_decide_eq_true h3)) (λz=>(fst z).2.2) _ (aG.refl _)) λh3=>?_;have h3:l≠[119]:=λz=>h3 (ydz z);subst hU;walk_at "R";refine gR (i:=1) (λc:Nat=>W.str (bZ [c])) (λc=>W.bl (dw c)) (τ0:=fS _ _) trivial (λc hc k hk=>?_) (by show 0+_<=_;(clear h2;lia)) (λ_=>rfl) λp hp=>⟨l.map dw,?_,?_⟩
  ·walk_at "R";exact⟨[c],rfl,ycx _,hk⟩
  ·rw[al,nil_append,map_map]
   rfl
  have ea:(l.map dw).all id=bY l:=by
   rw[List.all_map];unfold bY;rw[ydz ⟨h1,h2⟩,ydz h3]
   rfl
  rw[ea];exact aG.done (hq _ (aG.new hp))
noncomputable def dz:bx->W
 | .num a=> .tup (am a)
 | .nam l=> .str (bZ l)
 | .op x=> .str (bZ [x])
noncomputable def C8:bA:=λws G q _=>ws=[]/\q (.tup (am om)) G
theorem FC (F:cq K "endless" "endless" (ax 10) f fd) (F1:Fx P w K mg base "whole" ["n"] 3 r9) (F2:Ca P w K mg base "raised" ["exponent","times"] 2 uN [.int 1]):cu P w K mg base 4 f fd [] C8:=by
 refine eM F (N:=[]) (by walk_at "s") (by walk_at "l") λ_ _ _ _ _ _ nd hr=>?_;apply aL
 ·exact(ae (aq (kN F2 (aw.mono hr (by lia)) rfl (ac (aB F1 (aw.mono hr (by lia)) rfl (ac af ag)) ag))) ah)
 ·rintro ws G q e ⟨rfl,hq⟩;walk_at "R";refine⟨1,rfl,by decide,O.wh 1,1,rfl,by decide,aG.done ?_⟩;exact hq
noncomputable def uO (C:Addr):bA:=λws G q e=>∃l:List Nat,ws=[.str (bZ l)]/\l.length<=5000/\(∀x,j6 l=some x->∀G',aG G G'->q (dz x) G')/\(j6 l=none->∀G',aG G G'->e (.ref C) G')
theorem scTo:bg ["word"] ["word"] (ak (ax 45)):=by walk_at "s"
theorem FD {C:Addr} {bC:yez} (F:cq K "thing_of" "thing_of" (ax 45) f fd) (F1:Fx P w K mg base "endless" [] 4 C8) (F2:Fx P w K mg base "is_figures" ["text"] 2 C6) (F3:Fx P w K mg base "is_name" ["text"] 2 C7) (F4:Fx P w K mg base "whole" ["n"] 3 r9) (mC:mg "NoText"=some (.ref C)) (xC:XC K C bC) (mi:mg "int"=none):jG P w K mg base 5 f fd ["word"] (uO C):=by
 have nd:=scTo.nd;refine jH (k:=4) F scTo (λws G q e h=>by obtain⟨_,rfl,_⟩:=h;rfl) (λcdv A outer s H E ws G q e hr hsp hE=>?_);obtain⟨l,rfl,hl,hgood,hbad⟩:=hsp;apply aL
 ·refine' ae ?s1 (ae ?s2 (ae ?s3 (aW (du mC xC (λH1 G1=>hE _ H1 G1) rfl))))
  case s1=>exact(aS (aA (bo hr) (aa 0) aZ) (ae (aq (zW F1 (aw.mono hr (by lia)) rfl)) ah) ah)
  case s2=>exact(aS (bS (aB F2 (aw.mono hr (by lia)) rfl (ac (aa 0) ag))) (ae (aq (aB F4 (aw.mono hr (by lia)) rfl (ac (ce lx rfl mi PyProof.Rows.boot_int (ac (aa 0) ag)) ag))) ah) ah)
  case s3=>exact(aS (bS (aB F3 (aw.mono hr (by lia)) rfl (ac (aa 0) ag))) (ae (aq (aa 0)) ah) ah)
 ·walk_at "a0";refine⟨rfl,rfl,zero_le _,?_⟩;rw[show Str.ofString "w"=bZ [119] from rfl,fF];refine bB (λh1=>?_) λh1=>?_
  ·have h1:l=[119]:=of_decide_eq_true h1;refine⟨rfl,aG.done (hgood (.num om) ?_ G (aG.refl _))⟩;rw[h1]
   rfl
  have h1:l≠[119]:=λz=>h1 (ydz z);walk_at "a";refine⟨l,rfl,hl,λG1 le1=>?_⟩;walk_at "R";refine bB (λh2=>?_) λh2=>?_
  ·have h4:l.all cE=true/\1<=l.length/\l.length<=60:=by
    unfold bX at h2;simp only[Bool.and_eq_true,decide_eq_true_eq] at h2;exact⟨h2.1.2,h2.1.1⟩
   refine⟨λc hc=>?_,λz=>?_,by rw[bK];lia,_,rfl,Int.natCast_nonneg _,aG.done ?_⟩
   ·have:=all_eq_true.mp h4.1 c hc;exact of_decide_eq_true this
   ·rw[z] at h4;exact absurd h4.2.1 (by decide)
   ·refine hgood (.num (O.wh (mP l))) ?_ G1 le1;unfold j6;rw[ycw h1,ycv h2]
  walk_at "a";refine⟨l,rfl,hl,λG2 le2=>?_⟩;walk_at "R";have h2:bX l=false:=Bool.eq_false_iff.mpr h2;refine bB (λh3=>?_) λh3=>?_
  ·refine aG.done (hgood (.nam l) ?_ G2 (le1.trans le2));unfold j6;rw[ycw h1,h2,ycw (by decide),ycv h3]
  ·subst hU;walk_at "R";refine hbad ?_ G2 (le1.trans le2);unfold j6;rw[ycw h1,h2,ycw (by decide),ycw h3]
open Classical in
noncomputable def nM (x:Nat) (a b:O):Option O:=if (x=94/\sd a b)∨jA (gJ x a b) then none else some (gJ x a b)
noncomputable def C9 (TG:Addr):bA:=λws G q e=>∃(x:Nat) (a b:O),ws=[.tup (am a),.str (bZ [x]),.tup (am b)]/\gh a/\gh b/\(x=43∨x=42∨x=94)/\(∀r,nM x a b=some r->r.NF->¬jA r->∀G',aG G G'->q (.tup (am r)) G')/\(nM x a b=none->∀G',aG G G'->e (.ref TG) G')
theorem scJn:bg ["first","sign","second","found"] ["first","sign","second"] (ak (ax 50)):=by walk_at "s"
theorem FE {TG:Addr} {bT:yez} (F:cq K "joined" "joined" (ax 50) f fd) (F1:Fx P w K mg base "plus" ["a","b"] 3 xI) (F2:Fx P w K mg base "times" ["a","b"] 4 pp) (R3:Rx P w K mg base "power" ["a","b"] 6 (AK TG) []) (F4:Fx P w K mg base "is_too_great_readings" ["a"] 62 C5) (mC:mg "TooGreat"=some (.ref TG)) (xC:XC K TG bT):jG P w K mg base 63 f fd ["first","sign","second"] (C9 TG):=by
 have nd:=scJn.nd;refine jH (k:=62) F scJn (λws G q e h=>by obtain⟨_,_,_,rfl,_⟩:=h;rfl) (λcdv A outer s0 H E ws G q e hr hsp hE=>?_);obtain⟨x,a,b,rfl,fa,fb,hx,hgood,hbad⟩:=hsp;apply aL
 ·refine' ae (aS ?c1 ?b1 (aW (aS ?c2 ?b2 (aW (ay 3 nd rfl (by first | exact Or.inl rfl | exact Or.inr rfl) (eI R3 (aw.mono hr (by (clear hx;lia))) hE rfl ?a3)))))) (ae (aS ?c4 (aW (du mC xC (λH1 G1=>hE _ H1 G1) rfl)) ah) (aW ?s5))
  case c1=>exact(aA (bo hr) (aa 1) aZ)
  case b1=>exact(ae (ay 3 nd rfl (.inl rfl) (aB F1 (aw.mono hr (by lia)) rfl (ac (aa 0) (ac (aa 2) ag)))) ah)
  case c2=>exact(aA (bo hr) (aa 1) aZ)
  case b2=>exact(ae (ay 3 nd rfl (.inl rfl) (aB F2 (aw.mono hr (by lia)) rfl (ac (aa 0) (ac (aa 2) ag)))) ah)
  case a3=>exact(ac (aa 0) (ac (aa 2) ag))
  case c4=>exact(bS (aB F4 (aw.mono hr (by lia)) rfl (ac (aa 3) ag)))
  case s5=>exact(aq (aa 3))
 ·have la:=O.len_le_size a;have lb:=O.len_le_size b;have wa:=O.hw_le_size a;have wb:=O.hw_le_size b;obtain⟨na,a1,a2,a3⟩:=id fa;obtain⟨nb,b1,b2,b3⟩:=id fb;refine aI λU hU=>?_;have go:∀r,xL r->r=gJ x a b->¬(x=94/\sd a b)->U { nx:=λx G1=>∃G0,aG G0 G1/\q W.non G0,rt:=λw G1=>∃G0,aG G0 G1/\q w G0 } [some (.tup (am a)),some (.str (bZ [x])),some (.tup (am b)),some (.tup (am r))] G:=λr hr hj hnr=>by
   obtain⟨r1,r2,r3⟩:=hr;walk_at "a";refine⟨r,rfl,by walk_at "om",by assumption,λG' hG=>?_⟩;walk_at "R";refine bB (λh=>hbad (ycv (.inr (hj▸h))) G' hG) λh=>?_;subst hU;walk_at "R";exact aG.done (hgood r (by rw[nM,ycw (λz=>z.elim hnr λz=>h (hj▸z)),hj]) r1 h G' hG)
  walk_at "R";refine⟨rfl,rfl,zero_le _,?_⟩;rw[show Str.ofString "+"=bZ [43] from rfl,fF];refine bB (λh=>?_) λh=>?_
  ·have hx43:x=43:=by have:=of_decide_eq_true h;cases this;rfl
   have hd:=O.dp_plus a b;have hw:=O.hw_plus a b;refine⟨a,b,rfl,na,by walk_at "om",by walk_at "om",by (clear hx lb wa wb a2 a3 b1 b2 b3 hx43 hd hw;lia),by (clear hx la wa wb a1 a2 a3 b2 b3 hx43 hd hw;lia),go _ ⟨O.NF.plus na nb,by (clear hx la lb a2 a3 b2 b3 hx43 hd;lia),by (clear hx la lb wa wb a1 a2 b1 b2 hx43 hw;lia)⟩ (by rw[hx43];rfl) (λz=>by rw[hx43] at z;exact absurd z.1 (by decide))⟩
  refine⟨rfl,rfl,zero_le _,?_⟩;rw[show Str.ofString "*"=bZ [42] from rfl,fF];refine bB (λh=>?_) λh2=>?_
  ·have hx42:x=42:=by have:=of_decide_eq_true h;cases this;rfl
   have hd:=O.dp_times a b;have hw:=O.hw_times a b;refine⟨a,b,rfl,na,nb,by walk_at "om",by walk_at "om",by (clear hx la lb wb a2 a3 b1 b2 b3 hx42 hd hw;lia),by (clear hx la lb wa a1 a2 a3 b2 b3 hx42 hd hw;lia),xK a2 b2,go _ ⟨O.NF.times na nb,by (clear hx la lb a2 a3 b2 b3 hx42 hd;lia),by (clear hx la lb wa wb a1 a2 b1 b2 hx42 hw;lia)⟩ (by rw[hx42];rfl) (λz=>by rw[hx42] at z;exact absurd z.1 (by decide))⟩
  ·have h3:x=94:=by
    rcases hx with z | z | z
    ·rw[z] at h;exact absurd rfl h
    ·rw[z] at h2;exact absurd rfl h2
    ·exact z
   exact⟨a,b,rfl,fa,fb,λhn hr=>go _ hr (by rw[h3];rfl) λz=>hn z.2,λhn G' hG=>hbad (ycv (.inl ⟨h3,hn⟩)) G' hG⟩
noncomputable def FF:bx->Prop
 | .num a=>gh a
 | .nam _=>False
 | .op x=>x=43∨x=42∨x=94
theorem uP {r:O} (h:r.NF) (h2:¬jA r):gh r:=by
 have h1:¬400<r.size:=λz=>h2 (.inl z);have h3:¬10^300<=O.mx r:=λz=>h2 (.inr (.inl z));have h4:¬40<r.dp:=λz=>h2 (.inr (.inr z));exact⟨h,by (clear h3 h4;lia),Int.lt_trans (Int.not_le.mp h3) (by decide+kernel),by (clear h1 h3;lia)⟩
noncomputable def eh:List bx->List O->Option (List O)
 | [],st=>some st
 | .num a::s,st=>eh s (a::st)
 | .op x::s,b::a::st=>match nM x a b with
   | some r=>eh s (r::st)
   | none=>none
 | _,_=>none
noncomputable def AM (TG:Addr):bA:=λws G q e=>∃(a:Addr) (s:List bx),ws=[.ref a]/\G a=some (.lst (s.map dz))/\s.length<=8000/\(∀x,x∈s->FF x)/\lI s 0=some 1/\(∀r,eh s []=some [r]->gh r->∀G',aG G G'->q (.tup (am r)) G')/\(eh s []=none->∀G',aG G G'->e (.ref TG) G')
theorem scRk:bg ["steps","left","step","second","first"] ["steps"] (ak (ax 49)):=by walk_at "s"
theorem FG {TG:Addr} (F:cq K "reckoned" "reckoned" (ax 49) f fd) (R1:Rx P w K mg base "joined" ["first","sign","second"] 63 (C9 TG) []) (mi:mg "isinstance"=none) (mt:mg "tuple"=none):jG P w K mg base 64 f fd ["steps"] (AM TG):=by
 have nd:=scRk.nd;refine jH (k:=63) F scRk (λws G q e h=>by obtain⟨_,_,rfl,_⟩:=h;rfl) (λcdv A outer s0 H E ws G q e hr hsp hE=>?_);obtain⟨a,s,rfl,ha,hs,hok,hrun,hgood,hbad⟩:=hsp;apply aL
 ·refine' ae ?s1 (ae (cR PassesOwn.leaving rfl ?it ?tg (aW (aS ?c1 ?b1 (ae ?e1 (ae ?e2 (aW ?e3)))))) (aW ?s3))
  case s1=>exact(ay 1 nd rfl (.inl rfl) (cK ag))
  case it=>exact(bv (aa 0))
  case tg=>exact(bI 2 nd rfl (.inl rfl))
  case c1=>exact(bS (gm (T:="tuple") (x:="tuple") (by first | simp[jF] | assumption | decide+kernel) d6 mt rfl mi rfl (aa 2)))
  case b1=>exact(ae (bu (dh (aa 1) (aa 2))) ah)
  case e1=>exact(ay 3 nd rfl (.inl rfl) (oQ (aa 1)))
  case e2=>exact(ay 4 nd rfl (.inl rfl) (oQ (aa 1)))
  case e3=>exact bu (dh (by exact(aa 1)) (eI R1 (aw.mono hr (by (clear hs;lia))) hE rfl (by exact(ac (aa 4) (ac (aa 2) (ac (aa 3) ag))))))
  case s3=>exact(aq (aE aF (aa 1) af))
 ·skip
  walk_at "a0";intro p hp;have ap:a≠p:=λz=>by rw[z,hp] at ha;cases ha
  walk_at "a";refine⟨_,(aK ap).trans ha,?_⟩;refine bU (λws τ G'=>∃(s1:List bx) (st:List O) (t2 t3 t4:Option W),ws=s1.map dz/\τ=[some (.ref a),some (.ref p),t2,t3,t4]/\aG G G'/\G' p=some (.lst (cF st.reverse))/\st.length+s1.length<=8000/\(∀x,x∈s1->FF x)/\(∀o,o∈st->gh o)/\lI s1 st.length=some 1/\eh s []=eh s1 st) ?_ ?_ _ _ _ ⟨s,[],_,_,_,rfl,rfl,aG.new hp,al,by simpa using hs,hok,(λo h=>by cases h),hrun,rfl⟩
  ·rintro τ G' ⟨s1,st,t2,t3,t4,hw,rfl,hle,hG,hl,_,hst,hr1,hrg⟩;cases s1 with
   | cons x s1=>cases hw
   | nil=>
     refine⟨hle _ _ ha,?_⟩;obtain⟨r,rfl⟩:∃r,st=[r]:=by
      have hst:st.length=1:=Option.some.inj hr1
      match st,hst with
      | [r],_=>exact⟨r,rfl⟩
     subst hU;walk_at "R";exact⟨_,_,hG,eR (j:=0) rfl,aG.done (hgood r hrg (hst r yby) G' hle)⟩
  ·rintro w1 ws τ G' kk ⟨s1,st,t2,t3,t4,hw,rfl,hle,hG,hl,hok1,hst,hr1,hrg⟩ hk;cases s1 with
   | nil=>cases hw
   | cons x s1=>
     cases hw;refine⟨hle _ _ ha,?_⟩;rw[length_cons] at hl;have hx:=hok1 x yby;have hok2:∀z,z∈s1->FF z:=λz hz=>hok1 z (ybx _ hz);cases x with
     | nam l=>exact absurd hx id
     | num b=>
       unfold dz;walk_at "R";refine⟨⟨_,hG⟩,_,hG,by simp only[cF,length_map,List.length_reverse];(clear hs;lia),hk _ _ ⟨s1,b::st,_,_,_,rfl,rfl,aG.put hle hp,?_,?_,hok2,λo ho=>?_,hr1,hrg⟩⟩
       ·rw[al,reverse_cons,eL]
       ·rw[length_cons]
        (clear hs;lia)
       ·rcases mem_cons.mp ho with rfl | ho
        ·exact hx
        ·exact hst o ho
     | op y=>
       match st,hst,hl,hG,hr1,hrg with
       | [],_,_,_,hr1,_=>cases hr1
       | [_],_,_,_,hr1,_=>cases hr1
       | b::a'::st,hst,hl,hG,hr1,hrg=>
         unfold dz;walk_at "R";simp only[rA];rw[ycw (by decide)];have gb:=hst b yby;have ga:=hst a' (ybx _ yby);refine⟨cF (a'::st).reverse,.tup (am b),by rw[hG,reverse_cons,eL],cF st.reverse,.tup (am a'),by rw[al,reverse_cons,eL],?_⟩;rw[jt];refine⟨⟨_,al⟩,y,a',b,rfl,ga,gb,hx,λr hj hrn hrt G3 hG3=>?_,λhj G3 hG3=>hbad (by rw[hrg];show(match nM y a' b with | some r=>eh s1 (r::st) | none=>none)=none;rw[hj]) G3 ((aG.put hle hp).trans hG3)⟩;have g3:=hG3 _ _ al;refine⟨_,g3,by simp only[cF,length_map,List.length_reverse];simp only[length_cons] at hl;(clear hs;lia),hk _ _ ⟨s1,r::st,_,_,_,rfl,rfl,aG.put ((aG.put hle hp).trans hG3) hp,?_,?_,hok2,λo ho=>?_,hr1,by rw[hrg];show(match nM y a' b with | some r=>eh s1 (r::st) | none=>none)=_;rw[hj]⟩⟩
         ·rw[al,reverse_cons,eL]
         ·simp only[length_cons] at hl ⊢
          (clear hs;lia)
         ·rcases mem_cons.mp ho with rfl | ho
          ·exact uP hrn hrt
          ·exact hst o (ybx _ (ybx _ ho))
noncomputable def lB (l:List Nat) (p:Nat) (a:Addr):List (Str×W):=[("text",.str (bZ l)),("place",.int (p:Int)),("steps",.ref a)]
structure DZ (C:Addr) (G:Gp) (r a:Addr) (l:List Nat) (p:Nat) (s:List bx):Prop where
 hr:G r=some (.ins C (lB l p a))
 ha:G a=some (.lst (s.map dz))
 pl:p<=l.length
 ll:l.length<=2000
 sl:s.length+l.length<=6000+p
structure xR (K:yav) (C:Addr):Prop where
 c:lG K C
 t:cP K C "text"
 p:cP K C "place"
 s:cP K C "steps"
noncomputable def uQ (C:Addr):bA:=λws G q _=>∃(r a:Addr) (l:List Nat) (p:Nat),ws=[.ref r]/\G r=some (.ins C (lB l p a))/\p<=l.length/\l.length<=2000/\q (.str (bZ ((l.drop p).take 1))) G
theorem scSg:bg ["self"] ["self"] (ak (cJ 46 7)):=by walk_at "s"
theorem FH {C:Addr} (hC:xR K C) (F:cq K "sign" "Reading.sign" (cJ 46 7) f fd):cu P w K mg base 1 f fd ["self"] (uQ C):=by
 have nd:=scSg.nd;obtain⟨hc,ct,cp,cs⟩:=hC;refine A5 F scSg (λws G q e h=>by obtain⟨_,_,_,_,rfl,_⟩:=h;rfl) (λcdv A outer s H E hr=>?_);apply aL
 ·exact(ae (aq (bw (dm (aa 0)) (bR (dm (aa 0))) (bR (au aU (dm (aa 0)) af)))) ah)
 ·rintro ws G q e ⟨r,a,l,p,rfl,hr,hp,hl,hq⟩;walk_at "R";refine⟨r,C,_,_,rfl,hr,⟨hc,ct⟩,rfl,r,C,_,_,rfl,hr,⟨hc,cp⟩,rfl,?_⟩;walk_at "R";refine⟨r,C,_,_,rfl,hr,⟨hc,cp⟩,rfl,?_⟩;walk_at "R";refine⟨by rw[bK];lia,p,p+1,by rw[bK];exact hp,.inr rfl,.inr rfl,aG.done ?_⟩;rw[Nat.add_sub_cancel_left];exact hq
noncomputable def sh (C:Addr):bA:=λws G q _=>∃(r a:Addr) (l:List Nat) (p x:Nat),ws=[.ref r,.str (bZ [x])]/\G r=some (.ins C (lB l p a))/\p<=l.length/\l.length<=2000/\
 ((l.drop p).head?=some x->q (.bl true) (aQ G r (.ins C (lB l (p+1) a))))/\((l.drop p).head?≠some x->q (.bl false) G)
theorem nN (l:List Nat) (x:Nat):l.take 1=[x]↔l.head?=some x:=by
 cases l with
 | nil=>simp
 | cons y l=>simp
theorem scPb:bg ["self","sign"] ["self","sign"] (ak (cJ 46 6)):=by walk_at "s"
theorem FI {C:Addr} (hC:xR K C) (F:cq K "pass_by" "Reading.pass_by" (cJ 46 6) f fd) (M1:Mt P w K mg base C "sign" ["self"] 1 (uQ C) []):cu P w K mg base 2 f fd ["self","sign"] (sh C):=by
 have nd:=scPb.nd;obtain⟨hc,ct,cp,cs⟩:=hC;refine A5 F scPb (λws G q e h=>by obtain⟨_,_,_,_,_,rfl,_⟩:=h;rfl) (λcdv A outer s H E hr=>?_);apply aL
 ·exact(ae (aS (aA (gW hr) (fq (aa 0) M1 (aw.mono hr (by lia))) (aa 1)) (ae (aq fX) ah) ah) (ae (jh (aa 0) (au aU (dm (aa 0)) af)) (ae (aq fX) ah)))
 ·rintro ws G q e ⟨r,a,l,p,x,rfl,hr,hp,hl,hyes,hno⟩;walk_at "a0";refine⟨r,_,rfl,hr,rfl,r,a,l,p,rfl,hr,hp,hl,?_⟩;walk_at "R";refine⟨rfl,rfl,zero_le _,?_⟩;rw[fF];refine bB (λh=>?_) λh=>?_
  ·exact aG.done (hno λz=>by rw[ydz ((nN _ _).mpr z)] at h;cases h)
  ·have hx:(l.drop p).head?=some x:=(nN _ _).mp (by
    cases e0:decide (List.take 1 (List.drop p l)=[x]) with
    | true=>exact of_decide_eq_true e0
    | false=>exact absurd e0 h)
   walk_at "a";refine⟨r,C,_,_,rfl,hr,⟨hc,cp⟩,rfl,?_⟩;walk_at "R";refine⟨r,C,_,rfl,hr,⟨hc,cp⟩,by simp[lB],?_⟩;subst hU;walk_at "R";refine aG.done ?_;exact hyes hx
theorem xS {G:Gp} {r:Addr} {g:GO} (h:G r=some g):aQ G r g=G:=by
 funext x
 by_cases e:x=r
 ·rw[e,al,h]
 ·rw[aK e]
theorem xU (l:List Nat):(dU l).length<=l.length:=by
 have:=congrArg List.length (fK l);rw[length_append] at this;lia
theorem uR (l:List Nat):l.take (dU l).length=dU l:=by
 have:l.take (dU l).length=(dU l++o4 l).take (dU l).length:=by rw[fK]
 rw[this,List.take_append_of_le_length (ycx _),take_length]
theorem uS {l:List Nat}:(xP (l.take 1)||xQ (l.take 1))=decide (dU l≠[]):=by
 cases l with
 | nil=>rfl
 | cons x l=>
   show eJ x=_;unfold dU;cases eJ x<;> simp
theorem uT {l:List Nat} (h:dU l≠[]):dU (l.drop 1)=(dU l).drop 1:=by
 cases l with
 | nil=>exact absurd rfl h
 | cons x l=>
   unfold dU at h;show dU l=(dU (x::l)).drop 1
   conv=>rhs;unfold dU
   split
   ·rfl
   ·rename_i hx;rw[ycw hx] at h;exact absurd rfl h
noncomputable def AN (C:Addr):bA:=λws G q _=>∃(r a:Addr) (l:List Nat) (p:Nat),ws=[.ref r]/\G r=some (.ins C (lB l p a))/\p<=l.length/\l.length<=2000/\q (.str (bZ (dU (l.drop p)))) (aQ G r (.ins C (lB l (p+(dU (l.drop p)).length) a)))
theorem scWd:bg ["self","first"] ["self"] (ak (cJ 46 5)):=by walk_at "s"
theorem FJ {C:Addr} (hC:xR K C) (F:cq K "word" "Reading.word" (cJ 46 5) f fd) (M1:Mt P w K mg base C "sign" ["self"] 1 (uQ C) []) (F1:Fx P w K mg base "is_figure" ["sign"] 1 pv) (F2:Fx P w K mg base "is_letter" ["sign"] 1 pw):cu P w K mg base 2 f fd ["self"] (AN C):=by
 have nd:=scWd.nd;obtain⟨hc,ct,cp,cs⟩:=hC;refine A5 F scWd (λws G q e h=>by obtain⟨_,_,_,_,rfl,_⟩:=h;rfl) (λcdv A outer s H E hr=>?_);apply aL
 ·exact(ae (ay 1 nd rfl (.inl rfl) (dm (aa 0))) (ae (eF PySem.PassesOwn.never (dX (d0 (bS (aB F1 (aw.mono hr (by lia)) rfl (ac (fq (aa 0) M1 (aw.mono hr (by lia))) ag))) (dc (bS (aB F2 (aw.mono hr (by lia)) rfl (ac (fq (aa 0) M1 (aw.mono hr (by lia))) ag)))))) (ae (jh (aa 0) (au aU (dm (aa 0)) af)) ah)) (ae (aq (bw (dm (aa 0)) (bR (aa 1)) (bR (dm (aa 0))))) ah)))
 ·rintro ws G q e ⟨r,a,l,p,rfl,hr,hp,hl,hq⟩;have wl:=xU (l.drop p);rw[length_drop] at wl;walk_at "a0";refine⟨r,C,_,_,rfl,hr,⟨hc,cp⟩,rfl,?_⟩;subst hU;refine aI λU hU=>?_;refine jq (λj τ G'=>∃i:Nat,i<=(dU (l.drop p)).length/\j=(dU (l.drop p)).length-i/\τ=[some (.ref r),some (.int (p:Int))]/\G'=aQ G r (.ins C (lB l (p+i) a))/\dU (l.drop (p+i))=(dU (l.drop p)).drop i) ⟨_,0,zero_le _,rfl,rfl,(xS hr).symm,rfl⟩ ?_;rintro j τ G' ⟨i,hi,rfl,rfl,rfl,hw⟩ B hB;have hr':aQ G r (.ins C (lB l (p+i) a)) r=some (.ins C (lB l (p+i) a)):=al;have len1:((l.drop (p+i)).take 1).length<=1:=by rw[length_take];exact Nat.min_le_left _ _
  have hd:=uS (l:=l.drop (p+i));have go:dU (l.drop (p+i))≠[]->∃N:dF->Gp->Prop,(∀τ1 G1,N τ1 G1->∃m1,m1<(dU (l.drop p)).length-i/\∃i,i<=(dU (l.drop p)).length/\m1=(dU (l.drop p)).length-i/\τ1=[some (.ref r),some (.int (p:Int))]/\G1=aQ G r (.ins C (lB l (p+i) a))/\dU (l.drop (p+i))=(dU (l.drop p)).drop i)/\B { nx:=N,rt:=λw G1=>∃G0,aG G0 G1/\q w G0,bk:=U { nx:=λx G1=>∃G0,aG G0 G1/\q W.non G0,rt:=λw G1=>∃G0,aG G0 G1/\q w G0 },ct:=N } [some (.ref r),some (.int (p:Int))] (aQ G r (.ins C (lB l (p+i) a))):=λhne=>by
   have hi2:i<(dU (l.drop p)).length:=by
    rcases Nat.lt_or_ge i (dU (l.drop p)).length with z | z
    ·exact z
    ·rw[hw,List.drop_eq_nil_of_le z] at hne;exact absurd rfl hne
   refine⟨λτ1 G1=>τ1=[some (.ref r),some (.int (p:Int))]/\G1=aQ G r (.ins C (lB l (p+(i+1)) a)),?_,?_⟩
   ·rintro τ1 G1 ⟨rfl,rfl⟩;refine⟨_,by (clear hp hl wl hi len1;lia),i+1,hi2,rfl,rfl,rfl,?_⟩;have:=uT hne;rw[List.drop_drop,hw,List.drop_drop] at this;exact this
   ·subst hB;walk_at "R";refine⟨r,C,_,_,rfl,hr',⟨hc,cp⟩,rfl,?_⟩;walk_at "R";refine⟨r,C,_,rfl,hr',⟨hc,cp⟩,by simp[lB],?_⟩;rw[jt]
    rfl
  walk_at "R";refine⟨r,_,rfl,hr',rfl,r,a,l,p+i,rfl,hr',by (clear hl len1;lia),hl,_,rfl,len1,?_⟩;dsimp only;refine bB (λh=>go ?_) λh=>?_
  ·rw[h,Bool.true_or] at hd;exact of_decide_eq_true hd.symm
  rw[Bool.eq_false_iff.mpr h,Bool.false_or] at hd;refine⟨r,_,rfl,hr',rfl,r,a,l,p+i,rfl,hr',by (clear hl len1;lia),hl,_,rfl,len1,?_⟩;dsimp only;refine bB (λh=>go ?_) λh=>?_
  ·rw[h] at hd;exact of_decide_eq_true hd.symm
  rw[Bool.eq_false_iff.mpr h] at hd;have hz:dU (l.drop (p+i))=[]:=Decidable.of_not_not (of_decide_eq_false hd.symm);have hie:i=(dU (l.drop p)).length:=by
   have:=congrArg List.length (hw.symm.trans hz);rw[length_drop] at this;have:(dU (l.drop p)).length-i=0:=this
   (clear hp hl wl len1;lia)
  subst hU;walk_at "R";refine⟨r,C,_,_,rfl,hr',⟨hc,ct⟩,rfl,r,C,_,_,rfl,hr',⟨hc,cp⟩,rfl,?_⟩;walk_at "R";refine⟨by rw[bK];lia,p,p+i,by rw[bK];assumption,.inr rfl,.inr rfl,aG.done ?_⟩;rw[Nat.add_sub_cancel_left,hie];show q (.str (bZ ((l.drop p).take (dU (l.drop p)).length))) _;rw[uR];exact hq
noncomputable def iI (G G':Gp) (r a:Addr):Prop:=∀x g,x≠r->x≠a->G x=some g->G' x=some g
theorem iI.trans {G G1 G2:Gp} {r a:Addr} (h:iI G G1 r a) (g:iI G1 G2 r a):iI G G2 r a:=λx y h1 h2 e=>g x y h1 h2 (h x y h1 h2 e)
theorem iI.r (G:Gp) (r a:Addr) (g:GO):iI G (aQ G r g) r a:=λx y h1 _ e=>(aK h1).trans e
theorem iI.aq (G:Gp) (r a:Addr) (g:GO):iI G (aQ G a g) r a:=λx y _ h2 e=>(aK h2).trans e
noncomputable def fU (C NT:Addr) (fn:List Nat->Rd) (w:Nat):bA:=λws G q e=>∃(r a:Addr) (l:List Nat) (p:Nat) (s:List bx),ws=[.ref r,.int (w:Int)]/\DZ C G r a l p s/\r≠a/\
 (∀s' rest,fn (l.drop p)=some (s',rest)->∀G',iI G G' r a->DZ C G' r a l (l.length-rest.length) (s++s')->q .non G')/\(fn (l.drop p)=none->∀G',iI G G' r a->e (.ref NT) G')
noncomputable def Da:WS:=λd _ G=>d.rt .non G
theorem Db {rd:List Nat->Rd} {m:List Nat} (h:m.head?≠some 40):aX rd m=match j6 (dU m) with | some x=>some ([x],o4 m) | none=>none:=by
 unfold aX;split
 ·exact absurd rfl h
 ·rfl
theorem Dc {rd:List Nat->Rd} {m:List Nat} (h:rd m=none):aX rd (40::m)=none:=by
 show(match rd m with | some (s,41::r)=>some (s,r) | _=>none)=none;rw[h]
theorem Dd {rd:List Nat->Rd} {m r:List Nat} {s':List bx} (h:rd m=some (s',41::r)):aX rd (40::m)=some (s',r):=by
 show(match rd m with | some (s,41::r)=>some (s,r) | _=>none)=_;rw[h]
 rfl
theorem Dg {rd:List Nat->Rd} {m r:List Nat} {s':List bx} (h:rd m=some (s',r)) (hh:r.head?≠some 41):aX rd (40::m)=none:=by
 show(match rd m with | some (s,41::r)=>some (s,r) | _=>none)=none;rw[h];split
 ·next e=>cases e;exact absurd rfl hh
 ·rfl
theorem eO {l:List Nat} {p x:Nat} (h:(l.drop p).head?=some x):p<l.length/\l.drop p=x::l.drop (p+1):=by
 have hp:p<l.length:=Decidable.by_contra λn=>by rw[List.drop_eq_nil_of_le (by walk_at "om")] at h;exact nomatch h
 refine⟨hp,?_⟩;rw[drop_eq_getElem_cons hp] at h ⊢;rw[Option.some.inj h]
unseal QS in
theorem xV {X:Cx}:QS X (.Return none pos) Da:=ps_retN.imp λD σ H z0=>z0.el λτ G d hs hg ht l=>l.rt .non H .non G (aP.refl H) .non hg ht
theorem scRt:bg ["self","within"] ["self","within"] (ak (cJ 46 4)):=by walk_at "s"
theorem FK {C NT:Addr} {bC:yez} {t1:Tok} {d k:Nat} (hd:d<=20) (hk5:5<=k) (hC:xR K C) (F:cq K "read_thing" "Reading.read_thing" (cJ 46 4) f fd) (M1:Mt P w K mg base C "pass_by" ["self","sign"] 2 (sh C) []) (M2:Mt P w K mg base C "word" ["self"] 2 (AN C) []) {spX:bA} (M3:pU P w K mg base C "read_sum" ["self","within"] k spX []) (hX:1<=d->spX=fU C NT (cA d) (21-d)) (R1:Rx P w K mg base "thing_of" ["word"] 5 (uO NT) []) (hm:mg "MOST_BRACKETS"=some (.int 20 t1)) (mC:mg "NoText"=some (.ref NT)) (xC:XC K NT bC):jG P w K mg base (k+1) f fd ["self","within"] (fU C NT (aX (cA d)) (20-d)):=by
 have nd:=scRt.nd;obtain⟨hc,ct,cp,cs⟩:=hC;refine jH (k:=k) F scRt (λws G q e h=>by obtain⟨_,_,_,_,_,rfl,_⟩:=h;rfl) (λcdv A outer s0 H E ws G q e hr hsp hE=>?_);obtain⟨r,a,l,p,s,rfl,X,ra,hgood,hbad⟩:=hsp;apply aL
 ·refine' ae (aS ?c1 ?b1 ah) (ae (aS ?c2 (aW (du mC xC (λH1 G1=>hE _ H1 G1) rfl)) ah) (ae ?s3 (aW (aS ?c4 (aW (du mC xC (λH1 G1=>hE _ H1 G1) rfl)) ah))))
  case c1=>exact(dP (bS (gH (aa 0) M1 (aw.mono hr (by lia)) (ac aZ ag))))
  case b1=>
   refine' ae ?e1 (aW ?e2)
   case e1=>exact bu (dh (by exact(dm (aa 0))) (eI R1 (aw.mono hr (by assumption)) hE rfl (by exact(ac (fq (aa 0) M2 (aw.mono hr (by lia))) ag))))
   case e2=>exact xV
  case c2=>exact(aA (bo hr) (aa 1) (dC rfl hm))
  case s3=>exact bu (dv (aa 0) M3 (aw.mono hr (by (clear hd hk5;lia))) hE (by exact(ac (au aU (aa 1) af) ag)))
  case c4=>exact(dP (bS (gH (aa 0) M1 (aw.mono hr (by lia)) (ac aZ ag))))
 ·walk_at "a0";refine⟨r,_,rfl,X.hr,rfl,r,a,l,p,40,rfl,X.hr,X.pl,X.ll,λhh=>?_,λhh=>?_⟩
  ·obtain⟨hp,hdr⟩:=eO hh;dsimp only;rw[ycw (by decide)];subst hU;walk_at "R";have hG1:(aQ G r (.ins C (lB l (p+1) a))) r=some (.ins C (lB l (p+1) a)):=al;refine bB (λh=>?_) λh=>?_
   ·have hd0:d=0:=by (clear hk5 hp;lia)
    subst hd0;exact hbad (by rw[hdr];rfl) _ (iI.r G r a _)
   obtain rfl:=hX (by (clear hk5 hp;lia));unfold eT;walk_at "R";have hll:=X.ll;have hsl:=X.sl;refine⟨r,_,rfl,hG1,rfl,r,a,l,p+1,s,by rw[show((21-d:Nat):Int)=((20-d:Nat):Int)+1 by (clear hk5 hp h hll hsl;lia)],⟨hG1,(aK ra.symm).trans X.ha,hp,hll,by (clear hd hk5 hp h hll;lia)⟩,ra,λs' rest hrd G' hK X'=>?_,λhn G' hK=>hbad (by rw[hdr];exact Dc hn) G' ((iI.r G r a _).trans hK)⟩;have hdp:l.drop (l.length-rest.length)=rest:=(hJ.trans ⟨l.take (p+1),(take_append_drop _ _).symm⟩ (dI d _ _ _ hrd).1).drop;refine⟨r,_,rfl,X'.hr,rfl,r,a,l,l.length-rest.length,41,rfl,X'.hr,X'.pl,X'.ll,λh2=>?_,λh2=>?_⟩
   ·obtain⟨hp2,hd2⟩:=eO h2;have hX:=X'.sl;dsimp only;rw[ycw (by decide)];rw[hdp] at hd2;refine⟨_,aG.refl _,hgood s' _ (by rw[hdr];exact Dd (hrd.trans (congrArg (λz=>some (s',z)) hd2))) _ (((iI.r G r a _).trans hK).trans (iI.r G' r a _)) ⟨?_,(aK ra.symm).trans X'.ha,by (clear hd hk5 h hll hsl hp2 hX;lia),hll,?_⟩⟩
    ·rw[length_drop,show l.length- (l.length- (l.length-rest.length+1))=l.length-rest.length+1 by (clear hd hk5 h;lia)];exact al
    ·rw[length_drop]
     (clear hd hk5 hp h hll hsl;lia)
   ·dsimp only;rw[ycv rfl];rw[hdp] at h2;exact hbad (by rw[hdr];exact Dg hrd h2) G' ((iI.r G r a _).trans hK)
  ·dsimp only;rw[ycv rfl];have hrd:=Db (rd:=cA d) hh;have hla:=congrArg List.length (fK (l.drop p));rw[length_append,length_drop] at hla;have hpl:=X.pl;have hll:=X.ll;have hsl:=X.sl;refine⟨r,C,_,.ref a,rfl,X.hr,⟨hc,cs⟩,rfl,⟨_,X.ha⟩,r,_,rfl,X.hr,rfl,r,a,l,p,rfl,X.hr,X.pl,X.ll,dU (l.drop p),rfl,by (clear hd hk5 hsl;lia),λx hx G' hG=>?_,λhn G' hG=>?_⟩
   ·rw[hx] at hrd;have h1:=uk hx;refine⟨_,hG _ _ ((aK ra.symm).trans X.ha),by rw[length_map];(clear hd hk5 hla hll h1;lia),?_⟩;refine⟨_,aG.refl _,hgood [x] (o4 (l.drop p)) hrd _ (λz g h1 h2 e=>(aK h2).trans (hG _ _ ((aK h1).trans e))) ⟨?_,?_,by (clear hd hk5 hla hpl hsl h1;lia),hll,?_⟩⟩
    ·rw[aK ra,show l.length- (o4 (l.drop p)).length=p+(dU (l.drop p)).length by (clear hd hk5 hsl;lia)];exact hG _ _ al
    ·rw[map_append];exact al
    ·rw[length_append,length_singleton]
     (clear hd hk5 hll;lia)
   ·rw[hn] at hrd;exact hbad hrd G' λz g h1 h2 e=>hG _ _ ((aK h1).trans e)
theorem Dh {rd:List Nat->Rd} {m r r2:List Nat} {s' s2:List bx} (h:aX rd m=some (s',94::r)) (h2:aX rd r=some (s2,r2)):cy rd m=some (s'++s2++[.op 94],r2):=by
 unfold cy;rw[h];show(match aX rd r with | some (s2,r2)=>some (s'++s2++[bx.op 94],r2) | none=>none)=_;rw[h2]
theorem Di {rd:List Nat->Rd} {m r:List Nat} {s':List bx} (h:aX rd m=some (s',94::r)) (h2:aX rd r=none):cy rd m=none:=by
 unfold cy;rw[h];show(match aX rd r with | some (s2,r2)=>some (s'++s2++[bx.op 94],r2) | none=>none)=_;rw[h2]
theorem Dj {rd:List Nat->Rd} {m r:List Nat} {s':List bx} (h:aX rd m=some (s',r)) (hh:r.head?≠some 94):cy rd m=some (s',r):=by
 unfold cy;rw[h];split
 ·next e=>cases e;exact absurd rfl hh
 ·rfl
theorem scRp:bg ["self","within"] ["self","within"] (ak (cJ 46 3)):=by walk_at "s"
theorem FL {C NT:Addr} {d k:Nat} (hk5:5<=k) (hC:xR K C) (F:cq K "read_power" "Reading.read_power" (cJ 46 3) f fd) (M1:Mt P w K mg base C "pass_by" ["self","sign"] 2 (sh C) []) (M3:pU P w K mg base C "read_thing" ["self","within"] k (fU C NT (aX (cA d)) (20-d)) []):jG P w K mg base (k+1) f fd ["self","within"] (fU C NT (cy (cA d)) (20-d)):=by
 have nd:=scRp.nd;obtain⟨hc,ct,cp,cs⟩:=hC;refine jH (k:=k) F scRp (λws G q e h=>by obtain⟨_,_,_,_,_,rfl,_⟩:=h;rfl) (λcdv A outer s0 H E ws G q e hr hsp hE=>?_);obtain⟨r,a,l,p,s,rfl,X,ra,hgood,hbad⟩:=hsp;have hrt:=j7 (dI d);apply aL
 ·refine' ae ?s1 (aW (aS ?c2 (ae ?s3 (aW ?s4)) ah))
  case s1=>exact bu (dv (aa 0) M3 (aw.mono hr (by (clear hk5;lia))) hE (by exact(ac (aa 1) ag)))
  case c2=>exact(bS (gH (aa 0) M1 (aw.mono hr (by lia)) (ac aZ ag)))
  case s3=>exact bu (dv (aa 0) M3 (aw.mono hr (by (clear hk5;lia))) hE (by exact(ac (aa 1) ag)))
  case s4=>exact bu (dh (by exact(dm (aa 0))) (by exact aZ))
 ·walk_at "a0";unfold eT;walk_at "R";refine⟨r,_,rfl,X.hr,rfl,r,a,l,p,s,rfl,X,ra,λs' rest hrd G' hK X'=>?_,λhn G' hK=>hbad (by unfold cy;rw[hn]) G' hK⟩;have hdp:l.drop (l.length-rest.length)=rest:=(hJ.trans ⟨l.take p,(take_append_drop _ _).symm⟩ (hrt _ _ _ hrd).1).drop;subst hU;walk_at "R";have hpl:=X.pl;have hll:=X.ll;have hsl:=X.sl;refine⟨r,_,rfl,X'.hr,rfl,r,a,l,l.length-rest.length,94,rfl,X'.hr,X'.pl,X'.ll,λh2=>?_,λh2=>?_⟩
  ·obtain⟨hp2,hd2⟩:=eO h2;have hX:=X'.sl;rw[hdp] at hd2;have hrd':=hrd.trans (congrArg (λz=>some (s',z)) hd2);have hkp:iI G (aQ G' r (.ins C (lB l (l.length-rest.length+1) a))) r a:=hK.trans (iI.r G' r a _);dsimp only;rw[ycv rfl];unfold eT;walk_at "R";refine⟨r,_,rfl,al,rfl,r,a,l,l.length-rest.length+1,s++s',rfl,⟨al,(aK ra.symm).trans X'.ha,hp2,hll,by (clear hk5 hpl hll hsl hp2;lia)⟩,ra,λs2 rest2 hr2 G2 hK2 X2=>?_,λhn G2 hK2=>hbad (Di hrd' hn) G2 (hkp.trans hK2)⟩;have h3:=X2.sl;have l1:=(hrt _ _ _ hrd).2;have l2:=(hrt _ _ _ hr2).2;have l3:=(hrt _ _ _ hrd).1.len;have l4:=(hrt _ _ _ hr2).1.len;simp only[length_drop,length_append] at l1 l2 l3 l4 h3;refine⟨r,C,_,.ref a,rfl,X2.hr,⟨hc,cs⟩,rfl,⟨_,X2.ha⟩,_,X2.ha,by simp only[length_map,length_append];(clear hk5 hpl hsl hp2 hX l1 l2 l3 l4;lia),_,aG.refl _,hgood _ rest2 (Dh hrd' hr2) _ ((hkp.trans hK2).trans (iI.aq G2 r a _)) ⟨(aK ra).trans X2.hr,?_,X2.pl,hll,?_⟩⟩
   ·rw[al];simp only[map_append,append_assoc]
    rfl
   ·simp only[length_append,length_singleton]
    (clear hk5 hll hX;lia)
  ·dsimp only;rw[ycw (by decide)];rw[hdp] at h2;exact⟨_,aG.refl _,hgood s' rest (Dj hrd h2) G' hK X'⟩
noncomputable def eZ (one:List Nat->Rd) (c:Nat) (l:List Nat):Rd:=
 match one l with
 | some (s,r)=>bq one c r.length s r
 | none=>none
theorem nO {one:List Nat->Rd} {c:Nat} {l r:List Nat} {s:List bx} (h:one l=some (s,r)):eZ one c l=bq one c r.length s r:=by unfold eZ;rw[h]
theorem nP {one:List Nat->Rd} {c:Nat} {l:List Nat} (h:one l=none):eZ one c l=none:=by unfold eZ;rw[h]
theorem nQ {one:List Nat->Rd} {c:Nat} {l:List Nat} (h:l.head?≠some c) (n:Nat) (s:List bx):bq one c n s l=some (s,l):=by
 cases n with
 | zero=>rfl
 | succ n=>unfold bq;rw[ycw h]
theorem uU {one:List Nat->Rd} {c:Nat} {l r:List Nat} {s2:List bx} (h:one l=some (s2,r)) (n:Nat) (s:List bx):bq one c (n+1) s (c::l)=bq one c n (s++s2++[.op c]) r:=by
 show(if (c::l).head?=some c then match one l with | some (s2,r)=>bq one c n (s++s2++[.op c]) r | none=>none else some (s,c::l))=_;rw[ycv (List.head?_cons ..),h]
theorem uV {one:List Nat->Rd} {c:Nat} {l:List Nat} (h:one l=none) (n:Nat) (s:List bx):bq one c (n+1) s (c::l)=none:=by
 show(if (c::l).head?=some c then match one l with | some (s2,r)=>bq one c n (s++s2++[.op c]) r | none=>none else some (s,c::l))=_;rw[ycv (List.head?_cons ..),h]
noncomputable def qL (C:Addr) (G:Gp) (r a:Addr) (l:List Nat) (p:Nat) (s:List bx) (one:List Nat->Rd) (c:Nat) (v:Int) (m:Nat) (τ:dF) (G':Gp):Prop:=
 ∃s' rest,rest.length<=m/\τ=[some (.ref r),some (.int v)]/\iI G G' r a/\DZ C G' r a l (l.length-rest.length) (s++s')/\hJ l rest/\s'.length+rest.length<=l.length-p/\eZ one c (l.drop p)=bq one c m s' rest
theorem scRpd:bg ["self","within"] ["self","within"] (ak (cJ 46 2)):=by walk_at "s"
theorem Dk {C NT:Addr} {one:List Nat->Rd} {w0 k:Nat} (hone:rN one) (hk5:5<=k) (hC:xR K C) (F:cq K "read_product" "Reading.read_product" (cJ 46 2) f fd) (M1:Mt P w K mg base C "pass_by" ["self","sign"] 2 (sh C) []) (M3:pU P w K mg base C "read_power" ["self","within"] k (fU C NT one w0) []):jG P w K mg base (k+1) f fd ["self","within"] (fU C NT (eZ one 42) w0):=by
 have nd:=scRpd.nd;obtain⟨hc,ct,cp,cs⟩:=hC;refine jH (k:=k) F scRpd (λws G q e h=>by obtain⟨_,_,_,_,_,rfl,_⟩:=h;rfl) (λcdv A outer s0 H E ws G q e hr hsp hE=>?_);obtain⟨r,a,l,p,s,rfl,X,ra,hgood,hbad⟩:=hsp;apply aL
 ·refine' ae ?s1 (aW (eF PassesOwn.leaving ?c2 (ae ?s3 (aW ?s4))))
  case s1=>exact bu (dv (aa 0) M3 (aw.mono hr (by (clear hk5;lia))) hE (by exact(ac (aa 1) ag)))
  case c2=>exact(bS (gH (aa 0) M1 (aw.mono hr (by lia)) (ac aZ ag)))
  case s3=>exact bu (dv (aa 0) M3 (aw.mono hr (by (clear hk5;lia))) hE (by exact(ac (aa 1) ag)))
  case s4=>exact bu (dh (by exact(dm (aa 0))) (by exact aZ))
 ·walk_at "a0";unfold eT;walk_at "R";have hpl:=X.pl;have hll:=X.ll;have hsl:=X.sl;refine⟨r,_,rfl,X.hr,rfl,r,a,l,p,s,rfl,X,ra,λs' rest hrd G' hK X'=>?_,λhn G' hK=>hbad (nP hn) G' hK⟩;have hok:=hone _ _ _ hrd;subst hU;refine jq (qL C G r a l p s one 42 (w0:Int)) ⟨rest.length,s',rest,ycx _,rfl,hK,X',hJ.trans ⟨l.take p,(take_append_drop _ _).symm⟩ hok.1,by rw[←length_drop];exact hok.2,nO hrd⟩ ?_;rintro n τ G1 ⟨s1,r1,hn,rfl,hK1,X1,hS1,hl1,hrd1⟩ B hB;have hdp:=hS1.drop;have hx1:=X1.sl;have hs1:=hS1.len;walk_at "R";refine⟨r,_,rfl,X1.hr,rfl,r,a,l,l.length-r1.length,42,rfl,X1.hr,X1.pl,X1.ll,λh2=>?_,λh2=>?_⟩
  ·obtain⟨hp2,hd2⟩:=eO h2;rw[hdp] at hd2;have hr1:=congrArg List.length hd2;rw[length_cons,length_drop] at hr1;obtain⟨n,rfl⟩:∃n',n=n'+1:=⟨n-1,by (clear hk5 hpl hll hsl hok hl1 hx1 hs1 hp2;lia)⟩;rw[hd2] at hrd1;have hkp:iI G (aQ G1 r (.ins C (lB l (l.length-r1.length+1) a))) r a:=hK1.trans (iI.r G1 r a _);dsimp only;rw[ycv rfl];refine⟨λτ1 G3=>∃m1,m1<n+1/\qL C G r a l p s one 42 (w0:Int) m1 τ1 G3,λ_ _ h=>h,?_⟩;subst hB;unfold eT;walk_at "R";refine⟨r,_,rfl,al,rfl,r,a,l,l.length-r1.length+1,s++s1,rfl,⟨al,(aK ra.symm).trans X1.ha,hp2,hll,by (clear hk5 hpl hll hsl hok hl1 hs1 hp2 hr1 hn;lia)⟩,ra,λs2 rest2 hr2 G2 hK2 X2=>?_,λhn G2 hK2=>hbad (hrd1.trans (uV hn _ _)) G2 (hkp.trans hK2)⟩;have h3:=X2.sl;have hok2:=hone _ _ _ hr2;have l2:=hok2.2;have l4:=hok2.1.len;simp only[length_drop,length_append] at l2 l4 h3 hx1;refine⟨r,C,_,.ref a,rfl,X2.hr,⟨hc,cs⟩,rfl,⟨_,X2.ha⟩,_,X2.ha,by simp only[length_map,length_append];(clear hk5 hok hl1 hn hok2 l4 h3;lia),n,Nat.lt_succ_self n,s1++s2++[.op 42],rest2,by (clear hk5 hpl hll hsl hok hl1 hs1 hp2 hok2 l2 h3 hx1;lia),rfl,(hkp.trans hK2).trans (iI.aq G2 r a _),⟨(aK ra).trans X2.hr,?_,X2.pl,hll,?_⟩,hJ.trans ⟨l.take (l.length-r1.length+1),(take_append_drop _ _).symm⟩ hok2.1,?_,hrd1.trans (uU hr2 _ _)⟩
   ·rw[al];simp only[map_append,append_assoc]
    rfl
   ·simp only[length_append,length_singleton]
    (clear hk5 hpl hll hsl hok hl1 hn hok2;lia)
   ·simp only[length_append,length_singleton]
    (clear hk5 hpl hll hsl hok hs1 hp2 hn hok2 l4 h3 hx1;lia)
  ·dsimp only;rw[ycw (by decide)];rw[hdp] at h2;exact⟨_,aG.refl _,hgood s1 r1 (hrd1.trans (nQ h2 _ _)) G1 hK1 X1⟩
theorem scRsm:bg ["self","within"] ["self","within"] (ak (cJ 46 1)):=by walk_at "s"
theorem Dm {C NT:Addr} {one:List Nat->Rd} {w0 k:Nat} (hone:rN one) (hk5:5<=k) (hC:xR K C) (F:cq K "read_sum" "Reading.read_sum" (cJ 46 1) f fd) (M1:Mt P w K mg base C "pass_by" ["self","sign"] 2 (sh C) []) (M3:pU P w K mg base C "read_product" ["self","within"] k (fU C NT one w0) []):jG P w K mg base (k+1) f fd ["self","within"] (fU C NT (eZ one 43) w0):=by
 have nd:=scRsm.nd;obtain⟨hc,ct,cp,cs⟩:=hC;refine jH (k:=k) F scRsm (λws G q e h=>by obtain⟨_,_,_,_,_,rfl,_⟩:=h;rfl) (λcdv A outer s0 H E ws G q e hr hsp hE=>?_);obtain⟨r,a,l,p,s,rfl,X,ra,hgood,hbad⟩:=hsp;apply aL
 ·refine' ae ?s1 (aW (eF PassesOwn.leaving ?c2 (ae ?s3 (aW ?s4))))
  case s1=>exact bu (dv (aa 0) M3 (aw.mono hr (by (clear hk5;lia))) hE (by exact(ac (aa 1) ag)))
  case c2=>exact(bS (gH (aa 0) M1 (aw.mono hr (by lia)) (ac aZ ag)))
  case s3=>exact bu (dv (aa 0) M3 (aw.mono hr (by (clear hk5;lia))) hE (by exact(ac (aa 1) ag)))
  case s4=>exact bu (dh (by exact(dm (aa 0))) (by exact aZ))
 ·walk_at "a0";unfold eT;walk_at "R";have hpl:=X.pl;have hll:=X.ll;have hsl:=X.sl;refine⟨r,_,rfl,X.hr,rfl,r,a,l,p,s,rfl,X,ra,λs' rest hrd G' hK X'=>?_,λhn G' hK=>hbad (nP hn) G' hK⟩;have hok:=hone _ _ _ hrd;subst hU;refine jq (qL C G r a l p s one 43 (w0:Int)) ⟨rest.length,s',rest,ycx _,rfl,hK,X',hJ.trans ⟨l.take p,(take_append_drop _ _).symm⟩ hok.1,by rw[←length_drop];exact hok.2,nO hrd⟩ ?_;rintro n τ G1 ⟨s1,r1,hn,rfl,hK1,X1,hS1,hl1,hrd1⟩ B hB;have hdp:=hS1.drop;have hx1:=X1.sl;have hs1:=hS1.len;walk_at "R";refine⟨r,_,rfl,X1.hr,rfl,r,a,l,l.length-r1.length,43,rfl,X1.hr,X1.pl,X1.ll,λh2=>?_,λh2=>?_⟩
  ·obtain⟨hp2,hd2⟩:=eO h2;rw[hdp] at hd2;have hr1:=congrArg List.length hd2;rw[length_cons,length_drop] at hr1;obtain⟨n,rfl⟩:∃n',n=n'+1:=⟨n-1,by (clear hk5 hpl hll hsl hok hl1 hx1 hs1 hp2;lia)⟩;rw[hd2] at hrd1;have hkp:iI G (aQ G1 r (.ins C (lB l (l.length-r1.length+1) a))) r a:=hK1.trans (iI.r G1 r a _);dsimp only;rw[ycv rfl];refine⟨λτ1 G3=>∃m1,m1<n+1/\qL C G r a l p s one 43 (w0:Int) m1 τ1 G3,λ_ _ h=>h,?_⟩;subst hB;unfold eT;walk_at "R";refine⟨r,_,rfl,al,rfl,r,a,l,l.length-r1.length+1,s++s1,rfl,⟨al,(aK ra.symm).trans X1.ha,hp2,hll,by (clear hk5 hpl hll hsl hok hl1 hs1 hp2 hr1 hn;lia)⟩,ra,λs2 rest2 hr2 G2 hK2 X2=>?_,λhn G2 hK2=>hbad (hrd1.trans (uV hn _ _)) G2 (hkp.trans hK2)⟩;have h3:=X2.sl;have hok2:=hone _ _ _ hr2;have l2:=hok2.2;have l4:=hok2.1.len;simp only[length_drop,length_append] at l2 l4 h3 hx1;refine⟨r,C,_,.ref a,rfl,X2.hr,⟨hc,cs⟩,rfl,⟨_,X2.ha⟩,_,X2.ha,by simp only[length_map,length_append];(clear hk5 hok hl1 hn hok2 l4 h3;lia),n,Nat.lt_succ_self n,s1++s2++[.op 43],rest2,by (clear hk5 hpl hll hsl hok hl1 hs1 hp2 hok2 l2 h3 hx1;lia),rfl,(hkp.trans hK2).trans (iI.aq G2 r a _),⟨(aK ra).trans X2.hr,?_,X2.pl,hll,?_⟩,hJ.trans ⟨l.take (l.length-r1.length+1),(take_append_drop _ _).symm⟩ hok2.1,?_,hrd1.trans (uU hr2 _ _)⟩
   ·rw[al];simp only[map_append,append_assoc]
    rfl
   ·simp only[length_append,length_singleton]
    (clear hk5 hpl hll hsl hok hl1 hn hok2;lia)
   ·simp only[length_append,length_singleton]
    (clear hk5 hpl hll hsl hok hs1 hp2 hn hok2 l4 h3 hx1;lia)
  ·dsimp only;rw[ycw (by decide)];rw[hdp] at h2;exact⟨_,aG.refl _,hgood s1 r1 (hrd1.trans (nQ h2 _ _)) G1 hK1 X1⟩
noncomputable def Do (C:Addr):bA:=λws G q _=>∃(r:Addr) (l:List Nat),ws=[.ref r,.str (bZ l)]/\G r=some (.ins C [])/\l.length<=2000/\∀(a:Addr) (G':Gp),G a=none->r≠a->(∀x g,x≠r->G x=some g->G' x=some g)->DZ C G' r a l 0 []->q .non G'
theorem scRi:bg ["self","text"] ["self","text"] (ak (cJ 46 0)):=by walk_at "s"
theorem FM {C:Addr} (hC:xR K C) (F:cq K "__init__" "Reading.__init__" (cJ 46 0) f fd):cu P w K mg base 1 f fd ["self","text"] (Do C):=by
 have nd:=scRi.nd;obtain⟨hc,ct,cp,cs⟩:=hC;refine A5 F scRi (λws G q e h=>by obtain⟨_,_,rfl,_⟩:=h;rfl) (λcdv A outer s H E hr=>?_);apply aL
 ·exact(ae (jh (aa 0) (aa 1)) (ae (jh (aa 0) af) (ae (jh (aa 0) (cK ag)) ah)))
 ·rintro ws G q e ⟨r,l,rfl,hr,hl,hq⟩;walk_at "a0";refine⟨r,C,[],rfl,hr,⟨hc,ct⟩,by simp,?_⟩;walk_at "a";refine⟨r,C,_,rfl,al,⟨hc,cp⟩,by simp only[length_cons,length_nil];decide,?_⟩;subst hU;walk_at "R";rw[ycw (show ¬Str.ofString "text"=Str.ofString "place" by decide)];intro a ha;have ra:r≠a:=λz=>by rw[←z,al] at ha;cases ha
  have ha':G a=none:=by rw[aK ra.symm,aK ra.symm] at ha;exact ha
  refine⟨r,C,_,rfl,by rw[aK ra];exact al,⟨hc,cs⟩,by simp only[length_cons,length_nil];decide,aG.done (hq a _ ha' ra (λx g hx hg=>?_) ⟨?_,?_,zero_le _,hl,?_⟩)⟩
  ·have xa:x≠a:=λz=>by rw[z,ha'] at hg;cases hg
   rw[aK hx,aK xa,aK hx,aK hx];exact hg
  ·rw[al]
   rfl
  ·rw[aK ra.symm];exact al
  ·simp only[length_nil];lia
theorem Md.rmt {C:Addr} {m qual:Str} {sp:bA} (D:Md K C m qual st ps) (c:lG K C) (h:∀(f:Addr) (fd:FuncData),cq K m qual st f fd->jG P w K mg base k f fd ps sp):pU P w K mg base C m ps k sp []:=by
 obtain⟨f,fd,hm,F,b⟩:=D;exact⟨⟨f,fd,[],[],hm,h f fd F,b,.nil,λ_=> .nil⟩,c⟩
structure yK (K:yav) (mg:yew) (C NT:Addr):Prop where
 cl:xR K C
 m0:DW K C "Reading.__init__" (cJ 46 0) ["self","text"]
 m1:Md K C "read_sum" "Reading.read_sum" (cJ 46 1) ["self","within"]
 m2:Md K C "read_product" "Reading.read_product" (cJ 46 2) ["self","within"]
 m3:Md K C "read_power" "Reading.read_power" (cJ 46 3) ["self","within"]
 m4:Md K C "read_thing" "Reading.read_thing" (cJ 46 4) ["self","within"]
 m5:Md K C "word" "Reading.word" (cJ 46 5) ["self"]
 m6:Md K C "pass_by" "Reading.pass_by" (cJ 46 6) ["self","sign"]
 m7:Md K C "sign" "Reading.sign" (cJ 46 7) ["self"]
 mr:mg "Reading"=some (.ref C)
 mb:∃t,mg "MOST_BRACKETS"=some (.int 20 t)
 mC:mg "NoText"=some (.ref NT)
 xC:∃bC,XC K NT bC
theorem si (d:Nat):eZ (cC (cA d)) 43=dW d:=by rw[fy];rfl
section
variable {C NT:Addr} (D:yK K mg C NT) (F1:Fx P w K mg base "is_figure" ["sign"] 1 pv) (F2:Fx P w K mg base "is_letter" ["sign"] 1 pw) (R1:Rx P w K mg base "thing_of" ["word"] 5 (uO NT) [])
theorem AO (D:yK K mg C NT):Mt P w K mg base C "sign" ["self"] 1 (uQ C) []:=D.m7.mt D.cl.c λ_ _ F=>FH D.cl F
theorem xW (D:yK K mg C NT):Mt P w K mg base C "pass_by" ["self","sign"] 2 (sh C) []:=D.m6.mt D.cl.c λ_ _ F=>FI D.cl F (AO D)
theorem FN (D:yK K mg C NT) (F1:Fx P w K mg base "is_figure" ["sign"] 1 pv) (F2:Fx P w K mg base "is_letter" ["sign"] 1 pw):Mt P w K mg base C "word" ["self"] 2 (AN C) []:=D.m5.mt D.cl.c λ_ _ F=>FJ D.cl F (AO D) F1 F2
theorem yL (D:yK K mg C NT) (F1:Fx P w K mg base "is_figure" ["sign"] 1 pv) (F2:Fx P w K mg base "is_letter" ["sign"] 1 pw) (R1:Rx P w K mg base "thing_of" ["word"] 5 (uO NT) []) {d k:Nat} (hd:d<=20) (hk5:5<=k) {spX:bA} (M:pU P w K mg base C "read_sum" ["self","within"] k spX []) (hX:1<=d->spX=fU C NT (cA d) (21-d)):pU P w K mg base C "read_sum" ["self","within"] (k+4) (fU C NT (dW d) (20-d)) []:=by
 obtain⟨t,mb⟩:=D.mb;obtain⟨bC,xC⟩:=D.xC;have A1:pU P w K mg base C "read_thing" ["self","within"] (k+1) (fU C NT (aX (cA d)) (20-d)) []:=Md.rmt D.m4 D.cl.c λ_ _ F=>FK hd hk5 D.cl F (xW D) (FN D F1 F2) M hX R1 mb D.mC xC;have A2:pU P w K mg base C "read_power" ["self","within"] (k+2) (fU C NT (cy (cA d)) (20-d)) []:=Md.rmt D.m3 D.cl.c λ_ _ F=>FL (Nat.le_succ_of_le hk5) D.cl F (xW D) A1;have A3:pU P w K mg base C "read_product" ["self","within"] (k+3) (fU C NT (cC (cA d)) (20-d)) []:=Md.rmt D.m2 D.cl.c λ_ _ F=>Dk (kY (dI d)) (by (clear hd;lia)) D.cl F (xW D) A2;have A4:pU P w K mg base C "read_sum" ["self","within"] (k+4) (fU C NT (eZ (cC (cA d)) 43) (20-d)) []:=Md.rmt D.m1 D.cl.c λ_ _ F=>Dm (jl (dI d)) (by (clear hd;lia)) D.cl F (xW D) A3;rw[si] at A4;exact A4
theorem uW (D:yK K mg C NT) (F1:Fx P w K mg base "is_figure" ["sign"] 1 pv) (F2:Fx P w K mg base "is_letter" ["sign"] 1 pw) (R1:Rx P w K mg base "thing_of" ["word"] 5 (uO NT) []):∀d,d<=20->pU P w K mg base C "read_sum" ["self","within"] (4*d+9) (fU C NT (dW d) (20-d)) []
 | 0,hd=>yL D F1 F2 R1 hd (k:=5) (ycx _) (spX:=λ_ _ _ _=>False) (Md.rmt D.m1 D.cl.c λ_ _ _=>jG.none λ_ _ _ _ h=>h) λh=>absurd h (by decide)
 | d+1,hd=>yL D F1 F2 R1 hd (k:=4*d+9) (by walk_at "om") (uW D F1 F2 R1 d (by walk_at "om")) λ_=>by rw[show 21- (d+1)=20-d by walk_at "om"];rfl
end
noncomputable def uX (l:List Nat):Option (List bx):=if l.length<=2000 then dy l else none
noncomputable def HR (NT:Addr) (l:List Nat) (G:Gp) (q:WK) (e:WX):Prop:=(∀s,uX l=some s->∀(a:Addr) (G':Gp),aG G G'->G' a=some (.lst (s.map dz))->s.length<=8000->q (.ref a) G')/\(uX l=none->∀G',aG G G'->e (.ref NT) G')
noncomputable def GF (G:Gp) (x:W):Prop:=∃t,rA G x=some t/\fR t "str"=false
noncomputable def Dp (NT:Addr):bA:=λws G q e=>∃x:W,ws=[x]/\((∃l:List Nat,x=.str (bZ l)/\l.length<=100000/\HR NT l G q e)∨(GF G x/\∀G',aG G G'->e (.ref NT) G'))
theorem scSo:bg ["text","reading"] ["text"] (ak (ax 47)):=by walk_at "s"
theorem FO {C NT:Addr} {t1:Tok} (D:yK K mg C NT) (F:cq K "steps_of" "steps_of" (ax 47) f fd) (N1:EO P w K mg base "Reading" C ["self","text"] 1 (Do C)) (M1:Mt P w K mg base C "sign" ["self"] 1 (uQ C) []) (M3:pU P w K mg base C "read_sum" ["self","within"] 89 (fU C NT (dW 20) 0) []) (hm:mg "MOST_SIGNS"=some (.int 2000 t1)) (ml:mg "len"=none) (mi:mg "isinstance"=none) (ms:mg "str"=none):jG P w K mg base 90 f fd ["text"] (Dp NT):=by
 have nd:=scSo.nd;obtain⟨bC,xC⟩:=D.xC;obtain⟨hc,ct,cp,cs⟩:=D.cl;have mC:=D.mC;refine jH (k:=89) F scSo (λws G q e h=>by obtain⟨_,rfl,_⟩:=h;rfl) (λcdv A outer s0 H E ws G q e hr hsp hE=>?_);obtain⟨x,rfl,hsp⟩:=hsp;apply aL
 ·refine' ae (aS ?c1 (aW (du mC xC (λH1 G1=>hE _ H1 G1) rfl)) ah) (ae ?s2 (ae ?s3 (ae (aS ?c4 (aW (du mC xC (λH1 G1=>hE _ H1 G1) rfl)) ah) (aW ?s5))))
  case c1=>exact(dX (d0 (dP (bS (gm (T:="str") (x:="str") (by first | simp[jF] | assumption | decide+kernel) PyProof.Rows.boot_str ms rfl mi rfl (aa 0)))) (dc (aA fQ (aM bD rfl ml PySem.boot_len (ac (aa 0) ag)) (dC rfl hm)))))
  case s2=>exact(ay 1 nd rfl (.inl rfl) (Ac N1 (aw.mono hr (by lia)) rfl (ac (aa 0) ag)))
  case s3=>exact bu (dv (aa 1) M3 (aw.mono hr (by (clear hsp;lia))) hE (by exact(ac af ag)))
  case c4=>exact(aA (gW hr) (fq (aa 1) M1 (aw.mono hr (by lia))) aZ)
  case s5=>exact(aq (dm (aa 1)))
 ·rcases hsp with⟨l,rfl,hl,hgood,hbad⟩ | ⟨⟨t,ht,hs⟩,hbad⟩
  rotate_left
  ·walk_at "a0";rw[ht];dsimp only;rw[ycv hs];exact hbad G (aG.refl _)
  walk_at "a0";refine⟨by rw[bK];assumption,?_⟩;rw[bK];refine bB (λh1=>hbad (by unfold uX;rw[ycw (by walk_at "om")]) G (aG.refl _)) λh1=>?_;have h1:l.length<=2000:=by walk_at "om"
  have hT:uX l=dy l:=ycv h1;rw[hT] at hgood hbad;walk_at "a";intro r hr0;refine⟨r,l,rfl,al,h1,λa G1 ha ra hk X=>⟨rfl,?_⟩⟩;have ga:G a=none:=by rw[aK ra.symm] at ha;exact ha
  have ne:∀{x g},G x=some g->x≠r/\x≠a:=λhx=>⟨λz=>(by rw[z,hr0] at hx;cases hx),λz=>(by rw[z,ga] at hx;cases hx)⟩;have le1:∀{G2},iI G1 G2 r a->aG G G2:=λhK x g hx=>hK x g (ne hx).1 (ne hx).2 (hk x g (ne hx).1 ((aK (ne hx).1).trans hx));walk_at "a";unfold eT;walk_at "R";refine⟨r,_,rfl,X.hr,rfl,r,a,l,0,[],rfl,X,ra,λs' rest hrd G2 hK X2=>?_,λhn G2 hK=>hbad ?_ G2 (le1 hK)⟩
  ·have hrd:dW 20 l=some (s',rest):=hrd;have hdp:l.drop (l.length-rest.length)=rest:=by
    have:=dI 21 l s' rest hrd;exact this.1.drop
   walk_at "a";refine⟨r,_,rfl,X2.hr,rfl,r,a,l,l.length-rest.length,rfl,X2.hr,X2.pl,X2.ll,?_⟩;walk_at "R";refine⟨rfl,rfl,zero_le _,?_⟩;rw[show Str.ofString ""=bZ [] from rfl,fF,hdp];refine bB (λh=>?_) λh=>?_
   ·refine hbad ?_ G2 (le1 hK);unfold dy;rw[hrd];cases rest with
    | nil=>cases h
    | cons x rest=>rfl
   ·have hz:rest=[]:=by
     cases rest with
     | nil=>rfl
     | cons x rest=>exact absurd rfl h
    subst hz;subst hU;walk_at "R";have h3:=X2.sl;simp only[nil_append,length_nil] at h3;refine⟨r,C,_,.ref a,rfl,X2.hr,⟨hc,cs⟩,rfl,aG.done (hgood s' ?_ a G2 (le1 hK) X2.ha (by (clear h1;lia)))⟩;unfold dy;rw[hrd]
  ·have hn:dW 20 l=none:=hn;unfold dy;rw[hn]
noncomputable def sj (kvs:List (bd×W)) (nm:List Nat->Option O):Prop:=∀l,eg kvs (.inr (bZ l))=(nm l).map λb=> .tup (am b)
noncomputable def AQ (NN:Addr):bA:=λws G q e=>∃(a d:Addr) (s:List bx) (kvs:List (bd×W)) (nm:List Nat->Option O),ws=[.ref a,.ref d]/\G a=some (.lst (s.map dz))/\GD G d kvs/\sj kvs nm/\s.length<=8000/\(∀x,x∈s->mS x)/\
 (∀s',dD nm s=some s'->∀(b:Addr) (G':Gp),aG G G'->G' b=some (.lst (s'.map dz))->q (.ref b) G')/\(dD nm s=none->∀G',aG G G'->e (.ref NN) G')
theorem GD.le {G G':Gp} {kvs:List (bd×W)} (h:GD G a kvs) (l:aG G G'):GD G' a kvs:=by
 rcases h with h | ⟨o,us,h⟩
 ·exact .inl (l _ _ h)
 ·exact .inr ⟨o,us,l _ _ h⟩
theorem lC {l:List Nat} (h:bY l=true):∀x,l=[x]->x≠43/\x≠42/\x≠94:=λx e=>by
 subst e;unfold bY at h;simp only[Bool.and_eq_true,all_cons] at h;have:97<=x/\x<=122:=of_decide_eq_true h.2.1
 (clear h;lia)
noncomputable def joinG:List Str:=["+","*","^"]
theorem nR (l:List Nat):(joinG.any λt=>t==bZ l)=decide (l=[43]∨l=[42]∨l=[94]):=by
 have e:joinG=[bZ [43],bZ [42],bZ [94]]:=rfl;rw[e,Bool.eq_iff_iff];simp only[any_cons,List.any_nil,Bool.or_eq_true,beq_iff_eq,qK,decide_eq_true_eq,Bool.false_eq_true,or_false];constructor
 ·rintro(h | h | h)
  ·exact .inl h.symm
  ·exact .inr (.inl h.symm)
  ·exact .inr (.inr h.symm)
 ·rintro(h | h | h)
  ·exact .inl h.symm
  ·exact .inr (.inl h.symm)
  ·exact .inr (.inr h.symm)
theorem scLu:bg ["steps","names","found","step"] ["steps","names"] (ak (ax 48)):=by walk_at "s"
theorem FP {NN aj:Addr} {bN:yez} (F:cq K "looked_up" "looked_up" (ax 48) f fd) (mj:mg "JOINING"=some (.ref aj)) (hj:E8 K aj joinG) (mC:mg "NoName"=some (.ref NN)) (xC:XC K NN bN) (mi:mg "isinstance"=none) (mt:mg "tuple"=none):jG P w K mg base 2 f fd ["steps","names"] (AQ NN):=by
 have nd:=scLu.nd;refine jH (k:=1) F scLu (λws G q e h=>by obtain⟨_,_,_,_,_,rfl,_⟩:=h;rfl) (λcdv A outer s0 H E ws G q e hr hsp hE=>?_);obtain⟨a,d,s,kvs,nm,rfl,ha,hd,hnm,hsl,hok,hgood,hbad⟩:=hsp;apply aL
 ·refine' ae ?s1 (ae (cR PassesOwn.leaving rfl ?it ?tg (aW (aS (dX (d0 ?c1 (dc (aA (CP hj) ?x1 (ww ?g1 mj) rfl)))) ?b1 (aW (aS ?c2 ?b2 (aW (du mC xC (λH1 G1=>hE _ H1 G1) rfl))))))) (aW ?s3))
  case s1=>exact(ay 2 nd rfl (.inl rfl) (cK ag))
  case it=>exact(bv (aa 0))
  case tg=>exact(bI 3 nd rfl (.inl rfl))
  case c1=>exact(bS (gm (T:="tuple") (x:="tuple") (by first | simp[jF] | assumption | decide+kernel) d6 mt rfl mi rfl (aa 3)))
  case x1=>exact(aa 3)
  case g1=>rfl
  case b1=>exact(ae (bu (dh (aa 2) (aa 3))) ah)
  case c2=>exact(aA (Cy hr) (aa 3) (aa 1) rfl)
  case b2=>exact(ae (bu (dh (aa 2) (aE aF (aa 1) (aa 3)))) ah)
  case s3=>exact(aq (aa 2))
 ·walk_at "a0";intro p hp;have ap:a≠p:=λz=>by rw[z,hp] at ha;cases ha
  walk_at "a";refine⟨_,(aK ap).trans ha,?_⟩;refine bU (λws τ G'=>∃(s1 acc:List bx) (t3:Option W),ws=s1.map dz/\τ=[some (.ref a),some (.ref d),some (.ref p),t3]/\aG G G'/\G' p=some (.lst (acc.map dz))/\acc.length+s1.length<=8000/\(∀x,x∈s1->mS x)/\dD nm s=(dD nm s1).map (acc++ ·)) ?_ ?_ _ _ _ ⟨s,[],_,rfl,rfl,aG.new hp,al,by simpa using hsl,hok,by cases dD nm s<;> rfl⟩
  ·rintro τ G' ⟨s1,acc,t3,hw,rfl,hle,hG,hl,_,hlk⟩;cases s1 with
   | cons x s1=>cases hw
   | nil=>
     refine⟨hle _ _ ha,?_⟩;subst hU;walk_at "R";refine aG.done (hgood acc ?_ p G' hle hG);rw[hlk];show some (acc++[])=_;rw[append_nil]
  ·rintro w1 ws τ G' kk ⟨s1,acc,t3,hw,rfl,hle,hG,hl,hok1,hlk⟩ hk;cases s1 with
   | nil=>cases hw
   | cons x s1=>
     cases hw;refine⟨hle _ _ ha,?_⟩;rw[length_cons] at hl;have hx:=hok1 x yby;have next:∀(y:bx) (v:W),v=dz y->dD nm s=(dD nm s1).map ((acc++[y])++ ·)->(∃xs,G' p=some (GO.lst xs))/\∃ys,G' p=some (.lst ys)/\ys.length<=99999/\kk [some (.ref a),some (.ref d),some (.ref p),some (dz x)] (aQ G' p (.lst (ys++[v]))):=λy v hv hl2=>by
      subst hv;refine⟨⟨_,hG⟩,_,hG,by rw[length_map];(clear hsl;lia),hk _ _ ⟨s1,acc++[y],_,rfl,rfl,aG.put hle hp,?_,?_,λz hz=>hok1 z (ybx _ hz),hl2⟩⟩
      ·rw[al,map_append]
       rfl
      ·rw[length_append,length_singleton]
       (clear hsl;lia)
     have lk1:∀{y:bx},dD nm (x::s1)=(dD nm s1).map (y:: ·)->dD nm s=(dD nm s1).map ((acc++[y])++ ·):=λh=>by
      rw[hlk,h,Option.map_map]
      congr 1
      funext z
      simp
     cases x with
     | num b=>
       unfold dz;walk_at "R";exact next (.num b) _ rfl (lk1 rfl)
     | op y=>
       unfold dz;walk_at "R";simp only[rA];rw[ycw (by decide)];refine⟨_,rfl,rfl,?_⟩;dsimp only;rw[nR,ycv (ydz (by rcases hx with h | h | h<;> rw[h]<;> simp))];exact next (.op y) _ rfl (lk1 rfl)
     | nam l=>
       unfold dz;walk_at "R";simp only[rA];rw[ycw (by decide)];refine⟨_,rfl,rfl,?_⟩;dsimp only;rw[nR,ycw (λh=>by
        rcases of_decide_eq_true h with h | h | h
        ·exact(lC hx _ h).1 rfl
        ·exact(lC hx _ h).2.1 rfl
        ·exact(lC hx _ h).2.2 rfl)]
       refine⟨_,.dic (GD.le hd hle),?_⟩;rw[hnm];have lk2:dD nm (.nam l::s1)=match nm l with | some b=>(dD nm s1).map (.num b:: ·) | none=>none:=rfl
       cases eN:nm l with
       | none=>
         rw[eN] at lk2;rw[lk2] at hlk;rw[ycw (by simp)];exact hbad hlk G' hle
       | some b=>
         rw[eN] at lk2;rw[ycv (show(Option.map (λb=>W.tup (am b)) (some b)).isSome=true from rfl)];obtain⟨h1,h2⟩:=next (.num b) (.tup (am b)) rfl (lk1 lk2);exact⟨h1,kvs,.tup (am b),GD.le hd hle,by rw[hnm,eN];rfl,h2⟩
noncomputable def FQ (G:Gp) (v:W) (nm:List Nat->Option O):Prop:=(∀l b,nm l=some b->gh b)/\((v=.non/\∀l,nm l=none)∨∃d kvs,v=.ref d/\GD G d kvs/\sj kvs nm)
structure HS (NT NN TG:Addr) (l:List Nat) (nm:List Nat->Option O) (G:Gp) (q:WK) (e:WX):Prop where
 bad:uX l=none->∀G',aG G G'->e (.ref NT) G'
 nam:∀s,uX l=some s->(∃m,m∈A9 s/\nm m=none)->∀G',aG G G'->e (.ref NN) G'
 num:∀s s',uX l=some s->dD nm s=some s'->∀r,eh s' []=some [r]->gh r->q (.tup (am r)) G
 tg:∀s s',uX l=some s->dD nm s=some s'->eh s' []=none->∀G',aG G G'->e (.ref TG) G'
noncomputable def Dq (NT NN TG:Addr):bA:=λws G q e=>∃(x v:W) (nm:List Nat->Option O),ws=[x,v]/\FQ G v nm/\((∃l:List Nat,x=.str (bZ l)/\l.length<=100000/\HS NT NN TG l nm G q e)∨(GF G x/\∀G',aG G G'->e (.ref NT) G'))
theorem FR {a:O} (h:a.NF/\Aj a):gh a:=⟨h.1,by have:=h.2.1;lia,Int.lt_of_lt_of_le h.2.2.1 (by decide+kernel),by have:=h.2.2.2;lia⟩
theorem scRe:bg ["text","names"] ["text","names"] (ak (ax 55)):=by walk_at "s"
theorem FS {NT NN TG T:Addr} {ds:yez} (F:gs K "read" "read" (ax 55) f fd T ds) (R1:Rx P w K mg base "steps_of" ["text"] 90 (Dp NT) []) (R2:Rx P w K mg base "looked_up" ["steps","names"] 2 (AQ NN) []) (R3:Rx P w K mg base "reckoned" ["steps"] 64 (AM TG) []):jG P w K mg base 91 f fd ["text","names"] (Dq NT NN TG):=by
 have nd:=scRe.nd;refine Cb (k:=90) F scRe (λws G q e h=>by obtain⟨_,_,_,rfl,_⟩:=h;rfl) (λcdv A outer s0 H E ws G q e hr hsp hE=>?_);obtain⟨x,v,nm,rfl,⟨hft,hv⟩,hsp⟩:=hsp;apply aL
 ·refine' aW (aq (eI R3 (aw.mono hr (by (clear hsp;lia))) hE rfl (ac (eI R2 (aw.mono hr (by (clear hsp;lia))) hE rfl (ac (eI R1 (aw.mono hr (by (clear hsp;lia))) hE rfl ?a1) (ac ?n2 ag))) ag)))
  case a1=>exact(ac (aa 0) ag)
  case n2=>exact(i9 (aA pK (aa 1) dM) qt (aa 1))
 ·walk_at "R";rcases hsp with⟨l,rfl,hl,hT⟩ | ⟨hx,hbad⟩
  rotate_left
  ·exact⟨x,rfl,.inr ⟨hx,hbad⟩⟩
  refine⟨_,rfl,.inl ⟨l,rfl,hl,λs hrd a G1 le1 ga hs=>?_,hT.bad⟩⟩;have hrd2:dy l=some s:=by
   unfold uX at hrd;split at hrd
   ·exact hrd
   ·cases hrd
  have hok:=wI hrd2;have go:∀(d:Addr) (kvs:List (bd×W)) (G2:Gp),aG G G2->G2 a=some (.lst (s.map dz))->GD G2 d kvs->sj kvs nm->AQ NN [.ref a,.ref d] G2 (λx G1=>AM TG [x] G1 (λw G1=>∃G0,aG G0 G1/\q w G0) e) e:=λd kvs G2 le2 ga2 hd hn=>by
   refine⟨a,d,s,kvs,nm,rfl,ga2,hd,hn,hs,hok,λs' hlk b G3 le3 gb=>?_,λhlk G3 le3=>hT.nam s hrd ((gL nm s).mp hlk) G3 (le2.trans le3)⟩;obtain⟨k1,k2,k3⟩:=kZ nm s s' hlk;refine⟨b,s',rfl,gb,by (clear hl;lia),λy hy=>?_,by rw[k1];exact wK hrd2,λr hr hf G4 le4=>⟨G,(le2.trans le3).trans le4,hT.num s s' hrd hlk r hr hf⟩,λhn G4 le4=>hT.tg s s' hrd hlk hn G4 ((le2.trans le3).trans le4)⟩;rcases k3 y hy with⟨m,b',rfl,hb⟩ | ⟨h1,h2⟩
   ·exact hft m b' hb
   ·have:=hok y h1;cases y with
    | num a=>exact FR this
    | nam m=>exact absurd rfl (h2 m)
    | op c=>exact this
  walk_at "R";rcases hv with⟨rfl,hn⟩ | ⟨d,kvs,rfl,hd,hn⟩
  ·rw[ycv (by rfl)];intro p hp;exact go p [] _ (le1.trans (aG.new hp)) (aV ga hp) (.inl al) λl=>by rw[hn];rfl
  ·rw[ycw (show ¬(false ^^ fY (.ref d))=true from λh=>Bool.noConfusion h)];exact go d kvs G1 le1 ga (GD.le hd le1) hn
noncomputable def ei (s:List bx) (a:O):Prop:=∀(t:List bx) (st:List O),eh (s++t) st=eh t (a::st)
noncomputable def nS (s:List bx):Prop:=∀(t:List bx) (st:List O),eh (s++t) st=none
theorem gY (a:O):ei [.num a] a:=λ_ _=>rfl
theorem ei.all {s:List bx} {a:O} (h:ei s a):eh s []=some [a]:=by
 have:=h [] [];rw[append_nil] at this;rw[this]
 rfl
theorem nS.all {s:List bx} (h:nS s):eh s []=none:=by
 have:=h [] []
 rwa [append_nil] at this
theorem fN (s t u:List bx) (x:bx):s++t++[x]++u=s++(t++(x::u)):=by simp
theorem sk {s t:List bx} {a b r:O} {x:Nat} (h:ei s a) (g:ei t b) (hj:nM x a b=some r):ei (s++t++[.op x]) r:=λu st=>by
 rw[fN,h,g];show(match nM x a b with | some r=>eh u (r::st) | none=>none)=_;rw[hj]
theorem uY {s t:List bx} {a b:O} {x:Nat} (h:ei s a) (g:ei t b) (hj:nM x a b=none):nS (s++t++[.op x]):=λu st=>by
 rw[fN,h,g];show(match nM x a b with | some r=>eh u (r::st) | none=>none)=_;rw[hj]
theorem uZ {s:List bx} (h:nS s) (t:List bx) (x:bx):nS (s++t++[x]):=λu st=>by
 rw[fN];exact h _ st
theorem so {s t:List bx} {a:O} (h:ei s a) (g:nS t) (x:bx):nS (s++t++[x]):=λu st=>by
 rw[fN,h];exact g _ _
noncomputable def nZ (nm:List Nat->Option O) (D k:Nat) (l:List Nat) (a:O):Prop:=∃s s',kc k D l s/\dD nm s=some s'/\ei s' a
noncomputable def u0 (nm:List Nat->Option O) (D k:Nat) (l:List Nat):Prop:=∃s s',kc k D l s/\dD nm s=some s'/\nS s'
theorem nZ.le {nm:List Nat->Option O} {D D2 k:Nat} {l:List Nat} {a:O} (h:nZ nm D k l a) (hD:D<=D2):nZ nm D2 k l a:=by
 obtain⟨s,s',h1,h2,h3⟩:=h;exact⟨s,s',h1.le hD,h2,h3⟩
noncomputable def cX (b:Bool) (l:List Nat):List Nat:=if b=true then 40::(l++[41]) else l
noncomputable def jB:Nat->Nat
 | 0=>3
 | 1=>2
 | _=>0
noncomputable def jC:Nat->Nat
 | 0=>2
 | 1=>1
 | _=>0
noncomputable def cB:Nat->Nat
 | 0=>43
 | 1=>42
 | _=>94
noncomputable def fG:Nat->Nat
 | 0=>3
 | 1=>2
 | _=>1
theorem Dr {D k:Nat} {l:List Nat} {s:List bx} (h:kc k D l s) (b:Bool):nY (D+1) (cX b l) s:=by
 unfold cX;split
 ·exact h.sum.br.up.up.up
 ·exact h.sum.le (le_succ D)
theorem yM {D k:Nat} {l:List Nat} {s:List bx} (h:kc k D l s) (b:Bool) (hb:b=false->k<=2):nX (D+1) (cX b l) s:=by
 unfold cX;split
 ·exact h.sum.br.up.up
 ·exact(h.prod (hb (by simpa using ‹¬b=true›))).le (le_succ D)
theorem Ds {D k:Nat} {l:List Nat} {s:List bx} (h:kc k D l s) (b:Bool) (hb:b=false->k<=1):qm (D+1) (cX b l) s:=by
 unfold cX;split
 ·exact h.sum.br.up
 ·exact(h.pow (hb (by simpa using ‹¬b=true›))).le (le_succ D)
theorem yN {D k:Nat} {l:List Nat} {s:List bx} (h:kc k D l s) (b:Bool) (hb:b=false->k<=0):lg (D+1) (cX b l) s:=by
 unfold cX;split
 ·exact h.sum.br
 ·exact(h.thing (Nat.le_zero.mp (hb (by simpa using ‹¬b=true›)))).le (le_succ D)
theorem lD {D k k2 w:Nat} {l m:List Nat} {s t:List bx} (h:kc k D l s) (g:kc k2 D m t) (b c:Bool) (hb:b=false->k<=jB w) (hc:c=false->k2<=jC w):kc (fG w) (D+1) (cX b l++cB w::cX c m) (s++t++[.op (cB w)]):=
 match w,hb,hc with
 | 0,_,hc=>Am (Dr h b) (yM g c hc)
 | 1,hb,hc=>wM (yM h b hb) (Ds g c hc)
 | _+2,hb,hc=>An (yN h b hb) (yN g c hc)
theorem gZ {nm:List Nat->Option O} {s t s' t':List bx} {x:Nat} (h:dD nm s=some s') (g:dD nm t=some t'):dD nm (s++t++[.op x])=some (s'++t'++[.op x]):=gM nm (gM nm h g) rfl
theorem xX {nm:List Nat->Option O} {D k k2 w:Nat} {l m:List Nat} {a a2:O} (h:nZ nm D k l a) (g:nZ nm D k2 m a2) (b c:Bool) (hb:b=false->k<=jB w) (hc:c=false->k2<=jC w):(∀r,nM (cB w) a a2=some r->nZ nm (D+1) (fG w) (cX b l++cB w::cX c m) r)/\(nM (cB w) a a2=none->u0 nm (D+1) (fG w) (cX b l++cB w::cX c m)):=by
 obtain⟨s,s',h1,h2,h3⟩:=h;obtain⟨t,t',g1,g2,g3⟩:=g;exact⟨λr hr=>⟨_,_,lD h1 g1 b c hb hc,gZ h2 g2,sk h3 g3 hr⟩,λhn=>⟨_,_,lD h1 g1 b c hb hc,gZ h2 g2,uY h3 g3 hn⟩⟩
theorem lE {nm:List Nat->Option O} {D k:Nat} {l:List Nat} (h:u0 nm D k l) {x:Nat} {v:O} (hy:∀E,lg E [x] [.num v]) (w:Nat):u0 nm (D+1) (fG w) (x::cB w::40::(l++[41]))/\u0 nm (D+1) (fG w) (40::(l++[41])++[cB w,x]):=by
 obtain⟨s,s',h1,h2,h3⟩:=h;have e1:=lD (k:=0) (w:=w) (hy D) h1 false true (λ_=>zero_le _) (λz=>by cases z);have e2:=lD (k2:=0) (w:=w) h1 (hy D) true false (λz=>by cases z) (λ_=>zero_le _);exact⟨⟨_,_,e1,gZ (s:=[.num v]) rfl h2,so (gY v) h3 _⟩,⟨_,_,e2,gZ (t:=[.num v]) h2 rfl,uZ h3 _ _⟩⟩
theorem nZ.rd {nm:List Nat->Option O} {D k:Nat} {l:List Nat} {a:O} (h:nZ nm D k l a) (hD:D<=20):∃s s',dy l=some s/\dD nm s=some s'/\eh s' []=some [a]:=by
 obtain⟨s,s',h1,h2,h3⟩:=h;exact⟨s,s',h1.sum.all hD,h2,h3.all⟩
theorem u0.rd {nm:List Nat->Option O} {D k:Nat} {l:List Nat} (h:u0 nm D k l) (hD:D<=20):∃s s',dy l=some s/\dD nm s=some s'/\eh s' []=none:=by
 obtain⟨s,s',h1,h2,h3⟩:=h;exact⟨s,s',h1.sum.all hD,h2,h3.all⟩
noncomputable def u3:bA:=λws G q _=>∃c:Int,ws=[.int c]/\∀l:List Nat,bY l=true->q (.str (bZ l)) G
noncomputable abbrev GG (cs:List Nat):List W:=cs.map λy=> .str (bZ [y])
theorem AR (cs:List Nat):rX (cs.map λy=>bZ [y])=bZ cs:=by
 unfold rX
 congr 2
 rw[map_map]
 induction cs with
 | nil=>rfl
 | cons y cs ih=>rw[map_cons,flatten_cons,ih];rfl
theorem AS (cs:List Nat):((cs.map λy=>bZ [y]).map λt=>t.length).sum=cs.length:=by
 induction cs with
 | nil=>rfl
 | cons y cs ih=>rw[map_cons,map_cons,sum_cons,ih,length_cons,bK,length_singleton];(clear ih;lia)
theorem AT {l:List Nat} (h1:1<=l.length) (h2:l.length<=8) (h3:l≠[119]) (h4:l.all dw=true):bY l=true:=by
 unfold bY;rw[h4,ydz (And.intro h1 h2),ydz h3]
 rfl
theorem bY.len {l:List Nat} (h:bY l=true):1<=l.length/\l.length<=8/\l≠[119]/\l.all dw=true:=by
 unfold bY at h;simp only[Bool.and_eq_true,decide_eq_true_eq] at h;exact⟨h.1.1.1,h.1.1.2,h.1.2,h.2⟩
theorem xY {l:List Nat} (h:bY l=true):j6 l=some (.nam l):=by
 obtain⟨h1,h2,h3,h4⟩:=bY.len h;unfold j6;rw[ycw h3,if_neg,ycv h];intro z;unfold bX at z;simp only[Bool.and_eq_true] at z;cases l with
 | nil=>cases h1
 | cons y l=>
   have a1:cE y=true:=all_eq_true.mp z.1.2 y yby;have a2:dw y=true:=all_eq_true.mp h4 y yby;have:=of_decide_eq_true a1;have:=of_decide_eq_true a2
   (clear h1 h2 z;lia)
theorem xZ {l:List Nat} (h:bY l=true):∀y,y∈l->eJ y=true:=λy hy=>by
 unfold eJ;rw[all_eq_true.mp (bY.len h).2.2.2 y hy,Bool.or_true]
theorem x4 {nm:List Nat->Option O} (D:Nat) {l:List Nat} {a:O} (h:bY l=true) (ha:nm l=some a):nZ nm D 0 l a:=
 ⟨_,[.num a],wL (xZ h) (xY h),by show(match nm l with | some b=>(dD nm []).map (bx.num b:: ·) | none=>none)=_;rw[ha];rfl,gY a⟩
theorem iT (nm:List Nat->Option O) (D:Nat) {n:Int} (h0:0<=n) (h1:n<10^60):nZ nm D 0 (e9 n.toNat) (O.wh n):=
 ⟨[.num (O.wh n)],_,λ_ _ _ hn=>o5 AG h0 h1 hn,rfl,gY _⟩
theorem Dt (nm:List Nat->Option O) (D:Nat):nZ nm D 0 [119] om:=
 ⟨[.num om],_,λ_ _ _ hn=>EV hn,rfl,gY _⟩
theorem AU (F:cq K "_law_name" "_law_name" (ax 64) f fd) (mr:mg "range"=none):cu P w K mg base 1 f fd ["_law_cell"] u3:=by
 refine eM (k:=0) F (N:=["_law_cell","_law_letters","_law_place","_law_signs","_law_k","_law_name_here"]) (by walk_at "s") (by walk_at "l") λ_ _ _ _ _ _ nd hr=>?_;apply aL
 ·exact(ae (ay 1 nd rfl (.inl rfl) aZ) (ae (ay 2 nd rfl (.inl rfl) (au bE (au ck (aa 0) af) af)) (ae (ay 3 nd rfl (.inl rfl) (cK ag)) (ae (cR PySem.PassesOwn.never rfl (fi rfl mr (ac (au aU af (au bE (aa 0) af)) ag)) (bI 4 nd rfl (.inl rfl)) (ae (aS (aA (bo hr) (aa 4) (aa 2)) (ae (bu (dh (aa 3) (aE aF (aa 1) (au bE (au ck (aa 0) af) af)))) ah) (ae (bu (dh (aa 3) (aE aF (aa 1) (au bE (au ck (aa 0) af) af)))) ah)) ah)) (ae (ay 5 nd rfl (.inl rfl) (xp (aa 3))) (ae (aS (aA (bo hr) (aa 5) aZ) (ae (aq aZ) ah) ah) (ae (aq (aa 5)) ah)))))))
 ·rintro ws G q e ⟨c,rfl,hq⟩;walk_at "a0";obtain⟨z,hz⟩:∃z:Str,z=Str.ofString "abcdefghijklmnopqrstuvwxyz":=⟨_,rfl⟩;have hzl:z.length=26:=by rw[hz];rfl
  have hza:∀y,y∈z.cps.toList->dw y=true:=by rw[hz];decide+kernel
  rw[←hz];walk_at "a";walk_at "a";intro p hp;walk_at "a";have h8:=fC (i:=c) (j:=8) (by (clear hzl;lia));refine⟨by lia,by lia,?_⟩;have pickS:∀X:Int,∃y,eA z.cps.toList (X%26)=some y/\dw y=true:=λX=>by
   have h26:=fC (i:=X) (j:=26) (by (clear hzl h8;lia));obtain⟨i,hi⟩:∃i:Nat,X%26=(i:Int):=⟨(X%26).toNat,by (clear hzl h8;lia)⟩;have hi2:i<z.cps.toList.length:=by rw[lp];(clear h8;lia)
   rw[hi];exact⟨_,eR (ycz hi2),hza _ (getElem_mem hi2)⟩
  refine iQ (1+c%8).toNat (λi τ G'=>∃(cs:List Nat) (t4 t5:Option W),τ=[some (.int c),some (.str z),some (.int (c/5408%8)),some (.ref p),t4,t5]/\aG G G'/\G' p=some (.lst (GG cs))/\cs.length=i/\cs.all dw=true) ⟨[],_,_,rfl,aG.new hp,al,rfl,rfl⟩ ?_ ?_
  ·rintro τ G' ⟨cs,t4,t5,rfl,hle,hG,hlen,hall⟩;refine⟨trivial,?_⟩;subst hU;dsimp only;walk_at "a0";refine⟨p,cs.map λy=>bZ [y],rfl,by rw[hG,map_map];rfl,by rw[AS];(clear hzl;lia),?_⟩;rw[AR];walk_at "a";refine⟨rfl,rfl,zero_le _,?_⟩;refine bB (λh=>⟨G,hle,hq [119,119] (by decide)⟩) λh=>?_;subst hU;walk_at "R";exact⟨G,hle,hq cs (AT (by (clear hzl;lia)) (by (clear hzl;lia)) (λz=>h (by rw[z];rfl)) hall)⟩
  ·rintro i τ G' kk hi ⟨cs,t4,t5,rfl,hle,hG,hlen,hall⟩ hk;refine⟨trivial,?_⟩;have next:∀(y:Nat) (t4 t5:Option W),dw y=true->(∃xs,G' p=some (GO.lst xs))/\∃ys,G' p=some (.lst ys)/\ys.length<=99999/\kk [some (.int c),some (.str z),some (.int (c/5408%8)),some (.ref p),t4,t5] (aQ G' p (.lst (ys++[.str (bZ [y])]))):=λy t4 t5 hl=>by
    refine⟨⟨_,hG⟩,_,hG,by rw[length_map];(clear hzl;lia),hk _ _ ⟨cs++[y],_,_,rfl,aG.put hle hp,?_,by rw[length_append,length_singleton,hlen],by rw[List.all_append,hall];simpa using hl⟩⟩;rw[al];simp[GG]
   walk_at "R";refine bB (λ_=>?_) λ_=>?_
   ·obtain⟨y,hy,hl⟩:=pickS (c/208);obtain⟨h1,h2⟩:=next y (some (.int i)) t5 hl;exact⟨h1,by (clear h8 hi hlen;lia),y,hy,h2⟩
   ·obtain⟨y,hy,hl⟩:=pickS (c/8);obtain⟨h1,h2⟩:=next y (some (.int i)) t5 hl;exact⟨h1,by (clear h8 hi hlen;lia),y,hy,h2⟩
noncomputable def Dv:bA:=λws G q _=>∃(y:Nat) (a b:O),ws=[.int y,.tup (am a),.tup (am b)]/\y<=2/\gh a/\gh b/\(¬(y=2/\sd a b)->xL (gJ (cB y) a b)->∀G',aG G G'->q (.tup (am (gJ (cB y) a b))) G')/\(y=2/\sd a b->∀G',aG G G'->q .non G')
theorem FT {TG:Addr} {bT:yez} (F:cq K "_law_joined" "_law_joined" (ax 70) f fd) (F1:Fx P w K mg base "plus" ["a","b"] 3 xI) (F2:Fx P w K mg base "times" ["a","b"] 4 pp) (R3:Rx P w K mg base "power" ["a","b"] 6 (AK TG) []) (mC:mg "TooGreat"=some (.ref TG)) (xC:XC K TG bT):cu P w K mg base 7 f fd ["_law_way","_law_one","_law_other"] Dv:=by
 refine eM F (N:=["_law_way","_law_one","_law_other","_law_found"]) (by walk_at "s") (by walk_at "l") λ_ _ _ _ _ _ nd hr=>?_;apply aL
 ·refine' ae ?s1 (ae ?s2 (ae ?s3 (ae ?s4 ?s5)))
  case s1=>exact(aS (aA (bo hr) (aa 0) af) (ae (aq (aB F1 (aw.mono hr (by lia)) rfl (ac (aa 1) (ac (aa 2) ag)))) ah) ah)
  case s2=>exact(aS (aA (bo hr) (aa 0) af) (ae (aq (aB F2 (aw.mono hr (by lia)) rfl (ac (aa 1) (ac (aa 2) ag)))) ah) ah)
  case s3=>exact(ay 3 nd rfl (.inl rfl) dM)
  case s4=>
   refine' pQ rfl rfl (pP (uc 3 (λ_ _ z=>z) nd rfl (Or.inl rfl) R3 (aw.mono hr (by walk_at "om")) rfl ?a)) (gG (wo mC rfl xC xC xC.self λa oe hoe=>?b) pR)
   case a=>exact(ac (aa 1) (ac (aa 2) ag))
   case b=>exact(ae (ay 3 nd rfl (.inl rfl) dM) ah)
  case s5=>exact(ae (aq (aa 3)) ah)
 ·rintro ws G q e ⟨y,a,b,rfl,hy,fa,fb,hgood,hbad⟩;have la:=O.len_le_size a;have lb:=O.len_le_size b;have wa:=O.hw_le_size a;have wb:=O.hw_le_size b;obtain⟨na,a1,a2,a3⟩:=id fa;obtain⟨nb,b1,b2,b3⟩:=id fb;walk_at "a0";refine bB (λh=>?_) λh0=>?_
  ·have hy0:y=0:=by (clear hy la lb wa wb a1 a2 a3 b1 b2 b3;lia)
   subst hy0;have hd:=O.dp_plus a b;have hw:=O.hw_plus a b;exact⟨a,b,rfl,na,by walk_at "om",by walk_at "om",by (clear lb wa wb a2 a3 b1 b2 b3 hy h hd hw;lia),by (clear la wa wb a1 a2 a3 b2 b3 hy h hd hw;lia),aG.done (hgood (λz=>by cases z.1) ⟨O.NF.plus na nb,by show O.hw (O.plusO a b)<=20000;(clear la lb a2 a3 b2 b3 hy h hd;lia),by show(O.plusO a b).dp<=50;(clear la lb wa wb a1 a2 b1 b2 hy h hw;lia)⟩ G (aG.refl G))⟩
  walk_at "a";refine bB (λh=>?_) λh1=>?_
  ·have hy1:y=1:=by (clear hy la lb wa wb a1 a2 a3 b1 b2 b3 h0;lia)
   subst hy1;have hd:=O.dp_times a b;have hw:=O.hw_times a b;exact⟨a,b,rfl,na,nb,by walk_at "om",by walk_at "om",by (clear la lb wb a2 a3 b1 b2 b3 hy h0 h hd hw;lia),by (clear la lb wa a1 a2 a3 b2 b3 hy h0 h hd hw;lia),xK a2 b2,aG.done (hgood (λz=>by cases z.1) ⟨O.NF.times na nb,by show O.hw (O.timesO a b)<=20000;(clear la lb a2 a3 b2 b3 hy h0 h hd;lia),by show(O.timesO a b).dp<=50;(clear la lb wa wb a1 a2 b1 b2 hy h0 h hw;lia)⟩ G (aG.refl G))⟩
  have hy2:y=2:=by (clear la lb wa wb a1 a2 a3 b1 b2 b3;lia)
  subst hy2;walk_at "a";walk_at "a";refine⟨a,b,rfl,fa,fb,λhn hr=>?_,λhn G' hG D hD=>?_⟩
  ·subst hU;walk_at "R";exact aG.done (hgood (λz=>hn z.2) hr G (aG.refl G))
  ·cases hD;refine⟨_,.head _,?_⟩;walk_at "R";subst hU;walk_at "R";exact aG.done (hbad ⟨rfl,hn⟩ _ hG)
noncomputable def Dw:bA:=λws G q _=>∃(l:List Nat) (k m:Nat) (a:O) (b:Bool),ws=[.tup [.str (bZ l),.int k,.tup (am a)],.int m,.bl b]/\l.length<=1000/\q (.str (bZ (cX (decide (m<k)||b) l))) G
theorem FU (F:cq K "_law_side" "_law_side" (ax 72) f fd):cu P w K mg base 1 f fd ["_law_entry","_law_most","_law_always"] Dw:=by
 refine eM (k:=0) F (N:=["_law_entry","_law_most","_law_always"]) (by walk_at "s") (by walk_at "l") λ_ _ _ _ _ _ nd hr=>?_;apply aL
 ·exact(ae (aS (dX (d0 (aA fQ (aE aF (aa 0) af) (aa 1)) (dc (bS (aa 2))))) (ae (aq (au aU (au aU aZ (aE aF (aa 0) af)) aZ)) ah) ah) (ae (aq (aE aF (aa 0) af)) ah))
 ·rintro ws G q e ⟨l,k,m,a,b,rfl,hl,hq⟩;walk_at "a0";have lo:Str.ofString "("=bZ [40]:=rfl;have lc:Str.ofString ")"=bZ [41]:=rfl;rw[lo,lc,gX,gX];simp only[bK];have brk:(decide (m<k)||b)=true->[40].length+l.length<=100000/\([40]++l).length+[41].length<=100000/\∃G0,aG G0 G/\q (.str (bZ ([40]++l++[41]))) G0:=λh=>by
   refine⟨by rw[length_singleton];(clear h;lia),by simp only[length_append,length_singleton];(clear h;lia),aG.done ?_⟩;rw[h] at hq;exact hq
  refine bB (λh=>brk (by rw[ydz (by (clear hl;lia):m<k)];rfl)) λh=>?_;refine bB (λhb=>brk (by rw[hb,Bool.or_true])) λhb=>?_;subst hU;walk_at "R";rw[ydy (by (clear hl;lia):¬m<k),Bool.eq_false_iff.mpr hb] at hq;exact aG.done hq
noncomputable abbrev FV (l:List Nat) (k:Nat) (a:O):W:= .tup [.str (bZ l),.int k,.tup (am a)]
noncomputable def px (y:Nat) (c:Int) (l:List Nat) (k:Nat) (l2:List Nat) (k2:Nat):List Nat:=cX (decide (jB y<k)||decide (c%5=0)) l++cB y::cX (decide (jC y<k2)||decide (c/5%5=0)) l2
theorem fO (b:Bool) (l:List Nat):(cX b l).length<=l.length+2:=by
 unfold cX;split
 ·simp
 ·lia
theorem u4 (y:Nat) (c:Int) (l:List Nat) (k:Nat) (l2:List Nat) (k2:Nat):(px y c l k l2 k2).length<=l.length+l2.length+5:=by
 unfold px;have s1:=fO (decide (jB y<k)||decide (c%5=0)) l;have s2:=fO (decide (jC y<k2)||decide (c/5%5=0)) l2;rw[length_append,length_cons];lia
theorem yO {m k:Nat} {p:Bool} (h:(decide (m<k)||p)=false):k<=m:=by
 have:=of_decide_eq_false (Bool.or_eq_false_iff.mp h).1
 (clear h;lia)
theorem u5 {nm:List Nat->Option O} {D k k2 y:Nat} {c:Int} {l l2:List Nat} {a a2:O} (h:nZ nm D k l a) (g:nZ nm D k2 l2 a2):(∀r,nM (cB y) a a2=some r->nZ nm (D+1) (fG y) (px y c l k l2 k2) r)/\(nM (cB y) a a2=none->u0 nm (D+1) (fG y) (px y c l k l2 k2)):=xX h g _ _ yO yO
noncomputable def Dx:bA:=λws G q _=>∃(y:Nat) (c:Int) (l:List Nat) (k:Nat) (a:O) (l2:List Nat) (k2:Nat) (b:O),ws=[.int y,FV l k a,FV l2 k2 b,.int c]/\y<=2/\l.length<=1000/\l2.length<=1000/\∀G',aG G G'->q (.str (bZ (px y c l k l2 k2))) G'
theorem FW (F:cq K "_law_text" "_law_text" (ax 73) f fd) (F1:Fx P w K mg base "_law_side" ["_law_entry","_law_most","_law_always"] 1 Dw):cu P w K mg base 2 f fd ["_law_way","_law_one","_law_other","_law_cell"] Dx:=by
 refine eM F (N:=["_law_way","_law_one","_law_other","_law_cell","_law_left","_law_right"]) (by walk_at "s") (by walk_at "l") λ_ _ _ _ _ _ nd hr=>?_;apply aL
 ·exact(ae (ay 4 nd rfl (.inl rfl) (aB F1 (aw.mono hr (by lia)) rfl (ac (aa 1) (ac (aE aF (cK (ac af (ac af (ac af ag)))) (aa 0)) (ac (cv (bo hr) (au bE (aa 3) af) af) ag))))) (ae (ay 5 nd rfl (.inl rfl) (aB F1 (aw.mono hr (by lia)) rfl (ac (aa 2) (ac (aE aF (cK (ac af (ac af (ac af ag)))) (aa 0)) (ac (cv (bo hr) (au bE (au ck (aa 3) af) af) af) ag))))) (ae (aq (au aU (au aU (aa 4) (aE aF aZ (aa 0))) (aa 5))) ah)))
 ·rintro ws G q e ⟨y,c,l,k,a,l2,k2,b,rfl,hy,hl,hl2,hq⟩;walk_at "a0";intro p hp;have le1:=aG.new (g:=GO.lst [W.int 3,W.int 2,W.int 0]) hp;have at1:eA [W.int 3,W.int 2,W.int 0] (y:Int)=some (.int (jB y:Nat)):=by
   match y,hy with
   | 0,_=>rfl
   | 1,_=>rfl
   | 2,_=>rfl
  refine⟨_,_,al,at1,l,k,jB y,a,_,rfl,hl,?_⟩;generalize aQ G p (GO.lst [W.int 3,W.int 2,W.int 0])=G1 at le1 ⊢;walk_at "a";intro p2 hp2;have le2:=aG.new (g:=GO.lst [W.int 2,W.int 1,W.int 0]) hp2;have at2:eA [W.int 2,W.int 1,W.int 0] (y:Int)=some (.int (jC y:Nat)):=by
   match y,hy with
   | 0,_=>rfl
   | 1,_=>rfl
   | 2,_=>rfl
  refine⟨_,_,al,at2,l2,k2,jC y,b,_,rfl,hl2,?_⟩;generalize aQ G1 p2 (GO.lst [W.int 2,W.int 1,W.int 0])=G2 at le2 ⊢;subst hU;walk_at "R";have at3:eA (Str.ofString "+*^").cps.toList (y:Int)=some (cB y):=by
   match y,hy with
   | 0,_=>rfl
   | 1,_=>rfl
   | 2,_=>rfl
  refine⟨by decide,cB y,at3,?_⟩;rw[show({ cps:= #[cB y] }:Str)=bZ [cB y] from rfl,gX,gX];simp only[bK];have s1:=fO (decide (jB y<k)||decide (c%5=0)) l;have s2:=fO (decide (jC y<k2)||decide (c/5%5=0)) l2;refine⟨by rw[length_singleton];(clear hy hl2 s2;lia),by rw[length_append,length_singleton];(clear hy;lia),G2,aG.refl G2,?_⟩;have:=hq G2 (le1.trans le2);rw[px] at this
  rwa [append_assoc]
noncomputable def sy:Nat->O
 | 0=> .z
 | n+1=> .c (sy n) 1 .z
theorem u6:∀n,(sy n).dp=n
 | 0=>rfl
 | n+1=>by
   have:=u6 n;simp only[sy,O.dp];lia
theorem nU:∀n,(sy n).size=n
 | 0=>rfl
 | n+1=>by
   have:=nU n;simp only[sy,O.size];lia
theorem u7:∀n,O.mx (sy n)<=1
 | 0=>by decide
 | n+1=>by
   have:=u7 n;simp only[sy,O.mx];lia
theorem u9:∀n,(sy n).NF
 | 0=>trivial
 | n+1=>⟨u9 n,by decide,trivial,trivial⟩
theorem AV {n:Nat} (h:n<=47):gh (sy n):=⟨u9 n,by rw[nU];lia,Int.lt_of_le_of_lt (u7 n) (by decide+kernel),by rw[u6];exact h⟩
noncomputable def Dy:bA:=λws G q _=>∃n:Nat,ws=[.int n]/\n<=60/\q (.tup (am (sy n))) G
theorem FX (F:cq K "_law_chain" "_law_chain" (ax 68) f fd) (mr:mg "range"=none):cu P w K mg base 1 f fd ["_law_many"] Dy:=by
 refine eM (k:=0) F (N:=["_law_many","_law_number","_law_k"]) (by walk_at "s") (by walk_at "l") λ_ _ _ _ _ _ nd hr=>?_;apply aL
 ·exact(ae (ay 1 nd rfl (.inl rfl) (aD ag)) (ae (cR PySem.PassesOwn.never rfl (fi rfl mr (ac (aa 0) ag)) (bI 2 nd rfl (.inl rfl)) (ae (ay 1 nd rfl (.inl rfl) (aD (ac (aD (ac (aa 1) (ac af ag))) ag))) ah)) (ae (aq (aa 1)) ah)))
 ·rintro ws G q e ⟨n,rfl,hn,hq⟩;walk_at "a0";walk_at "a";refine⟨by lia,by lia,?_⟩;refine iQ n (λi τ G'=>G'=G/\∃t2:Option W,τ=[some (.int n),some (.tup (am (sy i))),t2]) ⟨rfl,none,rfl⟩ ?_ ?_
  ·rintro τ G' ⟨rfl,t2,rfl⟩;refine⟨trivial,?_⟩;subst hU;walk_at "R";exact aG.done hq
  ·rintro i τ G' kk hi ⟨rfl,t2,rfl⟩ hk;refine⟨trivial,?_⟩;walk_at "R";exact hk _ _ ⟨rfl,_,by rw[sy,bp];rfl⟩
noncomputable def x5 (d:Nat):bA:=λws G q _=>∃a b:O,ws=[.tup (am a),.tup (am b)]/\a.dp<d/\q (.int (O.cmp a b)) G
noncomputable def Dz:bA:=λws G q _=>∃(a x:O) (n:Int),ws=[.tup (am a),.tup (am x),.int n]/\a.dp<=60/\a.size<=1000/\q (.tup (am (O.withO a x n))) G
noncomputable def sr (d:Nat):bA:=λws G q _=>∃a:O,ws=[.tup (am a)]/\a.dp<d/\O.hw a<=20000/\q (.int a.size) G
noncomputable def cY:List O:=[.z,.c .z 1 .z,.c (.c .z 1 .z) 1 .z]
noncomputable def vq (B:Int) (o:O):Prop:=O.Good B o/\o.size<=20
theorem vq.mono {B B':Int} {o:O} (h:vq B o) (k:B<=B'):vq B' o:=⟨h.1.mono k,h.2⟩
noncomputable def DA:bA:=λws G q _=>∃(p:Addr) (pool:List O) (cell B:Int),ws=[.ref p,.int cell]/\G p=some (.lst (cF pool))/\0<pool.length/\pool.length<=100/\1<=B/\(∀o,o∈pool->vq B o)/\∀o,vq (B+10^50) o->q (.tup (am o)) G
noncomputable def DB:bA:=λws G q _=>∃ns:List Int,ws=[.scr ns]/\ns.length<=63/\∀(p:Addr) (more:List O),G p=none->more.length<=24->(∀o,o∈cY++more->vq (10^52) o)->q (.ref p) (aQ G p (.lst (cF (cY++more))))
noncomputable def x6 (d:Nat):bA:=λws G q _=>∃a:O,ws=[.tup (am a)]/\a.dp<d/\q (.bl true) G
noncomputable def DC:bA:=λws G q _=>∃a b:O,ws=[.tup (am a),.tup (am b)]/\a.dp<=50/\q (.bl (decide (a=b))) G
theorem FY {d k:Nat} (hd:d<=60) (F:cq K "_law_compare" "_law_compare" (ax 57) f fd) (F1:Fx P w K mg base "_law_compare" ["_law_a","_law_b"] k (x5 d)) (ml:mg "len"=none) (mz:mg "zip"=none):cu P w K mg base (k+1) f fd ["_law_a","_law_b"] (x5 (d+1)):=by
 refine eM F (N:=["_law_a","_law_b","_law_one","_law_other","_law_side_here"]) (by walk_at "s") (by walk_at "l") λ_ _ _ _ _ _ nd hr=>?_;apply aL
 ·exact(ae (cR PySem.PassesOwn.never rfl (zV rfl mz (ac (aa 0) (ac (aa 1) ag))) (oA rfl (dQ (bI 2 nd rfl (.inl rfl)) (dQ (bI 3 nd rfl (.inl rfl)) kK))) (ae (ay 4 nd rfl (.inl rfl) (aB F1 (aw.mono hr (by lia)) rfl (ac (aE aF (aa 2) af) (ac (aE aF (aa 3) af) ag)))) (ae (aS (aA (bo hr) (aa 4) af) (ae (ay 4 nd rfl (.inl rfl) (au lY (cv fQ (aE aF (aa 2) af) (aE aF (aa 3) af)) (cv (gf hr) (aE aF (aa 2) af) (aE aF (aa 3) af)))) ah) ah) (ae (aS (aA (gW hr) (aa 4) af) (ae (aq (aa 4)) ah) ah) ah)))) (ae (aq (au lY (cv fQ (aM bD rfl ml PySem.boot_len (ac (aa 0) ag)) (aM bD rfl ml PySem.boot_len (ac (aa 1) ag))) (cv (gf hr) (aM bD rfl ml PySem.boot_len (ac (aa 0) ag)) (aM bD rfl ml PySem.boot_len (ac (aa 1) ag))))) ah))
 ·rintro ws G q e ⟨a,b,rfl,hx,hq⟩;walk_at "R";refine bU (λws τ G'=>G'=G/\∃x y t2 t3 t4,ws=d9 (am x) (am y)/\τ=[some (.tup (am a)),some (.tup (am b)),t2,t3,t4]/\O.cmp a b=O.cmp x y/\a.len+y.len=b.len+x.len/\x.dp<d+1) ?_ ?_ _ _ _ ⟨rfl,a,b,none,none,none,rfl,rfl,rfl,by (clear hd hx;lia),hx⟩
  ·rintro τ G' ⟨rfl,x,y,t2,t3,t4,hz,rfl,hc,hl,hx'⟩;refine⟨trivial,?_⟩;walk_at "R";refine aG.done ?_;rw[aJ,aJ,qp,o8 hl,←m8 (wQ hz.symm),←hc];exact hq
  ·rintro w1 ws τ G' k1 ⟨rfl,x,y,t2,t3,t4,hz,rfl,hc,hl,hx'⟩ hk;obtain⟨x1,n,r,x1',n',r',rfl,rfl,rfl,rfl⟩:=uw hz.symm;refine⟨trivial,?_⟩;unfold cO eK;walk_at "R";have hx2:x1.dp<d:=by simp only[O.dp] at hx';(clear hd hx hc hl;lia)
   refine⟨x1,x1',rfl,hx2,?_⟩;walk_at "R";have again:mY x1 n x1' n'=0->∀t2 t3 t4,k1 [some (.tup (am a)),some (.tup (am b)),t2,t3,t4] G':=λz t2 t3 t4=>by
    rw[ut,ycw (by simpa using z)] at hc;refine hk _ _ ⟨rfl,r,r',_,_,_,rfl,rfl,hc,?_,?_⟩
    ·simp only[O.len] at hl;(clear hd hx hx' hc hx2 z;lia)
    ·simp only[O.dp] at hx';(clear hd hx hc hl hx2 z;lia)
   have leave:mY x1 n x1' n'≠0->q (.int (mY x1 n x1' n')) G':=λz=>by
    rw[hc,ut,ycv z] at hq;exact hq
   unfold mY at again leave;rw[qp];split
   ·rename_i h;rw[ycw (by simpa using h)] at again leave;split
    ·rename_i h2;exact aG.done (leave h2)
    ·rename_i h2;exact again (by simpa using h2) _ _ _
   ·rename_i h;rw[ycv h] at leave;exact aG.done (leave h)
theorem DD (T:Txt K mg):∀d:Nat,d<=60->Fx P w K mg base "_law_compare" ["_law_a","_law_b"] d (x5 d)
 | 0,_=>T.d__law_compare.fx λf fd F=>cu.none λws G q e ⟨a,b,_,h,_⟩=>by walk_at "om"
 | d+1,h=>T.d__law_compare.fx λf fd F=>FY (by walk_at "om") F (DD T d (by walk_at "om")) T.z_len T.z_zip
theorem FZ (F:cq K "_law_with" "_law_with" (ax 58) f fd) (F1:Fx P w K mg base "_law_compare" ["_law_a","_law_b"] 60 (x5 60)) (ms:mg "sum"=none) (mt:mg "tuple"=none):cu P w K mg base 61 f fd ["_law_number","_law_exponent","_law_many"] Dz:=by
 refine eM F (N:=["_law_number","_law_exponent","_law_many","_law_above","_law_below","_law_same"]) (by walk_at "s") (by walk_at "l") λ_ _ _ _ _ _ nd hr=>?_;apply aL
 ·exact(ae (iO 3 (cL (by first | rfl | decide+kernel)) rfl nd rfl (.inl rfl) (bv (aa 0)) (λ_ _ _ _=>(bO 1 (by first | assumption | decide+kernel | rfl) rfl (.inl rfl))) (λ_ _ _ _=>(iN (aA fQ (aB F1 (aw.mono hr (by lia)) rfl (ac (aE aF (aa 1) af) (ac (aa 3 rfl (.inr (.inl rfl))) ag))) af))) (λ_ _ _ _=>(aa 1))) (ae (iO 4 (cL (by first | rfl | decide+kernel)) rfl nd rfl (.inl rfl) (bv (aa 0)) (λ_ _ _ _=>(bO 1 (by first | assumption | decide+kernel | rfl) rfl (.inl rfl))) (λ_ _ _ _=>(iN (aA (gf hr) (aB F1 (aw.mono hr (by lia)) rfl (ac (aE aF (aa 1) af) (ac (aa 3 rfl (.inr (.inl rfl))) ag))) af))) (λ_ _ _ _=>(aa 1))) (ae (ay 5 nd rfl (.inl rfl) (aM (jb rfl) rfl ms jf (ac (cU (cL (by first | rfl | decide+kernel)) rfl (bv (aa 0)) (λ_ _ _ _=>(bO 1 (by first | assumption | decide+kernel | rfl) rfl (.inl rfl))) (λ_ _ _ _=>(iN (aA (bo hr) (aE aF (aa 1) af) (aa 2 rfl (.inr (.inl rfl)))))) (λ_ _ _ _=>(aE aF (aa 1) af))) ag))) (ae (aq (ce gE rfl mt d6 (ac (au aU (au aU (aa 3) (cK (ac (aD (ac (aa 1 rfl (.inr (.inl rfl))) (ac (au aU (aa 5) (aa 2)) ag))) ag))) (aa 4)) ag))) ah))))
 ·rintro ws G q e ⟨a,x,n,rfl,hx,hsz,hq⟩;have hl:a.len<=1000:=ycy (O.len_le_size a) hsz;walk_at "a0";show cf _ _ _ _ _ [none,none,none,some (W.tup (am x))] G [] _;refine cg (λe _=>decide (0<O.cmp e x)) cO trivial (fL a) (λy m hy k hk=>?_) (λy m _ _ k hk=>?_) (by simp;lia) (λ_=>rfl) λp1 hp1=>?_
  ·unfold cO eK;walk_at "R";exact⟨y,x,rfl,by (clear hsz hl;lia),hk⟩
  ·walk_at "R";exact hk
  subst hU;rw[nil_append,jr];walk_at "a0";show cf _ _ _ _ _ [none,none,none,some (W.tup (am x))] _ [] _;refine cg (λe _=>decide (O.cmp e x<0)) cO trivial (fL a) (λy m hy k hk=>?_) (λy m _ _ k hk=>?_) (by simp;lia) (λ_=>rfl) λp2 hp2=>?_
  ·unfold cO eK;walk_at "R";exact⟨y,x,rfl,by (clear hsz hl;lia),hk⟩
  ·walk_at "R";exact hk
  subst hU;rw[nil_append,jr];walk_at "a0";show cf _ _ _ _ _ [none,none,some (W.tup (am x))] _ [] _;refine cg (λe _=>decide (e=x)) (λ_ n=> .int n) trivial (fL a) (λy m hy k hk=>?_) (λy m _ _ k hk=>?_) (by simp;lia) (λ_=>rfl) λp3 hp3=>?_
  ·unfold cO eK;walk_at "R";have:=bV y;refine⟨aY y,aY x,by (clear hsz hl hp2;lia),?_⟩;rw[fA];exact hk
  ·unfold cO eK;walk_at "R";exact hk
  obtain⟨ns,h1,h2⟩:=iq x a;rw[nil_append,h1];refine⟨ns,al,?_⟩;subst hU;rw[h2];have c1:G p1=none:=hp1;have g1:=al (G:=G) (a:=p1) (g:=GO.lst (am (O.filt (λe _=>decide (0<e.cmp x)) a)));have g1':=aV (g:=GO.lst (am (O.filt (λe _=>decide (e.cmp x<0)) a))) g1 hp2;have g2:=al (G:=aQ G p1 (GO.lst (am (O.filt (λe _=>decide (0<e.cmp x)) a)))) (a:=p2) (g:=GO.lst (am (O.filt (λe _=>decide (e.cmp x<0)) a)));have k1:=aV (g:=GO.lst (ns.map W.int)) g1' hp3;have k2:=aV (g:=GO.lst (ns.map W.int)) g2 hp3;have le:aG G (aQ (aQ (aQ G p1 (GO.lst (am (O.filt (λe _=>decide (0<e.cmp x)) a)))) p2 (GO.lst (am (O.filt (λe _=>decide (e.cmp x<0)) a)))) p3 (GO.lst (ns.map W.int))):=((aG.new hp1).trans (aG.new hp2)).trans (aG.new hp3);generalize aQ (aQ (aQ G p1 (GO.lst (am (O.filt (λe _=>decide (0<e.cmp x)) a)))) p2 (GO.lst (am (O.filt (λe _=>decide (e.cmp x<0)) a)))) p3 (GO.lst (ns.map W.int))=G3 at k1 k2 le ⊢;walk_at "R";intro p4 h4;have l1:=fE (λe _=>decide (0<O.cmp e x)) a;have l2:=fE (λe _=>decide (O.cmp e x<0)) a;refine⟨_,_,aV k1 h4,al,by rw[aJ];simp;(clear hx hsz hp2 hp3 h2 g1 g1' g2 k1 k2 l2;lia),λp5 h5=>⟨_,_,al,aV (aV k2 h4) h5,by rw[length_append,aJ,aJ];simp;(clear hx hsz hp2 hp3 h2 g1 g1' g2 k1 k2;lia),λp6 h6=>⟨_,al,G,le.trans ((aG.new h4).trans ((aG.new h5).trans (aG.new h6))),?_⟩⟩⟩;unfold O.withO at hq;rw[fB,bp] at hq;rw[append_assoc];exact hq
theorem F0 {d k:Nat} (F:cq K "_law_size" "_law_size" (ax 59) f fd) (F1:Fx P w K mg base "_law_size" ["_law_number"] k (sr d)) (ml:mg "len"=none) (ms:mg "sum"=none):cu P w K mg base (k+1) f fd ["_law_number"] (sr (d+1)):=by
 refine eM F (N:=["_law_number"]) (by walk_at "s") (by walk_at "l") λ_ _ _ _ _ _ nd hr=>?_;apply aL
 ·exact(ae (aq (au aU (aM bD rfl ml PySem.boot_len (ac (aa 0) ag)) (aM (jb rfl) rfl ms jf (ac (cU (cL (by first | rfl | decide+kernel)) rfl (bv (aa 0)) (λ_ _ _ _=>(bO 1 (by first | assumption | decide+kernel | rfl) rfl (.inl rfl))) (λ_ _ _ _=>cS) (λ_ _ _ _=>(aB F1 (aw.mono hr (by lia)) rfl (ac (aE aF (aa 1) af) ag)))) ag)))) ah)
 ·rintro ws G q e ⟨a,rfl,hx,hsz,hq⟩;have hl:=O.len_le_hw a;walk_at "R";show cf _ _ _ _ _ [none,none,none] G [] _;refine cg (λ_ _=>true) (λe _=> .int e.size) trivial (fM a) (λy m hy k hk=>?_) (λy m hy _ k hk=>?_) (by simp;(clear hx;lia)) (λ_=>rfl) λp1 hp1=>?_
  ·walk_at "R";exact hk
  ·unfold cO eK;walk_at "R";exact⟨y,rfl,by have:=hy.1;(clear hsz hl this;lia),ycy hy.2 hsz,hk⟩
  obtain⟨ns,h1,h2⟩:=kj a;rw[nil_append,h1];refine⟨ns,al,G,aG.new hp1,?_⟩;rw[aJ,h2];exact hq
theorem DE (T:Txt K mg):∀d:Nat,Fx P w K mg base "_law_size" ["_law_number"] d (sr d)
 | 0=>T.d__law_size.fx λf fd F=>cu.none λws G q e ⟨a,_,h,_⟩=>by walk_at "om"
 | d+1=>T.d__law_size.fx λf fd F=>F0 F (DE T d) T.z_len T.z_sum
theorem Ga (F:cq K "_law_next" "_law_next" (ax 60) f fd) (F1:Fx P w K mg base "_law_with" ["_law_number","_law_exponent","_law_many"] 61 Dz) (F2:Fx P w K mg base "_law_size" ["_law_number"] 60 (sr 60)) (ml:mg "len"=none):cu P w K mg base 62 f fd ["_law_pool_here","_law_cell"] DA:=by
 refine eM F (N:=["_law_pool_here","_law_cell","_law_one","_law_other","_law_many","_law_way","_law_made"]) (by walk_at "s") (by walk_at "l") λ_ _ _ _ _ _ nd hr=>?_;apply aL
 ·exact(ae (ay 1 nd rfl (.inl rfl) (au bE (aa 1) (au dS af af))) (ae (ay 2 nd rfl (.inl rfl) (aE aF (aa 0) (au bE (au bE (au ir (aa 1) af) af) (aM bD rfl ml PySem.boot_len (ac (aa 0) ag))))) (ae (ay 3 nd rfl (.inl rfl) (aE aF (aa 0) (au bE (au bE (au ir (aa 1) af) af) (aM bD rfl ml PySem.boot_len (ac (aa 0) ag))))) (ae (ay 4 nd rfl (.inl rfl) (au aU af (aE aF (cK (ac (au bE (au ck (aa 1) af) af) (ac (au bE (au ck (aa 1) af) (au dS af af)) ag))) (au bE (au ck (aa 1) af) af)))) (ae (ay 5 nd rfl (.inl rfl) (au bE (aa 1) af)) (ae (aS (aA (bo hr) (aa 5) af) (ae (aq (bw (aa 2) cI (bR (fm af)))) ah) ah) (ae (aS (aA (bo hr) (aa 5) af) (ae (aq (bw (aa 2) (bR (fm af)) cI)) ah) ah) (ae (aS (aA (bo hr) (aa 5) af) (ae (aq (aD (ac (aD (ac (aD ag) (ac (aa 4) ag))) ag))) ah) ah) (ae (aS (dX (de (aA (bo hr) (aa 5) af) (dB (aA (gW hr) (aa 2) (aD ag))))) (ae (ay 3 nd rfl (.inl rfl) (aE aF (aE aF (aa 2) (fm af)) af)) (ae (ay 4 nd rfl (.inl rfl) af) ah)) ah) (ae (ay 6 nd rfl (.inl rfl) (aB F1 (aw.mono hr (by lia)) rfl (ac (aa 2) (ac (aa 3) (ac (aa 4) ag))))) (ae (aS (aA fQ (aB F2 (aw.mono hr (by lia)) rfl (ac (aa 6) ag)) af) (ae (aq (aa 2)) ah) ah) (ae (aq (aa 6)) ah))))))))))))
 ·rintro ws G q e ⟨p,pool,cell,B,rfl,hG,h0,hl,hB,hg,hq⟩;walk_at "a0";subst hU;generalize hc:cell%_=cl;walk_at "a0";simp only[hG,Option.some.injEq,GO.lst.injEq,exists_eq_left',bW];refine⟨_,.lst hG,by rw[bW];(clear hB hc;lia),?_⟩;rw[bW];refine yC<|ng rfl h0 λo1 m1=>?_;walk_at "a";simp only[hG,Option.some.injEq,GO.lst.injEq,exists_eq_left',bW];refine⟨_,.lst hG,by rw[bW];(clear hB hc;lia),?_⟩;rw[bW];refine yC<|ng rfl h0 λo2 m2=>?_;walk_at "a";intro p1 h1;refine gy al (ni (lo:=0) (hi:=100000000000000000000000000000000000000000000000000) (by (clear h0 hl hB hc;lia)) (by (clear h0 hl hB hc;lia)) λm hm1 hm2=>?_);walk_at "R";have le:aG G (aQ G p1 (GO.lst [W.int (cl/8%5),W.int (cl/16%100000000000000000000000000000000000000000000000000)])):=aG.new h1;generalize aQ G p1 (GO.lst [W.int (cl/8%5),W.int (cl/16%100000000000000000000000000000000000000000000000000)])=G1 at le ⊢;have g1:=(hg o1 m1).1;have s1:=(hg o1 m1).2;have g2:=(hg o2 m2).1;have ret:∀o,O.Good (B+10^50) o->o.size<=20->∃G0,aG G0 G1/\q (.tup (am o)) G0:=λo ho hs=>⟨G,le,hq o ⟨ho,hs⟩⟩;walk_at "a";subst hU;generalize hw:cl%8=way
  -- way 4
  walk_at "a0";split
  ·rw[m9];exact ret _ (g1.init.mono (by (clear h0 hl hB hc hm1 hm2 s1 hw;lia))) (ycy (O.size_init o1) s1)
  subst hU
  -- way 5
  walk_at "a0";split
  ·rw[uz];exact ret _ (g1.last.mono (by (clear h0 hl hB hc hm1 hm2 s1 hw;lia))) (ycy (O.size_last o1) s1)
  subst hU
  -- way 6
  walk_at "a0";split
  ·exact ret (.c .z (1+m) .z) (.whole (by (clear h0 hl hB hc s1 hw;lia)) (by (clear h0 hl hc s1 hw;lia))) (show 1+0+0<=20 by decide)
  subst hU
  -- way 7, and the end
  refine aI λU hU=>?_;have fin:∀(o:O) (n:Int),O.Good B o->1<=n->n<=100000000000000000000000000000000000000000000000000->U { nx:=λx G1=>∃G0,aG G0 G1/\q W.non G0,rt:=λw G1=>∃G0,aG G0 G1/\q w G0 } [some (W.ref p),some (W.int cl),some (W.tup (am o1)),some (W.tup (am o)),some (W.int n),some (W.int way),none] G1:=λo n ho hn1 hn2=>by
   walk_at "a";have hd1:=g1.dp;have hd2:=ho.dp;have hs1:=g1.sz;have hs2:=ho.sz;refine⟨o1,o,n,rfl,by walk_at "om",by walk_at "om",?_⟩;subst hU;have hs3:=O.size_with o1 o n;have hd3:=O.dp_with o1 o n;have hw3:=O.hw_le_size (O.withO o1 o n);walk_at "R";refine⟨_,rfl,by (clear h0 hl hB hc hm1 hm2 s1 hw hn1 hn2 hs1 hs2 hs3 hw3;lia),by (clear h0 hl hB hc hm1 hm2 hw hn1 hn2 hd1 hd2 hs1 hd3;lia),?_⟩;walk_at "R";split
   ·exact ret _ (g1.mono (by (clear h0 hl hB hc hm1 hm2 s1 hw hn1 hn2 hd1 hd2 hs1 hs2 hs3 hd3 hw3;lia))) s1
   ·exact ret _ ((g1.with ho hn1 (by (clear h0 hl hB hc hm1 hm2 s1 hw hn1 hn2 hd1 hd2 hs1 hs2 hs3 hd3 hw3;lia))).mono (by (clear h0 hl hB hc hm1 hm2 s1 hw hd1 hd2 hs1 hs2 hs3 hd3 hw3;lia))) (by (clear h0 hl hB hc hm1 hm2 s1 hw hn1 hn2 hd1 hd2 hs1 hs2 hs3 hd3 hw3;lia))
  walk_at "R";have plain:=fin o2 (1+m) g2 (by (clear h0 hl hB hc s1 hw;lia)) (by (clear h0 hl hB hc s1 hw;lia));split
  ·have hd1:=bV o1;have hd2:=g1.dp;refine⟨aY o1,by (clear h0 hl hB hc hm1 hm2 s1 hw;lia),?_⟩;rw[bP];split
   ·rename_i hz;have hz':o1≠ .z:=by simpa using hz
    obtain⟨x,n,_,hp⟩:=pe hz';refine⟨_,eY hp,?_⟩;unfold cO eK;walk_at "R";exact fin x 1 (g1.part hp).1 (by (clear h0 hl hB hc hm1 hm2 s1 hw hd1 hd2;lia)) (by (clear h0 hl hB hc hm1 hm2 s1 hw hd1 hd2;lia))
   ·exact plain
  ·exact plain
theorem Gb (F:cq K "_law_pool" "_law_pool" (ax 61) f fd) (F1:Fx P w K mg base "_law_next" ["_law_pool_here","_law_cell"] 62 DA):cu P w K mg base 63 f fd ["_law_script"] DB:=by
 refine eM F (N:=["_law_script","_law_pool_here","_law_cell"]) (by walk_at "s") (by walk_at "l") λ_ _ _ _ _ _ nd hr=>?_;apply aL
 ·exact(ae (ay 1 nd rfl (.inl rfl) (cK (ac (aD ag) (ac (aD (ac (aD (ac (aD ag) (ac af ag))) ag)) (ac (aD (ac (aD (ac (aD (ac (aD (ac (aD ag) (ac af ag))) ag)) (ac af ag))) ag)) ag))))) (ae (cR PySem.PassesOwn.never rfl (bv (bw (aa 0) cI (bR af))) (bI 2 nd rfl (.inl rfl)) (ae (bu (dh (aa 1) (aB F1 (aw.mono hr (by lia)) rfl (ac (aa 1) (ac (aa 2) ag))))) ah)) (ae (aq (aa 1)) ah)))
 ·rintro ws G q e ⟨ns,rfl,hl,hq⟩;walk_at "a0";intro p hp;walk_at "a";have e24:cQ (ns.map W.int) none (some 24)=(ns.take 24).map W.int:=by rw[show(24:Int)=((24:Nat):Int) from rfl,o9,map_take]
  rw[e24];refine⟨by walk_at "om",λp2 hp2=>⟨_,al,?_⟩⟩;have h3:[W.tup [],W.tup [W.tup [W.tup [],W.int 1]],W.tup [W.tup [W.tup [W.tup [W.tup [],W.int 1]],W.int 1]]]=cF (cY++[]):=rfl;rw[h3] at hp2 ⊢;have hne:p2≠p:=λz=>by rw[z,al] at hp2;cases hp2
  have g3:∀o,o∈cY++([]:List O)->vq (1+(([]:List O).length:Int)*10^50) o:=λo ho=>by
   simp[cY] at ho;rcases ho with rfl | rfl | rfl
   ·exact⟨⟨trivial,by simp[O.size],by first | decide | (simp[O.mx];lia)⟩,by decide⟩
   ·exact⟨⟨⟨trivial,by (clear hl;lia),trivial,trivial⟩,by simp[O.size],by first | decide | (simp[O.mx];lia)⟩,by decide⟩
   ·exact⟨⟨⟨⟨trivial,by (clear hl;lia),trivial,trivial⟩,by (clear hl;lia),trivial,trivial⟩,by simp[O.size],by first | decide | (simp[O.mx];lia)⟩,by decide⟩
  refine bU (λws τ G'=>∃(cs:List Int) (more:List O) (t:Option W),ws=cs.map W.int/\τ=[some (.scr ns),some (.ref p),t]/\G' p=some (.lst (cF (cY++more)))/\G' p2=some (.lst ((ns.take 24).map W.int))/\aG G G'/\cs.length+more.length<=24/\∀o,o∈cY++more->vq (1+(more.length:Int)*10^50) o) ?_ ?_ _ _ _
   ⟨ns.take 24,[],none,rfl,rfl,by rw[aK (Ne.symm hne)];exact al,al,(aG.new hp).trans (aG.new hp2),by simp;lia,g3⟩
  ·rintro τ G' ⟨cs,more,t,hw,rfl,k1,k2,le,hlen,hg⟩;refine⟨k2,?_⟩;subst hU;walk_at "R";refine⟨aQ G p (.lst (cF (cY++more))),λa g ea=>?_,hq p more hp (by (clear hl;lia)) λo ho=>(hg o ho).mono ?_⟩
   ·by_cases hb:a=p
    ·subst hb;rw[al] at ea;rw[k1,ea]
    ·rw[aK hb] at ea;exact le a g ea
   ·have:more.length<=24:=by (clear hl;lia)
    (clear hl hlen;lia)
  ·rintro w1 ws τ G' kk ⟨cs,more,t,hw,rfl,k1,k2,le,hlen,hg⟩ hk;cases cs with
   | nil=>cases hw
   | cons c0 cs=>
     cases hw;refine⟨k2,?_⟩;simp only[length_cons] at hlen;walk_at "R";refine⟨⟨_,k1⟩,p,cY++more,c0,_,rfl,k1,by simp[cY],by simp[cY];(clear hl;lia),?_,hg,λo ho=>⟨_,k1,by rw[bW];simp[cY];(clear hl;lia),?_⟩⟩
     ·(clear hl hlen;lia)
     ·rw[eL,append_assoc];refine hk _ _ ⟨cs,more++[o],_,rfl,rfl,al,by rw[aK hne];exact k2,λa g ea=>?_,by simp;(clear hl;lia),λo' ho'=>?_⟩
      ·rw[aK (λz=>by rw[z,hp] at ea;cases ea)];exact le a g ea
      ·have hc:((more++[o]).length:Int)=more.length+1:=by simp
       rw[hc];rw[←append_assoc] at ho';rcases mem_append.mp ho' with h | h
       ·exact(hg o' h).mono (by (clear hl hlen hc;lia))
       ·have:o'=o:=by simpa using h
        subst this;exact ho.mono (by (clear hl hlen hc;lia))
theorem Gc {d k:Nat} (F:cq K "_law_pure" "_law_pure" (ax 62) f fd) (F1:Fx P w K mg base "_law_pure" ["_law_number"] k (x6 d)) (mi:mg "isinstance"=none) (mb:mg "bool"=none):cu P w K mg base (k+1) f fd ["_law_number"] (x6 (d+1)):=by
 refine eM F (N:=["_law_number","_law_part"]) (by walk_at "s") (by walk_at "l") λ_ _ _ _ _ _ nd hr=>?_;apply aL
 ·exact(ae (cR PySem.PassesOwn.never rfl (bv (aa 0)) (bI 1 nd rfl (.inl rfl)) (ae (aS (dX (d0 (bS (gm (T:="bool") (x:="bool") (by first | simp[jF] | assumption | decide+kernel) PyProof.Rows.boot_bool mb rfl mi rfl (aE aF (aa 1) af))) (dc (dP (bS (aB F1 (aw.mono hr (by lia)) rfl (ac (aE aF (aa 1) af) ag))))))) (ae (aq fX) ah) ah) ah)) (ae (aq fX) ah))
 ·rintro ws G q e ⟨a,rfl,hx,hq⟩;walk_at "a0";refine bU (λws τ G'=>G'=G/\∃(r:O) (t:Option W),ws=am r/\τ=[some (.tup (am a)),t]/\r.dp<d+1) ?_ ?_ _ _ _ ⟨rfl,a,none,rfl,rfl,hx⟩
  ·rintro τ G' ⟨rfl,r,t,hw,rfl,hd⟩;refine⟨trivial,?_⟩;subst hU;walk_at "R";exact aG.done hq
  ·rintro w1 ws τ G' kk ⟨rfl,r,t,hw,rfl,hd⟩ hk;cases r with
   | z=>cases hw
   | c y m r=>
     rw[bp] at hw;cases hw;refine⟨trivial,?_⟩;simp only[O.dp] at hd;unfold cO eK;walk_at "R";refine⟨y,rfl,by (clear hx;lia),?_⟩;walk_at "R";exact hk _ _ ⟨rfl,r,_,rfl,rfl,by (clear hx;lia)⟩
theorem DF (T:Txt K mg):∀d:Nat,Fx P w K mg base "_law_pure" ["_law_number"] d (x6 d)
 | 0=>T.d__law_pure.fx λf fd F=>cu.none λws G q e ⟨a,_,h,_⟩=>by walk_at "om"
 | d+1=>T.d__law_pure.fx λf fd F=>Gc F (DF T d) T.z_isinstance T.z_bool
theorem Gd (F:cq K "_law_is" "_law_is" (ax 63) f fd) (F1:Fx P w K mg base "_law_pure" ["_law_number"] 60 (x6 60)) (mi:mg "isinstance"=none) (mt:mg "tuple"=none):cu P w K mg base 61 f fd ["_law_found","_law_due_here"] DC:=by
 refine eM F (N:=["_law_found","_law_due_here"]) (by walk_at "s") (by walk_at "l") λ_ _ _ _ _ _ nd hr=>?_;apply aL
 ·exact(ae (aq (i8 (gm (T:="tuple") (x:="tuple") (by first | simp[jF] | assumption | decide+kernel) d6 mt rfl mi rfl (aa 0)) (i8 (cv (bo hr) (aa 0) (aa 1)) (i7 (aB F1 (aw.mono hr (by lia)) rfl (ac (aa 0) ag)))))) ah)
 ·rintro ws G q e ⟨a,b,rfl,hx,hq⟩;have hd:=bV a;walk_at "R";refine⟨aY a,aY b,by walk_at "om",?_⟩;rw[fA]
  by_cases h:a=b
  ·subst h;rw[ydz rfl] at hq;rw[ycv (by simp)];exact⟨a,rfl,by (clear hd;lia),aG.done hq⟩
  ·rw[ydy h] at hq;rw[ycw (by simpa using h)];exact aG.done hq
noncomputable def gl (g:O->Int->Int):O->List Int
 | .z=>[]
 | .c e n r=>g e n::gl g r
theorem pA (g:O->Int->Int):∀a:O,mapP (λ_ _=>true) (λe n=>W.int (g e n)) a=(gl g a).map W.int
 | .z=>rfl
 | .c e n r=>by
   have:=pA g r;simp only[mapP,gl,if_true,map_cons];rw[this]
theorem yP:∀{a:O} {m:Int},(∀x,x∈gl (λe n=>max n (O.mx e)) a->x<=m)->0<=m->O.mx a<=m
 | .z,m,_,h=>h
 | .c e n r,m,h,h0=>by
   have h1:=h (max n (O.mx e)) yby;have h2:=yP (a:=r) (λx hx=>h x (ybx _ hx)) h0;rw[O.mx_c];(clear h0;lia)
theorem vc:∀{a:O} {m:Int},m∈gl (λe n=>max n (O.mx e)) a->0<=m/\m<=O.mx a
 | .z,m,h=>by cases h
 | .c e n r,m,h=>by
   have h0:=O.mx_nonneg e;have h1:=O.mx_nonneg r;rw[O.mx_c];rcases mem_cons.mp h with rfl | h
   ·dsimp only;(clear h1;lia)
   ·have:=vc h;(clear h0 h1;lia)
theorem yQ:∀{a:O} {m:Int},(∀x,x∈gl (λe _=>1+(e.dp:Int)) a->x<=m)->0<=m->(a.dp:Int)<=m
 | .z,m,_,h=>by simpa[O.dp] using h
 | .c e n r,m,h,h0=>by
   have h1:=h (1+(e.dp:Int)) yby;have h2:=yQ (a:=r) (λx hx=>h x (ybx _ hx)) h0;simp only[O.dp];(clear h0;lia)
theorem vd:∀{a:O} {m:Int},m∈gl (λe _=>1+(e.dp:Int)) a->0<=m/\m<=(a.dp:Int)
 | .z,m,h=>by cases h
 | .c e n r,m,h=>by
   simp only[O.dp];rcases mem_cons.mp h with rfl | h
   ·dsimp only;lia
   ·have:=vd h;lia
theorem ve {g:O->Int->Int}:∀{a:O},gl g a=[]->a=.z
 | .z,_=>rfl
 | .c _ _ _,h=>by cases h
noncomputable def x8 (d:Nat):bA:=λws G q _=>∃a:O,ws=[.tup (am a)]/\a.dp<d/\O.hw a<=20000/\q (.int (O.mx a)) G
noncomputable def x9 (d:Nat):bA:=λws G q _=>∃a:O,ws=[.tup (am a)]/\a.dp<d/\O.hw a<=20000/\q (.int (a.dp:Int)) G
theorem Ge {d k:Nat} (F:cq K "_law_greatest" "_law_greatest" (ax 66) f fd) (F1:Fx P w K mg base "_law_greatest" ["_law_number"] k (x8 d)) (mx:mg "max"=none):cu P w K mg base (k+1) f fd ["_law_number"] (x8 (d+1)):=by
 refine eM F (N:=["_law_number"]) (by walk_at "s") (by walk_at "l") λ_ _ _ _ _ _ nd hr=>?_;apply aL
 ·exact(ae (aq (pN rfl rfl mx (cU (cL (by first | rfl | decide+kernel)) rfl (bv (aa 0)) (λ_ _ _ _=>(bO 1 (by first | assumption | decide+kernel | rfl) rfl (.inl rfl))) (λ_ _ _ _=>cS) (λ_ _ _ _=>(aM (kO rfl) rfl mx mh (ac (aE aF (aa 1) af) (ac (aB F1 (aw.mono hr (by lia)) rfl (ac (aE aF (aa 1) af) ag)) ag))))))) ah)
 ·rintro ws G q e ⟨a,rfl,hx,hsz,hq⟩;have hl:=O.len_le_hw a;walk_at "R";show cf _ _ _ _ _ [none,none,none,none] G [] _;refine cg (λ_ _=>true) (λe n=> .int (max n (O.mx e))) trivial (fM a) (λy m hy k hk=>?_) (λy m hy _ k hk=>?_) (by simp;(clear hx;lia)) (λ_=>rfl) ?_
  ·walk_at "R";exact hk
  ·unfold cO eK;walk_at "R";refine⟨y,rfl,by (clear hsz hl;lia),by (clear hx hl;lia),?_⟩;walk_at "R";rw[show(if O.mx y > m then O.mx y else m)=max m (O.mx y) by split<;> (clear hx hsz hl hy;lia)];exact hk
  intro p1 hp1;rw[nil_append,pA];walk_at "R";refine⟨gl (λe n=>max n (O.mx e)) a,al,λh=>⟨G,aG.new hp1,?_⟩,λm hm hu=>⟨G,aG.new hp1,?_⟩⟩
  ·rw[ve h] at hq;exact hq
  ·have h1:=vc hm;have h2:=yP hu h1.1;rw[show m=O.mx a by (clear hx hsz hl;lia)];exact hq
theorem DG (T:Txt K mg):∀d:Nat,Fx P w K mg base "_law_greatest" ["_law_number"] d (x8 d)
 | 0=>T.d__law_greatest.fx λf fd F=>cu.none λws G q e ⟨a,_,h,_⟩=>by walk_at "om"
 | d+1=>T.d__law_greatest.fx λf fd F=>Ge F (DG T d) T.z_max
theorem Gg {d k:Nat} (F:cq K "_law_deep" "_law_deep" (ax 65) f fd) (F1:Fx P w K mg base "_law_deep" ["_law_number"] k (x9 d)) (mx:mg "max"=none):cu P w K mg base (k+1) f fd ["_law_number"] (x9 (d+1)):=by
 refine eM F (N:=["_law_number"]) (by walk_at "s") (by walk_at "l") λ_ _ _ _ _ _ nd hr=>?_;apply aL
 ·exact(ae (aq (pN rfl rfl mx (cU (cL (by first | rfl | decide+kernel)) rfl (bv (aa 0)) (λ_ _ _ _=>(bO 1 (by first | assumption | decide+kernel | rfl) rfl (.inl rfl))) (λ_ _ _ _=>cS) (λ_ _ _ _=>(au aU af (aB F1 (aw.mono hr (by lia)) rfl (ac (aE aF (aa 1) af) ag))))))) ah)
 ·rintro ws G q e ⟨a,rfl,hx,hsz,hq⟩;have hl:=O.len_le_hw a;walk_at "R";show cf _ _ _ _ _ [none,none,none] G [] _;refine cg (λ_ _=>true) (λe _=> .int (1+(e.dp:Int))) trivial (fM a) (λy m hy k hk=>?_) (λy m hy _ k hk=>?_) (by simp;(clear hx;lia)) (λ_=>rfl) ?_
  ·walk_at "R";exact hk
  ·unfold cO eK;walk_at "R";refine⟨y,rfl,by (clear hsz hl;lia),by (clear hx hl;lia),?_⟩;walk_at "R";exact hk
  intro p1 hp1;rw[nil_append,pA (λe _=>1+(e.dp:Int))];walk_at "R";refine⟨gl (λe _=>1+(e.dp:Int)) a,al,λh=>⟨G,aG.new hp1,?_⟩,λm hm hu=>⟨G,aG.new hp1,?_⟩⟩
  ·rw[ve h] at hq;exact hq
  ·have h1:=vd hm;have h2:=yQ hu h1.1;rw[show m=(a.dp:Int) by (clear hx hsz hl;lia)];exact hq
theorem DH (T:Txt K mg):∀d:Nat,Fx P w K mg base "_law_deep" ["_law_number"] d (x9 d)
 | 0=>T.d__law_deep.fx λf fd F=>cu.none λws G q e ⟨a,_,h,_⟩=>by walk_at "om"
 | d+1=>T.d__law_deep.fx λf fd F=>Gg F (DH T d) T.z_max
noncomputable def DI:bA:=λws G q _=>∃a:O,ws=[.tup (am a)]/\a.dp<=60/\O.hw a<=20000/\∀n:Int,q (.int n) G
theorem Gh (F:cq K "_law_whole" "_law_whole" (ax 67) f fd) (ms:mg "sum"=none):cu P w K mg base 1 f fd ["_law_number"] DI:=by
 refine eM (k:=0) F (N:=["_law_number"]) (by walk_at "s") (by walk_at "l") λ_ _ _ _ _ _ nd hr=>?_;apply aL
 ·exact(ae (aq (aM (jb rfl) rfl ms jf (ac (cU (cL (by first | rfl | decide+kernel)) rfl (bv (aa 0)) (λ_ _ _ _=>(bO 1 (by first | assumption | decide+kernel | rfl) rfl (.inl rfl))) (λ_ _ _ _=>(iN (aA (bo hr) (aE aF (aa 1) af) (aD ag)))) (λ_ _ _ _=>(aE aF (aa 1) af))) ag))) ah)
 ·rintro ws G q e ⟨a,rfl,hx,hsz,hq⟩;have hl:=O.len_le_hw a;walk_at "R";show cf _ _ _ _ _ [none,none] G [] _;refine cg (λe _=>decide (e=.z)) (λ_ n=> .int n) trivial (fM a) (λy m hy k hk=>?_) (λy m _ _ k hk=>?_) (by simp;(clear hx;lia)) (λ_=>rfl) λp3 hp3=>?_
  ·unfold cO eK;walk_at "R";have:=bV y;refine⟨aY y,by (clear hsz hl;lia),?_⟩;rw[bP];exact hk
  ·unfold cO eK;walk_at "R";exact hk
  obtain⟨ns,h1,h2⟩:=iq .z a;rw[nil_append,h1];exact⟨ns,al,G,aG.new hp3,hq _⟩
noncomputable def DJ:bA:=λws G q _=>∃(y:Nat) (a b:O),ws=[.int y,.tup (am a),.tup (am b)]/\y<=2/\gh a/\gh b/\(∀r,nM (cB y) a b=some r->gh r->∀G',aG G G'->q (.tup (am r)) G')/\(nM (cB y) a b=none->∀G',aG G G'->q .non G')
theorem ya {y:Nat} (hy:y<=2):cB y=94↔y=2:=by
 match y,hy with
 | 0,_=>decide
 | 1,_=>decide
 | 2,_=>decide
theorem Gi (F:cq K "_law_due" "_law_due" (ax 71) f fd) (F1:Fx P w K mg base "_law_joined" ["_law_way","_law_one","_law_other"] 7 Dv) (F2:Fx P w K mg base "_law_size" ["_law_number"] 60 (sr 60)) (F3:Fx P w K mg base "_law_deep" ["_law_number"] 60 (x9 60)) (F4:Fx P w K mg base "_law_greatest" ["_law_number"] 60 (x8 60)):cu P w K mg base 61 f fd ["_law_way","_law_one","_law_other"] DJ:=by
 refine eM (k:=60) F (N:=["_law_way","_law_one","_law_other","_law_found"]) (by walk_at "s") (by walk_at "l") λ_ _ _ _ _ _ nd hr=>?_;apply aL
 ·exact(ae (ay 3 nd rfl (.inl rfl) (aB F1 (aw.mono hr (by lia)) rfl (ac (aa 0) (ac (aa 1) (ac (aa 2) ag))))) (ae (aS (dX (d0 (aA pK (aa 3) dM) (d0 (aA fQ (aB F2 (aw.mono hr (by lia)) rfl (ac (aa 3) ag)) af) (dc (aA fQ (aB F3 (aw.mono hr (by lia)) rfl (ac (aa 3) ag)) af))))) (ae (aq dM) ah) ah) (ae (aS (aA v0 (aB F4 (aw.mono hr (by lia)) rfl (ac (aa 3) ag)) (au dS (au dS af af) af)) (ae (aq dM) ah) ah) (ae (aq (aa 3)) ah))))
 ·rintro ws G q e ⟨y,a,b,rfl,hy,fa,fb,hgood,hbad⟩;walk_at "a0";refine⟨y,a,b,rfl,hy,fa,fb,λhn hr G' hG=>?_,λhn G' hG=>?_⟩
  ·obtain⟨r1,r2,r3⟩:=hr;subst hU;refine aI λU hU=>?_;have bad:jA (gJ (cB y) a b)->∃G0,aG G0 G'/\q W.non G0:=λh=>aG.done (hbad (ycv (.inr h)) G' hG);generalize hj:gJ (cB y) a b=r at r1 r2 r3 bad ⊢;walk_at "R";rw[ycw (show ¬(false ^^ fY (W.tup (am r)))=true from λh=>Bool.noConfusion h)];refine⟨r,rfl,by (clear hy hn r2;lia),r2,?_⟩;walk_at "R";refine bB (λh=>bad (.inl (by (clear hy hn r2 r3;lia)))) λh1=>?_;refine⟨r,rfl,by (clear hy hn r2 h1;lia),r2,?_⟩;walk_at "R";refine bB (λh=>bad (.inr (.inr (by (clear hy hn r2 h1;lia))))) λh2=>?_;subst hU;refine aI λU hU=>?_;have e5:((10:Int)^60)^5=10^300:=by decide+kernel
   simp only[Int.reducePow] at e5;walk_at "R";refine⟨r,rfl,by (clear hy hn r2 h1 e5;lia),r2,?_⟩;walk_at "R";refine⟨.inr ⟨by decide,by decide,by decide+kernel⟩,?_⟩;rw[e5];refine @bB _ _ _ _ (λh=>bad (.inr (.inl h))) λh3=>?_;subst hU;walk_at "R";have ht:¬jA r:=λz=>by
    rcases z with z | z | z
    ·(clear hy hn r2 r3 h2 e5 h3;lia)
    ·exact h3 z
    ·(clear hy hn r2 h1 e5 h3;lia)
   refine aG.done (hgood r ?_ (uP r1 ht) G' hG);unfold nM;rw[hj,if_neg];rintro(z | z)
   ·exact hn ⟨(ya hy).mp z.1,z.2⟩
   ·exact ht z
  ·walk_at "a";rw[ycv (by rfl)];exact aG.done (hbad (ycv (.inl ⟨by rw[hn.1];rfl,hn.2⟩)) G' hG)
noncomputable def vf:Nat->Nat->O
 | _,0=> .z
 | i,n+1=> .c (.c .z (201- (i:Int)) .z) 1 (vf (i+1) n)
noncomputable abbrev GH (k:Nat):W:= .tup [.tup [.tup [.tup [],.int (201- (k:Int))]],.int 1]
theorem qM:∀n i:Nat,(List.range' i n).map GH=am (vf i n)
 | 0,_=>rfl
 | n+1,i=>by rw[List.range'_succ,map_cons,qM n (i+1)];rfl
theorem DK {a b:Int} (h:a<b):O.cmp (.c .z a .z) (.c .z b .z)<0:=by
 have hz:gv a b<0:=by unfold gv;split<;> (try split)<;> lia
 rw[ut];unfold mY;rw[show O.cmp .z .z=0 from rfl,ycw (show ¬(0:Int)≠0 from λz=>z rfl),ycv (by (clear h;lia))];exact hz
theorem vg {i:Nat}:∀n j:Nat,i<j->O.Lt (.c .z (201- (i:Int)) .z) (vf j n)
 | 0,_,_=>trivial
 | n+1,j,h=>⟨DK (by walk_at "om"),vg n (j+1) (by walk_at "om")⟩
theorem vh:∀n i:Nat,i+n<=201->(vf i n).NF
 | 0,_,_=>trivial
 | n+1,i,h=>⟨⟨trivial,by walk_at "om",trivial,trivial⟩,by decide,vg n (i+1) (by (clear h;lia)),vh n (i+1) (by walk_at "om")⟩
theorem nV:∀n i:Nat,(vf i n).size=2*n
 | 0,_=>rfl
 | n+1,i=>by simp only[vf,O.size,nV n (i+1)];lia
theorem vi:∀n i:Nat,(vf i n).dp<=2
 | 0,_=>zero_le _
 | n+1,i=>by have:=vi n (i+1);simp only[vf,O.dp];lia
theorem vj:∀n i:Nat,O.mx (vf i n)<=201
 | 0,_=>show(0:Int)<=201 by decide
 | n+1,i=>by have:=vj n (i+1);simp only[vf,O.mx];lia
theorem AW {n:Nat} (h:n<=201):gh (vf 0 n):=⟨vh n 0 (by walk_at "om"),by rw[nV];lia,Int.lt_of_le_of_lt (vj n 0) (by decide+kernel),by have:=vi n 0;lia⟩
noncomputable def DL:bA:=λws G q _=>∃c:Int,ws=[.int c]/\∀(o:O) (G':Gp),gh o->aG G G'->q (.tup (am o)) G'
theorem Gj (F:cq K "_law_big" "_law_big" (ax 69) f fd) (F1:Fx P w K mg base "_law_chain" ["_law_many"] 1 Dy) (mr:mg "range"=none) (mt:mg "tuple"=none):cu P w K mg base 2 f fd ["_law_cell"] DL:=by
 refine eM (k:=1) F (N:=["_law_cell"]) (by walk_at "s") (by walk_at "l") λ_ _ _ _ _ _ nd hr=>?_;apply aL
 ·exact(ae (aS (aA (bo hr) (au bE (aa 0) af) af) (ae (aq (aB F1 (aw.mono hr (by lia)) rfl (ac (au aU af (au bE (au ck (aa 0) af) af)) ag))) ah) ah) (ae (aS (aA (bo hr) (au bE (aa 0) af) af) (ae (aq (aD (ac (aD (ac (aD ag) (ac (au aU (au lY (au dS (au dS af af) af) af) (au bE (au ck (aa 0) af) af)) ag))) ag))) ah) ah) (ae (aq (ce gE rfl mt d6 (ac (cU (cL (by first | rfl | decide+kernel)) rfl (fi rfl mr (ac (au aU af (au bE (au ck (aa 0) af) af)) ag)) (λ_ _ _ _=>(bO 1 (by first | assumption | decide+kernel | rfl) rfl (.inl rfl))) (λ_ _ _ _=>cS) (λ_ _ _ _=>(aD (ac (aD (ac (aD (ac (aD ag) (ac (au lY af (aa 1)) ag))) ag)) (ac af ag))))) ag))) ah)))
 ·rintro ws G q e ⟨c,rfl,hq⟩;walk_at "a0";refine bB (λ_=>?_) λ_=>?_
  ·have h6:=fC (i:=c/3) (j:=6) (by walk_at "om");refine⟨(40+c/3%6).toNat,by rw[Int.toNat_of_nonneg (by walk_at "om")],by walk_at "om",aG.done (hq _ G (AV (by walk_at "om")) (aG.refl G))⟩
  subst hU;refine aI λU hU=>?_;have e5:((10:Int)^60)^5=10^300:=by decide+kernel
  simp only[Int.reducePow] at e5;walk_at "R";refine bB (λ_=>?_) λ_=>?_
  ·have h4:=fC (i:=c/3) (j:=4) (by (clear e5;lia));refine⟨.inr ⟨by decide,by decide,by decide+kernel⟩,?_⟩;rw[e5];have e0:(2:Int)<10^300:=by decide+kernel
   have e1:(10:Int)^300+2<10^301:=by decide+kernel
   generalize (10:Int)^300=B at e0 e1 ⊢;generalize hD:(10:Int)^301=D at e1;refine aG.done (hq (.c .z (B-2+c/3%4) .z) G ⟨⟨trivial,by (clear e5 hD e1;lia),trivial,trivial⟩,show 1+0+0<=410 by decide,?_,show max (0+1) 0<=47 by decide⟩ (aG.refl G));rw[hD];simp only[O.mx]
   (clear e5 e0;lia)
  subst hU;have h3:=fC (i:=c/3) (j:=3) (by (clear e5;lia));walk_at "R";refine⟨by lia,by lia,?_⟩;generalize hn:(199+c/3%3).toNat=n;have hn2:n<=201:=by (clear e5;lia)
  show cf _ _ _ _ ((List.range n).map _) [none,none] G [] _;refine gR (i:=1) (λk:Nat=>W.int (k:Int)) GH (τ0:=[none,none]) trivial (λk hk kk hkk=>?_) (by rw[List.length_range];show 0+_<=_;(clear e5 h3 hn;lia)) (λ_=>rfl) λp hp=>?_
  ·walk_at "R";exact hkk
  ·rw[nil_append,List.range_eq_range',qM];exact⟨_,al,aG.done (hq _ _ (AW hn2) (aG.new hp))⟩
structure EF (K:yav) (mg:yew) (NT NN TG Hy:Addr):Prop where
 m3:mg "TooGreat"=some (.ref TG)
 mH:mg "HydraError"=some (.ref Hy)
 o1:XO K NT
 o2:XO K NN
 o3:XO K TG
 xH:∃b,XC K Hy b
 s1:mroIn K NT (.ref Hy)=some true
 s2:mroIn K NN (.ref Hy)=some true
 s3:mroIn K TG (.ref Hy)=some true
noncomputable def GI (nm:List Nat->Option O) (l:List Nat) (v:W):Prop:=(∃s s' r,dy l=some s/\dD nm s=some s'/\eh s' []=some [r]/\gh r/\v=.tup (am r))∨(∃s s',dy l=some s/\dD nm s=some s'/\eh s' []=none/\v=.non)
noncomputable def DM:bA:=λws G q _=>∃(l:List Nat) (d:Addr) (nm:List Nat->Option O) (v:W),ws=[.str (bZ l),.ref d,v]/\FQ G (.ref d) nm/\l.length<=2000/\GI nm l v/\∀G',aG G G'->q (.bl true) G'
theorem vk {nm:List Nat->Option O} {s s':List bx} (h:dD nm s=some s'):¬∃m,m∈A9 s/\nm m=none:=λz=>by
 rw[(gL nm s).mpr z] at h;cases h
theorem scTd:bg ["_law_text_here","_law_names","_law_due_here","_law_refused","_law_found","e"] ["_law_text_here","_law_names","_law_due_here"] (ak (ax 74)):=by walk_at "s"
theorem Gk {NT NN TG Hy:Addr} (F:cq K "_law_told" "_law_told" (ax 74) f fd) (D:EF K mg NT NN TG Hy) (R1:Rx P w K mg base "read" ["text","names"] 91 (Dq NT NN TG) []) (F2:Fx P w K mg base "_law_is" ["_law_found","_law_due_here"] 61 DC) (mi:mg "isinstance"=none) (mn:mg "int"=none):cu P w K mg base 92 f fd ["_law_text_here","_law_names","_law_due_here"] DM:=by
 have nd:=scTd.nd;obtain⟨m3,mH,o1,o2,o3,⟨bH,xH⟩,s1,s2,s3⟩:=D;have d3:=o3.d;obtain⟨b3,x3⟩:=o3.c;have q3:=x3.self;refine A5 F scTd (λws G q e h=>by obtain⟨_,_,_,_,rfl,_⟩:=h;rfl) (λcdv A outer s H E hr=>?_);apply aL
 ·refine' ae ?s1 (ae ?s2 (ae ?s3 (ae ?s4 ?s5)))
  case s1=>exact(ay 3 nd rfl (.inl rfl) af)
  case s2=>exact(ay 4 nd rfl (.inl rfl) dM)
  case s3=>
   refine' pQ rfl rfl (pP (uc 4 (λ_ _ z=>z) nd rfl (Or.inl rfl) R1 (aw.mono hr (by walk_at "om")) rfl ?a)) (gG (oO 5 mH rfl o1 xH s1 nd rfl rfl λa=>?b1) (gG (oO 5 mH rfl o2 xH s2 nd rfl rfl λa=>?b2) (gG (oO 5 mH rfl o3 xH s3 nd rfl rfl λa=>?b3) pR)))
   case a=>exact(ac (aa 0) (ac (aa 1) ag))
   case b1=>refine' aW (ay 3 nd rfl (Or.inl rfl) (au aU af (ce lx rfl mn PyProof.Rows.boot_int (ac (show QE _ _ (ud K 5 TG) from oP rfl (by first | exact Or.inl rfl | exact Or.inr (Or.inl rfl) | exact Or.inr (Or.inr rfl)) m3 d3 rfl mi rfl) ag))))
   case b2=>refine' aW (ay 3 nd rfl (Or.inl rfl) (au aU af (ce lx rfl mn PyProof.Rows.boot_int (ac (show QE _ _ (ud K 5 TG) from oP rfl (by first | exact Or.inl rfl | exact Or.inr (Or.inl rfl) | exact Or.inr (Or.inr rfl)) m3 d3 rfl mi rfl) ag))))
   case b3=>refine' aW (ay 3 nd rfl (Or.inl rfl) (au aU af (ce lx rfl mn PyProof.Rows.boot_int (ac (show QE _ _ (ud K 5 TG) from oP rfl (by first | exact Or.inl rfl | exact Or.inr (Or.inl rfl) | exact Or.inr (Or.inr rfl)) m3 d3 rfl mi rfl) ag))))
  case s4=>exact(aS (aA pK (aa 2) dM) (ae (aq (cv (bo hr) (aa 3) af)) ah) ah)
  case s5=>exact(ae (aq (i8 (cv (bo hr) (aa 3) af) (i7 (aB F2 (aw.mono hr (by lia)) rfl (ac (aa 4) (ac (aa 2) ag)))))) ah)
 ·rintro ws G q e ⟨l,d,nm,v,rfl,hnm,hl,hdue,hq⟩;walk_at "a0";walk_at "a";subst hU;refine aI λU hU=>?_;have caught:∀(a:Addr) (G':Gp) (t4:Option W),v=.non->aG G G'->U { nx:=λx G1=>∃G0,aG G0 G1/\q W.non G0,rt:=λw G1=>∃G0,aG G0 G1/\q w G0 } [some (.str (bZ l)),some (.ref d),some v,some (.int 2),t4,none] G':=λa G' t4 hv le=>by
   subst hv;walk_at "a";rw[ycv (by rfl)];exact aG.done (hq G' le)
  have good:∀r:O,gh r->v=.tup (am r)->U { nx:=λx G1=>∃G0,aG G0 G1/\q W.non G0,rt:=λw G1=>∃G0,aG G0 G1/\q w G0 } [some (.str (bZ l)),some (.ref d),some v,some (.int 0),some (.tup (am r)),none] G:=λr hr hv=>by
   subst hv;walk_at "a";rw[ycw (show ¬(false ^^ fY (W.tup (am r)))=true from λh=>Bool.noConfusion h)];subst hU;walk_at "R";have hrd:=hr.2.2.2;refine⟨r,r,rfl,by walk_at "om",?_⟩;rw[ydz rfl];exact aG.done (hq G (aG.refl G))
  walk_at "R";have hT:∀s,dy l=some s->uX l=some s:=λs h=>by unfold uX;rw[ycv hl];exact h
  refine⟨_,_,nm,rfl,hnm,.inl ⟨l,rfl,by walk_at "om",λh=>?_,λs hs hn=>?_,λs s' hs hlk r hr hf=>?_,λs s' hs hlk hn G' le C hC=>?_⟩⟩
  ·exfalso;rcases hdue with⟨s,s',r,h1,_⟩ | ⟨s,s',h1,_⟩
   ·rw[hT s h1] at h;cases h
   ·rw[hT s h1] at h;cases h
  ·exfalso;rcases hdue with⟨s1,s',r,h1,h2,_⟩ | ⟨s1,s',h1,h2,_⟩
   ·rw[hT s1 h1] at hs;cases hs;exact vk h2 hn
   ·rw[hT s1 h1] at hs;cases hs;exact vk h2 hn
  ·rcases hdue with⟨s1,s1',r1,h1,h2,h3,h4,h5⟩ | ⟨s1,s1',h1,h2,h3,h4⟩
   ·rw[hT s1 h1] at hs;cases hs;rw[h2] at hlk;cases hlk;rw[h3] at hr;cases hr;exact good r h4 h5
   ·rw[hT s1 h1] at hs;cases hs;rw[h2] at hlk;cases hlk;rw[h3] at hr;cases hr
  ·rcases hdue with⟨s1,s1',r1,h1,h2,h3,h4,h5⟩ | ⟨s1,s1',h1,h2,h3,h4⟩
   ·rw[hT s1 h1] at hs;cases hs;rw[h2] at hlk;cases hlk;rw[h3] at hn;cases hn
   ·cases hC;refine⟨_,.tail _ (.tail _ (.head _)),?_⟩;walk_at "R";intro a ha;refine⟨a,_,true,rfl,al,q3,?_⟩;exact caught a _ _ h4 (le.trans (aG.new ha))
theorem su (kvs:List (bd×W)) (k:bd) (v:W):(fT kvs k v).map (·.1)=if (kvs.any λkv=>decide (kv.1=k))=true then kvs.map (·.1) else kvs.map (·.1)++[k]:=by
 unfold fT;split
 ·rw[map_map];apply List.map_congr_left;intro x _;show(if x.1=k then (x.1,v) else x).1=x.1;split<;> rfl
 ·rw[map_append]
  rfl
theorem yb {kvs:List (bd×W)} (k:bd) (v:W) (h:(kvs.map (·.1)).Nodup):((fT kvs k v).map (·.1)).Nodup:=by
 rw[su];split
 ·exact h
 ·rename_i hn;rw[List.nodup_append];refine⟨h,by simp,λx hx y hy z=>hn ?_⟩;rw[mem_singleton.mp hy] at z;obtain⟨u,hu,rfl⟩:=mem_map.mp hx;exact List.any_eq_true.mpr ⟨u,hu,ydz z⟩
theorem pB:∀{kvs:List (bd×W)},(kvs.map (·.1)).Nodup->∀p,p∈kvs->eg kvs p.1=some p.2
 | [],_,p,h=>by cases h
 | x::kvs,hn,p,h=>by
   rw[map_cons,nodup_cons] at hn;unfold eg;rw[List.find?_cons];rcases mem_cons.mp h with rfl | h
   ·rw[ydz rfl]
    rfl
   ·rw[ydy (λz:x.1=p.1=>hn.1 (by rw[z];exact mem_map.mpr ⟨p,h,rfl⟩))];exact pB hn.2 p h
structure sw (kvs:List (bd×W)):Prop where
 nd:(kvs.map (·.1)).Nodup
 all:∀x,x∈kvs->∃l o,x.1=.inr (bZ l)/\bY l=true/\x.2=.tup (am o)/\gh o
theorem sw.put {kvs:List (bd×W)} (h:sw kvs) {l:List Nat} (hl:bY l=true) {o:O} (ho:gh o):sw (fT kvs (.inr (bZ l)) (.tup (am o))):=by
 refine⟨yb _ _ h.nd,λx hx=>?_⟩;unfold fT at hx;split at hx
 ·obtain⟨y,hy,rfl⟩:=mem_map.mp hx;split
  ·rename_i e;exact⟨l,o,e,hl,rfl,ho⟩
  ·exact h.all y hy
 ·rcases mem_append.mp hx with hx | hx
  ·exact h.all x hx
  ·rw[mem_singleton.mp hx];exact⟨l,o,rfl,hl,rfl,ho⟩
theorem sw.nil:sw []:=⟨List.nodup_nil,λx h=>by cases h⟩
theorem sw.nm {kvs:List (bd×W)} (h:sw kvs):∃nm,sj kvs nm/\∀l b,nm l=some b->gh b:=by
 have h2:∀l:List Nat,∃o:Option O,(eg kvs (.inr (bZ l))=o.map λb=> .tup (am b))/\∀b,o=some b->gh b:=λl=>by
  unfold eg;cases e:kvs.find? λkv=>decide (kv.1=.inr (bZ l)) with
  | none=>exact⟨none,rfl,λb z=>by cases z⟩
  | some x=>
    obtain⟨_,o,_,_,ho,hf⟩:=h.all x (List.mem_of_find?_eq_some e);exact⟨some o,congrArg some ho,λb z=>by cases z;exact hf⟩
 exact⟨λl=>(h2 l).choose,λl=>(h2 l).choose_spec.1,λl b=>(h2 l).choose_spec.2 b⟩
theorem sw.at {kvs:List (bd×W)} (h:sw kvs) {nm:List Nat->Option O} (hn:sj kvs nm) (hf:∀l b,nm l=some b->gh b) {x:bd×W} (hx:x∈kvs):∃l o,x.1=.inr (bZ l)/\bY l=true/\eg kvs (.inr (bZ l))=some (.tup (am o))/\nm l=some o/\gh o:=by
 obtain⟨l,o,e,hl,ho,_⟩:=h.all x hx;have h1:=pB h.nd x hx;rw[e,ho] at h1;have h2:=hn l;rw[h1] at h2;cases hb:nm l with
 | none=>rw[hb] at h2;cases h2
 | some b=>
   rw[hb] at h2;have:o=b:=mZ (W.tup.inj (Option.some.inj h2));subst this;exact⟨l,o,e,hl,h1,hb,hf l o hb⟩
noncomputable abbrev vt:=List Nat×Nat×O
noncomputable abbrev jD (x:vt):W:=FV x.1 x.2.1 x.2.2
structure nW (nm:List Nat->Option O) (D:Nat) (x:vt):Prop where
 e:nZ nm D x.2.1 x.1 x.2.2
 f:gh x.2.2
 l:x.1.length<=90
theorem nW.le {nm:List Nat->Option O} {D D2:Nat} {x:vt} (h:nW nm D x) (hD:D<=D2):nW nm D2 x:=⟨h.e.le hD,h.f,h.l⟩
noncomputable def yc:List vt:=[([119],0,om),([48],0,.z),([50],0,.c .z 2 .z),([50,53],0,.c .z 25 .z)]
theorem vm {n:Int} (h0:1<=n) (h1:n<=10^60):gh (.c .z n .z):=⟨⟨trivial,h0,trivial,trivial⟩,show 1+0+0<=410 by decide,by
 have e:(10:Int)^60<10^301:=by decide+kernel
 have e0:(0:Int)<10^301:=by decide+kernel
 generalize (10:Int)^60=B at h1 e;generalize (10:Int)^301=C at e e0 ⊢;simp only[O.mx]
 (clear e0;lia),show max (0+1) 0<=47 by decide⟩
theorem yd (nm:List Nat->Option O):∀x,x∈yc->nW nm 0 x:=λx hx=>by
 simp only[yc,mem_cons,List.not_mem_nil,or_false] at hx;rcases hx with rfl | rfl | rfl | rfl
 ·exact⟨Dt nm 0,⟨⟨⟨trivial,by decide,trivial,trivial⟩,by decide,trivial,trivial⟩,by decide,by decide+kernel,by decide⟩,by decide⟩
 ·exact⟨iT nm 0 (n:=0) (by decide) (by decide),⟨trivial,by decide,by decide+kernel,by decide⟩,by decide⟩
 ·exact⟨iT nm 0 (n:=2) (by decide) (by decide),vm (by decide) (by decide),by decide⟩
 ·exact⟨iT nm 0 (n:=25) (by decide) (by decide),vm (by decide) (by decide),by decide⟩
noncomputable def DN:bA:=λws G q _=>∃(d:Addr) (kvs:List (bd×W)) (nm:List Nat->Option O),ws=[.ref d]/\G d=some (.dic kvs)/\sw kvs/\kvs.length<=4/\sj kvs nm/\(∀l b,nm l=some b->gh b)/\∀(p:Addr) (xs:List vt) (G':Gp),G p=none->aG G G'->G' p=some (.lst (xs.map jD))->0<xs.length->xs.length<=8->(∀x,x∈xs->nW nm 0 x)->q (.ref p) G'
theorem Gm (F:cq K "_law_rows" "_law_rows" (ax 75) f fd):cu P w K mg base 1 f fd ["_law_names"] DN:=by
 refine eM (k:=0) F (N:=["_law_names","_law_rows_here","_law_name_here"]) (by walk_at "s") (by walk_at "l") λ_ _ _ _ _ _ nd hr=>?_;apply aL
 ·refine' ae ?s1 (ae (xv (cR PassesOwn.never rfl (xw 0 rfl (by first | exact Or.inl rfl | exact Or.inr (Or.inl rfl) | exact Or.inr (Or.inr rfl))) ?tg ?b)) ?s3)
  case s1=>exact(ay 1 nd rfl (.inl rfl) (cK (ac (aD (ac aZ (ac af (ac (aD (ac (aD (ac (aD (ac (aD (ac (aD ag) (ac af ag))) ag)) (ac af ag))) ag)) ag)))) (ac (aD (ac aZ (ac af (ac (aD ag) ag)))) (ac (aD (ac aZ (ac af (ac (aD (ac (aD (ac (aD ag) (ac af ag))) ag)) ag)))) (ac (aD (ac aZ (ac af (ac (aD (ac (aD (ac (aD ag) (ac af ag))) ag)) ag)))) ag))))))
  case tg=>exact(bI 2 nd rfl (.inl rfl))
  case b=>exact(ae (bu (dh (aa 1) (aD (ac (aa 2) (ac af (ac (aE aF (aa 0) (aa 2)) ag)))))) ah)
  case s3=>exact(ae (aq (aa 1)) ah)
 ·rintro ws G q e ⟨d,kvs,nm,rfl,hd,hK,hlen,hnm,hft,hq⟩;walk_at "a0";intro p hp;have dp:d≠p:=λz=>by rw[z,hp] at hd;cases hd
  walk_at "a";refine⟨d,kvs,aV hd hp,kvs,aV hd hp,λo us=>?_⟩;refine bU (λws τ G'=>∃(k2:List (bd×W)) (xs:List vt) (t2:Option W),ws=k2.map (λp=>kW p.1)/\(∀x,x∈k2->x∈kvs)/\τ=[some (.ref d),some (.ref p),t2]/\G' d=some (.fdc o us kvs)/\G' p=some (.lst (xs.map jD))/\(∀a g,a≠d->G a=some g->G' a=some g)/\xs.length+k2.length<=8/\0<xs.length/\∀x,x∈xs->nW nm 0 x) ?_ ?_ _ _ _
   ⟨kvs,yc,none,rfl,λx h=>h,rfl,al,by rw[aK (Ne.symm dp),al];rfl,λa g h1 h2=>by rw[aK h1];exact aV h2 hp,by simp only[yc,length_cons,length_nil];lia,by decide,yd nm⟩
  ·rintro τ G' ⟨k2,xs,t2,hw,hk2,rfl,gd,gp,hle,hlx,h0,hx⟩;refine⟨gd,o,us,kvs,gd,?_⟩;subst hU;walk_at "R";refine aG.done (hq p xs _ hp (λa g h=>?_) (by rw[aK (Ne.symm dp)];exact gp) h0 (by (clear hlen h0;lia)) hx)
   by_cases z:a=d
   ·subst z;rw[al];rw[hd] at h;exact h
   ·rw[aK z];exact hle a g z h
  ·rintro w1 ws τ G' kk ⟨k2,xs,t2,hw,hk2,rfl,gd,gp,hle,hlx,h0,hx⟩ hk;cases k2 with
   | nil=>cases hw
   | cons x k2=>
     cases hw;refine⟨gd,?_⟩;rw[length_cons] at hlx;obtain⟨l,b,e1,hl,hv,hn,hf⟩:=hK.at hnm hft (hk2 x yby);dsimp only;rw[e1];unfold kW;walk_at "R";refine⟨⟨_,gp⟩,kvs,_,.inr ⟨o,us,gd⟩,hv,_,gp,by rw[length_map];(clear hlen h0;lia),hk _ _ ⟨k2,xs++[(l,0,b)],_,rfl,λy hy=>hk2 y (ybx _ hy),rfl,by rw[aK dp];exact gd,by rw[al,map_append];rfl,λa g h1 h2=>?_,by rw[length_append,length_singleton];(clear hlen h0;lia),by rw[length_append,length_singleton];(clear hlen hlx;lia),λy hy=>?_⟩⟩
     ·rw[aK (λz=>by rw[z,hp] at h2;cases h2)];exact hle a g h1 h2
     ·rcases mem_append.mp hy with hy | hy
      ·exact hx y hy
      ·rw[mem_singleton.mp hy];exact⟨x4 0 hl hn,hf,by have:=(bY.len hl).2.1;show l.length<=90;lia⟩
theorem vq.ft {o:O} (h:vq (10^52) o):gh o:=⟨h.1.nf,by have:=h.2;lia,Int.lt_of_le_of_lt h.1.mx (by decide+kernel),by have:=O.dp_le_size o;have:=h.2;lia⟩
theorem DO (cs:List Int) (lo hi:Option Int):∃ds:List Int,cQ (cs.map W.int) lo hi=ds.map W.int/\(∀c,c∈ds->c∈cs)/\ds.length<=cs.length:=
 ⟨(cs.drop (HT.sIx cs.length 0 lo)).take (HT.sIx cs.length cs.length hi-HT.sIx cs.length 0 lo),by unfold cQ;rw[length_map,map_take,List.map_drop],λc hc=>List.mem_of_mem_drop (List.mem_of_mem_take hc),by rw[length_take,length_drop];lia⟩
theorem vn {B:Int}:∀{ds:List Int},(∀c,c∈ds->0<=c/\c<B)->0<=ds.sum/\ds.sum<=ds.length*B
 | [],_=>⟨by decide,by simp⟩
 | c::ds,h=>by
   obtain⟨h1,h2⟩:=vn λx hx=>h x (ybx _ hx);obtain⟨h3,h4⟩:=h c yby;rw[sum_cons,length_cons,Int.natCast_add,Int.add_mul];lia
theorem iU {xs:List W} {R:W->Prop} (c:Int) {n:Int} (hn:n=(xs.length:Int)) (h0:0<xs.length) (hR:∀x,x∈xs->R x):∃x,eA xs (c%n)=some x/\R x:=by
 have h1:=Int.emod_nonneg c (b:=n) (by walk_at "om");have h2:=Int.emod_lt_of_pos c (b:=n) (by (clear h1;lia));obtain⟨j,hj⟩:∃j:Nat,c%n=(j:Int):=⟨(c%n).toNat,(Int.toNat_of_nonneg h1).symm⟩;have hj2:j<xs.length:=by (clear h0 h1;lia)
 rw[hj];exact⟨xs[j],eR (ycz hj2),hR _ (getElem_mem hj2)⟩
theorem AX (E:Nat):lg E [48] [.num (O.wh 0)]:=λ_ _ _ hn=>o5 (n:=0) AG (by decide) (by decide) hn
theorem Go (E:Nat):lg E [49] [.num (O.wh 1)]:=λ_ _ _ hn=>o5 (n:=1) AG (by decide) (by decide) hn
theorem vo {nm:List Nat->Option O} {D k:Nat} {l:List Nat} (h:u0 nm D k l):∀m,m∈[[48,42,40]++l++[41],[40]++l++[41,42,48],[49,94,40]++l++[41],[40]++l++[41,94,48]]->∃k,u0 nm (D+1) k m:=λm hm=>by
 simp only[mem_cons,List.not_mem_nil,or_false] at hm;rcases hm with rfl | rfl | rfl | rfl
 ·exact⟨_,(lE h AX 1).1⟩
 ·have:=(lE h AX 1).2;rw[List.cons_append,append_assoc] at this;exact⟨_,this⟩
 ·exact⟨_,(lE h Go 2).1⟩
 ·have:=(lE h AX 2).2;rw[List.cons_append,append_assoc] at this;exact⟨_,this⟩
theorem Gq (F:cq K "law" "law" (ax 76) f fd) (F1:Fx P w K mg base "_law_pool" ["_law_script"] 63 DB) (F2:Fx P w K mg base "_law_name" ["_law_cell"] 1 u3) (F3:Fx P w K mg base "_law_big" ["_law_cell"] 2 DL) (F4:Fx P w K mg base "_law_rows" ["_law_names"] 1 DN) (F5:Fx P w K mg base "_law_whole" ["_law_number"] 1 DI) (F6:Fx P w K mg base "_law_text" ["_law_way","_law_one","_law_other","_law_cell"] 2 Dx) (F7:Fx P w K mg base "_law_due" ["_law_way","_law_one","_law_other"] 61 DJ) (F8:Fx P w K mg base "_law_told" ["_law_text_here","_law_names","_law_due_here"] 92 DM) (F9:Fx P w K mg base "_law_size" ["_law_number"] 60 (sr 60)) (ml:mg "len"=none) (mr:mg "range"=none) (ms:mg "sum"=none) (md:mg "dict"=none) (mt:mg "str"=none):cu P w K mg base 100 f fd ["_law_script"] ki:=by
 refine eM F (N:=["_law_script","_law_pool_here","_law_cells","_law_names","_law_k","_law_cell","_law_known","_law_rows_here","_law_one","_law_other","_law_number","_law_way","_law_text_here","_law_due_here","_law_some","_law_kind"]) (by walk_at "s") (by walk_at "l") λ_ _ _ _ _ _ nd hr=>?_;apply aL
 ·refine' ae ?s1 (ae ?s2 (ae ?s3 (ae ?s4 (ae ?s5 (ae ?s6 (ae ?s7 (ae (cR PassesOwn.never rfl ?it ?tg (ae ?b1 (ae ?b2 (ae ?b3 (ae ?b4 (ae (aS (dX (de ?c1 (de ?c2 (dB (jv (gf hr) (gf hr) af ?c3 af))))) ?b5 ah) (ae ?b6 (ae ?b7 (ae ?b8 (ae ?b9 (ae ?b10 (aW ?b11)))))))))))) (ae ?s9 (aW (aq (cv (CK hr) ?e1 ?e2)))))))))))
  case s1=>exact(ay 1 nd rfl (.inl rfl) (aB F1 (aw.mono hr (by lia)) rfl (ac (aa 0) ag)))
  case s2=>exact(iO 2 (cL (by first | rfl | decide+kernel)) rfl nd rfl (.inl rfl) (bv (bw (aa 0) cI (bR af))) (λ_ _ _ _=>(bO 1 (by first | assumption | decide+kernel | rfl) rfl (.inl rfl))) (λ_ _ _ _=>cS) (λ_ _ _ _=>(au bE (aa 1) (au dS af af))))
  case s3=>exact(ay 3 nd rfl (.inl rfl) qt)
  case s4=>exact(cR PySem.PassesOwn.never rfl (fi rfl mr (ac af ag)) (bI 4 nd rfl (.inl rfl)) (ae (ay 5 nd rfl (.inl rfl) (aM (jb rfl) rfl ms jf (ac (bw (aa 2) (bR (aa 4)) (bR (au aU (aa 4) af))) ag))) (ae (qw (aE aF (aa 1) (au bE (au bE (au ir (aa 5) af) af) (aM bD rfl ml PySem.boot_len (ac (aa 1) ag)))) (aa 3) (aB F2 (aw.mono hr (by lia)) rfl (ac (au ck (aa 5) af) ag))) ah)))
  case s5=>exact(aS (aA (bo hr) (au bE (aM (jb rfl) rfl ms jf (ac (aa 2) ag)) af) af) (ae (qw (aB F3 (aw.mono hr (by lia)) rfl (ac (au ck (aM (jb rfl) rfl ms jf (ac (aa 2) ag)) af) ag)) (aa 3) (aB F2 (aw.mono hr (by lia)) rfl (ac (au ck (aM (jb rfl) rfl ms jf (ac (aa 2) ag)) af) ag))) ah) ah)
  case s6=>exact(ay 6 nd rfl (.inl rfl) (ce (CG rfl) rfl md AC (ac (aa 3) ag)))
  case s7=>exact(ay 7 nd rfl (.inl rfl) (aB F4 (aw.mono hr (by lia)) rfl (ac (aa 3) ag)))
  case it=>exact(bv (aa 2))
  case tg=>exact(bI 5 nd rfl (.inl rfl))
  case b1=>exact(ay 8 nd rfl (.inl rfl) (aE aF (aa 7) (au bE (au bE (au ir (aa 5) af) af) (aM bD rfl ml PySem.boot_len (ac (aa 7) ag)))))
  case b2=>exact(ay 9 nd rfl (.inl rfl) (aE aF (aa 7) (au bE (au bE (au ir (aa 5) af) af) (aM bD rfl ml PySem.boot_len (ac (aa 7) ag)))))
  case b3=>exact(aS (aA (bo hr) (au bE (aa 5) af) af) (ae (ay 10 nd rfl (.inl rfl) (au aU af (au bE (au ck (aa 5) af) (aE aF (cK (ac af (ac (au dS af af) ag))) (au bE (au ck (aa 5) af) af))))) (ae (ay 9 nd rfl (.inl rfl) (aD (ac (ce CM rfl mt PyProof.Rows.boot_str (ac (aa 10) ag)) (ac af (ac (aD (ac (aD (ac (aD ag) (ac (aa 10) ag))) ag)) ag))))) ah)) ah)
  case b4=>exact(ay 11 nd rfl (.inl rfl) (au bE (au ck (aa 5) af) af))
  case c1=>exact(aA (bo hr) (aa 11) af)
  case c2=>exact(aA fQ (aM bD rfl ml PySem.boot_len (ac (aE aF (aa 8) af) ag)) af)
  case c3=>exact(aB F5 (aw.mono hr (by lia)) rfl (ac (aE aF (aa 9) af) ag))
  case b5=>exact(ae (ay 11 nd rfl (.inl rfl) af) ah)
  case b6=>exact(ay 12 nd rfl (.inl rfl) (aB F6 (aw.mono hr (by lia)) rfl (ac (aa 11) (ac (aa 8) (ac (aa 9) (ac (au ck (aa 5) af) ag))))))
  case b7=>exact(ay 13 nd rfl (.inl rfl) (aB F7 (aw.mono hr (by lia)) rfl (ac (aa 11) (ac (aE aF (aa 8) af) (ac (aE aF (aa 9) af) ag)))))
  case b8=>exact(aS (dX (de (aA rp (aM bD rfl ml PySem.boot_len (ac (aa 12) ag)) af) (dB (dP (bS (aB F8 (aw.mono hr (by lia)) rfl (ac (aa 12) (ac (aa 3) (ac (aa 13) ag))))))))) (ae (aq fX) ah) ah)
  case b9=>exact(ay 14 nd rfl (.inl rfl) (cK (ac (au aU (au aU aZ (aa 12)) aZ) (ac (au aU (au aU aZ (aa 12)) aZ) (ac (au aU (au aU aZ (aa 12)) aZ) (ac (au aU (au aU aZ (aa 12)) aZ) ag))))))
  case b10=>exact(aS (dX (de (aA pK (aa 13) dM) (de (aA rp (aM bD rfl ml PySem.boot_len (ac (aa 12) ag)) af) (dB (dP (bS (aB F8 (aw.mono hr (by lia)) rfl (ac (aE aF (aa 14) (au bE (au ck (aa 5) af) af)) (ac (aa 3) (ac dM ag)))))))))) (ae (aq fX) ah) ah)
  case b11=>exact(aS (dX (de (aA zQ (aa 13) dM) (de (aA rp (aB F9 (aw.mono hr (by lia)) rfl (ac (aa 13) ag)) af) (dB (aA rp (aM bD rfl ml PySem.boot_len (ac (aa 12) ag)) af))))) (ae (bu (dh (aa 7) (aD (ac (aa 12) (ac (aE aF (cK (ac af (ac af (ac af ag)))) (aa 11)) (ac (aa 13) ag)))))) ah) ah)
  case s9=>exact(cR PySem.PassesOwn.never rfl (bv (bw (aa 7) (bR (fm af)) cI)) (oA rfl (dQ (bI 12 nd rfl (.inl rfl)) (dQ (bI 15 nd rfl (.inl rfl)) (dQ (bI 13 nd rfl (.inl rfl)) kK)))) (ae (aS (dP (bS (aB F8 (aw.mono hr (by lia)) rfl (ac (aa 12) (ac (aa 3) (ac (aa 13) ag)))))) (ae (aq fX) ah) ah) ah))
  case e1=>exact(aa 3)
  case e2=>exact(aa 6)
 ·rintro ws G q e ⟨ns,rfl,hl,hq⟩;walk_at "a0";refine⟨ns,rfl,hl,λp more hp hm hg=>?_⟩;have hG:aQ G p (.lst (cF (cY++more))) p=some (.lst (cF (cY++more))):=al;generalize aQ G p (.lst (cF (cY++more)))=G1 at hG ⊢;generalize hpool:cY++more=pool at hg hG ⊢;have h0:3<=pool.length:=by rw[←hpool];simp[cY]
  have hsz:pool.length<=27:=by rw[←hpool];simp[cY];assumption
  walk_at "a";have e16:cQ (ns.map W.int) none (some 16)=(ns.take 16).map W.int:=by rw[show(16:Int)=((16:Nat):Int) from rfl,o9,map_take]
  rw[e16];refine⟨by walk_at "om",λpz hpz=>?_⟩;refine⟨_,al,?_⟩;show cf _ _ _ _ _ [none,none] _ [] _;refine gR (i:=1) W.int (λn=>W.int (n%1000000000000000000000000000000000000000000000000000000000000)) (τ0:=[none,none]) al (λn hn k hk=>?_) (by rw[length_take];show 0+_<=_;(clear hm h0 hsz;lia)) (λ_=>rfl) λpc hpc=>?_
  ·walk_at "R";exact hk
  have hGz:=aV (g:=GO.lst ((ns.take 16).map W.int)) hG hpz;generalize aQ G1 pz (GO.lst ((ns.take 16).map W.int))=G2 at hGz hpc ⊢;obtain⟨cs,hcs,hcl,hcb⟩:∃cs:List Int,[]++(ns.take 16).map (λn=>W.int (n%1000000000000000000000000000000000000000000000000000000000000))=cs.map W.int/\cs.length<=16/\∀c,c∈cs->0<=c/\c<1000000000000000000000000000000000000000000000000000000000000:=by
   refine⟨(ns.take 16).map (·%1000000000000000000000000000000000000000000000000000000000000),by rw[nil_append,map_map];rfl,by rw[length_map,length_take];(clear hm h0 hsz;lia),λc hc=>?_⟩;obtain⟨n,_,rfl⟩:=mem_map.mp hc;exact⟨Int.emod_nonneg _ (by decide),Int.emod_lt_of_pos _ (by decide)⟩
  rw[hcs];have hGp:=aV (g:=GO.lst (cs.map W.int)) hGz hpc;have hGc:aQ G2 pc (GO.lst (cs.map W.int)) pc=some (GO.lst (cs.map W.int)):=al;generalize aQ G2 pc (GO.lst (cs.map W.int))=G3 at hGp hGc ⊢;walk_at "a";intro d hd;have hGp4:=aV (g:=GO.dic []) hGp hd;have hGc4:=aV (g:=GO.dic []) hGc hd;have hGd4:aQ G3 d (GO.dic []) d=some (GO.dic []):=al;have pd:p≠d:=λz=>by rw[z,hd] at hGp;cases hGp
  have cd:pc≠d:=λz=>by rw[z,hd] at hGc;cases hGc
  generalize aQ G3 d (GO.dic [])=G4 at hGp4 hGc4 hGd4 ⊢;walk_at "a";refine iQ 3 (λi τ G'=>∃(kvs:List (bd×W)) (t4 t5:Option W),τ=[some (.scr ns),some (.ref p),some (.ref pc),some (.ref d),t4,t5,none,none,none,none,none,none,none,none,none,none]/\G' p=some (.lst (cF pool))/\G' pc=some (.lst (cs.map W.int))/\G' d=some (.dic kvs)/\sw kvs/\kvs.length<=i) ⟨[],_,_,rfl,hGp4,hGc4,hGd4,sw.nil,ycx _⟩ ?_ ?_;rotate_left
  ·rintro i τ G' kk hi ⟨kvs,t4,t5,rfl,gp,gc,gd,hK,hkl⟩ hk;refine⟨trivial,?_⟩;simp only[ff,set_cons_succ,set_cons_zero];refine aI λU1 hU1=>?_;walk_at "R";refine⟨_,gc,λp1 hp1=>?_⟩;obtain⟨ds,e1,hds,hdl⟩:=DO cs (some (i:Int)) (some ((i:Int)+1));rw[e1];refine⟨ds,al,?_⟩;obtain⟨s0,s1⟩:=vn λc hc=>hcb c (hds c hc);have s2:ds.sum<=16*1000000000000000000000000000000000000000000000000000000000000:=by (clear hl hm h0 hsz hi hkl s0;lia)
   generalize ds.sum=c0 at s0 s2 ⊢;have gp1:=aV (g:=GO.lst (ds.map W.int)) gp hp1;have gc1:=aV (g:=GO.lst (ds.map W.int)) gc hp1;have gd1:=aV (g:=GO.lst (ds.map W.int)) gd hp1;generalize aQ G' p1 (GO.lst (ds.map W.int))=G5 at gp1 gc1 gd1 ⊢;subst hU1;walk_at "R";refine⟨_,.lst gp1,by rw[bW];(clear hl hm hcl hi hkl hdl s1 s0 s2;lia),?_⟩;refine gy gp1 (iU _ rfl (by rw[bW];(clear hl hm hcl hi hkl hdl s1 s0 s2;lia)) λx hx=>?_);obtain⟨o,ho,rfl⟩:=mem_map.mp hx;refine⟨_,rfl,λl hl=>⟨d,_,kvs,rfl,rfl,gd1,by (clear hm h0 hsz hcl hdl s1 s0 s2;lia),hk _ _ ⟨_,_,_,rfl,by rw[aK pd];exact gp1,by rw[aK cd];exact gc1,al,hK.put hl (hg o ho).ft,?_⟩⟩⟩;have:=gS kvs (.inr (bZ l)) (.tup (am o))
   (clear hm h0 hsz hcl hi hdl s1 s0 s2;lia)
  rintro τ G' ⟨kvs,t4,t5,rfl,gp,gc,gd,hK,hkl⟩;refine⟨trivial,?_⟩;clear hGp4 hGc4 hGd4 hGp hGc hd hpc hGz hpz hG hp;subst hU;dsimp only;refine aI λU hU=>?_;have next:∀(kvs:List (bd×W)) (G':Gp),G' pc=some (.lst (cs.map W.int))->G' d=some (.dic kvs)->sw kvs->kvs.length<=4->U { nx:=λx G1=>∃G0,aG G0 G1/\q W.non G0,rt:=λw G1=>∃G0,aG G0 G1/\q w G0 } [some (.scr ns),some (.ref p),some (.ref pc),some (.ref d),t4,t5,none,none,none,none,none,none,none,none,none,none] G':=λkvs G' gc gd hK hkl=>by
   walk_at "a";refine⟨kvs,.dic (.inl gd),λdk hdk=>?_⟩;have gc1:=aV (g:=GO.dic kvs) gc hdk;have gd1:=aV (g:=GO.dic kvs) gd hdk;have gk1:aQ G' dk (GO.dic kvs) dk=some (GO.dic kvs):=al;generalize aQ G' dk (GO.dic kvs)=G1 at gc1 gd1 gk1 ⊢;obtain⟨nm,hnm,hft⟩:=hK.nm;walk_at "a";refine⟨d,kvs,nm,rfl,gd1,hK,hkl,hnm,hft,λpr xs G2 hpr le2 gr h0 hxl hx=>?_⟩;have gc2:=le2 _ _ gc1;have gd2:=le2 _ _ gd1;have gk2:=le2 _ _ gk1;have cr:pc≠pr:=λz=>by rw[z,hpr] at gc1;cases gc1
   have dr:d≠pr:=λz=>by rw[z,hpr] at gd1;cases gd1
   have kr:dk≠pr:=λz=>by rw[z,hpr] at gk1;cases gk1
   clear gc1 gd1 gk1 hpr le2;walk_at "a";refine⟨_,gc2,?_⟩;refine bU (λws τ G'=>∃(ds:List Int) (ys:List vt) (D:Nat) (t5 t8 t9 t10 t11 t12 t13 t14:Option W),ws=ds.map W.int/\(∀c,c∈ds->0<=c/\c<1000000000000000000000000000000000000000000000000000000000000)/\τ=[some (.scr ns),some (.ref p),some (.ref pc),some (.ref d),t4,t5,some (.ref dk),some (.ref pr),t8,t9,t10,t11,t12,t13,t14,none]/\G' pc=some (.lst (cs.map W.int))/\G' d=some (.dic kvs)/\G' dk=some (.dic kvs)/\G' pr=some (.lst (ys.map jD))/\0<ys.length/\ys.length<=8+D/\D+ds.length<=16/\∀x,x∈ys->nW nm D x) ?_ ?_ _ _ _
    ⟨cs,xs,0,_,_,_,_,_,_,_,_,rfl,hcb,rfl,gc2,gd2,gk2,gr,h0,by assumption,by (clear hl hm hsz hkl h0 hxl;lia),hx⟩
   ·rintro τ G3 ⟨ds,ys,D,t5,t8,t9,t10,t11,t12,t13,t14,hw,hdb,rfl,gc,gd,gk,gr,h0,hyl,hDl,hys⟩;refine⟨gc,?_⟩;subst hU;dsimp only;refine aI λU hU=>?_;have fin:∀(t12 t13 t15:Option W) (G4:Gp),G4 d=some (.dic kvs)->G4 dk=some (.dic kvs)->U { nx:=λx G1=>∃G0,aG G0 G1/\q W.non G0,rt:=λw G1=>∃G0,aG G0 G1/\q w G0 } [some (.scr ns),some (.ref p),some (.ref pc),some (.ref d),t4,t5,some (.ref dk),some (.ref pr),t8,t9,t10,t11,t12,t13,t14,t15] G4:=λt12 t13 t15 G4 gd4 gk4=>by
     subst hU;walk_at "R";refine⟨kvs,kvs,.inl gd4,.inl gk4,rfl,λx hx=>?_,G4,aG.refl G4,hq G4⟩;obtain⟨_,o,_,_,ho,hf⟩:=hK.all x hx;have hdo:=bV o;have hf4:=hf.2.2.2;refine⟨x.2,pB hK.nd x hx,by rw[ho];exact⟨aY o,aY o,by (clear hl hm hsz hcl hkl hxl h0 hyl hDl;lia),by rw[fA,ydz rfl]⟩⟩
    walk_at "R";refine⟨_,gr,λp1 hp1=>⟨_,al,?_⟩⟩;obtain⟨zs,e1,hzs⟩:∃zs:List vt,cQ (ys.map jD) (some (-6)) none=zs.map jD/\∀x,x∈zs->x∈ys:=⟨_,by unfold cQ;rw[←List.map_drop,←map_take],λx hx=>List.mem_of_mem_drop (List.mem_of_mem_take hx)⟩;rw[e1];have gd1:=aV (g:=GO.lst (zs.map jD)) gd hp1;have gk1:=aV (g:=GO.lst (zs.map jD)) gk hp1;have g1:aQ G3 p1 (GO.lst (zs.map jD)) p1=some (GO.lst (zs.map jD)):=al;generalize aQ G3 p1 (GO.lst (zs.map jD))=G4 at gd1 gk1 g1 ⊢;refine bU (λws τ G'=>∃(us:List vt) (t12 t13 t15:Option W),ws=us.map jD/\(∀x,x∈us->x∈ys)/\τ=[some (.scr ns),some (.ref p),some (.ref pc),some (.ref d),t4,t5,some (.ref dk),some (.ref pr),t8,t9,t10,t11,t12,t13,t14,t15]/\aG G4 G') ?_ ?_ _ _ _ ⟨zs,_,_,_,rfl,hzs,rfl,aG.refl G4⟩
    ·rintro τ G5 ⟨us,t12,t13,t15,hw,hus,rfl,le5⟩;exact⟨le5 _ _ g1,fin _ _ _ G5 (le5 _ _ gd1) (le5 _ _ gk1)⟩
    ·rintro w1 ws τ G5 k5 ⟨us,t12,t13,t15,hw,hus,rfl,le5⟩ hk;cases us with
     | nil=>cases hw
     | cons x us=>
       cases hw;refine⟨le5 _ _ g1,?_⟩;have ok:=hys x (hus x yby);obtain⟨l,k,a⟩:=x;simp only[vY,pJ,vX,ff,set_cons_succ,set_cons_zero];refine⟨rfl,?_⟩;obtain⟨z,z',z1,z2,z3⟩:=ok.e.rd (by (clear hl hm hsz hcl hkl hxl h0 hyl;lia));have okl:l.length<=90:=ok.l;walk_at "R";refine⟨l,d,nm,_,rfl,⟨hft,.inr ⟨d,kvs,rfl,.inl (le5 _ _ gd1),hnm⟩⟩,by walk_at "om",.inl ⟨z,z',a,z1,z2,z3,ok.f,rfl⟩,λG6 le6=>?_⟩;walk_at "R";exact hk _ _ ⟨us,_,_,_,rfl,λy hy=>hus y (ybx _ hy),rfl,le5.trans le6⟩
   clear gc2 gd2 gk2 gr h0 hxl hx gc gd;rintro w1 ws τ G3 kk ⟨ds,ys,D,t5,t8,t9,t10,t11,t12,t13,t14,hw,hdb,rfl,gc,gd,gk,gr,h0,hyl,hDl,hys⟩ hk;cases ds with
   | nil=>cases hw
   | cons c ds=>
   cases hw;refine⟨gc,?_⟩;rw[length_cons] at hDl;obtain⟨c0,c1⟩:=hdb c yby
   replace hdb:∀c,c∈ds->0<=c/\c<1000000000000000000000000000000000000000000000000000000000000:=λx hx=>hdb x (ybx _ hx)
   simp only[ff,set_cons_succ,set_cons_zero];generalize hDn:({ nx:=kk,rt:=λw G1=>∃G0,aG G0 G1/\q w G0,bk:=U { nx:=λx G1=>∃G0,aG G0 G1/\q W.non G0,rt:=λw G1=>∃G0,aG G0 G1/\q w G0 },ct:=kk }:dL)=Dn;have hDx:Dn.nx=kk:=by rw[←hDn]
   clear hDn;refine aI λU1 hU1=>?_;walk_at "R";refine⟨_,.lst gr,by rw[length_map];(clear hl hm hsz hcl hkl hyl hDl c0 c1;lia),?_⟩;refine gy gr (iU _ rfl (by rw[length_map];assumption) λx hx=>?_);obtain⟨x1,hx1,rfl⟩:=mem_map.mp hx;have ok1:=hys x1 hx1;clear hx;subst hU1;refine aI λU1 hU1=>?_;walk_at "R";refine⟨_,.lst gr,by rw[length_map];(clear hl hm hsz hcl hkl hyl hDl c0 c1;lia),?_⟩;refine gy gr (iU _ rfl (by rw[length_map];assumption) λx hx=>?_);obtain⟨x2,hx2,rfl⟩:=mem_map.mp hx;have ok2:=hys x2 hx2;clear hx;subst hU1;refine aI λU1 hU1=>?_;have rest:∀(x2:vt) (t10:Option W) (G4:Gp),nW nm D x2->aG G3 G4->U1 Dn [some (.scr ns),some (.ref p),some (.ref pc),some (.ref d),t4,some (.int c),some (.ref dk),some (.ref pr),some (jD x1),some (jD x2),t10,t11,t12,t13,t14,none] G4:=λx2 t10 G4 ok2 le4=>by
    subst hU1;refine aI λU1 hU1=>?_;walk_at "R";subst hU1;refine aI λU1 hU1=>?_;have rest2:∀(y:Nat) (G5:Gp),y<=2->aG G3 G5->U1 Dn [some (.scr ns),some (.ref p),some (.ref pc),some (.ref d),t4,some (.int c),some (.ref dk),some (.ref pr),some (jD x1),some (jD x2),t10,some (.int y),t12,t13,t14,none] G5:=λy G5 hy le5=>by
     obtain⟨l1,k1,a1⟩:=x1;obtain⟨l2,k2,a2⟩:=x2;have gc5:=le5 _ _ gc;have gd5:=le5 _ _ gd;have gk5:=le5 _ _ gk;have gr5:=le5 _ _ gr;have n1:l1.length<=90:=ok1.l;have n2:l2.length<=90:=ok2.l;subst hU1;refine aI λU1 hU1=>?_;walk_at "R";refine⟨y,c/21,l1,k1,a1,l2,k2,a2,rfl,hy,by walk_at "om",by walk_at "om",λG6 le6=>?_⟩;have ent:=u5 (y:=y) (c:=c/21) ok1.e ok2.e;have tl:=u4 y (c/21) l1 k1 l2 k2;dsimp only at ent;generalize px y (c/21) l1 k1 l2 k2=tx at ent tl ⊢;have tl2:tx.length<=185:=by (clear hl hm hsz hcl hkl h0 hyl hDl c0 c1 hy;lia)
     subst hU1;refine aI λU1 hU1=>?_;have tell:∀(v:W) (G7:Gp),aG G3 G7->((∃r,v=.tup (am r)/\gh r/\nZ nm (D+1) (fG y) tx r)∨(v=.non/\u0 nm (D+1) (fG y) tx))->U1 Dn [some (.scr ns),some (.ref p),some (.ref pc),some (.ref d),t4,some (.int c),some (.ref dk),some (.ref pr),some (jD (l1,k1,a1)),some (jD (l2,k2,a2)),t10,some (.int y),some (.str (bZ tx)),some v,t14,none] G7:=λv G7 le7 hv=>by
      have gd7:=le7 _ _ gd;have nmr:∀G8,aG G7 G8->FQ G8 (.ref d) nm:=λG8 le8=>⟨hft,.inr ⟨d,kvs,rfl,.inl (le8 _ _ gd7),hnm⟩⟩;have due:GI nm tx v:=by
       rcases hv with⟨r,rfl,hf,he⟩ | ⟨rfl,he⟩
       ·obtain⟨s,s',h1,h2,h3⟩:=he.rd (by (clear hl hm hsz hcl hkl h0 hyl c0 c1 hy n1 n2 tl tl2;lia));exact .inl ⟨s,s',r,h1,h2,h3,hf,rfl⟩
       ·obtain⟨s,s',h1,h2,h3⟩:=he.rd (by (clear hl hm hsz hcl hkl h0 hyl c0 c1 hy n1 n2 tl tl2;lia));exact .inr ⟨s,s',h1,h2,h3,rfl⟩
      subst hU1;refine aI λU1 hU1=>?_;have after:∀G8,aG G7 G8->U1 Dn [some (.scr ns),some (.ref p),some (.ref pc),some (.ref d),t4,some (.int c),some (.ref dk),some (.ref pr),some (jD (l1,k1,a1)),some (jD (l2,k2,a2)),t10,some (.int y),some (.str (bZ tx)),some v,t14,none] G8:=λG8 le8=>by
       subst hU1;refine aI λU1 hU1=>?_;walk_at "R";rw[show Str.ofString "0*("=bZ [48,42,40] from rfl,show Str.ofString ")"=bZ [41] from rfl,show Str.ofString "("=bZ [40] from rfl,show Str.ofString ")*0"=bZ [41,42,48] from rfl,show Str.ofString "1^("=bZ [49,94,40] from rfl,show Str.ofString ")^0"=bZ [41,94,48] from rfl];simp only[gX];simp only[bK,length_append,length_cons,length_nil];refine⟨by (clear hl hm hsz hcl hkl h0 hyl hDl c0 c1 hy n1 n2 tl;lia),by (clear hl hm hsz hcl hkl h0 hyl hDl c0 c1 hy n1 n2 tl;lia),by (clear hl hm hsz hcl hkl h0 hyl hDl c0 c1 hy n1 n2 tl;lia),by (clear hl hm hsz hcl hkl h0 hyl hDl c0 c1 hy n1 n2 tl;lia),by (clear hl hm hsz hcl hkl h0 hyl hDl c0 c1 hy n1 n2 tl;lia),by (clear hl hm hsz hcl hkl h0 hyl hDl c0 c1 hy n1 n2 tl;lia),by (clear hl hm hsz hcl hkl h0 hyl hDl c0 c1 hy n1 n2 tl;lia),by (clear hl hm hsz hcl hkl h0 hyl hDl c0 c1 hy n1 n2 tl;lia),λp8 hp8=>?_⟩;have sm:=λk (h:u0 nm (D+1) k tx)=>vo h;have sl:∀m,m∈[[48,42,40]++tx++[41],[40]++tx++[41,42,48],[49,94,40]++tx++[41],[40]++tx++[41,94,48]]->m.length<=2000:=λm hm=>by
        simp only[mem_cons,List.not_mem_nil,or_false] at hm;rcases hm with rfl | rfl | rfl | rfl<;> (simp only[length_append,length_cons,length_nil];(clear hl hm hsz hcl hkl h0 hyl hDl c0 c1 hy n1 n2 tl;lia))
       rw[show[W.str (bZ ([48,42,40]++tx++[41])),W.str (bZ ([40]++tx++[41,42,48])),W.str (bZ ([49,94,40]++tx++[41])),W.str (bZ ([40]++tx++[41,94,48]))]=[[48,42,40]++tx++[41],[40]++tx++[41,42,48],[49,94,40]++tx++[41],[40]++tx++[41,94,48]].map (λl=>W.str (bZ l)) from rfl];have s4:[[48,42,40]++tx++[41],[40]++tx++[41,42,48],[49,94,40]++tx++[41],[40]++tx++[41,94,48]].length=4:=rfl;generalize [[48,42,40]++tx++[41],[40]++tx++[41,42,48],[49,94,40]++tx++[41],[40]++tx++[41,94,48]]=ss at sm sl s4 ⊢;have le9:=le8.trans (aG.new (g:=GO.lst (ss.map λl=>W.str (bZ l))) hp8);have g9:aQ G8 p8 (GO.lst (ss.map λl=>W.str (bZ l))) p8=some (GO.lst (ss.map λl=>W.str (bZ l))):=al;generalize aQ G8 p8 (GO.lst (ss.map λl=>W.str (bZ l)))=G9 at le9 g9 ⊢;have gc9:=le9 _ _ (le7 _ _ gc);have gd9:=le9 _ _ gd7;have gk9:=le9 _ _ (le7 _ _ gk);have gr9:=le9 _ _ (le7 _ _ gr);have stay:∀G10,aG G9 G10->kk [some (.scr ns),some (.ref p),some (.ref pc),some (.ref d),t4,some (.int c),some (.ref dk),some (.ref pr),some (jD (l1,k1,a1)),some (jD (l2,k2,a2)),t10,some (.int y),some (.str (bZ tx)),some v,some (.ref p8),none] G10:=λG10 le=>hk _ _ ⟨ds,ys,D+1,_,_,_,_,_,_,_,_,rfl,hdb,rfl,le _ _ gc9,le _ _ gd9,le _ _ gk9,le _ _ gr9,h0,by (clear hl hm hsz hcl hkl h0 hDl c0 c1 hy n1 n2 tl tl2 s4;lia),by (clear hl hm hsz hcl hkl h0 hyl c0 c1 hy n1 n2 tl tl2 s4;lia),λx hx=>(hys x hx).le (le_succ D)⟩;subst hU1;refine aI λU1 hU1=>?_;rcases hv with⟨r,rfl,hf,he⟩ | ⟨rfl,he⟩
       ·walk_at "R";rw[ycw (show ¬(false ^^ fY (W.tup (am r)))=true from λh=>Bool.noConfusion h)];subst hU1;walk_at "R";rw[ycv (by rfl),hDx];obtain⟨nr,r1,r2,r3⟩:=id hf;have wr:=O.hw_le_size r;refine⟨r,rfl,by (clear hl hm hsz hcl hkl h0 hyl hDl c0 c1 hy n1 n2 tl tl2 s4 r1 r2 wr;lia),by (clear hl hm hsz hcl hkl h0 hyl hDl c0 c1 hy n1 n2 tl tl2 s4 r2 r3;lia),?_⟩;walk_at "R";refine bB (λ_=>?_) λ_=>stay G9 (aG.refl G9);rw[bK];refine⟨by walk_at "om",bB (λh90=>?_) λ_=>stay G9 (aG.refl G9)⟩;refine⟨⟨_,gr9⟩,λp10 hp10=>gy al ⟨.int (fG y:Nat),?_,?_⟩⟩
        ·match y,hy with
         | 0,_=>rfl
         | 1,_=>rfl
         | 2,_=>rfl
        have gc10:=aV (g:=GO.lst [W.int 3,W.int 2,W.int 1]) gc9 hp10;have gd10:=aV (g:=GO.lst [W.int 3,W.int 2,W.int 1]) gd9 hp10;have gk10:=aV (g:=GO.lst [W.int 3,W.int 2,W.int 1]) gk9 hp10;have gr10:=aV (g:=GO.lst [W.int 3,W.int 2,W.int 1]) gr9 hp10;generalize aQ G9 p10 (GO.lst [W.int 3,W.int 2,W.int 1])=G10 at gc10 gd10 gk10 gr10 ⊢;refine⟨_,gr10,by rw[length_map];(clear hl hm hsz hcl hkl h0 c0 c1 hy n1 n2 tl tl2 s4 r1 r2 r3 wr h90;lia),hk _ _ ⟨ds,ys++[(tx,fG y,r)],D+1,_,_,_,_,_,_,_,_,rfl,hdb,rfl,by rw[aK cr];exact gc10,by rw[aK dr];exact gd10,by rw[aK kr];exact gk10,by rw[al,map_append];rfl,by rw[length_append,length_singleton];(clear hl hm hsz hcl hkl hyl hDl c0 c1 hy n1 n2 tl tl2 s4 r1 r2 r3 wr h90;lia),by rw[length_append,length_singleton];(clear hl hm hsz hcl hkl h0 hDl c0 c1 hy n1 n2 tl tl2 s4 r1 r2 r3 wr h90;lia),by (clear hl hm hsz hcl hkl h0 hyl c0 c1 hy n1 n2 tl tl2 s4 r1 r2 r3 wr h90;lia),λx hx=>?_⟩⟩;rcases mem_append.mp hx with hx | hx
        ·exact(hys x hx).le (le_succ D)
        ·rw[mem_singleton.mp hx];exact⟨he,hf,by show tx.length<=90;(clear hl hm hsz hcl hkl h0 hyl hDl c0 c1 hy n1 n2 tl s4 r1 r2 r3 wr;lia)⟩
       ·walk_at "R";rw[ycv (by rfl)];have last:∀G10,aG G9 G10->U1 Dn [some (.scr ns),some (.ref p),some (.ref pc),some (.ref d),t4,some (.int c),some (.ref dk),some (.ref pr),some (jD (l1,k1,a1)),some (jD (l2,k2,a2)),t10,some (.int y),some (.str (bZ tx)),some .non,some (.ref p8),none] G10:=λG10 le10=>by
         subst hU1;walk_at "R";rw[ycw (show ¬(true ^^ fY W.non)=true from λh=>Bool.noConfusion h),hDx];exact stay G10 le10
        rw[bK];refine⟨by walk_at "om",bB (λ_=>?_) λ_=>last G9 (aG.refl G9)⟩;refine gy g9 (iU _ (by rw[length_map,s4];rfl) (by rw[length_map];(clear hl hm hsz hcl hkl h0 hyl hDl c0 c1 hy n1 n2 tl tl2;lia)) λx hx=>?_);obtain⟨m,hm,rfl⟩:=mem_map.mp hx;obtain⟨k,hkm⟩:=sm _ he m hm;obtain⟨z,z',z1,z2,z3⟩:=hkm.rd (by (clear hl hsz hcl hkl h0 hyl c0 c1 hy n1 n2 tl tl2 s4;lia));refine⟨m,d,nm,.non,rfl,nmr G9 le9,sl m hm,.inr ⟨z,z',z1,z2,z3,rfl⟩,λG10 le10=>?_⟩;walk_at "R";exact last G10 le10
      walk_at "R";rw[bK];refine⟨by walk_at "om",bB (λ_=>⟨tx,d,nm,v,rfl,nmr G7 (aG.refl G7),by walk_at "om",due,λG8 le8=>?_⟩) λ_=>after G7 (aG.refl G7)⟩;walk_at "R";exact after G8 le8
     walk_at "R";exact⟨y,a1,a2,rfl,hy,ok1.f,ok2.f,λr hj hf G7 le7=>tell _ G7 ((le5.trans le6).trans le7) (.inl ⟨r,rfl,hf,ent.1 r hj⟩),λhj G7 le7=>tell _ G7 ((le5.trans le6).trans le7) (.inr ⟨rfl,ent.2 hj⟩)⟩
    obtain⟨y,hy,hy2⟩:∃y:Nat,c/7%3=(y:Int)/\y<=2:=⟨(c/7%3).toNat,by (clear hl hm hsz hcl hkl h0 hyl hDl c0 c1;lia),by (clear hl hm hsz hcl hkl h0 hyl hDl c0 c1;lia)⟩;rw[hy];have r1:=λG5=>rest2 1 G5 (by (clear hl hm hsz hcl hkl h0 hyl hDl c0 c1 hy hy2;lia));have r2:=λG5=>rest2 y G5 hy2;clear rest2;obtain⟨l1,k1,a1⟩:=x1;obtain⟨l2,k2,a2⟩:=x2;walk_at "R";have f2:=ok2.f;have w2:=O.hw_le_size a2;refine bB (λ_=>bB (λ_=>⟨a2,rfl,by have:=f2.2.2.2;show a2.dp<=60;exact ycy this (by decide),by have:=f2.2.1;show O.hw a2<=20000;exact ycy w2 (ycy this (by decide)),λn=>?_⟩) λ_=>r2 G4 le4) λ_=>r2 G4 le4;walk_at "R";refine⟨_,rfl,bB (λ_=>?_) λ_=>r2 G4 le4⟩;refine bB (λ_=>r1 G4 le4) λ_=>r2 G4 le4
   walk_at "R";refine bB (λ_=>?_) λ_=>rest x2 t10 G3 ok2 (aG.refl G3);intro p1 hp1;refine gy al (ni (lo:=9) (hi:=100000000000000000000000000000000000000000000000001) (by (clear hl hm hsz hcl hkl h0 hyl hDl c0 c1;lia)) (by (clear hl hm hsz hcl hkl h0 hyl hDl c0 c1;lia)) λm hm1 hm2=>?_);have le1:=aG.new (g:=GO.lst [W.int 9,W.int 100000000000000000000000000000000000000000000000000]) hp1;generalize aQ G3 p1 (GO.lst [W.int 9,W.int 100000000000000000000000000000000000000000000000000])=G4 at le1 ⊢;walk_at "R";have hmod:=fC (i:=c/7) (j:=m) (by (clear hl hm hsz hcl hkl h0 hyl hDl c0 c1;lia));have hn:∀n:Int,1+c/7%m=n->1<=n/\n<=10^50:=λn e=>by (clear hl hm hsz hcl hkl h0 hyl hDl c0 c1;lia)
   generalize 1+c/7%m=n at hn ⊢;obtain⟨hn0,hn1⟩:=hn n rfl;have hn2:n.toNat<10^51:=by (clear hl hm hsz hcl hkl h0 hyl hDl c0 c1 hm1 hm2 hmod;lia)
   have en:=iT nm D (n:=n) (by (clear hl hm hsz hcl hkl h0 hyl hDl c0 c1 hm1 hm2 hmod hn2;lia)) (by (clear hl hm hsz hcl hkl h0 hyl hDl c0 c1 hm1 hm2 hmod hn2;lia));rw[O.wh_pos (by assumption)] at en;exact⟨by (clear hl hm hsz hcl hkl h0 hyl hDl c0 c1 hmod hn0 hn1 hn2;lia),n.toNat,by (clear hl hm hsz hcl hkl h0 hyl hDl c0 c1 hm1 hm2 hmod hn2;lia),Nat.lt_trans hn2 (by decide+kernel),rest (e9 n.toNat,0,.c .z n .z) _ G4 ⟨en,vm hn0 (by (clear hl hm hsz hcl hkl h0 hyl hDl c0 c1 hm1 hm2 hmod hn2;lia)),by have:=nE (k:=51) (by decide) hn2;show(e9 n.toNat).length<=90;lia⟩ le1⟩
  walk_at "R";refine⟨cs,gc,bB (λ_=>?_) λ_=>next kvs G' gc gd hK (by walk_at "om")⟩;refine⟨cs,gc,_,rfl,λo G1 ho le1=>⟨cs,le1 _ _ gc,_,rfl,λl hl=>⟨d,_,kvs,rfl,rfl,le1 _ _ gd,by walk_at "om",next _ _ (by rw[aK cd];exact le1 _ _ gc) al (hK.put hl ho) ?_⟩⟩⟩;have:=gS kvs (.inr (bZ l)) (.tup (am o))
  (clear hm h0 hsz hcl;lia)
theorem AY (T:Txt K mg) (F:cq K "law" "law" (ax 76) f fd):cu P w K mg base 100 f fd ["_law_script"] ki:=by
 obtain⟨cH,cT,cN,cG,⟨mH,qH⟩,⟨mT,qT⟩,⟨mN,qN⟩,⟨mG,qG⟩,p10,p12,p13,p20,p21,p23,p30,p31,p32,⟨QH,dH⟩,⟨QT,dT⟩,⟨QN,dN⟩,⟨QG,dG⟩⟩:=T.x_;obtain⟨bT,xT⟩:=XC.of qT;obtain⟨bN,xN⟩:=XC.of qN;obtain⟨bG,xG⟩:=XC.of qG;have E:EF K mg cT cN cG cH:=⟨mG,mH,⟨⟨_,xT⟩,QT,dT⟩,⟨⟨_,xN⟩,QN,dN⟩,⟨⟨_,xG⟩,QG,dG⟩,XC.of qH,p10,p20,p30⟩;obtain⟨t1,h1⟩:=T.c_MOST_FACTORS;obtain⟨t2,h2⟩:=T.c_MOST_PARTS_powers;obtain⟨t3,h3⟩:=T.c_MOST_SIGNS;obtain⟨t4,h4⟩:=T.c_MOST_FIGURES;obtain⟨t5,h5⟩:=T.c_MOST_LETTERS;obtain⟨t6,h6⟩:=T.c_MOST_PARTS_readings;obtain⟨t7,h7⟩:=T.c_MOST_DEEP;obtain⟨aj,mj,hj⟩:=T.g_JOINING;obtain⟨C,mR,hC,a1,a2,a3,m0,m1,m2,m3,m4,m5,m6,m7⟩:=T.k_Reading;have D:yK K mg C cT:=⟨⟨hC,a1,a2,a3⟩,m0,m1,m2,m3,m4,m5,m6,m7,mR,T.c_MOST_BRACKETS,mT,bT,xT⟩;have L:=DD (P:=P) (w:=w) (base:=base) T 60 (by decide);have Z:=DE (P:=P) (w:=w) (base:=base) T 60;have W:=T.d__law_with.fx λf fd F=>FZ F L T.z_sum T.z_tuple;have N:=T.d__law_next.fx λf fd F=>Ga F W Z T.z_len;have Po:=T.d__law_pool.fx λf fd F=>Gb F N;have Wh:=T.d_is_whole.fxd (P:=P) (w:=w) (base:=base) λf fd T' ds F=>Fj F T.z_isinstance T.z_int T.z_bool;have Rs:=T.d_raised.fx (P:=P) (w:=w) (base:=base) λf fd T' ds F=>CV F Wh;have Rd:=T.d_raised.fxd (P:=P) (w:=w) (base:=base) λf fd T' ds F=>CV F Wh;have Wl:=T.d_whole.fx λf fd F=>Fk F Rs;have En:=T.d_endless.fx λf fd F=>FC F Wl Rd;have Cm:=T.d_compare.fx (P:=P) (w:=w) (base:=base) λf fd F=>Fa F;have Pa:=T.d_parts_above.fx λf fd F=>Fb F Cm T.z_len;have Ps:=T.d_plus.fx λf fd F=>Fc F Pa T.z_len;have Wp:=T.d_whole_part.fx (P:=P) (w:=w) (base:=base) λf fd F=>Fd F;have Wo:=T.d_without_whole.fx λf fd F=>Fe F Wp;have Ti:=T.d_times.fx λf fd F=>Ff F Wp Wo Ps T.z_tuple;have Al:=T.d_parts_alike.fx (P:=P) (w:=w) (base:=base) λf fd F=>Fh F T.z_len;have Mi:=T.d_minus.fx λf fd F=>Fi F Cm Al T.z_len;have Wn:=T.d_whole_power.fx λf fd F=>Fm F Ti Wl T.z_range;have Ep:=T.d_endless_power.fx λf fd F=>Fn F Ti Wl Mi Rd T.z_tuple;have Tg:=T.d_is_too_great_powers.fx λf fd F=>Fp F Wp T.z_len T.z_max h1 h2;have Pp:=T.d_power_of_part.fx λf fd F=>Fo F Wp Ti Rs;have Pw:=T.d_power.rx λf fd F=>Fq F Wl Pp Tg Ti Ep Wo Wn Wp T.z_len mG xG;have Hm:=T.d_has_many_parts.fx (P:=P) (w:=w) (base:=base) λf fd F=>Ft F h6 T.z_len;have Gt:=C3 (P:=P) (w:=w) (base:=base) T 61;have De:=C4 (P:=P) (w:=w) (base:=base) T 61;have Tq:=(T.d_is_too_great.fx λf fd F=>Fw F Hm Gt De h7).alias T.a_is_too_great_readings;have Jn:=T.d_joined.rx λf fd F=>FE F Ps Ti Pw Tq mG xG;have Rk:=T.d_reckoned.rx λf fd F=>FG F Jn T.z_isinstance T.z_tuple;have Fg:=T.d_is_figure.fx (P:=P) (w:=w) (base:=base) λf fd F=>Fy F;have Lt:=T.d_is_letter.fx (P:=P) (w:=w) (base:=base) λf fd F=>Fz F;have Fs:=T.d_is_figures.fx λf fd F=>FA F Fg h4 T.z_len T.z_all;have Nm:=T.d_is_name.fx λf fd F=>FB F Lt h5 T.z_len T.z_all;have To:=T.d_thing_of.rx λf fd F=>FD F En Fs Nm Wl mT xT T.z_int;have Sm:=uW D Fg Lt To 20 (by decide);have So:=T.d_steps_of.rx λf fd F=>FO D F (D.m0.new mR λf fd F=>FM D.cl F) (AO D) Sm h3 T.z_len T.z_isinstance T.z_str;have Lu:=T.d_looked_up.rx (P:=P) (w:=w) (base:=base) λf fd F=>FP F mj hj mN xN T.z_isinstance T.z_tuple;have Re:=T.d_read.rx λf fd T' ds F=>FS F So Lu Rk;have Pu:=DF (P:=P) (w:=w) (base:=base) T 60;have Is:=T.d__law_is.fx λf fd F=>Gd F Pu T.z_isinstance T.z_tuple;have Td:=T.d__law_told.fx λf fd F=>Gk F E Re Is T.z_isinstance T.z_int;have Dl:=DH (P:=P) (w:=w) (base:=base) T 60;have Gr:=DG (P:=P) (w:=w) (base:=base) T 60;have Lj:=T.d__law_joined.fx λf fd F=>FT F Ps Ti Pw mG xG;have Du:=T.d__law_due.fx λf fd F=>Gi F Lj Z Dl Gr;have Sd:=T.d__law_side.fx (P:=P) (w:=w) (base:=base) λf fd F=>FU F;have Tx:=T.d__law_text.fx λf fd F=>FW F Sd;have Ch:=T.d__law_chain.fx (P:=P) (w:=w) (base:=base) λf fd F=>FX F T.z_range;have Bg:=T.d__law_big.fx λf fd F=>Gj F Ch T.z_range T.z_tuple;have Rw:=T.d__law_rows.fx (P:=P) (w:=w) (base:=base) λf fd F=>Gm F;have Ww:=T.d__law_whole.fx (P:=P) (w:=w) (base:=base) λf fd F=>Gh F T.z_sum;have Na:=T.d__law_name.fx (P:=P) (w:=w) (base:=base) λf fd F=>AU F T.z_range;exact Gq F Po Na Bg Rw Ww Tx Du Td Z T.z_len T.z_range T.z_sum T.z_dict T.z_str
end
noncomputable abbrev oL (x y:Str) (t:Stmt) (d a b c:Value) (n:Option Addr) (e g:Value) (o:Value) (p:Option Addr) (r:Array (Option Value)):Option Obj:=some ⟨o,p,.func (fnOf x y (av t) (ao t) (ak t) d a b c n e g),r⟩
noncomputable abbrev oR (a:Addr):Option (Option Value):=some (some (.ref a))
noncomputable abbrev oB (a:String):Option (Option Value):=some (some (.builtin a))
set_option maxHeartbeats 0 in
theorem all_mk {l:PySem.W.OpenLaw} {h:Heap} {fa f1 f2 f3 f4 f5 f6 f7 f8 f9 cp cr cs ct cw cD cG cH cN cT c0 da db dd df di dj dk dl bm dr br ds dx dG dH dK dN dO dT dV d1 d2 d3 ea eb ec ed ee ef ej el:Addr} (X:K.In h) (G:h.Ns mainGlobals mg) (Je:mg "law"=some (.ref fa))
 {Jf Jg Jh Ji Jj Jk Jl Jm Jn Jo Jp Jq Jr Js Jt Ju Jv Jw ma mb mc md mi mj mk ml mm mn mp mr ms mt mu mz mA mC mG mH mL mN mR mT m0 m1 m2 m3 m4 m5 m6 m7 na nb nc nd ne nf nh nl nm nn no np nr ns nt nu nw nx nL nT n0 n1 n2 n3 n4 n7 ob oc od oe of oi oj ok ol on op or os ov oD oT oX o1 o2 o3 pa pb pc pd pg em:Option Addr} {Jx Jy Jz JA JB JC JD JE JF pi pj pl pm pn po pr pt pu py pz p1 p2 p3 p4 p5 p6 p8 qa qb qn qq qs qu qv qx qG qH qN qT q1 q2 q3 q4 q5 q6 q7 q8 q9 ra rb rd:Array (Option Value)} {JG JH JI JJ ll JK JL JM JN JO lm JP JQ JR JS JT ln JU JV JW JX JY lo JZ J0 J1 J2 J3 lr J4 J5 J6 J7 J8 ls J9 Ka Kb Kc Kd lt Ke Kf Kg Kh Ki ly Kj Kk Kl Km Kn lL Ko rg ri rj rk en rr rs rt ru rv eo rw rx ry rz r1 ep r2 r3 r4 r5 r7 eq r8 sa sb se sf er sg sl sm sn sp es sq ss sv sz sD et s0 s1 s2 s3 s4 eu s5 s6 s7 s8 s9 ev ta tb tc td te ew tg th ti tk tn ex to tr ts tt tv ey tx ty tA t0 t2 ez t3 t5 t6 t7 t8 eD t9 ua ub un up eG ux uy u1 u2 u8 eH va vb vl vr vs eN vu vx vy v1 v2 e0 v3 v4 v5 v8 wa e2 wb wi wl wr ws e3 wx wy w0 w2 w3 e5 w4 w5 w7 w8 xa e6 xd xe xr xs xC e7 xG xH xN xT x0 e8 x1 x2 x3 x7 yl fb ys y1 y2 y5 za fg zb zf zi zj zl fk zp zr zs z0 Al fl A1 A2 A3 A4 Bg fn BT Cd Ch Cl Cm fp CX C2 De Dl Dn fr Du D0 D2 En Ep fs Fg Fr Fs Gf Gn ft Gr Gt GV G0 G1 fv G2 G3 G4 G5 G6 fw G7 G8 G9 Hf Hm fx Hy HY HZ H0 H1 fz H2 H3 H4 H5 H6 fD H7 H8 H9 Ia Ib f0 Ic Ie If Ig Ih ga Ii Ij Ik Il Im gb Io Ip gc gd ge co gg:Value} {T1:Addr} {Kp:Value} {Kq:Option Addr} {Kr:Nat} {Ks:Array (Option Value)} {bk:Tok} {T4:Addr} {Kt:Value} {Ku:Option Addr} {Kv:Nat} {Kw:Array (Option Value)} {bl:Tok} {ek:Addr} {Iq:Value} {Ir:Option Addr} {Is:Nat} {Iu:Array (Option Value)} {ab:Addr} {ap:Addr} {h4 gi:Option Addr} {gk:Array (Option Value)} {go gp gr gu bs gw:Value} {ar:Addr} {h5 gx:Option Addr} {gC:Array (Option Value)} {gD gN gO gT bt gV:Value} {as:Addr} {h6 g0:Option Addr} {g1:Array (Option Value)} {g2 g3 g4 g5 bz g6:Value} {az:Addr} {h7 g7:Option Addr} {g8:Array (Option Value)} {g9 ha hb hc bC hd:Value} {a0:Addr} {h8 he:Option Addr} {hf:Array (Option Value)} {hg hh hi hj bG hk:Value} {be:Addr} {h9 hm:Option Addr} {hn:Array (Option Value)} {ho hp hq hr bH hs:Value} {bi:Addr} {id ht:Option Addr} {hu:Array (Option Value)} {hv hx hy hz bN hA:Value} {bj:Addr} {ih hB:Option Addr} {hC:Array (Option Value)} {hD hE hF hG bT hH:Value} {Iv:Tok} {Iw:Tok} {Ix:Tok} {Iy:Tok} {Iz:Tok} {IA:Tok} {IB:Tok} {IC:Tok} {hI:Addr} {Kx:Option Addr} {Ky:Nat} {Kz:Array (Option Value)} {ij is it:Tok} {an:Addr} {ID:ClassData} {ad:Addr} {IE:ClassData} {ai:Addr} {IF:ClassData} {aj:Addr} {IG:ClassData}
 (a1:nsIn K mainGlobals "is_whole"=oR f1) (l1:K.lookup f1=oL "is_whole" "is_whole" (ax 8) (.ref T1) JH JI JJ Jg ll JK JG Jf Jx) (c1:codeIn K ll "is_whole"=true) (k1:keepIn K (.ref f1)=true)
 (a2:nsIn K mainGlobals "whole"=oR f2) (l2:K.lookup f2=oL "whole" "whole" (ax 9) .none JM JN JO Ji lm JP JL Jh Jy) (c2:codeIn K lm "whole"=true) (k2:keepIn K (.ref f2)=true)
 (a3:nsIn K mainGlobals "endless"=oR f3) (l3:K.lookup f3=oL "endless" "endless" (ax 10) .none JR JS JT Jk ln JU JQ Jj Jz) (c3:codeIn K ln "endless"=true) (k3:keepIn K (.ref f3)=true)
 (a4:nsIn K mainGlobals "raised"=oR f4) (l4:K.lookup f4=oL "raised" "raised" (ax 11) (.ref T4) JW JX JY Jm lo JZ JV Jl JA) (c4:codeIn K lo "raised"=true) (k4:keepIn K (.ref f4)=true)
 (a5:nsIn K mainGlobals "compare"=oR f5) (l5:K.lookup f5=oL "compare" "compare" (ax 12) .none J1 J2 J3 Jo lr J4 J0 Jn JB) (c5:codeIn K lr "compare"=true) (k5:keepIn K (.ref f5)=true)
 (a6:nsIn K mainGlobals "whole_part"=oR f6) (l6:K.lookup f6=oL "whole_part" "whole_part" (ax 13) .none J6 J7 J8 Jq ls J9 J5 Jp JC) (c6:codeIn K ls "whole_part"=true) (k6:keepIn K (.ref f6)=true)
 (a7:nsIn K mainGlobals "without_whole"=oR f7) (l7:K.lookup f7=oL "without_whole" "without_whole" (ax 14) .none Kb Kc Kd Js lt Ke Ka Jr JD) (c7:codeIn K lt "without_whole"=true) (k7:keepIn K (.ref f7)=true)
 (a8:nsIn K mainGlobals "greatest"=oR f8) (l8:K.lookup f8=oL "greatest" "greatest" (ax 15) .none Kg Kh Ki Ju ly Kj Kf Jt JE) (c8:codeIn K ly "greatest"=true) (k8:keepIn K (.ref f8)=true)
 (a9:nsIn K mainGlobals "deep"=oR f9) (l9:K.lookup f9=oL "deep" "deep" (ax 16) .none Kl Km Kn Jw lL Ko Kk Jv JF) (c9:codeIn K lL "deep"=true) (k9:keepIn K (.ref f9)=true)
 (KA:nsIn K mainGlobals "plus"=oR cp) (KB:K.lookup cp=oL "plus" "plus" (ax 18) .none ri rj rk mb en rr rg ma pi) (KC:codeIn K en "plus"=true) (KD:keepIn K (.ref cp)=true)
 (KE:nsIn K mainGlobals "parts_above"=oR cr) (KF:K.lookup cr=oL "parts_above" "parts_above" (ax 19) .none rt ru rv md eo rw rs mc pj) (KG:codeIn K eo "parts_above"=true) (KH:keepIn K (.ref cr)=true)
 (KI:nsIn K mainGlobals "minus"=oR cs) (KJ:K.lookup cs=oL "minus" "minus" (ax 20) .none ry rz r1 mj ep r2 rx mi pl) (KK:codeIn K ep "minus"=true) (KL:keepIn K (.ref cs)=true)
 (KM:nsIn K mainGlobals "parts_alike"=oR ct) (KN:K.lookup ct=oL "parts_alike" "parts_alike" (ax 21) .none r4 r5 r7 ml eq r8 r3 mk pm) (KO:codeIn K eq "parts_alike"=true) (KP:keepIn K (.ref ct)=true)
 (KQ:nsIn K mainGlobals "times"=oR cw) (KR:K.lookup cw=oL "times" "times" (ax 23) .none sb se sf mn er sg sa mm pn) (KS:codeIn K er "times"=true) (KT:keepIn K (.ref cw)=true)
 (KU:nsIn K mainGlobals "power"=oR cD) (KW:K.lookup cD=oL "power" "power" (ax 27) .none sm sn sp mr es sq sl mp po) (KY:codeIn K es "power"=true) (KZ:keepIn K (.ref cD)=true)
 (K0:nsIn K mainGlobals "power_of_part"=oR cG) (K1:K.lookup cG=oL "power_of_part" "power_of_part" (ax 28) .none sv sz sD mt et s0 ss ms pr) (K2:codeIn K et "power_of_part"=true) (K3:keepIn K (.ref cG)=true)
 (K4:nsIn K mainGlobals "is_too_great_powers"=oR cH) (K5:K.lookup cH=oL "is_too_great" "is_too_great" (ax 29) .none s2 s3 s4 mz eu s5 s1 mu pt) (K6:codeIn K eu "is_too_great"=true) (K7:keepIn K (.ref cH)=true)
 (K8:nsIn K mainGlobals "endless_power"=oR cN) (K9:K.lookup cN=oL "endless_power" "endless_power" (ax 31) .none s7 s8 s9 mC ev ta s6 mA pu) (La:codeIn K ev "endless_power"=true) (Lb:keepIn K (.ref cN)=true)
 (Lc:nsIn K mainGlobals "whole_power"=oR cT) (Ld:K.lookup cT=oL "whole_power" "whole_power" (ax 32) .none tc td te mH ew tg tb mG py) (Le:codeIn K ew "whole_power"=true) (Lf:keepIn K (.ref cT)=true)
 (Lg:nsIn K mainGlobals "is_figure"=oR c0) (Lh:K.lookup c0=oL "is_figure" "is_figure" (ax 41) .none ti tk tn mN ex to th mL pz) (Li:codeIn K ex "is_figure"=true) (Lj:keepIn K (.ref c0)=true)
 (Lk:nsIn K mainGlobals "is_letter"=oR da) (Ll:K.lookup da=oL "is_letter" "is_letter" (ax 42) .none ts tt tv mT ey tx tr mR p1) (Ln:codeIn K ey "is_letter"=true) (Lo:keepIn K (.ref da)=true)
 (Lp:nsIn K mainGlobals "is_figures"=oR db) (Lq:K.lookup db=oL "is_figures" "is_figures" (ax 43) .none tA t0 t2 m1 ez t3 ty m0 p2) (Lr:codeIn K ez "is_figures"=true) (Ls:keepIn K (.ref db)=true)
 (Lu:nsIn K mainGlobals "is_name"=oR dd) (Lv:K.lookup dd=oL "is_name" "is_name" (ax 44) .none t6 t7 t8 m3 eD t9 t5 m2 p3) (Lx:codeIn K eD "is_name"=true) (Ly:keepIn K (.ref dd)=true)
 (Lz:nsIn K mainGlobals "thing_of"=oR df) (LB:K.lookup df=oL "thing_of" "thing_of" (ax 45) .none ub un up m5 eG ux ua m4 p4) (LC:codeIn K eG "thing_of"=true) (LD:keepIn K (.ref df)=true)
 (LF:nsIn K mainGlobals "steps_of"=oR di) (LH:K.lookup di=oL "steps_of" "steps_of" (ax 47) .none u1 u2 u8 m7 eH va uy m6 p5) (LJ:codeIn K eH "steps_of"=true) (LK:keepIn K (.ref di)=true)
 (LL:nsIn K mainGlobals "looked_up"=oR dj) (LM:K.lookup dj=oL "looked_up" "looked_up" (ax 48) .none vl vr vs nb eN vu vb na p6) (LN:codeIn K eN "looked_up"=true) (LP:keepIn K (.ref dj)=true)
 (LQ:nsIn K mainGlobals "reckoned"=oR dk) (LU:K.lookup dk=oL "reckoned" "reckoned" (ax 49) .none vy v1 v2 nd e0 v3 vx nc p8) (LV:codeIn K e0 "reckoned"=true) (LW:keepIn K (.ref dk)=true)
 (LX:nsIn K mainGlobals "joined"=oR dl) (LY:K.lookup dl=oL "joined" "joined" (ax 50) .none v5 v8 wa nf e2 wb v4 ne qa) (LZ:codeIn K e2 "joined"=true) (L0:keepIn K (.ref dl)=true)
 (l0:nsIn K mainGlobals "is_too_great"=oR bm) (L1:K.lookup bm=oL "is_too_great" "is_too_great" (ax 51) .none wl wr ws nl e3 wx wi nh qb) (L2:codeIn K e3 "is_too_great"=true) (L3:keepIn K (.ref bm)=true)
 (L4:nsIn K mainGlobals "has_many_parts"=oR dr) (L5:K.lookup dr=oL "has_many_parts" "has_many_parts" (ax 53) .none w0 w2 w3 nn e5 w4 wy nm qn) (L6:codeIn K e5 "has_many_parts"=true) (L7:keepIn K (.ref dr)=true)
 (L8:nsIn K mainGlobals "read"=oR br) (L9:K.lookup br=oL "read" "read" (ax 55) (.ref ek) w7 w8 xa np e6 xd w5 no qq) (Ma:codeIn K e6 "read"=true) (Mb:keepIn K (.ref br)=true)
 (Mc:nsIn K mainGlobals "_law_compare"=oR ds) (Me:K.lookup ds=oL "_law_compare" "_law_compare" (ax 57) .none xr xs xC ns e7 xG xe nr qs) (Mf:codeIn K e7 "_law_compare"=true) (Mg:keepIn K (.ref ds)=true)
 (Mh:nsIn K mainGlobals "_law_with"=oR dx) (Mi:K.lookup dx=oL "_law_with" "_law_with" (ax 58) .none xN xT x0 nu e8 x1 xH nt qu) (Mj:codeIn K e8 "_law_with"=true) (Ml:keepIn K (.ref dx)=true)
 (Mm:nsIn K mainGlobals "_law_size"=oR dG) (Mn:K.lookup dG=oL "_law_size" "_law_size" (ax 59) .none x3 x7 yl nx fb ys x2 nw qv) (Mo:codeIn K fb "_law_size"=true) (Mp:keepIn K (.ref dG)=true)
 (Mq:nsIn K mainGlobals "_law_next"=oR dH) (Mr:K.lookup dH=oL "_law_next" "_law_next" (ax 60) .none y2 y5 za nT fg zb y1 nL qx) (Ms:codeIn K fg "_law_next"=true) (Mu:keepIn K (.ref dH)=true)
 (Mv:nsIn K mainGlobals "_law_pool"=oR dK) (Mw:K.lookup dK=oL "_law_pool" "_law_pool" (ax 61) .none zi zj zl n1 fk zp zf n0 qG) (Mx:codeIn K fk "_law_pool"=true) (My:keepIn K (.ref dK)=true)
 (Mz:nsIn K mainGlobals "_law_pure"=oR dN) (MA:K.lookup dN=oL "_law_pure" "_law_pure" (ax 62) .none zs z0 Al n3 fl A1 zr n2 qH) (MB:codeIn K fl "_law_pure"=true) (MC:keepIn K (.ref dN)=true)
 (MD:nsIn K mainGlobals "_law_is"=oR dO) (ME:K.lookup dO=oL "_law_is" "_law_is" (ax 63) .none A3 A4 Bg n7 fn BT A2 n4 qN) (MF:codeIn K fn "_law_is"=true) (MG:keepIn K (.ref dO)=true)
 (MH:nsIn K mainGlobals "_law_name"=oR dT) (MI:K.lookup dT=oL "_law_name" "_law_name" (ax 64) .none Ch Cl Cm oc fp CX Cd ob qT) (MJ:codeIn K fp "_law_name"=true) (MK:keepIn K (.ref dT)=true)
 (ML:nsIn K mainGlobals "_law_deep"=oR dV) (MM:K.lookup dV=oL "_law_deep" "_law_deep" (ax 65) .none De Dl Dn oe fr Du C2 od q1) (MN:codeIn K fr "_law_deep"=true) (MO:keepIn K (.ref dV)=true)
 (MP:nsIn K mainGlobals "_law_greatest"=oR d1) (MQ:K.lookup d1=oL "_law_greatest" "_law_greatest" (ax 66) .none D2 En Ep oi fs Fg D0 of q2) (MR:codeIn K fs "_law_greatest"=true) (MS:keepIn K (.ref d1)=true)
 (MT:nsIn K mainGlobals "_law_whole"=oR d2) (MU:K.lookup d2=oL "_law_whole" "_law_whole" (ax 67) .none Fs Gf Gn ok ft Gr Fr oj q3) (MV:codeIn K ft "_law_whole"=true) (MW:keepIn K (.ref d2)=true)
 (MX:nsIn K mainGlobals "_law_chain"=oR d3) (MY:K.lookup d3=oL "_law_chain" "_law_chain" (ax 68) .none GV G0 G1 on fv G2 Gt ol q4) (MZ:codeIn K fv "_law_chain"=true) (M0:keepIn K (.ref d3)=true)
 (M3:nsIn K mainGlobals "_law_big"=oR ea) (M4:K.lookup ea=oL "_law_big" "_law_big" (ax 69) .none G4 G5 G6 or fw G7 G3 op q5) (M5:codeIn K fw "_law_big"=true) (M6:keepIn K (.ref ea)=true)
 (M7:nsIn K mainGlobals "_law_joined"=oR eb) (M8:K.lookup eb=oL "_law_joined" "_law_joined" (ax 70) .none G9 Hf Hm ov fx Hy G8 os q6) (M9:codeIn K fx "_law_joined"=true) (Na:keepIn K (.ref eb)=true)
 (Nb:nsIn K mainGlobals "_law_due"=oR ec) (Nc:K.lookup ec=oL "_law_due" "_law_due" (ax 71) .none HZ H0 H1 oT fz H2 HY oD q7) (Nd:codeIn K fz "_law_due"=true) (Nf:keepIn K (.ref ec)=true)
 (Ng:nsIn K mainGlobals "_law_side"=oR ed) (Nh:K.lookup ed=oL "_law_side" "_law_side" (ax 72) .none H4 H5 H6 o1 fD H7 H3 oX q8) (Ni:codeIn K fD "_law_side"=true) (Nj:keepIn K (.ref ed)=true)
 (Nk:nsIn K mainGlobals "_law_text"=oR ee) (Nl:K.lookup ee=oL "_law_text" "_law_text" (ax 73) .none H9 Ia Ib o3 f0 Ic H8 o2 q9) (Nn:codeIn K f0 "_law_text"=true) (No:keepIn K (.ref ee)=true)
 (Np:nsIn K mainGlobals "_law_told"=oR ef) (Nq:K.lookup ef=oL "_law_told" "_law_told" (ax 74) .none If Ig Ih pb ga Ii Ie pa ra) (Nr:codeIn K ga "_law_told"=true) (Nt:keepIn K (.ref ef)=true)
 (Nu:nsIn K mainGlobals "_law_rows"=oR ej) (Nv:K.lookup ej=oL "_law_rows" "_law_rows" (ax 75) .none Ik Il Im pd gb Io Ij pc rb) (Nw:codeIn K gb "_law_rows"=true) (Ny:keepIn K (.ref ej)=true)
 (Nz:nsIn K mainGlobals "law"=oR el) (NA:K.lookup el=oL "law" "law" (ax 76) .none gc gd ge em co gg Ip pg rd) (NB:codeIn K co "law"=true) (NC:keepIn K (.ref el)=true)
 (t1:K.lookup T1=some ⟨Kp,Kq,.seq #[.int 0 bk] Kr,Ks⟩)
 (t4:K.lookup T4=some ⟨Kt,Ku,.seq #[.int 1 bl] Kv,Kw⟩)
 (ND:K.lookup ek=some ⟨Iq,Ir,.seq #[.none] Is,Iu⟩)
 (NE:nsIn K mainGlobals "MOST_FACTORS"=some (some (.int 24 Iv)))
 (NG:nsIn K mainGlobals "MOST_PARTS_powers"=some (some (.int 24 Iw)))
 (NH:nsIn K mainGlobals "MOST_SIGNS"=some (some (.int 2000 Ix)))
 (NI:nsIn K mainGlobals "MOST_FIGURES"=some (some (.int 60 Iy)))
 (NJ:nsIn K mainGlobals "MOST_LETTERS"=some (some (.int 8 Iz)))
 (NK:nsIn K mainGlobals "MOST_BRACKETS"=some (some (.int 20 IA)))
 (NL:nsIn K mainGlobals "MOST_PARTS_readings"=some (some (.int 400 IB)))
 (NM:nsIn K mainGlobals "MOST_DEEP"=some (some (.int 40 IC)))
 (IH:nsIn K mainGlobals "JOINING"=oR hI) (II:K.lookup hI=some ⟨.type "tuple",Kx,.seq [.str "+" ij,.str "*" is,.str "^" it].toArray Ky,Kz⟩)
 (NN:nsIn K mainGlobals "HydraError"=oR an) (NO:excIn K an [.type "ValueError",.type "Exception",.type "BaseException",.type "object"] "ValueError.__new__"=true)
 (NP:nsIn K mainGlobals "NoText"=oR ad) (NQ:excIn K ad [.type "ValueError",.type "Exception",.type "BaseException",.type "object"] "ValueError.__new__"=true)
 (NR:nsIn K mainGlobals "NoName"=oR ai) (NS:excIn K ai [.type "ValueError",.type "Exception",.type "BaseException",.type "object"] "ValueError.__new__"=true)
 (NT:nsIn K mainGlobals "TooGreat"=oR aj) (NU:excIn K aj [.type "ValueError",.type "Exception",.type "BaseException",.type "object"] "ValueError.__new__"=true)
 (iv:mroIn K ad (.ref an)=some true)
 (ix:mroIn K ad (.ref ai)=some false)
 (i0:mroIn K ad (.ref aj)=some false)
 (i1:mroIn K ai (.ref an)=some true)
 (i2:mroIn K ai (.ref ad)=some false)
 (i3:mroIn K ai (.ref aj)=some false)
 (i5:mroIn K aj (.ref an)=some true)
 (j0:mroIn K aj (.ref ad)=some false)
 (j1:mroIn K aj (.ref ai)=some false)
 (IJ:findIn K (.ref an) "__getattribute__"=oB "BaseException.__getattribute__") (IK:findIn K (.ref an) "__getattr__"=some none) (IL:findIn K (.ref an) "__class__"=oB "object.__class__") (IM:clsIn K an=some ID) (IN:typeIn K (.ref an)=some (.type "type")) (IP:instIn K (.ref an) (.type "type")=some true)
 (IQ:findIn K (.ref ad) "__getattribute__"=oB "BaseException.__getattribute__") (IR:findIn K (.ref ad) "__getattr__"=some none) (IS:findIn K (.ref ad) "__class__"=oB "object.__class__") (IT:clsIn K ad=some IE) (IU:typeIn K (.ref ad)=some (.type "type")) (IV:instIn K (.ref ad) (.type "type")=some true)
 (IW:findIn K (.ref ai) "__getattribute__"=oB "BaseException.__getattribute__") (IX:findIn K (.ref ai) "__getattr__"=some none) (IY:findIn K (.ref ai) "__class__"=oB "object.__class__") (IZ:clsIn K ai=some IF) (I0:typeIn K (.ref ai)=some (.type "type")) (I1:instIn K (.ref ai) (.type "type")=some true)
 (I2:findIn K (.ref aj) "__getattribute__"=oB "BaseException.__getattribute__") (I3:findIn K (.ref aj) "__getattr__"=some none) (I4:findIn K (.ref aj) "__class__"=oB "object.__class__") (I5:clsIn K aj=some IG) (I6:typeIn K (.ref aj)=some (.type "type")) (I7:instIn K (.ref aj) (.type "type")=some true)
 (NW:nsIn K mainGlobals "is_too_great_readings"=oR bm)
 (NX:nsIn K mainGlobals "Reading"=oR ab) (I8:plainGet K ab Str.empty=true) (I9:hasDictIn K ab=true) (Ja:PySem.W.plainOver K ab=true) (Jb:findIn K (.ref ab) "__setattr__"=oB "object.__setattr__") (Jc:PySem.W.makesIn K ab=true) (Jd:keepIn K (.ref ab)=true) (j2:findIn K (.ref ab) "text"=some none) (j3:findIn K (.ref ab) "place"=some none) (j4:findIn K (.ref ab) "steps"=some none) (j5:findIn K (.ref ab) "__init__"=oR ap) (hK:isFn K (.ref ap)=true) (ka:K.lookup ap=oL "__init__" "Reading.__init__" (cJ 46 0) .none gp gr gu gi bs gw go h4 gk) (hL:codeIn K bs "Reading.__init__"=true) (hM:keepIn K (.ref ap)=true) (kb:findIn K (.ref ab) "read_sum"=oR ar) (hN:isFn K (.ref ar)=true) (kk:K.lookup ar=oL "read_sum" "Reading.read_sum" (cJ 46 1) .none gN gO gT gx bt gV gD h5 gC) (hO:codeIn K bt "Reading.read_sum"=true) (b0:keepIn K (.ref ar)=true) (kp:findIn K (.ref ab) "read_product"=oR as) (hP:isFn K (.ref as)=true) (kr:K.lookup as=oL "read_product" "Reading.read_product" (cJ 46 2) .none g3 g4 g5 g0 bz g6 g2 h6 g1) (hQ:codeIn K bz "Reading.read_product"=true) (cb:keepIn K (.ref as)=true) (ks:findIn K (.ref ab) "read_power"=oR az) (hR:isFn K (.ref az)=true) (kv:K.lookup az=oL "read_power" "Reading.read_power" (cJ 46 3) .none ha hb hc g7 bC hd g9 h7 g8) (hS:codeIn K bC "Reading.read_power"=true) (cc:keepIn K (.ref az)=true) (kw:findIn K (.ref ab) "read_thing"=oR a0) (hT:isFn K (.ref a0)=true) (k0:K.lookup a0=oL "read_thing" "Reading.read_thing" (cJ 46 4) .none hh hi hj he bG hk hg h8 hf) (hU:codeIn K bG "Reading.read_thing"=true) (cd:keepIn K (.ref a0)=true) (la:findIn K (.ref ab) "word"=oR be) (hX:isFn K (.ref be)=true) (lb:K.lookup be=oL "word" "Reading.word" (cJ 46 5) .none hp hq hr hm bH hs ho h9 hn) (hY:codeIn K bH "Reading.word"=true) (ch:keepIn K (.ref be)=true) (lc:findIn K (.ref ab) "pass_by"=oR bi) (h0:isFn K (.ref bi)=true) (ld:K.lookup bi=oL "pass_by" "Reading.pass_by" (cJ 46 6) .none hx hy hz ht bN hA hv id hu) (h1:codeIn K bN "Reading.pass_by"=true) (cl:keepIn K (.ref bi)=true) (lf:findIn K (.ref ab) "sign"=oR bj) (h2:isFn K (.ref bj)=true) (lk:K.lookup bj=oL "sign" "Reading.sign" (cJ 46 7) .none hE hF hG hB bT hH hD ih hC) (h3:codeIn K bT "Reading.sign"=true) (cn:keepIn K (.ref bj)=true)
 (z1:nsIn K mainGlobals "ValueError"=some none) (z2:nsIn K mainGlobals "all"=some none) (z3:nsIn K mainGlobals "bool"=some none) (z4:nsIn K mainGlobals "dict"=some none) (z5:nsIn K mainGlobals "int"=some none) (z6:nsIn K mainGlobals "isinstance"=some none) (z7:nsIn K mainGlobals "len"=some none) (z8:nsIn K mainGlobals "max"=some none) (z9:nsIn K mainGlobals "range"=some none) (NY:nsIn K mainGlobals "str"=some none) (NZ:nsIn K mainGlobals "sum"=some none) (N0:nsIn K mainGlobals "tuple"=some none) (N1:nsIn K mainGlobals "zip"=some none):
 ∃fd:FuncData,(∀(s:Shared) (v:Value),BindsTo s fd ⟨[v],[]⟩ [("_law_script",v)])/\∀base:Heap,K.In base->base.Ns mainGlobals mg->gj l.prog w K mg base tq 100 fa fd ["_law_script"] (vp K ki):=by
 have e:=Je.symm.trans (mg_of X G Nz);cases e;have F1:gs K "is_whole" "is_whole" (ax 8) f1 _ T1 [.int 0 bk]:=kM l1 c1 k1 t1 rfl;have b1:bM K _ ["thing","least"] []:=F1.binds λ_ _ _ _ _ _ us hl=>(λ(q:us.length=2)=>by clear hl;revert us;refine bJ (λ_=>bJ (λ_=>cM ?_));exact⟨_,rfl,rfl⟩) (by simpa using hl);have e1:bM K _ ["thing","least"] [.int 0 bk]:=F1.binds λ_ _ _ _ _ _ us hl=>(λ(q:us.length=1)=>by clear hl;revert us;refine bJ (λ_=>cM ?_);exact⟨_,rfl,rfl⟩) (by simpa using hl);have F2:=aN (st:=ax 9) l2 c2 k2;have b2:=F2.binds (ps:=["n"]) λ_ _ _ _ _ _=>bJ (λ_=>cM rfl);have F3:=aN (st:=ax 10) l3 c3 k3;have b3:=F3.binds (ps:=[]) λ_ _ _ _ _ _=>cM rfl;have F4:gs K "raised" "raised" (ax 11) f4 _ T4 [.int 1 bl]:=kM l4 c4 k4 t4 rfl;have b4:bM K _ ["exponent","times"] []:=F4.binds λ_ _ _ _ _ _ us hl=>(λ(q:us.length=2)=>by clear hl;revert us;refine bJ (λ_=>bJ (λ_=>cM ?_));exact⟨_,rfl,rfl⟩) (by simpa using hl);have e4:bM K _ ["exponent","times"] [.int 1 bl]:=F4.binds λ_ _ _ _ _ _ us hl=>(λ(q:us.length=1)=>by clear hl;revert us;refine bJ (λ_=>cM ?_);exact⟨_,rfl,rfl⟩) (by simpa using hl);have F5:=aN (st:=ax 12) l5 c5 k5;have b5:=F5.binds (ps:=["a","b"]) λ_ _ _ _ _ _=>bJ (λ_=>bJ (λ_=>cM rfl));have F6:=aN (st:=ax 13) l6 c6 k6;have b6:=F6.binds (ps:=["a"]) λ_ _ _ _ _ _=>bJ (λ_=>cM rfl);have F7:=aN (st:=ax 14) l7 c7 k7;have b7:=F7.binds (ps:=["a"]) λ_ _ _ _ _ _=>bJ (λ_=>cM rfl);have F8:=aN (st:=ax 15) l8 c8 k8;have b8:=F8.binds (ps:=["a"]) λ_ _ _ _ _ _=>bJ (λ_=>cM rfl);have F9:=aN (st:=ax 16) l9 c9 k9;have b9:=F9.binds (ps:=["a"]) λ_ _ _ _ _ _=>bJ (λ_=>cM rfl);have F10:=aN (st:=ax 18) KB KC KD;have b10:=F10.binds (ps:=["a","b"]) λ_ _ _ _ _ _=>bJ (λ_=>bJ (λ_=>cM rfl));have F11:=aN (st:=ax 19) KF KG KH;have b11:=F11.binds (ps:=["a","exponent"]) λ_ _ _ _ _ _=>bJ (λ_=>bJ (λ_=>cM rfl));have F12:=aN (st:=ax 20) KJ KK KL;have b12:=F12.binds (ps:=["a","b"]) λ_ _ _ _ _ _=>bJ (λ_=>bJ (λ_=>cM rfl));have F13:=aN (st:=ax 21) KN KO KP;have b13:=F13.binds (ps:=["a","b"]) λ_ _ _ _ _ _=>bJ (λ_=>bJ (λ_=>cM rfl));have F14:=aN (st:=ax 23) KR KS KT;have b14:=F14.binds (ps:=["a","b"]) λ_ _ _ _ _ _=>bJ (λ_=>bJ (λ_=>cM rfl));have F15:=aN (st:=ax 27) KW KY KZ;have b15:=F15.binds (ps:=["a","b"]) λ_ _ _ _ _ _=>bJ (λ_=>bJ (λ_=>cM rfl));have F16:=aN (st:=ax 28) K1 K2 K3;have b16:=F16.binds (ps:=["part","b"]) λ_ _ _ _ _ _=>bJ (λ_=>bJ (λ_=>cM rfl));have F17:=aN (st:=ax 29) K5 K6 K7;have b17:=F17.binds (ps:=["a","b"]) λ_ _ _ _ _ _=>bJ (λ_=>bJ (λ_=>cM rfl));have F18:=aN (st:=ax 31) K9 La Lb;have b18:=F18.binds (ps:=["a","limit"]) λ_ _ _ _ _ _=>bJ (λ_=>bJ (λ_=>cM rfl));have F19:=aN (st:=ax 32) Ld Le Lf;have b19:=F19.binds (ps:=["a","n"]) λ_ _ _ _ _ _=>bJ (λ_=>bJ (λ_=>cM rfl));have F20:=aN (st:=ax 41) Lh Li Lj;have b20:=F20.binds (ps:=["sign"]) λ_ _ _ _ _ _=>bJ (λ_=>cM rfl);have F21:=aN (st:=ax 42) Ll Ln Lo;have b21:=F21.binds (ps:=["sign"]) λ_ _ _ _ _ _=>bJ (λ_=>cM rfl);have F22:=aN (st:=ax 43) Lq Lr Ls;have b22:=F22.binds (ps:=["text"]) λ_ _ _ _ _ _=>bJ (λ_=>cM rfl);have F23:=aN (st:=ax 44) Lv Lx Ly;have b23:=F23.binds (ps:=["text"]) λ_ _ _ _ _ _=>bJ (λ_=>cM rfl);have F24:=aN (st:=ax 45) LB LC LD;have b24:=F24.binds (ps:=["word"]) λ_ _ _ _ _ _=>bJ (λ_=>cM rfl);have F25:=aN (st:=ax 47) LH LJ LK;have b25:=F25.binds (ps:=["text"]) λ_ _ _ _ _ _=>bJ (λ_=>cM rfl);have F26:=aN (st:=ax 48) LM LN LP;have b26:=F26.binds (ps:=["steps","names"]) λ_ _ _ _ _ _=>bJ (λ_=>bJ (λ_=>cM rfl));have F27:=aN (st:=ax 49) LU LV LW;have b27:=F27.binds (ps:=["steps"]) λ_ _ _ _ _ _=>bJ (λ_=>cM rfl);have F28:=aN (st:=ax 50) LY LZ L0;have b28:=F28.binds (ps:=["first","sign","second"]) λ_ _ _ _ _ _=>bJ (λ_=>bJ (λ_=>bJ (λ_=>cM rfl)));have F29:=aN (st:=ax 51) L1 L2 L3;have b29:=F29.binds (ps:=["a"]) λ_ _ _ _ _ _=>bJ (λ_=>cM rfl);have F30:=aN (st:=ax 53) L5 L6 L7;have b30:=F30.binds (ps:=["a"]) λ_ _ _ _ _ _=>bJ (λ_=>cM rfl);have F31:gs K "read" "read" (ax 55) br _ ek [.none]:=kM L9 Ma Mb ND rfl;have b31:bM K _ ["text","names"] []:=F31.binds λ_ _ _ _ _ _ us hl=>(λ(q:us.length=2)=>by clear hl;revert us;refine bJ (λ_=>bJ (λ_=>cM ?_));exact⟨_,rfl,rfl⟩) (by simpa using hl);have e31:bM K _ ["text","names"] [.none]:=F31.binds λ_ _ _ _ _ _ us hl=>(λ(q:us.length=1)=>by clear hl;revert us;refine bJ (λ_=>cM ?_);exact⟨_,rfl,rfl⟩) (by simpa using hl);have F32:=aN (st:=ax 57) Me Mf Mg;have b32:=F32.binds (ps:=["_law_a","_law_b"]) λ_ _ _ _ _ _=>bJ (λ_=>bJ (λ_=>cM rfl));have F33:=aN (st:=ax 58) Mi Mj Ml;have b33:=F33.binds (ps:=["_law_number","_law_exponent","_law_many"]) λ_ _ _ _ _ _=>bJ (λ_=>bJ (λ_=>bJ (λ_=>cM rfl)));have F34:=aN (st:=ax 59) Mn Mo Mp;have b34:=F34.binds (ps:=["_law_number"]) λ_ _ _ _ _ _=>bJ (λ_=>cM rfl);have F35:=aN (st:=ax 60) Mr Ms Mu;have b35:=F35.binds (ps:=["_law_pool_here","_law_cell"]) λ_ _ _ _ _ _=>bJ (λ_=>bJ (λ_=>cM rfl));have F36:=aN (st:=ax 61) Mw Mx My;have b36:=F36.binds (ps:=["_law_script"]) λ_ _ _ _ _ _=>bJ (λ_=>cM rfl);have F37:=aN (st:=ax 62) MA MB MC;have b37:=F37.binds (ps:=["_law_number"]) λ_ _ _ _ _ _=>bJ (λ_=>cM rfl);have F38:=aN (st:=ax 63) ME MF MG;have b38:=F38.binds (ps:=["_law_found","_law_due_here"]) λ_ _ _ _ _ _=>bJ (λ_=>bJ (λ_=>cM rfl));have F39:=aN (st:=ax 64) MI MJ MK;have b39:=F39.binds (ps:=["_law_cell"]) λ_ _ _ _ _ _=>bJ (λ_=>cM rfl);have F40:=aN (st:=ax 65) MM MN MO;have b40:=F40.binds (ps:=["_law_number"]) λ_ _ _ _ _ _=>bJ (λ_=>cM rfl);have F41:=aN (st:=ax 66) MQ MR MS;have b41:=F41.binds (ps:=["_law_number"]) λ_ _ _ _ _ _=>bJ (λ_=>cM rfl);have F42:=aN (st:=ax 67) MU MV MW;have b42:=F42.binds (ps:=["_law_number"]) λ_ _ _ _ _ _=>bJ (λ_=>cM rfl);have F43:=aN (st:=ax 68) MY MZ M0;have b43:=F43.binds (ps:=["_law_many"]) λ_ _ _ _ _ _=>bJ (λ_=>cM rfl);have F44:=aN (st:=ax 69) M4 M5 M6;have b44:=F44.binds (ps:=["_law_cell"]) λ_ _ _ _ _ _=>bJ (λ_=>cM rfl);have F45:=aN (st:=ax 70) M8 M9 Na;have b45:=F45.binds (ps:=["_law_way","_law_one","_law_other"]) λ_ _ _ _ _ _=>bJ (λ_=>bJ (λ_=>bJ (λ_=>cM rfl)));have F46:=aN (st:=ax 71) Nc Nd Nf;have b46:=F46.binds (ps:=["_law_way","_law_one","_law_other"]) λ_ _ _ _ _ _=>bJ (λ_=>bJ (λ_=>bJ (λ_=>cM rfl)));have F47:=aN (st:=ax 72) Nh Ni Nj;have b47:=F47.binds (ps:=["_law_entry","_law_most","_law_always"]) λ_ _ _ _ _ _=>bJ (λ_=>bJ (λ_=>bJ (λ_=>cM rfl)));have F48:=aN (st:=ax 73) Nl Nn No;have b48:=F48.binds (ps:=["_law_way","_law_one","_law_other","_law_cell"]) λ_ _ _ _ _ _=>bJ (λ_=>bJ (λ_=>bJ (λ_=>bJ (λ_=>cM rfl))));have F49:=aN (st:=ax 74) Nq Nr Nt;have b49:=F49.binds (ps:=["_law_text_here","_law_names","_law_due_here"]) λ_ _ _ _ _ _=>bJ (λ_=>bJ (λ_=>bJ (λ_=>cM rfl)));have F50:=aN (st:=ax 75) Nv Nw Ny;have b50:=F50.binds (ps:=["_law_names"]) λ_ _ _ _ _ _=>bJ (λ_=>cM rfl);have F51:=aN (st:=ax 76) NA NB NC;have FM0_0:=aN (st:=cJ 46 0) ka hL hM;have bM0_0:=FM0_0.binds (ps:=["self","text"]) λ_ _ _ _ _ _=>bJ (λ_=>bJ (λ_=>cM rfl));have FM0_1:=aN (st:=cJ 46 1) kk hO b0;have bM0_1:=FM0_1.binds (ps:=["self","within"]) λ_ _ _ _ _ _=>bJ (λ_=>bJ (λ_=>cM rfl));have FM0_2:=aN (st:=cJ 46 2) kr hQ cb;have bM0_2:=FM0_2.binds (ps:=["self","within"]) λ_ _ _ _ _ _=>bJ (λ_=>bJ (λ_=>cM rfl));have FM0_3:=aN (st:=cJ 46 3) kv hS cc;have bM0_3:=FM0_3.binds (ps:=["self","within"]) λ_ _ _ _ _ _=>bJ (λ_=>bJ (λ_=>cM rfl));have FM0_4:=aN (st:=cJ 46 4) k0 hU cd;have bM0_4:=FM0_4.binds (ps:=["self","within"]) λ_ _ _ _ _ _=>bJ (λ_=>bJ (λ_=>cM rfl));have FM0_5:=aN (st:=cJ 46 5) lb hY ch;have bM0_5:=FM0_5.binds (ps:=["self"]) λ_ _ _ _ _ _=>bJ (λ_=>cM rfl);have FM0_6:=aN (st:=cJ 46 6) ld h1 cl;have bM0_6:=FM0_6.binds (ps:=["self","sign"]) λ_ _ _ _ _ _=>bJ (λ_=>bJ (λ_=>cM rfl));have FM0_7:=aN (st:=cJ 46 7) lk h3 cn;have bM0_7:=FM0_7.binds (ps:=["self"]) λ_ _ _ _ _ _=>bJ (λ_=>cM rfl);have T:Txt K mg:=⟨⟨f1,_,T1,_,[.int 0],F1,b1,e1,mg_of X G a1,(.cons ⟨_,rfl⟩ .nil),λ_=>(.cons (.int _) .nil)⟩,⟨f2,_,F2,b2,mg_of X G a2⟩,⟨f3,_,F3,b3,mg_of X G a3⟩,⟨f4,_,T4,_,[.int 1],F4,b4,e4,mg_of X G a4,(.cons ⟨_,rfl⟩ .nil),λ_=>(.cons (.int _) .nil)⟩,⟨f5,_,F5,b5,mg_of X G a5⟩,⟨f6,_,F6,b6,mg_of X G a6⟩,⟨f7,_,F7,b7,mg_of X G a7⟩,⟨f8,_,F8,b8,mg_of X G a8⟩,⟨f9,_,F9,b9,mg_of X G a9⟩,⟨cp,_,F10,b10,mg_of X G KA⟩,⟨cr,_,F11,b11,mg_of X G KE⟩,⟨cs,_,F12,b12,mg_of X G KI⟩,⟨ct,_,F13,b13,mg_of X G KM⟩,⟨cw,_,F14,b14,mg_of X G KQ⟩,⟨cD,_,F15,b15,mg_of X G KU⟩,⟨cG,_,F16,b16,mg_of X G K0⟩,⟨cH,_,F17,b17,mg_of X G K4⟩,⟨cN,_,F18,b18,mg_of X G K8⟩,⟨cT,_,F19,b19,mg_of X G Lc⟩,⟨c0,_,F20,b20,mg_of X G Lg⟩,⟨da,_,F21,b21,mg_of X G Lk⟩,⟨db,_,F22,b22,mg_of X G Lp⟩,⟨dd,_,F23,b23,mg_of X G Lu⟩,⟨df,_,F24,b24,mg_of X G Lz⟩,⟨di,_,F25,b25,mg_of X G LF⟩,⟨dj,_,F26,b26,mg_of X G LL⟩,⟨dk,_,F27,b27,mg_of X G LQ⟩,⟨dl,_,F28,b28,mg_of X G LX⟩,⟨bm,_,F29,b29,mg_of X G l0⟩,⟨dr,_,F30,b30,mg_of X G L4⟩,⟨br,_,ek,_,[.non],F31,b31,e31,mg_of X G L8,(.cons rfl .nil),λ_=>(.cons .non .nil)⟩,⟨ds,_,F32,b32,mg_of X G Mc⟩,⟨dx,_,F33,b33,mg_of X G Mh⟩,⟨dG,_,F34,b34,mg_of X G Mm⟩,⟨dH,_,F35,b35,mg_of X G Mq⟩,⟨dK,_,F36,b36,mg_of X G Mv⟩,⟨dN,_,F37,b37,mg_of X G Mz⟩,⟨dO,_,F38,b38,mg_of X G MD⟩,⟨dT,_,F39,b39,mg_of X G MH⟩,⟨dV,_,F40,b40,mg_of X G ML⟩,⟨d1,_,F41,b41,mg_of X G MP⟩,⟨d2,_,F42,b42,mg_of X G MT⟩,⟨d3,_,F43,b43,mg_of X G MX⟩,⟨ea,_,F44,b44,mg_of X G M3⟩,⟨eb,_,F45,b45,mg_of X G M7⟩,⟨ec,_,F46,b46,mg_of X G Nb⟩,⟨ed,_,F47,b47,mg_of X G Ng⟩,⟨ee,_,F48,b48,mg_of X G Nk⟩,⟨ef,_,F49,b49,mg_of X G Np⟩,⟨ej,_,F50,b50,mg_of X G Nu⟩,(mg_of X G NW).trans (mg_of X G l0).symm,⟨ab,mg_of X G NX,⟨I8,I9,Ja,Jb⟩,j2,j3,j4,⟨ap,_,⟨Jc,j5,hK,Jd⟩,FM0_0,bM0_0⟩,⟨ar,_,⟨kb,hN,b0⟩,FM0_1,bM0_1⟩,⟨as,_,⟨kp,hP,cb⟩,FM0_2,bM0_2⟩,⟨az,_,⟨ks,hR,cc⟩,FM0_3,bM0_3⟩,⟨a0,_,⟨kw,hT,cd⟩,FM0_4,bM0_4⟩,⟨be,_,⟨la,hX,ch⟩,FM0_5,bM0_5⟩,⟨bi,_,⟨lc,h0,cl⟩,FM0_6,bM0_6⟩,⟨bj,_,⟨lf,h2,cn⟩,FM0_7,bM0_7⟩⟩,⟨an,ad,ai,aj,⟨mg_of X G NN,NO⟩,⟨mg_of X G NP,NQ⟩,⟨mg_of X G NR,NS⟩,⟨mg_of X G NT,NU⟩,iv,ix,i0,i1,i2,i3,i5,j0,j1,⟨⟨IJ,IK,IL⟩,⟨⟨_,IM⟩,IN,IP⟩⟩,⟨⟨IQ,IR,IS⟩,⟨⟨_,IT⟩,IU,IV⟩⟩,⟨⟨IW,IX,IY⟩,⟨⟨_,IZ⟩,I0,I1⟩⟩,⟨⟨I2,I3,I4⟩,⟨⟨_,I5⟩,I6,I7⟩⟩⟩,⟨_,mg_of X G NE⟩,⟨_,mg_of X G NG⟩,⟨_,mg_of X G NH⟩,⟨_,mg_of X G NI⟩,⟨_,mg_of X G NJ⟩,⟨_,mg_of X G NK⟩,⟨_,mg_of X G NL⟩,⟨_,mg_of X G NM⟩,⟨hI,mg_of X G IH,_,_,_,_,II,(.cons ⟨_,rfl⟩ (.cons ⟨_,rfl⟩ (.cons ⟨_,rfl⟩ .nil)))⟩,mg_none_of X G z1,mg_none_of X G z2,mg_none_of X G z3,mg_none_of X G z4,mg_none_of X G z5,mg_none_of X G z6,mg_none_of X G z7,mg_none_of X G z8,mg_none_of X G z9,mg_none_of X G NY,mg_none_of X G NZ,mg_none_of X G N0,mg_none_of X G N1⟩;exact⟨fnOf "law" "law" (av (ax 76)) (ao (ax 76)) (ak (ax 76)) .none gc gd ge em co gg,λs v=> .of_eq rfl,λbase _ _=>AY T F51⟩
theorem walk {l:PySem.W.OpenLaw} {q:Program} {loose:List Str} {XP:(Str->Option Value)->Heap->Prop} {YP:World->Heap->Prop} {d:DefRec} {K:Params->yav} (hn:l.most=some 63) (hdf:d.params.defaults=[])
 (hY:∀(w:World) (h:Heap),YP w h->(K w.params).In h)
 (F:∀(w:World) (mg:yew) (fa:Addr) (h:Heap),(K w.params).In h->h.Ns mainGlobals mg->mg d.name=some (.ref fa)->
   ∃fd:FuncData,(∀(s:Shared) (u:Value),BindsTo s fd ⟨[u],[]⟩ [("_law_script",u)])/\∀base:Heap,(K w.params).In base->base.Ns mainGlobals mg->gj l.prog w (K w.params) mg base tq 100 fa fd ["_law_script"] (vp (K w.params) ki)):
 PySem.W.WalkO q loose XP YP l.row.toRowW d [] (λf vs=>PySem.call f vs):=
 L2.walk_of (n:=63) (k:=100) (x:="_law_script") (CX:=λ_=>tq) (sp:=λw=>vp (K w.params) ki) hn (by decide) hdf ⟨rfl,by decide,by decide⟩ hY F (λ_ _ _ _ hl hO hS=>rW hO hS hl) λ_ _ _ _ _ z=>z
end Lw
namespace PySem.W.Fast
theorem te16505541864253022337:0=0:=rfl
theorem te14825690705739676804:0=0:=rfl
theorem te3328566043052767962:0=0:=rfl
theorem te924289154353483645:0=0:=rfl
theorem te14069301154214435069:0=0:=rfl
theorem te18324547700098245229:0=0:=rfl
theorem te6656646898621496293:0=0:=rfl
theorem te708988378150225322:0=0:=rfl
theorem te5420630198012965354:0=0:=rfl
theorem te14276965868621158811:0=0:=rfl
theorem te14406909486512524936:0=0:=rfl
theorem te7077469581891529703:0=0:=rfl
theorem te1248311579617632742:0=0:=rfl
theorem te12305875035514831552:0=0:=rfl
theorem te13949271919166806924:0=0:=rfl
theorem te15699989268564229242:0=0:=rfl
theorem te9115619962137363214:0=0:=rfl
theorem te16986494026341308816:0=0:=rfl
theorem te8390641631912130523:0=0:=rfl
theorem te17824174601253048181:0=0:=rfl
theorem te11997468880546353783:0=0:=rfl
theorem te14576474853265108901:0=0:=rfl
theorem te17417349447467366992:0=0:=rfl
theorem te16619779233139687664:0=0:=rfl
theorem te9495715155222627177:0=0:=rfl
theorem te16787380501585562152:0=0:=rfl
theorem te2158872921507618830:0=0:=rfl
theorem te2233687921566767568:0=0:=rfl
theorem te8717247460103588223:0=0:=rfl
theorem te17730744347610357852:0=0:=rfl
theorem te17366545915081753446:0=0:=rfl
theorem te18420746231903232226:0=0:=rfl
theorem te5171353591278859002:0=0:=rfl
theorem te1808465659691862728:0=0:=rfl
theorem te12955866167868788184:0=0:=rfl
theorem te3349261836674764325:0=0:=rfl
theorem te4651096305441060271:0=0:=rfl
theorem te17314420990747254621:0=0:=rfl
theorem te2396374597183616641:0=0:=rfl
theorem te2094988436985290770:0=0:=rfl
theorem te12814879470736710147:0=0:=rfl
theorem te7690397268559754940:0=0:=rfl
theorem te9640537461346244502:0=0:=rfl
theorem te17698606627521034403:0=0:=rfl
theorem te16961458104749933185:0=0:=rfl
theorem te12919372611462882002:0=0:=rfl
theorem te5124958958469734106:0=0:=rfl
theorem te12608460205342542518:0=0:=rfl
theorem te9066005535606016027:0=0:=rfl
theorem te2270763066051442170:0=0:=rfl
theorem te10538590586159231395:0=0:=rfl
theorem te2233498986249578005:0=0:=rfl
theorem te9430398301654754960:0=0:=rfl
theorem te4011379442437100918:0=0:=rfl
theorem te4017702386616754700:0=0:=rfl
theorem te4262855045667477384:0=0:=rfl
theorem te12715347144249681792:0=0:=rfl
theorem te6599165238457907962:0=0:=rfl
theorem te9824152198709438368:0=0:=rfl
theorem te17538582245933955907:0=0:=rfl
theorem te8809157442710859070:0=0:=rfl
theorem te297581238931940024:0=0:=rfl
theorem te12396452823894049006:0=0:=rfl
theorem te783070136077508212:0=0:=rfl
theorem te7427115836737336998:0=0:=rfl
theorem te8366323588259003567:0=0:=rfl
theorem te9692360170962920927:0=0:=rfl
theorem te18246963757491541613:0=0:=rfl
theorem te16571029467983931683:0=0:=rfl
theorem te4806042673423948341:0=0:=rfl
theorem te11989043522934096384:0=0:=rfl
theorem te18014570662533636598:0=0:=rfl
theorem te11856992667240730339:0=0:=rfl
theorem te17954696113368562240:0=0:=rfl
theorem te3701840075565071733:0=0:=rfl
theorem te5289396150852571286:0=0:=rfl
theorem te15844370442408071167:0=0:=rfl
theorem te17933221767313671018:0=0:=rfl
theorem te9431535906722438397:0=0:=rfl
theorem te1830123260091374146:0=0:=rfl
theorem te16544371238548280167:0=0:=rfl
theorem te2892632391188480771:0=0:=rfl
theorem te11537180764804873142:0=0:=rfl
theorem te2237209193583961353:0=0:=rfl
theorem te6579282986658678632:0=0:=rfl
theorem te4972932602420341405:0=0:=rfl
theorem te14463622532333827349:0=0:=rfl
theorem te14259979695460591211:0=0:=rfl
theorem te4224587266473376852:0=0:=rfl
theorem te16949158241065653684:0=0:=rfl
theorem te18312201006103710706:0=0:=rfl
theorem te12284178008784943729:0=0:=rfl
theorem te3217661308763528131:0=0:=rfl
theorem te10759069452406840496:0=0:=rfl
theorem te10144959359839161531:0=0:=rfl
theorem te3345948918962012912:0=0:=rfl
theorem te9940463190875530245:0=0:=rfl
theorem te3358003266549213701:0=0:=rfl
theorem te13172578535037084446:0=0:=rfl
theorem te4202335320734074025:0=0:=rfl
theorem te13539992739351682332:0=0:=rfl
theorem te11444168615822879529:0=0:=rfl
theorem te4054553814266405843:0=0:=rfl
theorem te11890503010164898751:0=0:=rfl
theorem te10507336746747702486:0=0:=rfl
theorem te17375725179024730245:0=0:=rfl
theorem te7736333790965957063:0=0:=rfl
theorem te9541796933985588819:0=0:=rfl
theorem te13403269017277913746:0=0:=rfl
theorem te15724438928334433406:0=0:=rfl
theorem te16228713901635556036:0=0:=rfl
theorem te7947410404988872287:0=0:=rfl
theorem te1128081073975497347:0=0:=rfl
theorem te14992497278165687139:0=0:=rfl
theorem te6556237797488478085:0=0:=rfl
theorem te17412110233166645842:0=0:=rfl
theorem te9005719286785568957:0=0:=rfl
theorem te8639699836381846163:0=0:=rfl
theorem te1966154423825092928:0=0:=rfl
theorem te11425110982543838224:0=0:=rfl
theorem te5271977650667018528:0=0:=rfl
theorem te10170691557568749599:0=0:=rfl
theorem te14312806773033452389:0=0:=rfl
theorem te16361296881951658257:0=0:=rfl
theorem te964313429484171788:0=0:=rfl
theorem te2980479263818472096:0=0:=rfl
theorem te5609420637529156142:0=0:=rfl
theorem te6455449581659908078:0=0:=rfl
theorem te4003592268577670739:0=0:=rfl
theorem te10392369343456470762:0=0:=rfl
theorem te17355528618013605815:0=0:=rfl
theorem te3191013377529877667:0=0:=rfl
theorem te17168237486658951947:0=0:=rfl
theorem te9153298198630642227:0=0:=rfl
theorem te552814449772862326:0=0:=rfl
theorem te14635733693306080957:0=0:=rfl
theorem te11766075683707884688:0=0:=rfl
theorem te16338385379079095292:0=0:=rfl
theorem te15404542586172975047:0=0:=rfl
theorem te12309705512194890213:0=0:=rfl
theorem te6479384041365870440:0=0:=rfl
theorem te5521623298380334927:0=0:=rfl
theorem te7483700195535670134:0=0:=rfl
theorem te11030693163386805567:0=0:=rfl
theorem te15522451045236735278:0=0:=rfl
theorem te5772312620891290091:0=0:=rfl
theorem te10445250328866835088:0=0:=rfl
theorem te12891653555999905854:0=0:=rfl
theorem te7262913271971944400:0=0:=rfl
theorem te14806796420491336034:0=0:=rfl
theorem te14436984744988341632:0=0:=rfl
theorem te15155151707356424133:0=0:=rfl
theorem te1141347861245213744:0=0:=rfl
theorem te17623928599523733751:0=0:=rfl
theorem te12699705163003337436:0=0:=rfl
theorem te6841695175782823351:0=0:=rfl
theorem te14298133315414456448:0=0:=rfl
theorem te15146306454081765235:0=0:=rfl
theorem te1120774961288088017:0=0:=rfl
theorem te14353845189904197551:0=0:=rfl
theorem te9754553822120327320:0=0:=rfl
theorem te3626805696094199019:0=0:=rfl
theorem te11046770771118802866:0=0:=rfl
theorem te13164444417701183162:0=0:=rfl
theorem te184799853554920414:0=0:=rfl
theorem te12178855142681767637:0=0:=rfl
theorem te15034053714934071314:0=0:=rfl
theorem te10340646091008739247:0=0:=rfl
theorem te5290844862109544982:0=0:=rfl
theorem te17370742029088253635:0=0:=rfl
theorem te9733732331719569180:0=0:=rfl
theorem te6570875079624230545:0=0:=rfl
theorem te7665617476870457060:0=0:=rfl
theorem te17611889365738566663:0=0:=rfl
theorem te9331591313909933532:0=0:=rfl
theorem te15030678652554719249:0=0:=rfl
theorem te15056394955467186718:0=0:=rfl
theorem te2865539023053566079:0=0:=rfl
theorem te16812117778338726463:0=0:=rfl
theorem te12576623312509801348:0=0:=rfl
theorem te9562355509770024261:0=0:=rfl
theorem te14181752700526313086:0=0:=rfl
theorem te15542680622320166196:0=0:=rfl
theorem te15551199268561694220:0=0:=rfl
theorem te5783174370834398229:0=0:=rfl
theorem te14177227962711947244:0=0:=rfl
theorem te8313501441108810135:0=0:=rfl
theorem te6784082645624751622:0=0:=rfl
theorem te7972040308900915676:0=0:=rfl
theorem te11418591990131238086:0=0:=rfl
theorem te8952913180249871801:0=0:=rfl
theorem te10468580015779266195:0=0:=rfl
theorem te6628571716345651430:0=0:=rfl
theorem te801632492070500405:0=0:=rfl
theorem te8438325953022359694:0=0:=rfl
theorem te18216043675048158263:0=0:=rfl
theorem te4726344790966849841:0=0:=rfl
theorem te13500350858762292551:0=0:=rfl
theorem te12656127303909307437:0=0:=rfl
theorem te14258586483294569395:0=0:=rfl
theorem te1465834650099863672:0=0:=rfl
theorem te16172609758205222014:0=0:=rfl
theorem te764989994794132758:0=0:=rfl
theorem te2486371954788597109:0=0:=rfl
theorem te15139494775183188923:0=0:=rfl
theorem te2882223519145809769:0=0:=rfl
theorem te10154318784847713728:0=0:=rfl
theorem te12487854097583549524:0=0:=rfl
theorem te6214356923683228502:0=0:=rfl
theorem te2533877616056092427:0=0:=rfl
theorem te15110263878256242006:0=0:=rfl
theorem te880133462173724805:0=0:=rfl
theorem te1821033925740089083:0=0:=rfl
theorem te13726482736903180538:0=0:=rfl
theorem te12275822704927184111:0=0:=rfl
theorem te11530090794038323923:0=0:=rfl
theorem te2622932819414241895:0=0:=rfl
theorem te17066582158211559019:0=0:=rfl
theorem te8688629148742018660:0=0:=rfl
theorem te13481453922682691059:0=0:=rfl
theorem te2170007019122403676:0=0:=rfl
theorem te12418215041536149569:0=0:=rfl
theorem te7994960840826822542:0=0:=rfl
theorem te49182227297133349:0=0:=rfl
theorem te3092709554608867839:0=0:=rfl
theorem te12100935695650263808:0=0:=rfl
theorem te13730557868413371011:0=0:=rfl
theorem te6239036434911587294:0=0:=rfl
theorem te13057182987218563699:0=0:=rfl
theorem te10727841138791958154:0=0:=rfl
theorem te1913266322263564987:0=0:=rfl
theorem te15221396231215455444:0=0:=rfl
theorem te183495761393362628:0=0:=rfl
theorem te13775553394416712682:0=0:=rfl
theorem te8109454723898641479:0=0:=rfl
theorem te3870424081401170830:0=0:=rfl
theorem te11790236027969520160:0=0:=rfl
theorem te3204273596075007001:0=0:=rfl
theorem te571297709497512729:0=0:=rfl
theorem te6073417291557626307:0=0:=rfl
theorem te165882721438788865:0=0:=rfl
theorem te2369345315538529007:0=0:=rfl
theorem te12321038388151724835:0=0:=rfl
theorem te3645830502252870246:0=0:=rfl
theorem te3059631208211084044:0=0:=rfl
theorem te5991228615957049030:0=0:=rfl
theorem te9467512637867234966:0=0:=rfl
theorem te8363497088589065422:0=0:=rfl
theorem te15782924186906234099:0=0:=rfl
theorem te3661470124917321287:0=0:=rfl
theorem te16478219405803997255:0=0:=rfl
theorem te15171541887832844899:0=0:=rfl
theorem te1995770835994935730:0=0:=rfl
theorem te1112547351657240976:0=0:=rfl
theorem te6797484585240571261:0=0:=rfl
theorem te8951649423859636427:0=0:=rfl
theorem te11283572474489182080:0=0:=rfl
theorem te12455203120948759716:0=0:=rfl
theorem te9843040955966842126:0=0:=rfl
theorem te8107591065709251218:0=0:=rfl
theorem te8748316713391753762:0=0:=rfl
theorem te4144982018923832488:0=0:=rfl
theorem te12428166471138155263:0=0:=rfl
theorem te6668503873290013676:0=0:=rfl
theorem te1077468475822514999:0=0:=rfl
theorem te11082783662060266134:0=0:=rfl
theorem te15330095931929291597:0=0:=rfl
theorem te5448134231660363043:0=0:=rfl
theorem te11571507518140295849:0=0:=rfl
theorem te3766605477274126458:0=0:=rfl
theorem te13091532611589514123:0=0:=rfl
theorem te3741135715868545073:0=0:=rfl
theorem te14979002115874037158:0=0:=rfl
theorem te11747402744462895519:0=0:=rfl
theorem te5112760799692638651:0=0:=rfl
theorem te1241865378220862891:0=0:=rfl
theorem te18256604909928495255:0=0:=rfl
theorem te10196767088020324090:0=0:=rfl
theorem te8389335332643134504:0=0:=rfl
theorem te407793441388228715:0=0:=rfl
theorem te11209232528493003376:0=0:=rfl
theorem te2027990213441765294:0=0:=rfl
theorem te9340804219927736367:0=0:=rfl
theorem te15112002946696653937:0=0:=rfl
theorem te4173410765693953699:0=0:=rfl
theorem te14216032085526407401:0=0:=rfl
theorem te5973286748144475430:0=0:=rfl
theorem te8025892779934646632:0=0:=rfl
theorem te11597326786424640097:0=0:=rfl
theorem te494795509022149966:0=0:=rfl
theorem te7281522416861486671:0=0:=rfl
theorem te10942120140073312851:0=0:=rfl
theorem te3143516537732527024:0=0:=rfl
theorem te15221487909925016065:0=0:=rfl
theorem te12857383896695318087:0=0:=rfl
theorem te4413100325029101699:0=0:=rfl
theorem te9335647343153591685:0=0:=rfl
theorem te6630012890932154881:0=0:=rfl
theorem te1240429982328794822:0=0:=rfl
theorem te9676468868365312309:0=0:=rfl
theorem te3671440345736530103:0=0:=rfl
theorem te12298030573484136549:0=0:=rfl
theorem te6045081818891819900:0=0:=rfl
theorem te5872505719099083032:0=0:=rfl
theorem te16137265241052865633:0=0:=rfl
theorem te8360899351354133038:0=0:=rfl
theorem te11094570954568537903:0=0:=rfl
theorem te9398226519780010183:0=0:=rfl
theorem te15867721826647928552:0=0:=rfl
theorem te11396774022099574206:0=0:=rfl
theorem te394271754256493723:0=0:=rfl
theorem te10341727256500453931:0=0:=rfl
theorem te2710911105602763134:0=0:=rfl
theorem te14591997616127887599:0=0:=rfl
theorem te16842377667074513465:0=0:=rfl
theorem te1608268164371163094:0=0:=rfl
theorem te6080222643394475490:0=0:=rfl
theorem te2860999461971966216:0=0:=rfl
theorem te12551395482483215305:0=0:=rfl
theorem te18367085007825018346:0=0:=rfl
theorem te4187969932777069114:0=0:=rfl
theorem te4401046574777605133:0=0:=rfl
theorem te13580702404691911586:0=0:=rfl
theorem te13054667768786454209:0=0:=rfl
theorem te5519849262232231606:0=0:=rfl
theorem te10725047965915206982:0=0:=rfl
theorem te463021207439845440:0=0:=rfl
theorem te1140933825636394405:0=0:=rfl
theorem te7355470859391149932:0=0:=rfl
theorem te2816291870524765122:0=0:=rfl
theorem te5959123628280652795:0=0:=rfl
theorem te17568974964149803194:0=0:=rfl
theorem te17728599440695284684:0=0:=rfl
theorem te8493703534312894371:0=0:=rfl
theorem te626721055856321828:0=0:=rfl
theorem te9881761094369829070:0=0:=rfl
theorem te7230082551511583839:0=0:=rfl
theorem te17268053834413568257:0=0:=rfl
theorem te6371487711697205884:0=0:=rfl
theorem te12734401458243213338:0=0:=rfl
theorem te2672046877791272367:0=0:=rfl
theorem te8118663304791704671:0=0:=rfl
theorem te3453520221120040838:0=0:=rfl
theorem te13538127169661284110:0=0:=rfl
theorem te13969406685556471948:0=0:=rfl
theorem te9457750006664699476:0=0:=rfl
theorem te14550767971094161961:0=0:=rfl
theorem te4923001085837808497:0=0:=rfl
theorem te6666123807345217011:0=0:=rfl
theorem te10168376244785981492:0=0:=rfl
theorem te10308385970371395520:0=0:=rfl
theorem te3628270806116469813:0=0:=rfl
theorem te1662350224524632007:0=0:=rfl
theorem te18355181838485545887:0=0:=rfl
theorem te7188720721258420391:0=0:=rfl
theorem te5949589892120585549:0=0:=rfl
theorem te9341870745684737246:0=0:=rfl
theorem te10823342109687285998:0=0:=rfl
theorem te17885147900796332445:0=0:=rfl
theorem te4324855936744484936:0=0:=rfl
theorem te4696541816515027738:0=0:=rfl
theorem te12705530580924424502:0=0:=rfl
theorem te9362505935319466263:0=0:=rfl
theorem te3352922573443495334:0=0:=rfl
theorem te14304426209902448120:0=0:=rfl
theorem te18281611733130206258:0=0:=rfl
theorem te16713007388507546048:0=0:=rfl
theorem te16415495822283011791:0=0:=rfl
theorem te18404059573016869879:0=0:=rfl
theorem te1179133006817519872:0=0:=rfl
theorem te13070137666488426669:0=0:=rfl
theorem te9130606512472525978:0=0:=rfl
theorem te3790533880596870798:0=0:=rfl
theorem te7122286534142293384:0=0:=rfl
theorem te7736888942085903895:0=0:=rfl
theorem te12787579801033585139:0=0:=rfl
theorem te9833489274268666640:0=0:=rfl
theorem te9346649832512422885:0=0:=rfl
theorem te12222161582452673658:0=0:=rfl
theorem te4952653621529331165:0=0:=rfl
theorem te3854120295494325335:0=0:=rfl
theorem te16724146615650130604:0=0:=rfl
theorem te1235574411683836646:0=0:=rfl
theorem te6861683838174376960:0=0:=rfl
theorem te15718782931537975187:0=0:=rfl
theorem te6579412746817544329:0=0:=rfl
theorem te5173945786933313213:0=0:=rfl
theorem te6218398888127516200:0=0:=rfl
theorem te4042739492648772493:0=0:=rfl
theorem te11362139876738975421:0=0:=rfl
theorem te13557467441870484988:0=0:=rfl
theorem te5850803373950989668:0=0:=rfl
theorem te5649405464894756041:0=0:=rfl
theorem te10379436064662836977:0=0:=rfl
theorem te79194252196489954:0=0:=rfl
theorem te13476007008740900974:0=0:=rfl
theorem te2059233257283813871:0=0:=rfl
theorem te3235081866700256234:0=0:=rfl
theorem te17942196076571650990:0=0:=rfl
theorem te17042080529888121495:0=0:=rfl
noncomputable def tw4904672943737024676:Unit:=()
noncomputable def tw905616617496670174:Unit:=()
noncomputable def tw14736963082153469110:Unit:=()
noncomputable def tw8319461721508169101:Unit:=()
noncomputable def tw8707838276806252512:Unit:=()
noncomputable def tw9710656644650555169:Unit:=()
noncomputable def tw12447531039290268190:Unit:=()
noncomputable def tw9067032341561932265:Unit:=()
noncomputable def tw7290852531257224953:Unit:=()
noncomputable def tw3662724977600074464:Unit:=()
noncomputable def tw7213515752167000867:Unit:=()
noncomputable def tw5138796382195687076:Unit:=()
noncomputable def tw3010563112150211333:Unit:=()
noncomputable def tw5138484458246641991:Unit:=()
noncomputable def tw7054272844958049737:Unit:=()
noncomputable def tw16323545606938456877:Unit:=()
noncomputable def tw3968419761101480592:Unit:=()
noncomputable def tw3905208691882278617:Unit:=()
noncomputable def tw16210346300255254522:Unit:=()
noncomputable def tw16948535910377406619:Unit:=()
noncomputable def tw3288848393365428731:Unit:=()
noncomputable def tw1975840952002751291:Unit:=()
noncomputable def tw5860107768370094844:Unit:=()
noncomputable def tw6203612153125645949:Unit:=()
noncomputable def tw4616657004104780767:Unit:=()
end PySem.W.Fast
open PySem PySem.W PyProof.Rows
set_option maxRecDepth 100000 in
set_option maxHeartbeats 0 in
theorem PySem.Challenge.cw_hydrahouse_k72_read_and_reckoned_holds : PySem.Challenge.rw_hydrahouse_k72_read_and_reckoned.Holds := by
 w_on;o_law;k_head;(case hw=>w_witness2)
 k_fill
 refine Lw.walk (l:=PySem.Challenge.rw_hydrahouse_k72_read_and_reckoned) rfl rfl (λw h Y=>PySem.W.kIn_of Y) ?F
 case F=>
  intro w mg fa h KX G hmg;refine' Lw.all_mk KX G hmg ?a1 ?l1 ?c1 ?k1 ?a2 ?l2 ?c2 ?k2 ?a3 ?l3 ?c3 ?k3 ?a4 ?l4 ?c4 ?k4 ?a5 ?l5 ?c5 ?k5 ?a6 ?l6 ?c6 ?k6 ?a7 ?l7 ?c7 ?k7 ?a8 ?l8 ?c8 ?k8 ?a9 ?l9 ?c9 ?k9 ?KA ?KB ?KC ?KD ?KE ?KF ?KG ?KH ?KI ?KJ ?KK ?KL ?KM ?KN ?KO ?KP ?KQ ?KR ?KS ?KT ?KU ?KW ?KY ?KZ ?K0 ?K1 ?K2 ?K3 ?K4 ?K5 ?K6 ?K7 ?K8 ?K9 ?La ?Lb ?Lc ?Ld ?Le ?Lf ?Lg ?Lh ?Li ?Lj ?Lk ?Ll ?Ln ?Lo ?Lp ?Lq ?Lr ?Ls ?Lu ?Lv ?Lx ?Ly ?Lz ?LB ?LC ?LD ?LF ?LH ?LJ ?LK ?LL ?LM ?LN ?LP ?LQ ?LU ?LV ?LW ?LX ?LY ?LZ ?L0 ?l0 ?L1 ?L2 ?L3 ?L4 ?L5 ?L6 ?L7 ?L8 ?L9 ?Ma ?Mb ?Mc ?Me ?Mf ?Mg ?Mh ?Mi ?Mj ?Ml ?Mm ?Mn ?Mo ?Mp ?Mq ?Mr ?Ms ?Mu ?Mv ?Mw ?Mx ?My ?Mz ?MA ?MB ?MC ?MD ?ME ?MF ?MG ?MH ?MI ?MJ ?MK ?ML ?MM ?MN ?MO ?MP ?MQ ?MR ?MS ?MT ?MU ?MV ?MW ?MX ?MY ?MZ ?M0 ?M3 ?M4 ?M5 ?M6 ?M7 ?M8 ?M9 ?Na ?Nb ?Nc ?Nd ?Nf ?Ng ?Nh ?Ni ?Nj ?Nk ?Nl ?Nn ?No ?Np ?Nq ?Nr ?Nt ?Nu ?Nv ?Nw ?Ny ?Nz ?NA ?NB ?NC ?t1 ?t4 ?ND ?NE ?NG ?NH ?NI ?NJ ?NK ?NL ?NM ?IH ?II ?NN ?NO ?NP ?NQ ?NR ?NS ?NT ?NU ?iv ?ix ?i0 ?i1 ?i2 ?i3 ?i5 ?j0 ?j1 ?IJ ?IK ?IL ?IM ?IN ?IP ?IQ ?IR ?IS ?IT ?IU ?IV ?IW ?IX ?IY ?IZ ?I0 ?I1 ?I2 ?I3 ?I4 ?I5 ?I6 ?I7 ?NW ?NX ?I8 ?I9 ?Ja ?Jb ?Jc ?Jd ?j2 ?j3 ?j4 ?j5 ?hK ?ka ?hL ?hM ?kb ?hN ?kk ?hO ?b0 ?kp ?hP ?kr ?hQ ?cb ?ks ?hR ?kv ?hS ?cc ?kw ?hT ?k0 ?hU ?cd ?la ?hX ?lb ?hY ?ch ?lc ?h0 ?ld ?h1 ?cl ?lf ?h2 ?lk ?h3 ?cn ?z1 ?z2 ?z3 ?z4 ?z5 ?z6 ?z7 ?z8 ?z9 ?NY ?NZ ?N0 ?N1
  case a1|l1|c1|k1|a2|l2|c2|k2|a3|l3|c3|k3|a4|l4|c4|k4|a5|l5|c5|k5|a6|l6|c6|k6|a7|l7|c7|k7|a8|l8|c8|k8|a9|l9|c9|k9|KA|KB|KC|KD|KE|KF|KG|KH|KI|KJ|KK|KL|KM|KN|KO|KP|KQ|KR|KS|KT|KU|KW|KY|KZ|K0|K1|K2|K3|K4|K5|K6|K7|K8|K9|La|Lb|Lc|Ld|Le|Lf|Lg|Lh|Li|Lj|Lk|Ll|Ln|Lo|Lp|Lq|Lr|Ls|Lu|Lv|Lx|Ly|Lz|LB|LC|LD|LF|LH|LJ|LK|LL|LM|LN|LP|LQ|LU|LV|LW|LX|LY|LZ|L0|l0|L1|L2|L3|L4|L5|L6|L7|L8|L9|Ma|Mb|Mc|Me|Mf|Mg|Mh|Mi|Mj|Ml|Mm|Mn|Mo|Mp|Mq|Mr|Ms|Mu|Mv|Mw|Mx|My|Mz|MA|MB|MC|MD|ME|MF|MG|MH|MI|MJ|MK|ML|MM|MN|MO|MP|MQ|MR|MS|MT|MU|MV|MW|MX|MY|MZ|M0|M3|M4|M5|M6|M7|M8|M9|Na|Nb|Nc|Nd|Nf|Ng|Nh|Ni|Nj|Nk|Nl|Nn|No|Np|Nq|Nr|Nt|Nu|Nv|Nw|Ny|Nz|NA|NB|NC|t1|t4|ND|NE|NG|NH|NI|NJ|NK|NL|NM|IH|II|NN=>k_is
  (case NO=>k_exc)
  case NP=>k_is
  (case NQ=>k_exc)
  case NR=>k_is
  (case NS=>k_exc)
  case NT=>k_is
  (case NU=>k_exc)
  case iv|ix|i0|i1|i2|i3|i5|j0|j1|IJ|IK|IL|IM|IN|IP|IQ|IR|IS|IT|IU|IV|IW|IX|IY|IZ|I0|I1|I2|I3|I4|I5|I6|I7|NW|NX|I8|I9|Ja|Jb|Jc|Jd|j2|j3|j4|j5|hK|ka|hL|hM|kb|hN|kk|hO|b0|kp|hP|kr|hQ|cb|ks|hR|kv|hS|cc|kw|hT|k0|hU|cd|la|hX|lb|hY|ch|lc|h0|ld|h1|cl|lf|h2|lk|h3|cn|z1|z2|z3|z4|z5|z6|z7|z8|z9|NY|NZ|N0|N1=>k_is
