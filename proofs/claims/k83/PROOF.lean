import PyProof.Rows.All
import Wide.All
import OpenK.AllK
import Wide.FinOn
import KE.KEqDict
import KE.KPairComp
import KE.KDictList
import KE.KRevSl
import PyProof.Rows.SetFrom
import KE.KRevIter
import KE.KDictOf
import KE.KSortAsk
import KE.KSortTup
import PyProof.Rows.SortRev
import KE.KDictSum
import PySem.Challenge.RW_hydrahouse_k83_whole_run
set_option bootstrap.genMatcherCode false
set_option compiler.extract_closed false
set_option genSizeOf false
-- CHANGE: your row's module here, as the last of these rows
set_option Elab.async false
set_option linter.all false
set_option maxRecDepth 100000
open PySem.W (callWith_K clsIn codeIn emptyDict excIn findIn fnOf hasDictIn hideAll hideAll_get hideAll_none instIn instObj isFn keepIn kia_one lookIn makesIn mg_none_of mg_of mroIn nsIn of_hideAll plainGet plainOver typeIn)
abbrev yax:=PySem.W.Frag
abbrev yay:=@List.mem_cons_of_mem
abbrev yaz:=@List.mem_cons_self
abbrev yaw:=@PySem.Heap.get?_push_of_some
abbrev yav:=@PySem.Heap.get?_push_size
abbrev ybx:=@PySem.Heap.lt_size
abbrev yby:=@Nat.le_refl
abbrev ybz:=@Nat.le_trans
abbrev ybw:=@List.getElem?_eq_getElem
abbrev ybv:=@if_neg
abbrev ycx:=@if_pos
abbrev ycy:=@Bool.false_ne_true
abbrev ycz:=@decide_eq_false
abbrev ycw:=@decide_eq_true
abbrev ycv:=@Nat.lt_of_lt_of_le
abbrev ydx:=@Int.le_trans
abbrev ydy:=@List.mem_append_right
abbrev ydz:=PySem.Value->PySem.Shared->Prop
abbrev ydw:=List PySem.Value
abbrev ydv:=PySem.Str->Option PySem.Value
variable {K:yax} {E:PySem.Value->PySem.Shared->Prop} {s:PySem.Shared} {A:PySem.Around} {w:PySem.World} {P:PySem.Program} {prog:PySem.Program} {π:List (PySem.Addr×PySem.Obj)} {mg:PySem.Str->Option PySem.Value} {pos:PySem.Pos} {us:List PySem.Value} {Q:PySem.Value->PySem.Shared->Prop} {x:PySem.Str} {e:PySem.Expr} {a:PySem.Addr} {k:Nat} {fd:PySem.FuncData} {base:PySem.Heap} {es:List PySem.Expr} {ps:List PySem.Str} {u:PySem.Value} {i:Nat} {st:PySem.Stmt} {bm:List PySem.Value} {scope:PySem.Scope} {body:List PySem.Stmt} {items:Array PySem.Value}
open List (all_eq_true any_cons append_assoc append_nil cons_append drop_eq_getElem_cons filterMap_cons filter_cons filter_cons_of_neg filter_cons_of_pos flatten_cons foldl_cons getElem_mem length_append length_cons length_drop length_map length_nil length_reverse length_take lookup_cons map_append map_cons map_map map_nil map_reverse mem_append mem_append_left mem_append_right mem_cons mem_cons_of_mem mem_cons_self mem_filter mem_map mem_of_mem_take mem_singleton nil_append nodup_cons pairwise_cons replicate_succ set_cons_succ set_cons_zero set_set size_toArray sum_append sum_cons zip_cons_cons)
abbrev wax:=@PySem.wpAny_bind
abbrev way:=@PySem.wpAny_pure
open Nat (le_max_left le_max_right le_refl le_succ le_trans lt_irrefl lt_of_lt_of_le lt_or_ge max_le ne_of_lt not_lt zero_le)
namespace L2
open PySem PySem.Spec PyProof.Rows
noncomputable abbrev ax:=Sum Int Str
noncomputable def jy:ax->Value->Bool
 | .inl k,v=>Value.isInt k v
 | .inr x,v=>Value.isStrOf x v
noncomputable def EE (w:World):ax->Int
 | .inl k=>hashInt k
 | .inr x=>hashStr w x
theorem bE:∀{k:ax} {v:Value},jy k v=true->(∃i t,k=Sum.inl i/\v=Value.int i t)∨(∃x t,k=Sum.inr x/\v=Value.str x t)
 | .inl i,v,h=>by
   obtain⟨t,e⟩:=Value.isInt_shape (k:=i) (v:=v) h;exact .inl ⟨i,t,rfl,e⟩
 | .inr x,v,h=>by
   obtain⟨t,e⟩:=Value.isStrOf_shape (x:=x) (v:=v) h;exact .inr ⟨x,t,rfl,e⟩
theorem rK (i:Int) (t:Tok):jy (.inl i) (.int i t)=true:=by simp[jy,Value.isInt]
theorem rL (x:Str) (t:Tok):jy (.inr x) (.str x t)=true:=by simp[jy,Value.isStrOf]
theorem zU (a b:Int):decide ((Sum.inl a:ax)=Sum.inl b)=(a==b):=by
 by_cases e:a=b
 ·subst e;simp
 ·have h:¬(Sum.inl a:ax)=Sum.inl b:=λq=>e (Sum.inl.inj q);rw[ycz h];exact(beq_eq_false_iff_ne.mpr e).symm
theorem zV (a b:Str):decide ((Sum.inr a:ax)=Sum.inr b)=decide (a=b):=by
 by_cases e:a=b
 ·subst e;simp
 ·have h:¬(Sum.inr a:ax)=Sum.inr b:=λq=>e (Sum.inr.inj q);rw[ycz h,ycz e]
theorem zW (a:Int) (b:Str):decide ((Sum.inl a:ax)=Sum.inr b)=false:=ycz (λq=>nomatch q)
theorem zX (a:Str) (b:Int):decide ((Sum.inr a:ax)=Sum.inl b)=false:=ycz (λq=>nomatch q)
noncomputable def aW (prog:Program) (w:World):PySem.KeyKind prog w ax where
 is:=jy
 hash:=EE w
 inj:=λv a b ha hb=>by
  rcases bE ha with⟨i,t,rfl,rfl⟩ | ⟨x,t,rfl,rfl⟩
  ·rcases bE hb with⟨j,u,rfl,e⟩ | ⟨y,u,rfl,e⟩
   ·injection e with e1 _;rw[e1]
   ·exact nomatch e
  ·rcases bE hb with⟨j,u,rfl,e⟩ | ⟨y,u,rfl,e⟩
   ·exact nomatch e
   ·injection e with e1 _;rw[e1]
 byValue:=λk v h=>by
  rcases bE h with⟨i,t,rfl,rfl⟩ | ⟨x,t,rfl,rfl⟩<;> rfl
 pyHash:=λhv h=>by
  rcases bE hv with⟨i,t,rfl,rfl⟩ | ⟨x,t,rfl,rfl⟩
  ·exact wpAny_pyHash_int h
  ·exact wpAny_pyHash_str h
 eqBool:=λhu hv h=>by
  rcases bE hu with⟨i,t,rfl,rfl⟩ | ⟨x,t,rfl,rfl⟩
  ·rcases bE hv with⟨j,u,rfl,rfl⟩ | ⟨y,u,rfl,rfl⟩
   ·rw[zU] at h;exact wpAny_eqBool_int h
   ·rw[zW] at h;exact SeqAt.EqAt.int_str i t y u _ _ _ _ h
  ·rcases bE hv with⟨j,u,rfl,rfl⟩ | ⟨y,u,rfl,rfl⟩
   ·rw[zX] at h;exact SeqAt.EqAt.str_int x t j u _ _ _ _ h
   ·rw[zV] at h;exact wpAny_eqBool_str h
 «strs»:=λk x t v h=>by
  rcases bE h with⟨i,u,rfl,e⟩ | ⟨y,u,rfl,e⟩
  ·exact nomatch e
  ·injection e with e1 _
   subst e1;cases v<;> rfl
theorem dR (prog:Program) (w:World) (i:Int) (t:Tok):(aW prog w).is (.inl i) (.int i t)=true:=rK i t
theorem mX (prog:Program) (w:World) (x:Str) (t:Tok):(aW prog w).is (.inr x) (.str x t)=true:=rL x t
inductive V where
 | non | bl (b:Bool) | int (i:Int) | str (x:Str) | byt (b:Array UInt8) | flt (b:UInt64) | ref (a:Addr) | ty (n:String)
 deriving DecidableEq
noncomputable def bc:V->Value->Prop
 | .non,u=>u=Value.none
 | .bl b,u=>u=Value.bool b
 | .int i,u=>∃t,u=Value.int i t
 | .str x,u=>∃t,u=Value.str x t
 | .byt b,u=>∃t,u=Value.bytes b t
 | .flt b,u=>∃t,u=Value.float b t
 | .ref a,u=>u=Value.ref a
 | .ty n,u=>u=Value.type n
noncomputable abbrev aU:List V->List Value->Prop:=Paired bc
theorem aU.length {xs:List V} (r:aU xs us):xs.length=us.length:=Paired.length r
theorem aU.get:∀{xs:List V} {us:ydw} {i:Nat} {x:V},aU xs us->xs[i]?=some x->∃u,us[i]?=some u/\bc x u
 | _,_,_,_,.nil,e=>by simp at e
 | _,_,0,_,.cons r _,e=>by simp at e;subst e;exact⟨_,rfl,r⟩
 | _,_,i+1,x,.cons _ t,e=>by
   obtain⟨u,h1,h2⟩:=aU.get (i:=i) (x:=x) t (by simpa using e);exact⟨u,by simpa using h1,h2⟩
theorem aU.append:∀{xs ys:List V} {us ws:ydw},aU xs us->aU ys ws->aU (xs++ys) (us++ws)
 | _,_,_,_,.nil,s=>s
 | _,_,_,_,.cons r t,s=> .cons r (aU.append t s)
theorem aU.take:∀{xs:List V} {us:ydw} (n:Nat),aU xs us->aU (xs.take n) (us.take n)
 | _,_,0,_=> .nil
 | _,_,_+1,.nil=> .nil
 | _,_,n+1,.cons r t=> .cons r (aU.take n t)
theorem aU.drop:∀{xs:List V} {us:ydw} (n:Nat),aU xs us->aU (xs.drop n) (us.drop n)
 | _,_,0,r=>r
 | _,_,_+1,.nil=> .nil
 | _,_,n+1,.cons _ t=>aU.drop n t
noncomputable def gf:Option V->Option Value->Prop
 | some v,some u=>bc v u
 | none,none=>True
 | _,_=>False
noncomputable def KV {κ:Type}:List (κ×V)->List (κ×Value)->Prop:=Paired λ(p:κ×V) (q:κ×Value)=>p.1=q.1/\bc p.2 q.2
noncomputable def kV:ax->V
 | .inl i=> .int i
 | .inr x=> .str x
inductive HO where
 | lst (xs:List V)
 | tup (xs:List V)
 | dK (kvs:List (ax×V)) | dT (kvs:List (List ax×V))
 | set (S:Int->Bool) (n:Nat)
 | ins (C dx:Addr) (fs:List (Str×V))
 | own (x:Addr)
 | xd (fs:List (Str×V))
 | met (f x:Addr)
 | rng (lo hi:Int)
 | frz (o:Obj) (u:HO)
 | tbl (ps:Array Value)
 | ext (φ:Heap->Prop)
noncomputable abbrev Hp:=Addr->Option HO
noncomputable def upd (H:Hp) (a:Addr) (o:HO):Hp:=λb=>if b=a then some o else H b
theorem aX {H:Hp} {o:HO}:upd H a o a=some o:=by unfold upd;rw[ycx rfl]
theorem aG {H:Hp} {a b:Addr} {o:HO} (h:b≠a):upd H a o b=H b:=by unfold upd;rw[ybv h]
theorem fS {H:Hp} {a b:Addr} {o u:HO} (h:H a=some o) (h':H b=some u) (d:o≠u):a≠b:=by
 intro e;subst e;rw[h] at h';exact d (Option.some.inj h')
theorem bf {H:Hp} {a b:Addr} {o:HO} (h:H a=some o) (h':H b=none):a≠b:=by
 intro e;subst e;rw[h] at h';cases h'
section
variable (P:Program) (w:World)
noncomputable def bD (H:Hp) (h:Heap) (a:Addr):HO->Prop
 | .lst xs=>xs.length<=sizeLine/\∃(its:ydw) (n:Nat),aU xs its/\h.get? a=some { cls:= .type "list",data:= .seq its.toArray n }
 | .tup xs=>xs.length<=sizeLine/\∃its:List Value,aU xs its/\IsTup h a its.toArray
 | .dK kvs=>kvs.length<=sizeLine/\(a==sysModules)=false/\∃vs,KV kvs vs/\h.DictOf (aW P w) a vs
 | .dT kvs=>kvs.length<=sizeLine/\(a==sysModules)=false/\∃xs:List (List ax×Addr×Value),
    Paired (λ(p:List ax×V) (q:List ax×Addr×Value)=>p.1=q.1/\H q.2.1=some (.tup (p.1.map kV))/\bc p.2 q.2.2) kvs xs/\
    ∃o es ep,h.get? a=some o/\o.ExactDict/\o.data=.dict es ep/\es.toList=xs.map (entryOfKey (tupleKind (aW P w)))/\(xs.map (·.1)).Nodup
 | .set S n=>h.SetOf (intKind P w) a S n
 | .ins C dx fs=>H dx=some (.own a)/\fs.length<=1000/\dx≠a/\h.get? a=some (instObj C dx)/\
    ∃mA,h.Ns1 dx mA/\(∀f,gf (fs.lookup f) (mA f))/\PySem.Within mA (fs.map (·.1))
 | .own _=>∃o,h.get? a=some o
 | .xd fs=>∃mA,h.Ns1 a mA/\∀f,gf (fs.lookup f) (mA f)
 | .rng lo hi=>∃t u v,h.get? a=some { cls:= .type "range",data:= .fields #[.int lo t,.int hi u,.int 1 v] }
 | .frz o u=>h.get? a=some o/\bD H h a u
 | .tbl ps=>h.get? a=some { cls:= .none,data:= .fields ps }
 | .met f x=>h.get? a=some (PySem.W.methodObj (.ref f) (.ref x))
 | .ext φ=>φ h/\(∃o,h.get? a=some o)/\∀h1 h2:Heap,φ h1->(∀o,h1.get? a=some o->h2.get? a=some o)->φ h2
noncomputable def fP (H:Hp) (h:Heap):Prop:=∀a o,H a=some o->bD P w H h a o
end
section
variable {P:Program} {w:World} {H H':Hp} {h h':Heap} {a:Addr} {o:HO}
theorem bD.lt (x:bD P w H h a o):a<h.objs.size:=by
 cases o with
 | lst xs=>obtain⟨_,_,_,_,e⟩:=x;exact ybx e
 | tup xs=>obtain⟨_,_,_,p⟩:=x;exact p.lt
 | dK kvs=>obtain⟨_,_,_,_,o,_,_,e,_⟩:=x;exact ybx e
 | dT kvs=>obtain⟨_,_,_,_,o,_,_,e,_⟩:=x;exact ybx e
 | set S n=>obtain⟨o,_,_,_,e,_⟩:=x;exact ybx e
 | ins C dx fs=>obtain⟨_,_,_,e,_⟩:=x;exact ybx e
 | own y=>obtain⟨_,e⟩:=x;exact ybx e
 | xd fs=>obtain⟨_,⟨_,_,_,e,_⟩,_⟩:=x;exact ybx e
 | rng lo hi=>obtain⟨_,_,_,e⟩:=x;exact ybx e
 | frz ob u=>obtain⟨e,_⟩:=x;exact ybx e
 | tbl ps=>exact ybx (show h.get? a=some _ from x)
 | met f y=>exact ybx (show h.get? a=some _ from x)
 | ext φ=>obtain⟨_,⟨_,e⟩,_⟩:=x;exact ybx e
theorem Paired.mapP {α β:Type} {F G:α->β->Prop}:∀{l₁:List α} {l₂:List β},Paired F l₁ l₂->(∀a b,F a b->G a b)->Paired G l₁ l₂
 | _,_,.nil,_=> .nil
 | _,_,.cons r t,f=> .cons (f _ _ r) (Paired.mapP t f)
theorem bD.stay (x:bD P w H h a o) (k:∀b u,(b=a∨H b=some (.own a))->h.get? b=some u->h'.get? b=some u)
 (ho:∀b,H b=some (.own a)->H' b=some (.own a)) (ht:∀b xs,H b=some (.tup xs)->H' b=some (.tup xs)):bD P w H' h' a o:=by
 induction o with
 | lst xs=>obtain⟨z,its,n,r,e⟩:=x;exact⟨z,its,n,r,k _ _ (.inl rfl) e⟩
 | tup xs=>obtain⟨z,its,r,ob,e,c⟩:=x;exact⟨z,its,r,ob,k _ _ (.inl rfl) e,c⟩
 | dK kvs=>obtain⟨z,y,vs,r,ob,es,ep,e,c⟩:=x;exact⟨z,y,vs,r,ob,es,ep,k _ _ (.inl rfl) e,c⟩
 | dT kvs=>
   obtain⟨z,y,xs,r,ob,es,ep,e,c⟩:=x;exact⟨z,y,xs,Paired.mapP r λp q z=>⟨z.1,ht _ _ z.2.1,z.2.2⟩,ob,es,ep,k _ _ (.inl rfl) e,c⟩
 | set S n=>obtain⟨ob,es,ep,t,e,c⟩:=x;exact⟨ob,es,ep,t,k _ _ (.inl rfl) e,c⟩
 | ins C dx fs=>
   obtain⟨d,z,ne,e,mA,⟨od,es,ep,e2,c⟩,r⟩:=x;exact⟨ho _ d,z,ne,k _ _ (.inl rfl) e,mA,⟨od,es,ep,k _ _ (.inr d) e2,c⟩,r⟩
 | own y=>obtain⟨ob,e⟩:=x;exact⟨ob,k _ _ (.inl rfl) e⟩
 | xd fs=>obtain⟨mA,⟨od,es,ep,e,c⟩,r⟩:=x;exact⟨mA,⟨od,es,ep,k _ _ (.inl rfl) e,c⟩,r⟩
 | rng lo hi=>obtain⟨t,u,v,e⟩:=x;exact⟨t,u,v,k _ _ (.inl rfl) e⟩
 | frz ob u ih=>obtain⟨e,q⟩:=x;exact⟨k _ _ (.inl rfl) e,ih q⟩
 | tbl ps=>
   have e:h.get? a=some { cls:= .none,data:= .fields ps }:=x;show h'.get? a=some { cls:= .none,data:= .fields ps };exact k a _ (.inl rfl) e
 | met f y=>
   have e:h.get? a=some (PySem.W.methodObj (.ref f) (.ref y)):=x;show h'.get? a=some (PySem.W.methodObj (.ref f) (.ref y));exact k a _ (.inl rfl) e
 | ext φ=>obtain⟨p,⟨o,e⟩,st⟩:=x;exact⟨st _ _ p λo q=>k _ _ (.inl rfl) q,⟨o,k _ _ (.inl rfl) e⟩,st⟩
theorem fP.lt (x:fP P w H h) (e:H a=some o):a<h.objs.size:=(x a o e).lt
theorem fP.fresh (x:fP P w H h) (e:h.objs.size<=a):H a=none:=by
 cases q:H a with
 | none=>rfl
 | some u=>exact absurd (ycv (x.lt q) e) (lt_irrefl _)
theorem fP.kept (x:fP P w H h) (k:∀b u,h.get? b=some u->h'.get? b=some u):fP P w H h':=λa o e=>
 (x a o e).stay (λb u _ q=>k b u q) (λ_ q=>q) λ_ _ q=>q
theorem fP.laid (x:fP P w H h) (k:∀b u,h.get? b=some u->h'.get? b=some u) (hp:h.objs.size<=a) (new:bD P w (upd H a o) h' a o):fP P w (upd H a o) h':=λb u e=>by
 have hn:=x.fresh hp
 by_cases hb:b=a
 ·subst hb;rw[aX] at e;cases e;exact new
 ·rw[aG hb] at e;exact(x b u e).stay (λc v _ q=>k c v q) (λc q=>by rw[aG (bf q hn)];exact q) λc xs q=>by rw[aG (bf q hn)];exact q
end
noncomputable def Rd (H:Hp) (a:Addr) (u:HO):Prop:=H a=some u∨∃o,H a=some (.frz o u)
theorem Rd.ok {H:Hp} {h:Heap} {u:HO} (r:Rd H a u) (x:fP P w H h):bD P w H h a u:=by
 rcases r with r | ⟨o,r⟩
 ·exact x a u r
 ·obtain⟨_,q⟩:=x a _ r;exact q
noncomputable def B9:Option HO->Prop
 | some (.lst _)=>True
 | some (.dK _)=>True
 | some (.dT _)=>True
 | some (.set _ _)=>True
 | some (.ins _ _ _)=>True
 | some (.ext _)=>True
 | _=>False
section
variable {P:Program} {w:World} {H:Hp} {h h':Heap} {x e:Addr} {o':HO}
theorem fP.write (ok:fP P w H h) (mu:B9 (H x)) (he:e=x∨H e=some (.own x)) (k:∀b u,b≠e->h.get? b=some u->h'.get? b=some u) (heo:∃u,h'.get? e=some u)
 (new:bD P w (upd H x o') h' x o'):fP P w (upd H x o') h':=λb u q=>by
 have nown:∀c y,H c=some (.own y)->c≠x:=λc y r z=>by subst z;rw[r] at mu;exact mu
 have ntup:∀c xs,H c=some (.tup xs)->c≠x:=λc xs r z=>by subst z;rw[r] at mu;exact mu
 by_cases hb:b=x
 ·subst hb;rw[aX] at q;cases q;exact new
 ·rw[aG hb] at q
  by_cases hbe:b=e
  ·have q':H b=some (.own x):=by
    rcases he with z | z
    ·exact absurd (hbe.trans z) hb
    ·rw[hbe];exact z
   rw[q] at q';cases q';obtain⟨v,hv⟩:=heo;exact⟨v,by rw[hbe];exact hv⟩
  ·refine(ok b u q).stay (λc v hc r=>k c v ?_ r) (λc r=>by rw[aG (nown c b r)];exact r) λc xs r=>by rw[aG (ntup c xs r)];exact r
   rcases hc with rfl | hc
   ·exact hbe
   ·rintro rfl;rcases he with z | z
    ·exact nown c b hc z
    ·rw[hc] at z;cases z;exact hb rfl
end
structure Un (fs ex:List Addr) (H H':Hp) (h h':Heap):Prop where
 keep:∀b o,h.get? b=some o->H b=none->b∉fs->b∉ex->h'.get? b=some o
 slot:∀b o,h.get? b=some o->H b=none->b∈fs->b∉ex->∃sl,h'.get? b=some { o with slots:=sl }
 free:∀b o,h.get? b=some o->H b=none->b∉ex->H' b=none
 there:∀b o,h.get? b=some o->b∉ex->∃o',h'.get? b=some o'
 tups:∀b xs,H b=some (.tup xs)->H' b=some (.tup xs)
 frzs:∀b o u,H b=some (.frz o u)->H' b=some (.frz o u)
 tbls:∀b ps,H b=some (.tbl ps)->∃more,H' b=some (.tbl (ps++more))
section
variable {fs fs' ex ex':List Addr} {H H1 H2:Hp} {h h1 h2 h':Heap} {a x e:Addr} {o:HO}
theorem Un.any (u:Un fs ex H H1 h h1) {b:Addr} {ob:Obj} (q:h.get? b=some ob) (n:H b=none) (hx:b∉ex):∃sl,h1.get? b=some { ob with slots:=sl }:=by
 by_cases hb:b∈fs
 ·exact u.slot b ob q n hb hx
 ·exact⟨ob.slots,u.keep b ob q n hb hx⟩
theorem Un.kept (k:∀b u,h.get? b=some u->h'.get? b=some u):Un fs ex H H h h':=
 ⟨λb ob q _ _ _=>k b ob q,λb ob q _ _ _=>⟨ob.slots,k b ob q⟩,λ_ _ _ n _=>n,λb ob q _=>⟨ob,k b ob q⟩,λ_ _ q=>q,λ_ _ _ q=>q,λ_ ps q=>⟨#[],by rw[q];simp⟩⟩
theorem Un.refl:Un fs ex H H h h:=Un.kept λ_ _ q=>q
theorem Un.laid (k:∀b u,h.get? b=some u->h'.get? b=some u) (hp:h.objs.size<=a) (hn:H a=none):Un fs ex H (upd H a o) h h' where
 keep:=λb u q _ _ _=>k b u q
 slot:=λb u q _ _ _=>⟨u.slots,k b u q⟩
 free:=λb u q n _=>by rw[aG (ne_of_lt (ycv (ybx q) hp))];exact n
 there:=λb u q _=>⟨u,k b u q⟩
 tups:=λb xs q=>by rw[aG (bf q hn)];exact q
 frzs:=λb u xs q=>by rw[aG (bf q hn)];exact q
 tbls:=λb ps q=>⟨#[],by rw[aG (bf q hn),q];simp⟩
theorem Un.write (mu:B9 (H x)) (he:e=x∨H e=some (.own x)) (k:∀b u,b≠e->h.get? b=some u->h'.get? b=some u) (heo:∃u,h'.get? e=some u):Un fs ex H (upd H x o) h h':=by
 have hx:∀b,H b=none->b≠x:=λb n z=>by subst z;rw[n] at mu;exact mu
 have hb:∀b,H b=none->b≠e:=λb n z=>by
  subst z;rcases he with r | r
  ·exact hx b n r
  ·rw[n] at r;cases r
 have hm:∀b u,H b=some u->¬B9 (some u)->b≠x:=λb u q nm z=>by subst z;rw[q] at mu;exact nm mu
 refine⟨λb u q n _ _=>k b u (hb b n) q,λb u q n _ _=>⟨u.slots,k b u (hb b n) q⟩,λb u q n _=>by rw[aG (hx b n)];exact n,λb u q _=>?_,
  λb xs q=>by rw[aG (hm b _ q λz=>z)];exact q,λb u xs q=>by rw[aG (hm b _ q λz=>z)];exact q,λb ps q=>⟨#[],by rw[aG (hm b _ q λz=>z),q];simp⟩⟩
 by_cases hbe:b=e
 ·subst hbe;exact heo
 ·exact⟨u,k b u hbe q⟩
end
noncomputable def Ep (h:Heap) (H:Hp):List Addr:=(List.range h.objs.size).filter λa=>(H a).isSome
noncomputable def lN (h:Heap) (H:Hp):Heap:=hideAll h (Ep h H)
theorem rM (h:Heap) (H:Hp):(lN h H).objs.size=h.objs.size:=PySem.W.hideAll_size _ _
theorem sX {h:Heap} {H:Hp} {b:Addr} {o:Obj} (e:h.get? b=some o) (n:H b=none):(lN h H).get? b=some o:=
 hideAll_get _ e λhm=>by
  have q:(H b).isSome=true:=(mem_filter.mp hm).2;rw[n] at q;simp at q
theorem wH {h:Heap} {H:Hp} {b:Addr} {o:Obj} (e:(lN h H).get? b=some o):h.get? b=some o/\H b=none:=by
 have e':h.get? b=some o:=of_hideAll (Ep h H) e;refine⟨e',?_⟩;cases q:H b with
 | none=>rfl
 | some x=>
   have hm:b∈Ep h H:=mem_filter.mpr ⟨List.mem_range.mpr (ybx e'),by simp[q]⟩;have z:(lN h H).get? b=none:=hideAll_none (Ep h H) hm;rw[z] at e;cases e
noncomputable def wI (g h:Heap) (L:Addr):List (Addr×Obj):=(List.range h.objs.size).filterMap λa=>if a=L∨(g.get? a).isSome=true then none else (h.get? a).map λo=>(a,o)
noncomputable def bt (g h:Heap) (L d:Addr):List (Addr×Obj):=(wI g h L).filter λp=>decide (p.1≠d)
structure Mod (K:yax) (mg:ydv) (base:Heap):Prop where
 kin:K.In base
 glob:base.Ns mainGlobals mg
 blt:∃mb,base.Ns builtinsNs mb/\∀x:Str,x≠"__name__"->mb x=bootBuiltins x
 nolimit:base.NoLimit
structure Cx where
 prog:Program
 w:World
 K:yax
 mg:Str->Option Value
 base:Heap
 A:Around
 N:List Str
 s₀:Shared
 H₀:Hp
 env:Env
 outer:List Env
 stack:List Env
 ex:List Addr
 fn:Str->Bool
 calm:Bool
 pn:List (Addr×Obj)
 xe:Value->Shared->Prop
noncomputable def eJ (l:List Env):List Addr:=l.filterMap (·.frame)
noncomputable abbrev Cx.fs (X:Cx):List Addr:=eJ X.outer
noncomputable def B8 (sc:Scope) (x:Str):Prop:=sc.names.lookup x=some .local∨sc.names.lookup x=some .cell∨sc.names.lookup x=some .free
noncomputable def wA (sc:Scope) (x:Str):Prop:=sc.names.lookup x=some .local∨sc.names.lookup x=some .cell
noncomputable def EF (env:Env) (h:Heap) (m:ydv) (x:Str) (u:Value):Prop:=
 (env.kindOf x=some .local/\m x=some u)∨((env.kindOf x=some .cell∨env.kindOf x=some .free)/\∃c,env.cells.lookup x=some c/\h.IsCell c (some u))
structure Cx.Ok (X:Cx):Prop where
 mod:Mod X.K X.mg X.base
 kind:X.env.scope.kind=.function
 glob:X.env.globals=mainGlobals
 blt:X.env.builtins=builtinsNs
 above:X.s₀.heap.objs.size<=X.env.locals
 inj:∀x y c,X.env.cells.lookup x=some c->X.env.cells.lookup y=some c->x=y
 has:∀x,(X.env.kindOf x=some .cell∨X.env.kindOf x=some .free)->∃c,X.env.cells.lookup x=some c
 cab:∀x c,X.fn x=true->X.env.cells.lookup x=some c->X.s₀.heap.objs.size<=c
 hd:X.calm=true->X.A.handled=none
 frames:X.A.frames=some X.stack
 stk:X.stack=X.outer∨(X.stack=X.env::X.outer/\X.env.frame=some X.env.locals)
 exf:∀b∈X.ex,b≠X.env.locals/\∀x c,X.env.cells.lookup x=some c->c≠b
 bs:∀b o,X.base.get? b=some o->X.s₀.heap.get? b=some o/\X.H₀ b=none
 bsz:X.base.objs.size<=X.s₀.heap.objs.size
 noex:∀b o,X.base.get? b=some o->b∉X.ex
 exfs:∀b∈X.ex,b∉X.fs
 funs:X.s₀.heap.FunFrames X.base X.outer
 frf:∀b∈X.fs,X.H₀ b=none
structure aB (X:Cx) (π:List (Addr×Obj)) (σ:List (Option V)) (H:Hp) (s:Shared):Prop where
 ok:X.Ok
 os:s.os=X.s₀.os
 bare:AllBare s.gens
 base:Un X.fs X.ex X.H₀ H X.s₀.heap s.heap
 loc:∃m,s.heap.Ns X.env.locals m/\∀(i:Nat) (x:Str) (v:V),X.N[i]?=some x->σ[i]?=some (some v)->B8 X.env.scope x->∃u,bc v u/\EF X.env s.heap m x u
 cell:∀x c,X.env.cells.lookup x=some c->∃v,s.heap.IsCell c v
 free:H X.env.locals=none
 freeC:∀x c,X.env.cells.lookup x=some c->H c=none
 pin:∀p∈X.pn++π,s.heap.get? p.1=some p.2/\H p.1=none/\p.1≠X.env.locals/\p.1∉X.fs/\∀v,p.2.data≠ .cell v
 hok:fP X.prog X.w H s.heap
 len:σ.length=X.N.length
section
variable {X:Cx} {π:List (Addr×Obj)} {σ:List (Option V)} {H H':Hp} {s:Shared} {h':Heap}
theorem Cx.Ok.nofr (ok:X.Ok) {b:Addr} {o:Obj} (e:X.base.get? b=some o):b∉X.fs:=λhb=>by
 have:=(ok.funs.mem hb).1;rw[e] at this;cases this
theorem aB.bs (I:aB X π σ H s):∀b o,X.base.get? b=some o->s.heap.get? b=some o/\H b=none:=λb o e=>
 ⟨I.base.keep b o (I.ok.bs b o e).1 (I.ok.bs b o e).2 (I.ok.nofr e) (I.ok.noex b o e),I.base.free b o (I.ok.bs b o e).1 (I.ok.bs b o e).2 (I.ok.noex b o e)⟩
theorem aB.bk (I:aB X π σ H s):∀b o,X.base.get? b=some o->s.heap.get? b=some o:=λb o e=>(I.bs b o e).1
theorem aB.mod (I:aB X π σ H s):Mod X.K X.mg X.base:=I.ok.mod
theorem aB.kIn (I:aB X π σ H s):X.K.In s.heap:=I.ok.mod.kin.keeps I.bk
theorem aB.lt (I:aB X π σ H s):X.env.locals<s.heap.objs.size:=let ⟨_,hn,_⟩:=I.loc;hn.lt
theorem aB.sz (I:aB X π σ H s):X.s₀.heap.objs.size<=s.heap.objs.size:=ybz I.ok.above (Nat.le_of_lt I.lt)
theorem aB.nofs (I:aB X π σ H s) (h:s.heap.objs.size<=a):a∉X.fs:=λhb=>by
 obtain⟨_,o,ho,_⟩:=I.ok.funs.mem hb;exact absurd (ycv (ybx ho) (ybz I.sz h)) (lt_irrefl _)
theorem aB.cne (I:aB X π σ H s):∀x c,X.env.cells.lookup x=some c->c≠X.env.locals:=λx c e z=>by
 obtain⟨v,o,ho,hd⟩:=I.cell x c e;obtain⟨m,⟨o',es,ep,ho',hd',_⟩,_⟩:=I.loc;rw[z,ho'] at ho;cases ho;rw[hd'] at hd;cases hd
theorem aB.funs (I:aB X π σ H s):s.heap.FunFrames X.base X.outer:=by
 have all:∀(l:List Env),(∀b∈eJ l,b∈X.fs)->X.s₀.heap.FunFrames X.base l->s.heap.FunFrames X.base l:=by
  intro l
  induction l with
  | nil=>intro _ _;trivial
  | cons env r ih=>
    intro hs hl;obtain⟨hk,⟨L,o,hf,hn,ho,hd⟩,hr⟩:=hl;have hL:L∈X.fs:=hs L (by unfold eJ;rw[filterMap_cons,hf];exact yaz);obtain⟨sl,e⟩:=I.base.slot L o ho (I.ok.frf L hL) hL λz=>I.ok.exfs L z hL;exact⟨hk,⟨L,_,hf,hn,e,hd⟩,ih (λb hb=>hs b (by unfold eJ;rw[filterMap_cons,hf];exact yay _ hb)) hr⟩
 exact all X.outer (λ_ hb=>hb) I.ok.funs
theorem aB.stack (I:aB X π σ H s):s.heap.FunFrames X.base X.stack:=by
 rcases I.ok.stk with e | ⟨e,hf⟩
 ·rw[e];exact I.funs
 ·rw[e];obtain⟨m,hn,_⟩:=I.loc;refine .cons (by rw[I.ok.kind];decide) hf hn ?_ I.funs;exact Heap.get?_none_of_le (ybz I.ok.bsz I.ok.above)
theorem aB.stkSub (I:aB X π σ H s):∀b∈eJ X.stack,b∈X.env.locals::X.fs:=λb hb=>by
 rcases I.ok.stk with e | ⟨e,hf⟩
 ·rw[e] at hb;exact yay _ hb
 ·rw[e] at hb;unfold eJ at hb;rw[filterMap_cons,hf] at hb;exact hb
theorem aB.stkFree (I:aB X π σ H s):∀b∈eJ X.stack,H b=none:=λb hb=>by
 rcases mem_cons.mp (I.stkSub b hb) with e | hb
 ·rw[e];exact I.free
 ·obtain⟨_,o,ho,_⟩:=I.ok.funs.mem hb;exact I.base.free b o ho (I.ok.frf b hb) λz=>I.ok.exfs b z hb
theorem aB.step {g':Array GenState} {t':Nat} {d':Drawn} {ch:List Addr} (I:aB X π σ H s)
 (hch:∀b∈ch,(b∈X.ex∨X.s₀.heap.objs.size<=b)/\b≠X.env.locals/\(∀x c,X.env.cells.lookup x=some c->c≠b)/\∀p∈X.pn++π,p.1≠b)
 (keep:∀b o,b≠X.env.locals->b∉X.fs->b∉ch->s.heap.get? b=some o->H b=none->h'.get? b=some o)
 (slot:∀b o,b≠X.env.locals->b∈X.fs->b∉ch->s.heap.get? b=some o->H b=none->∃sl,h'.get? b=some { o with slots:=sl }) (free:∀b o,b∉ch->s.heap.get? b=some o->H b=none->H' b=none)
 (there:∀b o,b∉ch->s.heap.get? b=some o->∃o',h'.get? b=some o')
 (tups:∀b xs,H b=some (.tup xs)->H' b=some (.tup xs)) (frzs:∀b o u,H b=some (.frz o u)->H' b=some (.frz o u)) (tbls:∀b ps,H b=some (.tbl ps)->∃more,H' b=some (.tbl (ps++more)))
 (ns:∀m,s.heap.Ns X.env.locals m->h'.Ns X.env.locals m) (hok:fP X.prog X.w H' h') (hg:AllBare g'):
 aB X π σ H' { s with heap:=h',gens:=g',drawn:=d',toks:=t' }:=by
 have neL:∀b o,X.s₀.heap.get? b=some o->b≠X.env.locals:=λb o e=>ne_of_lt (ycv (ybx e) I.ok.above);have neC:∀b o,X.s₀.heap.get? b=some o->b∉X.ex->b∉ch:=λb o e hx hb=>by
  rcases(hch b hb).1 with z | z
  ·exact hx z
  ·exact absurd (ycv (ybx e) z) (lt_irrefl _)
 have cellK:∀x c,X.env.cells.lookup x=some c->∀v,s.heap.IsCell c v->h'.IsCell c v:=λx c e v ⟨o,ho,hd⟩=>by
  have nch:c∉ch:=λz=>(hch c z).2.2.1 x c e rfl
  by_cases hc:c∈X.fs
  ·obtain⟨sl,q⟩:=slot c o (I.cne x c e) hc nch ho (I.freeC x c e);exact⟨_,q,hd⟩
  ·exact⟨o,keep c o (I.cne x c e) hc nch ho (I.freeC x c e),hd⟩
 refine⟨I.ok,I.os,hg,⟨λb o e n hb hx=>?_,λb o e n hb hx=>?_,λb o e n hx=>?_,λb o e hx=>?_,λb xs e=>tups b xs (I.base.tups b xs e),λb o xs e=>frzs b o xs (I.base.frzs b o xs e),λb ps e=>?_⟩,?_,λx c e=>?_,?_,λx c e=>?_,λp hp=>?_,hok,I.len⟩
 ·exact keep b o (neL b o e) hb (neC b o e hx) (I.base.keep b o e n hb hx) (I.base.free b o e n hx)
 ·obtain⟨sl,e1⟩:=I.base.slot b o e n hb hx;obtain⟨sl',e2⟩:=slot b _ (neL b o e) hb (neC b o e hx) e1 (I.base.free b o e n hx);exact⟨sl',e2⟩
 ·obtain⟨o',e1⟩:=I.base.there b o e hx;exact free b o' (neC b o e hx) e1 (I.base.free b o e n hx)
 ·obtain⟨o',e1⟩:=I.base.there b o e hx;exact there b o' (neC b o e hx) e1
 ·obtain⟨m1,e1⟩:=I.base.tbls b ps e;obtain⟨m2,e2⟩:=tbls b _ e1;exact⟨m1++m2,by rw[e2,Array.append_assoc]⟩
 ·obtain⟨m,hn,hl⟩:=I.loc;refine⟨m,ns m hn,λi x v e1 e2 e3=>?_⟩;obtain⟨u,r,l⟩:=hl i x v e1 e2 e3;refine⟨u,r,?_⟩;rcases l with l | ⟨k,c,e,z⟩
  ·exact .inl l
  ·exact .inr ⟨k,c,e,cellK x c e _ z⟩
 ·obtain⟨v,z⟩:=I.cell x c e;exact⟨v,cellK x c e v z⟩
 ·obtain⟨m,⟨o,_,_,ho,_⟩,_⟩:=I.loc;exact free _ o (λz=>(hch _ z).2.1 rfl) ho I.free
 ·obtain⟨v,o,ho,hd⟩:=I.cell x c e;exact free c o (λz=>(hch c z).2.2.1 x c e rfl) ho (I.freeC x c e)
 ·obtain⟨e,n,ne,nf,d⟩:=I.pin p hp;have nch:p.1∉ch:=λz=>(hch p.1 z).2.2.2 p hp rfl;exact⟨keep p.1 p.2 ne nf nch e n,free p.1 p.2 nch e n,ne,nf,d⟩
theorem aB.un {t':Nat} (I:aB X π σ H s) (u:Un X.fs [] H H' s.heap h') (hok:fP X.prog X.w H' h'):aB X π σ H' { s with heap:=h',toks:=t' }:=by
 obtain⟨m,⟨o,es,ep,ho,r⟩,_⟩:=id I.loc;obtain⟨sl,hL⟩:=u.any ho I.free (by simp);exact I.step (g':=s.gens) (d':=s.drawn) (ch:=[]) (λ_ z=>nomatch z) (λb o _ hb _ e n=>u.keep b o e n hb (by simp)) (λb o _ hb _ e n=>u.slot b o e n hb (by simp)) (λb o _ e n=>u.free b o e n (by simp)) (λb o _ e=>u.there b o e (by simp)) u.tups u.frzs u.tbls (λm' hm=>by
  obtain⟨o',es',ep',ho',r'⟩:=hm;rw[ho] at ho';cases ho';exact⟨_,es',ep',hL,r'⟩) hok I.bare
theorem aB.call {g':Array GenState} {t':Nat} {d':Drawn} {ch:List Addr} (I:aB X π σ H s) (u:Un (eJ X.stack) ch H H' s.heap h') (hok:fP X.prog X.w H' h') (hg:AllBare g')
 (hch:∀b∈ch,(b∈X.ex∨X.s₀.heap.objs.size<=b)/\b≠X.env.locals/\(∀x c,X.env.cells.lookup x=some c->c≠b)/\∀p∈X.pn++π,p.1≠b):
 aB X π σ H' { s with heap:=h',gens:=g',drawn:=d',toks:=t' }:=by
 obtain⟨m,⟨o,es,ep,ho,r⟩,_⟩:=id I.loc;obtain⟨sl,hL⟩:=u.any ho I.free λz=>(hch _ z).2.1 rfl;exact I.step (ch:=ch) hch (λb o hL hb hc e n=>u.keep b o e n (λz=>(mem_cons.mp (I.stkSub b z)).elim hL hb) hc) (λb o _ _ hc e n=>u.any e n hc) (λb o hc e n=>u.free b o e n hc) (λb o hc e=>u.there b o e hc) u.tups u.frzs u.tbls (λm' hm=>by
  obtain⟨o',es',ep',ho',r'⟩:=hm;rw[ho] at ho';cases ho';exact⟨_,es',ep',hL,r'⟩) hok hg
theorem aB.turned {t':Nat} {it:Addr} (I:aB X π σ H s) (k:∀b o,b≠it->s.heap.get? b=some o->h'.get? b=some o) (hn:H it=none) (hL:it≠X.env.locals)
 (h1:it∈X.ex∨X.s₀.heap.objs.size<=it) (h2:∀x c,X.env.cells.lookup x=some c->c≠it) (h3:∀p∈X.pn++π,p.1≠it):aB X π σ H { s with heap:=h',toks:=t' }:=by
 have nit:∀b u,H b=some u->b≠it:=λb u e z=>by rw[z,hn] at e;cases e
 refine I.step (g':=s.gens) (d':=s.drawn) (ch:=[it]) (λb hb=>?_) (λb o _ _ hc e _=>k b o (λz=>hc (by simp[z])) e) (λb o _ _ hc e _=>⟨o.slots,k b o (λz=>hc (by simp[z])) e⟩) (λ_ _ _ _ n=>n)
  (λb o hc e=>⟨o,k b o (λz=>hc (by simp[z])) e⟩) (λ_ _ e=>e) (λ_ _ _ e=>e) (λb ps e=>⟨#[],by rw[e];simp⟩) (λm hm=>?_) (λb u e=>?_) I.bare
 ·have e:b=it:=by simpa using hb
  subst e;exact⟨h1,hL,h2,h3⟩
 ·obtain⟨o,es,ep,ho,r⟩:=hm;exact⟨o,es,ep,k _ o (Ne.symm hL) ho,r⟩
 ·refine(I.hok b u e).stay (λc v hc q=>k c v ?_ q) (λ_ q=>q) λ_ _ q=>q;rcases hc with z | z
  ·rw[z];exact nit b u e
  ·exact nit c _ z
theorem aB.tok (I:aB X π σ H s) (t:Nat):aB X π σ H { s with toks:=t }:=I.un (h':=s.heap) (t':=t) Un.refl I.hok
theorem aB.kept {t':Nat} (I:aB X π σ H s) (k:∀b u,s.heap.get? b=some u->h'.get? b=some u):aB X π σ H { s with heap:=h',toks:=t' }:=I.un (Un.kept k) (I.hok.kept k)
theorem aB.laid {o:HO} {t':Nat} (I:aB X π σ H s) (k:∀b u,s.heap.get? b=some u->h'.get? b=some u) (hp:s.heap.objs.size<=a) (new:bD X.prog X.w (upd H a o) h' a o):
 aB X π σ (upd H a o) { s with heap:=h',toks:=t' }:=I.un (Un.laid k hp (I.hok.fresh hp)) (I.hok.laid k hp new)
theorem aB.write {x e:Addr} {o:HO} {t':Nat} (I:aB X π σ H s) (mu:B9 (H x)) (he:e=x∨H e=some (.own x)) (k:∀b u,b≠e->s.heap.get? b=some u->h'.get? b=some u) (heo:∃u,h'.get? e=some u)
 (new:bD X.prog X.w (upd H x o) h' x o):aB X π σ (upd H x o) { s with heap:=h',toks:=t' }:=I.un (Un.write mu he k heo) (I.hok.write mu he k heo new)
theorem aB.pins_of {pins':List (Addr×Obj)} (I:aB X π σ H s) (h:∀p∈pins',s.heap.get? p.1=some p.2/\H p.1=none/\p.1≠X.env.locals/\p.1∉X.fs/\∀v,p.2.data≠ .cell v):aB X pins' σ H s:=
 ⟨I.ok,I.os,I.bare,I.base,I.loc,I.cell,I.free,I.freeC,λp hp=>(mem_append.mp hp).elim (λz=>I.pin p (mem_append_left _ z)) (h p),I.hok,I.len⟩
theorem mY {N:List Str} (hN:N.Nodup) {i j:Nat} (a:N[i]?=some x) (b:N[j]?=some x):i=j:=by
 obtain⟨h1,e1⟩:=List.getElem?_eq_some_iff.mp a;obtain⟨h2,e2⟩:=List.getElem?_eq_some_iff.mp b;exact(List.getElem_inj hN).mp (e1.trans e2.symm)
theorem iw {M:Model} {v:V} {Q:Unit->Shared->Prop} (I:aB X π σ H s) (hN:X.N.Nodup) (hi:X.N[i]?=some x) (hx:wA X.env.scope x) (r:bc v u)
 (h:∀s',aB X π (σ.set i (some v)) H s'->(∃a,Heap.SameBut a s.heap s'.heap/\(a=X.env.locals∨X.env.cells.lookup x=some a))->Q () s') (hf:X.fn x=true∨X.env.scope.names.lookup x=some .local:=by first | exact .inl rfl | exact .inr rfl | assumption):wpAny M A (storeName X.env x u) Q E s:=by
 obtain⟨m,hn,hl⟩:=id I.loc;have hcls:(X.env.scope.kind== .class||(X.env.scope.kind== .module&&X.env.locals !=X.env.globals))=false:=by rw[I.ok.kind];rfl
 have hiσ:i<σ.length:=by rw[I.len];exact(List.getElem?_eq_some_iff.mp hi).1
 have cne:=I.cne;have tracked:∀{a:Addr} {h':Heap},(∃o,s.heap.get? a=some o/\H a=none)->Heap.SameBut a s.heap h'->fP X.prog X.w H h':=λ{a h'} ha hs b ob e=>by
  obtain⟨_,_,hfree⟩:=ha;refine(I.hok b ob e).stay (λc w' hc q=>(hs.2 c ?_).trans q) (λ_ q=>q) λ_ _ q=>q;rintro rfl;rcases hc with rfl | hc
  ·rw[hfree] at e;cases e
  ·rw[hfree] at hc;cases hc
 rcases hx with hk | hk
 ·refine wpAny_storeName_local hk hn (λh' hn' hs=>?_) hcls;obtain⟨oL,_,_,hoL,_⟩:=id hn;refine h _ ⟨I.ok,I.os,I.bare,⟨λb o e n hb hx=>?_,λb o e n hb hx=>?_,I.base.free,λb o e hx=>?_,I.base.tups,I.base.frzs,I.base.tbls⟩,⟨_,hn',λj y v' e1 e2 e3=>?_⟩,λy c e=>?_,I.free,I.freeC,λp hp=>?_,tracked ⟨oL,hoL,I.free⟩ hs,by simpa using I.len⟩ ⟨_,hs,.inl rfl⟩
  ·exact(hs.2 b (ne_of_lt (ycv (ybx e) I.ok.above))).trans (I.base.keep b o e n hb hx)
  ·obtain⟨sl,e1⟩:=I.base.slot b o e n hb hx;exact⟨sl,(hs.2 b (ne_of_lt (ycv (ybx e) I.ok.above))).trans e1⟩
  ·obtain⟨o',e1⟩:=I.base.there b o e hx;exact⟨o',(hs.2 b (ne_of_lt (ycv (ybx e) I.ok.above))).trans e1⟩
  ·by_cases hj:j=i
   ·subst hj;rw[hi] at e1;cases e1;rw[List.getElem?_set_self hiσ] at e2;cases e2;exact⟨u,r,.inl ⟨hk,by simp⟩⟩
   ·rw[List.getElem?_set_ne (Ne.symm hj)] at e2;obtain⟨u',r',q⟩:=hl j y v' e1 e2 e3;refine⟨u',r',?_⟩;rcases q with⟨k,e⟩ | ⟨k,c,e,z⟩
    ·refine .inl ⟨k,?_⟩;have:y≠x:=λe=>hj (mY hN e1 (e▸hi));simp[this,e]
    ·exact .inr ⟨k,c,e,z.sameBut hs (cne y c e)⟩
  ·obtain⟨w',z⟩:=I.cell y c e;exact⟨w',z.sameBut hs (cne y c e)⟩
  ·obtain⟨e,n,ne,nf,d⟩:=I.pin p hp;exact⟨(hs.2 p.1 ne).trans e,n,ne,nf,d⟩
 ·have hfn:X.fn x=true:=by
   rcases hf with z | z
   ·exact z
   ·rw[z] at hk;cases hk
  obtain⟨c,hc⟩:=I.ok.has x (.inl hk);obtain⟨w',z⟩:=I.cell x c hc;refine wpAny_storeName_cell I.ok.kind hk hc z (λh' hc' hs=>?_);obtain⟨oc,hoc,hocd⟩:=id z;refine h { s with heap:=h' } ⟨I.ok,I.os,I.bare,⟨λb o e n hb hx=>?_,λb o e n hb hx=>?_,I.base.free,λb o e hx=>?_,I.base.tups,I.base.frzs,I.base.tbls⟩,⟨m,hn.sameBut hs (Ne.symm (cne x c hc)),λj y v' e1 e2 e3=>?_⟩,λy c' e=>?_,I.free,I.freeC,λp hp=>?_,tracked ⟨oc,hoc,I.freeC x c hc⟩ hs,by simpa using I.len⟩ ⟨c,hs,.inr hc⟩
  ·exact(hs.2 b (ne_of_lt (ycv (ybx e) (I.ok.cab x c hfn hc)))).trans (I.base.keep b o e n hb hx)
  ·obtain⟨sl,e1⟩:=I.base.slot b o e n hb hx;exact⟨sl,(hs.2 b (ne_of_lt (ycv (ybx e) (I.ok.cab x c hfn hc)))).trans e1⟩
  ·obtain⟨o',e1⟩:=I.base.there b o e hx;exact⟨o',(hs.2 b (ne_of_lt (ycv (ybx e) (I.ok.cab x c hfn hc)))).trans e1⟩
  ·by_cases hj:j=i
   ·subst hj;rw[hi] at e1;cases e1;rw[List.getElem?_set_self hiσ] at e2;cases e2;exact⟨u,r,.inr ⟨.inl hk,c,hc,hc'⟩⟩
   ·rw[List.getElem?_set_ne (Ne.symm hj)] at e2;obtain⟨u',r',q⟩:=hl j y v' e1 e2 e3;refine⟨u',r',?_⟩;rcases q with q | ⟨k,c',e,z'⟩
    ·exact .inl q
    ·refine .inr ⟨k,c',e,z'.sameBut hs ?_⟩;rintro rfl;exact hj (mY hN e1 (I.ok.inj _ _ _ e hc▸hi))
  ·by_cases hcc:c'=c
   ·subst hcc;exact⟨_,hc'⟩
   ·obtain⟨w2,z2⟩:=I.cell y c' e;exact⟨w2,z2.sameBut hs hcc⟩
  ·obtain⟨e,n,ne,nf,d⟩:=I.pin p hp;refine⟨(hs.2 p.1 ?_).trans e,n,ne,nf,d⟩;intro q;rw[q,hoc] at e;have q':oc=p.2:=Option.some.inj e;exact d w' (by rw[←q'];exact hocd)
theorem jz {M:Model} {v:V} {Q:Unit->Shared->Prop} (I:aB X π σ H s) (hN:X.N.Nodup) (hi:X.N[i]?=some x) (hx:wA X.env.scope x) (r:bc v u)
 (h:∀s',aB X π (σ.set i (some v)) H s'->Q () s') (hf:X.fn x=true∨X.env.scope.names.lookup x=some .local:=by first | exact .inl rfl | exact .inr rfl | assumption):wpAny M A (storeName X.env x u) Q E s:=
 iw I hN hi hx r (λs' I' _=>h s' I') hf
theorem aB.call' {s':Shared} {ch:List Addr} (I:aB X π σ H s) (ho:s'.os=s.os) (u:Un (eJ X.stack) ch H H' s.heap s'.heap) (hok:fP X.prog X.w H' s'.heap) (hg:AllBare s'.gens)
 (hch:∀b∈ch,(b∈X.ex∨X.s₀.heap.objs.size<=b)/\b≠X.env.locals/\(∀x c,X.env.cells.lookup x=some c->c≠b)/\∀p∈X.pn++π,p.1≠b):aB X π σ H' s':=by
 obtain⟨h',g',d',t',o'⟩:=s';have e:o'=s.os:=ho;subst e;exact I.call (g':=g') (t':=t') (d':=d') u hok hg hch
end
noncomputable abbrev XK:=Value->Option Addr->Hp->Prop
noncomputable abbrev St:=List (Option V)
noncomputable abbrev VK:=V->Hp->Prop
noncomputable abbrev TE:=St->Hp->VK->Prop
noncomputable abbrev TT:=St->Hp->(Bool->Hp->Prop)->Prop
noncomputable abbrev TA:=St->Hp->(List V->Hp->Prop)->Prop
structure fQ where
 nx:St->Hp->Prop
 rt:VK
 bk:St->Hp->Prop:=λ_ _=>False
 ct:St->Hp->Prop:=λ_ _=>False
noncomputable abbrev TS:=fQ->St->Hp->Prop
noncomputable def EP (X:Cx) (π:List (Addr×Obj)) (σ:St) (Q:VK) (u:Value) (s':Shared):Prop:=∃v H',aB X π σ H' s'/\bc v u/\Q v H'
noncomputable def TP (X:Cx) (π:List (Addr×Obj)) (σ:St) (Q:Bool->Hp->Prop) (b:Bool) (s':Shared):Prop:=∃H',aB X π σ H' s'/\Q b H'
noncomputable def AP (X:Cx) (π:List (Addr×Obj)) (σ:St) (Q:List V->Hp->Prop) (us:ydw) (s':Shared):Prop:=∃vs H',aB X π σ H' s'/\aU vs us/\Q vs H'
noncomputable def SP (X:Cx) (π:List (Addr×Obj)) (D:fQ) (f:Flow) (s':Shared):Prop:=
 match f with
 | .next=>∃σ' H',aB X π σ' H' s'/\D.nx σ' H'
 | .brk=>∃σ' H',aB X π σ' H' s'/\D.bk σ' H'
 | .cont=>∃σ' H',aB X π σ' H' s'/\D.ct σ' H'
 | .ret u=>∃v σ' H',aB X π σ' H' s'/\bc v u/\D.rt v H'
noncomputable def PE (X:Cx) (e:Expr) (t:TE):Prop:=
 ∀(π:List (Addr×Obj)) (s:Shared) (σ:St) (H:Hp) (Q:VK),aB X π σ H s->t σ H Q->wpAny (model X.prog X.w) X.A (eval e X.env) (EP X π σ Q) X.xe s
noncomputable def PT (X:Cx) (e:Expr) (t:TT):Prop:=
 ∀(π:List (Addr×Obj)) (s:Shared) (σ:St) (H:Hp) (Q:Bool->Hp->Prop),aB X π σ H s->t σ H Q->wpAny (model X.prog X.w) X.A (isTrue e X.env (eval e X.env)) (TP X π σ Q) X.xe s
noncomputable def PW (X:Cx) (e:Expr) (t:TT):Prop:=
 ∀(whole:Sem Value) (π:List (Addr×Obj)) (s:Shared) (σ:St) (H:Hp) (Q:Bool->Hp->Prop),aB X π σ H s->t σ H Q->wpAny (model X.prog X.w) X.A (isTrue e X.env whole) (TP X π σ Q) X.xe s
theorem PW.pt {X:Cx} {t:TT} (h:PW X e t):PT X e t:=h _
noncomputable def PA (X:Cx) (es:List Expr) (t:TA):Prop:=
 ∀(pos:Pos) (π:List (Addr×Obj)) (s:Shared) (σ:St) (H:Hp) (Q:List V->Hp->Prop),aB X π σ H s->t σ H Q->wpAny (model X.prog X.w) X.A (spliced (backTo pos (starEach es X.env))) (AP X π σ Q) X.xe s
noncomputable def PS (X:Cx) (st:Stmt) (t:TS):Prop:=
 ∀(π:List (Addr×Obj)) (s:Shared) (σ:St) (H:Hp) (D:fQ),aB X π σ H s->t D σ H->wpAny (model X.prog X.w) X.A (exec st X.env) (SP X π D) X.xe s
noncomputable def mV (X:Cx) (st:List Stmt) (t:TS):Prop:=
 ∀(π:List (Addr×Obj)) (s:Shared) (σ:St) (H:Hp) (D:fQ),aB X π σ H s->t D σ H->wpAny (model X.prog X.w) X.A (execs st X.env) (SP X π D) X.xe s
theorem bR {α:Type} {t:Sem α} {Q Q':α->Shared->Prop} {M:Model} (h:wpAny M A t Q E s) (hQ:∀a s,Q a s->Q' a s):wpAny M A t Q' E s:=wpAny_mono h hQ λ_ _ x=>x
section
variable {X:Cx}
noncomputable def Cb (i:Nat):TE:=λσ H Q=>∃v,σ[i]?=some (some v)/\Q v H
noncomputable def tC (v:V):TE:=λ_ H Q=>Q v H
theorem oJ (hN:X.N[i]?=some x) (hv:B8 X.env.scope x) (hd:(x==("__debug__":Str))=false:=by decide) (hcd:(x==("__classdict__":Str))=false:=by decide):PE X (.Name x pos) (Cb i):=by
 intro π s σ H Q I h;obtain⟨v,e,h⟩:=h;obtain⟨m,hn,hl⟩:=I.loc;obtain⟨u,r,l⟩:=hl i x v hN e hv;have fin:EP X π σ Q u s:=⟨v,H,I,r,h⟩;rcases l with⟨hk,hm⟩ | ⟨hk,c,hc,hcell⟩
 ·exact wpAny_Name (wpAny_loadName_local I.ok.kind hk hn hm fin) hd
 ·rcases hk with hk | hk
  ·exact wpAny_Name (wpAny_loadName_cell I.ok.kind hk hc hcell fin) hd
  ·exact wpAny_Name (wpAny_loadName_free I.ok.kind hk hc hcell fin hcd) hd
theorem zY {i j pos}:PE X (.Constant (.int i) j pos) (tC (.int i)):=λ_ _ _ H _ I h=>wpAny_Constant_int ⟨.int i,H,I.tok _,⟨_,rfl⟩,h⟩
theorem y9 {b j pos}:PE X (.Constant (.bool b) j pos) (tC (.bl b)):=λ_ _ _ H _ I h=>Constant_bool ⟨.bl b,H,I,rfl,h⟩
theorem zZ {j pos}:PE X (.Constant .none j pos) (tC .non):=λ_ _ _ H _ I h=>Constant_none ⟨.non,H,I,rfl,h⟩
theorem oK {x j pos}:PE X (.Constant (.str x) j pos) (tC (.str x)):=λ_ _ _ H _ I h=>Calls.Constant_str ⟨.str x,H,I.tok _,⟨_,rfl⟩,h⟩
noncomputable def Gl (X:Cx) (x:Str):Prop:=X.env.kindOf x=some .globalImplicit
theorem fG {σ:St} {H:Hp} (I:aB X π σ H s) (hg:Gl X x) (hm:X.mg x=some u) (h:Q u s)
 (hd:(x==("__debug__":Str))=false:=by decide):wpAny (model X.prog X.w) X.A (eval (.Name x pos) X.env) Q E s:=
 Calls.Name_function_global I.ok.kind hg (Calls.loadGlobal_global (by rw[I.ok.glob];exact I.mod.glob.keeps I.bk) hm h) hd
theorem fo {σ:St} {H:Hp} (I:aB X π σ H s) (hg:Gl X x) (hm:X.mg x=none) (hv:bootBuiltins x=some u) (h:Q u s)
 (hn:x≠"__name__":=by decide) (hd:(x==("__debug__":Str))=false:=by decide):wpAny (model X.prog X.w) X.A (eval (.Name x pos) X.env) Q E s:=by
 obtain⟨mb,h1,h2⟩:=I.mod.blt;exact Calls.Name_function_global I.ok.kind hg (Calls.loadGlobal_builtin (by rw[I.ok.glob];exact I.mod.glob.keeps I.bk) hm (by rw[I.ok.blt];exact h1.keeps I.bk) ((h2 x hn).trans hv) h) hd
theorem wJ {v:V} (hg:Gl X x) (hm:X.mg x=none) (hv:bootBuiltins x=some u) (r:bc v u) (hn:x≠"__name__":=by decide) (hd:(x==("__debug__":Str))=false:=by decide):PE X (.Name x pos) (tC v):=
 λ_ _ _ H _ I h=>fo I hg hm hv ⟨v,H,I,r,h⟩ hn hd
variable {a b:Expr} {ta tb:TE} {pos:Pos}
noncomputable def tB (t:TE):TT:=λσ H Q=>t σ H λx H1=>∃c,x=.bl c/\Q c H1
theorem Aa {t:TE} (h:PE X e t) (he:∀whole,isTrue e X.env whole=(do let v ←whole;standAt e.pos;holding [v] (truthy v)):=by intro _;rfl):PT X e (tB t):=by
 intro π s σ H Q I hw;refine isTrue_plain (bR (h π s σ H _ I hw) λv s1 z9=>?_) (he _);obtain⟨x,H1,I1,r1,q1⟩:=z9;obtain⟨d,rfl,q⟩:=q1;cases r1;exact wpAny_truthy_bool ⟨H1,I1,q⟩
variable {tA tB':TT} {bt:List Expr}
noncomputable def EG (t u:TT):TT:=λσ H Q=>t σ H λc H1=>if c=true then u σ H1 Q else Q false H1
noncomputable def Ho (t u:TT):TT:=λσ H Q=>t σ H λc H1=>if c=true then Q true H1 else u σ H1 Q
noncomputable def EH (t:TT):TT:=λσ H Q=>t σ H λc H1=>Q (!c) H1
theorem wK (ha:PT X a tA):PW X (.BoolOp .And [a] pos) tA:=by
 intro wh π s σ H Q I h;refine isTrue_and (bR (ha π s σ H Q I h) λc s1 e=>?_);cases c with
 | true=>exact isTrue_and_nil e
 | false=>exact e
theorem Ab (ha:PT X a tA):PW X (.BoolOp .Or [a] pos) tA:=by
 intro wh π s σ H Q I h;refine isTrue_or (bR (ha π s σ H Q I h) λc s1 e=>?_);cases c with
 | false=>exact isTrue_or_nil e
 | true=>exact e
theorem Ac (ha:PT X a tA) (hb:PW X (.BoolOp .And (b::bt) pos) tB'):PW X (.BoolOp .And (a::b::bt) pos) (EG tA tB'):=by
 intro wh π s σ H Q I h;refine isTrue_and (bR (ha π s σ H _ I h) λc s1 z9=>?_);obtain⟨H1,I1,q1⟩:=z9;cases c with
 | true=>exact hb wh π s1 σ H1 Q I1 q1
 | false=>exact⟨H1,I1,q1⟩
theorem Cc (ha:PT X a tA) (hb:PW X (.BoolOp .Or (b::bt) pos) tB'):PW X (.BoolOp .Or (a::b::bt) pos) (Ho tA tB'):=by
 intro wh π s σ H Q I h;refine isTrue_or (bR (ha π s σ H _ I h) λc s1 z9=>?_);obtain⟨H1,I1,q1⟩:=z9;cases c with
 | true=>exact⟨H1,I1,q1⟩
 | false=>exact hb wh π s1 σ H1 Q I1 q1
theorem Ad (ha:PT X a tA):PT X (.UnaryOp .Not a pos) (EH tA):=by
 intro π s σ H Q I h;exact isTrue_not (ha π s σ H (λc H1=>Q (!c) H1) I h)
noncomputable def Ce (ta tb:TE):TE:=λσ H Q=>ta σ H λx H1=>∃c,x=.bl c/\if c=true then tb σ H1 Q else Q (.bl false) H1
noncomputable def Cg (ta:TE):TE:=λσ H Q=>ta σ H λx H1=>∃c,x=.bl c/\Q (.bl (!c)) H1
theorem Ae {op} {t:TE} (h:PE X a t):PE X (.BoolOp op [a] pos) t:=λπ s σ H Q I hw=>BoolOp_one (h π s σ H Q I hw)
theorem Af (ha:PE X a ta) (hb:PE X (.BoolOp .And (b::bt) pos) tb):PE X (.BoolOp .And (a::b::bt) pos) (Ce ta tb):=by
 intro π s σ H Q I h;refine BoolOp_and (bR (ha π s σ H _ I h) λv s1 z9=>?_);obtain⟨x,H1,I1,r1,q1⟩:=z9;obtain⟨c,rfl,q1⟩:=q1;cases r1;refine wpAny_truthy_bool ?_;cases c with
 | true=>exact hb π s1 σ H1 Q I1 q1
 | false=>exact⟨.bl false,H1,I1,rfl,q1⟩
theorem Ag (ha:PE X a ta):PE X (.UnaryOp .Not a pos) (Cg ta):=by
 intro π s σ H Q I h;refine UnaryOp_ (bR (ha π s σ H _ I h) λv s1 z9=>?_);obtain⟨x,H1,I1,r1,q1⟩:=z9;obtain⟨c,rfl,q1⟩:=q1;cases r1;exact not_of (wpAny_truthy_bool ⟨.bl (!c),H1,I1,rfl,q1⟩)
noncomputable def Hq (t:TT) (ta tb:TE):TE:=λσ H Q=>t σ H λc H1=>if c=true then ta σ H1 Q else tb σ H1 Q
theorem sY {c:Expr} (hc:PT X c tA) (ha:PE X a ta) (hb:PE X b tb):PE X (.IfExp c a b pos) (Hq tA ta tb):=by
 intro π s σ H Q I h;refine wpAny_IfExp (bR (hc π s σ H _ I h) λd s1 z9=>?_);obtain⟨H1,I1,q1⟩:=z9;cases d with
 | true=>exact ha π s1 σ H1 Q I1 q1
 | false=>exact hb π s1 σ H1 Q I1 q1
end
noncomputable def dm (K:yax) (H:Hp) (a:Addr) (xs:List V):Prop:=
 Rd H a (.lst xs)∨
  ∃(o:Obj) (its:Array Value) (n:Nat),K.lookup a=some o/\o.cls=.type "list"/\o.dict=none/\o.data=.seq its n/\its.size<=sizeLine/\aU xs its.toList
noncomputable def cY (K:yax) (H:Hp) (a:Addr) (xs:List V):Prop:=
 Rd H a (.tup xs)∨
  ∃(o:Obj) (its:Array Value) (n:Nat),K.lookup a=some o/\o.cls=.type "tuple"/\o.data=.seq its n/\its.size<=sizeLine/\aU xs its.toList
noncomputable def EI:Value->Option V
 | .none=>some .non
 | .bool b=>some (.bl b)
 | .int i _=>some (.int i)
 | .str x _=>some (.str x)
 | .bytes b _=>some (.byt b)
 | .float b _=>some (.flt b)
 | .ref a=>some (.ref a)
 | .type n=>some (.ty n)
 | _=>none
theorem bc.abs {x:V} (r:bc x u):EI u=some x:=by
 cases x with
 | non=>cases r;rfl
 | bl _=>cases r;rfl
 | int _=>obtain⟨t,rfl⟩:=r;rfl
 | str _=>obtain⟨t,rfl⟩:=r;rfl
 | byt _=>obtain⟨t,rfl⟩:=r;rfl
 | flt _=>obtain⟨t,rfl⟩:=r;rfl
 | ref _=>cases r;rfl
 | ty _=>cases r;rfl
theorem bc.inj {x y:V} (r:bc x u) (q:bc y u):x=y:=Option.some.inj (r.abs.symm.trans q.abs)
theorem aU.inj:∀{xs ys:List V} {us:ydw},aU xs us->aU ys us->xs=ys
 | _,_,_,.nil,.nil=>rfl
 | _,_,_,.cons r t,.cons r' t'=>by rw[r.inj r',aU.inj t t']
section
variable {X:Cx} {π:List (Addr×Obj)} {σ:St} {H:Hp} {s:Shared} {a:Addr} {xs ys:List V}
theorem dm.of (h:H a=some (.lst xs)):dm K H a xs:= .inl (.inl h)
theorem cY.of (h:H a=some (.tup xs)):cY K H a xs:= .inl (.inl h)
theorem aB.list (I:aB X π σ H s) (h:dm X.K H a xs):∃its:List Value,aU xs its/\PlainL s.heap a its.toArray/\xs.length<=sizeLine:=by
 rcases h with h | ⟨o,its,n,hk,hc,hd,hs,hz,r⟩
 ·obtain⟨z,its,n,r,e⟩:=h.ok I.hok;exact⟨its,r,⟨_,n,e,rfl,rfl,rfl⟩,z⟩
 ·refine⟨its.toList,r,⟨o,n,I.kIn a o hk,hc,hd,by simpa using hs⟩,?_⟩;have e:=r.length;simp only[Array.length_toList] at e;lia
theorem aB.tuple (I:aB X π σ H s) (h:cY X.K H a xs):∃its:List Value,aU xs its/\IsTup s.heap a its.toArray/\xs.length<=sizeLine:=by
 rcases h with h | ⟨o,its,n,hk,hc,hs,hz,r⟩
 ·obtain⟨z,its,r,p⟩:=h.ok I.hok;exact⟨its,r,p,z⟩
 ·refine⟨its.toList,r,⟨o,I.kIn a o hk,hc,n,by simpa using hs⟩,?_⟩;have e:=r.length;simp only[Array.length_toList] at e;lia
theorem aB.list_inj (I:aB X π σ H s) (h:dm X.K H a xs) (h':dm X.K H a ys):xs=ys:=by
 obtain⟨its,r,⟨o,n,e,_,_,d⟩,_⟩:=I.list h;obtain⟨its',r',⟨o',n',e',_,_,d'⟩,_⟩:=I.list h';rw[e] at e';cases e';rw[d] at d';injection d' with d1 _
 have:its=its':=by simpa using congrArg Array.toList d1
 subst this;exact r.inj r'
theorem aB.tuple_inj (I:aB X π σ H s) (h:cY X.K H a xs) (h':cY X.K H a ys):xs=ys:=by
 obtain⟨its,r,⟨o,e,_,n,d⟩,_⟩:=I.tuple h;obtain⟨its',r',⟨o',e',_,n',d'⟩,_⟩:=I.tuple h';rw[e] at e';cases e';rw[d] at d';injection d' with d1 _
 have:its=its':=by simpa using congrArg Array.toList d1
 subst this;exact r.inj r'
end
noncomputable abbrev Cx.wish (X:Cx) (E:ydz):Cx:={ X with xe:=E }
noncomputable abbrev Cx.nox (X:Cx):Cx:=X.wish λ_ _=>False
theorem Cx.Ok.wish {X:Cx} (ok:X.Ok) (E:ydz):(X.wish E).Ok:=
 ⟨ok.mod,ok.kind,ok.glob,ok.blt,ok.above,ok.inj,ok.has,ok.cab,ok.hd,ok.frames,ok.stk,ok.exf,ok.bs,ok.bsz,ok.noex,ok.exfs,ok.funs,ok.frf⟩
theorem Cx.Ok.unwish {X:Cx} (ok:(X.wish E).Ok):X.Ok:=
 ⟨ok.mod,ok.kind,ok.glob,ok.blt,ok.above,ok.inj,ok.has,ok.cab,ok.hd,ok.frames,ok.stk,ok.exf,ok.bs,ok.bsz,ok.noex,ok.exfs,ok.funs,ok.frf⟩
section
variable {X:Cx} {π:List (Addr×Obj)} {σ:St} {H:Hp} {s:Shared} {E:ydz}
theorem aB.wish (I:aB X π σ H s) (E:ydz):aB (X.wish E) π σ H s:=⟨I.ok.wish E,I.os,I.bare,I.base,I.loc,I.cell,I.free,I.freeC,I.pin,I.hok,I.len⟩
theorem aB.unwish (I:aB (X.wish E) π σ H s):aB X π σ H s:=⟨I.ok.unwish,I.os,I.bare,I.base,I.loc,I.cell,I.free,I.freeC,I.pin,I.hok,I.len⟩
theorem SP.unwish {D:fQ} {f:Flow} {s':Shared} (h:SP (X.wish E) π D f s'):SP X π D f s':=by
 cases f with
 | next=>obtain⟨σ',H',I,q⟩:=h;exact⟨σ',H',I.unwish,q⟩
 | brk=>obtain⟨σ',H',I,q⟩:=h;exact⟨σ',H',I.unwish,q⟩
 | cont=>obtain⟨σ',H',I,q⟩:=h;exact⟨σ',H',I.unwish,q⟩
 | ret u=>obtain⟨v,σ',H',I,r,q⟩:=h;exact⟨v,σ',H',I.unwish,r,q⟩
theorem mV.nox {st:List Stmt} {t:TS} (h:mV X.nox st t):mV X st t:=λπ s σ H D I hw=>
 wpAny_mono (h π s σ H D (I.wish _) hw) (λ_ _ q=>q.unwish) λ_ _ z=>False.elim z
end
section
variable {X:Cx} {st:Stmt} {bt:List Stmt} {t u:TS} {e:Expr} {te:TE} {pos:Pos}
noncomputable def Ch:TS:=λD σ H=>D.nx σ H
noncomputable def EJ (t u:TS):TS:=λD σ H=>t { D with nx:=u D } σ H
theorem pss_nil:mV X [] Ch:=λ_ _ σ H _ I h=>wpAny_execs_nil ⟨σ,H,I,h⟩
theorem sZ (h1:PS X st t) (h2:mV X bt u):mV X (st::bt) (EJ t u):=by
 intro π s σ H D I h;refine wpAny_execs_cons (bR (h1 π s σ H { D with nx:=u D } I h) λf s1 q=>?_);cases f with
 | next=>
   obtain⟨σ',H',I',q⟩:=q;exact h2 π s1 σ' H' D I' q
 | ret v=>exact q
 | brk=>exact q
 | cont=>exact q
theorem wL (h1:PS X st t):mV X [st] t:=by
 intro π s σ H D I h;refine wpAny_execs_cons (bR (h1 π s σ H D I h) λf s1 q=>?_);cases f with
 | next=>exact wpAny_execs_nil q
 | ret v=>exact q
 | brk=>exact q
 | cont=>exact q
theorem aB.quiet {σ:St} {H:Hp} (I:aB X π σ H s):interactive X.env=false:=by simp[interactive,I.ok.kind]
noncomputable def Ci (te:TE):TS:=λD σ H=>te σ H λ_ H1=>D.nx σ H1
theorem wM (he:PE X e te) (hs:swapsWith e none pos.line X.env=pure false:=by rfl):PS X (.Expr e pos) (Ci te):=by
 intro π s σ H D I h;exact wpAny_Expr_any (bR (he π s σ H _ I h) λv s1 ⟨x,H1,I1,r1,q1⟩=>⟨σ,H1,I1,q1⟩) I.quiet hs
noncomputable def EK (te:TE):TS:=λD σ H=>te σ H D.rt
theorem Ah (he:PE X e te):PS X (.Return (some e) pos) (EK te):=by
 intro π s σ H D I h;exact wpAny_Return_some (bR (he π s σ H _ I h) λv s1 ⟨x,H1,I1,r1,q1⟩=>⟨x,σ,H1,I1,r1,q1⟩)
noncomputable def EL (c:TT) (t u:TS):TS:=λD σ H=>c σ H λb H1=>if b=true then t D σ H1 else u D σ H1
theorem Cj {c:Expr} {a b:List Stmt} {tc:TT} (hc:PT X c tc) (ha:mV X a t) (hb:mV X b u):PS X (.If c a b pos) (EL tc t u):=by
 intro π s σ H D I h;refine wpAny_If (bR (hc π s σ H _ I h) λd s1 z9=>?_);obtain⟨H1,I1,q1⟩:=z9;cases d with
 | true=>exact ha π s1 σ H1 D I1 q1
 | false=>exact hb π s1 σ H1 D I1 q1
end
noncomputable abbrev TG:=V->St->Hp->(St->Hp->Prop)->Prop
noncomputable abbrev wN:=List V->St->Hp->(St->Hp->Prop)->Prop
noncomputable def PG (X:Cx) (target:Expr) (t:TG):Prop:=
 ∀(π:List (Addr×Obj)) (s:Shared) (σ:St) (H:Hp) (v:V) (u:Value) (Q:St->Hp->Prop),aB X π σ H s->bc v u->t v σ H Q->
  wpAny (model X.prog X.w) X.A (assign target X.env u) (λ_ s'=>∃σ' H',aB X π σ' H' s'/\Q σ' H') X.xe s
noncomputable def zc (X:Cx) (ts:List Expr) (t:wN):Prop:=
 ∀(π:List (Addr×Obj)) (s:Shared) (σ:St) (H:Hp) (vs:List V) (us:ydw) (Q:St->Hp->Prop),aB X π σ H s->aU vs us->t vs σ H Q->
  wpAny (model X.prog X.w) X.A (assignInOrder ((assignEach ts X.env).map (·.2)) us) (λ_ s'=>∃σ' H',aB X π σ' H' s'/\Q σ' H') X.xe s
section
variable {X:Cx} {pos:Pos}
noncomputable def zd (i:Nat):TG:=λv σ H Q=>Q (σ.set i (some v)) H
theorem wO (hN:X.N.Nodup) (hi:X.N[i]?=some x) (hx:wA X.env.scope x) (hf:X.fn x=true∨X.env.scope.names.lookup x=some .local:=by first | exact .inl rfl | exact .inr rfl | assumption):PG X (.Name x pos) (zd i):=by
 intro π s σ H v u Q I r h;exact wpAny_assign_Name (jz I hN hi hx r (λs' I'=>⟨_,H,I',h⟩) hf)
noncomputable def EM:wN:=λvs σ H Q=>vs=[]/\Q σ H
noncomputable def Ck (t:TG) (u:wN):wN:=λvs σ H Q=>∃v r,vs=v::r/\t v σ H λσ' H'=>u r σ' H' Q
theorem pgs_nil:zc X [] EM:=by
 intro π s σ H vs us Q I r h;obtain⟨e,h⟩:=h;subst e;cases r;exact assignInOrder_nil ⟨σ,H,I,h⟩
theorem tf {t:TG} {u:wN} (h1:PG X e t) (h2:zc X es u)
 (hs:(assignEach (e::es) X.env).map (·.2)=assign e X.env::(assignEach es X.env).map (·.2):=by rfl):zc X (e::es) (Ck t u):=by
 intro π s σ H vs us Q I r h;obtain⟨v,vr,e1,h⟩:=h;subst e1;cases r with
 | cons r rr=>
   rw[hs];refine assignInOrder_cons (bR (h1 π s σ H _ _ _ I r h) λ_ s1 z9=>?_);obtain⟨σ1,H1,I1,q1⟩:=z9;exact h2 π s1 σ1 H1 _ _ Q I1 rr q1
noncomputable def EN (K:yax) (n:Nat) (t:wN):TG:=λv σ H Q=>∃a xs,v=.ref a/\cY K H a xs/\xs.length=n/\t xs σ H Q
theorem Ai {t:wN} {n:Nat} (hc:X.calm=true) (h:zc X es t)
 (hn:(assignEach es X.env).length=n:=by rfl) (hst:(assignEach es X.env).findIdx? (·.1)=none:=by rfl):PG X (.Tuple es k pos) (EN X.K n t):=by
 intro π s σ H v u Q I r hw;obtain⟨a,xs,e1,hq,hl,hw⟩:=hw;subst e1;cases r;obtain⟨its,rv,ht,hz⟩:=I.tuple hq;refine assign_Tuple_tuple (I.ok.hd hc) ht (by simp[hn,←hl,rv.length]) hst λh' hx=>?_;have I1:aB X π σ H { s with heap:=h' }:=I.kept (t':=s.toks) λb o e=>hx b o (ne_of_lt (ybx e)) e;exact h π _ σ H xs _ Q I1 (by simpa using rv) hw
noncomputable def EO (te:TE) (g:TG):TS:=λD σ H=>te σ H λx H1=>g x σ H1 D.nx
theorem Aj {te:TE} {pos':Pos} (hN:X.N.Nodup) (hi:X.N[i]?=some x) (hx:wA X.env.scope x) (he:PE X e te) (hs:swapsWith e (some (.Name x pos')) pos.line X.env=pure false:=by rfl) (hf:X.fn x=true∨X.env.scope.names.lookup x=some .local:=by first | exact .inl rfl | exact .inr rfl | assumption):
 PS X (.Assign [.Name x pos'] e pos) (EO te (zd i)):=by
 intro π s σ H D I h;refine wpAny_Assign_Name (bR (he π s σ H _ I h) λv s1 z9=>?_) hs;obtain⟨y,H1,I1,r1,q1⟩:=z9;exact jz I1 hN hi hx r1 (λs2 I2=>⟨_,H1,I2,q1⟩) hf
end
section
variable {X:Cx} {pos:Pos}
noncomputable def Ak (c:TT) (tb:TS):TS:=λD σ H=>∃W:Nat->St->Hp->Prop,(∃m,W m σ H)/\∀m σ H,W m σ H->
 c σ H λb H1=>if b=true then ∃N:St->Hp->Prop,(∀σ' H',N σ' H'->∃m',m'<m/\W m' σ' H')/\tb { D with nx:=N,ct:=N,bk:=D.nx } σ H1 else D.nx σ H1
theorem tj {c:Expr} {tc:TT} {tb:TS} (hp:PassesOwn (model X.prog X.w) X.A X.env X.xe) (hc:PT X c tc) (hb:mV X body tb):PS X (.While c body [] pos) (Ak tc tb):=by
 intro π s σ H D I h;obtain⟨W,⟨m0,w0⟩,turn⟩:=h;refine wpAny_While (codeAny_whileLoop (λn s'=>∃σ' H',aB X π σ' H' s'/\W n σ' H') ?_ m0 ⟨σ,H,I,w0⟩);rintro n s1 ⟨σ1,H1,I1,w1⟩;refine wpAny_passesOwn hp (bR (hc π s1 σ1 H1 _ I1 (turn n σ1 H1 w1)) λb s2 z9=>?_);obtain⟨H2,I2,q2⟩:=z9;cases b with
 | true=>
   obtain⟨N,hN,q2⟩:=q2;rw[ycx rfl];refine wpAny_passesOwn hp (bR (hb π s2 σ1 H2 _ I2 q2) λf s3 q3=>?_);cases f with
   | next=>
     obtain⟨σ3,H3,I3,n3⟩:=q3;obtain⟨m',hm,w3⟩:=hN σ3 H3 n3;exact⟨m',hm,σ3,H3,I3,w3⟩
   | cont=>
     obtain⟨σ3,H3,I3,n3⟩:=q3;obtain⟨m',hm,w3⟩:=hN σ3 H3 n3;exact⟨m',hm,σ3,H3,I3,w3⟩
   | brk=>exact q3
   | ret v=>exact q3
 | false=>
   rw[ybv ycy];exact wpAny_execs_nil ⟨σ1,H2,I2,q2⟩
end
structure It where
 go:Nat->Hp->Prop
 yld:Nat->Hp->V->Hp->Prop
 stop:Nat->Hp->Prop
noncomputable def jj (X:Cx) (π:List (Addr×Obj)) (H:Hp) (b:Addr):Prop:=
 H b=none/\b≠X.env.locals/\b∉X.fs/\(b∈X.ex∨X.s₀.heap.objs.size<=b)/\(∀x c,X.env.cells.lookup x=some c->c≠b)/\∀p∈X.pn++π,p.1≠b
theorem aB.fpOk {X:Cx} {σ:St} {H H':Hp} {b:Addr} (I:aB X π σ H s) (hb:s.heap.objs.size<=b) (hn:H' b=none):jj X π H' b:=by
 refine⟨hn,Nat.ne_of_gt (ycv I.lt hb),I.nofs hb,.inr (ybz I.sz hb),λx c e z=>?_,λp hp z=>?_⟩
 ·obtain⟨v,q⟩:=I.cell x c e;exact absurd (ycv q.lt (by rw[z];exact hb)) (lt_irrefl _)
 ·exact absurd (ycv (ybx (I.pin p hp).1) (by rw[z];exact hb)) (lt_irrefl _)
structure kt (P:Program) (w:World) (K:yax) (tg:Expr) (J:It) (fp:List Addr) (it:Addr) (tn:Nat->Heap->Prop):Prop where
 mem:it∈fp
 obj:∀i h,tn i h->∀b∈fp,∃o,h.get? b=some o/\∀v,o.data≠ .cell v
 keep:∀i h h',tn i h->(∀b∈fp,∀o,h.get? b=some o->h'.get? b=some o)->tn i h'
 item:∀(X:Cx),X.prog=P->X.w=w->X.K=K->X.calm=true->∀(i:Nat) (π:List (Addr×Obj)) (s:Shared) (σ:St) (H:Hp) (E:ydz),aB X π σ H s->(∀b∈fp,jj X π H b)->tn i s.heap->J.go i H->
  wpAny (model P w) X.A (pyNext (.ref it)) (λr s1=>∃u,r=some u/\
   wpAny (model P w) X.A (letOwnedTupleGo tg (.ref it) u) (λ_ s2=>∃x H',aB X π σ H' s2/\bc x u/\J.yld i H x H'/\tn (i+1) s2.heap/\∀b∈fp,H' b=none) E s1) E s
 done:∀(X:Cx),X.prog=P->X.w=w->X.K=K->X.calm=true->∀(i:Nat) (π:List (Addr×Obj)) (s:Shared) (σ:St) (H:Hp) (E:ydz),aB X π σ H s->(∀b∈fp,jj X π H b)->tn i s.heap->J.stop i H->
  wpAny (model P w) X.A (pyNext (.ref it)) (λr s1=>r=none/\aB X π σ H s1) E s
 self:∀(A:Around) (i:Nat) (s:Shared) (Q:ydz) (E:ydz),tn i s.heap->Q (.ref it) s->wpAny (model P w) A (pyIter (.ref it)) Q E s
noncomputable abbrev TI:=St->Hp->(It->Hp->Prop)->Prop
noncomputable def EQ (X:Cx) (π:List (Addr×Obj)) (σ:St) (tg:Expr) (R:It->Hp->Prop) (itv:Value) (s2:Shared):Prop:=
 ∃(it:Addr) (fp:List Addr) (tn:Nat->Heap->Prop) (J:It) (H':Hp),itv=.ref it/\aB X π σ H' s2/\kt X.prog X.w X.K tg J fp it tn/\tn 0 s2.heap/\(∀b∈fp,jj X π H' b)/\R J H'
noncomputable def PI (X:Cx) (tg iter:Expr) (wi:TI):Prop:=
 ∀(π:List (Addr×Obj)) (s:Shared) (σ:St) (H:Hp) (R:It->Hp->Prop),aB X π σ H s->wi σ H R->
  wpAny (model X.prog X.w) X.A (eval iter X.env) (λv s1=>wpAny (model X.prog X.w) X.A (pyIter v) (EQ X π σ tg R) X.xe s1) X.xe s
theorem jA {M:Model} {tg:Expr} {it:Addr} {o:Obj} {n:String} {vs:Array Value} {Q:Unit->Shared->Prop} (ho:s.heap.get? it=some o) (hc:o.cls=.type n) (hd:o.data=.fields vs)
 (hn:["enumerate","zip","dict_itemiterator","dict_reverseitemiterator","odict_iterator","itertools.zip_longest","itertools.pairwise"].contains n=false) (hQ:Q () s):wpAny M A (letOwnedTupleGo tg (.ref it) u) Q E s:=by
 unfold letOwnedTupleGo;cases tg<;> first
  | exact way hQ
  | (cases u<;> first
      | exact way hQ
      | (refine wax (wpAny_load ho ?_)
         rw[hc,hd];show wpAny M A (if (["enumerate","zip","dict_itemiterator","dict_reverseitemiterator","odict_iterator","itertools.zip_longest","itertools.pairwise"].contains n&&vs[0]?==some (rawInt _))=true then _ else _) Q E s;rw[ybv (by intro h;rw[hn,Bool.false_and] at h;cases h)];exact way hQ))
noncomputable def Er (K:yax) (a:Addr):It:=
 ⟨λi H=>∃xs x,dm K H a xs/\xs[i]?=some x,λi H x H'=>H'=H/\∀xs,dm K H a xs->xs[i]?=some x,λi H=>∃xs,dm K H a xs/\xs.length<=i⟩
noncomputable def ER (K:yax) (a:Addr):It:=
 ⟨λi H=>∃xs x,cY K H a xs/\xs[i]?=some x,λi H x H'=>H'=H/\∀xs,cY K H a xs->xs[i]?=some x,λi H=>∃xs,cY K H a xs/\xs.length<=i⟩
noncomputable def Es (lo:Int) (n:Nat):It:=⟨λi _=>i<n,λi H x H'=>H'=H/\x=.int (lo+i),λi _=>n<=i⟩
theorem rN {tg:Expr} (a it:Addr):kt P w K tg (Er K a) [it] it (λi h=>h.IsListIter it a i) where
 mem:=by simp
 obj:=λi h st b hb=>by
  have e:b=it:=by simpa using hb
  subst e;obtain⟨o,e,c,d⟩:=st;exact⟨o,e,λv z=>by rw[d] at z;cases z⟩
 keep:=λi h h' st k=>st.at λo e=>k it (by simp) o e
 item:=by
  intro X hP hw hK hc i π s σ H E I hf st hg;subst hP hw hK;obtain⟨xs,x,hq,hx⟩:=hg;obtain⟨its,rv,p,hz⟩:=I.list hq;obtain⟨u,hu,ru⟩:=rv.get hx;obtain⟨f0,f1,f2,f3,f4,f5⟩:=hf it (by simp);refine wpAny_pyNext_list_item st p.isList (x:=u) (by simpa using hu) λh' st' sb=>?_;have I1:aB X π σ H { s with heap:=h' }:=I.turned (t':=s.toks) (λb o hb e=>(sb.2 b hb).trans e) f0 f1 f3 f4 f5;obtain⟨o,e,c,d⟩:=id st';exact⟨u,rfl,jA (s:={ s with heap:=h' }) e c d (by decide) ⟨x,H,I1,ru,⟨rfl,λys hy=>by rw[I.list_inj hy hq];exact hx⟩,st',λb hb=>(hf b hb).1⟩⟩
 done:=by
  intro X hP hw hK hc i π s σ H E I hf st hg;subst hP hw hK;obtain⟨xs,hq,hx⟩:=hg;obtain⟨its,rv,p,hz⟩:=I.list hq;obtain⟨f0,f1,f2,f3,f4,f5⟩:=hf it (by simp);have hl:=rv.length;exact wpAny_pyNext_list_end (I.ok.hd hc) st p.isList (by simp;lia) λh' eb=>⟨rfl,I.turned (t':=s.toks) (λb o hb e=>eb b o hb e) f0 f1 f3 f4 f5⟩
 self:=λ_ _ _ _ _ st h=>wpAny_pyIter_listiter st h
theorem oM {tg:Expr} (a it:Addr):kt P w K tg (ER K a) [it] it (λi h=>h.IsTupleIter it a i) where
 mem:=by simp
 obj:=λi h st b hb=>by
  have e:b=it:=by simpa using hb
  subst e;obtain⟨o,e,c,d⟩:=st;exact⟨o,e,λv z=>by rw[d] at z;cases z⟩
 keep:=λi h h' st k=>st.at λo e=>k it (by simp) o e
 item:=by
  intro X hP hw hK hc i π s σ H E I hf st hg;subst hP hw hK;obtain⟨xs,x,hq,hx⟩:=hg;obtain⟨its,rv,p,hz⟩:=I.tuple hq;obtain⟨u,hu,ru⟩:=rv.get hx;obtain⟨f0,f1,f2,f3,f4,f5⟩:=hf it (by simp);refine wpAny_pyNext_tuple_item st (show s.heap.IsTuple a its.toArray from p) (x:=u) (by simpa using hu) λh' st' sb=>?_;have I1:aB X π σ H { s with heap:=h' }:=I.turned (t':=s.toks) (λb o hb e=>(sb.2 b hb).trans e) f0 f1 f3 f4 f5;obtain⟨o,e,c,d⟩:=id st';exact⟨u,rfl,jA (s:={ s with heap:=h' }) e c d (by decide) ⟨x,H,I1,ru,⟨rfl,λys hy=>by rw[I.tuple_inj hy hq];exact hx⟩,st',λb hb=>(hf b hb).1⟩⟩
 done:=by
  intro X hP hw hK hc i π s σ H E I hf st hg;subst hP hw hK;obtain⟨xs,hq,hx⟩:=hg;obtain⟨its,rv,p,hz⟩:=I.tuple hq;obtain⟨f0,f1,f2,f3,f4,f5⟩:=hf it (by simp);have hl:=rv.length;exact wpAny_pyNext_tuple_end (I.ok.hd hc) st (show s.heap.IsTuple a its.toArray from p) (by simp;lia) λh' eb=>⟨rfl,I.turned (t':=s.toks) (λb o hb e=>eb b o hb e) f0 f1 f3 f4 f5⟩
 self:=λ_ _ _ _ _ st h=>wpAny_pyIter_tupleiter st h
theorem oN {tg:Expr} (it:Addr) (lo:Int) (n:Nat):kt P w K tg (Es lo n) [it] it (λi h=>IsRangeIter h it (lo+(i:Nat)*1) ((n:Int)- (i:Nat)) 1) where
 mem:=by simp
 obj:=λi h st b hb=>by
  have e:b=it:=by simpa using hb
  subst e;exact⟨_,st,λv z=>by
   have z':Data.fields _=Data.cell v:=z;cases z'⟩
 keep:=λi h h' st k=>k it (by simp) _ st
 item:=by
  intro X hP hw hK hc i π s σ H E I hf st hg;subst hP hw hK;obtain⟨f0,f1,f2,f3,f4,f5⟩:=hf it (by simp);have W:=Walks.range (prog:=X.prog) (w:=X.w) (I.ok.hd hc) it lo 1 n;refine W.item i s _ _ hg st λv h' tk hv st' kk=>?_;obtain⟨t,rfl⟩:=hv;have I1:aB X π σ H { s with heap:=h',toks:=tk }:=I.turned (λb o hb e=>kk b o (by simpa using hb) e) f0 f1 f3 f4 f5;refine⟨_,rfl,jA (s:={ s with heap:=h',toks:=tk }) (n:="range_iterator") st' rfl rfl (by decide) ⟨.int (lo+i),H,I1,⟨t,?_⟩,⟨rfl,rfl⟩,st',λb hb=>(hf b hb).1⟩⟩;rw[Int.mul_one]
 done:=by
  intro X hP hw hK hc i π s σ H E I hf st hg;subst hP hw hK;obtain⟨f0,f1,f2,f3,f4,f5⟩:=hf it (by simp);exact wpAny_pyNext_range_end (I.ok.hd hc) st (by have:n<=i:=hg;lia) λh' eb=>⟨rfl,I.turned (t':=s.toks) (λb o hb e=>eb b o hb e) f0 f1 f3 f4 f5⟩
 self:=λ_ _ _ _ _ st h=>wpAny_pyIter_rangeiter st h
section
variable {X:Cx} {tg:Expr}
theorem tq {σ:St} {H:Hp} {R:It->Hp->Prop} {lo hi:Int} {t u v:Tok} {tk:Nat} (I:aB X π σ H s) (h1: -(2^62)<=lo) (h2:lo<2^62) (h3: -(2^62)<=hi) (h4:hi<2^62)
 (q:R (Es lo (hi-lo).toNat) H):wpAny (model X.prog X.w) X.A (pyIter (.ref s.heap.objs.size)) (EQ X π σ tg R) E { s with heap:=s.heap.push { cls:= .type "range",data:= .fields #[.int lo t,.int hi u,.int 1 v] },toks:=tk }:=by
 refine wpAny_pyIter_range (IsRange.new ..) (small_one h1 h2 h3 h4) ?_;have I1:aB X π σ H { s with heap:=s.heap.push { cls:= .type "range",data:= .fields #[.int lo t,.int hi u,.int 1 v] },toks:=tk }:=I.kept λb o e=>yaw _ e;refine⟨(s.heap.push { cls:= .type "range",data:= .fields #[.int lo t,.int hi u,.int 1 v] }).objs.size,[(s.heap.push { cls:= .type "range",data:= .fields #[.int lo t,.int hi u,.int 1 v] }).objs.size],_,_,H,rfl,
  I1.kept (t':=tk) λb o e=>yaw _ e,oN _ lo (hi-lo).toNat,?_,λb hb=>?_,q⟩
 ·have e1:lo+((0:Nat):Int)*1=lo:=by simp
  have e2:(((hi-lo).toNat:Nat):Int)- ((0:Nat):Int)=Builtin.Range.rangeSize lo hi 1:=by rw[rangeSize_one];split<;> lia
  show IsRangeIter _ _ (lo+((0:Nat):Int)*1) ((((hi-lo).toNat:Nat):Int)- ((0:Nat):Int)) 1;rw[e1,e2];exact yav _ rfl
 ·have e:b=(s.heap.push { cls:= .type "range",data:= .fields #[.int lo t,.int hi u,.int 1 v] }).objs.size:=by simpa using hb
  subst e;exact I1.fpOk (yby _) (I1.hok.fresh (yby _))
noncomputable def Cn (ta:TA):TI:=λσ H R=>ta σ H λvs H1=>∃j:Int,vs=[.int j]/\-(2^62)<=j/\j<2^62/\R (Es 0 j.toNat) H1
theorem rO {a:Expr} {ta:TA} {p pos:Pos} (hg:Gl X "range") (hm:X.mg "range"=none) (ha:PA X [a] ta) (hs:starEach [a] X.env=[(false,eval a X.env)]:=by rfl):PI X tg (.Call (.Name "range" p) [a] [] pos) (Cn ta):=by
 intro π s σ H R I h;refine Call_ (fo I hg hm boot_range (PyProof.Rows.callWith_type1 (bR (ha pos π s σ H _ I h) λus s1 z9=>?_) hs rfl));obtain⟨vs,H1,I1,r1,q1⟩:=z9;obtain⟨j,e,q1,q2,q⟩:=q1;subst e;cases r1 with
 | cons r rr=>
   cases rr;obtain⟨t,rfl⟩:=r;exact call_range_1 (tq I1 (by lia) (by lia) q1 q2 (by simpa using q))
noncomputable def ES (wi:TI) (g:TG) (tb:TS):TS:=λD σ H=>wi σ H λJ H1=>∃W:Nat->Nat->St->Hp->Prop,(∃m,W 0 m σ H1)/\∀i m σ H,W i m σ H->
 (J.stop i H/\D.nx σ H)∨(J.go i H/\∃N:St->Hp->Prop,(∀σ' H',N σ' H'->∃m',m'<m/\W (i+1) m' σ' H')/\∀x H',J.yld i H x H'->g x σ H' λσ2 H2=>tb { D with nx:=N,ct:=N,bk:=D.nx } σ2 H2)
noncomputable def jB (fp:List Addr) (h:Heap):List (Addr×Obj):=fp.filterMap λb=>(h.get? b).map λo=>(b,o)
theorem dD {fp:List Addr} {h:Heap} {b:Addr} {o:Obj} (hb:b∈fp) (e:h.get? b=some o):(b,o)∈jB fp h:=List.mem_filterMap.mpr ⟨b,hb,by rw[e];rfl⟩
theorem rP {fp:List Addr} {h:Heap} {p:Addr×Obj} (hp:p∈jB fp h):p.1∈fp/\h.get? p.1=some p.2:=by
 obtain⟨b,hb,e⟩:=List.mem_filterMap.mp hp;cases q:h.get? b with
 | none=>rw[q] at e;cases e
 | some o=>
   rw[q] at e;have e':(b,o)=p:=Option.some.inj e;subst e';exact⟨hb,q⟩
theorem aB.pinned {σ:St} {H:Hp} {fp:List Addr} (I:aB X π σ H s) (hf:∀b∈fp,jj X π H b) (ho:∀b∈fp,∃o,s.heap.get? b=some o/\∀v,o.data≠ .cell v):aB X (π++jB fp s.heap) σ H s:=
 I.pins_of λp hp=>(mem_append.mp hp).elim (λz=>I.pin p (ydy _ z)) λz=>by
  obtain⟨hb,e⟩:=rP z;obtain⟨f0,f1,f2,_⟩:=hf p.1 hb;obtain⟨o,e',d⟩:=ho p.1 hb;rw[e] at e';cases e';exact⟨e,f0,f1,f2,d⟩
theorem aB.unpinned {π pl:List (Addr×Obj)} {σ:St} {H:Hp} (I:aB X (π++pl) σ H s):aB X π σ H s:=I.pins_of λp hp=>I.pin p (ydy _ (mem_append_left _ hp))
theorem Al {iter:Expr} {wi:TI} {g:TG} {tb:TS} (hp:PassesOwn (model X.prog X.w) X.A X.env X.xe) (hc:X.calm=true) (hi:PI X tg iter wi) (hg:PG X tg g) (hb:mV X body tb)
 (hs:∀x,foldedSetIterable iter X.env x=pure x:=by intro _;rfl):PS X (.For tg iter body [] pos) (ES wi g tb):=by
 intro π s σ H D I h;refine wpAny_For (bR (hi π s σ H _ I h) λv s1 h1=>bR h1 λitv s2 h2=>?_) hs;obtain⟨it,fp,tn,J,H2,e,I2,T,st2,f2,W,⟨m0,w0⟩,turn⟩:=h2;subst e
 -- what stays true of the iterator's objects through the loop
 have stat:∀{H':Hp},(∀b∈fp,H' b=none)->∀b∈fp,jj X π H' b:=λhn b hb=>⟨hn b hb,(f2 b hb).2⟩;refine codeAny_forLoop_any (λn s'=>∃i σ' H',aB X π σ' H' s'/\tn i s'.heap/\(∀b∈fp,H' b=none)/\W i n σ' H') ?_ m0 ⟨0,σ,H2,I2,st2,λb hb=>(f2 b hb).1,w0⟩;rintro n s3 ⟨i,σ3,H3,I3,st3,fr3,w3⟩;rcases turn i n σ3 H3 w3 with⟨stop,qn⟩ | ⟨go,N,hN,step⟩
 ·refine wpAny_passesOwn hp (bR (T.done X rfl rfl rfl hc i π s3 σ3 H3 X.xe I3 (stat fr3) st3 stop) λr s4 z9=>?_);obtain⟨hr,I4⟩:=z9;subst hr;exact wpAny_execs_nil ⟨σ3,H3,I4,qn⟩
 ·refine wpAny_passesOwn hp (bR (T.item X rfl rfl rfl hc i π s3 σ3 H3 X.xe I3 (stat fr3) st3 go) λr s4 z9=>?_);obtain⟨u,hr,h4⟩:=z9;subst hr;refine wpAny_passesOwn hp (bR h4 λ_ s5 z9=>?_);obtain⟨x,H5,I5,r5,y5,st5,fr5⟩:=z9;have I5':=I5.pinned (stat fr5) (T.obj _ _ st5);refine wpAny_passesOwn hp (bR (hg _ s5 σ3 H5 x u _ I5' r5 (step x H5 y5)) λ_ s6 z9=>?_);obtain⟨σ6,H6,I6,q6⟩:=z9;refine wpAny_passesOwn hp (bR (hb _ s6 σ6 H6 _ I6 q6) λf s7 q7=>?_);have again:∀{σ7:St} {H7:Hp},aB X (π++jB fp s5.heap) σ7 H7 s7->N σ7 H7->∃m,m<n/\∃i σ' H',aB X π σ' H' s7/\tn i s7.heap/\(∀b∈fp,H' b=none)/\W i m σ' H':=λ{σ7 H7} I7 n7=>by
   obtain⟨m',hm,w7⟩:=hN σ7 H7 n7;refine⟨m',hm,i+1,σ7,H7,I7.unpinned,T.keep _ _ _ st5 λb hb o e=>(I7.pin (b,o) (ydy _ (ydy _ (dD hb e)))).1,λb hb=>?_,w7⟩;obtain⟨o,e,d⟩:=T.obj _ _ st5 b hb;exact(I7.pin (b,o) (ydy _ (ydy _ (dD hb e)))).2.1
  cases f with
  | next=>obtain⟨σ7,H7,I7,n7⟩:=q7;exact again I7 n7
  | cont=>obtain⟨σ7,H7,I7,n7⟩:=q7;exact again I7 n7
  | brk=>obtain⟨σ7,H7,I7,q7⟩:=q7;exact⟨σ7,H7,I7.unpinned,q7⟩
  | ret v=>obtain⟨x7,σ7,H7,I7,r7,q7⟩:=q7;exact⟨x7,σ7,H7,I7.unpinned,r7,q7⟩
end
noncomputable abbrev R2:=V->V->Hp->VK->Prop
noncomputable def jk (X:Cx) (f:Value->Value->Sem Value) (r:R2):Prop:=
 ∀(π:List (Addr×Obj)) (s:Shared) (σ:St) (H:Hp) (x y:V) (v u:Value) (Q:VK),aB X π σ H s->bc x v->bc y u->r x y H Q->
  wpAny (model X.prog X.w) X.A (f v u) (EP X π σ Q) X.xe s
noncomputable def ET (X:Cx) (f:Value->Sem Value) (r:V->Hp->VK->Prop):Prop:=
 ∀(π:List (Addr×Obj)) (s:Shared) (σ:St) (H:Hp) (x:V) (v:Value) (Q:VK),aB X π σ H s->bc x v->r x H Q->
  wpAny (model X.prog X.w) X.A (f v) (EP X π σ Q) X.xe s
noncomputable def gS (X:Cx) (f:Value) (r:List V->Hp->VK->Prop):Prop:=
 ∀(π:List (Addr×Obj)) (s:Shared) (σ:St) (H:Hp) (xs:List V) (us:ydw) (Q:VK),aB X π σ H s->aU xs us->r xs H Q->
  wpAny (model X.prog X.w) X.A (call f us) (EP X π σ Q) X.xe s
noncomputable def Co (r:R2) (ta tb:TE):TE:=λσ H Q=>ta σ H λx H1=>tb σ H1 λy H2=>r x y H2 Q
noncomputable def Hr (r:V->Hp->VK->Prop) (ta:TE):TE:=λσ H Q=>ta σ H λx H1=>r x H1 Q
noncomputable def rI (C:Int->Int->Prop) (g:Int->Int->V):R2:=λx y H Q=>∃i j,x=.int i/\y=.int j/\C i j/\Q (g i j) H
noncomputable def wP (g:Int->Int->V):R2:=λx y H Q=>∃i j,x=.int i/\y=.int j/\Q (g i j) H
noncomputable def rU (g:Int->V):V->Hp->VK->Prop:=λx H Q=>∃i,x=.int i/\Q (g i) H
section
variable {X:Cx} {a b c:Expr} {ta tb tc:TE} {pos:Pos}
theorem An (ha:PE X a ta) (hb:PE X b tb) {σ:St} {H:Hp} {R:V->V->Hp->Prop} (I:aB X π σ H s)
 (h:ta σ H λx H1=>tb σ H1 λy H2=>R x y H2) {Q:ydz} {f:Value->Value->Sem Value}
 (hf:∀v u s2 x y H2,aB X π σ H2 s2->bc x v->bc y u->R x y H2->wpAny (model X.prog X.w) X.A (f v u) Q X.xe s2):
 wpAny (model X.prog X.w) X.A (eval a X.env) (λv s₁=>wpAny (model X.prog X.w) X.A (eval b X.env) (λu s₂=>wpAny (model X.prog X.w) X.A (f v u) Q X.xe s₂) X.xe s₁) X.xe s:=by
 refine bR (ha π s σ H _ I h) λv s1 z9=>?_;obtain⟨x,H1,I1,r1,q1⟩:=z9;refine bR (hb π s1 σ H1 _ I1 q1) λu s2 z9=>?_;obtain⟨y,H2,I2,r2,q2⟩:=z9;exact hf v u s2 x y H2 I2 r1 r2 q2
theorem Cp {op:Operator} {r:R2} (ho:jk X (binaryOp op) r) (ha:PE X a ta) (hb:PE X b tb):PE X (.BinOp a op b pos) (Co r ta tb):=by
 intro π s σ H Q I h;exact wpAny_BinOp (An ha hb I h λv u s2 x y H2 I2 rx ry q=>ho π s2 σ H2 x y v u Q I2 rx ry q)
theorem Cq {op:UnaryOp} {r:V->Hp->VK->Prop} (ho:ET X (unaryOp op) r) (ha:PE X a ta):PE X (.UnaryOp op a pos) (Hr r ta):=by
 intro π s σ H Q I h;exact UnaryOp_ (bR (ha π s σ H _ I h) λv s1 ⟨x,H1,I1,r1,q1⟩=>ho π s1 σ H1 x v Q I1 r1 q1)
theorem Et {f:Value->Value->Sem Value} {C:Int->Int->Prop} {g:Int->Int->Int}
 (rule:∀(i j:Int) (t u:Tok) (s:Shared) (Q:ydz) (E:ydz),C i j->Q (.int (g i j) s.toks) { s with toks:=s.toks+1 }->wpAny (model X.prog X.w) X.A (f (.int i t) (.int j u)) Q E s):
 jk X f (rI C λi j=> .int (g i j)):=by
 intro π s σ H x y v u Q I rx ry h;obtain⟨i,j,rfl,rfl,hc,q⟩:=h;obtain⟨t,rfl⟩:=rx;obtain⟨t',rfl⟩:=ry;exact rule i j t t' s _ _ hc ⟨.int (g i j),H,I.tok _,⟨_,rfl⟩,q⟩
theorem Cr {f:Value->Value->Sem Value} {g:Int->Int->Int}
 (rule:∀(i j:Int) (t u:Tok) (s:Shared) (Q:ydz) (E:ydz),Q (.int (g i j) s.toks) { s with toks:=s.toks+1 }->wpAny (model X.prog X.w) X.A (f (.int i t) (.int j u)) Q E s):
 jk X f (wP λi j=> .int (g i j)):=by
 intro π s σ H x y v u Q I rx ry h;obtain⟨i,j,rfl,rfl,q⟩:=h;obtain⟨t,rfl⟩:=rx;obtain⟨t',rfl⟩:=ry;exact rule i j t t' s _ _ ⟨.int (g i j),H,I.tok _,⟨_,rfl⟩,q⟩
theorem wQ {f:Value->Value->Sem Value} {g:Int->Int->Bool}
 (rule:∀(i j:Int) (t u:Tok) (s:Shared) (Q:ydz) (E:ydz),Q (.bool (g i j)) s->wpAny (model X.prog X.w) X.A (f (.int i t) (.int j u)) Q E s):
 jk X f (wP λi j=> .bl (g i j)):=by
 intro π s σ H x y v u Q I rx ry h;obtain⟨i,j,rfl,rfl,q⟩:=h;obtain⟨t,rfl⟩:=rx;obtain⟨t',rfl⟩:=ry;exact rule i j t t' s _ _ ⟨.bl (g i j),H,I,rfl,q⟩
noncomputable def Ct (i j:Int):Prop:=0<j/\j<1073741824
noncomputable def Ao (i j:Int):Prop:=0<=j/\j<=1000000/\i.natAbs<2^64
noncomputable def wR (i j:Int):Prop:=(-(2^64)<i/\i<2^64)∨(-(2^64)<j/\j<2^64)
theorem wR.ok {i j:Int} (h:wR i j):IntMulOk i j:=by
 rcases h with⟨h1,h2⟩ | ⟨h1,h2⟩
 ·exact .of_left (intBits_le_64 h1 h2)
 ·exact .of_right (intBits_le_64 h1 h2)
theorem Ap:jk X (binaryOp .Add) (wP λi j=> .int (i+j)):=Cr λ_ _ _ _ _ _ _ q=>add_int q
theorem Aq:jk X (binaryOp .Sub) (wP λi j=> .int (i-j)):=Cr λ_ _ _ _ _ _ _ q=>sub_int q
theorem Ar:jk X (binaryOp .Mod) (rI (λ_ j=>0<j) λi j=> .int (i%j)):=Et λi j _ _ _ _ _ hc q=>by
 have h1:(0:Int)<j:=hc;exact mod_int' (by lia) (by rw[Int.fmod_eq_emod_of_nonneg i (by lia)];exact q)
theorem Hs {f:Value->Sem Value} {g:Int->Int}
 (rule:∀(i:Int) (t:Tok) (s:Shared) (Q:ydz) (E:ydz),Q (.int (g i) s.toks) { s with toks:=s.toks+1 }->wpAny (model X.prog X.w) X.A (f (.int i t)) Q E s):
 ET X f (rU λi=> .int (g i)):=by
 intro π s σ H x v Q I rx h;obtain⟨i,rfl,q⟩:=h;obtain⟨t,rfl⟩:=rx;exact rule i t s _ _ ⟨.int (g i),H,I.tok _,⟨_,rfl⟩,q⟩
theorem As:ET X (unaryOp .USub) (rU λi=> .int (-i)):=Hs λ_ _ _ _ _ q=>neg_int q
end
section
variable {X:Cx} {a b c:Expr} {ta tb tc:TE} {pos:Pos}
theorem At {σ:St} {H:Hp} {Q:VK} {k k':Bool} (I:aB X π σ H s) (q:Q (.bl k) H) (e:k=k'):EP X π σ Q (.bool k') s:=by
 subst e;exact⟨.bl k,H,I,rfl,q⟩
theorem Cu:jk X (compareOp .Lt) (wP λi j=> .bl (decide (i<j))):=wQ λ_ _ _ _ _ _ _ q=>lt_int q
theorem Cv:jk X (compareOp .LtE) (wP λi j=> .bl (decide (i<=j))):=wQ λ_ _ _ _ _ _ _ q=>le_int q
theorem Cw:jk X (compareOp .Gt) (wP λi j=> .bl (decide (j<i))):=wQ λ_ _ _ _ _ _ _ q=>gt_int q
theorem Cy:jk X (compareOp .GtE) (wP λi j=> .bl (decide (j<=i))):=wQ λ_ _ _ _ _ _ _ q=>ge_int q
theorem wS:jk X (compareOp .IsNot) (λx y H Q=>y=.non/\Q (.bl (!decide (x=.non))) H):=by
 intro π s σ H x y v u Q I rx ry h;obtain⟨rfl,q⟩:=h;cases ry;refine isnot_none_gen (At I q ?_);cases x<;> first
  | (cases rx;rfl)
  | (obtain⟨t,rfl⟩:=rx;rfl)
theorem tu (b:Expr) {op:CmpOp} (h:op≠ .In:=by decide) (h2:op≠ .NotIn:=by decide):behindInMarks op b=false:=by
 have e1:(op==CmpOp.In)=false:=by cases op<;> first | rfl | exact absurd rfl h
 have e2:(op==CmpOp.NotIn)=false:=by cases op<;> first | rfl | exact absurd rfl h2
 cases b<;> simp[behindInMarks,e1,e2]
theorem wT {op:CmpOp} {r:R2} (ho:jk X (compareOp op) r) (ha:PE X a ta) (hb:PE X b tb) (hm:behindInMarks op b=false):PE X (.Compare a [op] [b] pos) (Co r ta tb):=by
 intro π s σ H Q I h;exact wpAny_Compare1 (An ha hb I h λv u s2 x y H2 I2 rx ry q=>ho π s2 σ H2 x y v u Q I2 rx ry q) hm
noncomputable def ze (t:TE):TT:=λσ H Q=>t σ H λx H'=>∃k,x=.bl k/\Q k H'
theorem wU {op:CmpOp} {r:R2} (ho:jk X (compareOp op) r) (ha:PE X a ta) (hb:PE X b tb) (hm:behindInMarks op b=false):PT X (.Compare a [op] [b] pos) (ze (Co r ta tb)):=by
 intro π s σ H Q I h;refine wpAny_isTrue_Compare1 (bR (ha π s σ H _ I h) λv s1 ⟨x,H1,I1,r1,q1⟩=>bR (hb π s1 σ H1 _ I1 q1) λu s2 ⟨y,H2,I2,r2,q2⟩=>
  bR (ho π s2 σ H2 x y v u _ I2 r1 r2 q2) λc s3 ⟨z,H3,I3,r3,k,e,q3⟩=>?_) hm
 subst e;cases r3;exact wpAny_truthy_bool ⟨H3,I3,q3⟩
theorem jC:(sizeLine:Nat)<2^63:=by rw[sizeLine_eq];decide
theorem oO:jk X (binaryOp .Add) (λx y H Q=>∃i j,x=.str i/\y=.str j/\i.length+j.length<=sizeLine/\Q (.str (i++j)) H):=by
 intro π s σ H x y v u Q I rx ry h;obtain⟨i,j,rfl,rfl,hz,q⟩:=h;obtain⟨t,rfl⟩:=rx;obtain⟨t',rfl⟩:=ry;exact add_str (λt' tk=>⟨.str (i++j),H,I.tok _,⟨_,rfl⟩,q⟩) hz
theorem fT {x:V} (r:aU [x] us):∃u,us=[u]/\bc x u:=by
 cases r with
 | cons r1 r2=>cases r2;exact⟨_,rfl,r1⟩
theorem qh {x y:V} (r:aU [x,y] us):∃u w',us=[u,w']/\bc x u/\bc y w':=by
 cases r with
 | cons r1 r2=>
   cases r2 with
   | cons r3 r4=>cases r4;exact⟨_,_,rfl,r1,r3⟩
theorem rQ (hc:X.calm=true):gS X (.builtin "max") (λxs H Q=>∃i j,xs=[.int i,.int j]/\Q (.int (if j > i then j else i)) H):=by
 intro π s σ H xs us Q I r h;obtain⟨i,j,rfl,q⟩:=h;obtain⟨u,w',rfl,⟨t,rfl⟩,⟨t',rfl⟩⟩:=qh r;refine max_two_ints (I.ok.hd hc) λh' tk k=>⟨_,H,I.kept k,?_,q⟩
 by_cases hj:j > i
 ·rw[ycx hj,ycx hj];exact⟨_,rfl⟩
 ·rw[ybv hj,ybv hj];exact⟨_,rfl⟩
end
structure oP (h:Heap) (x dx C:Addr) (mA:ydv):Prop where
 obj:h.get? x=some (instObj C dx)
 ns:h.Ns1 dx mA
 ne:dx≠x
theorem rR {h:Heap} {dx:Addr} {mA:ydv} (n:h.Ns1 dx mA):∃od,h.get? dx=some od/\∀name,lookIn name od=some (mA name):=by
 obtain⟨o,es,ep,ho,hd,hk,_,hm⟩:=n;refine⟨o,ho,λname=>?_⟩;have e:=hm name;unfold nsFind findBy at e;rw[←Array.find?_toList] at e;unfold lookIn;rw[hd];dsimp only;split
 ·rename_i y q;rw[q] at e;exact congrArg some e
 ·rename_i q;rw[q] at e;have a:es.toList.any (·.refKey)=false:=by
   rw[List.any_eq_false];intro y hy;obtain⟨z,t,hkey⟩:=hk y (Array.mem_toList_iff.mp hy);simp[DictEntry.refKey,hkey]
  have a':¬es.toList.any (·.refKey)=true:=by rw[a];exact ycy
  rw[ybv a'];exact congrArg some e
theorem oP.look {h:Heap} {x dx C:Addr} {mA:ydv} (I:oP h x dx C mA):∃od,PySem.W.InstAt h x (instObj C dx) C (some od)/\∀name,lookIn name od=some (mA name):=
 let ⟨od,ho,hl⟩:=rR I.ns
 ⟨od,⟨I.obj,rfl,rfl,ho⟩,hl⟩
section
variable {prog:Program} {w:World} {A:Around} {E:ydz} {s:Shared} {K:yax} {x dx C f:Addr} {mA:ydv} {name:Str} {v:Value}
theorem wV {expr:Bool} (X:K.In s.heap) (I:oP s.heap x dx C mA) (hg:plainGet K C name=true) (hh:hasDictIn K C=true)
 (ha:findIn K (.ref C) name=some none) (hv:mA name=some v) (hv':PySem.W.handedIn v=true) (h:Q v { s with toks:=s.toks+1 }):
 wpAny (model prog w) A (getAttr (.ref x) name expr) Q E s:=by
 obtain⟨od,J,hl⟩:=I.look;exact PySem.W.get_value X J (PySem.W.plainGet_of hg).1 (PySem.W.findObj_own hh ha rfl (by rw[hl,hv])) hv' h
theorem tw {pl:Sem Bool} {Q:Value×List Value->Shared->Prop} (X:K.In s.heap) (I:oP s.heap x dx C mA) (hg:plainGet K C name=true)
 (hf:findIn K (.ref C) name=some (some (.ref f))) (ht:isFn K (.ref f)=true) (hv:mA name=none) (h:Q (.ref f,[.ref x]) s):
 wpAny (model prog w) A (getMethod (.ref x) name pl) Q E s:=by
 obtain⟨od,J,hl⟩:=I.look;exact PySem.W.method_fn X J (PySem.W.plainGet_of hg).1 (PySem.W.plainGet_of hg).2 hf (beq_iff_eq.mp ht) (by show(lookIn name od).map (·.isSome)=some false;rw[hl,hv];rfl) h
theorem wW {ns:List Str} {Q:Unit->Shared->Prop} (X:K.In s.heap) (I:oP s.heap x dx C mA)
 (hs:findIn K (.ref C) "__setattr__"=some (some (.builtin "object.__setattr__"))) (hp:plainOver K C=true) (ht:PySem.W.takerIn K C name=some none) (hh:hasDictIn K C=true)
 (hw:PySem.Within mA ns) (hsz:ns.length<=sizeLine)
 (h:∀h',oP h' x dx C (λy=>if y=name then some v else mA y)->Heap.SameBut dx s.heap h'->Q () { s with heap:=h',toks:=s.toks+2 }):
 wpAny (model prog w) A (setAttr (.ref x) name v) Q E s:=by
 obtain⟨od,J,hl⟩:=I.look;refine PySem.W.set_plain X J hs (PySem.W.osa_open (s:={ s with toks:=s.toks+1 }) (r:=none) X J hp ht λb=>?_);obtain⟨cd,hc,hd'⟩:=PySem.W.any_some hh;have hx:s.heap.get? x=some ⟨.ref C,some dx,.plain,#[]⟩:=I.obj;refine wax (way (wax (wax (wpAny_loadPart hx (wax (PySem.W.Looks.here (s:={ s with toks:=s.toks+1 }) (PySem.W.looks_clsIn X hc) ?_))))));rw[hd'];refine way (a:=some dx) (wax (way (wax ?_)));refine wpAny_nsSet1 (s:={ s with toks:=s.toks+1 }) I.ns λh' hn2 hs2=>?_;obtain⟨oD,esD,epD,hoD,hdD,hcD⟩:=hn2.count (PySem.Within.cons name v hw);refine wax (wpAny_lookBehind hoD (by rw[hdD];exact pastItsLine_dict (ybz hcD (by rw[length_cons];lia))) ?_);exact way (h _ ⟨(hs2.2 _ (Ne.symm I.ne)).trans I.obj,hn2,I.ne⟩ hs2)
theorem tD {R:Result->Shared->Prop} {vs:ydw} {kw:List (Str×Value)} (X:K.In s.heap) (hm:makesIn K C=true)
 (hi:findIn K (.ref C) "__init__"=some (some (.ref f))) (hf:typeIn K (.ref f)=some (.type "function"))
 (h:codeAny (model prog w) (A.under (.builtin "type.__call__" ⟨.ref C::vs,kw⟩)) (.call (.ref f) ⟨.ref (s.heap.objs.size+1)::vs,kw⟩) (PySem.W.InitBack (s.heap.objs.size+1) R)
   { s with heap:=(s.heap.push emptyDict).push (instObj C s.heap.objs.size) }):
 codeAny (model prog w) A (.call (.ref C) ⟨vs,kw⟩) R s:=by
 obtain⟨hh,g,d,t,os⟩:=s;exact PySem.W.make_core (PySem.W.makes_of X hm) (PySem.W.looks_findIn X hi) (λself=>PySem.W.bind_fn X self hf) (.inl rfl) h
end
noncomputable def et (f:Str) (v:V):List (Str×V)->List (Str×V)
 | []=>[(f,v)]
 | (g,x)::r=>if g=f then (g,v)::r else (g,x)::et f v r
theorem iX (f g:Str) (v:V):∀fs:List (Str×V),(et f v fs).lookup g=if g=f then some v else fs.lookup g
 | []=>by
   show List.lookup g [(f,v)]=_
   by_cases h:g=f
   ·have hb:(g==f)=true:=beq_iff_eq.mpr h;simp only[List.lookup,hb,ycx h]
   ·have hb:(g==f)=false:=beq_eq_false_iff_ne.mpr h;simp only[List.lookup,hb,ybv h]
 | (k,x)::r=>by
   have ih:=iX f g v r;rw[show et f v ((k,x)::r)=(if k=f then (k,v)::r else (k,x)::et f v r) from rfl]
   by_cases hk:k=f
   ·rw[ycx hk]
    by_cases h:g=k
    ·have hb:(g==k)=true:=beq_iff_eq.mpr h;simp only[List.lookup,hb,ycx (h.trans hk)]
    ·have hb:(g==k)=false:=beq_eq_false_iff_ne.mpr h;simp only[List.lookup,hb,ybv (λe:g=f=>h (e.trans hk.symm))]
   ·rw[ybv hk]
    by_cases h:g=k
    ·have hb:(g==k)=true:=beq_iff_eq.mpr h;simp only[List.lookup,hb,ybv (λe:g=f=>hk (h.symm.trans e))]
    ·have hb:(g==k)=false:=beq_eq_false_iff_ne.mpr h;simp only[List.lookup,hb];exact ih
theorem iy (f:Str) (v:V):∀fs:List (Str×V),f∈(et f v fs).map (·.1)/\∀g,g∈fs.map (·.1)->g∈(et f v fs).map (·.1)
 | []=>⟨by simp[et],λg h=>by simp at h⟩
 | (k,x)::r=>by
   obtain⟨i1,i2⟩:=iy f v r;rw[show et f v ((k,x)::r)=(if k=f then (k,v)::r else (k,x)::et f v r) from rfl]
   by_cases hk:k=f
   ·rw[ycx hk];subst hk;exact⟨by simp,λg h=>by simpa using h⟩
   ·rw[ybv hk];refine⟨?_,λg h=>?_⟩
    ·rw[map_cons];exact yay _ i1
    ·rw[map_cons] at h ⊢;rcases mem_cons.mp h with e | e
     ·exact mem_cons.mpr (.inl e)
     ·exact yay _ (i2 g e)
theorem iY (f:Str) (v:V):∀fs:List (Str×V),(et f v fs).length<=fs.length+1
 | []=>by simp[et]
 | (k,x)::r=>by
   have ih:=iY f v r;rw[show et f v ((k,x)::r)=(if k=f then (k,v)::r else (k,x)::et f v r) from rfl]
   by_cases hk:k=f
   ·rw[ycx hk,length_cons,length_cons];lia
   ·rw[ybv hk,length_cons,length_cons];lia
theorem gf.some_of {v:V} {o:Option Value} (r:gf (some v) o):∃u,o=some u/\bc v u:=by
 cases o with
 | none=>exact(show False from r).elim
 | some u=>exact⟨u,rfl,r⟩
theorem gf.none_of {o:Option Value} (r:gf none o):o=none:=by
 cases o with
 | none=>rfl
 | some u=>exact(show False from r).elim
theorem rS {v:V} (r:bc v u):PySem.W.handedIn u=true:=by
 cases v with
 | non=>cases (show u=Value.none from r);rfl
 | bl b=>cases (show u=Value.bool b from r);rfl
 | int i=>obtain⟨t,e⟩:=(show ∃t,u=Value.int i t from r);cases e;rfl
 | str x=>obtain⟨t,e⟩:=(show ∃t,u=Value.str x t from r);cases e;rfl
 | byt b=>obtain⟨t,e⟩:=(show ∃t,u=Value.bytes b t from r);cases e;rfl
 | flt b=>obtain⟨t,e⟩:=(show ∃t,u=Value.float b t from r);cases e;rfl
 | ref a=>cases (show u=Value.ref a from r);rfl
 | ty n=>cases (show u=Value.type n from r);rfl
section
variable {P:Program} {w:World} {H H':Hp} {h h':Heap} {a C dx:Addr} {fs fs':List (Str×V)}
theorem jq (hok:fP P w H h) (e:H a=some (.ins C dx fs)):∃mA,oP h a dx C mA/\(∀f,gf (fs.lookup f) (mA f))/\PySem.Within mA (fs.map (·.1))/\fs.length<=1000/\H dx=some (.own a):=by
 obtain⟨d,z,ne,ob,mA,n,r,q⟩:=(show bD P w H h a (.ins C dx fs) from hok a _ e);exact⟨mA,⟨ob,n,ne⟩,r,q,z,d⟩
end
structure dq (K:yax) (C:Addr):Prop where
 pg:plainGet K C Str.empty=true
 hd:hasDictIn K C=true
 po:plainOver K C=true
 sa:findIn K (.ref C) "__setattr__"=some (some (.builtin "object.__setattr__"))
theorem dq.get {C:Addr} (c:dq K C) (f:Str):plainGet K C f=true:=c.pg
noncomputable def ay (K:yax) (C:Addr) (f:Str):Prop:=findIn K (.ref C) f=some none
theorem ay.taker {C:Addr} {f:Str} (n:ay K C f):PySem.W.takerIn K C f=some none:=by
 unfold PySem.W.takerIn;rw[show findIn K (.ref C) f=some none from n]
 rfl
structure Is (K:yax) (C:Addr) (f:Str) (v:V) (u:Value):Prop where
 at_:findIn K (.ref C) f=some (some u)
 rel:bc v u
 get:PySem.W.specialIn K u "__get__"=some none
 cp:PySem.W.copiedNames.contains f=false
structure rT (K:yax) (C:Addr) (m:Str) (f:Addr):Prop where
 at_:findIn K (.ref C) m=some (some (.ref f))
 fn:isFn K (.ref f)=true
 kp:keepIn K (.ref f)=true
section
variable {X:Cx} {π:List (Addr×Obj)} {σ:St} {H:Hp} {s:Shared} {a C dx:Addr} {fs:List (Str×V)} {f:Str} {v:V} {A:Around} {E:ydz}
theorem oQ {b:Bool} (I:aB X π σ H s) (e:H a=some (.ins C dx fs)) (c:dq X.K C) (n:ay X.K C f) (l:fs.lookup f=some v)
 (h:∀u s',aB X π σ H s'->bc v u->Q u s'):wpAny (model X.prog X.w) A (getAttr (.ref a) f b) Q E s:=by
 obtain⟨mA,O,r,_,_,_⟩:=jq I.hok e;obtain⟨u,hu,ru⟩:=gf.some_of (v:=v) (o:=mA f) (by rw[←l];exact r f);exact wV I.kIn O (c.get f) c.hd n hu (rS ru) (h u _ (I.tok _) ru)
theorem jD {m:Str} {g:Addr} {pl:Sem Bool} {Q:Value×List Value->Shared->Prop} (I:aB X π σ H s) (e:H a=some (.ins C dx fs)) (c:dq X.K C) (k:rT X.K C m g) (l:fs.lookup m=none)
 (h:Q (.ref g,[.ref a]) s):wpAny (model X.prog X.w) A (getMethod (.ref a) m pl) Q E s:=by
 obtain⟨mA,O,r,_,_,_⟩:=jq I.hok e;have hn:mA m=none:=gf.none_of (by rw[←l];exact r m);exact tw I.kIn O (c.get m) k.at_ k.fn hn h
theorem oS {y:V} {Q:Unit->Shared->Prop} (I:aB X π σ H s) (e:H a=some (.ins C dx fs)) (c:dq X.K C) (n:ay X.K C f) (hl:fs.length<1000) (ry:bc y u)
 (h:∀s',aB X π σ (upd H a (.ins C dx (et f y fs))) s'->Q () s'):wpAny (model X.prog X.w) A (setAttr (.ref a) f u) Q E s:=by
 obtain⟨mA,O,r,wi,_,ho⟩:=jq I.hok e;have hz:(fs.map (·.1)).length<=sizeLine:=by rw[length_map,sizeLine_eq];lia
 refine wW I.kIn O c.sa c.po n.taker c.hd wi hz λh' O' sb=>h _ ?_;have hd:∃o,h'.get? dx=some o:=let ⟨o,_,_,e',_⟩:=O'.ns;⟨o,e'⟩;refine I.write (x:=a) (e:=dx) (by rw[e];exact True.intro) (.inr ho) (λb q hb z=>(sb.2 b hb).trans z) hd ?_;refine⟨by rw[aG O.ne];exact ho,?_,O.ne,O'.obj,_,O'.ns,λg=>?_,λg hg=>?_⟩
 ·have:=iY f y fs;lia
 ·show gf ((et f y fs).lookup g) (if g=f then some u else mA g);rw[iX]
  by_cases q:g=f
  ·rw[ycx q,ycx q];exact ry
  ·rw[ybv q,ybv q];exact r g
 ·by_cases q:g=f
  ·rw[q];exact(iy f y fs).1
  ·refine(iy f y fs).2 g (wi g λz=>hg ?_);show(if g=f then some u else mA g)=none;rw[ybv q];exact z
theorem aB.made (I:aB X π σ H s):aB X π σ (upd (upd H s.heap.objs.size (.own (s.heap.objs.size+1))) (s.heap.objs.size+1) (.ins C s.heap.objs.size []))
 { s with heap:=(s.heap.push emptyDict).push (instObj C s.heap.objs.size) }:=by
 have e1:(s.heap.push emptyDict).get? s.heap.objs.size=some emptyDict:=yav s.heap rfl;have e2:((s.heap.push emptyDict).push (instObj C s.heap.objs.size)).get? (s.heap.objs.size+1)=some (instObj C s.heap.objs.size):=by
  have:=yav (s.heap.push emptyDict) (o:=instObj C s.heap.objs.size) rfl
  rwa [Heap.size_push] at this
 have e3:(s.heap.push emptyDict).Ns s.heap.objs.size (λ_=>none):=⟨emptyDict,#[],_,e1,rfl,(λe he=>absurd he (by simp)),λ_=>rfl⟩;have I1:=I.laid (a:=s.heap.objs.size) (o:= .own (s.heap.objs.size+1)) (h':=s.heap.push emptyDict) (t':=s.toks) (λb u q=>yaw _ q) (yby _) ⟨_,e1⟩;refine I1.laid (a:=s.heap.objs.size+1) (o:= .ins C s.heap.objs.size []) (t':=s.toks) (λb u q=>yaw _ q) (Nat.le_of_eq (Heap.size_push _ _)) ?_;have ne:s.heap.objs.size≠s.heap.objs.size+1:=ne_of_lt (Nat.lt_succ_self _);refine⟨by rw[aG ne,aX],zero_le _,ne,e2,λ_=>none,(Heap.Ns1.of_empty e3).at λo q=>yaw _ q,λ_=>True.intro,λy hy=>absurd rfl hy⟩
theorem wX {env:Env} {f:Str} (hb:attributeBase e f env (eval e env)=eval e env)
 (h:wpAny (model prog w) A (eval e env) (λo s₁=>wpAny (model prog w) A (getAttr o f true) Q E s₁) E s):wpAny (model prog w) A (eval (.Attribute e f pos) env) Q E s:=
 Attribute_any_ h (by rw[arm_eval_Attribute,hb])
end
noncomputable def EU (K:yax) (ta:TE) (f:Str):TE:=λσ H Q=>ta σ H λx H1=>∃a C dx fs v,x=.ref a/\H1 a=some (.ins C dx fs)/\dq K C/\ay K C f/\fs.lookup f=some v/\Q v H1
noncomputable def EV (K:yax) (ta tv:TE) (f:Str):TS:=λD σ H=>tv σ H λy H1=>ta σ H1 λx H2=>∃a C dx fs,x=.ref a/\H2 a=some (.ins C dx fs)/\dq K C/\ay K C f/\fs.length<1000/\
 D.nx σ (upd H2 a (.ins C dx (et f y fs)))
section
variable {X:Cx} {o e value:Expr} {f:Str} {pos pos' tpos:Pos} {ta tv:TE}
theorem Au (he:PE X e ta) (hb:attributeBase e f X.env (eval e X.env)=eval e X.env):PE X (.Attribute e f pos) (EU X.K ta f):=by
 intro π s σ H Q I h;refine wX hb (bR (he π s σ H _ I h) λu s1 z9=>?_);obtain⟨x,H1,I1,rx,a,C,dx,fs,v,ex,ea,c,n,l,q⟩:=z9;subst ex;obtain rfl:u=Value.ref a:=rx;exact oQ I1 ea c n l λu' s2 I2 ru=>⟨v,H1,I2,ru,q⟩
theorem Av (ha:PE X o ta) (hv:PE X value tv) (hs:swapsWith value (some (.Attribute o f pos')) pos.line X.env=pure false):PS X (.Assign [.Attribute o f pos'] value pos) (EV X.K ta tv f):=by
 intro π s σ H D I h;refine plainObj_wpAny_Assign_Attribute (bR (hv π s σ H _ I h) λu s1 ⟨y,H1,I1,ry,q⟩=>bR (ha π s1 σ H1 _ I1 q) λov s2 z9=>?_) hs;obtain⟨x,H2,I2,rx,a,C,dx,fs,ex,ea,c,n,l,q2⟩:=z9;subst ex;obtain rfl:ov=Value.ref a:=rx;exact oS I2 ea c n l ry λs3 I3=>⟨σ,_,I3,q2⟩
end
section
variable {X:Cx} {π:List (Addr×Obj)} {σ:St} {H:Hp} {s:Shared} {A:Around} {E:ydz} {Q:ydz} {c:Value} {b:Bool}
inductive iz (K:yax) (H:Hp):V->Value->Prop where
 | non:iz K H .non (.type "NoneType")
 | bl (x:Bool):iz K H (.bl x) (.type "bool")
 | int (i:Int):iz K H (.int i) (.type "int")
 | str (x:Str):iz K H (.str x) (.type "str")
 | flt (x:UInt64):iz K H (.flt x) (.type "float")
 | lst {a:Addr} {xs:List V} (e:H a=some (.lst xs)):iz K H (.ref a) (.type "list")
 | frz {a:Addr} {o:Obj} {xs:List V} (e:H a=some (.frz o (.lst xs))):iz K H (.ref a) (.type "list")
 | tup {a:Addr} {xs:List V} (e:H a=some (.tup xs)):iz K H (.ref a) (.type "tuple")
 | dK {a:Addr} {kvs:List (ax×V)} (e:H a=some (.dK kvs)):iz K H (.ref a) (.type "dict")
 | dT {a:Addr} {kvs:List (List ax×V)} (e:H a=some (.dT kvs)):iz K H (.ref a) (.type "dict")
 | ins {a C dx:Addr} {fs:List (Str×V)} (e:H a=some (.ins C dx fs)) (cl:dq K C) (ha:findIn K (.ref C) "__class__"=some (some (.builtin "object.__class__")))
    (hn:PySem.W.specialIn K (.builtin "object.__class__") "__get__"=some (some (.builtin "getset_descriptor.__get__"))) (htk:PySem.W.takesIn K (.builtin "object.__class__")=some true)
    (hm:mroIn K C (.type "object")=some true):iz K H (.ref a) (.ref C)
theorem rV {x:V} {u t:Value} (I:aB X π σ H s) (rx:bc x u) (ty:iz X.K H x t) (e:PySem.W.kitOne X.K t c=some b) (h:∀tk,Q (.bool b) { s with toks:=tk }):
 wpAny (model X.prog X.w) A (call (.builtin "isinstance") [u,c]) Q E s:=by
 cases ty with
 | non=>cases (show u=Value.none from rx);exact kia_one PySem.W.kitx_none I.kIn True.intro e (λz=>nomatch z) h
 | bl y=>cases (show u=Value.bool y from rx);exact kia_one PySem.W.kitx_bool I.kIn True.intro e (λz=>nomatch z) h
 | int i=>obtain⟨t,q⟩:=(show ∃t,u=Value.int i t from rx);cases q;exact kia_one PySem.W.kitx_int I.kIn True.intro e (λz=>nomatch z) h
 | str y=>obtain⟨t,q⟩:=(show ∃t,u=Value.str y t from rx);cases q;exact kia_one PySem.W.kitx_str I.kIn True.intro e (λz=>nomatch z) h
 | flt y=>obtain⟨t,q⟩:=(show ∃t,u=Value.float y t from rx);cases q;exact kia_one PySem.W.kitx_float I.kIn True.intro e (λz=>nomatch z) h
 | @lst a xs ea=>
   cases (show u=Value.ref a from rx);obtain⟨_,_,n,_,h1⟩:=(show bD X.prog X.w H s.heap a (.lst xs) from I.hok a _ ea);exact kia_one PySem.W.kitx_list I.kIn ⟨_,h1,rfl⟩ e (λz=>nomatch z) h
 | @frz a ob xs ea=>
   cases (show u=Value.ref a from rx);obtain⟨_,_,_,n,_,h1⟩:=(show bD X.prog X.w H s.heap a (.frz ob (.lst xs)) from I.hok a _ ea);exact kia_one PySem.W.kitx_list I.kIn ⟨_,h1,rfl⟩ e (λz=>nomatch z) h
 | @tup a xs ea=>
   cases (show u=Value.ref a from rx);obtain⟨_,_,_,p⟩:=(show bD X.prog X.w H s.heap a (.tup xs) from I.hok a _ ea);obtain⟨o,h1,h2,_⟩:=p;exact kia_one PySem.W.kitx_tuple I.kIn ⟨o,h1,h2⟩ e (λz=>nomatch z) h
 | @dK a kvs ea=>
   cases (show u=Value.ref a from rx);obtain⟨_,_,vs,_,p⟩:=(show bD X.prog X.w H s.heap a (.dK kvs) from I.hok a _ ea);obtain⟨o,es,ep,h1,h2,_⟩:=p;exact kia_one PySem.W.kitx_dict I.kIn ⟨o,h1,h2.1⟩ e (λz=>nomatch z) h
 | @dT a kvs ea=>
   cases (show u=Value.ref a from rx);obtain⟨_,_,xs,_,o,es,ep,h1,h2,_⟩:=(show bD X.prog X.w H s.heap a (.dT kvs) from I.hok a _ ea);exact kia_one PySem.W.kitx_dict I.kIn ⟨o,h1,h2.1⟩ e (λz=>nomatch z) h
 | @ins a C dx fs ea cl ha hn htk hm=>
   cases (show u=Value.ref a from rx);obtain⟨mA,O,_⟩:=jq I.hok ea;obtain⟨od,J,_⟩:=O.look;exact kia_one (PySem.W.kitx_own (cl.get _) cl.hd ha hn htk hm) I.kIn J e (λz=>nomatch z) h
end
structure aw (k:Nat) (A:Around):Prop where
 hd:A.handled=none
 dp:A.depth+3*k+5<recursionLimit
 un:A.units+16*k+200<cLine
theorem aw.mono {j k:Nat} (r:aw k A) (h:j<=k):aw j A:=⟨r.hd,by have:=r.dp;lia,by have:=r.un;lia⟩
theorem aw.deeper (r:aw (k+1) A) (env:Env):aw k (A.deeper env):=
 ⟨r.hd,by have:=r.dp;show A.depth+1+3*k+5<_;lia,by have:=r.un;show A.units+3+16*k+200<_;lia⟩
theorem oU {C:Addr} {kw:List (Str×Value)}:(A.under (.builtin "type.__call__" ⟨.ref C::us,kw⟩)).depth=A.depth+1:=by
 first | rfl | simp[Around.under,Code.weight,Code.isCreation,Code.isGuard,Code.isCaller,Code.frames,Code.isFrame,guardIds]
theorem oV {C:Addr} {kw:List (Str×Value)}:(A.under (.builtin "type.__call__" ⟨.ref C::us,kw⟩)).units=A.units+1:=by
 first | rfl | simp[Around.under,Code.cUnits,Code.frames,Code.isFrame]
theorem aw.make (r:aw (k+1) A) (C:Addr) (us:ydw) (kw:List (Str×Value)):aw k (A.under (.builtin "type.__call__" ⟨.ref C::us,kw⟩)):=
 ⟨r.hd,by have:=r.dp;rw[oU];lia,by have:=r.un;rw[oV];lia⟩
theorem aw.depth (r:aw k A):A.depth<recursionLimit:=by have:=r.dp;lia
noncomputable def wY:TA:=λ_ H Q=>Q [] H
noncomputable def tE (ta:TE) (tr:TA):TA:=λσ H Q=>ta σ H λx H1=>tr σ H1 λxs H2=>Q (x::xs) H2
section
variable {X:Cx} {e:Expr} {es:List Expr} {te:TE} {t:TA} {pos:Pos}
theorem pa_nil:PA X [] wY:=λ_ _ _ _ H Q I h=>Calls.spliced_nil ⟨[],H,I,.nil,h⟩
theorem cU (ha:PE X e te) (hr:PA X es t) (hs:starEach (e::es) X.env=(false,eval e X.env)::starEach es X.env:=by rfl):PA X (e::es) (tE te t):=by
 intro pos π s σ H Q I h;rw[hs];show wpAny _ _ (spliced ((false,eval e X.env)::backTo pos (starEach es X.env))) _ _ s;refine Calls.spliced_cons (bR (ha π s σ H _ I h) λu s1 z9=>?_);obtain⟨x,H1,I1,r1,q1⟩:=z9;exact bR (hr pos π s1 σ H1 _ I1 q1) λus s2 ⟨xs,H2,I2,r2,q2⟩=>⟨x::xs,H2,I2,.cons r1 r2,q2⟩
noncomputable def EW (t:TA):TE:=λσ H Q=>t σ H λxs H1=>xs.length<=sizeLine/\∀p,H1 p=none->Q (.ref p) (upd H1 p (.tup xs))
noncomputable def EX (t:TA):TE:=λσ H Q=>t σ H λxs H1=>xs.length<=sizeLine/\∀p,H1 p=none->Q (.ref p) (upd H1 p (.lst xs))
theorem Aw {x1} (h:PA X es t):PE X (.Tuple es x1 pos) (EW t):=by
 intro π s σ H Q I hq;refine wpAny_Tuple_spliced (bR (h pos π s σ H _ I hq) λus s1 ⟨xs,H1,I1,r,z,q⟩=>⟨by rw[←r.length];exact z,?_⟩);have hf:H1 s1.heap.objs.size=none:=I1.hok.fresh (yby _);refine⟨.ref s1.heap.objs.size,upd H1 s1.heap.objs.size (.tup xs),I1.laid (t':=s1.toks) (λb u e=>yaw _ e) (yby _) ?_,rfl,q _ hf⟩;exact⟨z,us,r,⟨_,yav _ rfl,rfl,_,rfl⟩⟩
theorem Ax (h:PA X es t):PE X (.List es pos) (EX t):=by
 intro π s σ H Q I hq;refine wpAny_List_spliced (bR (h pos π s σ H _ I hq) λus s1 ⟨xs,H1,I1,r,z,q⟩=>⟨by rw[←r.length];exact z,?_⟩);have hf:H1 s1.heap.objs.size=none:=I1.hok.fresh (yby _);refine⟨.ref s1.heap.objs.size,upd H1 s1.heap.objs.size (.lst xs),I1.laid (t':=s1.toks) (λb u e=>yaw _ e) (yby _) ?_,rfl,q _ hf⟩;exact⟨z,us,0,r,yav _ rfl⟩
end
noncomputable abbrev Sp:=List V->Hp->VK->XK->Prop
noncomputable abbrev oW:=List Env->Hp->Shared->XK->Value->Shared->Prop
structure mZ (P:Program) (w:World) (K:yax) (mg:ydv) (base:Heap) (A:Around) (outer:List Env) (s:Shared) (H:Hp):Prop where
 frames:A.frames=some outer
 mod:Mod K mg base
 bs:∀b o,base.get? b=some o->s.heap.get? b=some o/\H b=none
 bsz:base.objs.size<=s.heap.objs.size
 funs:s.heap.FunFrames base outer
 frf:∀b∈eJ outer,H b=none
 hok:fP P w H s.heap
 bare:AllBare s.gens
noncomputable def CE (outer:List Env) (P:Program) (w:World) (H:Hp) (s:Shared) (Q:VK) (u:Value) (s':Shared):Prop:=
 ∃v H',s'.os=s.os/\AllBare s'.gens/\Un (eJ outer) [] H H' s.heap s'.heap/\fP P w H' s'.heap/\bc v u/\Q v H'
noncomputable def CR (CX:oW) (outer:List Env) (P:Program) (w:World) (H:Hp) (s:Shared) (Q:VK) (E:XK) (r:Result) (s':Shared):Prop:=
 match r with
 | .ok (.ret u)=>CE outer P w H s Q u s'
 | .ok _=>False
 | .error e=>CX outer H s E e s'
structure dQ (P:Program) (w:World) (K:yax) (mg:ydv) (base:Heap) (CX:oW) (k:Nat) (f:Addr) (fd:FuncData) (ps:List Str) (sp:Sp):Prop where
 len:∀vs H Q E,sp vs H Q E->vs.length=ps.length
 run:∀(A:Around) (outer:List Env) (s:Shared) (H:Hp) (args:Args) (us:ydw) (vs:List V) (Q:VK) (E:XK),aw k A->mZ P w K mg base A outer s H->BindsTo s fd args (ps.zip us)->aU vs us->sp vs H Q E->
  codeAny (model P w) A (.call (.ref f) args) (CR CX outer P w H s Q E) s
theorem dQ.mono {CX:oW} {j k:Nat} {f:Addr} {sp:Sp} (F:dQ P w K mg base CX j f fd ps sp) (h:j<=k):
 dQ P w K mg base CX k f fd ps sp:=⟨F.len,λA outer s H args us vs Q E hr=>F.run A outer s H args us vs Q E (hr.mono h)⟩
theorem dQ.imp {CX:oW} {f:Addr} {sp sp':Sp} (F:dQ P w K mg base CX k f fd ps sp)
 (h:∀vs H Q E,sp' vs H Q E->sp vs H Q E):dQ P w K mg base CX k f fd ps sp':=
 ⟨λvs H Q E q=>F.len vs H Q E (h _ _ _ _ q),λA outer s H args us vs Q E hr he hb hv hs=>F.run A outer s H args us vs Q E hr he hb hv (h _ _ _ _ hs)⟩
theorem mZ.make {outer:List Env} {H:Hp} (e:mZ P w K mg base A outer s H) (C:Addr) (us:ydw) (kw:List (Str×Value)):
 mZ P w K mg base (A.under (.builtin "type.__call__" ⟨.ref C::us,kw⟩)) outer s H:=⟨by first | exact e.frames | (simpa[Around.under,Code.envs,Code.isFrame,pushEnvs] using e.frames),e.mod,e.bs,e.bsz,e.funs,e.frf,e.hok,e.bare⟩
section
variable {X:Cx} {π:List (Addr×Obj)} {σ:St} {H:Hp} {s s':Shared}
theorem aB.env0 (I:aB X π σ H s):mZ X.prog X.w X.K X.mg X.base X.A X.stack s H:=
 ⟨I.ok.frames,I.ok.mod,I.bs,ybz I.ok.bsz I.sz,I.stack,I.stkFree,I.hok,I.bare⟩
theorem aB.after {Q:VK} (I:aB X π σ H s) (h:CE X.stack X.prog X.w H s Q u s'):EP X π σ Q u s':=by
 obtain⟨v,H',os,bare,un,hok,r,q⟩:=h;obtain⟨hh,g,d,t,os'⟩:=s';obtain rfl:os'=s.os:=os;exact⟨v,H',I.call (h':=hh) (g':=g) (d':=d) (t':=t) (ch:=[]) un hok bare (λb z=>absurd z (by simp)),r,q⟩
end
noncomputable def tF (sp:Sp) (dvs:List V) (E:XK) (t:TA):TE:=λσ H Q=>t σ H λvs H1=>sp (vs++dvs) H1 Q E
noncomputable def tG (C:Addr) (m:Str) (sp:Sp) (dvs:List V) (E:XK) (ta:TE) (t:TA):TE:=λσ H Q=>ta σ H λx H1=>∃a dx fs,x=.ref a/\H1 a=some (.ins C dx fs)/\fs.lookup m=none/\
 t σ H1 λvs H2=>sp (x::(vs++dvs)) H2 Q E
noncomputable def zg (C:Addr) (sp:Sp) (dvs:List V) (E:XK) (t:TA):TE:=λσ H Q=>t σ H λvs H1=>∀x dx,H1 x=none->H1 dx=none->dx≠x->
 sp (.ref x::(vs++dvs)) (upd (upd H1 dx (.own x)) x (.ins C dx [])) (λv H2=>v=.non/\Q (.ref x) H2) E
noncomputable def bJ (K:yax) (fd:FuncData) (ps:List Str) (ds:ydw):Prop:=
 ∀(s:Shared) (us:ydw),K.In s.heap->(us++ds).length=ps.length->BindsTo s fd ⟨us,[]⟩ (ps.zip (us++ds))
theorem bJ.all (h:∀us:List Value,us.length=ps.length->bindArgs fd ⟨us,[]⟩=pure (ps.zip us)):bJ K fd ps []:=λs us _ hl=>by
 rw[append_nil] at hl ⊢;exact .of_eq (h us hl)
noncomputable def eK (CX:oW) (X:Cx) (E:XK):Prop:=∀(π:List (Addr×Obj)) (σ:St) (H:Hp) (s:Shared) (e:Value) (s':Shared),aB X π σ H s->CX X.stack H s E e s'->X.xe e s'
section
variable {X:Cx} {CX:oW} {k:Nat} {f C:Addr} {fd:FuncData} {ps:List Str} {sp:Sp} {dvs:List V} {ds:ydw} {E:XK} {x m:Str} {p pos apos:Pos} {e o:Expr} {es:List Expr} {ta:TE} {t:TA}
theorem lO {σ:St} {H:Hp} {Q:VK} {vs:List V} (F:dQ X.prog X.w X.K X.mg X.base CX k f fd ps sp) (hr:aw k X.A) (hb:bJ X.K fd ps ds) (hd:aU dvs ds) (hx:eK CX X E)
 (I:aB X π σ H s) (r:aU vs us) (h:sp (vs++dvs) H Q E):wpAny (model X.prog X.w) X.A (call (.ref f) us) (EP X π σ Q) X.xe s:=by
 have r2:aU (vs++dvs) (us++ds):=r.append hd;have hl:(us++ds).length=ps.length:=by rw[←r2.length];exact F.len _ _ _ _ h
 refine wpAny_call (codeAny_mono (F.run X.A X.stack s H ⟨us,[]⟩ (us++ds) (vs++dvs) Q E hr I.env0 (hb s us I.kIn hl) r2 h) λr s' hq=>?_);cases r with
 | error e=>exact hx π σ H s e s' I hq
 | ok fl=>
   cases fl with
   | ret u=>exact I.after hq
   | next=>exact False.elim hq
   | brk=>exact False.elim hq
   | cont=>exact False.elim hq
theorem qi (F:dQ X.prog X.w X.K X.mg X.base CX k f fd ps sp) (hr:aw k X.A) (hg:Gl X x) (hm:X.mg x=some (.ref f)) (hk:keepIn X.K (.ref f)=true) (hb:bJ X.K fd ps ds) (hd:aU dvs ds) (hx:eK CX X E)
 (ha:PA X (e::es) t) (hdb:(x==("__debug__":Str))=false:=by decide) (he:starEach (e::es) X.env=(false,eval e X.env)::starEach es X.env:=by rfl) (hpl:(backTo pos (starEach es X.env)).any (·.1)=false:=by rfl):
 PE X (.Call (.Name x p) (e::es) [] pos) (tF sp dvs E t):=by
 intro π s σ H Q I h;refine wpAny_Call_Name_kw (fG I hg hm ?_ hdb);refine callWith_K (h₀:=X.base) I.ok.mod.kin hk (bR (ha pos π s σ H _ I h) λus s1 ⟨vs,H1,I1,r,q⟩=>⟨I1.kIn,?_⟩) he hpl;exact lO F hr hb hd hx I1 r q
theorem tH (F:dQ X.prog X.w X.K X.mg X.base CX k f fd ps sp) (hr:aw k X.A) (hg:Gl X x) (hm:X.mg x=some (.ref f)) (hk:keepIn X.K (.ref f)=true) (hb:bJ X.K fd ps ds) (hd:aU dvs ds) (hx:eK CX X E)
 (hdb:(x==("__debug__":Str))=false:=by decide):PE X (.Call (.Name x p) [] [] pos) (tF sp dvs E wY):=by
 intro π s σ H Q I h;refine wpAny_Call_Name_kw (fG I hg hm ?_ hdb);exact PySem.W.callWith_K0 I.kIn hk (lO (us:=[]) F hr hb hd hx I .nil h)
theorem qj {pl:Sem Bool} (he:PE X o ta) (c:dq X.K C) (hm:rT X.K C m f) (F:dQ X.prog X.w X.K X.mg X.base CX k f fd ps sp) (hr:aw k X.A) (hb:bJ X.K fd ps ds) (hd:aU dvs ds) (hx:eK CX X E) (ha:PA X (e::es) t)
 (hst:starEach (e::es) X.env=(false,eval e X.env)::starEach es X.env:=by rfl) (hpl:(backTo pos (starEach es X.env)).any (·.1)=false:=by rfl)
 (ht:eval (.Call (.Attribute o m apos) (e::es) [] pos) X.env=(do
   let ov ←eval o X.env
   standAt apos.atName
   let (f,first) ←holding [ov] (getMethod ov m pl)
   callWith pos f first (backTo pos (starEach (e::es) X.env)) (backToKw pos (keywordEach [] X.env))):=by rfl):
 PE X (.Call (.Attribute o m apos) (e::es) [] pos) (tG C m sp dvs E ta t):=by
 intro π s σ H Q I h;refine PySem.W.methodCall_KW (pl:=pl) (bR (he π s σ H _ I h) λu s1 z9=>?_) ht;obtain⟨x,H1,I1,rx,a,dx,fs,ex,ea,l,q⟩:=z9;subst ex;obtain rfl:u=Value.ref a:=rx;refine jD I1 ea c hm l ?_;refine callWith_K (first:=[.ref a]) (h₀:=X.base) I.ok.mod.kin hm.kp (bR (ha pos π s1 σ H1 _ I1 q) λus s2 ⟨vs,H2,I2,r,q2⟩=>⟨I2.kIn,?_⟩) hst hpl;exact lO (us:= .ref a::us) (vs:= .ref a::vs) F hr hb hd hx I2 (.cons rfl r) q2
theorem tI {pl:Sem Bool} (he:PE X o ta) (c:dq X.K C) (hm:rT X.K C m f) (F:dQ X.prog X.w X.K X.mg X.base CX k f fd ps sp) (hr:aw k X.A) (hb:bJ X.K fd ps ds) (hd:aU dvs ds) (hx:eK CX X E)
 (ht:eval (.Call (.Attribute o m apos) [] [] pos) X.env=(do
   let ov ←eval o X.env
   standAt apos.atName
   let (f,first) ←holding [ov] (getMethod ov m pl)
   callWith pos f first (backTo pos (starEach [] X.env)) (backToKw pos (keywordEach [] X.env))):=by rfl):
 PE X (.Call (.Attribute o m apos) [] [] pos) (tG C m sp dvs E ta wY):=by
 intro π s σ H Q I h;refine PySem.W.methodCall_KW (pl:=pl) (bR (he π s σ H _ I h) λu s1 z9=>?_) ht;obtain⟨x,H1,I1,rx,a,dx,fs,ex,ea,l,q⟩:=z9;subst ex;obtain rfl:u=Value.ref a:=rx;refine jD I1 ea c hm l ?_;exact PySem.W.callWith_K0 (first:=[.ref a]) I1.kIn hm.kp (lO (us:=[.ref a]) (vs:=[.ref a]) F hr hb hd hx I1 (.cons rfl .nil) q)
structure Mk (K:yax) (C f:Addr):Prop where
 makes:makesIn K C=true
 init:findIn K (.ref C) "__init__"=some (some (.ref f))
 fn:isFn K (.ref f)=true
 kp:keepIn K (.ref C)=true
theorem tJ {σ:St} {H:Hp} {Q:VK} {vs:List V} (M:Mk X.K C f) (F:dQ X.prog X.w X.K X.mg X.base CX k f fd ps sp) (hr:aw (k+1) X.A) (hb:bJ X.K fd ps ds) (hd:aU dvs ds)
 (hx:eK CX X E) (I:aB X π σ H s) (r:aU vs us)
 (h:∀x dx,H x=none->H dx=none->dx≠x->sp (.ref x::(vs++dvs)) (upd (upd H dx (.own x)) x (.ins C dx [])) (λv H2=>v=.non/\Q (.ref x) H2) E):
 wpAny (model X.prog X.w) X.A (call (.ref C) us) (EP X π σ Q) X.xe s:=by
 have hq:=h (s.heap.objs.size+1) s.heap.objs.size (I.hok.fresh (le_succ _)) (I.hok.fresh (yby _)) (ne_of_lt (Nat.lt_succ_self _));have I2:=aB.made (C:=C) I;have r2:aU (V.ref (s.heap.objs.size+1)::(vs++dvs)) (Value.ref (s.heap.objs.size+1)::(us++ds)):= .cons rfl (r.append hd);have hl:(Value.ref (s.heap.objs.size+1)::us++ds).length=ps.length:=by
  have e:=r2.length;rw[F.len _ _ _ _ hq] at e;exact e.symm
 refine wpAny_call (tD (f:=f) I.kIn M.makes M.init (beq_iff_eq.mp M.fn) (codeAny_mono (F.run _ X.stack _ _ ⟨Value.ref (s.heap.objs.size+1)::us,[]⟩ (Value.ref (s.heap.objs.size+1)::(us++ds)) _ _ E (hr.make C us [])
  (I2.env0.make C us []) (hb _ (Value.ref (s.heap.objs.size+1)::us) I2.kIn hl) r2 hq) λr s' hq'=>?_))
 cases r with
 | error e=>exact hx π σ _ _ e s' I2 hq'
 | ok fl=>
   cases fl with
   | ret u=>
     obtain⟨v,H',I3,rv,ev,q3⟩:=I2.after hq';subst ev;exact⟨rv,⟨V.ref (s.heap.objs.size+1),H',I3,rfl,q3⟩⟩
   | next=>exact False.elim hq'
   | brk=>exact False.elim hq'
   | cont=>exact False.elim hq'
theorem wZ (M:Mk X.K C f) (F:dQ X.prog X.w X.K X.mg X.base CX k f fd ps sp) (hr:aw (k+1) X.A) (hg:Gl X x) (hm:X.mg x=some (.ref C)) (hb:bJ X.K fd ps ds) (hd:aU dvs ds) (hx:eK CX X E)
 (ha:PA X (e::es) t) (hdb:(x==("__debug__":Str))=false:=by decide) (he:starEach (e::es) X.env=(false,eval e X.env)::starEach es X.env:=by rfl) (hpl:(backTo pos (starEach es X.env)).any (·.1)=false:=by rfl):
 PE X (.Call (.Name x p) (e::es) [] pos) (zg C sp dvs E t):=by
 intro π s σ H Q I h;refine wpAny_Call_Name_kw (fG I hg hm ?_ hdb);refine callWith_K (h₀:=X.base) I.ok.mod.kin M.kp (bR (ha pos π s σ H _ I h) λus s1 ⟨vs,H1,I1,r,q⟩=>⟨I1.kIn,?_⟩) he hpl;exact tJ M F hr hb hd hx I1 r q
end
section
variable {X:Cx} {CX:oW} {k:Nat} {f C:Addr} {fd:FuncData} {ps ks:List Str} {sp:Sp} {E:XK} {x m:Str} {p pos apos kpos:Pos} {e o:Expr} {es:List Expr} {kws:List Keyword} {te ta:TE} {t tk:TA} {nm:Option Str}
structure EY (K:yax) (fd:FuncData) (ps ks:List Str) (g:List Value->List Value->List Value) (gV:List V->List V->List V):Prop where
 to:∀(s:Shared) (us ws:ydw),K.In s.heap->(g us ws).length=ps.length->BindsTo s fd ⟨us,ks.zip ws⟩ (ps.zip (g us ws))
 rel:∀{vs:List V} {us:ydw} {zs:List V} {ws:ydw},aU vs us->aU zs ws->aU (gV vs zs) (g us ws)
variable {g:List Value->List Value->List Value} {gV:List V->List V->List V}
end
structure bS (N P:List Str) (sc:Scope):Prop where
 kind:sc.kind=.function
 co:sc.isCoroutine=false
 gen:sc.isGenerator=false
 nd:N.Nodup
 pre:N.take P.length=P
 par:∀x∈P,sc.names.lookup x=some .local∨sc.names.lookup x=some .cell
 nofree:∀y∈sc.names,y.2≠ .free
theorem kG {kindOf:Str->Option NameKind} {x:Str}:∀{binds:List (Str×Value)} {m:ydv},(∀v,(x,v)∉binds)->bindL kindOf binds m x=m x
 | [],_,_=>rfl
 | (n,v)::r,m,h=>by
   unfold bindL;rw[kG λw hw=>h w (yay _ hw)];split
   ·have:x≠n:=by rintro rfl;exact h v yaz
    simp[this]
   ·rfl
theorem kH {kindOf:Str->Option NameKind} {x:Str}:∀{binds:List (Str×Value)} {m:ydv},(∀v,(x,v)∉binds)->bindC kindOf binds m x=m x
 | [],_,_=>rfl
 | (n,v)::r,m,h=>by
   unfold bindC;rw[kH λw hw=>h w (yay _ hw)];split
   ·rfl
   ·have:x≠n:=by rintro rfl;exact h v yaz
    simp[this]
theorem kJ {kindOf:Str->Option NameKind} {x:Str} {v:Value}:∀{P:List Str} {vs:ydw} {i:Nat} {m:ydv},P.Nodup->P[i]?=some x->vs[i]?=some v->kindOf x=some .local->
 bindL kindOf (P.zip vs) m x=some v
 | [],_,_,_,_,h,_,_=>by simp at h
 | _::_,[],_,_,_,_,h,_=>by simp at h
 | p::P,w::vs,0,m,nd,h1,h2,hk=>by
   simp at h1 h2;subst h1;subst h2;show bindL kindOf ((p,w)::P.zip vs) m p=_;unfold bindL;rw[kG λv hv=>(nodup_cons.mp nd).1 (List.of_mem_zip hv).1,ycx hk];simp
 | p::P,w::vs,i+1,m,nd,h1,h2,hk=>by
   show bindL kindOf ((p,w)::P.zip vs) m x=_;unfold bindL;exact kJ (i:=i) (nodup_cons.mp nd).2 (by simpa using h1) (by simpa using h2) hk
theorem kK {kindOf:Str->Option NameKind} {x:Str} {v:Value}:∀{P:List Str} {vs:ydw} {i:Nat} {m:ydv},P.Nodup->P[i]?=some x->vs[i]?=some v->kindOf x≠some .local->
 bindC kindOf (P.zip vs) m x=some v
 | [],_,_,_,_,h,_,_=>by simp at h
 | _::_,[],_,_,_,_,h,_=>by simp at h
 | p::P,w::vs,0,m,nd,h1,h2,hk=>by
   simp at h1 h2;subst h1;subst h2;show bindC kindOf ((p,w)::P.zip vs) m p=_;unfold bindC;rw[kH λv hv=>(nodup_cons.mp nd).1 (List.of_mem_zip hv).1,ybv hk];simp
 | p::P,w::vs,i+1,m,nd,h1,h2,hk=>by
   show bindC kindOf ((p,w)::P.zip vs) m x=_;unfold bindC;exact kK (i:=i) (nodup_cons.mp nd).2 (by simpa using h1) (by simpa using h2) hk
noncomputable def start (N:List Str) (vs:List V):St:=vs.map some++List.replicate (N.length-vs.length) none
noncomputable def dE (CX:oW) (P:Program) (w:World) (K:yax) (mg:ydv) (base:Heap) (N:List Str) (qual:Str) (scope:Scope) (f:Addr) (cd:Value) (A:Around) (outer:List Env) (s:Shared) (H:Hp) (E:XK):Cx where
 prog:=P
 w:=w
 K:=K
 mg:=mg
 base:=base
 A:=A.deeper (envOfC qual scope s.heap.objs.size f cd)
 N:=N
 s₀:=s
 H₀:=H
 env:=envOfC qual scope s.heap.objs.size f cd
 outer:=outer
 stack:=envOfC qual scope s.heap.objs.size f cd::outer
 ex:=[]
 calm:=true
 fn:=λ_=>true
 pn:=[]
 xe:=λe s'=>wpAny (model P w) (A.deeper (envOfC qual scope s.heap.objs.size f cd)) (leaving (envOfC qual scope s.heap.objs.size f cd) e) (λ_ s''=>CX outer H s E e s'') (λe' s''=>CX outer H s E e' s'') s'
theorem m9 {sc:Scope} {n:Nat} (h:sc.names.lookup x=some .cell):∃c,(cellsFrom n sc.names []).lookup x=some c:=by
 have q:=PySem.W.cellsFrom_some sc.names n [] (.inl h);exact Option.isSome_iff_exists.mp q
theorem rW {CX:oW} {N ps:List Str} {qual:Str} {f:Addr} {cd:Value} {outer:List Env} {s s1:Shared} {H:Hp} {E:XK} {vs:List V}
 (S:bS N ps scope) (hd:A.handled=none) (e0:mZ P w K mg base A outer s H) (hl:vs.length=ps.length) (r:aU vs us)
 (x:InCallC s s.heap.objs.size (bindL (envOfC qual scope s.heap.objs.size f cd).kindOf (ps.zip us) λ_=>none) (cellsFrom (s.heap.objs.size+1) scope.names []) (bindC (envOfC qual scope s.heap.objs.size f cd).kindOf (ps.zip us) λ_=>none) s1):
 aB (dE CX P w K mg base N qual scope f cd A outer s H E) [] (start N vs) H s1:=by
 have hpl:ps.length<=N.length:=by have:=congrArg List.length S.pre;rw[length_take] at this;lia
 obtain⟨h1,tk,rfl,hk⟩:=x.done;have noA:∀b:Addr,b∉(dE CX P w K mg base N qual scope f cd A outer s H E).ex:=λb z=>absurd (show b∈([]:List Addr) from z) (by simp);refine⟨⟨e0.mod,S.kind,rfl,rfl,yby _,λy z c h1 h2=>?_,λy hy=>?_,λy c _ h=>?_,λ_=>hd,Around.frames_deeper e0.frames,.inr ⟨rfl,rfl⟩,λb z=>absurd z (noA b),e0.bs,e0.bsz,λb _ _=>noA b,λb z=>absurd z (noA b),e0.funs,e0.frf⟩,
  rfl,e0.bare,Un.kept hk,⟨_,x.toInCall.ns,λi y v h1 h2 h3=>?_⟩,λy c h=>⟨_,x.cell y c h⟩,e0.hok.fresh (yby _),λy c h=>?_,λp hp=>absurd (show p∈([]:List (Addr×Obj)) from hp) (by simp),e0.hok.kept hk,?_⟩
 ·exact name_of_addr x.apart (PySem.mem_of_lookup h1) (PySem.mem_of_lookup h2)
 ·have hy:scope.names.lookup y=some .cell∨scope.names.lookup y=some .free:=hy;rcases hy with hy | hy
  ·exact m9 hy
  ·exact absurd rfl (S.nofree _ (PySem.mem_of_lookup hy))
 ·exact Nat.le_of_lt (x.above y c (PySem.mem_of_lookup h))
 ·have hi:i<vs.length:=by
   unfold start at h2
   by_cases hi:i<vs.length
   ·exact hi
   ·rw[List.getElem?_append_right (by simpa using hi)] at h2;rw[List.getElem?_replicate] at h2;split at h2<;> cases h2
  have ha:vs[i]?=some v:=by
   unfold start at h2;rw[List.getElem?_append_left (by simpa using hi),List.getElem?_map] at h2;cases e:vs[i]? with
   | none=>rw[e] at h2;cases h2
   | some a=>rw[e] at h2;cases h2;rfl
  obtain⟨u,hu,rv⟩:=r.get ha;have hp:ps[i]?=some y:=by
   rw[←S.pre,List.getElem?_take_of_lt (by lia)];exact h1
  have ndP:ps.Nodup:=by rw[←S.pre];exact S.nd.sublist (List.take_sublist _ _)
  refine⟨u,rv,?_⟩;rcases S.par y (List.mem_of_getElem? hp) with k | k
  ·exact .inl ⟨k,kJ ndP hp hu k⟩
  ·obtain⟨c,e⟩:=m9 (n:=s.heap.objs.size+1) k;refine .inr ⟨.inl k,c,e,?_⟩;have q:=x.cell y c e;rw[kK ndP hp hu (by show scope.names.lookup y≠_;rw[k];decide)] at q;exact q
 ·exact e0.hok.fresh (Nat.le_of_lt (x.above y c (PySem.mem_of_lookup h)))
 ·unfold start;show _=N.length;rw[length_append,length_map,List.length_replicate];lia
theorem qk {CX:oW} {f:Addr} {name qual:Str} {params:Arguments} {dV kV doc pm cdv ct oc:Value} {an od:Option Addr}
 {osl:Array (Option Value)} {N ps:List Str} {sp:Sp} (lk:K.lookup f=some ⟨oc,od,.func (fnOf name qual params body scope dV kV doc pm an cdv ct),osl⟩) (hcd:codeIn K cdv qual=true) (S:bS N ps scope)
 (len:∀vs H Q E,sp vs H Q E->vs.length=ps.length)
 (hbody:∀(A:Around) (outer:List Env) (s:Shared) (H:Hp) (vs:List V) (Q:VK) (E:XK),aw k (A.deeper (envOfC qual scope s.heap.objs.size f cdv))->sp vs H Q E->
   ∃t,mV (dE CX P w K mg base N qual scope f cdv A outer s H E) body t/\t { nx:=λ_ H'=>Q .non H',rt:=Q } (start N vs) H):
 dQ P w K mg base CX (k+1) f (fnOf name qual params body scope dV kV doc pm an cdv ct) ps sp:=by
 refine⟨len,λA outer s H args us vs Q E hr e0 hb r hsp=>?_⟩;have hl:=len _ _ _ _ hsp;have KX:K.In s.heap:=e0.mod.kin.keeps λb o e=>(e0.bs b o e).1;have lim:s.heap.NoLimit:=e0.mod.nolimit.keeps λb o e=>(e0.bs b o e).1;have hkind:∀y∈ps.zip us,scope.names.lookup y.1=some .local∨(scope.names.lookup y.1=some .cell/\((cellsFrom (s.heap.objs.size+1) scope.names []).lookup y.1).isSome=true):=λ⟨n,v⟩ hy=>by
  rcases S.par n (List.of_mem_zip hy).1 with q | q
  ·exact .inl q
  ·exact .inr ⟨q,PySem.W.cellsFrom_some _ _ _ (.inl q)⟩
 refine codeAny_call_function hr.depth (KX _ _ lk) rfl S.co S.gen rfl (PySem.W.codeRec_of KX hcd) (hb _ _ _ _ ?_);refine wpAny_newFunctionEnv_cells S.kind hkind λenv he s1 x=>?_;subst he;refine⟨lim.keeps x.toInCall.keep,codeAny_func ?_⟩;obtain⟨t,ht,hq⟩:=hbody A outer s H vs Q E (hr.deeper _) hsp;have I:aB (dE CX P w K mg base N qual scope f cdv A outer s H E) [] (start N vs) H s1:=rW S hr.hd e0 hl r x;refine wpAny_mono (ht [] s1 (start N vs) H _ I hq) (λfl s' hs=>?_) λe s' hs=>hs;have fin:∀{σ':St} {H':Hp} {v:V} {u:Value},aB (dE CX P w K mg base N qual scope f cdv A outer s H E) [] σ' H' s'->bc v u->Q v H'->CE outer P w H s Q u s':=
  λ{σ' H' v u} J rv q=>⟨v,H',J.os,J.bare,J.base,J.hok,rv,q⟩
 cases fl with
 | ret u=>
   obtain⟨v,σ',H',J,rv,q⟩:=hs;exact fin J rv q
 | next=>
   obtain⟨σ',H',J,q⟩:=hs;exact fin (v:=V.non) (u:=Value.none) J rfl q
 | brk=>
   obtain⟨_,_,_,q⟩:=hs;exact False.elim q
 | cont=>
   obtain⟨_,_,_,q⟩:=hs;exact False.elim q
section
variable {X:Cx} {x:Str} {p pos:Pos} {e:Expr} {es:List Expr} {t:TA} {id T:String} {r:List V->Hp->VK->Prop}
noncomputable def EZ (r:List V->Hp->VK->Prop) (t:TA):TE:=λσ H Q=>t σ H λvs H1=>r vs H1 Q
theorem ng (hc:gS X (.builtin id) r) (hg:Gl X x) (hm:X.mg x=none) (hv:bootBuiltins x=some (.builtin id)) (ha:PA X (e::es) t) (hn:x≠"__name__":=by decide) (hdb:(x==("__debug__":Str))=false:=by decide)
 (he:starEach (e::es) X.env=(false,eval e X.env)::starEach es X.env:=by rfl) (hpl:(backTo pos (starEach es X.env)).any (·.1)=false:=by rfl):PE X (.Call (.Name x p) (e::es) [] pos) (EZ r t):=by
 intro π s σ H Q I h;refine wpAny_Call_Name_kw (fo I hg hm hv ?_ hn hdb);exact PyProof.Rows.callWith_builtin1 (bR (ha pos π s σ H _ I h) λus s1 ⟨vs,H1,I1,r1,q1⟩=>hc π s1 σ H1 vs us Q I1 r1 q1) he hpl
theorem rX (hc:gS X (.type T) r) (hg:Gl X x) (hm:X.mg x=none) (hv:bootBuiltins x=some (.type T)) (ha:PA X (e::es) t) (hn:x≠"__name__":=by decide) (hdb:(x==("__debug__":Str))=false:=by decide)
 (he:starEach (e::es) X.env=(false,eval e X.env)::starEach es X.env:=by rfl) (hpl:(backTo pos (starEach es X.env)).any (·.1)=false:=by rfl):PE X (.Call (.Name x p) (e::es) [] pos) (EZ r t):=by
 intro π s σ H Q I h;refine wpAny_Call_Name_kw (fo I hg hm hv ?_ hn hdb);exact PyProof.Rows.callWith_type1 (bR (ha pos π s σ H _ I h) λus s1 ⟨vs,H1,I1,r1,q1⟩=>hc π s1 σ H1 vs us Q I1 r1 q1) he hpl
end
end L2
namespace HT
open PySem PyProof.Rows
theorem rcLt_int (A:Around) (s:Shared) (a:Int) (t:Tok) (c:Int) (u:Tok) (prog:Program) (w:World) (E:ydz) (Q:ydz) (h:Q (.bool (decide (a<c))) s):
 wpAny (model prog w) A (richCompare .Lt (.int a t) (.int c u)) Q E s:=
 (PyProof.Rows.lt_int h:wpAny (model prog w) A (compareOp .Lt (.int a t) (.int c u)) Q E s)
section
open PySem.SeqAt
open PySem.AutoSeq1 (wpAny_loadPart')
open PySem.MeetsSeq PySem.MeetsSeq2 PySem.MeetsSeq3
end
section
variable {prog:Program} {w:World} {A:Around} {E:ydz} {s:Shared}
theorem cat_tup {t b:Addr} {vs ws:ydw} (ht:IsTup s.heap t vs.toArray) (hb:IsTup s.heap b ws.toArray) (hv:vs≠[])
 (h1:ws=[]->Q (.ref t) s) (h2:ws≠[]->Q (.ref s.heap.objs.size) { s with heap:=s.heap.push { cls:= .type "tuple",data:= .seq (vs++ws).toArray } })
 (hsz:vs.length+ws.length<=sizeLine):wpAny (model prog w) A (binaryOp .Add (.ref t) (.ref b)) Q E s:=by
 obtain⟨⟨cls,dd,data,sl⟩,ho,hc,n,hd⟩:=id ht;obtain⟨⟨cls2,dd2,data2,sl2⟩,ho2,hc2,n2,hd2⟩:=id hb;simp only at hc hd hc2 hd2;subst hc hd hc2 hd2;have e:vs.toArray++ws.toArray=(vs++ws).toArray:=by simp
 by_cases hw:ws=[]
 ·exact concat_meets ⟨_,ho,rfl⟩ ⟨_,ho2,rfl⟩ noFill_tuple_add seq_tuple_add PySem.F.slot_tuple_add PySem.F.entry_tuple_add (PySem.F.args_tuple_add_2 _ _)
   (tuple_addW1 t b vs.toArray ws.toArray n n2 dd dd2 sl sl2 (by simpa using hv) (by simp[hw])) ⟨ho,ho2,h1 hw⟩
 ·refine concat_meets ⟨_,ho,rfl⟩ ⟨_,ho2,rfl⟩ noFill_tuple_add seq_tuple_add PySem.F.slot_tuple_add PySem.F.entry_tuple_add (PySem.F.args_tuple_add_2 _ _)
   (tuple_addW2 t b vs.toArray ws.toArray n n2 dd dd2 sl sl2 (by simpa using hv) (by simpa using hw) (by rw[size_toArray,size_toArray];exact hsz)) ⟨ho,ho2,?_⟩
  rw[e];exact h2 hw
noncomputable def sIx (n d:Nat):Option Int->Nat
 | none=>d
 | some v=>if v<0 then (v+(n:Int)).toNat else min v.toNat n
theorem sIx_none (n d:Nat):sIx n d none=d:=rfl
theorem sIx_nat (n d k:Nat):sIx n d (some (k:Int))=min k n:=by
 show(if (k:Int)<0 then ((k:Int)+(n:Int)).toNat else min (k:Int).toNat n)=min k n;rw[ybv (by lia),Int.toNat_natCast]
theorem Ay (n d:Nat) (hd:d<=n) (o:Option Int):sIx n d o<=n:=by
 cases o with
 | none=>exact hd
 | some v=>
   show(if v<0 then (v+(n:Int)).toNat else min v.toNat n)<=n
   by_cases hv:v<0
   ·rw[ycx hv];lia
   ·rw[ybv hv];exact Nat.min_le_right _ _
theorem ql (v:Int) (n d:Nat):(if v<0 then max (v+(n:Int)) 0 else min v (n:Int))=((sIx n d (some v):Nat):Int):=by
 show(if v<0 then max (v+(n:Int)) 0 else min v (n:Int))=(((if v<0 then (v+(n:Int)).toNat else min v.toNat n):Nat):Int)
 by_cases hv:v<0
 ·simp only[ycx hv];lia
 ·simp only[ybv hv];lia
theorem oY (lo hi:Option Int) (n:Nat):Builtin.Slice.sliceAdjust lo hi 1 (n:Int)=(((sIx n 0 lo:Nat):Int),((sIx n n hi:Nat):Int)):=by
 have h1:¬((1:Int)<0):=by lia
 unfold Builtin.Slice.sliceAdjust;simp only[h1,if_false];refine Prod.ext ?_ ?_
 ·cases lo with
  | none=>rfl
  | some v=>exact ql v n 0
 ·cases hi with
  | none=>rfl
  | some v=>exact ql v n n
theorem oZ (i j:Nat):Builtin.Slice.slicePlaces (i:Int) (j:Int) 1=j-i:=by
 unfold Builtin.Slice.slicePlaces;have h1:(1:Int) > 0:=by lia
 simp only[h1,if_true,Int.ediv_one];split<;> lia
theorem jE {v:Value} {o:Option Int} {Q:Option Int->Shared->Prop} (p:IsPart v o) (h:Q o s):wpAny (model prog w) A (Builtin.Slice.slicePartIndex v) Q E s:=by
 cases p with
 | none=>exact slicePart_none h
 | int i t=>exact slicePart_int h
theorem sliceApplied_gen {sl:Addr} {vl vu:Value} {lo hi:Option Int} {n:Nat} {Q:Int×Int×Nat->Shared->Prop} (hs:s.heap.IsSliceOf sl vl vu .none) (pl:IsPart vl lo) (pu:IsPart vu hi)
 (h:Q (((sIx n 0 lo:Nat):Int),1,sIx n n hi-sIx n 0 lo) s):wpAny (model prog w) A (Builtin.Slice.sliceApplied (.ref sl) (pure (n:Int))) Q E s:=by
 obtain⟨os,hos,hcs,hds⟩:=id hs;unfold Builtin.Slice.sliceApplied Builtin.Slice.sliceFields;refine wax (wax (wpAny_field hos hds (x:=vl) rfl (wax (wpAny_field hos hds (x:=vu) rfl (wax (wpAny_field hos hds (x:= .none) rfl (way ?_)))))));refine wax (slicePart_none ?_);show wpAny _ _ (if ((1:Int)==0)=true then _ else _) _ _ s;rw[ybv (by decide)];refine wax (jE pl (wax (jE pu (wax (way ?_)))));show wpAny _ _ (match Builtin.Slice.sliceAdjust lo hi 1 (n:Int) with | (lo,hi)=>pure (lo,(1:Int),Builtin.Slice.slicePlaces lo hi 1)) _ _ s;rw[oY lo hi n];show wpAny _ _ (pure (((sIx n 0 lo:Nat):Int),(1:Int),Builtin.Slice.slicePlaces ((sIx n 0 lo:Nat):Int) ((sIx n n hi:Nat):Int) 1)) _ _ s;rw[oZ];exact way h
theorem tK (xs:Array Value) (i k:Nat):((List.range k).filterMap λ(m:Nat)=>xs[((i:Int)+(m:Int)*1).toNat]?).toArray=((xs.toList.drop i).take k).toArray:=by
 have e:(λ(m:Nat)=>xs[((i:Int)+(m:Int)*1).toNat]?)=λm=>xs[i+m]?:=by
  funext m
  have:((i:Int)+(m:Int)*1).toNat=i+m:=by lia
  rw[this]
 rw[e];have:=pick_run xs i k;rw[List.filterMap_map] at this;have e2:((λx=>xs[x]?) ∘ λx=>i+x)=λm=>xs[i+m]?:=rfl;rw[e2] at this;rw[this]
theorem getItem_tuple_cut {t sl:Addr} {vl vu:Value} {lo hi:Option Int} (ht:IsTup s.heap t items) (hs:s.heap.IsSliceOf sl vl vu .none) (pl:IsPart vl lo) (pu:IsPart vu hi)
 (hw:¬(sIx items.size 0 lo=0/\sIx items.size items.size hi=items.size))
 (h:Q (.ref s.heap.objs.size) { s with heap:=s.heap.push { cls:= .type "tuple",data:= .seq ((items.toList.drop (sIx items.size 0 lo)).take (sIx items.size items.size hi-sIx items.size 0 lo)).toArray } })
 (hsz:items.size<=sizeLine):wpAny (model prog w) A (getItem (.ref t) (.ref sl)) Q E s:=by
 have htake:sizeOk (.seq ((items.toList.drop (sIx items.size 0 lo)).take (sIx items.size items.size hi-sIx items.size 0 lo)).toArray):=by
  show((items.toList.drop (sIx items.size 0 lo)).take (sIx items.size items.size hi-sIx items.size 0 lo)).toArray.size<=sizeLine;rw[size_toArray,length_take,length_drop,Array.length_toList];lia
 have hj:sIx items.size items.size hi<=items.size:=Ay _ _ (yby _) hi;obtain⟨os,hos,hcs,hds⟩:=id hs;have hTs:s.TypeIs (.ref sl) "slice":=⟨os,hos,hcs⟩;unfold getItem
 try with_reducible refine wpAny_holding ?_
 first | refine wax (way ?_) | skip
 refine wax (wpAny_sequenceKey ht.typeIs (by decide) ?_);refine wax (wpAny_callSpecial?_slot (name:=Str.ofString "__getitem__") ht.typeIs PyProof.Rows.slot_tuple_getitem
  (wpAny_call_entry PyProof.Rows.slot_tuple_getitem ht.typeIs entry_tuple_getitem ?_ (args_tuple_getitem _ _)))
 show wpAny _ _ (Builtin.Tuple.tupleItemsOf (.ref t) >>= _) _ _ s;refine wax (tupleItemsOf_ ht ?_);refine wax (wpAny_typeOf hTs ?_);rw[ycx (by decide)];refine wax (sliceApplied_gen hs pl pu ?_);have hno:¬((((sIx items.size 0 lo:Nat):Int)==0&&(1:Int)==1&&(sIx items.size items.size hi-sIx items.size 0 lo)==items.size)=true):=by
  intro q;rw[Bool.and_eq_true,Bool.and_eq_true] at q;have q1:((sIx items.size 0 lo:Nat):Int)=0:=eq_of_beq q.1.1;have q2:sIx items.size items.size hi-sIx items.size 0 lo=items.size:=eq_of_beq q.2;exact hw ⟨by lia,by lia⟩
 show wpAny _ _ (if (((sIx items.size 0 lo:Nat):Int)==0&&(1:Int)==1&&(sIx items.size items.size hi-sIx items.size 0 lo)==items.size)=true then _ else _) _ _ s;rw[ybv hno,tK]
 first
  | exact wax (m:=Builtin.Tuple.tupleExact _) (wpAny_newObj_type (way ⟨_,rfl,way h⟩) htake)
  | exact wax (m:=Builtin.Tuple.tupleExact _) (wpAny_newObj_type (wax (way (way ⟨_,rfl,way h⟩))) htake)
  | exact wax (wax (m:=Builtin.Tuple.tupleExact _) (wpAny_newObj_type (way (way ⟨_,rfl,way h⟩)) htake))
  | exact wax (wax (m:=Builtin.Tuple.tupleExact _) (wpAny_newObj_type (way ⟨_,rfl,way h⟩) htake))
end
end HT
namespace L2
open PySem PySem.Spec PyProof.Rows
noncomputable abbrev TO:=St->Hp->(Option Int->Hp->Prop)->Prop
noncomputable def PO (X:Cx) (e:Option Expr) (t:TO):Prop:=
 ∀(π:List (Addr×Obj)) (s:Shared) (σ:St) (H:Hp) (Q:Option Int->Hp->Prop),aB X π σ H s->t σ H Q->
  wpAny (model X.prog X.w) X.A (evalPart e X.env) (λu s'=>∃o H',aB X π σ H' s'/\IsPart u o/\Q o H') X.xe s
noncomputable def w9:TO:=λ_ H Q=>Q none H
noncomputable def Cz (t:TE):TO:=λσ H Q=>t σ H λx H1=>∃i,x=.int i/\Q (some i) H1
theorem intsAre_of {ns:List Int}:∀{us:ydw},aU (ns.map V.int) us->IntsAre us ns:=by
 induction ns with
 | nil=>intro us r;rw[map_nil] at r;cases r;exact .nil
 | cons n ns ih=>
   intro us r;rw[map_cons] at r;cases r with
   | cons r1 r2=>
     obtain⟨t,e⟩:=r1;subst e;exact .cons n t (ih r2)
section
variable {X:Cx} {e:Expr} {te:TE} {lo hi:Option Expr} {tl th:TO} {pos p2:Pos}
theorem po_none:PO X none w9:=by
 intro π s σ H Q I h;rw[evalPart_none];exact way ⟨none,H,I,.none,h⟩
theorem xc (h:PE X e te):PO X (some e) (Cz te):=by
 intro π s σ H Q I hw;rw[evalPart_some];refine bR (h π s σ H _ I hw) λu s1 z9=>?_;obtain⟨x,H1,I1,r1,q1⟩:=z9;obtain⟨i,rfl,q⟩:=q1;obtain⟨t,rfl⟩:=r1;exact⟨some i,H1,I1,.int i t,q⟩
noncomputable def CA (X:Cx) (r:V->Option Int->Option Int->Hp->VK->Prop):Prop:=
 ∀(π:List (Addr×Obj)) (s:Shared) (σ:St) (H:Hp) (x:V) (v vl vu:Value) (lo hi:Option Int) (sl:Addr) (Q:VK),aB X π σ H s->bc x v->s.heap.IsSliceOf sl vl vu .none->IsPart vl lo->IsPart vu hi->r x lo hi H Q->
  ∃T id,typeLookup (.type T) "__getitem__"=pure (some (.builtin id))/\s.TypeIs v T/\wpAny (model X.prog X.w) X.A (getItem v (.ref sl)) (EP X π σ Q) X.xe s
noncomputable def Ht (r:V->Option Int->Option Int->Hp->VK->Prop) (te:TE) (tl th:TO):TE:=λσ H Q=>te σ H λx H1=>tl σ H1 λl H2=>th σ H2 λu H3=>r x l u H3 Q
theorem tL {r:V->Option Int->Option Int->Hp->VK->Prop} (hr:CA X r) (he:PE X e te) (hl:PO X lo tl) (hu:PO X hi th):PE X (.Subscript e (.Slice lo hi none p2) pos) (Ht r te tl th):=by
 intro π s σ H Q I h;refine Subscript_ (bR (he π s σ H _ I h) λv s1 z9=>?_);obtain⟨x,H1,I1,r1,q1⟩:=z9;refine wpAny_Slice (bR (hl π s1 σ H1 _ I1 q1) λvl s2 ⟨l,H2,I2,pl,q2⟩=>bR (hu π s2 σ H2 _ I2 q2) λvu s3 z9=>?_);obtain⟨u,H3,I3,pu,q3⟩:=z9;rw[evalPart_none];refine way ?_;have I4:aB X π σ H3 { s3 with heap:=s3.heap.push { cls:= .type "slice",data:= .fields #[vl,vu,.none] } }:=I3.kept (t':=s3.toks) λb ob q=>yaw _ q;obtain⟨T,id,hT,ht,hg⟩:=hr π { s3 with heap:=s3.heap.push { cls:= .type "slice",data:= .fields #[vl,vu,.none] } } σ H3 x v vl vu l u s3.heap.objs.size Q I4 r1 (Heap.IsSliceOf.new ..) pl pu q3;show wpAny (model X.prog X.w) X.A (subscriptTail e (.Slice lo hi none p2) v (.ref s3.heap.objs.size)) (EP X π σ Q) X.xe { s3 with heap:=s3.heap.push { cls:= .type "slice",data:= .fields #[vl,vu,.none] } };exact tail_any (ops:=[.ref s3.heap.objs.size,v]) ht hT hg (by with_unfolding_all rfl)
noncomputable def nh (xs:List V) (lo hi:Option Int):List V:=(xs.drop (HT.sIx xs.length 0 lo)).take (HT.sIx xs.length xs.length hi-HT.sIx xs.length 0 lo)
theorem iZ (xs:List V) (lo hi:Option Int):(nh xs lo hi).length<=xs.length:=by
 unfold nh;rw[length_take,length_drop];lia
noncomputable def E1 (K:yax):V->Option Int->Option Int->Hp->VK->Prop:=λx lo hi H Q=>∃a xs,x=.ref a/\cY K H a xs/\
 ¬(HT.sIx xs.length 0 lo=0/\HT.sIx xs.length xs.length hi=xs.length)/\∀p,H p=none->Q (.ref p) (upd H p (.tup (nh xs lo hi)))
theorem Az:CA X (E1 X.K):=by
 intro π s σ H x v vl vu lo hi sl Q I rx hs pl pu h;obtain⟨a,xs,rfl,hx,hw,q⟩:=h;cases rx;obtain⟨its,r,ht,hz⟩:=I.tuple hx;have hlen:its.toArray.size=xs.length:=by rw[size_toArray];exact r.length.symm
 refine⟨"tuple",_,PyProof.Rows.slot_tuple_getitem.lookup,ht.typeIs,?_⟩;refine HT.getItem_tuple_cut ht hs pl pu (by rw[hlen];exact hw) ?_ (by rw[hlen];exact hz);rw[hlen];refine⟨.ref s.heap.objs.size,_,I.laid (t':=s.toks) (o:= .tup (nh xs lo hi)) (λb ob q=>yaw _ q) (yby _) ?_,rfl,q _ (I.hok.fresh (yby _))⟩;exact⟨ybz (iZ xs lo hi) hz,_,(r.drop (HT.sIx xs.length 0 lo)).take (HT.sIx xs.length xs.length hi-HT.sIx xs.length 0 lo),IsTup.new _ _⟩
noncomputable def CB (K:yax):R2:=λx y H Q=>∃a b xs ys,x=.ref a/\y=.ref b/\cY K H a xs/\cY K H b ys/\xs≠[]/\xs.length+ys.length<=sizeLine/\
 (ys=[]->Q (.ref a) H)/\(ys≠[]->∀p,H p=none->Q (.ref p) (upd H p (.tup (xs++ys))))
theorem aU.nil_iff {xs:List V} (r:aU xs us):us=[]↔xs=[]:=by
 cases r with
 | nil=>simp
 | cons _ _=>simp
theorem xf:jk X (binaryOp .Add) (CB X.K):=by
 intro π s σ H x y v u Q I rx ry h;obtain⟨a,b,xs,ys,rfl,rfl,ha,hb,hx,hz,q1,q2⟩:=h;cases rx;cases ry;obtain⟨its,r1,p1,_⟩:=I.tuple ha;obtain⟨its2,r2,p2,_⟩:=I.tuple hb;refine HT.cat_tup p1 p2 (λz=>hx (r1.nil_iff.mp z)) (λz=>⟨.ref a,H,I,rfl,q1 (r2.nil_iff.mp z)⟩) (λz=>?_) (by rw[←r1.length,←r2.length];exact hz);refine⟨.ref s.heap.objs.size,_,I.laid (t':=s.toks) (o:= .tup (xs++ys)) (λb ob q=>yaw _ q) (yby _) ?_,rfl,q2 (λw=>z (r2.nil_iff.mpr w)) _ (I.hok.fresh (yby _))⟩;exact⟨by rw[length_append];exact hz,_,r1.append r2,IsTup.new _ _⟩
end
noncomputable def tM (n:Nat) (i:Int):Option Nat:=if 0<=i then (if i<n then some i.toNat else none) else if -(n:Int)<=i then some (i+n).toNat else none
noncomputable def eI {α:Type} (xs:List α) (i:Int):Option α:=(tM xs.length i).bind λj=>xs[j]?
theorem xg {n:Nat} {i:Int} {j:Nat} (h:tM n i=some j):seqIndex? i n=some j/\j<n/\-(n:Int)<=i/\i<n:=by
 unfold tM at h
 by_cases h0:0<=i
 ·rw[ycx h0] at h
  by_cases h1:i<n
  ·rw[ycx h1] at h;have e:i.toNat=j:=Option.some.inj h;exact⟨by rw[seqIndex_of h0 h1,e],by lia,by lia,h1⟩
  ·rw[ybv h1] at h;cases h
 ·rw[ybv h0] at h
  by_cases h1: -(n:Int)<=i
  ·rw[ycx h1] at h;have e:(i+n).toNat=j:=Option.some.inj h;exact⟨by rw[seqIndex_neg (by lia) h1,e],by lia,h1,by lia⟩
  ·rw[ybv h1] at h;cases h
theorem lP {α:Type} {xs:List α} {i:Int} {v:α} (h:eI xs i=some v):∃j,seqIndex? i xs.length=some j/\xs[j]?=some v/\j<xs.length/\-(xs.length:Int)<=i/\i<xs.length:=by
 unfold eI at h;cases e:tM xs.length i with
 | none=>rw[e] at h;cases h
 | some j=>
   rw[e] at h;obtain⟨h1,h2,h3,h4⟩:=xg e;exact⟨j,h1,h,h2,h3,h4⟩
theorem eL {α:Type} {xs:List α} {j:Nat} {v:α} (h:xs[j]?=some v):eI xs (j:Int)=some v:=by
 have hj:j<xs.length:=(List.getElem?_eq_some_iff.mp h).1;have e:tM xs.length (j:Int)=some j:=by
  unfold tM;rw[ycx (by lia),ycx (by lia)];simp
 unfold eI;rw[e];exact h
noncomputable def qm (b:Expr):Prop:=∀o i,subscripted b false o i=operate [o,i] (getItem o i)
noncomputable def CC (X:Cx) (r:R2):Prop:=
 ∀(value slice:Expr) (π:List (Addr×Obj)) (s:Shared) (σ:St) (H:Hp) (x y:V) (v u:Value) (Q:VK),aB X π σ H s->bc x v->bc y u->r x y H Q->
  subscripted slice false v u=operate [v,u] (getItem v u)->wpAny (model X.prog X.w) X.A (subscriptTail value slice v u) (EP X π σ Q) X.xe s
noncomputable def CD (X:Cx) (id:String) (r:V->List V->Hp->VK->Prop):Prop:=
 ∀(π:List (Addr×Obj)) (s:Shared) (σ:St) (H:Hp) (x:V) (xs:List V) (v:Value) (us:ydw) (Q:VK),aB X π σ H s->bc x v->aU xs us->r x xs H Q->
  wpAny (model X.prog X.w) X.A (call (.builtin id) (v::us)) (EP X π σ Q) X.xe s
section
variable {X:Cx} {a b:Expr} {ta tb:TE} {pos:Pos}
theorem CF {r:R2} (hr:CC X r) (ha:PE X a ta) (hb:PE X b tb) (hs:qm b):PE X (.Subscript a b pos) (Co r ta tb):=by
 intro π s σ H Q I h;exact Subscript_ (An ha hb I h λv u s2 x y H2 I2 rx ry q=>hr a b π s2 σ H2 x y v u Q I2 rx ry q (hs _ _))
noncomputable def E2 (K:yax):R2:=λx y H Q=>∃p xs i v,x=.ref p/\y=.int i/\dm K H p xs/\eI xs i=some v/\Q v H
noncomputable def E3 (K:yax):R2:=λx y H Q=>∃p xs i v,x=.ref p/\y=.int i/\cY K H p xs/\eI xs i=some v/\Q v H
noncomputable def E4:R2:=λx y H Q=>∃z i c,x=.str z/\y=.int i/\z.length<=sizeLine/\eI z.cps.toList i=some c/\Q (.str ⟨#[c]⟩) H
theorem qo:CC X (E2 X.K):=by
 intro value slice π s σ H x y v u Q I rx ry h hs;obtain⟨p,xs,i,z,rfl,rfl,hq,he,q⟩:=h;cases rx;obtain⟨t,rfl⟩:=ry;obtain⟨its,r,pl,hz⟩:=I.list hq;obtain⟨j,h1,h2,h3,h4,h5⟩:=lP he;obtain⟨w,ew,rw'⟩:=r.get h2;have hl:=r.length;have hn:=jC;have fin:EP X π σ Q w s:=⟨z,H,I,rw',q⟩
 by_cases h0:0<=i
 ·have hj:i.toNat=j:=by
   rw[seqIndex_of h0 h5] at h1;exact Option.some.inj h1
  exact item_listR pl.isList h0 (by lia) (by rw[hj];simpa using ew) fin hs
 ·have hj:(i+(its.toArray.size:Int)).toNat=j:=by
   rw[seqIndex_neg (by lia) h4] at h1;rw[size_toArray,←hl];exact Option.some.inj h1
  exact subscriptTail_builtinR (x:=w) pl.isList.typeIs slot_list_getitem.lookup
   (wpAny_getItem_list_neg (Q:=λr s'=>r=w/\EP X π σ Q r s') pl.isList (by lia) (by rw[size_toArray]<;> lia) (by lia) (by rw[hj];simpa using ew) ⟨rfl,fin⟩) hs
theorem AA:CC X (E3 X.K):=by
 intro value slice π s σ H x y v u Q I rx ry h hs;obtain⟨p,xs,i,z,rfl,rfl,hq,he,q⟩:=h;cases rx;obtain⟨t,rfl⟩:=ry;obtain⟨its,r,pl,hz⟩:=I.tuple hq;obtain⟨j,h1,h2,h3,h4,h5⟩:=lP he;obtain⟨w,ew,rw'⟩:=r.get h2;have hl:=r.length;have hn:=jC;have fin:EP X π σ Q w s:=⟨z,H,I,rw',q⟩;exact subscriptTail_builtinR (x:=w) pl.typeIs slot_tuple_getitem.lookup
  (getItem_tuple (j:=j) (Q:=λr s'=>r=w/\EP X π σ Q r s') pl (by lia) (by lia) (by rw[size_toArray,←hl];exact h1) (by simpa using ew) ⟨rfl,fin⟩) hs
theorem AB:CC X E4:=by
 intro value slice π s σ H x y v u Q I rx ry h hs;obtain⟨z,i,c,rfl,rfl,hz,he,q⟩:=h;obtain⟨t,rfl⟩:=rx;obtain⟨t',rfl⟩:=ry;obtain⟨j,h1,h2,h3,h4,h5⟩:=lP he;have hl:z.cps.toList.length=z.length:=by simp[Str.length]
 rw[hl] at h1 h4 h5;have hn:=jC;exact tail_any (typeIs_str s z t) slot_str_getitem.lookup (getItem_str (c:=c) (by
  have e1:decide (i< -(2^63:Int))=false:=ycz (by lia);have e2:decide (i≥2^63)=false:=ycz (by lia);rw[e1,e2,Bool.or_false]) (by rw[h1];simpa using h2) ⟨.str ⟨#[c]⟩,H,I.tok _,⟨_,rfl⟩,q⟩) hs
theorem lQ (lo hi:Option Int) (n:Nat):(sliceBounds lo hi none n).1=((HT.sIx n 0 lo:Nat):Int)/\(sliceBounds lo hi none n).2.1=((HT.sIx n n hi:Nat):Int)/\(sliceBounds lo hi none n).2.2=1:=by
 refine⟨?_,?_,rfl⟩
 ·cases lo with
  | none=>simp[sliceBounds,HT.sIx]
  | some i=>
    simp only[sliceBounds,HT.sIx,Option.getD_none,show(1:Int) > 0 by decide,if_true]
    by_cases h:i<0
    ·simp only[h,if_true]<;> lia
    ·simp only[h,if_false]<;> lia
 ·cases hi with
  | none=>simp[sliceBounds,HT.sIx]
  | some i=>
    simp only[sliceBounds,HT.sIx,Option.getD_none,show(1:Int) > 0 by decide,if_true]
    by_cases h:i<0
    ·simp only[h,if_true]<;> lia
    ·simp only[h,if_false]<;> lia
theorem ku (its:ydw) (lo hi:Option Int):slicePick its.toArray lo hi none=((its.drop (HT.sIx its.length 0 lo)).take (HT.sIx its.length its.length hi-HT.sIx its.length 0 lo)).toArray:=by
 obtain⟨h1,h2,h3⟩:=lQ lo hi its.toArray.size;unfold slicePick;rw[h1,h2,h3];simp only[sliceRange_one,pick_run,size_toArray]<;> rfl
noncomputable def E5 (K:yax):V->Option Int->Option Int->Hp->VK->Prop:=λx lo hi H Q=>∃a xs,x=.ref a/\dm K H a xs/\∀p,H p=none->Q (.ref p) (upd H p (.lst (nh xs lo hi)))
theorem qp:CA X (E5 X.K):=by
 intro π s σ H x v vl vu lo hi sl Q I rx hs pl pu h;obtain⟨a,xs,rfl,hx,q⟩:=h;cases rx;obtain⟨its,r,ht,hz⟩:=I.list hx;have hlen:=r.length;refine⟨"list",_,slot_list_getitem.lookup,ht.isList.typeIs,?_⟩;refine wpAny_getItem_list_slice ht.isList hs pl pu .none (by simp) ?_ (by rw[size_toArray]<;> lia);rw[ku,←hlen];refine⟨.ref s.heap.objs.size,_,I.laid (t':=s.toks) (o:= .lst (nh xs lo hi)) (λb ob q=>yaw _ q) (yby _) ?_,rfl,q _ (I.hok.fresh (yby _))⟩;exact⟨ybz (iZ xs lo hi) hz,_,0,(r.drop (HT.sIx xs.length 0 lo)).take (HT.sIx xs.length xs.length hi-HT.sIx xs.length 0 lo),yav _ rfl⟩
theorem eM:gS X (.builtin "len") (λxs H Q=>∃p ys,xs=[.ref p]/\(dm X.K H p ys∨cY X.K H p ys)/\Q (.int ys.length) H):=by
 intro π s σ H xs us Q I r h;obtain⟨p,ys,rfl,hq,q⟩:=h;obtain⟨u,rfl,rx⟩:=fT r;cases rx;have hn:=jC;rcases hq with hq | hq
 ·obtain⟨its,r',pl,hz⟩:=I.list hq;have hlen:=r'.length;exact Calls.call_len_list pl.isList (by simp only[size_toArray]<;> lia) ⟨.int ys.length,H,I.tok _,⟨s.toks+1,by rw[size_toArray,hlen]⟩,q⟩
 ·obtain⟨its,r',pl,hz⟩:=I.tuple hq;have hlen:=r'.length;exact len_tuple pl (by simp only[size_toArray]<;> lia) ⟨.int ys.length,H,I.tok _,⟨s.toks+1,by rw[size_toArray,hlen]⟩,q⟩
theorem lR:gS X (.builtin "len") (λxs H Q=>∃z,xs=[.str z]/\z.length<=sizeLine/\Q (.int z.length) H):=by
 intro π s σ H xs us Q I r h;obtain⟨z,rfl,hz,q⟩:=h;obtain⟨u,rfl,t,rfl⟩:=fT r;have hn:=jC;exact len_str (by lia) ⟨.int z.length,H,I.tok _,⟨_,rfl⟩,q⟩
theorem gU:gS X (.type "list") (λxs H Q=>∃p ys,xs=[.ref p]/\(dm X.K H p ys∨cY X.K H p ys)/\∀l,H l=none->Q (.ref l) (upd H l (.lst ys))):=by
 intro π s σ H xs us Q I r h;obtain⟨p,ys,rfl,hq,q⟩:=h;obtain⟨u,rfl,rx⟩:=fT r;cases rx;have fin:∀(its:ydw),aU ys its->ys.length<=sizeLine->∀(h':Heap) (c':Nat),(∀b o',s.heap.get? b=some o'->h'.get? b=some o')->
  h'.get? s.heap.objs.size=some { cls:= .type "list",dict:=none,data:= .seq its.toArray c',slots:= #[] }->EP X π σ Q (.ref s.heap.objs.size) { s with heap:=h' }:=λits r' hz h' c' kp e=>
  ⟨.ref s.heap.objs.size,_,I.laid (t':=s.toks) kp (yby _) (show bD X.prog X.w _ h' _ (.lst ys) from ⟨hz,its,c',r',e⟩),rfl,q _ (I.hok.fresh (yby _))⟩
 rcases hq with hq | hq
 ·obtain⟨its,r',pl,hz⟩:=I.list hq;have hlen:=r'.length;obtain⟨o,ho,hc,n,hd⟩:=pl.isList;exact call_list_seq p (.inl rfl) ho hc hd (λh' c' kp e=>fin its r' hz h' c' kp e) (by simp only[size_toArray]<;> lia)
 ·obtain⟨its,r',pl,hz⟩:=I.tuple hq;have hlen:=r'.length;obtain⟨o,ho,hc,n,hd⟩:=pl;exact call_list_seq p (.inr rfl) ho hc hd (λh' c' kp e=>fin its r' hz h' c' kp e) (by simp only[size_toArray]<;> lia)
theorem fU:gS X (.type "tuple") (λxs H Q=>∃p ys,xs=[.ref p]/\((dm X.K H p ys/\∀l,H l=none->Q (.ref l) (upd H l (.tup ys)))∨(cY X.K H p ys/\Q (.ref p) H))):=by
 intro π s σ H xs us Q I r h;obtain⟨p,ys,rfl,h⟩:=h;obtain⟨u,rfl,rx⟩:=fT r;cases rx;rcases h with⟨hq,q⟩ | ⟨hq,q⟩
 ·obtain⟨its,r',pl,hz⟩:=I.list hq;have hlen:=r'.length;refine call_tuple_list pl.isList (λh' kp=>?_) (by simp only[size_toArray]<;> lia);have I1:aB X π σ H { s with heap:=h' }:=I.kept (t':=s.toks) kp;have I2:aB X π σ (upd H h'.objs.size (.tup ys)) { s with heap:=h'.push { cls:= .type "tuple",data:= .seq its.toArray } }:=
   I1.laid (t':=s.toks) (λb o e=>yaw _ e) (yby _) (show bD X.prog X.w _ _ _ (.tup ys) from ⟨hz,its,r',IsTup.new _ _⟩)
  exact⟨.ref h'.objs.size,_,I2,rfl,q _ (I1.hok.fresh (yby _))⟩
 ·obtain⟨its,r',pl,hz⟩:=I.tuple hq;exact call_tuple_same pl ⟨.ref p,H,I,rfl,q⟩
noncomputable def Eu (K:yax) (T:String) (x:V) (H:Hp):Prop:=match x with
 | .str _=>T="str"
 | .int _=>T="int"
 | .ref p=>(T="list"/\∃xs,dm K H p xs)∨(T="tuple"/\∃o,K.lookup p=some o/\o.cls=.type "tuple"/\o.dict=none)∨
    (T="dict"/\((∃kvs,H p=some (.dK kvs))∨∃kvs,H p=some (.dT kvs)))∨(T="set"/\∃S n,H p=some (.set S n))
 | _=>False
theorem o0 {σ:St} {H:Hp} {T:String} {x:V} {v:Value} (I:aB X π σ H s) (r:bc x v) (ty:Eu X.K T x H):
 s.TypeIs v T/\∀a,v=.ref a->∃ob,s.heap.get? a=some ob/\ob.dict=none:=by
 cases x with
 | str z=>
   obtain⟨t,rfl⟩:=r;cases (show T="str" from ty);exact⟨typeIs_str s z t,λ_ e=>nomatch e⟩
 | int i=>
   obtain⟨t,rfl⟩:=r;cases (show T="int" from ty);exact⟨typeIs_int s i t,λ_ e=>nomatch e⟩
 | ref p=>
   cases r;rcases ty with⟨rfl,xs,hq⟩ | ⟨rfl,o,hk,hc,hd⟩ | ⟨rfl,hk⟩ | ⟨rfl,S,n,hk⟩
   ·obtain⟨its,_,pl,_⟩:=I.list hq;refine⟨pl.isList.typeIs,λa e=>?_⟩;cases e;obtain⟨o,n,e,c,hd,_⟩:=pl;exact⟨o,e,hd⟩
   ·refine⟨⟨o,I.kIn p o hk,hc⟩,λa e=>?_⟩;cases e;exact⟨o,I.kIn _ o hk,hd⟩
   ·have z:∃o,s.heap.get? p=some o/\o.ExactDict:=by
     rcases hk with⟨kvs,hk⟩ | ⟨kvs,hk⟩
     ·obtain⟨_,_,_,_,o,_,_,e,ex,_⟩:=I.hok p _ hk;exact⟨o,e,ex⟩
     ·obtain⟨_,_,_,_,o,_,_,e,ex,_⟩:=I.hok p _ hk;exact⟨o,e,ex⟩
    obtain⟨o,e,ex⟩:=z;refine⟨⟨o,e,ex.1⟩,λa e2=>?_⟩;cases e2;exact⟨o,e,ex.2.1⟩
   ·obtain⟨o,_,_,_,e,ex,_⟩:=I.hok p _ hk;refine⟨⟨o,e,ex.1⟩,λa e2=>?_⟩;cases e2;exact⟨o,e,ex.2.1⟩
 | _=>exact False.elim ty
noncomputable def E6 (K:yax) (T:String) (r:V->List V->Hp->VK->Prop) (to:TE):TE:=λσ H Q=>to σ H λx H1=>Eu K T x H1/\r x [] H1 Q
noncomputable def Hu (K:yax) (T:String) (r:V->List V->Hp->VK->Prop) (to:TE) (t:TA):TE:=λσ H Q=>to σ H λx H1=>Eu K T x H1/\t σ H1 λxs H2=>r x xs H2 Q
variable {o e:Expr} {es:List Expr} {to:TE} {t:TA} {name:Str} {apos cpos:Pos} {T id:String} {r:V->List V->Hp->VK->Prop}
theorem AC (pa:PlainAttrs T) (slot:Slot T name id) (hty:typeOf (.builtin id)=pure (.type "method_descriptor")) (hm:CD X id r) (ho:PE X o to)
 (hbase:attributeBase o name X.env (eval o X.env)=eval o X.env:=by rfl) (hline:(apos.endLine==cpos.line)=true:=by rfl):PE X (.Call (.Attribute o name apos) [] [] cpos) (E6 X.K T r to):=by
 intro π s σ H Q I h;refine wpAny_Call_method0_late hbase hline (bR (ho π s σ H _ I h) λv s1 z9=>?_);obtain⟨x,H1,I1,r1,ty,q1⟩:=z9;obtain⟨h1,h2⟩:=o0 I1 r1 ty;exact⟨T,id,pa,slot,hty,h1,h2,Calls.callWith_builtin rfl (PySem.evalArgs_none (hm π s1 σ H1 x [] v [] Q I1 r1 .nil q1))⟩
theorem zh (pa:PlainAttrs T) (slot:Slot T name id) (hty:typeOf (.builtin id)=pure (.type "method_descriptor")) (hm:CD X id r) (ho:PE X o to) (ha:PA X (e::es) t)
 (hbase:attributeBase o name X.env (eval o X.env)=eval o X.env:=by rfl)
 (hfew:((backTo cpos (starEach (e::es) X.env)).all (λx=>!x.1)&&(backToKw cpos (keywordEach [] X.env)).all (λx=>x.1.isSome)
   &&decide ((e::es).length+([]:List Keyword).length+(if ([]:List Keyword).isEmpty then 0 else 1)<30))=true:=by rfl)
 (hline:(apos.endLine==cpos.line)=true:=by rfl) (hs:starEach (e::es) X.env=(false,eval e X.env)::starEach es X.env:=by rfl) (hplain:(backTo cpos (starEach es X.env)).any (·.1)=false:=by rfl):
 PE X (.Call (.Attribute o name apos) (e::es) [] cpos) (Hu X.K T r to t):=by
 intro π s σ H Q I h;refine wpAny_Call_method_late hbase hfew hline rfl (bR (ho π s σ H _ I h) λv s1 z9=>?_);obtain⟨x,H1,I1,r1,ty,q1⟩:=z9;obtain⟨h1,h2⟩:=o0 I1 r1 ty;refine⟨T,id,pa,slot,hty,h1,h2,?_⟩;have hA:=ha cpos π s1 σ H1 _ I1 q1;rw[hs] at hA ⊢;refine Calls.callWith_builtin (by show(false||(backTo cpos (starEach es X.env)).any (·.1))=false;rw[hplain]<;> rfl) (Calls.evalArgs_plain ?_);exact bR hA λus s2 ⟨vs,H2,I2,r2,q2⟩=>hm π s2 σ H2 x vs v us Q I2 r1 r2 q2
end
noncomputable def GS (X:Cx) (id:String) (r:V->List V->Hp->VK->Prop):Prop:=
 ∀(π:List (Addr×Obj)) (s:Shared) (σ:St) (H:Hp) (x:V) (xs:List V) (v:Value) (us:ydw) (Q:VK),aB X π σ H s->bc x v->aU xs us->r x xs H Q->
  wpAny (model X.prog X.w) X.A (call (.builtin id) (v::us)) (EP X π σ Q) X.xe s
theorem aU.one:∀{x:V} {us:ydw},aU [x] us->∃u,us=[u]/\bc x u
 | _,_,.cons r .nil=>⟨_,rfl,r⟩
theorem aU.zero:∀{us:ydw},aU [] us->us=[]
 | _,.nil=>rfl
theorem aU.dropLast {xs:List V} (h:aU xs us):aU xs.dropLast us.dropLast:=by
 induction h with
 | nil=>exact .nil
 | cons r t ih=>
   cases t with
   | nil=>exact .nil
   | cons q t'=>exact .cons r ih
theorem aU.rep {xs:List V} {us:ydw} (h:aU xs us):∀k:Nat,aU (List.replicate k xs).flatten (List.replicate k us).flatten
 | 0=> .nil
 | k+1=>by
   rw[replicate_succ,replicate_succ,flatten_cons,flatten_cons];exact aU.append h (aU.rep h k)
theorem o5 {α:Type} (l:List α):l.eraseIdx (l.length-1)=l.dropLast:=by
 induction l with
 | nil=>rfl
 | cons a r ih=>
   cases r with
   | nil=>rfl
   | cons b r=>
     have e:(a::b::r).length-1=((b::r).length-1)+1:=by
      have h1:(a::b::r).length=r.length+2:=rfl;have h2:(b::r).length=r.length+1:=rfl;assumption
     rw[e,List.eraseIdx_cons_succ,ih]
     all_goals rfl
theorem iA (its:ydw):∀(k:Nat) (acc:ydw),
 List.foldl (λx1 x2=>x1++x2) acc.toArray (List.replicate k its.toArray)=(acc++(List.replicate k its).flatten).toArray
 | 0,acc=>by simp
 | k+1,acc=>by
   have e:acc.toArray++its.toArray=(acc++its).toArray:=by simp
   have e2:(acc++its)++(List.replicate k its).flatten=acc++(List.replicate (k+1) its).flatten:=by
    rw[replicate_succ,flatten_cons,append_assoc]
   rw[←e2,←iA its k (acc++its),←e,replicate_succ,foldl_cons]
section
variable {X:Cx} {π:List (Addr×Obj)} {σ:St} {H:Hp} {s:Shared} {l b:Addr} {xs ys zs:List V}
theorem aB.lset {its its':ydw} {n:Nat} {f:Array Value->Array Value} {t':Nat} (I:aB X π σ H s) (hH:H l=some (.lst xs))
 (e:s.heap.get? l=some { cls:= .type "list",data:= .seq its.toArray n }) (hf:f its.toArray=its'.toArray) (hv:aU ys its') (hz:ys.length<=sizeLine):
 aB X π σ (upd H l (.lst ys)) { s with heap:=s.heap.update l (Obj.mapSeq f),toks:=t' }:=by
 have q:=PySem.IsL.update e f;rw[hf] at q;refine I.write (x:=l) (e:=l) (by rw[hH];exact trivial) (.inl rfl) (λb' u hb hu=>(Heap.get?_update_other s.heap (Obj.mapSeq f) (Ne.symm hb)).trans hu) ⟨_,q⟩ ?_;exact⟨hz,its',_,hv,q⟩
theorem aB.lnew {its:ydw} {t':Nat} (I:aB X π σ H s) (hv:aU ys its) (hz:ys.length<=sizeLine):
 aB X π σ (upd H s.heap.objs.size (.lst ys)) { s with heap:=s.heap.push { cls:= .type "list",data:= .seq its.toArray },toks:=t' }:=
 I.laid (λ_ _ q=>yaw _ q) (yby _) ⟨hz,its,0,hv,yav _ rfl⟩
theorem aB.fresh (I:aB X π σ H s):H s.heap.objs.size=none:=I.hok.fresh (yby _)
theorem aB.lstM (I:aB X π σ H s) (hH:H l=some (.lst xs)):xs.length<=sizeLine/\∃(its:ydw) (n:Nat),aU xs its/\xs.length=its.length/\s.heap.get? l=some { cls:= .type "list",data:= .seq its.toArray n }:=by
 obtain⟨z,its,n,r,e⟩:=I.hok l _ hH;exact⟨z,its,n,r,r.length,e⟩
theorem tN {n:Nat} (h:n<=sizeLine):Builtin.List.listTooLong n=false:=by
 unfold Builtin.List.listTooLong;exact ycz (by lia)
end
section
variable {X:Cx}
noncomputable def xh:V->List V->Hp->VK->Prop:=λx vs H Q=>∃l xs y,x=.ref l/\vs=[y]/\H l=some (.lst xs)/\xs.length<sizeLine/\Q .non (upd H l (.lst (xs++[y])))
theorem rY:GS X "list.append" xh:=by
 intro π s σ H x vs v us Q I rx rv h;obtain⟨l,xs,y,rfl,rfl,hH,hz,q⟩:=h;cases rx;obtain⟨u,rfl,ru⟩:=rv.one;obtain⟨z,its,n,r,hl,e⟩:=I.lstM hH;refine call_meets F.slot_list_append ⟨_,e,rfl⟩ F.entry_list_append (F.args_list_append_2 _ _) (PySem.list_append l its.toArray n u (by rw[size_toArray];lia)) ⟨e,?_⟩;refine⟨.non,_,I.lset (its':=its++[u]) hH e (by simp) (r.append (.cons ru .nil)) ?_,rfl,q⟩;rw[length_append,List.length_singleton];assumption
noncomputable def E7:V->List V->Hp->VK->Prop:=λx vs H Q=>∃l xs y,x=.ref l/\vs=[]/\H l=some (.lst xs)/\xs[xs.length-1]?=some y/\Q y (upd H l (.lst xs.dropLast))
theorem AD:GS X "list.pop" E7:=by
 intro π s σ H x vs v us Q I rx rv h;obtain⟨l,xs,y,rfl,rfl,hH,hy,q⟩:=h;cases rx;have hus:=rv.zero;subst hus;obtain⟨z,its,n,r,hl,e⟩:=I.lstM hH;obtain⟨u,hu,ru⟩:=r.get hy;have hy':its.toArray[its.toArray.size-1]?=some u:=by
  show its.toArray[its.length-1]?=some u;rw[←Array.getElem?_toList,←hl];exact hu
 refine call_meets F.slot_list_pop ⟨_,e,rfl⟩ F.entry_list_pop (F.args_list_pop_1 _) (MeetsSeq.list_pop_last l its.toArray n u hy' (by rw[size_toArray];lia)) ⟨e,?_⟩;refine⟨y,_,I.lset (its':=its.dropLast) hH e ?_ r.dropLast ?_,ru,q⟩
 ·show its.toArray.eraseIdxIfInBounds (its.toArray.size-1)=its.dropLast.toArray;rw[size_toArray,List.eraseIdxIfInBounds_toArray,o5]
 ·rw[List.length_dropLast];lia
noncomputable def E8:R2:=λx y H Q=>∃l b xs zs,x=.ref l/\y=.ref b/\H l=some (.lst xs)/\H b=some (.lst zs)/\xs.length+zs.length<=sizeLine/\∀p,H p=none->Q (.ref p) (upd H p (.lst (xs++zs)))
theorem AE:jk X (binaryOp .Add) E8:=by
 intro π s σ H x y v u Q I rx ry h;obtain⟨l,b,xs,zs,rfl,rfl,hH,hB,hz,q⟩:=h;cases rx;cases ry;obtain⟨z,its,n,r,hl,e⟩:=I.lstM hH;obtain⟨z2,its2,n2,r2,hl2,e2⟩:=I.lstM hB;refine PySem.P.add_list e e2 ?_ (by rw[size_toArray,size_toArray];lia);have ea:its.toArray++its2.toArray=(its++its2).toArray:=by simp
 rw[ea];exact⟨.ref _,_,I.lnew (t':=s.toks) (r.append r2) (by rw[length_append];assumption),rfl,q _ I.fresh⟩
noncomputable def E9:R2:=λx y H Q=>∃l k xs,x=.ref l/\y=.int k/\H l=some (.lst xs)/\-(2^63)<=k/\k<2^63/\xs.length*k.toNat<=sizeLine/\
 ∀p,H p=none->Q (.ref p) (upd H p (.lst (List.replicate k.toNat xs).flatten))
theorem jr {α:Type} (xs:List α) (k:Nat):(List.replicate k xs).flatten.length=k*xs.length:=by
 induction k with
 | zero=>simp
 | succ k ih=>rw[replicate_succ,flatten_cons,length_append,ih,Nat.succ_mul,Nat.add_comm]
theorem AF:jk X (binaryOp .Mult) E9:=by
 intro π s σ H x y v u Q I rx ry h;obtain⟨l,k,xs,rfl,rfl,hH,h1,h2,hz,q⟩:=h;cases rx;obtain⟨t,rfl⟩:=ry;obtain⟨z,its,n,r,hl,e⟩:=I.lstM hH;have hlen:its.toArray.size*k.toNat<=sizeLine:=by rw[size_toArray,←hl];exact hz
 have hcap:¬its.toArray.size*k.toNat > (2^63-1)/8:=by
  have:(sizeLine:Nat)<=(2^63-1)/8:=by decide
  lia
 have hfit:¬(!Builtin.List.listFitsIndex k)=true:=by
  rw[fitsIndex_both h1 h2];exact ycy
 have hlong:¬Builtin.List.listTooLong (its.toArray.size*k.toNat)=true:=by
  rw[tN hlen];exact ycy
 have hnew:List.foldl (λx1 x2=>x1++x2) #[] (List.replicate (if its.toArray.isEmpty=true then 0 else k.toNat) its.toArray)=(List.replicate k.toNat its).flatten.toArray:=by
  have f0:∀m:Nat,List.foldl (λx1 x2=>x1++x2) #[] (List.replicate m its.toArray)=(List.replicate m its).flatten.toArray:=λm=>by
   have:=iA its m [];rw[nil_append] at this;exact this
  rw[f0];cases its with
  | nil=>simp
  | cons a r'=>rw[ybv (by simp)]
 refine wpAny_binaryOp_repeat_ref (T:="list") (U:="int") (by decide) ⟨_,e,rfl⟩ (λs'=>typeIs_int s' k t) noFill_list_mul F.fills_int_mul F.slot_int_rmul repeat_list F.slot_int_index.lookup
  (call_meets F.slot_int_rmul (typeIs_int s k t) F.entry_int_rmul (F.args_int_rmul_2 _ _) (int___rmul___int_list k t l its.toArray n)
    ⟨e,rfl,⟨_,e,rfl⟩,call_meets F.slot_list_mul ⟨_,e,rfl⟩ F.entry_list_mul (F.args_list_mul_2 _ _) (AutoListH.list___mul___list_int_3 l its.toArray n k t hfit hcap hlong) ⟨e,?_⟩⟩)
 rw[hnew];exact⟨.ref _,_,I.lnew (t':=s.toks) (r.rep k.toNat) (by rw[jr,Nat.mul_comm];exact hz),rfl,q _ I.fresh⟩
end
section
variable {prog:Program} {w:World} {A:Around} {E:ydz} {s:Shared}
set_option maxRecDepth 100000 in
end
section
variable {X:Cx}
end
end L2
namespace Att
open PySem PySem.W PySem.Calls PyProof.Rows
theorem jl {P:Params} {h:Heap}:∀(ns:List Int) (vs:ydw),WellAll P h vs (ns.map WData.int)->IntsAre vs ns:=by
 intro ns
 induction ns with
 | nil=>
   intro vs w;rw[map_nil] at w;cases w;exact .nil
 | cons n ns ih=>
   intro vs w;rw[map_cons] at w;cases w with
   | cons a b=>
     cases a;exact .cons _ _ (ih _ b)
theorem script_of {l:OpenLaw} {n:Nat} (hn:l.most=some n) {P:Params} {h:Heap} {args:List WData} {vals:ydw}
 (hpre:l.row.toRowW.claim.pre args=true) (hwl:WellAll P h vals args):
 ∃a vs ns,vals=[Value.ref a]/\args=[WData.list (ns.map WData.int)]/\h.get? a=some { cls:= .type "list",data:= .seq vs.toArray }/\IntsAre vs ns/\ns.length<=n:=by
 have hsh:WShape.hasAll [] args [.list .int]=true:=(pre_splitW hpre).1;have hc:l.pre.holds [] { args:=args }=true:=(pre_splitW hpre).2;obtain⟨d,r,rfl,h1,h2⟩:=hasAllW_cons hsh;obtain rfl:=hasAllW_nil h2;obtain⟨xs,rfl,h3⟩:=hasW_list h1;obtain⟨ns,rfl⟩:=items_int h3;have hlen:ns.length<=n:=by
  unfold OpenLaw.pre at hc;have h4:(WTm.not (.lt (.lit (.int (n:Int))) (.len (.arg 0)))).holds [] { args:=[.list (ns.map .int)] }=true:=by
   have h4:=(holds_andW hc).1;rw[hn] at h4;exact h4
  have h5:=condW_of h4 (w_not (w_lt w_lit (w_len_list (w_arg rfl))));rw[length_map] at h5;refine Nat.le_of_not_lt λq=>?_;have q':(n:Int)<((ns.length:Nat):Int):=by lia
  first
   | (rw[ycw q'] at h5;exact absurd h5 (by decide))
   | (simp at h5;lia)
 cases hwl with
 | cons w1 w2=>
   cases w2;cases w1 with
   | list ho hall=>exact⟨_,_,ns,rfl,rfl,ho,jl ns _ hall,hlen⟩
theorem post_true (l:OpenLaw) (args:List WData):l.row.toRowW.claim.post args (.bool true) args=true:=
 postW_of (r:=l.row.toRowW) (X:=(true==true))
  (show WShape.has [] (.bool true) .bool=true by first | rfl | decide | simp[WShape.has,WShape.arms,WShape.armsAll])
  (show(WTm.eq .res (.lit (.bool true))).value [] { args:=args,res:=some (.bool true),after:=args }=some (.bool (true==true)) from w_eq_bool (w_res rfl) w_lit) rfl
section
variable {prog:Program} {w:World} {A:Around} {E:ydz} {s:Shared} {K:Frag}
end
end Att
namespace L2
open PySem PySem.Spec PyProof.Rows
theorem kL:∀{vs:ydw} {ns:List Int},IntsAre vs ns->aU (ns.map V.int) vs
 | _,_,.nil=> .nil
 | _,_,.cons n t h=> .cons ⟨t,rfl⟩ (kL h)
noncomputable def tO (H:Hp):Prop:=∀b,H b=none∨∃o xs,H b=some (.frz o (.lst xs))
theorem tP {mg mb:ydv} {CX:oW} {fa a:Addr} {sp:Sp} {s₁:Shared} {vs:ydw} {ns:List Int}
 (KX:K.In s₁.heap) (hns:s₁.heap.Ns mainGlobals mg) (hb:s₁.heap.Ns builtinsNs mb) (hbb:∀x:Str,x≠"__name__"->mb x=bootBuiltins x) (hlim:s₁.heap.NoLimit) (hg:s₁.gens= #[])
 (ha:s₁.heap.get? a=some { cls:= .type "list",data:= .seq vs.toArray }) (hi:IntsAre vs ns) (hl:ns.length<=sizeLine) (hr:aw k callerA)
 (F:∀base:Heap,K.In base->base.Ns mainGlobals mg->dQ P w K mg base CX k fa fd [x] sp) (hbind:∀(s:Shared) (u:Value),BindsTo s fd ⟨[u],[]⟩ [(x,u)])
 (hsp:∀H:Hp,tO H->dm K H a (ns.map V.int)->sp [.ref a] H (λv _=>v=.bl true) λ_ _ _=>False)
 (hCX:∀H e s',CX [] H s₁ (λ_ _ _=>False) e s'->False):
 codeAny (model P w) callerA (.call (.ref fa) ⟨[.ref a],[]⟩) (λr s'=>r=.ok (.ret (.bool true))/\OldK s₁.heap s'.heap/\s'.os=s₁.os/\AllBare s'.gens) s₁:=by
 have rv:=kL hi;have lenV:=hi.length
 -- from an abstract heap in which nothing but the script may be tracked
 have core:∀H:Hp,tO H->dm K H a (ns.map V.int)->fP P w H s₁.heap->(∀b,H b≠none->b=a)->(H a≠none->K.lookup a=none)->
  codeAny (model P w) callerA (.call (.ref fa) ⟨[.ref a],[]⟩) (λr s'=>r=.ok (.ret (.bool true))/\OldK s₁.heap s'.heap/\s'.os=s₁.os/\AllBare s'.gens) s₁:=by
  intro H hO hS hok hA hK;have base_of:∀{b:Addr} {o:Obj},s₁.heap.get? b=some o->H b=none->(lN s₁.heap H).get? b=some o:=λe n=>sX e n;have noA:∀{b:Addr} {o:Obj} {es:Array DictEntry} {ep:Nat},s₁.heap.get? b=some o->o.data=.dict es ep->H b=none:=λ{b o es ep} e d=>by
   cases q:H b with
   | none=>rfl
   | some u=>
     have e':b=a:=hA b (by rw[q];simp);subst e';rw[ha] at e;cases e;have d':Data.seq vs.toArray _=Data.dict es ep:=d;cases d'
  have nsK:∀{b:Addr} {m:ydv},s₁.heap.Ns b m->(lN s₁.heap H).Ns b m:=λ{b m} ⟨o,es,ep,e,d,r⟩=>⟨o,es,ep,base_of e (noA e d),d,r⟩;have hKb:K.In (lN s₁.heap H):=λb o e=>base_of (KX b o e) (by
   cases q:H b with
   | none=>rfl
   | some u=>
     have e':b=a:=hA b (by rw[q];simp);subst e';rw[hK (by rw[q];simp)] at e;cases e)
  have hM:Mod K mg (lN s₁.heap H):=⟨hKb,nsK hns,⟨mb,nsK hb,hbb⟩,let ⟨mc,h1,h2⟩:=hlim;⟨mc,nsK h1,h2⟩⟩;have e0:mZ P w K mg (lN s₁.heap H) callerA [] s₁ H:=⟨rfl,hM,λb o e=>wH e,Nat.le_of_eq (rM _ _),trivial,λb hb=>absurd (show b∈([]:List Addr) from hb) (by simp),hok,.of_eq hg⟩;refine codeAny_mono ((F _ hKb (nsK hns)).run callerA [] s₁ H ⟨[.ref a],[]⟩ [.ref a] [.ref a] _ _ hr e0 (hbind s₁ (.ref a)) (.cons rfl .nil) (hsp H hO hS)) λr s' h=>?_;cases r with
  | error e=>exact(hCX H e s' h).elim
  | ok fl=>
    cases fl with
    | next=>exact False.elim h
    | brk=>exact False.elim h
    | cont=>exact False.elim h
    | ret u=>
      obtain⟨v,H',os,bare,un,hok',r',q⟩:=h;have q':v=.bl true:=q;subst q';obtain rfl:u=Value.bool true:=r';refine⟨rfl,OldK.of_keep λb o e=>?_,os,bare⟩;cases q:H b with
      | none=>exact un.keep b o e q (by intro z;exact absurd (show b∈([]:List Addr) from z) (by simp)) (by simp)
      | some u=>
        rcases hO b with z | ⟨ob,xs,z⟩
        ·rw[q] at z;cases z
        ·have z2:=un.frzs b ob _ z;obtain⟨e1,_⟩:=hok b _ z;obtain⟨e2,_⟩:=hok' b _ z2;rw[e] at e1;cases e1;exact e2
 cases hk:K.lookup a with
 | some o=>
   -- the script is one of the module's own objects
   have e:=KX a o hk;rw[ha] at e;cases e;refine core (λ_=>none) (λ_=> .inl rfl) (.inr ⟨_,vs.toArray,_,hk,rfl,rfl,rfl,by rw[size_toArray,lenV];exact hl,by simpa using rv⟩) (λb u z=>by have z':(none:Option HO)=some u:=z;cases z') (λb z=>absurd rfl z) λz=>absurd rfl z
 | none=>
   refine core (λb=>if b=a then some (.frz { cls:= .type "list",data:= .seq vs.toArray } (.lst (ns.map V.int))) else none) (λb=>?_) (.inl (.inr ⟨{ cls:= .type "list",data:= .seq vs.toArray },ycx rfl⟩)) (λb u z=>?_) (λb z=>?_) λ_=>hk
   ·by_cases hb:b=a
    ·exact .inr ⟨_,_,ycx hb⟩
    ·exact .inl (ybv hb)
   ·by_cases hb:b=a
    ·have z':=(ycx hb).symm.trans z;cases z';subst hb;exact⟨ha,by rw[length_map];exact hl,vs,_,rv,ha⟩
    ·have z':=(ybv hb).symm.trans z;cases z'
   ·by_cases hb:b=a
    ·exact hb
    ·exact absurd (ybv hb) z
noncomputable def au (s:Stmt):Arguments:=match s with
 | .FunctionDef _ a _ _ _ _ _ _ _ _=>a
 | _=>{ posonlyargs:=[],args:=[],vararg:=none,kwonlyargs:=[],kw_defaults:=[],kwarg:=none,defaults:=[] }
noncomputable def ap (s:Stmt):List Stmt:=match s with
 | .FunctionDef _ _ b _ _ _ _ _ _ _=>b
 | _=>[]
noncomputable def am (s:Stmt):Scope:=match s with
 | .FunctionDef _ _ _ _ _ _ sc _ _ _=>sc
 | _=>{ kind:= .function,names:=[],isGenerator:=false,isCoroutine:=false }
noncomputable abbrev tQ:oW:=λ_ _ _ _ _ _=>False
noncomputable abbrev E0:XK:=λ_ _ _=>False
theorem kM {X:Cx}:eK tQ X E0:=λ_ _ _ _ _ _ _ h=>h.elim
structure cz (K:yax) (x qual:Str) (st:Stmt) (f:Addr) (fd:FuncData):Prop where
 ex:∃(oc:Value) (od:Option Addr) (kV doc pm:Value) (an:Option Addr) (cdv ct:Value) (osl:Array (Option Value)),
  fd=fnOf x qual (au st) (ap st) (am st) .none kV doc pm an cdv ct/\K.lookup f=some ⟨oc,od,.func fd,osl⟩/\codeIn K cdv qual=true
 kp:keepIn K (.ref f)=true
section
variable {P:Program} {w:World} {K:yax} {mg:ydv} {base:Heap}
theorem cz.ok {x qual:Str} {f:Addr} {N ps:List Str} {sp:Sp} (F:cz K x qual st f fd) (S:bS N ps (am st)) (len:∀vs H Q E,sp vs H Q E->vs.length=ps.length)
 (hbody:∀(cdv:Value) (A:Around) (outer:List Env) (s:Shared) (H:Hp) (vs:List V) (Q:VK) (E:XK),aw k (A.deeper (envOfC qual (am st) s.heap.objs.size f cdv))->sp vs H Q E->
   ∃t,mV (dE tQ P w K mg base N qual (am st) f cdv A outer s H E).nox (ap st) t/\t { nx:=λ_ H'=>Q .non H',rt:=Q } (start N vs) H):dQ P w K mg base tQ (k+1) f fd ps sp:=by
 obtain⟨oc,od,kV,doc,pm,an,cdv,ct,osl,rfl,lk,hcd⟩:=F.ex;refine qk lk hcd S len λA outer s H vs Q E hr hsp=>?_;obtain⟨t,h,q⟩:=hbody cdv A outer s H vs Q E hr hsp;exact⟨t,h.nox,q⟩
theorem cz.binds {x qual:Str} {f:Addr} (F:cz K x qual st f fd)
 (h:∀(kV doc pm:Value) (an:Option Addr) (cdv ct:Value) (us:ydw),us.length=ps.length->bindArgs (fnOf x qual (au st) (ap st) (am st) .none kV doc pm an cdv ct) ⟨us,[]⟩=pure (ps.zip us)):bJ K fd ps []:=by
 obtain⟨oc,od,kV,doc,pm,an,cdv,ct,osl,rfl,lk,hcd⟩:=F.ex;exact .all (h kV doc pm an cdv ct)
theorem aH {x qual:Str} {f:Addr} {oc:Value} {od an:Option Addr} {osl:Array (Option Value)} {kV doc pm cdv ct:Value} (l:K.lookup f=some ⟨oc,od,.func (fnOf x qual (au st) (ap st) (am st) .none kV doc pm an cdv ct),osl⟩)
 (c:codeIn K cdv qual=true) (k:keepIn K (.ref f)=true):cz K x qual st f (fnOf x qual (au st) (ap st) (am st) .none kV doc pm an cdv ct):=⟨⟨oc,od,kV,doc,pm,an,cdv,ct,osl,rfl,l,c⟩,k⟩
end
section
variable {X:Cx}
theorem pv (i:Nat) (hN:X.N[i]?=some x:=by rfl) (hv:B8 X.env.scope x:=by first | exact Or.inl rfl | exact Or.inr (Or.inl rfl) | exact Or.inr (Or.inr rfl)) (hd:(x==("__debug__":Str))=false:=by decide)
 (hcd:(x==("__classdict__":Str))=false:=by decide):PE X (.Name x pos) (Cb i):=oJ hN hv hd hcd
end
section
variable {κ:Type} [DecidableEq κ]
noncomputable def lS (kvs:List (κ×V)) (k:κ):Option V:=(kvs.find? λkv=>decide (kv.1=k)).map (·.2)
noncomputable def fg (kvs:List (κ×V)) (k:κ) (v:V):List (κ×V):=
 if (kvs.any λkv=>decide (kv.1=k))=true then kvs.map (λkv=>if kv.1=k then (kv.1,v) else kv) else kvs++[(k,v)]
theorem nk {p:κ×V} {r:List (κ×V)} {k:κ} (e:p.1=k):lS (p::r) k=some p.2:=by simp[lS,List.find?_cons,e]
theorem nl {p:κ×V} {r:List (κ×V)} {k:κ} (e:¬p.1=k):lS (p::r) k=lS r k:=by simp[lS,List.find?_cons,e]
theorem i9 (kvs:List (κ×V)) (k:κ) (v:V):(fg kvs k v).length<=kvs.length+1:=by
 unfold fg;split
 ·rw[length_map];lia
 ·rw[length_append,length_cons,length_nil];lia
theorem gf.getD {o:Option V} {u:Option Value} {d:V} {d':Value} (r:gf o u) (rd:bc d d'):bc (o.getD d) (u.getD d'):=by
 cases o with
 | none=>cases u with
   | none=>exact rd
   | some _=>exact(show False from r).elim
 | some _=>cases u with
   | none=>exact(show False from r).elim
   | some _=>exact r
theorem KV.val {kvs:List (κ×V)} {vs:List (κ×Value)} (r:KV kvs vs) (k:κ):gf (lS kvs k) (valueAt vs k):=by
 unfold KV at r
 induction r with
 | nil=>exact True.intro
 | @cons p q ps qs h t ih=>
   obtain⟨h1,h2⟩:=h
   by_cases e:p.1=k
   ·have e':q.1=k:=h1.symm.trans e;have b:valueAt (q::qs) k=some q.2:=by simp[valueAt,List.find?_cons,e']
    rw[nk e,b];exact h2
   ·have e':¬q.1=k:=λz=>e (h1.trans z);have b:valueAt (q::qs) k=valueAt qs k:=by simp[valueAt,List.find?_cons,e']
    rw[nl e,b];exact ih
theorem KV.any {kvs:List (κ×V)} {vs:List (κ×Value)} (r:KV kvs vs) (k:κ):(kvs.any λkv=>decide (kv.1=k))=vs.any λkv=>decide (kv.1=k):=by
 unfold KV at r
 induction r with
 | nil=>rfl
 | cons h t ih=>rw[any_cons,any_cons,ih,h.1]
theorem KV.repl {kvs:List (κ×V)} {vs:List (κ×Value)} (r:KV kvs vs) (k:κ) {y:V} (ry:bc y u):
 KV (kvs.map λkv=>if kv.1=k then (kv.1,y) else kv) (vs.map λkv=>if kv.1=k then (kv.1,u) else kv):=by
 unfold KV at r ⊢
 induction r with
 | nil=>exact .nil
 | @cons p q ps qs h t ih=>
   rw[map_cons,map_cons];refine .cons ?_ ih;obtain⟨h1,h2⟩:=h
   by_cases e:p.1=k
   ·rw[ycx e,ycx (h1.symm.trans e)];exact⟨h1,ry⟩
   ·rw[ybv e,ybv (λz=>e (h1.trans z))];exact⟨h1,h2⟩
theorem KV.put {kvs:List (κ×V)} {vs:List (κ×Value)} (r:KV kvs vs) (k:κ) {y:V} (ry:bc y u):KV (fg kvs k y) (stored vs k u):=by
 unfold fg stored;rw[r.any k]
 by_cases e:(vs.any λkv=>decide (kv.1=k))=true
 ·rw[ycx e,ycx e];exact r.repl k ry
 ·rw[ybv e,ybv e];exact Paired.snoc r ⟨rfl,ry⟩
theorem KV.length {kvs:List (κ×V)} {vs:List (κ×Value)} (r:KV kvs vs):kvs.length=vs.length:=Paired.length r
end
theorem kN {k:ax} (r:bc (kV k) u):(aW P w).is k u=true:=by
 cases k with
 | inl i=>obtain⟨t,e⟩:=(show ∃t,u=Value.int i t from r);subst e;exact dR P w i t
 | inr x=>obtain⟨t,e⟩:=(show ∃t,u=Value.str x t from r);subst e;exact mX P w x t
theorem kO {P:Program} {w:World}:∀{ks:List ax} {us:ydw},aU (ks.map kV) us->ItemsAre (aW P w) ks us
 | [],_,r=>by rw[map_nil] at r;cases r;exact .nil
 | k::ks,_,r=>by
   rw[map_cons] at r;cases r with
   | cons h t=>exact .cons (kN h) (kO t)
noncomputable abbrev KT (H:Hp):List (List ax×V)->List (List ax×Addr×Value)->Prop:=Paired λp q=>p.1=q.1/\H q.2.1=some (.tup (p.1.map kV))/\bc p.2 q.2.2
section
variable {P:Program} {w:World} {H:Hp} {h:Heap} {a:Addr}
theorem zk {u:HO} (ok:fP P w H h) (e:Rd H a u):bD P w H h a u:=e.ok ok
theorem fq {kvs:List (ax×V)} (ok:fP P w H h) (e:Rd H a (.dK kvs)):kvs.length<=sizeLine/\(a==sysModules)=false/\∃vs,KV kvs vs/\h.DictOf (aW P w) a vs:=
 show bD P w H h a (.dK kvs) from zk ok e
theorem qq {kvs:List (ax×V)} (ok:fP P w H h) (e:H a=some (.dK kvs)):kvs.length<=sizeLine/\(a==sysModules)=false/\∃vs,KV kvs vs/\h.DictOf (aW P w) a vs:=fq ok (.inl e)
theorem AG {ks:List ax} (ok:fP P w H h) (e:H a=some (.tup (ks.map kV))):(tupleKind (aW P w)).is h ks a:=by
 obtain⟨_,its,r,o,h1,h2,n,h3⟩:=(show bD P w H h a (.tup (ks.map kV)) from ok a _ e);exact⟨o,its.toArray,n,h1,h2,h3,by simpa using kO r⟩
theorem CG {kvs:List (List ax×V)} (ok:fP P w H h) (e:Rd H a (.dT kvs)):kvs.length<=sizeLine/\(a==sysModules)=false/\
 ∃xs,KT H kvs xs/\h.DictOfH (tupleKind (aW P w)) a xs:=by
 obtain⟨z,y,xs,r,o,es,ep,h1,h2,h3,h4,h5⟩:=(show bD P w H h a (.dT kvs) from zk ok e);refine⟨z,y,xs,r,o,es,ep,h1,h2,h3,h4,λx hx=>?_,h5⟩;have all:∀{l:List (List ax×V)} {m:List (List ax×Addr×Value)},KT H l m->∀x∈m,(tupleKind (aW P w)).is h x.1 x.2.1:=by
  intro l m q
  induction q with
  | nil=>intro x hx;exact nomatch hx
  | @cons p q ps qs hq t ih=>
    intro x hx;rcases mem_cons.mp hx with e | hx
    ·subst e;exact AG ok (by rw[←hq.1];exact hq.2.1)
    ·exact ih x hx
 exact all r x hx
theorem tR {kvs:List (List ax×V)} (ok:fP P w H h) (e:H a=some (.dT kvs)):kvs.length<=sizeLine/\(a==sysModules)=false/\
 ∃xs,KT H kvs xs/\h.DictOfH (tupleKind (aW P w)) a xs:=CG ok (.inl e)
end
section
variable {X:Cx} {π:List (Addr×Obj)} {σ:St} {H:Hp} {s:Shared} {a:Addr} {y v:V} {u r:Value} {o:Option V} {A:Around} {E:ydz}
theorem aB.bigD (I:aB X π σ H s):sysModules<s.heap.objs.size:=by
 have h:mainGlobals<s.heap.objs.size:=(I.mod.glob.keeps I.bk).lt;exact Nat.lt_trans (by decide) h
theorem lT {h':Heap} {t':Nat} {ob:HO} (I:aB X π σ H s) (mu:B9 (H a)) (hs:Heap.SameBut a s.heap h') (he:∃q,h'.get? a=some q) (new:bD X.prog X.w (upd H a ob) h' a ob):
 aB X π σ (upd H a ob) { s with heap:=h',toks:=t' }:=
 I.write (x:=a) (e:=a) mu (.inl rfl) (λb q hb z=>(hs.2 b hb).trans z) he new
theorem tS {H':Hp} {h':Heap} {kvs:List (ax×V)} {vs:List (ax×Value)} (z:kvs.length<=sizeLine) (hd:(a==sysModules)=false) (rel:KV kvs vs) (dd:h'.DictOf (aW P w) a vs):
 bD P w H' h' a (.dK kvs):=⟨z,hd,vs,rel,dd⟩
end
section
variable {X:Cx} {π:List (Addr×Obj)} {σ:St} {H:Hp} {s:Shared} {a:Addr} {kvs:List (ax×V)} {k:ax} {u:Value} {A:Around} {E:ydz}
theorem CH (I:aB X π σ H s) (e:Rd H a (.dK kvs)) (h:∀t s',aB X π σ H s'->Q (.int kvs.length t) s'):wpAny (model X.prog X.w) A (call (.builtin "len") [.ref a]) Q E s:=by
 obtain⟨z,hd,vs,rel,dd⟩:=fq I.hok e;refine call_len_dict hd dd (by rw[←rel.length];rw[sizeLine_eq] at z;lia) ?_;rw[←rel.length];exact h _ _ (I.tok _)
end
section
variable {X:Cx} {o i e value:Expr} {pos pos' tpos:Pos} {td ty tv:TE}
end
theorem kP {H:Hp} (h:Heap) (hb:sysModules<h.objs.size):bD P w H (h.push { cls:= .type "dict",data:= .dict #[] }) h.objs.size (.dK []):=
 ⟨zero_le _,beq_eq_false_iff_ne.mpr (Ne.symm (ne_of_lt hb)),[],.nil,Heap.DictOf.new h⟩
noncomputable def AH:TE:=λ_ H Q=>∀p,H p=none->Q (.ref p) (upd H p (.dK []))
section
variable {X:Cx} {pos:Pos}
theorem pe_dnewK:PE X (.Dict [] [] pos) AH:=λπ s σ H Q I h=>
 wpAny_Dict_empty ⟨.ref s.heap.objs.size,_,I.laid (a:=s.heap.objs.size) (o:= .dK []) (t':=s.toks) (λ_ _ q=>yaw _ q) (yby _) (kP s.heap I.bigD),rfl,h _ (I.hok.fresh (yby _))⟩
end
noncomputable abbrev VV:List (V×V)->List (Value×Value)->Prop:=Paired λp q=>bc p.1 q.1/\bc p.2 q.2
noncomputable def gh (kvs more:List (ax×V)):List (ax×V):=more.foldl (λacc kv=>fg acc kv.1 kv.2) kvs
theorem KV.merge:∀{more:List (ax×V)} {rs:List (ax×Value)} {kvs:List (ax×V)} {vs:List (ax×Value)},KV more rs->KV kvs vs->KV (gh kvs more) (merged vs rs):=by
 intro more rs kvs vs r;unfold KV at r
 induction r generalizing kvs vs with
 | nil=>intro q;exact q
 | @cons p q ps qs h t ih=>
   intro r0;have e:KV (fg kvs p.1 p.2) (stored vs q.1 q.2):=by
    have:=r0.put p.1 h.2;rw[←h.1];exact this
   exact ih e
theorem fV:∀(more kvs:List (ax×V)),(gh kvs more).length<=kvs.length+more.length
 | [],kvs=>by show kvs.length<=kvs.length+0;lia
 | p::r,kvs=>by
   have h1:=fV r (fg kvs p.1 p.2);have h2:=i9 kvs p.1 p.2;show(gh (fg kvs p.1 p.2) r).length<=_;rw[length_cons];lia
theorem jF {P:Program} {w:World}:∀{kvs:List (ax×V)} {ws:List (Value×Value)},VV (kvs.map λkv=>(kV kv.1,kv.2)) ws->∃rs,Carries (aW P w) ws rs/\KV kvs rs
 | [],_,r=>by rw[map_nil] at r;cases r;exact⟨[],True.intro,.nil⟩
 | p::kvs,_,r=>by
   rw[map_cons] at r;cases r with
   | @cons a b as bs h t=>
     obtain⟨rs,c,q⟩:=jF (P:=P) (w:=w) t;obtain⟨b1,b2⟩:=b;exact⟨(p.1,b2)::rs,⟨kN h.1,rfl,c⟩,.cons ⟨rfl,h.2⟩ q⟩
structure M1 (X:Cx) (o:Expr) (m:Str) (apos:Pos) (e:Expr) (cpos:Pos):Prop where
 base:attributeBase o m X.env (eval o X.env)=eval o X.env
 few:((backTo cpos (starEach [e] X.env)).all (λx=>!x.1)&&(backToKw cpos (keywordEach [] X.env)).all (λx=>x.1.isSome)
  &&decide (([e]:List Expr).length+([]:List Keyword).length+(if ([]:List Keyword).isEmpty then 0 else 1)<30))=true
 line:(apos.endLine==cpos.line)=true
 trees:backTo cpos (starEach [e] X.env)=[(false,eval e X.env)]
structure M2 (X:Cx) (o:Expr) (m:Str) (apos:Pos) (e f:Expr) (cpos:Pos):Prop where
 base:attributeBase o m X.env (eval o X.env)=eval o X.env
 few:((backTo cpos (starEach [e,f] X.env)).all (λx=>!x.1)&&(backToKw cpos (keywordEach [] X.env)).all (λx=>x.1.isSome)
  &&decide (([e,f]:List Expr).length+([]:List Keyword).length+(if ([]:List Keyword).isEmpty then 0 else 1)<30))=true
 line:(apos.endLine==cpos.line)=true
 trees:backTo cpos (starEach [e,f] X.env)=[(false,eval e X.env),(false,eval f X.env)]
section
variable {X:Cx} {π:List (Addr×Obj)} {σ:St} {H:Hp} {s:Shared} {a:Addr} {y d:V} {u r:Value} {o:Option V} {A:Around} {E:ydz}
end
section
variable {X:Cx} {o e f:Expr} {apos cpos:Pos} {td ty tx:TE}
end
section
variable {X:Cx} {π:List (Addr×Obj)} {σ:St} {H:Hp} {s:Shared} {a:Addr} {kvs:List (ax×V)} {A:Around} {E:ydz}
end
section
variable {X:Cx} {π:List (Addr×Obj)} {σ:St} {H:Hp} {s:Shared} {a:Addr} {y:V} {u:Value} {A:Around} {E:ydz}
end
inductive W where
 | non | bl (b:Bool) | int (i:Int) | str (x:Str) | ref (a:Addr) | tup (xs:List W) | scr (ns:List Int)
inductive GO where
 | lst (ws:List W)
 | dct
 | exc (C:Addr)
 | dic (kvs:List (ax×W))
 | fdc (o:Obj) (us:List (ax×V)) (kvs:List (ax×W))
 | ins (C:Addr) (fs:List (Str×W))
 | tbl (ps:Array Value)
 | any (P:Hp->Addr->Prop)
noncomputable abbrev Gp:=Addr->Option GO
noncomputable def aF (G:Gp) (a:Addr) (g:GO):Gp:=λb=>if b=a then some g else G b
theorem af {G:Gp} {g:GO}:aF G a g a=some g:=by unfold aF;rw[ycx rfl]
theorem ao {G:Gp} {a b:Addr} {g:GO} (h:b≠a):aF G a g b=G b:=by unfold aF;rw[ybv h]
noncomputable def zm (K:yax) (H:Hp) (a:Addr) (ns:List Int):Prop:=
 (∃o,H a=some (.frz o (.lst (ns.map V.int))))∨
   ∃(o:Obj) (its:Array Value) (n:Nat),K.lookup a=some o/\o.cls=.type "list"/\o.dict=none/\o.data=.seq its n/\its.size<=sizeLine/\aU (ns.map V.int) its.toList
theorem zm.sq {H:Hp} {ns:List Int} (h:zm K H a ns):dm K H a (ns.map V.int):=by
 rcases h with⟨o,h⟩ | h
 ·exact .inl (.inr ⟨o,h⟩)
 ·exact .inr h
structure aM (H H1:Hp):Prop where
 tup:∀a xs,H a=some (.tup xs)->H1 a=some (.tup xs)
 frz:∀a o xs,H a=some (.frz o (.lst xs))->H1 a=some (.frz o (.lst xs))
theorem aM.refl (H:Hp):aM H H:=⟨λ_ _ h=>h,λ_ _ _ h=>h⟩
theorem aM.trans {H H1 H2:Hp} (a:aM H H1) (b:aM H1 H2):aM H H2:=
 ⟨λx xs h=>b.tup x xs (a.tup x xs h),λx o u h=>b.frz x o u (a.frz x o u h)⟩
theorem aM.new {H:Hp} {p:Addr} (hp:H p=none) (o:HO):aM H (upd H p o):=
 ⟨λ_ _ h=>by rw[aG (bf h hp)];exact h,λ_ _ _ h=>by rw[aG (bf h hp)];exact h⟩
theorem aM.lst {H:Hp} {p:Addr} {xs:List V} (hp:H p=some (.lst xs)) (o:HO):aM H (upd H p o):=
 ⟨λ_ _ h=>by rw[aG (fS h hp (by intro z;cases z))];exact h,λ_ _ _ h=>by rw[aG (fS h hp (by intro z;cases z))];exact h⟩
mutual
inductive bK (K:yax) (H:Hp):W->V->Prop where
 | non:bK K H .non .non
 | bl (b:Bool):bK K H (.bl b) (.bl b)
 | int (i:Int):bK K H (.int i) (.int i)
 | str (x:Str):bK K H (.str x) (.str x)
 | ref (a:Addr):bK K H (.ref a) (.ref a)
 | tup {a:Addr} {ws:List W} {xs:List V} (h:H a=some (.tup xs)) (r:aQ K H ws xs):bK K H (.tup ws) (.ref a)
 | scr {a:Addr} {ns:List Int} (h:zm K H a ns):bK K H (.scr ns) (.ref a)
inductive aQ (K:yax) (H:Hp):List W->List V->Prop where
 | nil:aQ K H [] []
 | cons {w:W} {v:V} {ws:List W} {vs:List V} (r:bK K H w v) (rs:aQ K H ws vs):aQ K H (w::ws) (v::vs)
end
section
variable {K:yax} {H H1:Hp}
theorem zm.mono {ns:List Int} (t:aM H H1) (h:zm K H a ns):zm K H1 a ns:=by
 rcases h with⟨o,h⟩ | h
 ·exact .inl ⟨o,t.frz _ _ _ h⟩
 ·exact .inr h
mutual
theorem bK.mono (t:aM H H1):∀{w:W} {v:V},bK K H w v->bK K H1 w v
 | _,_,.non=> .non
 | _,_,.bl b=> .bl b
 | _,_,.int i=> .int i
 | _,_,.str x=> .str x
 | _,_,.ref a=> .ref a
 | _,_,.tup h r=> .tup (t.tup _ _ h) (aQ.mono t r)
 | _,_,.scr h=> .scr (h.mono t)
theorem aQ.mono (t:aM H H1):∀{ws:List W} {vs:List V},aQ K H ws vs->aQ K H1 ws vs
 | _,_,.nil=> .nil
 | _,_,.cons r rs=> .cons (bK.mono t r) (aQ.mono t rs)
end
theorem aQ.length:∀{ws:List W} {vs:List V},aQ K H ws vs->ws.length=vs.length
 | _,_,.nil=>rfl
 | _,_,.cons _ rs=>congrArg (·+1) rs.length
theorem aQ.append:∀{ws us:List W} {vs xs:List V},aQ K H ws vs->aQ K H us xs->aQ K H (ws++us) (vs++xs)
 | _,_,_,_,.nil,s=>s
 | _,_,_,_,.cons r rs,s=> .cons r (rs.append s)
theorem aQ.take:∀{ws:List W} {vs:List V} (n:Nat),aQ K H ws vs->aQ K H (ws.take n) (vs.take n)
 | _,_,0,_=> .nil
 | _,_,_+1,.nil=> .nil
 | _,_,n+1,.cons r rs=> .cons r (rs.take n)
theorem aQ.drop:∀{ws:List W} {vs:List V} (n:Nat),aQ K H ws vs->aQ K H (ws.drop n) (vs.drop n)
 | _,_,0,r=>r
 | _,_,_+1,.nil=> .nil
 | _,_,n+1,.cons _ rs=>rs.drop n
theorem aQ.get:∀{ws:List W} {vs:List V} {i:Nat} {w:W},aQ K H ws vs->ws[i]?=some w->∃v,vs[i]?=some v/\bK K H w v
 | _,_,_,_,.nil,e=>by simp at e
 | _,_,0,_,.cons r _,e=>by simp at e;subst e;exact⟨_,rfl,r⟩
 | _,_,i+1,w,.cons _ rs,e=>by
   obtain⟨v,h1,h2⟩:=aQ.get (i:=i) (w:=w) rs (by simpa using e);exact⟨v,by simpa using h1,h2⟩
theorem aQ.ints:∀ns:List Int,aQ K H (ns.map W.int) (ns.map V.int)
 | []=> .nil
 | n::ns=> .cons (.int n) (aQ.ints ns)
end
noncomputable abbrev bmV:List Value:=[.type "ValueError",.type "Exception",.type "BaseException",.type "object"]
structure XC (K:yax) (C:Addr) (bm:ydw):Prop where
 obj:∀h:Heap,K.In h->∃N nm qn bs hdct sn sub ab col dd k0 k1 k2 k3 k5 mN,h.get? C=some (excClassObj nm qn C N bs bm hdct sn sub ab col dd k0 k1 k2 k3 k5 "ValueError.__new__")/\h.Ns N mN/\mN "__init__"=none/\OwnTail h bmV bm
 mro:∀v,mroIn K C v=some ((Value.ref C::bm).contains v)
structure XQ (K:yax) (C:Addr):Prop where
 ga:findIn K (.ref C) "__getattribute__"=some (some (.builtin "BaseException.__getattribute__"))
 gx:findIn K (.ref C) "__getattr__"=some none
 gc:findIn K (.ref C) "__class__"=some (some (.builtin "object.__class__"))
structure XD (K:yax) (D:Addr):Prop where
 cls:∃cd,clsIn K D=some cd
 ty:typeIn K (.ref D)=some (.type "type")
 ins:instIn K (.ref D) (.type "type")=some true
structure XO (K:yax) (C:Addr):Prop where
 c:∃bm,XC K C bm
 q:XQ K C
 d:XD K C
noncomputable def zn (K:yax) (H:Hp) (a:Addr):GO->Prop
 | .lst ws=>ws.length<=100000/\∃xs,H a=some (.lst xs)/\aQ K H ws xs
 | .dct=>H a=some (.dK [])
 | .exc C=>XO K C/\H a=some (.ext λh=>∃o,h.get? a=some o/\o.cls=.ref C)
 | .dic kvs=>kvs.length<=100000/\∃kvs',H a=some (.dK kvs')/\kvs'.map (·.1)=kvs.map (·.1)/\aQ K H (kvs.map (·.2)) (kvs'.map (·.2))
 | .fdc o us kvs=>kvs.length<=100000/\H a=some (.frz o (.dK us))/\us.map (·.1)=kvs.map (·.1)/\aQ K H (kvs.map (·.2)) (us.map (·.2))
 | .ins C fs=>fs.length<=100/\∃dx fs',H a=some (.ins C dx fs')/\fs'.map (·.1)=fs.map (·.1)/\aQ K H (fs.map (·.2)) (fs'.map (·.2))
 | .tbl ps=>H a=some (.tbl ps)
 | .any P=>P H a/\(∃o,H a=some o)/\∀H1 H2:Hp,aM H1 H2->H2 a=H1 a->P H1 a->P H2 a
noncomputable def aI (K:yax) (H:Hp) (G:Gp):Prop:=∀a g,G a=some g->zn K H a g
section
variable {K:yax} {H H1:Hp} {G:Gp} {p a:Addr} {g:GO}
theorem zn.has (h:zn K H a g):∃o,H a=some o:=by
 cases g with
 | lst ws=>obtain⟨_,_,e,_⟩:=h;exact⟨_,e⟩
 | dct=>exact⟨_,h⟩
 | exc C=>exact⟨_,h.2⟩
 | dic kvs=>obtain⟨_,_,e,_⟩:=h;exact⟨_,e⟩
 | fdc o us kvs=>obtain⟨_,e,_⟩:=h;exact⟨_,e⟩
 | ins C fs=>obtain⟨_,_,_,e,_⟩:=h;exact⟨_,e⟩
 | tbl ps=>exact⟨_,h⟩
 | any P=>exact h.2.1
theorem zn.mono (t:aM H H1) (e:H1 a=H a) (h:zn K H a g):zn K H1 a g:=by
 cases g with
 | lst ws=>obtain⟨l,xs,e1,r⟩:=h;exact⟨l,xs,e.trans e1,r.mono t⟩
 | dct=>exact e.trans h
 | exc C=>exact⟨h.1,e.trans h.2⟩
 | dic kvs=>obtain⟨l,xs,e1,n,r⟩:=h;exact⟨l,xs,e.trans e1,n,r.mono t⟩
 | fdc o us kvs=>obtain⟨l,e1,n,r⟩:=h;exact⟨l,e.trans e1,n,r.mono t⟩
 | ins C fs=>obtain⟨l,dx,xs,e1,n,r⟩:=h;exact⟨l,dx,xs,e.trans e1,n,r.mono t⟩
 | tbl ps=>exact e.trans h
 | any P=>exact⟨h.2.2 _ _ t e h.1,(let ⟨o,e1⟩:=h.2.1;⟨o,e.trans e1⟩),h.2.2⟩
theorem aI.fresh (h:aI K H G) (hp:H p=none):G p=none:=by
 cases e:G p with
 | none=>rfl
 | some g=>
   obtain⟨o,e1⟩:=(h p _ e).has;rw[hp] at e1;cases e1
theorem aI.upd (h:aI K H G) (t:aM H (upd H p o)) (hG:G p=none):aI K (L2.upd H p o) G:=λa g e=>by
 have hne:a≠p:=λz=>by rw[z,hG] at e;cases e
 exact(h a g e).mono t (aG hne)
theorem aI.keep (h:aI K H G) (hp:H p=none) (o:HO):aI K (L2.upd H p o) G:=h.upd (aM.new hp o) (h.fresh hp)
theorem aI.lay (h:aI K H G) {o:HO} (t:aM H (L2.upd H p o)) (n:zn K (L2.upd H p o) p g):aI K (L2.upd H p o) (aF G p g):=λa g' e=>by
 by_cases hb:a=p
 ·subst hb;rw[af] at e;cases e;exact n
 ·rw[ao hb] at e;exact(h a g' e).mono t (aG hb)
theorem aI.put (h:aI K H G) {xs:List V} {ws:List W} (t:aM H (L2.upd H p (.lst xs))) (r:aQ K H ws xs) (hl:ws.length<=100000):aI K (L2.upd H p (.lst xs)) (aF G p (.lst ws)):=h.lay t ⟨hl,xs,aX,r.mono t⟩
noncomputable def aC (G0 G:Gp):Prop:=∀a g,G0 a=some g->G a=some g
theorem aI.le {G0:Gp} (h:aI K H G) (l:aC G0 G):aI K H G0:=λa g e=>h a g (l a g e)
theorem aC.refl (G:Gp):aC G G:=λ_ _ h=>h
theorem aC.trans {G0 G1 G2:Gp} (a:aC G0 G1) (b:aC G1 G2):aC G0 G2:=λx g h=>b x g (a x g h)
theorem aC.new {g:GO} (hp:G p=none):aC G (aF G p g):=λa u e=>by
 rw[ao (λz=>by rw[z,hp] at e;cases e)];exact e
end
noncomputable abbrev cO:=List (Option W)
noncomputable def bu (K:yax) (H:Hp) (τ:cO) (σ:St):Prop:=τ.length=σ.length/\∀(i:Nat) (w:W),τ[i]?=some (some w)->∃v,σ[i]?=some (some v)/\bK K H w v
section
variable {K:yax} {H H1:Hp} {τ:cO} {σ:St}
theorem bu.mono (t:aM H H1) (h:bu K H τ σ):bu K H1 τ σ:=⟨h.1,λi w e=>let ⟨v,e1,r⟩:=h.2 i w e;⟨v,e1,r.mono t⟩⟩
theorem bu.set (h:bu K H τ σ) {w:W} {v:V} (r:bK K H w v) (i:Nat):bu K H (τ.set i (some w)) (σ.set i (some v)):=by
 refine⟨by simpa using h.1,λj u e=>?_⟩
 by_cases hj:i=j
 ·subst hj
  by_cases hl:i<τ.length
  ·rw[List.getElem?_set_self hl] at e;cases e;exact⟨v,List.getElem?_set_self (by rw[←h.1];exact hl),r⟩
  ·rw[List.getElem?_eq_none (by simpa using hl)] at e;cases e
 ·rw[List.getElem?_set_ne hj] at e;obtain⟨u',e1,r1⟩:=h.2 j u e;exact⟨u',by rw[List.getElem?_set_ne hj];exact e1,r1⟩
theorem bu.start {N:List Str} {ws:List W} {vs:List V} (r:aQ K H ws vs):bu K H (ws.map some++List.replicate (N.length-ws.length) none) (L2.start N vs):=by
 unfold L2.start;refine⟨by simp[r.length],λi w e=>?_⟩
 by_cases hi:i<ws.length
 ·rw[List.getElem?_append_left (by simpa using hi),List.getElem?_map] at e;cases e1:ws[i]? with
  | none=>rw[e1] at e;cases e
  | some u=>
    rw[e1] at e;cases e;obtain⟨v,e2,rv⟩:=r.get e1;refine⟨v,?_,rv⟩;rw[List.getElem?_append_left (by simpa[←r.length] using hi),List.getElem?_map,e2]
    rfl
 ·rw[List.getElem?_append_right (by simpa using hi),List.getElem?_replicate] at e;split at e<;> cases e
end
noncomputable abbrev WK:=W->Gp->Prop
noncomputable abbrev WE:=cO->Gp->WK->Prop
noncomputable abbrev WT:=cO->Gp->(Bool->Gp->Prop)->Prop
noncomputable abbrev WA:=cO->Gp->(List W->Gp->Prop)->Prop
structure cZ where
 nx:cO->Gp->Prop
 rt:WK
 bk:cO->Gp->Prop:=λ_ _=>False
 ct:cO->Gp->Prop:=λ_ _=>False
noncomputable abbrev WS:=cZ->cO->Gp->Prop
noncomputable abbrev WG:=W->cO->Gp->(cO->Gp->Prop)->Prop
noncomputable abbrev zo:=List W->cO->Gp->(cO->Gp->Prop)->Prop
noncomputable def kx (K:yax) (t:WE):TE:=λσ H Q=>∃τ G q,bu K H τ σ/\aI K H G/\t τ G q/\∀v H1 w G1,aM H H1->bK K H1 w v->aI K H1 G1->q w G1->Q v H1
noncomputable def AI (K:yax) (t:WT):TT:=λσ H Q=>∃τ G q,bu K H τ σ/\aI K H G/\t τ G q/\∀b H1 G1,aM H H1->aI K H1 G1->q b G1->Q b H1
noncomputable def LA (K:yax) (t:WA):TA:=λσ H Q=>∃τ G q,bu K H τ σ/\aI K H G/\t τ G q/\∀vs H1 ws G1,aM H H1->aQ K H1 ws vs->aI K H1 G1->q ws G1->Q vs H1
structure nq (K:yax) (H:Hp) (d:cZ) (D:fQ):Prop where
 nx:∀σ1 H1 τ1 G1,aM H H1->bu K H1 τ1 σ1->aI K H1 G1->d.nx τ1 G1->D.nx σ1 H1
 rt:∀v H1 w G1,aM H H1->bK K H1 w v->aI K H1 G1->d.rt w G1->D.rt v H1
 bk:∀σ1 H1 τ1 G1,aM H H1->bu K H1 τ1 σ1->aI K H1 G1->d.bk τ1 G1->D.bk σ1 H1
 ct:∀σ1 H1 τ1 G1,aM H H1->bu K H1 τ1 σ1->aI K H1 G1->d.ct τ1 G1->D.ct σ1 H1
noncomputable def LS (K:yax) (t:WS):TS:=λD σ H=>∃τ G d,bu K H τ σ/\aI K H G/\t d τ G/\nq K H d D
theorem kx.el {t:WE} {σ:St} {H:Hp} {Q:VK} {P:Prop} (h:kx K t σ H Q) (k:∀(τ:cO) (G:Gp) (q:WK),bu K H τ σ->aI K H G->t τ G q->(∀v H1 w G1,aM H H1->bK K H1 w v->aI K H1 G1->q w G1->Q v H1)->P):P:=by
 obtain⟨τ,G,q,a,b,c,d⟩:=h;exact k τ G q a b c d
theorem AI.el {t:WT} {σ:St} {H:Hp} {Q:Bool->Hp->Prop} {P:Prop} (h:AI K t σ H Q) (k:∀(τ:cO) (G:Gp) (q:Bool->Gp->Prop),bu K H τ σ->aI K H G->t τ G q->(∀b H1 G1,aM H H1->aI K H1 G1->q b G1->Q b H1)->P):P:=by
 obtain⟨τ,G,q,a,b,c,d⟩:=h;exact k τ G q a b c d
theorem LA.el {t:WA} {σ:St} {H:Hp} {Q:List V->Hp->Prop} {P:Prop} (h:LA K t σ H Q) (k:∀(τ:cO) (G:Gp) (q:List W->Gp->Prop),bu K H τ σ->aI K H G->t τ G q->(∀vs H1 ws G1,aM H H1->aQ K H1 ws vs->aI K H1 G1->q ws G1->Q vs H1)->P):P:=by
 obtain⟨τ,G,q,a,b,c,d⟩:=h;exact k τ G q a b c d
theorem LS.el {t:WS} {D:fQ} {σ:St} {H:Hp} {P:Prop} (h:LS K t D σ H) (k:∀(τ:cO) (G:Gp) (d:cZ),bu K H τ σ->aI K H G->t d τ G->nq K H d D->P):P:=by
 obtain⟨τ,G,q,a,b,c,d⟩:=h;exact k τ G q a b c d
noncomputable def LG (K:yax) (t:WG):TG:=λv σ H Q=>∃w τ G q,bK K H w v/\bu K H τ σ/\aI K H G/\t w τ G q/\∀σ1 H1 τ1 G1,aM H H1->bu K H1 τ1 σ1->aI K H1 G1->q τ1 G1->Q σ1 H1
noncomputable def Hv (K:yax) (t:zo):wN:=λvs σ H Q=>∃ws τ G q,aQ K H ws vs/\bu K H τ σ/\aI K H G/\t ws τ G q/\∀σ1 H1 τ1 G1,aM H H1->bu K H1 τ1 σ1->aI K H1 G1->q τ1 G1->Q σ1 H1
noncomputable def QE (X:Cx) (e:Expr) (t:WE):Prop:=PE X e (kx X.K t)
noncomputable def QT (X:Cx) (e:Expr) (t:WT):Prop:=PT X e (AI X.K t)
noncomputable def QW (X:Cx) (e:Expr) (t:WT):Prop:=PW X e (AI X.K t)
noncomputable def QA (X:Cx) (es:List Expr) (t:WA):Prop:=PA X es (LA X.K t)
noncomputable def QS (X:Cx) (st:Stmt) (t:WS):Prop:=PS X st (LS X.K t)
noncomputable def nr (X:Cx) (st:List Stmt) (t:WS):Prop:=mV X st (LS X.K t)
noncomputable def QG (X:Cx) (e:Expr) (t:WG):Prop:=PG X e (LG X.K t)
noncomputable def CI (X:Cx) (es:List Expr) (t:zo):Prop:=zc X es (Hv X.K t)
section
variable {X:Cx}
theorem PE.imp {t t':TE} (h:PE X e t) (f:∀σ H Q,t' σ H Q->t σ H Q):PE X e t':=λπ s σ H Q I q=>h π s σ H Q I (f _ _ _ q)
theorem PT.imp {t t':TT} (h:PT X e t) (f:∀σ H Q,t' σ H Q->t σ H Q):PT X e t':=λπ s σ H Q I q=>h π s σ H Q I (f _ _ _ q)
theorem PW.imp {t t':TT} (h:PW X e t) (f:∀σ H Q,t' σ H Q->t σ H Q):PW X e t':=λwh π s σ H Q I q=>h wh π s σ H Q I (f _ _ _ q)
theorem PA.imp {e:List Expr} {t t':TA} (h:PA X e t) (f:∀σ H Q,t' σ H Q->t σ H Q):PA X e t':=λpos π s σ H Q I q=>h pos π s σ H Q I (f _ _ _ q)
theorem PS.imp {e:Stmt} {t t':TS} (h:PS X e t) (f:∀D σ H,t' D σ H->t D σ H):PS X e t':=λπ s σ H D I q=>h π s σ H D I (f _ _ _ q)
theorem mV.imp {e:List Stmt} {t t':TS} (h:mV X e t) (f:∀D σ H,t' D σ H->t D σ H):mV X e t':=λπ s σ H D I q=>h π s σ H D I (f _ _ _ q)
theorem PG.imp {t t':TG} (h:PG X e t) (f:∀v σ H Q,t' v σ H Q->t v σ H Q):PG X e t':=λπ s σ H v u Q I r q=>h π s σ H v u Q I r (f _ _ _ _ q)
theorem zc.imp {e:List Expr} {t t':wN} (h:zc X e t) (f:∀v σ H Q,t' v σ H Q->t v σ H Q):zc X e t':=λπ s σ H v u Q I r q=>h π s σ H v u Q I r (f _ _ _ _ q)
noncomputable def iB (i:Nat):WE:=λτ G q=>match τ[i]? with | some (some w)=>q w G | _=>False
noncomputable def wC (w:W):WE:=λ_ G q=>q w G
theorem aa (i:Nat) (hN:X.N[i]?=some x:=by exact rfl) (hv:B8 X.env.scope x:=by exact .inl rfl) (hd:(x==("__debug__":Str))=false:=by decide) (hcd:(x==("__classdict__":Str))=false:=by decide):QE X (.Name x pos) (iB i):=by
 refine(oJ hN hv hd hcd).imp λσ H Q z0=>z0.el λτ G q hs hg ht hQ=>?_;unfold iB at ht;split at ht
 ·rename_i w e;obtain⟨v,e1,r⟩:=hs.2 i w e;exact⟨v,e1,hQ v H w G (aM.refl H) r hg ht⟩
 ·exact ht.elim
theorem gW {v:V} {w:W} (h:PE X e (tC v)) (r:∀H,bK X.K H w v):QE X e (wC w):=
 h.imp λσ H Q z0=>z0.el λτ G q hs hg ht hQ=>hQ v H w G (aM.refl H) (r H) hg ht
theorem ah {i j pos}:QE X (.Constant (.int i) j pos) (wC (.int i)):=gW zY λ_=> .int i
theorem cK {b j pos}:QE X (.Constant (.bool b) j pos) (wC (.bl b)):=gW y9 λ_=> .bl b
theorem o6 {j pos}:QE X (.Constant .none j pos) (wC .non):=gW zZ λ_=> .non
theorem bq {x j pos}:QE X (.Constant (.str x) j pos) (wC (.str x)):=gW oK λ_=> .str x
noncomputable abbrev W2:=W->W->Gp->WK->Prop
noncomputable def LR (K:yax) (r:W2):R2:=λx y H Q=>∃wx wy G q,bK K H wx x/\bK K H wy y/\aI K H G/\r wx wy G q/\∀v H1 w G1,aM H H1->bK K H1 w v->aI K H1 G1->q w G1->Q v H1
noncomputable def iC (X:Cx) (f:Value->Value->Sem Value) (r:W2):Prop:=jk X f (LR X.K r)
noncomputable def AJ (X:Cx) (r:W2):Prop:=CC X (LR X.K r)
noncomputable def o7 (r:W2) (ta tb:WE):WE:=λτ G q=>ta τ G λx G1=>tb τ G1 λy G2=>r x y G2 q
theorem kx.op {r:W2} {ta tb:WE} {σ:St} {H:Hp} {Q:VK} (h:kx K (o7 r ta tb) σ H Q):Co (LR K r) (kx K ta) (kx K tb) σ H Q:=by
 obtain⟨τ,G,q,hs,hg,ht,hQ⟩:=h;refine⟨τ,G,_,hs,hg,ht,λv H1 w G1 t1 r1 g1 q1=>?_⟩;refine⟨τ,G1,_,hs.mono t1,g1,q1,λv2 H2 w2 G2 t2 r2 g2 q2=>?_⟩;exact⟨w,w2,G2,q,r1.mono t2,r2,g2,q2,λv3 H3 w3 G3 t3 r3 g3 q3=>hQ v3 H3 w3 G3 ((t1.trans t2).trans t3) r3 g3 q3⟩
theorem aS {op:Operator} {r:W2} {a b:Expr} {ta tb:WE} (ho:iC X (binaryOp op) r) (ha:QE X a ta) (hb:QE X b tb):QE X (.BinOp a op b pos) (o7 r ta tb):=
 (Cp ho ha hb).imp λ_ _ _ h=>h.op
theorem eN {op:CmpOp} {r:W2} {a b:Expr} {ta tb:WE} (ho:iC X (compareOp op) r) (ha:QE X a ta) (hb:QE X b tb) (hm:behindInMarks op b=false:=by exact tu _):QE X (.Compare a [op] [b] pos) (o7 r ta tb):=
 (wT ho ha hb hm).imp λ_ _ _ h=>h.op
theorem aD {r:W2} {a b:Expr} {ta tb:WE} (ho:AJ X r) (ha:QE X a ta) (hb:QE X b tb) (hs:qm b:=by exact λ_ _=>rfl):QE X (.Subscript a b pos) (o7 r ta tb):=
 (CF ho ha hb hs).imp λ_ _ _ h=>h.op
noncomputable def gX (t:WE):WT:=λτ G q=>t τ G λx G1=>match x with | .bl b=>q b G1 | _=>False
theorem AI.test {t:WE} {σ:St} {H:Hp} {Q:Bool->Hp->Prop} (h:AI K (gX t) σ H Q):ze (kx K t) σ H Q:=by
 obtain⟨τ,G,q,hs,hg,ht,hQ⟩:=h;refine⟨τ,G,_,hs,hg,ht,λv H1 w G1 t1 r1 g1 q1=>?_⟩;split at q1
 ·rename_i b;cases r1;exact⟨b,rfl,hQ b H1 G1 t1 g1 q1⟩
 ·exact q1.elim
theorem aL {op:CmpOp} {r:W2} {a b:Expr} {ta tb:WE} (ho:iC X (compareOp op) r) (ha:QE X a ta) (hb:QE X b tb) (hm:behindInMarks op b=false:=by exact tu _):QT X (.Compare a [op] [b] pos) (gX (o7 r ta tb)):=
 (wU ho ha hb hm).imp λσ H Q h=>by
   obtain⟨τ,G,q,hs,hg,ht,hQ⟩:=h.test;exact kx.op ⟨τ,G,q,hs,hg,ht,hQ⟩
theorem cB {t:WE} (h:QE X e t) (he:∀whole,isTrue e X.env whole=(do let v ←whole;standAt e.pos;holding [v] (truthy v)):=by intro _;rfl):QT X e (gX t):=
 (Aa h he).imp λσ H Q h=>h.test
noncomputable def AK (t u:WT):WT:=λτ G q=>t τ G λc G1=>if c=true then u τ G1 q else q false G1
noncomputable def GU (t u:WT):WT:=λτ G q=>t τ G λc G1=>if c=true then q true G1 else u τ G1 q
noncomputable def CJ (t:WT):WT:=λτ G q=>t τ G λc G1=>q (!c) G1
theorem eO {a:Expr} {t:WT} (ha:QT X a t):QW X (.BoolOp .And [a] pos) t:=wK ha
theorem iD {a:Expr} {t:WT} (ha:QT X a t):QW X (.BoolOp .Or [a] pos) t:=Ab ha
theorem gj {a b:Expr} {bt:List Expr} {t u:WT} (ha:QT X a t) (hb:QW X (.BoolOp .And (b::bt) pos) u):QW X (.BoolOp .And (a::b::bt) pos) (AK t u):=
 (Ac ha hb).imp λσ H Q z0=>z0.el λτ G q hs hg ht hQ=>⟨τ,G,_,hs,hg,ht,λc H1 G1 t1 g1 q1=>by
   cases c with
   | true=>rw[ycx rfl] at q1 ⊢;exact⟨τ,G1,q,hs.mono t1,g1,q1,λb H2 G2 t2 g2 q2=>hQ b H2 G2 (t1.trans t2) g2 q2⟩
   | false=>rw[ybv ycy] at q1 ⊢;exact hQ false H1 G1 t1 g1 q1⟩
theorem kQ {a b:Expr} {bt:List Expr} {t u:WT} (ha:QT X a t) (hb:QW X (.BoolOp .Or (b::bt) pos) u):QW X (.BoolOp .Or (a::b::bt) pos) (GU t u):=
 (Cc ha hb).imp λσ H Q z0=>z0.el λτ G q hs hg ht hQ=>⟨τ,G,_,hs,hg,ht,λc H1 G1 t1 g1 q1=>by
   cases c with
   | true=>rw[ycx rfl] at q1 ⊢;exact hQ true H1 G1 t1 g1 q1
   | false=>rw[ybv ycy] at q1 ⊢;exact⟨τ,G1,q,hs.mono t1,g1,q1,λb H2 G2 t2 g2 q2=>hQ b H2 G2 (t1.trans t2) g2 q2⟩⟩
theorem iE {t:WT} (h:QW X e t):QT X e t:=PW.pt h
theorem dZ {a:Expr} {t:WT} (ha:QT X a t):QT X (.UnaryOp .Not a pos) (CJ t):=
 (Ad ha).imp λσ H Q z0=>z0.el λτ G q hs hg ht hQ=>⟨τ,G,_,hs,hg,ht,λc H1 G1 t1 g1 q1=>hQ (!c) H1 G1 t1 g1 q1⟩
noncomputable def zq (ta tb:WE):WE:=λτ G q=>ta τ G λx G1=>match x with | .bl c=>if c=true then tb τ G1 q else q (.bl false) G1 | _=>False
noncomputable def zt (ta:WE):WE:=λτ G q=>ta τ G λx G1=>match x with | .bl c=>q (.bl (!c)) G1 | _=>False
theorem tT {a:Expr} {op} {t:WE} (h:QE X a t):QE X (.BoolOp op [a] pos) t:=Ae h
theorem o8 {a b:Expr} {bt:List Expr} {ta tb:WE} (ha:QE X a ta) (hb:QE X (.BoolOp .And (b::bt) pos) tb):QE X (.BoolOp .And (a::b::bt) pos) (zq ta tb):=
 (Af ha hb).imp λσ H Q z0=>z0.el λτ G q hs hg ht hQ=>⟨τ,G,_,hs,hg,ht,λv H1 w G1 t1 r1 g1 q1=>by
   split at q1
   ·rename_i c;cases r1;refine⟨c,rfl,?_⟩;cases c with
    | true=>rw[ycx rfl] at q1 ⊢;exact⟨τ,G1,q,hs.mono t1,g1,q1,λv2 H2 w2 G2 t2 r2 g2 q2=>hQ v2 H2 w2 G2 (t1.trans t2) r2 g2 q2⟩
    | false=>rw[ybv ycy] at q1 ⊢;exact hQ _ H1 _ G1 t1 (.bl false) g1 q1
   ·exact q1.elim⟩
theorem AL {a:Expr} {ta:WE} (ha:QE X a ta):QE X (.UnaryOp .Not a pos) (zt ta):=
 (Ag ha).imp λσ H Q z0=>z0.el λτ G q hs hg ht hQ=>⟨τ,G,_,hs,hg,ht,λv H1 w G1 t1 r1 g1 q1=>by
   split at q1
   ·rename_i c;cases r1;exact⟨c,rfl,hQ _ H1 _ G1 t1 (.bl _) g1 q1⟩
   ·exact q1.elim⟩
noncomputable def CK (c:WT) (ta tb:WE):WE:=λτ G q=>c τ G λb G1=>if b=true then ta τ G1 q else tb τ G1 q
theorem jG {c a b:Expr} {tc:WT} {ta tb:WE} (hc:QT X c tc) (ha:QE X a ta) (hb:QE X b tb):QE X (.IfExp c a b pos) (CK tc ta tb):=
 (sY hc ha hb).imp λσ H Q z0=>z0.el λτ G q hs hg ht hQ=>⟨τ,G,_,hs,hg,ht,λc H1 G1 t1 g1 q1=>by
   cases c with
   | true=>rw[ycx rfl] at q1 ⊢;exact⟨τ,G1,q,hs.mono t1,g1,q1,λv2 H2 w2 G2 t2 r2 g2 q2=>hQ v2 H2 w2 G2 (t1.trans t2) r2 g2 q2⟩
   | false=>rw[ybv ycy] at q1 ⊢;exact⟨τ,G1,q,hs.mono t1,g1,q1,λv2 H2 w2 G2 t2 r2 g2 q2=>hQ v2 H2 w2 G2 (t1.trans t2) r2 g2 q2⟩⟩
noncomputable def lU:WA:=λ_ G q=>q [] G
noncomputable def qr (ta:WE) (tr:WA):WA:=λτ G q=>ta τ G λx G1=>tr τ G1 λxs G2=>q (x::xs) G2
theorem ak:QA X [] lU:=pa_nil.imp λσ H Q z0=>z0.el λτ G q hs hg ht hQ=>hQ [] H [] G (aM.refl H) .nil hg ht
theorem ae {te:WE} {t:WA} (ha:QE X e te) (hr:QA X es t) (hs:starEach (e::es) X.env=(false,eval e X.env)::starEach es X.env:=by rfl):QA X (e::es) (qr te t):=
 (cU ha hr hs).imp λσ H Q z0=>z0.el λτ G q hs hg ht hQ=>⟨τ,G,_,hs,hg,ht,λv H1 w G1 t1 r1 g1 q1=>
   ⟨τ,G1,_,hs.mono t1,g1,q1,λvs H2 ws G2 t2 r2 g2 q2=>hQ (v::vs) H2 (w::ws) G2 (t1.trans t2) (.cons (r1.mono t2) r2) g2 q2⟩⟩
theorem bN {n:Nat} (h:n<=100000):n<=sizeLine:=by rw[sizeLine_eq];lia
noncomputable def CL (t:WA):WE:=λτ G q=>t τ G λws G1=>ws.length<=100000/\q (.tup ws) G1
noncomputable def CM (t:WA):WE:=λτ G q=>t τ G λws G1=>ws.length<=100000/\∀p,G1 p=none->q (.ref p) (aF G1 p (.lst ws))
theorem bp {x1} {t:WA} (h:QA X es t):QE X (.Tuple es x1 pos) (CL t):=
 (Aw h).imp λσ H Q z0=>z0.el λτ G q hs hg ht hQ=>⟨τ,G,_,hs,hg,ht,λvs H1 ws G1 t1 r1 g1 q1=>
   ⟨by rw[←r1.length];exact bN q1.1,λp hp=>hQ _ _ _ G1 (t1.trans (aM.new hp _)) (.tup aX (r1.mono (aM.new hp _))) (g1.keep hp _) q1.2⟩⟩
theorem bL {t:WA} (h:QA X es t):QE X (.List es pos) (CM t):=
 (Ax h).imp λσ H Q z0=>z0.el λτ G q hs hg ht hQ=>⟨τ,G,_,hs,hg,ht,λvs H1 ws G1 t1 r1 g1 q1=>
   ⟨by rw[←r1.length];exact bN q1.1,λp hp=>hQ _ _ _ _ (t1.trans (aM.new hp _)) (.ref p) (g1.put (aM.new hp _) r1 q1.1) (q1.2 p (g1.fresh hp))⟩⟩
noncomputable def qt:WS:=λd τ G=>d.nx τ G
noncomputable def tU (t u:WS):WS:=λd τ G=>t { d with nx:=u d } τ G
theorem nq.mono {H H1:Hp} {d:cZ} {D:fQ} (l:nq K H d D) (t:aM H H1):nq K H1 d D:=
 ⟨λσ2 H2 τ2 G2 t2=>l.nx σ2 H2 τ2 G2 (t.trans t2),λv H2 w G2 t2=>l.rt v H2 w G2 (t.trans t2),λσ2 H2 τ2 G2 t2=>l.bk σ2 H2 τ2 G2 (t.trans t2),λσ2 H2 τ2 G2 t2=>l.ct σ2 H2 τ2 G2 (t.trans t2)⟩
theorem ag:nr X [] qt:=pss_nil.imp λD σ H z0=>z0.el λτ G d hs hg ht l=>l.nx σ H τ G (aM.refl H) hs hg ht
theorem ac {bt:List Stmt} {t u:WS} (h1:QS X st t) (h2:nr X bt u):nr X (st::bt) (tU t u):=
 (sZ h1 h2).imp λD σ H z0=>z0.el λτ G d hs hg ht l=>⟨τ,G,_,hs,hg,ht,⟨λσ1 H1 τ1 G1 t1 s1 g1 q1=>⟨τ1,G1,d,s1,g1,q1,l.mono t1⟩,l.rt,l.bk,l.ct⟩⟩
theorem cV {t:WS} (h1:QS X st t):nr X [st] t:=wL h1
noncomputable def zv (te:WE):WS:=λd τ G=>te τ G λ_ G1=>d.nx τ G1
theorem dS {te:WE} (he:QE X e te) (hs:swapsWith e none pos.line X.env=pure false:=by rfl):QS X (.Expr e pos) (zv te):=
 (wM he hs).imp λD σ H z0=>z0.el λτ G d hs hg ht l=>⟨τ,G,_,hs,hg,ht,λv H1 w G1 t1 r1 g1 q1=>l.nx σ H1 τ G1 t1 (hs.mono t1) g1 q1⟩
noncomputable def CN (te:WE):WS:=λd τ G=>te τ G d.rt
theorem av {te:WE} (he:QE X e te):QS X (.Return (some e) pos) (CN te):=
 (Ah he).imp λD σ H z0=>z0.el λτ G d hs hg ht l=>⟨τ,G,_,hs,hg,ht,λv H1 w G1 t1 r1 g1 q1=>l.rt v H1 w G1 t1 r1 g1 q1⟩
noncomputable def AM (c:WT) (t u:WS):WS:=λd τ G=>c τ G λb G1=>if b=true then t d τ G1 else u d τ G1
theorem bh {c:Expr} {a b:List Stmt} {tc:WT} {t u:WS} (hc:QT X c tc) (ha:nr X a t) (hb:nr X b u):QS X (.If c a b pos) (AM tc t u):=
 (Cj hc ha hb).imp λD σ H z0=>z0.el λτ G d hs hg ht l=>⟨τ,G,_,hs,hg,ht,λc H1 G1 t1 g1 q1=>by
   cases c with
   | true=>rw[ycx rfl] at q1 ⊢;exact⟨τ,G1,d,hs.mono t1,g1,q1,l.mono t1⟩
   | false=>rw[ybv ycy] at q1 ⊢;exact⟨τ,G1,d,hs.mono t1,g1,q1,l.mono t1⟩⟩
noncomputable def cP (i:Nat):WG:=λw τ G q=>q (τ.set i (some w)) G
theorem bT (i:Nat) (hN:X.N.Nodup) (hi:X.N[i]?=some x) (hx:wA X.env.scope x) (hf:X.fn x=true∨X.env.scope.names.lookup x=some .local:=by first | exact .inl rfl | exact .inr rfl | assumption):QG X (.Name x pos) (cP i):=
 (wO hN hi hx hf).imp λv σ H Q ⟨w,τ,G,q,r,hs,hg,ht,hQ⟩=>hQ _ H _ G (aM.refl H) (hs.set r i) hg ht
noncomputable def o9:zo:=λws τ G q=>match ws with | []=>q τ G | _=>False
noncomputable def ja (t:WG) (u:zo):zo:=λws τ G q=>match ws with | w::r=>t w τ G λτ1 G1=>u r τ1 G1 q | []=>False
theorem fH:CI X [] o9:=pgs_nil.imp λvs σ H Q ⟨ws,τ,G,q,r,hs,hg,ht,hQ⟩=>by
 unfold o9 at ht;cases r with
 | nil=>exact⟨rfl,hQ σ H τ G (aM.refl H) hs hg ht⟩
 | cons _ _=>exact ht.elim
theorem cf {t:WG} {u:zo} (h1:QG X e t) (h2:CI X es u)
 (hs:(assignEach (e::es) X.env).map (·.2)=assign e X.env::(assignEach es X.env).map (·.2):=by rfl):CI X (e::es) (ja t u):=
 (tf h1 h2 hs).imp λvs σ H Q ⟨ws,τ,G,q,r,hs,hg,ht,hQ⟩=>by
   unfold ja at ht;cases r with
   | nil=>exact ht.elim
   | cons r rs=>
     exact⟨_,_,rfl,_,τ,G,_,r,hs,hg,ht,λσ1 H1 τ1 G1 t1 s1 g1 q1=>⟨_,τ1,G1,q,rs.mono t1,s1,g1,q1,λσ2 H2 τ2 G2 t2=>hQ σ2 H2 τ2 G2 (t1.trans t2)⟩⟩
noncomputable def pf (n:Nat) (t:zo):WG:=λw τ G q=>match w with | .tup ws=>ws.length=n/\t ws τ G q | _=>False
theorem iF {t:zo} (hc:X.calm=true) (h:CI X es t)
 (hn:(assignEach es X.env).length=es.length:=by rfl) (hst:(assignEach es X.env).findIdx? (·.1)=none:=by rfl):QG X (.Tuple es k pos) (pf es.length t):=
 (Ai hc h hn hst).imp λv σ H Q ⟨w,τ,G,q,r,hs,hg,ht,hQ⟩=>by
   unfold pf at ht;cases r with
   | tup h r=>exact⟨_,_,rfl,cY.of h,by rw[←r.length];exact ht.1,_,τ,G,q,r,hs,hg,ht.2,hQ⟩
   | _=>exact ht.elim
noncomputable def xi (te:WE) (g:WG):WS:=λd τ G=>te τ G λx G1=>g x τ G1 d.nx
theorem aR (i:Nat) {te:WE} {pos' pos:Pos} (hN:X.N.Nodup) (hi:X.N[i]?=some x) (hx:wA X.env.scope x) (he:QE X e te) (hs:swapsWith e (some (.Name x pos')) pos.line X.env=pure false:=by rfl) (hf:X.fn x=true∨X.env.scope.names.lookup x=some .local:=by first | exact .inl rfl | exact .inr rfl | assumption):
 QS X (.Assign [.Name x pos'] e pos) (xi te (cP i)):=
 (Aj hN hi hx he hs hf).imp λD σ H z0=>z0.el λτ G d hs hg ht l=>
   ⟨τ,G,_,hs,hg,ht,λv H1 w G1 t1 r1 g1 q1=>l.nx _ H1 _ G1 t1 ((hs.mono t1).set r1 i) g1 q1⟩
noncomputable def tV (c:WT) (tb:WS):WS:=λd τ G=>∃I:Nat->cO->Gp->Prop,(∃m,I m τ G)/\∀m τ G,I m τ G->
 c τ G λb G1=>if b=true then ∃N:cO->Gp->Prop,(∀τ1 G1,N τ1 G1->∃m1,m1<m/\I m1 τ1 G1)/\tb { d with nx:=N,ct:=N,bk:=d.nx } τ G1 else d.nx τ G1
theorem gY {c:Expr} {tc:WT} {tb:WS} (hp:PassesOwn (model X.prog X.w) X.A X.env X.xe) (hc:QT X c tc) (hb:nr X body tb):QS X (.While c body [] pos) (tV tc tb):=
 (tj hp hc hb).imp λD σ H ⟨τ,G,d,hs,hg,⟨I,⟨m,i0⟩,turn⟩,l⟩=>by
   refine⟨λm σ1 H1=>∃τ1 G1,aM H H1/\bu X.K H1 τ1 σ1/\aI X.K H1 G1/\I m τ1 G1,⟨m,τ,G,aM.refl H,hs,hg,i0⟩,?_⟩;rintro m1 σ1 H1 ⟨τ1,G1,t1,s1,g1,i1⟩;refine⟨τ1,G1,_,s1,g1,turn m1 τ1 G1 i1,λb H2 G2 t2 g2 q2=>?_⟩;cases b with
   | true=>
     rw[ycx rfl] at q2 ⊢;obtain⟨N,hN,q2⟩:=q2;refine⟨λσ3 H3=>∃τ3 G3,aM H H3/\bu X.K H3 τ3 σ3/\aI X.K H3 G3/\N τ3 G3,?_,τ1,G2,_,s1.mono t2,g2,q2,?_⟩
     ·rintro σ3 H3 ⟨τ3,G3,t3,s3,g3,n3⟩;obtain⟨m3,hm,i3⟩:=hN τ3 G3 n3;exact⟨m3,hm,τ3,G3,t3,s3,g3,i3⟩
     ·have tt:=t1.trans t2;exact⟨λσ3 H3 τ3 G3 t3 s3 g3 q3=>⟨τ3,G3,tt.trans t3,s3,g3,q3⟩,λv H3 w G3 t3=>l.rt v H3 w G3 (tt.trans t3),λσ3 H3 τ3 G3 t3=>l.nx σ3 H3 τ3 G3 (tt.trans t3),λσ3 H3 τ3 G3 t3 s3 g3 q3=>⟨τ3,G3,tt.trans t3,s3,g3,q3⟩⟩
   | false=>
     rw[ybv ycy] at q2 ⊢;exact l.nx σ1 H2 τ1 G2 (t1.trans t2) (s1.mono t2) g2 q2
end
section
variable {X:Cx}
noncomputable abbrev WX:=Value->Gp->Prop
noncomputable abbrev bQ:=List W->Gp->WK->WX->Prop
noncomputable def wB (K:yax) (sp:bQ):Sp:=λvs H Q E=>∃ws G q e,aQ K H ws vs/\aI K H G/\sp ws G q e/\(∀v H1 w G1,aM H H1->bK K H1 w v->aI K H1 G1->q w G1->Q v H1)/\
 ∀c d H1 G1,aM H H1->aI K H1 G1->e c G1->E c d H1
noncomputable abbrev ca (P:Program) (w:World) (K:yax) (mg:ydv) (base:Heap) (k:Nat) (f:Addr) (fd:FuncData) (ps:List Str) (sp:bQ):Prop:=dQ P w K mg base tQ k f fd ps (wB K sp)
noncomputable def gZ (sp:bQ) (dws:List W) (t:WA):WE:=λτ G q=>t τ G λws G1=>sp (ws++dws) G1 q λ_ _=>False
theorem kx.call {sp:bQ} {dws:List W} {dvs:List V} {t:WA} {σ:St} {H:Hp} {Q:VK} {E:XK} (hd:∀H,aQ K H dws dvs) (h:kx K (gZ sp dws t) σ H Q):tF (wB K sp) dvs E (LA K t) σ H Q:=by
 obtain⟨τ,G,q,hs,hg,ht,hQ⟩:=h;exact⟨τ,G,_,hs,hg,ht,λvs H1 ws G1 t1 r1 g1 q1=>⟨ws++dws,G1,q,_,r1.append (hd H1),g1,q1,λv H2 w G2 t2=>hQ v H2 w G2 (t1.trans t2),λ_ _ _ _ _ _ z=>z.elim⟩⟩
theorem xj {f:Addr} {sp:bQ} {p pos:Pos} {t:WA} (F:ca X.prog X.w X.K X.mg X.base k f fd ps sp) (hr:aw k X.A) (hg:Gl X x) (hm:X.mg x=some (.ref f))
 (hk:keepIn X.K (.ref f)=true) (hb:bJ X.K fd ps []) (ha:QA X (e::es) t) (hdb:(x==("__debug__":Str))=false:=by decide)
 (he:starEach (e::es) X.env=(false,eval e X.env)::starEach es X.env:=by rfl) (hpl:(backTo pos (starEach es X.env)).any (·.1)=false:=by rfl):QE X (.Call (.Name x p) (e::es) [] pos) (gZ sp [] t):=
 (qi F hr hg hm hk hb .nil kM ha hdb he hpl).imp λ_ _ _ h=>h.call λ_=> .nil
theorem tW {f:Addr} {sp:bQ} {p pos:Pos} (F:ca X.prog X.w X.K X.mg X.base k f fd ps sp) (hr:aw k X.A) (hg:Gl X x) (hm:X.mg x=some (.ref f))
 (hk:keepIn X.K (.ref f)=true) (hb:bJ X.K fd ps []) (hdb:(x==("__debug__":Str))=false:=by decide):QE X (.Call (.Name x p) [] [] pos) (gZ sp [] lU):=
 (tH F hr hg hm hk hb .nil kM hdb).imp λ_ _ _ h=>by
   obtain⟨τ,G,q,hs,hg,ht,hQ⟩:=h;exact⟨[],G,q,_,.nil,hg,ht,hQ,λ_ _ _ _ _ _ z=>z.elim⟩
noncomputable def iG (N:List Str) (ws:List W):cO:=ws.map some++List.replicate (N.length-ws.length) none
theorem ca.none {f:Addr} {sp:bQ} (h:∀ws G q e,¬sp ws G q e):ca P w K mg base k f fd ps sp:=
 ⟨λ_ _ _ _ ⟨_,_,_,_,_,_,z,_⟩=>absurd z (h _ _ _ _),λ_ _ _ _ _ _ _ _ _ _ _ _ _ ⟨_,_,_,_,_,_,z,_⟩=>absurd z (h _ _ _ _)⟩
theorem ca.imp {f:Addr} {sp sp':bQ} (F:ca P w K mg base k f fd ps sp) (h:∀ws G q e,sp' ws G q e->sp ws G q e):ca P w K mg base k f fd ps sp':=
 dQ.imp F λ_ _ _ _ ⟨ws,G,q,e,r,g,z,a,b⟩=>⟨ws,G,q,e,r,g,h _ _ _ _ z,a,b⟩
theorem CO {x qual:Str} {f:Addr} {N ps:List Str} {sp:bQ} (F:cz K x qual st f fd) (S:bS N ps (am st)) (len:∀ws G q e,sp ws G q e->ws.length=ps.length)
 (hbody:∀(cdv:Value) (A:Around) (outer:List Env) (s:Shared) (H:Hp) (E:XK),aw k (A.deeper (envOfC qual (am st) s.heap.objs.size f cdv))->
   ∃t,nr (dE tQ P w K mg base N qual (am st) f cdv A outer s H E).nox (ap st) t/\
    ∀(ws:List W) (G:Gp) (q:WK) (e:WX),sp ws G q e->t { nx:=λ_ G1=>∃G0,aC G0 G1/\q .non G0,rt:=λw G1=>∃G0,aC G0 G1/\q w G0 } (iG N ws) G):ca P w K mg base (k+1) f fd ps sp:=by
 refine F.ok S (λvs H Q E ⟨ws,G,q,e,r,g,z,_⟩=>by rw[←r.length];exact len _ _ _ _ z) (λcdv A outer s H vs Q E hr ⟨ws,G,q,e,r,g,z,hQ,_⟩=>?_);obtain⟨t,ht,hq⟩:=hbody cdv A outer s H E hr;exact⟨_,ht,_,G,_,bu.start r,g,hq ws G q e z,⟨λσ1 H1 τ1 G1 t1 s1 g1 ⟨G0,l,q1⟩=>hQ .non H1 .non G0 t1 .non (g1.le l) q1,λv H1 w G1 t1 r1 g1 ⟨G0,l,q1⟩=>hQ v H1 w G0 t1 r1 (g1.le l) q1,λ_ _ _ _ _ _ _ z=>z.elim,λ_ _ _ _ _ _ _ z=>z.elim⟩⟩
noncomputable def zw (K:yax) (r:List W->Gp->WK->Prop):List V->Hp->VK->Prop:=λvs H Q=>∃ws G q,aQ K H ws vs/\aI K H G/\r ws G q/\∀v H1 w G1,aM H H1->bK K H1 w v->aI K H1 G1->q w G1->Q v H1
noncomputable def fe (X:Cx) (f:Value) (r:List W->Gp->WK->Prop):Prop:=gS X f (zw X.K r)
noncomputable def Ev (r:List W->Gp->WK->Prop) (t:WA):WE:=λτ G q=>t τ G λws G1=>r ws G1 q
theorem kx.cb {r:List W->Gp->WK->Prop} {t:WA} {σ:St} {H:Hp} {Q:VK} (h:kx K (Ev r t) σ H Q):EZ (zw K r) (LA K t) σ H Q:=by
 obtain⟨τ,G,q,hs,hg,ht,hQ⟩:=h;exact⟨τ,G,_,hs,hg,ht,λvs H1 ws G1 t1 r1 g1 q1=>⟨ws,G1,q,r1,g1,q1,λv H2 w G2 t2=>hQ v H2 w G2 (t1.trans t2)⟩⟩
theorem bU {id:String} {r:List W->Gp->WK->Prop} {p pos:Pos} {t:WA} (hc:fe X (.builtin id) r) (hg:Gl X x) (hm:X.mg x=none) (hv:bootBuiltins x=some (.builtin id)) (ha:QA X (e::es) t)
 (hn:x≠"__name__":=by decide) (hdb:(x==("__debug__":Str))=false:=by decide)
 (he:starEach (e::es) X.env=(false,eval e X.env)::starEach es X.env:=by rfl) (hpl:(backTo pos (starEach es X.env)).any (·.1)=false:=by rfl):QE X (.Call (.Name x p) (e::es) [] pos) (Ev r t):=
 (ng hc hg hm hv ha hn hdb he hpl).imp λ_ _ _ h=>h.cb
theorem bV {T:String} {r:List W->Gp->WK->Prop} {p pos:Pos} {t:WA} (hc:fe X (.type T) r) (hg:Gl X x) (hm:X.mg x=none) (hv:bootBuiltins x=some (.type T)) (ha:QA X (e::es) t)
 (hn:x≠"__name__":=by decide) (hdb:(x==("__debug__":Str))=false:=by decide)
 (he:starEach (e::es) X.env=(false,eval e X.env)::starEach es X.env:=by rfl) (hpl:(backTo pos (starEach es X.env)).any (·.1)=false:=by rfl):QE X (.Call (.Name x p) (e::es) [] pos) (Ev r t):=
 (rX hc hg hm hv ha hn hdb he hpl).imp λ_ _ _ h=>h.cb
theorem aQ.one {H:Hp} {w:W} {vs:List V} (r:aQ K H [w] vs):∃v,vs=[v]/\bK K H w v:=by
 cases r with
 | cons r rs=>cases rs;exact⟨_,rfl,r⟩
theorem aQ.two {H:Hp} {w u:W} {vs:List V} (r:aQ K H [w,u] vs):∃v x,vs=[v,x]/\bK K H w v/\bK K H u x:=by
 cases r with
 | cons r rs=>
   obtain⟨x,rfl,r2⟩:=rs.one;exact⟨_,_,rfl,r,r2⟩
noncomputable def CP:List W->Gp->WK->Prop:=λws G q=>match ws with
 | [.tup xs]=>q (.int xs.length) G
 | [.scr ns]=>q (.int ns.length) G
 | [.ref a]=>∃xs,G a=some (.lst xs)/\q (.int xs.length) G
 | _=>False
theorem zx:fe X (.builtin "len") CP:=by
 rintro π s σ H xs us Q I r ⟨ws,G,q,rw',g,h,hQ⟩;cases rw' with
 | nil=>exact False.elim h
 | cons r1 rr'=>
   cases rr' with
   | cons _ _=>cases r1<;> exact False.elim h
   | nil=>
     cases r1 with
     | tup hh rr=>exact eM π s σ H _ us Q I r ⟨_,_,rfl,.inr (cY.of hh),hQ _ H _ G (aM.refl H) (by rw[rr.length];exact .int _) g h⟩
     | scr hh=>exact eM π s σ H _ us Q I r ⟨_,_,rfl,.inl hh.sq,hQ _ H _ G (aM.refl H) (by rw[length_map];exact .int _) g h⟩
     | ref a=>
       obtain⟨ys,e,h⟩:=h;obtain⟨_,zs,e1,rr⟩:=g a _ e;exact eM π s σ H _ us Q I r ⟨_,_,rfl,.inl (dm.of e1),hQ _ H _ G (aM.refl H) (by rw[rr.length];exact .int _) g h⟩
     | _=>exact False.elim h
noncomputable def tX:List W->Gp->WK->Prop:=λws G q=>match ws with
 | [.tup xs]=>q (.tup xs) G
 | [.ref a]=>∃xs,G a=some (.lst xs)/\q (.tup xs) G
 | _=>False
theorem fI:fe X (.type "tuple") tX:=by
 rintro π s σ H xs us Q I r ⟨ws,G,q,rw',g,h,hQ⟩;cases rw' with
 | nil=>exact False.elim h
 | cons r1 rr'=>
   cases rr' with
   | cons _ _=>cases r1<;> exact False.elim h
   | nil=>
     cases r1 with
     | tup hh rr=>exact fU π s σ H _ us Q I r ⟨_,_,rfl,.inr ⟨cY.of hh,hQ _ H _ G (aM.refl H) (.tup hh rr) g h⟩⟩
     | ref a=>
       obtain⟨ys,e,h⟩:=h;obtain⟨_,zs,e1,rr⟩:=g a _ e;exact fU π s σ H _ us Q I r ⟨_,_,rfl,.inl ⟨dm.of e1,λl hl=>hQ _ _ _ G (aM.new hl _) (.tup aX (rr.mono (aM.new hl _))) (g.keep hl _) h⟩⟩
     | _=>exact False.elim h
noncomputable def qw:List W->Gp->WK->Prop:=λws G q=>match ws with
 | [.tup xs]=>xs.length<=100000/\∀p,G p=none->q (.ref p) (aF G p (.lst xs))
 | [.ref a]=>∃xs,G a=some (.lst xs)/\∀p,G p=none->q (.ref p) (aF G p (.lst xs))
 | _=>False
theorem tY:fe X (.type "list") qw:=by
 rintro π s σ H xs us Q I r ⟨ws,G,q,rw',g,h,hQ⟩;unfold qw at h;split at h
 ·rename_i ys;obtain⟨v,rfl,r1⟩:=rw'.one;cases r1 with
  | tup hh rr=>exact gU π s σ H _ us Q I r ⟨_,_,rfl,.inr (cY.of hh),λl hl=>hQ _ _ _ _ (aM.new hl _) (.ref l) (g.put (aM.new hl _) rr h.1) (h.2 l (g.fresh hl))⟩
 ·rename_i a;obtain⟨ys,e,h⟩:=h;obtain⟨v,rfl,r1⟩:=rw'.one;cases r1;obtain⟨hl,zs,e1,rr⟩:=g a _ e;exact gU π s σ H _ us Q I r ⟨_,_,rfl,.inl (dm.of e1),λl hl'=>hQ _ _ _ _ (aM.new hl' _) (.ref l) (g.put (aM.new hl' _) rr hl) (h l (g.fresh hl'))⟩
 ·exact h.elim
noncomputable def CQ:W2:=λx y G q=>match x,y with
 | .int i,.int j=>q (.int (i+j)) G
 | .tup xs,.tup ys=>xs.length+ys.length<=100000/\q (.tup (xs++ys)) G
 | .ref a,.ref b=>∃xs ys,G a=some (.lst xs)/\G b=some (.lst ys)/\xs.length+ys.length<=100000/\∀p,G p=none->q (.ref p) (aF G p (.lst (xs++ys)))
 | _,_=>False
theorem Fa {σ:St} {H:Hp} {a b:Addr} {ys:List V} {Q:VK} (I:aB X π σ H s) (ha:H a=some (.tup [])) (hb:H b=some (.tup ys)) (q:Q (.ref b) H):wpAny (model X.prog X.w) X.A (binaryOp .Add (.ref a) (.ref b)) (EP X π σ Q) X.xe s:=by
 obtain⟨its,r1,p1,_⟩:=I.tuple (cY.of ha);obtain⟨its2,r2,p2,_⟩:=I.tuple (cY.of hb);cases r1;obtain⟨⟨cls,dd,data,sl⟩,ho,hc,n,hd⟩:=id p1;obtain⟨⟨cls2,dd2,data2,sl2⟩,ho2,hc2,n2,hd2⟩:=id p2;simp only at hc hd hc2 hd2;subst hc hd hc2 hd2;exact concat_meets ⟨_,ho,rfl⟩ ⟨_,ho2,rfl⟩ noFill_tuple_add seq_tuple_add PySem.F.slot_tuple_add PySem.F.entry_tuple_add (PySem.F.args_tuple_add_2 _ _)
  (tuple_addW0 a b #[] its2.toArray n n2 dd dd2 sl sl2 rfl) ⟨ho,ho2,⟨.ref b,H,I,rfl,q⟩⟩
theorem CS:iC X (binaryOp .Add) CQ:=by
 rintro π s σ H x y v u Q I rx ry ⟨wx,wy,G,q,r1,r2,g,h,hQ⟩;cases r1 with
 | int i=>
   cases r2 with
   | int j=>exact Ap π s σ H _ _ v u Q I rx ry ⟨_,_,rfl,rfl,hQ _ H _ G (aM.refl H) (.int _) g h⟩
   | _=>exact False.elim h
 | @tup a ws xs ha ra=>
   cases r2 with
   | @tup b us ys hb rb=>
     cases xs with
     | nil=>
       cases ra;cases rx;cases ry;exact Fa I ha hb (hQ _ H _ G (aM.refl H) (.tup hb rb) g h.2)
     | cons x0 xr=>
       refine xf π s σ H _ _ v u Q I rx ry ⟨a,b,_,_,rfl,rfl,cY.of ha,cY.of hb,by simp,by rw[←ra.length,←rb.length];exact bN h.1,λe=>?_,λ_ p hp=>?_⟩
       ·subst e;cases rb;have h2:=h.2;rw[append_nil] at h2;exact hQ _ H _ G (aM.refl H) (.tup ha ra) g h2
       ·exact hQ _ _ _ G (aM.new hp _) (.tup aX ((ra.append rb).mono (aM.new hp _))) (g.keep hp _) h.2
   | _=>exact False.elim h
 | ref a=>
   cases r2 with
   | ref b=>
     obtain⟨xs,ys,ea,eb,hl,h⟩:=h;obtain⟨_,xs',ha,ra⟩:=g _ _ ea;obtain⟨_,ys',hb,rb⟩:=g _ _ eb;refine AE π s σ H _ _ v u Q I rx ry ⟨_,_,_,_,rfl,rfl,ha,hb,by rw[←ra.length,←rb.length];exact bN hl,λp hp=>?_⟩;exact hQ _ _ _ _ (aM.new hp _) (.ref p) (g.put (aM.new hp _) (ra.append rb) (by rw[length_append];exact hl)) (h p (g.fresh hp))
   | _=>exact False.elim h
 | _=>exact False.elim h
noncomputable def rZ (C:Int->Int->Prop) (f:Int->Int->W):W2:=λx y G q=>match x,y with
 | .int i,.int j=>C i j/\q (f i j) G
 | _,_=>False
theorem ph {f:Value->Value->Sem Value} {C:Int->Int->Prop} {g:Int->Int->Int} (h:jk X f (rI C λi j=> .int (g i j))):iC X f (rZ C λi j=> .int (g i j)):=by
 rintro π s σ H x y v u Q I rx ry ⟨wx,wy,G,q,r1,r2,gg,hh,hQ⟩;unfold rZ at hh;split at hh
 ·cases r1;cases r2;exact h π s σ H _ _ v u Q I rx ry ⟨_,_,rfl,rfl,hh.1,hQ _ H _ G (aM.refl H) (.int _) gg hh.2⟩
 ·exact hh.elim
noncomputable def kR (f:Int->Int->W):W2:=λx y G q=>match x,y with
 | .int i,.int j=>q (f i j) G
 | _,_=>False
theorem tZ {f:Value->Value->Sem Value} {g:Int->Int->Bool} (h:jk X f (wP λi j=> .bl (g i j))):iC X f (kR λi j=> .bl (g i j)):=by
 rintro π s σ H x y v u Q I rx ry ⟨wx,wy,G,q,r1,r2,gg,hh,hQ⟩;unfold kR at hh;split at hh
 ·cases r1;cases r2;exact h π s σ H _ _ v u Q I rx ry ⟨_,_,rfl,rfl,hQ _ H _ G (aM.refl H) (.bl _) gg hh⟩
 ·exact hh.elim
noncomputable abbrev Fb:W2:=rZ (λ_ j=>0<j) λi j=> .int (i%j)
theorem cQ:iC X (binaryOp .Mod) Fb:=ph Ar
noncomputable abbrev Hw:W2:=kR λi j=> .bl (decide (i<=j))
noncomputable abbrev Hx:W2:=kR λi j=> .bl (decide (j<i))
noncomputable abbrev Hy:W2:=kR λi j=> .bl (decide (j<=i))
theorem Fc:iC X (compareOp .LtE) Hw:=tZ Cv
theorem pp:iC X (compareOp .Gt) Hx:=tZ Cw
theorem CT:iC X (compareOp .GtE) Hy:=tZ Cy
noncomputable def CU:W2:=λx y G q=>match x,y with
 | .tup xs,.int i=>∃w,eI xs i=some w/\q w G
 | .scr ns,.int i=>∃n,eI ns i=some n/\q (.int n) G
 | .ref a,.int i=>∃xs w,G a=some (.lst xs)/\eI xs i=some w/\q w G
 | _,_=>False
theorem aQ.at {H:Hp} {ws:List W} {vs:List V} {i:Int} {w:W} (r:aQ K H ws vs) (e:eI ws i=some w):∃v,eI vs i=some v/\bK K H w v:=by
 unfold eI at e ⊢;rw[r.length] at e;cases h:tM vs.length i with
 | none=>rw[h] at e;cases e
 | some j=>
   rw[h] at e;exact r.get e
theorem xk {α β:Type} (f:α->β) (xs:List α) (i:Int):eI (xs.map f) i=(eI xs i).map f:=by
 unfold eI;rw[length_map];cases tM xs.length i with
 | none=>rfl
 | some j=>simp
theorem Fd:AJ X CU:=by
 rintro value slice π s σ H x y v u Q I rx ry ⟨wx,wy,G,q,r1,r2,g,h,hQ⟩ hsl;cases r2 with
 | int i=>
   cases r1 with
   | tup hh rr=>
     obtain⟨w,e,h⟩:=h;obtain⟨v',e',r'⟩:=rr.at e;exact AA value slice π s σ H _ _ v u Q I rx ry ⟨_,_,_,v',rfl,rfl,cY.of hh,e',hQ _ H _ G (aM.refl H) r' g h⟩ hsl
   | scr hh=>
     obtain⟨n,e,h⟩:=h;exact qo value slice π s σ H _ _ v u Q I rx ry ⟨_,_,_,.int n,rfl,rfl,hh.sq,by rw[xk,e];rfl,hQ _ H _ G (aM.refl H) (.int n) g h⟩ hsl
   | ref a=>
     obtain⟨xs,w,ea,e,h⟩:=h;obtain⟨_,zs,e1,rr⟩:=g _ _ ea;obtain⟨v',e',r'⟩:=rr.at e;exact qo value slice π s σ H _ _ v u Q I rx ry ⟨_,_,_,v',rfl,rfl,dm.of e1,e',hQ _ H _ G (aM.refl H) r' g h⟩ hsl
   | _=>exact False.elim h
 | _=>cases r1<;> exact False.elim h
end
mutual
noncomputable def W.flat:W->Bool
 | .tup xs=>W.flats xs
 | .ref _=>false
 | .scr _=>false
 | _=>true
noncomputable def W.flats:List W->Bool
 | []=>true
 | x::xs=>W.flat x&&W.flats xs
end
mutual
noncomputable def W.dep:W->Nat
 | .tup xs=>W.deps xs+1
 | _=>0
noncomputable def W.deps:List W->Nat
 | []=>0
 | x::xs=>max (W.dep x) (W.deps xs)
end
mutual
noncomputable def W.eq:W->W->Bool
 | .non,.non=>true
 | .bl a,.bl b=>a==b
 | .bl a,.int j=>(if a then 1 else 0)==j
 | .int i,.bl b=>i==(if b then 1 else 0)
 | .int i,.int j=>i==j
 | .str x,.str y=>x==y
 | .tup xs,.tup ys=>W.eqs xs ys
 | _,_=>false
noncomputable def W.eqs:List W->List W->Bool
 | [],[]=>true
 | x::xs,y::ys=>W.eq x y&&W.eqs xs ys
 | _,_=>false
end
theorem cR {P:Prop} (h:false=true):P:=Bool.noConfusion h
theorem W.eq_int (i j:Int):(W.int i).eq (W.int j)=(i==j):=rfl
theorem W.eq_tup (xs ys:List W):(W.tup xs).eq (W.tup ys)=W.eqs xs ys:=rfl
mutual
theorem W.eq_refl:∀w:W,w.flat=true->w.eq w=true
 | .non,_=>rfl
 | .bl b,_=>beq_self_eq_true b
 | .int i,_=>beq_self_eq_true i
 | .str x,_=>beq_self_eq_true x
 | .tup xs,h=>W.eqs_refl xs h
 | .ref _,h=>cR h
 | .scr _,h=>cR h
theorem W.eqs_refl:∀ws:List W,W.flats ws=true->W.eqs ws ws=true
 | [],_=>rfl
 | x::xs,h=>by
   have h':x.flat=true/\W.flats xs=true:=(Bool.and_eq_true _ _).mp h;exact(Bool.and_eq_true _ _).mpr ⟨W.eq_refl x h'.1,W.eqs_refl xs h'.2⟩
end
mutual
theorem bK.inj {K:yax} {H:Hp}:∀{w u:W} {v:V},w.flat=true->u.flat=true->bK K H w v->bK K H u v->w=u:=by
 intro w u v h1 h2 r1 r2;cases r1 with
 | non=>cases r2;rfl
 | bl _=>cases r2;rfl
 | int _=>cases r2;rfl
 | str _=>cases r2;rfl
 | ref _=>exact cR h1
 | scr _=>exact cR h1
 | tup e1 r1=>
   cases r2 with
   | ref _=>exact cR h2
   | scr _=>exact cR h2
   | tup e2 r2=>
     rw[e1] at e2;cases e2;rw[aQ.inj h1 h2 r1 r2]
theorem aQ.inj {K:yax} {H:Hp}:∀{ws us:List W} {vs:List V},W.flats ws=true->W.flats us=true->aQ K H ws vs->aQ K H us vs->ws=us:=by
 intro ws us vs h1 h2 r1 r2;cases r1 with
 | nil=>cases r2;rfl
 | cons r1 s1=>
   cases r2 with
   | cons r2 s2=>
     simp only[W.flats,Bool.and_eq_true] at h1 h2;rw[bK.inj h1.1 h2.1 r1 r2,aQ.inj h1.2 h2.2 s1 s2]
end
theorem W.flats_get:∀{ws:List W} {j:Nat} {w:W},W.flats ws=true->ws[j]?=some w->w.flat=true
 | [],_,_,_,e=>by simp at e
 | x::xs,0,w,h,e=>by
   have h':x.flat=true/\W.flats xs=true:=by simpa[W.flats] using h
   simp at e;subst e;exact h'.1
 | x::xs,j+1,w,h,e=>by
   have h':x.flat=true/\W.flats xs=true:=by simpa[W.flats] using h
   exact W.flats_get h'.2 (by simpa using e)
theorem W.deps_get:∀{ws:List W} {j:Nat} {w:W},ws[j]?=some w->w.dep<=W.deps ws
 | [],_,_,e=>by simp at e
 | x::xs,0,w,e=>by simp at e;subst e;simp[W.deps];lia
 | x::xs,j+1,w,e=>by
   have:=W.deps_get (ws:=xs) (j:=j) (w:=w) (by simpa using e);simp only[W.deps];lia
theorem W.eqs_iff:∀(ws us:List W),W.eqs ws us=true↔ws.length=us.length/\∀(j:Nat) (a b:W),ws[j]?=some a->us[j]?=some b->W.eq a b=true
 | [],[]=>by simp[W.eqs]
 | [],_::_=>by simp[W.eqs]
 | _::_,[]=>by simp[W.eqs]
 | x::xs,y::ys=>by
   rw[W.eqs,Bool.and_eq_true,W.eqs_iff xs ys];constructor
   ·rintro⟨h1,h2,h3⟩;refine⟨by simp[h2],λj a b ea eb=>?_⟩;cases j with
    | zero=>simp at ea eb;subst ea eb;exact h1
    | succ j=>exact h3 j a b (by simpa using ea) (by simpa using eb)
   ·rintro⟨h1,h2⟩;exact⟨h2 0 x y rfl rfl,by simpa using h1,λj a b ea eb=>h2 (j+1) a b (by simpa using ea) (by simpa using eb)⟩
noncomputable def jH (ws us:List W) (j:Nat):Bool:=match ws[j]?,us[j]? with | some a,some b=>W.eq a b | _,_=>true
theorem fJ (ws us:List W):((List.range (min ws.length us.length)).all (jH ws us)&&(ws.length==us.length))=W.eqs ws us:=by
 rw[Bool.eq_iff_iff,Bool.and_eq_true,W.eqs_iff,all_eq_true,beq_iff_eq];constructor
 ·rintro⟨h1,h2⟩;refine⟨h2,λj a b ea eb=>?_⟩;have hj:j<ws.length:=(List.getElem?_eq_some_iff.mp ea).1;have:=h1 j (List.mem_range.mpr (by lia));unfold jH at this;rw[ea,eb] at this;exact this
 ·rintro⟨h1,h2⟩;refine⟨λj _=>?_,h1⟩;unfold jH;split
  ·rename_i a b ea eb;exact h2 j a b ea eb
  ·rfl
section
variable {X:Cx} {π:List (Addr×Obj)} {σ:St} {H:Hp} {s:Shared}
theorem aB.tupH {xs:List V} (I:aB X π σ H s) (h:H a=some (.tup xs)):∃its:List Value,aU xs its/\s.heap.IsTuple a its.toArray/\xs.length<=sizeLine:=I.tuple (cY.of h)
theorem iH (I:aB X π σ H s):∀(n:Nat) (A:Around) {w1 w2:W} {v1 v2:V} {u1 u2:Value},w1.dep<n->w1.flat=true->w2.flat=true->A.units+n<cLine->bK X.K H w1 v1->bK X.K H w2 v2->bc v1 u1->bc v2 u2->
 SeqAt.EqAt A s u1 u2 (w1.eq w2)/\SeqAt.RcAt A s u1 u2 (w1.eq w2)/\SeqAt.RcNeAt A s u1 u2 (!(w1.eq w2)):=by
 intro n
 induction n with
 | zero=>intro A w1 w2 v1 v2 u1 u2 h;lia
 | succ n ih=>
   intro A w1 w2 v1 v2 u1 u2 hd f1 f2 hu r1 r2 q1 q2;have hu0:A.units<cLine:=by lia
   have hui:A.in1.units+n<cLine:=by show A.units+1+n<cLine;lia
   cases r1 with
   | ref a=>exact cR f1
   | scr a=>exact cR f1
   | non=>
     cases (show u1=Value.none from q1);cases r2 with
     | ref a=>exact cR f2
     | scr a=>exact cR f2
     | non=>cases (show u2=Value.none from q2);exact⟨SeqAt.EqAt.same _,SeqAt.RcAt.none_none,SeqAt.RcNeAt.none_none⟩
     | bl b=>cases (show u2=Value.bool b from q2);exact⟨SeqAt.EqAt.none_bool b,SeqAt.RcAt.none_bool b,SeqAt.RcNeAt.none_bool b⟩
     | int b=>obtain⟨t,rfl⟩:=q2;exact⟨SeqAt.EqAt.none_int b t,SeqAt.RcAt.none_int b t,SeqAt.RcNeAt.none_int b t⟩
     | str b=>obtain⟨t,rfl⟩:=q2;exact⟨SeqAt.EqAt.none_str b t,SeqAt.RcAt.none_str b t,SeqAt.RcNeAt.none_str b t⟩
     | tup h r=>
       cases (show u2=Value.ref _ from q2);obtain⟨its,_,p,_⟩:=aB.tupH I h;exact⟨SeqAt.EqAt.none_tuple p hu0,SeqAt.RcAt.none_tuple p hu0,SeqAt.RcNeAt.none_tuple p hu0⟩
   | bl a=>
     cases (show u1=Value.bool a from q1);cases r2 with
     | ref a=>exact cR f2
     | scr a=>exact cR f2
     | non=>cases (show u2=Value.none from q2);exact⟨SeqAt.EqAt.bool_none a,SeqAt.RcAt.bool_none a,SeqAt.RcNeAt.bool_none a⟩
     | bl b=>cases (show u2=Value.bool b from q2);exact⟨SeqAt.EqAt.bool_bool a b,SeqAt.RcAt.bool_bool a b,SeqAt.RcNeAt.bool_bool a b⟩
     | int b=>obtain⟨t,rfl⟩:=q2;exact⟨SeqAt.EqAt.bool_int a b t,SeqAt.RcAt.bool_int a b t,SeqAt.RcNeAt.bool_int a b t⟩
     | str b=>obtain⟨t,rfl⟩:=q2;exact⟨SeqAt.EqAt.bool_str a b t,SeqAt.RcAt.bool_str a b t,SeqAt.RcNeAt.bool_str a b t⟩
     | tup h r=>
       cases (show u2=Value.ref _ from q2);obtain⟨its,_,p,_⟩:=aB.tupH I h;exact⟨SeqAt.EqAt.bool_tuple a p hu0,SeqAt.RcAt.bool_tuple a p hu0,SeqAt.RcNeAt.bool_tuple a p hu0⟩
   | int a=>
     obtain⟨ta,rfl⟩:=q1;cases r2 with
     | ref a=>exact cR f2
     | scr a=>exact cR f2
     | non=>cases (show u2=Value.none from q2);exact⟨SeqAt.EqAt.int_none a ta,SeqAt.RcAt.int_none a ta,SeqAt.RcNeAt.int_none a ta⟩
     | bl b=>cases (show u2=Value.bool b from q2);exact⟨SeqAt.EqAt.int_bool a ta b,SeqAt.RcAt.int_bool a ta b,SeqAt.RcNeAt.int_bool a ta b⟩
     | int b=>obtain⟨t,rfl⟩:=q2;exact⟨SeqAt.EqAt.int_int a ta b t,SeqAt.RcAt.int_int a ta b t,SeqAt.RcNeAt.int_int a ta b t⟩
     | str b=>obtain⟨t,rfl⟩:=q2;exact⟨SeqAt.EqAt.int_str a ta b t,SeqAt.RcAt.int_str a ta b t,SeqAt.RcNeAt.int_str a ta b t⟩
     | tup h r=>
       cases (show u2=Value.ref _ from q2);obtain⟨its,_,p,_⟩:=aB.tupH I h;exact⟨SeqAt.EqAt.int_tuple a ta p hu0,SeqAt.RcAt.int_tuple a ta p hu0,SeqAt.RcNeAt.int_tuple a ta p hu0⟩
   | str a=>
     obtain⟨ta,rfl⟩:=q1;cases r2 with
     | ref a=>exact cR f2
     | scr a=>exact cR f2
     | non=>cases (show u2=Value.none from q2);exact⟨SeqAt.EqAt.str_none a ta,SeqAt.RcAt.str_none a ta,SeqAt.RcNeAt.str_none a ta⟩
     | bl b=>cases (show u2=Value.bool b from q2);exact⟨SeqAt.EqAt.str_bool a ta b,SeqAt.RcAt.str_bool a ta b,SeqAt.RcNeAt.str_bool a ta b⟩
     | int b=>obtain⟨t,rfl⟩:=q2;exact⟨SeqAt.EqAt.str_int a ta b t,SeqAt.RcAt.str_int a ta b t,SeqAt.RcNeAt.str_int a ta b t⟩
     | str b=>obtain⟨t,rfl⟩:=q2;exact⟨SeqAt.EqAt.str_str a ta b t,SeqAt.RcAt.str_str a ta b t,SeqAt.RcNeAt.str_str a ta b t⟩
     | tup h r=>
       cases (show u2=Value.ref _ from q2);obtain⟨its,_,p,_⟩:=aB.tupH I h;exact⟨SeqAt.EqAt.str_tuple a ta p hu0,SeqAt.RcAt.str_tuple a ta p hu0,SeqAt.RcNeAt.str_tuple a ta p hu0⟩
   | @tup a ws xs h r=>
     cases (show u1=Value.ref _ from q1);obtain⟨its,rv,p,_⟩:=aB.tupH I h;cases r2 with
     | ref a=>exact cR f2
     | scr a=>exact cR f2
     | non=>cases (show u2=Value.none from q2);exact⟨SeqAt.EqAt.tuple_none p hu0,SeqAt.RcAt.tuple_none p hu0,SeqAt.RcNeAt.tuple_none p hu0⟩
     | bl b=>cases (show u2=Value.bool b from q2);exact⟨SeqAt.EqAt.tuple_bool b p hu0,SeqAt.RcAt.tuple_bool b p hu0,SeqAt.RcNeAt.tuple_bool b p hu0⟩
     | int b=>obtain⟨t,rfl⟩:=q2;exact⟨SeqAt.EqAt.tuple_int b t p hu0,SeqAt.RcAt.tuple_int b t p hu0,SeqAt.RcNeAt.tuple_int b t p hu0⟩
     | str b=>obtain⟨t,rfl⟩:=q2;exact⟨SeqAt.EqAt.tuple_str b t p hu0,SeqAt.RcAt.tuple_str b t p hu0,SeqAt.RcNeAt.tuple_str b t p hu0⟩
     | @tup b us ys h2 r2=>
       cases (show u2=Value.ref _ from q2);obtain⟨its2,rv2,p2,_⟩:=aB.tupH I h2;have g1:W.flats ws=true:=f1;have g2:W.flats us=true:=f2;have hd':W.deps ws<n:=by simp only[W.dep] at hd;lia
       have e1:its.length=ws.length:=by rw[←rv.length,r.length]
       have e2:its2.length=us.length:=by rw[←rv2.length,r2.length]
       have he:∀j (h1:j<its.toArray.size) (h2:j<its2.toArray.size),SeqAt.EqAt A.in1 s its.toArray[j] its2.toArray[j] (jH ws us j):=λj j1 j2=>by
        rw[size_toArray] at j1 j2;have ea:ws[j]?=some ws[j]:=ybw (by lia);have eb:us[j]?=some us[j]:=ybw (by lia);obtain⟨va,ea1,ra⟩:=r.get ea;obtain⟨vb,eb1,rb⟩:=r2.get eb;obtain⟨ua,ea2,qa⟩:=rv.get ea1;obtain⟨ub,eb2,qb⟩:=rv2.get eb1;have za:its.toArray[j]=ua:=by
         have:=(List.getElem?_eq_some_iff.mp ea2).2;simpa using this
        have zb:its2.toArray[j]=ub:=by
         have:=(List.getElem?_eq_some_iff.mp eb2).2;simpa using this
        rw[za,zb];have:=(ih A.in1 (w1:=ws[j]) (w2:=us[j]) (Nat.lt_of_le_of_lt (W.deps_get ea) hd') (W.flats_get g1 ea) (W.flats_get g2 eb) hui ra rb qa qb).1;unfold jH;rw[ea,eb];exact this
       have er:=fJ ws us;have c1:=SeqAt.RcAt.tuples p p2 hu0 he;have c2:=SeqAt.RcNeAt.tuples p p2 hu0 he;rw[size_toArray,size_toArray,e1,e2,er] at c1 c2;have ee:(W.tup ws).eq (W.tup us)=W.eqs ws us:=rfl;rw[ee];refine⟨?_,c1,c2⟩
       by_cases hab:a=b
       ·subst hab;have z:=bK.inj f1 f2 (bK.tup h r) (bK.tup h2 r2);have t:W.eqs ws us=true:=by
         cases z;exact W.eqs_refl ws g1
        rw[t];exact SeqAt.EqAt.same _
       ·exact SeqAt.EqAt.of_refs hab c1
end
section
variable {X:Cx}
noncomputable def xm:W2:=λx y G q=>x.flat=true/\y.flat=true/\x.dep<=150/\q (.bl (x.eq y)) G
noncomputable def xn:W2:=λx y G q=>x.flat=true/\y.flat=true/\x.dep<=150/\q (.bl (!(x.eq y))) G
theorem AN (hr:aw k X.A):iC X (compareOp .Eq) xm:=by
 rintro π s σ H x y v u Q I rx ry ⟨wx,wy,G,q,r1,r2,g,⟨f1,f2,hd,h⟩,hQ⟩;exact(iH I 151 X.A (by lia) f1 f2 (by have:=hr.un;lia) r1 r2 rx ry).2.1 X.prog X.w X.xe _ ⟨.bl _,H,I,rfl,hQ _ H _ G (aM.refl H) (.bl _) g h⟩
theorem AO (hr:aw k X.A):iC X (compareOp .NotEq) xn:=by
 rintro π s σ H x y v u Q I rx ry ⟨wx,wy,G,q,r1,r2,g,⟨f1,f2,hd,h⟩,hQ⟩;exact(iH I 151 X.A (by lia) f1 f2 (by have:=hr.un;lia) r1 r2 rx ry).2.2 X.prog X.w X.xe _ ⟨.bl _,H,I,rfl,hQ _ H _ G (aM.refl H) (.bl _) g h⟩
noncomputable def t9:W2:=λx y G q=>match x,y with
 | .int i,.int j=>q (.int (i-j)) G
 | .bl a,.bl b=>q (.int (b2i a-b2i b)) G
 | _,_=>False
theorem jI:iC X (binaryOp .Sub) t9:=by
 rintro π s σ H x y v u Q I rx ry ⟨wx,wy,G,q,r1,r2,g,h,hQ⟩;cases r1 with
 | int i=>
   cases r2 with
   | int j=>exact Aq π s σ H _ _ v u Q I rx ry ⟨_,_,rfl,rfl,hQ _ H _ G (aM.refl H) (.int _) g h⟩
   | _=>exact False.elim h
 | bl a=>
   cases r2 with
   | bl b=>
     cases rx;cases ry;exact sub_bool ⟨.int _,H,I.tok _,⟨_,rfl⟩,hQ _ H _ G (aM.refl H) (.int _) g h⟩
   | _=>exact False.elim h
 | _=>exact False.elim h
noncomputable def uc:W->Bool
 | .non=>true
 | _=>false
noncomputable def CV (neg:Bool):W2:=λx y G q=>y=.non/\q (.bl (neg ^^ uc x)) G
theorem AQ:iC X (compareOp .IsNot) (CV true):=by
 rintro π s σ H x y v u Q I rx ry ⟨wx,wy,G,q,r1,r2,g,⟨e,h⟩,hQ⟩;subst e;cases r2;refine wS π s σ H _ _ v u Q I rx ry ⟨rfl,?_⟩;have z:decide (x=V.non)=uc wx:=by cases r1<;> simp[uc]
 rw[z];exact hQ _ H _ G (aM.refl H) (.bl _) g (by simpa using h)
noncomputable abbrev WO:=cO->Gp->(Option Int->Gp->Prop)->Prop
noncomputable def LO (K:yax) (t:WO):TO:=λσ H Q=>∃τ G q,bu K H τ σ/\aI K H G/\t τ G q/\∀o H1 G1,aM H H1->aI K H1 G1->q o G1->Q o H1
noncomputable def QO (X:Cx) (e:Option Expr) (t:WO):Prop:=PO X e (LO X.K t)
theorem PO.imp {e:Option Expr} {t t':TO} (h:PO X e t) (f:∀σ H Q,t' σ H Q->t σ H Q):PO X e t':=λπ s σ H Q I q=>h π s σ H Q I (f _ _ _ q)
noncomputable def qy:WO:=λ_ G q=>q none G
noncomputable def zy (t:WE):WO:=λτ G q=>t τ G λx G1=>match x with | .int i=>q (some i) G1 | _=>False
theorem dU:QO X none qy:=po_none.imp λσ H Q ⟨τ,G,q,hs,hg,ht,hQ⟩=>hQ none H G (aM.refl H) hg ht
theorem cW {te:WE} (h:QE X e te):QO X (some e) (zy te):=
 (xc h).imp λσ H Q ⟨τ,G,q,hs,hg,ht,hQ⟩=>⟨τ,G,_,hs,hg,ht,λv H1 w G1 t1 r1 g1 q1=>by
   split at q1
   ·cases r1;exact⟨_,rfl,hQ _ H1 G1 t1 g1 q1⟩
   ·exact q1.elim⟩
noncomputable def dc (xs:List W) (lo hi:Option Int):List W:=(xs.drop (HT.sIx xs.length 0 lo)).take (HT.sIx xs.length xs.length hi-HT.sIx xs.length 0 lo)
theorem aQ.cut {H:Hp} {ws:List W} {vs:List V} (r:aQ K H ws vs) (lo hi:Option Int):aQ K H (dc ws lo hi) (nh vs lo hi):=by
 unfold dc nh;rw[r.length];exact(r.drop _).take _
noncomputable abbrev W3:=W->Option Int->Option Int->Gp->WK->Prop
noncomputable def xo:W3:=λx lo hi G q=>match x with
 | .tup xs=>q (.tup (dc xs lo hi)) G
 | .scr ns=>ns.length<=100000/\∀p,G p=none->q (.ref p) (aF G p (.lst (dc (ns.map W.int) lo hi)))
 | .ref a=>∃xs,G a=some (.lst xs)/\∀p,G p=none->q (.ref p) (aF G p (.lst (dc xs lo hi)))
 | _=>False
theorem jb (xs:List W) (lo hi:Option Int):(dc xs lo hi).length<=xs.length:=by
 unfold dc;rw[length_take,length_drop];exact ybz (Nat.min_le_right _ _) (Nat.sub_le _ _)
theorem pq {xs:List W} {lo hi:Option Int} (h:HT.sIx xs.length 0 lo=0/\HT.sIx xs.length xs.length hi=xs.length):dc xs lo hi=xs:=by
 unfold dc;rw[h.1,h.2,List.drop_zero,Nat.sub_zero,List.take_length]
theorem r6 {t sl:Addr} {vl vu:Value} {lo hi:Option Int} (ht:IsTup s.heap t items) (hs:s.heap.IsSliceOf sl vl vu .none) (pl:IsPart vl lo) (pu:IsPart vu hi)
 (hw:HT.sIx items.size 0 lo=0/\HT.sIx items.size items.size hi=items.size) (h:Q (.ref t) s):wpAny (model prog w) A (getItem (.ref t) (.ref sl)) Q E s:=by
 obtain⟨os,hos,hcs,hds⟩:=id hs;have hTs:s.TypeIs (.ref sl) "slice":=⟨os,hos,hcs⟩;unfold getItem
 try with_reducible refine wpAny_holding ?_
 first | refine wax (way ?_) | skip
 refine wax (wpAny_sequenceKey ht.typeIs (by decide) ?_);refine wax (wpAny_callSpecial?_slot (name:=Str.ofString "__getitem__") ht.typeIs PyProof.Rows.slot_tuple_getitem
  (wpAny_call_entry PyProof.Rows.slot_tuple_getitem ht.typeIs entry_tuple_getitem ?_ (args_tuple_getitem _ _)))
 show wpAny _ _ (Builtin.Tuple.tupleItemsOf (.ref t) >>= _) _ _ s;refine wax (tupleItemsOf_ ht ?_);refine wax (wpAny_typeOf hTs ?_);rw[ycx (by decide)];refine wax (HT.sliceApplied_gen hs pl pu ?_);have hyes:(((HT.sIx items.size 0 lo:Nat):Int)==0&&(1:Int)==1&&(HT.sIx items.size items.size hi-HT.sIx items.size 0 lo)==items.size)=true:=by
  rw[hw.1,hw.2];simp
 show wpAny _ _ (if (((HT.sIx items.size 0 lo:Nat):Int)==0&&(1:Int)==1&&(HT.sIx items.size items.size hi-HT.sIx items.size 0 lo)==items.size)=true then _ else _) _ _ s;rw[ycx hyes];refine wax ?_;show wpAny _ _ (typeOf (.ref t) >>= _) _ _ s;refine wax (wpAny_typeOf ht.typeIs (way ?_));rw[ycx (by simp)];exact wax (wpAny_rule (way ⟨_,rfl,way h⟩))
noncomputable def GV (K:yax) (r:W3):V->Option Int->Option Int->Hp->VK->Prop:=λx lo hi H Q=>∃w G q,bK K H w x/\aI K H G/\r w lo hi G q/\∀v H1 w G1,aM H H1->bK K H1 w v->aI K H1 G1->q w G1->Q v H1
theorem Fe:CA X (GV X.K xo):=by
 rintro π s σ H x v vl vu lo hi sl Q I rx hs pl pu ⟨w,G,q,r,g,h,hQ⟩;unfold xo at h;split at h
 ·cases r with
  | @tup a ws xs hh rr=>
    by_cases hw:HT.sIx xs.length 0 lo=0/\HT.sIx xs.length xs.length hi=xs.length
    ·cases rx;obtain⟨its,rv,ht,hz⟩:=I.tuple (cY.of hh);have hlen:its.toArray.size=xs.length:=by rw[size_toArray];exact rv.length.symm
     refine⟨"tuple",_,PyProof.Rows.slot_tuple_getitem.lookup,ht.typeIs,?_⟩;refine r6 ht hs pl pu (by rw[hlen];exact hw) ⟨.ref a,H,I,rfl,?_⟩;rw[pq (by rw[rr.length];exact hw)] at h;exact hQ _ H _ G (aM.refl H) (.tup hh rr) g h
    ·exact Az π s σ H _ v vl vu lo hi sl Q I rx hs pl pu ⟨a,xs,rfl,cY.of hh,hw,λp hp=>hQ _ _ _ G (aM.new hp _) (.tup aX ((rr.cut lo hi).mono (aM.new hp _))) (g.keep hp _) h⟩
 ·rename_i ns;cases r with
  | scr hh=>
    refine qp π s σ H _ v vl vu lo hi sl Q I rx hs pl pu ⟨_,_,rfl,hh.sq,λp hp=>hQ _ _ _ _ (aM.new hp _) (.ref p) (g.put (aM.new hp _) ((aQ.ints ns).cut lo hi) ?_) (h.2 p (g.fresh hp))⟩;exact ybz (jb _ _ _) (by rw[length_map];exact h.1)
 ·obtain⟨xs,e,h⟩:=h;cases r;obtain⟨hl,zs,e1,rr⟩:=g _ _ e;exact qp π s σ H _ v vl vu lo hi sl Q I rx hs pl pu ⟨_,zs,rfl,dm.of e1,λp hp=>hQ _ _ _ _ (aM.new hp _) (.ref p) (g.put (aM.new hp _) (rr.cut lo hi) (ybz (jb _ _ _) hl)) (h p (g.fresh hp))⟩
 ·exact h.elim
theorem ud:bootBuiltins "isinstance"=some (.builtin "isinstance"):=by decide+kernel
noncomputable def ue (G:Gp):W->Option String
 | .non=>some "NoneType"
 | .bl _=>some "bool"
 | .int _=>some "int"
 | .str _=>some "str"
 | .tup _=>some "tuple"
 | .ref a=>match G a with | some (.lst _)=>some "list" | some .dct=>some "dict" | some (.dic _)=>some "dict" | _=>none
 | .scr _=>none
noncomputable def gl:String->String->Bool
 | "int","int"=>true
 | "bool","int"=>true
 | "bool","bool"=>true
 | "tuple","tuple"=>true
 | "list","list"=>true
 | "str","str"=>true
 | _,_=>false
noncomputable def r9 (T:String):Prop:=T="int"∨T="bool"∨T="tuple"∨T="list"∨T="str"
theorem AR {t T:String} (ht:t="NoneType"∨t="bool"∨t="int"∨t="str"∨t="tuple"∨t="list"∨t="dict") (hT:r9 T):PySem.W.kitOne K (.type t) (.type T)=some (gl t T):=by
 rcases ht with rfl | rfl | rfl | rfl | rfl | rfl | rfl<;> rcases hT with rfl | rfl | rfl | rfl | rfl<;> first | rfl | kernel_rfl | decide+kernel
noncomputable def CW (T:String) (te:WE):WE:=λτ G q=>te τ G λx G1=>match ue G1 x with | some t=>q (.bl (gl t T)) G1 | none=>False
theorem uf {H:Hp} {G:Gp} {w:W} {v:V} {t:String} (g:aI K H G) (r:bK K H w v) (e:ue G w=some t):iz K H v (.type t)/\(t="NoneType"∨t="bool"∨t="int"∨t="str"∨t="tuple"∨t="list"∨t="dict"):=by
 unfold ue at e;cases r with
 | non=>cases e;exact⟨.non,by simp⟩
 | bl b=>cases e;exact⟨.bl b,by simp⟩
 | int i=>cases e;exact⟨.int i,by simp⟩
 | str x=>cases e;exact⟨.str x,by simp⟩
 | tup h _=>cases e;exact⟨.tup h,by simp⟩
 | scr h=>cases e
 | ref a=>
   simp only at e;split at e
   ·rename_i ws e1;cases e;obtain⟨_,xs,e2,_⟩:=g a _ e1;exact⟨.lst e2,by simp⟩
   ·rename_i e1;cases e;exact⟨.dK (g a _ e1),by simp⟩
   ·rename_i kvs e1;cases e;obtain⟨_,kvs',e2,_⟩:=g a _ e1;exact⟨.dK e2,by simp⟩
   ·cases e
theorem CY {T:String} (hT:r9 T) {σ:St} {H:Hp} {v:V} {w:W} {G:Gp} {q:WK} {Q:VK} (I:aB X π σ H s) (ru:bc v u) (r:bK X.K H w v) (g:aI X.K H G)
 (h:match ue G w with | some t=>q (.bl (gl t T)) G | none=>False) (hQ:∀v H1 w G1,aM H H1->bK X.K H1 w v->aI X.K H1 G1->q w G1->Q v H1):
 wpAny (model X.prog X.w) X.A (call (.builtin "isinstance") [u,.type T]) (EP X π σ Q) X.xe s:=by
 split at h
 ·rename_i t e;obtain⟨ty,hk⟩:=uf g r e;exact rV I ru ty (AR hk hT) λtk=>⟨.bl _,H,I.tok tk,rfl,hQ _ H _ G (aM.refl H) (.bl _) g h⟩
 ·exact h.elim
theorem pw {T:String} {te:WE} {p p2 pos:Pos} (hT:r9 T) (hv:bootBuiltins x=some (.type T)) (hm:X.mg x=none) (hgx:Gl X x) (hm1:X.mg "isinstance"=none) (hg1:Gl X "isinstance") (he:QE X e te) (hn:x≠"__name__":=by decide) (hd:(x==("__debug__":Str))=false:=by decide)
 (hs1:starEach [e,.Name x p2] X.env=(false,eval e X.env)::starEach [.Name x p2] X.env:=by rfl) (hs2:starEach [.Name x p2] X.env=(false,eval (.Name x p2) X.env)::starEach [] X.env:=by rfl)
 (hpl:(backTo pos (starEach [.Name x p2] X.env)).any (·.1)=false:=by rfl):QE X (.Call (.Name "isinstance" p) [e,.Name x p2] [] pos) (CW T te):=by
 have hb:PE X (.Name x p2) (tC (.ty T)):=wJ hgx hm hv rfl hn hd;have ha:PA X [e,.Name x p2] (tE (kx X.K te) (tE (tC (.ty T)) wY)):=cU he (cU hb pa_nil hs2) hs1;have hc:gS X (.builtin "isinstance") (λvs H Q=>∃(v:V) (w:W) (G:Gp) (q:WK),vs=[v,.ty T]/\bK X.K H w v/\aI X.K H G/\(match ue G w with | some t=>q (.bl (gl t T)) G | none=>False)/\∀v H1 w G1,aM H H1->bK X.K H1 w v->aI X.K H1 G1->q w G1->Q v H1):=by
  rintro π s σ H xs us Q I r ⟨v,w,G,q,e1,r1,g1,h,hQ⟩;subst e1;obtain⟨u,u2,rfl,ru,ru2⟩:=qh r;cases (show u2=Value.type T from ru2);exact CY hT I ru r1 g1 h hQ
 exact(ng hc hg1 hm1 ud ha (by decide) (by decide) hs1 hpl).imp λσ H Q z0=>z0.el λτ G q hs hg ht hQ=>⟨τ,G,_,hs,hg,ht,λv H1 w G1 t1 r1 g1 q1=>
  ⟨v,w,G1,q,rfl,r1,g1,q1,λv2 H2 w2 G2 t2=>hQ v2 H2 w2 G2 (t1.trans t2)⟩⟩
noncomputable def AS:List W->Gp->WK->Prop:=λws G q=>match ws with
 | [.ref a]=>∃ns:List Int,G a=some (.lst (ns.map W.int))/\q (.int ns.sum) G
 | _=>False
theorem aQ.ints_of {K:yax} {H:Hp}:∀{ns:List Int} {vs:List V},aQ K H (ns.map W.int) vs->vs=ns.map V.int
 | [],_,r=>by cases r;rfl
 | n::ns,_,r=>by
   cases r with
   | cons r rs=>
     cases r;rw[aQ.ints_of rs]
     rfl
theorem CZ (hc:X.calm=true):fe X (.builtin "sum") AS:=by
 rintro π s σ H xs us Q I r ⟨ws,G,q,rw',g,h,hQ⟩;unfold AS at h;split at h
 ·rename_i a;obtain⟨ns,e,h⟩:=h;obtain⟨v,rfl,r1⟩:=rw'.one;cases r1;obtain⟨_,zs,e1,rr⟩:=g a _ e;obtain rfl:=rr.ints_of;obtain⟨u,rfl,ru⟩:=fT r;cases (show u=Value.ref a from ru);obtain⟨its,rv,p,hz⟩:=I.list (dm.of e1);have hi:IntsAre its ns:=L2.intsAre_of rv;obtain⟨ys,ey⟩:=hi.allInts.items;have hn:(ys.toList.map (·.1))=ns:=by rw[←nums_intItems,←ey,←hi.numsOf]
  have hl:s.heap.IsList a (intItems ys):=by rw[←ey];exact p.isList
  refine sum_intListG (I.ok.hd hc) hl λh' tk t' hk=>⟨.int _,H,I.kept hk,⟨t',rfl⟩,?_⟩;have es:preSum (numAt ys) ys.size=ns.sum:=by rw[preSum_eq,List.take_of_length_le (by simp),hn]
  rw[es];exact hQ _ H _ G (aM.refl H) (.int _) g h
 ·exact h.elim
noncomputable def C0 (to te:WE):WE:=λτ G q=>to τ G λx G1=>match x with
 | .ref a=>(∃xs,G1 a=some (.lst xs))/\te τ G1 λy G2=>∃ys,G2 a=some (.lst ys)/\ys.length+1<=100000/\q .non (aF G2 a (.lst (ys++[y])))
 | _=>False
theorem lV {o e:Expr} {to te:WE} {apos cpos:Pos} (ho:QE X o to) (he:QE X e te)
 (hbase:attributeBase o "append" X.env (eval o X.env)=eval o X.env:=by rfl)
 (hfew:((backTo cpos (starEach [e] X.env)).all (λx=>!x.1)&&(backToKw cpos (keywordEach [] X.env)).all (λx=>x.1.isSome)
   &&decide (([e]:List Expr).length+([]:List Keyword).length+(if ([]:List Keyword).isEmpty then 0 else 1)<30))=true:=by rfl)
 (hline:(apos.endLine==cpos.line)=true:=by rfl) (hs:starEach [e] X.env=(false,eval e X.env)::starEach [] X.env:=by rfl):
 QE X (.Call (.Attribute o "append" apos) [e] [] cpos) (C0 to te):=
 (zh PySem.F.plainAttrs_list PySem.F.slot_list_append PySem.F.type_list_append rY ho (cU he pa_nil hs) hbase hfew hline hs rfl).imp λσ H Q z0=>z0.el λτ G q hs hg ht hQ=>
   ⟨τ,G,_,hs,hg,ht,λv H1 w G1 t1 r1 g1 q1=>by
     split at q1
     ·rename_i a;cases r1;obtain⟨⟨xs,e1⟩,q1⟩:=q1;obtain⟨_,xs',h1,_⟩:=g1 a _ e1;refine⟨.inl ⟨rfl,xs',dm.of h1⟩,τ,G1,_,hs.mono t1,g1,q1,λv2 H2 w2 G2 t2 r2 g2 q2=>?_⟩;obtain⟨ys,e2,hl,q2⟩:=q2;obtain⟨_,ys',h2,rr⟩:=g2 a _ e2;refine⟨a,ys',v2,rfl,rfl,h2,?_,?_⟩
      ·rw[←rr.length];exact bN hl
      ·exact hQ _ _ _ _ ((t1.trans t2).trans (aM.lst h2 _)) .non (g2.put (aM.lst h2 _) (rr.append (.cons r2 .nil)) (by rw[length_append];exact hl)) q2
     ·exact q1.elim⟩
end
structure px (K:yax) (J:It) (ws:List W) (C:Gp->Prop) (H0:Hp):Prop where
 stop:∀i H G,aM H0 H->aI K H G->C G->ws.length<=i->J.stop i H
 go:∀i w H G,aM H0 H->aI K H G->C G->ws[i]?=some w->J.go i H/\∀x H',J.yld i H x H'->aM H H'/\bK K H' w x/\aI K H' G
noncomputable abbrev WI:=cO->Gp->(List W->(Gp->Prop)->Gp->Prop)->Prop
noncomputable def LI (K:yax) (t:WI):TI:=λσ H R=>∃τ G r,bu K H τ σ/\aI K H G/\t τ G r/\∀J H1 ws C G1,aM H H1->aI K H1 G1->px K J ws C H1->r ws C G1->R J H1
noncomputable def QI (X:Cx) (tg iter:Expr) (t:WI):Prop:=PI X tg iter (LI X.K t)
section
variable {X:Cx} {tg:Expr}
theorem PI.imp {t t':TI} (h:PI X tg e t) (f:∀σ H R,t' σ H R->t σ H R):PI X tg e t':=λπ s σ H R I q=>h π s σ H R I (f _ _ _ q)
theorem xq {ws:List W} {xs:List V} {H:Hp} (h:H a=some (.tup xs)) (r:aQ K H ws xs):px K (ER K a) ws (λ_=>True) H where
 stop:=λi H1 G t g _ hl=>⟨xs,cY.of (t.tup _ _ h),by rw[←r.length];exact hl⟩
 go:=λi w H1 G t g _ e=>by
  obtain⟨v,e1,rv⟩:=r.get e;refine⟨⟨xs,v,cY.of (t.tup _ _ h),e1⟩,λx H' z9=>?_⟩;obtain⟨eH,hy⟩:=z9;subst eH;have e2:=hy xs (cY.of (t.tup _ _ h));rw[e1] at e2;cases e2;exact⟨aM.refl _,rv.mono t,g⟩
theorem xt {ws:List W} {H:Hp}:px K (Er K a) ws (λG=>G a=some (.lst ws)) H where
 stop:=λi H1 G t g e hl=>by
  obtain⟨_,xs,h1,r⟩:=g a _ e;exact⟨xs,dm.of h1,by rw[←r.length];exact hl⟩
 go:=λi w H1 G t g eG e=>by
  obtain⟨_,xs,h1,r⟩:=g a _ eG;obtain⟨v,e1,rv⟩:=r.get e;refine⟨⟨xs,v,dm.of h1,e1⟩,λx H' z9=>?_⟩;obtain⟨eH,hy⟩:=z9;subst eH;have e2:=hy xs (dm.of h1);rw[e1] at e2;cases e2;exact⟨aM.refl _,rv,g⟩
theorem xu {ns:List Int} {H:Hp} (h:zm K H a ns):px K (Er K a) (ns.map W.int) (λ_=>True) H where
 stop:=λi H1 G t g _ hl=>⟨_,(h.mono t).sq,by simpa using hl⟩
 go:=λi w H1 G t g _ e=>by
  have r:aQ K H1 (ns.map W.int) (ns.map V.int):=aQ.ints ns;obtain⟨v,e1,rv⟩:=r.get e;refine⟨⟨_,v,(h.mono t).sq,e1⟩,λx H' z9=>?_⟩;obtain⟨eH,hy⟩:=z9;subst eH;have e2:=hy _ (h.mono t).sq;rw[e1] at e2;cases e2;exact⟨aM.refl _,rv,g⟩
noncomputable def sQ (n:Nat):List W:=(List.range n).map λ(i:Nat)=>W.int (i:Int)
theorem xv {n:Nat} {H:Hp}:px K (Es 0 n) (sQ n) (λ_=>True) H where
 stop:=λi H1 G t g _ hl=>by have h:n<=i:=(by simpa[sQ] using hl);exact h
 go:=λi w H1 G t g _ e=>by
  unfold sQ at e;rw[List.getElem?_map] at e;have hi:i<n:=by
   cases h:(List.range n)[i]? with
   | none=>rw[h] at e;cases e
   | some k=>
     have:=(List.getElem?_eq_some_iff.mp h).1;simpa using this
  rw[List.getElem?_range hi] at e;cases e;refine⟨hi,λx H' z9=>?_⟩;obtain⟨eH,hy⟩:=z9;subst eH;subst hy;exact⟨aM.refl _,by simpa using bK.int _,g⟩
noncomputable def C9 (ta:WA):WI:=λτ G r=>ta τ G λws G1=>match ws with
 | [.int j]=> -(2^62)<=j/\j<2^62/\r (sQ j.toNat) (λ_=>True) G1
 | _=>False
theorem nw {a:Expr} {ta:WA} {p pos:Pos} (hg:Gl X "range") (hm:X.mg "range"=none) (ha:QA X [a] ta) (hs:starEach [a] X.env=[(false,eval a X.env)]:=by rfl):QI X tg (.Call (.Name "range" p) [a] [] pos) (C9 ta):=
 (rO hg hm ha hs).imp λσ H R ⟨τ,G,r,hs,hg,ht,hR⟩=>⟨τ,G,_,hs,hg,ht,λvs H1 ws G1 t1 r1 g1 q1=>by
   split at q1
   ·obtain⟨v,rfl,r2⟩:=r1.one;cases r2 with
    | int j=>exact⟨_,rfl,q1.1,q1.2.1,hR _ H1 _ _ G1 t1 g1 xv q1.2.2⟩
   ·exact q1.elim⟩
noncomputable def jc (C:Gp->Prop) (g:WG) (tb:WS) (d:cZ):List W->cO->Gp->Prop
 | [],τ,G=>C G/\d.nx τ G
 | w::ws,τ,G=>C G/\g w τ G λτ2 G2=>tb { d with nx:=jc C g tb d ws,ct:=jc C g tb d ws,bk:=d.nx } τ2 G2
noncomputable def Da (wi:WI) (g:WG) (tb:WS):WS:=λd τ G=>wi τ G λws C G1=>jc C g tb d ws τ G1
theorem dG {iter:Expr} {wi:WI} {g:WG} {tb:WS} (hp:PassesOwn (model X.prog X.w) X.A X.env X.xe) (hc:X.calm=true) (hi:QI X tg iter wi) (hg:QG X tg g) (hb:nr X body tb)
 (hs:∀x,foldedSetIterable iter X.env x=pure x:=by intro _;rfl):QS X (.For tg iter body [] pos) (Da wi g tb):=
 (Al hp hc hi hg hb hs).imp λD σ H z0=>z0.el λτ G d hs hg ht l=>⟨τ,G,_,hs,hg,ht,λJ H1 ws C G1 t1 g1 it q1=>by
   refine⟨λi m σ2 H2=>∃τ2 G2,m=ws.length-i/\i<=ws.length/\aM H1 H2/\bu X.K H2 τ2 σ2/\aI X.K H2 G2/\jc C g tb d (ws.drop i) τ2 G2,⟨ws.length,τ,G1,by simp,zero_le _,aM.refl _,hs.mono t1,g1,by simpa using q1⟩,?_⟩;rintro i m σ2 H2 ⟨τ2,G2,rfl,hi,t2,s2,g2,q2⟩
   by_cases hlt:i<ws.length
   ·have ed:ws.drop i=ws[i]::ws.drop (i+1):=drop_eq_getElem_cons hlt;rw[ed] at q2;obtain⟨c2,q2⟩:=q2;obtain⟨go,yl⟩:=it.go i ws[i] H2 G2 t2 g2 c2 (ybw hlt);refine .inr ⟨go,λσ3 H3=>∃τ3 G3,aM H1 H3/\bu X.K H3 τ3 σ3/\aI X.K H3 G3/\jc C g tb d (ws.drop (i+1)) τ3 G3,?_,λx H' hy=>?_⟩
    ·rintro σ3 H3 ⟨τ3,G3,t3,s3,g3,q3⟩;exact⟨ws.length- (i+1),by lia,τ3,G3,rfl,hlt,t3,s3,g3,q3⟩
    ·obtain⟨tx,rx,gx⟩:=yl x H' hy;refine⟨ws[i],τ2,G2,_,rx,s2.mono tx,gx,q2,λσ3 H3 τ3 G3 t3 s3 g3 q3=>?_⟩;have tt:=(t2.trans tx).trans t3;have t0:=t1.trans tt;exact⟨τ3,G3,_,s3,g3,q3,⟨λσ4 H4 τ4 G4 t4 s4 g4 q4=>⟨τ4,G4,tt.trans t4,s4,g4,q4⟩,λv H4 w G4 t4=>l.rt v H4 w G4 (t0.trans t4),λσ4 H4 τ4 G4 t4=>l.nx σ4 H4 τ4 G4 (t0.trans t4),λσ4 H4 τ4 G4 t4 s4 g4 q4=>⟨τ4,G4,tt.trans t4,s4,g4,q4⟩⟩⟩
   ·have e:i=ws.length:=by lia
    subst e;rw[List.drop_length] at q2;exact .inl ⟨it.stop _ H2 G2 t2 g2 q2.1 (yby _),l.nx σ2 H2 τ2 G2 (t1.trans t2) s2 g2 q2.2⟩⟩
end
section
variable {prog:Program} {w:World} {A:Around} {E:ydz} {s:Shared}
structure ZA (z p r i j a b:Addr):Prop where
 zp:p≠z
 zr:r≠z
 zi:i≠z
 zj:j≠z
 pr:p≠r
 pi:p≠i
 pj:p≠j
 ri:r≠i
 rj:r≠j
 ij:i≠j
 az:a≠z
 ar:a≠r
 ai:a≠i
 aj:a≠j
 bz:b≠z
 br:b≠r
 bi:b≠i
 bj:b≠j
structure ZT (z p r i j a b:Addr) (n:Nat) (f:Value) (h:Heap):Prop where
 hz:IsZip h z p r f
 hp:IsPair h p (.ref i) (.ref j)
 hr:∃x y,IsPair h r x y
 hi:h.IsTupleIter i a n
 hj:h.IsTupleIter j b n
end
section
variable {prog:Program} {w:World} {A:Around} {R:Result->Shared->Prop} {s:Shared}
noncomputable abbrev nox:Value->Shared->Prop:=λ_ _=>False
noncomputable abbrev zz (ifs:List Expr) (env:Env):Sem Bool:=forIn ifs true λc r=>if r=true then do let ok ←isTrue c env (eval c env);pure (ForInStep.yield ok) else pure (ForInStep.yield r)
theorem sd {elt tg iter:Expr} {ifs:List Expr} {it acc:Value} {env:Env} (I:Nat->Shared->Prop)
 (turn:∀n s,I n s->wpAny (model prog w) A (pyNext it) (λr s1=>match r with
   | none=>R (.ok .next) s1
   | some v=>wpAny (model prog w) A (letOwnedTupleGo tg it v) (λ_ s2=>wpAny (model prog w) A (assign tg env v) (λ_ s3=>wpAny (model prog w) A (zz ifs env) (λok s4=>
      if ok=true then wpAny (model prog w) A (eval elt env) (λx s5=>wpAny (model prog w) A (call (.builtin "list.append") [acc,x]) (λ_ s6=>∃m,m<n/\I m s6) nox s5) nox s4
      else ∃m,m<n/\I m s4) nox s3) nox s2) nox s1) nox s) (n:Nat) (h:I n s):
 codeAny (model prog w) A (.compLoop (.ListComp elt [⟨tg,iter,ifs,0⟩] scope pos) 0 it acc env) R s:=by
 refine codeAny_loop rfl I (λn s hI=>?_) n h;show wpAny _ A ((compTurn (.ListComp elt [⟨tg,iter,ifs,0⟩] scope pos) 0 it acc env).onRaise (λx=>do noteFrame x env;theTreesLotGoes x)) _ _ s;refine wpAny_noted ?_;rw[compTurn_list];refine wax (wpAny_standAt (wax (wpAny_mono (turn n s hI) (λr s1 h1=>?_) λ_ _ z=>z.elim)));cases r with
 | none=>exact way h1
 | some v=>
   refine wax (wpAny_mono h1 (λ_ s2 h2=>wax (wpAny_mono h2 (λ_ s3 h3=>wax (wpAny_mono h3 (λok s4 h4=>?_) λ_ _ z=>z.elim)) λ_ _ z=>z.elim)) λ_ _ z=>z.elim);cases ok with
   | false=>exact way ⟨rfl,h4⟩
   | true=>
     refine wax (wax (wpAny_mono h4 (λx s5 h5=>?_) λ_ _ z=>z.elim));exact wax (wpAny_mono h5 (λ_ s6 h6=>way (way ⟨rfl,h6⟩)) λ_ _ z=>z.elim)
end
noncomputable def g9 (env:Env):List (Str×NameKind)->List (Str×Addr)->List (Str×Addr)
 | [],cs=>cs
 | (n,k)::r,cs=>if k== .free then g9 env r ((n,(env.cells.lookup n).getD 0)::cs) else g9 env r cs
theorem eP {env:Env} (h:∀y∈scope.names,y.2=.free->∃c,env.cells.lookup y.1=some c):closureFor scope env=pure (g9 env scope.names []):=by
 unfold closureFor;have key:∀(l:List (Str×NameKind)) (cs:List (Str×Addr)),(∀y∈l,y.2=.free->∃c,env.cells.lookup y.1=some c)->
  (forIn l cs λ(x:Str×NameKind) (r:List (Str×Addr))=>(if (x.2==NameKind.free)=true then (do let y ←cellOf env x.1;pure (ForInStep.yield ((x.1,y)::r))) else pure (ForInStep.yield r):Sem (ForInStep (List (Str×Addr)))))=(pure (g9 env l cs):Sem (List (Str×Addr))):=by
  intro l
  induction l with
  | nil=>intro cs _;rfl
  | cons y r ih=>
    intro cs hl;obtain⟨n,k⟩:=y;rw[List.forIn_cons];unfold g9
    by_cases hk:(k==NameKind.free)=true
    ·have hk':k=.free:=by simpa using hk
     obtain⟨c,hc⟩:=hl (n,k) yaz hk';simp only[hk,if_true];have e:cellOf env n=pure c:=by unfold cellOf;rw[hc]
     rw[e,hc];simp only[pure_bind,Option.getD_some];exact ih _ λy hy=>hl y (yay _ hy)
    ·simp only[hk,if_false,Bool.false_eq_true];simp only[pure_bind];exact ih _ λy hy=>hl y (yay _ hy)
 have:=key scope.names [] h;simp only[bind_pure];exact this
theorem dW {env:Env}:∀{l:List (Str×NameKind)} {cs:List (Str×Addr)},(∀y∈l,y.2=.free->∃c,env.cells.lookup y.1=some c)->(∀x c,cs.lookup x=some c->env.cells.lookup x=some c)->∀x c,(g9 env l cs).lookup x=some c->env.cells.lookup x=some c
 | [],_,_,hc,x,c,e=>hc x c e
 | (n,k)::r,cs,hl,hc,x,c,e=>by
   unfold g9 at e;have hr:∀y∈r,y.2=.free->∃c,env.cells.lookup y.1=some c:=λy hy=>hl y (yay _ hy);split at e
   ·rename_i hk;obtain⟨c0,hc0⟩:=hl (n,k) yaz (by simpa using hk);refine dW hr (λx' c' e'=>?_) x c e;rw[lookup_cons] at e';cases hx:x'==n with
    | true=>
      rw[hx] at e';have:x'=n:=by simpa using hx
      subst this;rw[hc0] at e';simp at e';subst e';exact hc0
    | false=>rw[hx] at e';exact hc x' c' e'
   ·exact dW hr hc x c e
theorem ft {env:Env}:∀{l:List (Str×NameKind)} {cs:List (Str×Addr)} {x:Str},((x,NameKind.free)∈l∨∃c,cs.lookup x=some c)->∃c,(g9 env l cs).lookup x=some c
 | [],_,_,h=>by
   rcases h with h | h
   ·simp at h
   ·exact h
 | (n,k)::r,cs,x,h=>by
   unfold g9;have keep:(∃c,cs.lookup x=some c)->∃c,((n,(env.cells.lookup n).getD 0)::cs).lookup x=some c:=λ⟨c,e⟩=>by
    rw[lookup_cons];cases hx:x==n with
    | true=>exact⟨_,rfl⟩
    | false=>exact⟨c,e⟩
   split
   ·rename_i hk;refine ft ?_;rcases h with h | h
    ·rcases mem_cons.mp h with h | h
     ·cases h;exact .inr ⟨(env.cells.lookup n).getD 0,by rw[lookup_cons];simp⟩
     ·exact .inl h
    ·exact .inr (keep h)
   ·rename_i hk;refine ft ?_;rcases h with h | h
    ·rcases mem_cons.mp h with h | h
     ·cases h;exact absurd rfl hk
     ·exact .inl h
    ·exact .inr h
theorem dH {env:Env}:∀{l:List (Str×NameKind)} {x:Str} {k:NameKind},(l.map λ(n,k)=>if (k==NameKind.free&&env.scope.kind== .function&&env.kindOf n==some .cell) then (n,NameKind.cell) else (n,k)).lookup x=some k->(k=.cell∨k=.free)->(∀y∈l,y.2≠ .cell)->(x,NameKind.free)∈l
 | [],_,_,e,_,_=>by simp at e
 | (n,k0)::r,x,k,e,hk,hc=>by
   rw[map_cons,lookup_cons] at e;have hr:∀y∈r,y.2≠ .cell:=λy hy=>hc y (yay _ hy);have hn:(if (k0==NameKind.free&&env.scope.kind== .function&&env.kindOf n==some .cell)=true then (n,NameKind.cell) else (n,k0)).1=n:=by split<;> rfl
   rw[hn] at e;cases hx:x==n with
   | false=>rw[hx] at e;exact yay _ (dH e hk hr)
   | true=>
     rw[hx] at e;have hxn:x=n:=by simpa using hx
     subst hxn;have e':(if (k0==NameKind.free&&env.scope.kind== .function&&env.kindOf x==some .cell)=true then (x,NameKind.cell) else (x,k0)).2=k:=Option.some.inj e
     by_cases hf:k0=.free
     ·subst hf;exact yaz
     ·rw[ybv (by simp[hf])] at e';have e'':k0=k:=e';subst e'';rcases hk with h | h
      ·exact absurd h (hc _ yaz)
      ·exact absurd h hf
theorem fW {env:Env}:∀{l:List (Str×NameKind)} {x:Str},(l.map λ(n,k)=>if (k==NameKind.free&&env.scope.kind== .function&&env.kindOf n==some .cell) then (n,NameKind.cell) else (n,k)).lookup x=some .local->l.lookup x=some .local
 | [],_,e=>by simp at e
 | (n,k0)::r,x,e=>by
   rw[map_cons,lookup_cons] at e;rw[lookup_cons];have hn:(if (k0==NameKind.free&&env.scope.kind== .function&&env.kindOf n==some .cell)=true then (n,NameKind.cell) else (n,k0)).1=n:=by split<;> rfl
   rw[hn] at e;cases hx:x==n with
   | false=>rw[hx] at e;exact fW e
   | true=>
     rw[hx] at e;have e':(if (k0==NameKind.free&&env.scope.kind== .function&&env.kindOf n==some .cell)=true then (n,NameKind.cell) else (n,k0)).2=NameKind.local:=Option.some.inj e;split at e'
     ·cases e'
     ·exact congrArg some e'
noncomputable def gQ (X:Cx) (N:List Str) (scope:Scope) (C:Addr) (fp:List Addr) (s₀:Shared) (H₀:Hp):Cx where
 prog:=X.prog
 w:=X.w
 K:=X.K
 mg:=X.mg
 base:=X.base
 A:=X.A
 N:=N
 s₀:=s₀
 H₀:=H₀
 env:=compEnvC scope (g9 X.env scope.names []) C X.env
 outer:=X.stack
 stack:=X.stack
 ex:=fp
 fn:=λ_=>false
 calm:=X.calm
 pn:=[]
 xe:=nox
structure eQ (X:Cx) (scope:Scope) (N:List Str) (fv:List (Option Nat)):Prop where
 kind:scope.kind=.function
 nocell:∀y∈scope.names,y.2≠ .cell
 names:∀x∈scope.names,x.2=.local->scope.names.lookup x.1=some .local
 free:∀y∈scope.names,y.2=.free->X.env.scope.names.lookup y.1=some .cell
 fvs:∀(i j:Nat) (x:Str),N[i]?=some x->fv[i]?=some (some j)->X.N[j]?=some x/\X.env.scope.names.lookup x=some .cell/\(x,NameKind.free)∈scope.names
 len:fv.length=N.length
 fvl:∀{x:Str},(x,NameKind.free)∈scope.names->scope.names.lookup x≠some .local
noncomputable def pick {α:Type} (fv:List (Option Nat)) (σ:List (Option α)):List (Option α):=fv.map λo=>o.bind λj=>(σ[j]?).join
theorem ny {α:Type} {fv:List (Option Nat)} {σ:List (Option α)} {v:α} (h:(pick fv σ)[i]?=some (some v)):∃j,fv[i]?=some (some j)/\σ[j]?=some (some v):=by
 unfold pick at h;rw[List.getElem?_map] at h;cases e:fv[i]? with
 | none=>rw[e] at h;cases h
 | some o=>
   rw[e] at h;cases o with
   | none=>cases h
   | some j=>
     have h':(σ[j]?).join=some v:=Option.some.inj h;refine⟨j,rfl,?_⟩;cases e2:σ[j]? with
     | none=>rw[e2] at h';cases h'
     | some o=>rw[e2] at h';exact congrArg some h'
theorem ug {H:Hp} {τ:cO} {σ:St} {fv:List (Option Nat)} (h:bu K H τ σ):bu K H (pick fv τ) (pick fv σ):=by
 refine⟨by simp[pick],λi w e=>?_⟩;obtain⟨j,ej,ew⟩:=ny e;obtain⟨v,ev,r⟩:=h.2 j w ew;refine⟨v,?_,r⟩;unfold pick;rw[List.getElem?_map,ej];show some ((σ[j]?).join)=_;rw[ev]
 rfl
section
variable {X:Cx} {π:List (Addr×Obj)} {σ:St} {H H2:Hp} {s s2:Shared} {scope:Scope} {N:List Str} {fv:List (Option Nat)} {fp:List Addr} {C D:Addr}
theorem eQ.cells (S:eQ X scope N fv) (I:aB X π σ H s):∀y∈scope.names,y.2=.free->∃c,X.env.cells.lookup y.1=some c:=λy hy hk=>I.ok.has y.1 (.inl (S.free y hy hk))
theorem se {h4:Heap} {t4:Nat} {m:ydv} (I:aB X π σ H2 s2) (S:eQ X scope N fv) (hf:∀b∈fp,jj X π H2 b) (hfo:∀b∈fp,b<s2.heap.objs.size) (keep:∀b o,s2.heap.get? b=some o->h4.get? b=some o)
 (hC:s2.heap.objs.size<=C) (ns:h4.Ns C m):aB (gQ X N scope C fp s2 H2) [] (pick fv σ) H2 { s2 with heap:=h4,toks:=t4 }:=by
 have look:∀x c,(g9 X.env scope.names []).lookup x=some c->X.env.cells.lookup x=some c:=dW (S.cells I) (λx c e=>by simp at e);refine⟨⟨I.ok.mod,S.kind,I.ok.glob,I.ok.blt,hC,λx y c e1 e2=>I.ok.inj x y c (look x c e1) (look y c e2),λx hx=>?_,λx c h=>absurd (show false=true from h) ycy,I.ok.hd,I.ok.frames,.inl rfl,λb hb=>?_,I.bs,ybz I.ok.bsz I.sz,λb o e hb=>?_,λb hb hx=>?_,I.stack,I.stkFree⟩,
  rfl,I.bare,Un.kept keep,⟨m,ns,λi x v e1 e2 e3=>?_⟩,λx c e=>?_,I.hok.fresh hC,λx c e=>I.freeC x c (look x c e),λp hp=>absurd (show p∈([]:List (Addr×Obj)) from hp) (by simp),I.hok.kept keep,?_⟩
 ·rcases hx with hx | hx
  ·exact ft (.inl (dH hx (.inl rfl) S.nocell))
  ·exact ft (.inl (dH hx (.inr rfl) S.nocell))
 ·exact⟨ne_of_lt (ycv (hfo b hb) hC),λx c e=>(hf b hb).2.2.2.2.1 x c (look x c e)⟩
 ·rcases(hf b hb).2.2.2.1 with z | z
  ·exact I.ok.noex b o e z
  ·exact absurd (ycv (ybx e) (ybz I.ok.bsz z)) (lt_irrefl _)
 ·rcases mem_cons.mp (I.stkSub b hx) with z | z
  ·exact(hf b hb).2.1 z
  ·exact(hf b hb).2.2.1 z
 ·obtain⟨j,ej,ev⟩:=ny e2;obtain⟨h1,h2,h3⟩:=S.fvs i j x e1 ej;obtain⟨m0,_,hl⟩:=I.loc;obtain⟨u,r,l⟩:=hl j x v h1 ev (.inr (.inl h2));refine⟨u,r,.inr ?_⟩;rcases l with⟨k,_⟩ | ⟨_,c,ec,o,ho,hd⟩
  ·exact absurd (h2.symm.trans k) (by intro z;cases z)
  ·obtain⟨c',ec'⟩:=ft (env:=X.env) (l:=scope.names) (cs:=[]) (x:=x) (.inl h3);have e':=look x c' ec';rw[ec] at e';cases e';refine⟨?_,c,ec',o,keep _ _ ho,hd⟩;rcases e3 with e3 | e3 | e3
   ·exact absurd (fW e3) λz=>S.fvl h3 z
   ·exact .inl e3
   ·exact .inr e3
 ·obtain⟨v,o,ho,hd⟩:=I.cell x c (look x c e);exact⟨v,o,keep _ _ ho,hd⟩
 ·show(pick fv σ).length=N.length;unfold pick;rw[length_map,S.len]
end
noncomputable def cq (C:Gp->Prop) (g:WG) (tt:WT) (te:WE):List W->cO->Gp->List W->(List W->Gp->Prop)->Prop
 | [],_,G,acc,q=>C G/\q acc G
 | w::ws,τ,G,acc,q=>C G/\g w τ G λτ2 G2=>tt τ2 G2 λb G3=>if b=true then te τ2 G3 λv G4=>acc.length+1<=100000/\cq C g tt te ws τ2 G4 (acc++[v]) q else cq C g tt te ws τ2 G3 acc q
noncomputable def zA (X:Cx) (ifs:List Expr) (t:WT):Prop:=
 ∀(π:List (Addr×Obj)) (s:Shared) (σ:St) (H:Hp) (Q:Bool->Hp->Prop),aB X π σ H s->AI X.K t σ H Q->wpAny (model X.prog X.w) X.A (zz ifs X.env) (TP X π σ Q) X.xe s
noncomputable def kS:WT:=λ_ G q=>q true G
theorem du {X:Cx}:zA X [] kS:=λπ s σ H Q I ⟨τ,G,q,hs,hg,ht,hQ⟩=>wpAny_tests_nil ⟨H,I,hQ true H G (aM.refl H) hg ht⟩
theorem xw {X:Cx} {c:Expr} {t:WT} (h:QT X c t):zA X [c] t:=λπ s σ H Q I hw=>wpAny_tests_one (h π s σ H Q I hw)
theorem aI.track {H:Hp} {G:Gp} {p:Addr} {xs:List V} {ws:List W} (h:aI K H G) (e:H p=some (.lst xs)) (r:aQ K H ws xs) (hl:ws.length<=100000):aI K H (aF G p (.lst ws)):=λa g ea=>by
 by_cases hb:a=p
 ·subst hb;rw[af] at ea;cases ea;exact⟨hl,xs,e,r⟩
 ·rw[ao hb] at ea;exact h a g ea
section
variable {X:Cx} {π:List (Addr×Obj)} {σ:St} {H2:Hp} {s2:Shared} {scope:Scope} {N:List Str} {fv:List (Option Nat)} {fp:List Addr} {tg elt iter:Expr} {ifs:List Expr} {pos:Pos} {J:It} {it:Addr} {tn:Nat->Heap->Prop}
 {g:WG} {tt:WT} {te:WE} {ws:List W} {Cd:Gp->Prop} {τ:cO} {G:Gp} {q:List W->Gp->Prop}
structure xx (X:Cx) (π:List (Addr×Obj)) (σ:St) (H2:Hp) (s2:Shared) (G:Gp) (q:List W->Gp->Prop) (D C:Addr) (s':Shared):Prop where
 ex:∃(Hf:Hp) (Gf:Gp) (rs:List W),(∃m,s'.heap.Ns C m)/\aB X π σ Hf s'/\Hf C=none/\s2.heap.objs.size<=C/\aM H2 Hf/\aI X.K Hf (aF Gf D (.lst rs))/\G D=none/\Gf D=none/\q rs Gf
structure Db (Y:Cx) (fp:List Addr) (tn:Nat->Heap->Prop) (ws:List W) (H2:Hp) (D:Addr) (R:List W->cO->Gp->List W->Prop) (n:Nat) (s:Shared) (i:Nat) (σ1:St) (H1:Hp) (τ1:cO) (G1:Gp) (acc:List W) (vs:List V) (its:ydw):Prop where
 hn:n=ws.length-i
 hi:i<=ws.length
 inv:aB Y [] σ1 H1 s
 st:tn i s.heap
 fr:∀b∈fp,H1 b=none
 hd:H1 D=none
 pl:s.heap.PlainList D its.toArray
 rv:aU vs its
 ra:aQ Y.K H1 acc vs
 tl:aM H2 H1
 rs:bu Y.K H1 τ1 σ1
 rg:aI Y.K H1 G1
 cw:R (ws.drop i) τ1 G1 acc
 hl:acc.length<=100000
theorem eR (I:aB X π σ H2 s2) (S:eQ X scope N fv) (hc:X.calm=true) (T:kt X.prog X.w X.K tg J fp it tn) (st:tn 0 s2.heap) (hf:∀b∈fp,jj X π H2 b)
 (hg:∀C,QG (gQ X N scope C fp s2 H2) tg g) (htt:∀C,zA (gQ X N scope C fp s2 H2) ifs tt) (hte:∀C,QE (gQ X N scope C fp s2 H2) elt te)
 (itn:px X.K J ws Cd H2) (hs:bu X.K H2 τ σ) (gr:aI X.K H2 G) (hw:cq Cd g tt te ws (pick fv τ) G [] q) {RR:Value->Addr->Result->Shared->Prop} {E:ydz}
 (hRR:∀D C s',xx X π σ H2 s2 G q D C s'->RR (.ref D) C (.ok .next) s'):
 wpAny (model X.prog X.w) X.A (newList []) (λacc s3=>wpAny (model X.prog X.w) X.A (newFunctionEnv scope X.env.globals (g9 X.env scope.names []) [] X.env.qual none .none (some X.env)) (λcenv s4=>
  codeAny (model X.prog X.w) X.A (.compStart (.ListComp elt [⟨tg,iter,ifs,0⟩] scope pos) 0 (.ref it) acc { cenv with scope:=relabel scope X.env }) (RR acc cenv.locals) s4) E s3) E s2:=by
 have hfo:∀b∈fp,b<s2.heap.objs.size:=λb hb=>let ⟨o,e,_⟩:=T.obj _ _ st b hb;ybx e;refine wpAny_newObj_type (wpAny_newFunctionEnv S.nocell (by intro y hy;simp at hy) (λh1 hns1 hsb1=>?_) S.kind);dsimp only at hns1 hsb1 ⊢;generalize hP:s2.heap.push { cls:= .type "list",dict:=none,data:= .seq ([]:ydw).toArray }=P at hns1 hsb1 ⊢;generalize hD:s2.heap.objs.size=D at*;have hC:P.objs.size=D+1:=by rw[←hP,Heap.size_push,hD]
 generalize hCC:P.objs.size=C at*;have hDC:D≠C:=by rw[hC];exact ne_of_lt (Nat.lt_succ_self _)
 have hDleC:D<=C:=by rw[hC];exact le_succ _
 have old:∀b o,s2.heap.get? b=some o->h1.get? b=some o:=λb o e=>hsb1.extBut b o (ne_of_lt (ycv (ybx e) (by rw[hD];exact hDleC))) (yaw _ (hP▸yaw _ e));have hacc:h1.PlainList D #[]:=⟨0,hsb1.extBut _ _ hDC (yaw _ (by rw[←hP,←hD];exact yav _ rfl))⟩;have look:∀x c,(g9 X.env scope.names []).lookup x=some c->X.env.cells.lookup x=some c:=dW (S.cells I) (λx c e=>by simp at e);have cD:∀x c,(g9 X.env scope.names []).lookup x=some c->c≠D:=λx c e z=>by
  obtain⟨v,o,ho,_⟩:=I.cell x c (look x c e);exact absurd (ybx ho) (by rw[z,hD];exact lt_irrefl _)
 have sD:D∉eJ X.stack:=λhb=>by
  rcases mem_cons.mp (I.stkSub D hb) with z | z
  ·exact absurd I.lt (by rw[←z,hD];exact lt_irrefl _)
  ·exact I.nofs (by rw[hD];exact yby _) z
 have fD:D∉fp:=λhb=>absurd (hfo D hb) (lt_irrefl _);have fpX:∀{H1:Hp} {ps:List (Addr×Obj)},(∀b∈fp,H1 b=none)->(∀p∈ps,p.1∉fp)->∀b∈fp,jj (gQ X N scope C fp s2 H2) ps H1 b:=λ{H1 ps} hn hp b hb=>by
  refine⟨hn b hb,ne_of_lt (ycv (hfo b hb) hDleC),λhx=>?_,.inl hb,λx c e=>(hf b hb).2.2.2.2.1 x c (look x c e),λp hp' z=>hp p hp' (z▸hb)⟩;rcases mem_cons.mp (I.stkSub b hx) with z | z
  ·exact(hf b hb).2.1 z
  ·exact(hf b hb).2.2.1 z
 have J0:aB (gQ X N scope C fp s2 H2) [] (pick fv σ) H2 { s2 with heap:=h1,toks:=s2.toks+([]:List (Str×Value)).length }:=se I S hf (by rw[hD];exact hfo) old (by rw[hD];exact hDleC) hns1;have loop:codeAny (model X.prog X.w) X.A (.compLoop (.ListComp elt [⟨tg,iter,ifs,0⟩] scope pos) 0 (.ref it) (.ref D) (gQ X N scope C fp s2 H2).env) (RR (.ref D) C) { s2 with heap:=h1,toks:=s2.toks+([]:List (Str×Value)).length }:=by
  refine sd (λn s=>∃i σ1 H1 τ1 G1 acc vs its,Db (gQ X N scope C fp s2 H2) fp tn ws H2 D (λl τ1 G1 acc=>cq Cd g tt te l τ1 G1 acc q) n s i σ1 H1 τ1 G1 acc vs its) ?_ ws.length
   ⟨0,_,H2,_,G,[],[],[],by simp,zero_le _,J0,T.keep _ _ _ st λb _ o e=>old b o e,λb hb=>(hf b hb).1,I.hok.fresh (by rw[hD];exact yby _),hacc,.nil,.nil,aM.refl _,ug hs,gr,by simpa using hw,by simp⟩
  rintro n s ⟨i,σ1,H1,τ1,G1,acc,vs,its,rfl,hi,J1,st1,fr1,d1,pl1,rv1,ra1,t1,s1,g1,q1,hl1⟩;obtain⟨kk,eD⟩:=pl1;have J1p:aB (gQ X N scope C fp s2 H2) [(D,{ cls:= .type "list",data:= .seq its.toArray kk })] σ1 H1 s:=J1.pins_of λp hp=>by
   have e:=mem_singleton.mp hp;subst e;exact⟨eD,d1,hDC,sD,λv z=>by cases z⟩
  have pnf:∀p∈[((D,{ cls:= .type "list",data:= .seq its.toArray kk }):Addr×Obj)],p.1∉fp:=λp hp=>by
   have e:=mem_singleton.mp hp;subst e;exact fD
  by_cases hlt:i<ws.length
  ·have ed:ws.drop i=ws[i]::ws.drop (i+1):=drop_eq_getElem_cons hlt;rw[ed] at q1;obtain⟨c1,q1⟩:=q1;obtain⟨go,yl⟩:=itn.go i ws[i] H1 G1 t1 g1 c1 (ybw hlt);refine bR (T.item (gQ X N scope C fp s2 H2) rfl rfl rfl hc i _ s σ1 H1 nox J1p (fpX fr1 pnf) st1 go) λr s4 z9=>?_;obtain⟨u,hr,h4⟩:=z9;subst hr;refine bR h4 λ_ s5 z9=>?_;obtain⟨x,H5,I5,r5,y5,st5,fr5⟩:=z9;obtain⟨tx,rx,gx⟩:=yl x H5 y5;have I5':=I5.pinned (fpX fr5 pnf) (T.obj _ _ st5);refine bR (hg C _ s5 σ1 H5 x u (λσ6 H6=>∃τ6 G6,aM H5 H6/\bu X.K H6 τ6 σ6/\aI X.K H6 G6/\tt τ6 G6 λb G3=>if b=true then te τ6 G3 λv G4=>acc.length+1<=100000/\cq Cd g tt te (ws.drop (i+1)) τ6 G4 (acc++[v]) q else cq Cd g tt te (ws.drop (i+1)) τ6 G3 acc q) I5' r5
    ⟨ws[i],τ1,G1,_,rx,s1.mono tx,gx,q1,λσ6 H6 τ6 G6 t6 s6 g6 q6=>⟨τ6,G6,t6,s6,g6,q6⟩⟩) λ_ s6 ⟨σ6,H6,I6,τ6,G6,t6,rs6,g6,q6⟩=>?_
   refine bR (htt C _ s6 σ6 H6 (λb H7=>∃G7,aM H6 H7/\aI X.K H7 G7/\(if b=true then te τ6 G7 λv G4=>acc.length+1<=100000/\cq Cd g tt te (ws.drop (i+1)) τ6 G4 (acc++[v]) q else cq Cd g tt te (ws.drop (i+1)) τ6 G7 acc q)) I6
    ⟨τ6,G6,_,rs6,g6,q6,λb H7 G7 t7 g7 q7=>⟨G7,t7,g7,q7⟩⟩) λok s7 ⟨H7,I7,G7,t7,g7,q7⟩=>?_
   have t17:aM H1 H7:=(tx.trans t6).trans t7
   -- what the π keep up to a later state
   have keepFp:∀{σ8:St} {H8:Hp} {s8:Shared},aB (gQ X N scope C fp s2 H2) ([(D,{ cls:= .type "list",data:= .seq its.toArray kk })]++jB fp s5.heap) σ8 H8 s8->tn (i+1) s8.heap/\(∀b∈fp,H8 b=none)/\H8 D=none/\s8.heap.get? D=some { cls:= .type "list",data:= .seq its.toArray kk }/\∀b∈fp,∃o,s8.heap.get? b=some o:=λ{σ8 H8 s8} I8=>by
    refine⟨T.keep _ _ _ st5 λb hb o e=>(I8.pin (b,o) (ydy _ (ydy _ (dD hb e)))).1,λb hb=>?_,(I8.pin (D,_) (ydy _ (mem_append_left _ yaz))).2.1,(I8.pin (D,_) (ydy _ (mem_append_left _ yaz))).1,λb hb=>?_⟩
    ·obtain⟨o,e,_⟩:=T.obj _ _ st5 b hb;exact(I8.pin (b,o) (ydy _ (ydy _ (dD hb e)))).2.1
    ·obtain⟨o,e,_⟩:=T.obj _ _ st5 b hb;exact⟨o,(I8.pin (b,o) (ydy _ (ydy _ (dD hb e)))).1⟩
   cases ok with
   | false=>
     rw[ybv ycy] at q7 ⊢;obtain⟨k1,k2,k3,k4,_⟩:=keepFp I7;exact⟨ws.length- (i+1),by lia,i+1,σ6,H7,τ6,G7,acc,vs,its,rfl,hlt,I7.pins_of λp hp=>absurd hp (by simp),k1,k2,k3,⟨kk,k4⟩,rv1,ra1.mono t17,t1.trans t17,rs6.mono t7,g7,q7,hl1⟩
   | true=>
     rw[ycx rfl] at q7 ⊢;refine bR (hte C _ s7 σ6 H7 (λv H8=>∃w8 G8,aM H7 H8/\bK X.K H8 w8 v/\aI X.K H8 G8/\acc.length+1<=100000/\cq Cd g tt te (ws.drop (i+1)) τ6 G8 (acc++[w8]) q) I7
      ⟨τ6,G7,_,rs6.mono t7,g7,q7,λv H8 w8 G8 t8 r8 g8 q8=>⟨w8,G8,t8,r8,g8,q8⟩⟩) λu8 s8 ⟨v8,H8,I8,rv8,w8,G8,t8,r8,g8,hl8,q8⟩=>?_
     obtain⟨k1,k2,k3,k4,k5⟩:=keepFp I8;have t18:aM H1 H8:=t17.trans t8;refine wpAny_list_append_plain ⟨kk,k4⟩ (λh9 pl9 sb9=>?_) (by rw[size_toArray,←rv1.length,←ra1.length];exact bN hl1);have I9:aB (gQ X N scope C fp s2 H2) [] σ6 H8 { s8 with heap:=h9 }:=(I8.pins_of (pins':=[]) λp hp=>absurd hp (by simp)).turned (t':=s8.toks) (λb o hb e=>(sb9.2 b hb).trans e) k3 hDC (.inr (by show s2.heap.objs.size<=D;rw[hD];exact yby _)) (λx c e=>cD x c e) λp hp=>absurd (show p∈([]:List (Addr×Obj)) from hp) (by simp);refine⟨ws.length- (i+1),by lia,i+1,σ6,H8,τ6,G8,acc++[w8],vs++[v8],its++[u8],rfl,hlt,I9,T.keep _ _ _ k1 λb hb o e=>(sb9.2 b (λz=>fD (z▸hb))).trans e,k2,k3,by simpa using pl9,rv1.append (.cons rv8 .nil),(ra1.mono t18).append (.cons r8 .nil),t1.trans t18,(rs6.mono t7).mono t8,g8,q8,by rw[length_append];exact hl8⟩
  ·have e:i=ws.length:=by lia
   subst e;rw[List.drop_length] at q1;refine bR (T.done (gQ X N scope C fp s2 H2) rfl rfl rfl hc _ _ s σ1 H1 nox J1p (fpX fr1 pnf) st1 (itn.stop _ H1 G1 t1 g1 q1.1 (yby _))) λr s4 z9=>?_;obtain⟨hr,I4⟩:=z9;subst hr;have eD4:=(I4.pin (D,_) (ydy _ yaz)).1;have zl:vs.length<=sizeLine:=by rw[←ra1.length];exact bN hl1
   have hb2:∀b o,s2.heap.get? b=some o->b≠D:=λb o e=>by
    have:=ybx e;rw[hD] at this;exact ne_of_lt this
   refine hRR D C s4 ⟨upd H1 D (.lst vs),G1,acc,let ⟨m,hn,_⟩:=I4.loc;⟨m,hn⟩,?_,?_,by rw[hD];exact hDleC,t1.trans (aM.new d1 _),?_,gr.fresh (I.hok.fresh (by rw[hD];exact yby _)),g1.fresh d1,q1.2⟩
   ·refine I.call' (ch:=fp) I4.os ⟨λb o e n hb hx=>I4.base.keep b o e n hb hx,λb o e n hb hx=>I4.base.slot b o e n hb hx,λb o e n hx=>?_,λb o e hx=>I4.base.there b o e hx,λb xs e=>?_,λb o u e=>?_,λb ps e=>?_⟩ ?_ I4.bare λb hb=>⟨(hf b hb).2.2.2.1,(hf b hb).2.1,λx c e=>(hf b hb).2.2.2.2.1 x c e,λp hp=>(hf b hb).2.2.2.2.2 p hp⟩
    ·rw[aG (hb2 b o e)];exact I4.base.free b o e n hx
    ·rw[aG (bf (I4.base.tups b xs e) d1)];exact I4.base.tups b xs e
    ·rw[aG (bf (I4.base.frzs b o u e) d1)];exact I4.base.frzs b o u e
    ·obtain⟨more,e'⟩:=I4.base.tbls b ps e;exact⟨more,by rw[aG (bf e' d1)];exact e'⟩
    ·intro b u e
     by_cases hbD:b=D
     ·subst hbD;rw[aX] at e;cases e;exact⟨zl,its,kk,rv1,eD4⟩
     ·rw[aG hbD] at e;exact(I4.hok b u e).stay (λc v _ q=>q) (λc q=>by rw[aG (bf q d1)];exact q) λc xs q=>by rw[aG (bf q d1)];exact q
   ·rw[aG (Ne.symm hDC)];exact I4.free
   ·exact(g1.upd (aM.new d1 _) (g1.fresh d1)).track aX (ra1.mono (aM.new d1 _)) hl1
 exact codeAny_compStart_list loop (T.self _ 0 _ _ _ (T.keep _ _ _ st λb _ o e=>old b o e) loop)
noncomputable def uh (wi:WI) (fv:List (Option Nat)) (g:WG) (tt:WT) (te:WE):WE:=λτ G q=>wi τ G λws Cd G1=>cq Cd g tt te ws (pick fv τ) G1 [] λrs G2=>∀p,G1 p=none->q (.ref p) (aF G2 p (.lst rs))
theorem fK {wi:WI} (S:eQ X scope N fv) (hc:X.calm=true) (hi:QI X tg iter wi) (hg:∀C fp s2 H2,QG (gQ X N scope C fp s2 H2) tg g) (htt:∀C fp s2 H2,zA (gQ X N scope C fp s2 H2) ifs tt) (hte:∀C fp s2 H2,QE (gQ X N scope C fp s2 H2) elt te)
 (hs:∀x,foldedSetIterable iter X.env x=pure x:=by intro _;rfl):QE X (.ListComp elt [⟨tg,iter,ifs,0⟩] scope pos) (uh wi fv g tt te):=by
 rintro π s σ H Q I ⟨τ,G,q,hτ,hG,ht,hQ⟩;rw[eval_ListComp];refine wpAny_comprehension_free (use:=none) rfl hs (eP (S.cells I)) S.kind S.names (bR (hi π s σ H (λJ H1=>∃ws Cd G1,aM H H1/\aI X.K H1 G1/\px X.K J ws Cd H1/\cq Cd g tt te ws (pick fv τ) G1 [] λrs G2=>∀p,G1 p=none->q (.ref p) (aF G2 p (.lst rs))) I
  ⟨τ,G,_,hτ,hG,ht,λJ H1 ws C G1 t1 g1 it r1=>⟨ws,C,G1,t1,g1,it,r1⟩⟩) λv s1 h1=>bR h1 λitv s2 h2=>?_)
 obtain⟨it,fp,tn,J,H2,e,I2,T,st2,f2,ws,Cd,G1,t1,g1,itn,hw⟩:=h2;subst e;refine eR (RR:=λacc C=>compPost (model X.prog X.w) X.A X.xe none (EP X π σ Q) acc C) I2 S hc T st2 f2 (λC=>hg C fp s2 H2) (λC=>htt C fp s2 H2) (λC=>hte C fp s2 H2) itn (hτ.mono t1) g1 hw λD C s' z9=>?_;obtain⟨Hf,Gf,rs,⟨m,hn⟩,I5,hC,hCs,t5,g5,hD,hD2,q5⟩:=z9;refine⟨m,hn,λh' sb=>?_⟩;have hlt:C≠X.env.locals:=λz=>absurd I2.lt (not_lt.mpr (z▸hCs));have I6:aB X π σ Hf { s' with heap:=h' }:=I5.turned (t':=s'.toks) (λb o hb e=>(sb.2 b hb).trans e) hC hlt (.inr (ybz I2.sz hCs)) (λx c e z=>by
  obtain⟨v,o,ho,_⟩:=I2.cell x c e;exact absurd (ybx ho) (not_lt.mpr (z▸hCs))) λp hp z=>absurd (ybx (I2.pin p hp).1) (not_lt.mpr (z▸hCs))
 exact⟨.ref D,Hf,I6,rfl,hQ _ Hf _ _ (t1.trans t5) (.ref D) g5 (q5 D hD)⟩
theorem xy (i:Nat) {y:Str} {py spos:Pos} {wi:WI} (S:eQ X scope N fv) (hc:X.calm=true) (hN:X.N.Nodup) (hiN:X.N[i]?=some y) (hy:wA X.env.scope y) (hi:QI X tg iter wi) (hg:∀C fp s2 H2,QG (gQ X N scope C fp s2 H2) tg g) (htt:∀C fp s2 H2,zA (gQ X N scope C fp s2 H2) ifs tt) (hte:∀C fp s2 H2,QE (gQ X N scope C fp s2 H2) elt te)
 (hsw:swapsWith (.ListComp elt [⟨tg,iter,ifs,0⟩] scope pos) (some (.Name y py)) spos.line X.env=pure true:=by rfl) (hs:∀x,foldedSetIterable iter X.env x=pure x:=by intro _;rfl) (hfn:X.fn y=true∨X.env.scope.names.lookup y=some .local:=by first | exact .inl rfl | exact .inr rfl | assumption):
 QS X (.Assign [.Name y py] (.ListComp elt [⟨tg,iter,ifs,0⟩] scope pos) spos) (xi (uh wi fv g tt te) (cP i)):=by
 rintro π s σ H D0 I ⟨τ,G,d,hτ,hG,ht,l⟩;rw[exec_Assign_Name_used _ _ _ _ hsw];refine wax (wpAny_standAt (wax ?_));show wpAny _ _ (do let _ ←comprehension (.ListComp elt [⟨tg,iter,ifs,0⟩] scope pos) scope X.env _ (newList []) false (eval iter X.env) (some (assign (.Name y py) X.env))) _ _ s;refine wax (wpAny_mono (wpAny_comprehension_free (use:=some (assign (.Name y py) X.env)) (Q:=λ_ s'=>SP X π D0 .next s') rfl hs (eP (S.cells I)) S.kind S.names (bR (hi π s σ H (λJ H1=>∃ws Cd G1,aM H H1/\aI X.K H1 G1/\px X.K J ws Cd H1/\cq Cd g tt te ws (pick fv τ) G1 [] λrs G2=>∀p,G1 p=none->cP i (.ref p) τ (aF G2 p (.lst rs)) d.nx) I
  ⟨τ,G,_,hτ,hG,ht,λJ H1 ws C G1 t1 g1 it r1=>⟨ws,C,G1,t1,g1,it,r1⟩⟩) λv s1 h1=>bR h1 λitv s2 h2=>?_)) (λ_ s' hq=>way (way hq)) λ_ _ e=>e)
 obtain⟨it,fp,tn,J,H2,e,I2,T,st2,f2,ws,Cd,G1,t1,g1,itn,hw⟩:=h2;subst e;refine eR (RR:=λacc C=>compPost (model X.prog X.w) X.A X.xe (some (assign (.Name y py) X.env)) (λ_ s'=>SP X π D0 .next s') acc C) I2 S hc T st2 f2 (λC=>hg C fp s2 H2) (λC=>htt C fp s2 H2) (λC=>hte C fp s2 H2) itn (hτ.mono t1) g1 hw λD C s' z9=>?_;obtain⟨Hf,Gf,rs,⟨m,hn⟩,I5,hC,hCs,t5,g5,hD,hD2,q5⟩:=z9;have hlt:C≠X.env.locals:=λz=>absurd I2.lt (not_lt.mpr (z▸hCs));have hcell:∀x c,X.env.cells.lookup x=some c->c≠C:=λx c e z=>by
  obtain⟨v,o,ho,_⟩:=I2.cell x c e;exact absurd (ybx ho) (not_lt.mpr (z▸hCs))
 show wpAny _ _ (assign (.Name y py) X.env (.ref D)) _ _ s';refine wpAny_assign_Name (iw I5 hN hiN hy (v:= .ref D) rfl (λs6 I6 z9=>?_) hfn);obtain⟨a,sb6,ha⟩:=z9;have haC:C≠a:=by
  rcases ha with z | z
  ·rw[z];exact hlt
  ·exact Ne.symm (hcell y a z)
 refine⟨m,hn.sameBut sb6 haC,λh' sb=>?_⟩;have I7:aB X π (σ.set i (some (.ref D))) Hf { s6 with heap:=h' }:=I6.turned (t':=s6.toks) (λb o hb e=>(sb.2 b hb).trans e) hC hlt (.inr (ybz I2.sz hCs)) hcell λp hp z=>absurd (ybx (I2.pin p hp).1) (not_lt.mpr (z▸hCs));exact⟨_,Hf,I7,l.nx _ Hf _ _ (t1.trans t5) ((hτ.mono (t1.trans t5)).set (.ref D) i) g5 (q5 D hD)⟩
noncomputable def pz (wi:WI) (fv:List (Option Nat)) (g:WG) (tt:WT) (te:WE):WE:=λτ G q=>wi τ G λws Cd G1=>cq Cd g tt te ws (pick fv τ) G1 [] λrs G2=>∀p,G1 p=none->G2 p=none->q (.ref p) (aF G2 p (.lst rs))
theorem nz {wi:WI} (S:eQ X scope N fv) (hc:X.calm=true) (hi:QI X tg iter wi) (hg:∀C fp s2 H2,QG (gQ X N scope C fp s2 H2) tg g) (htt:∀C fp s2 H2,zA (gQ X N scope C fp s2 H2) ifs tt) (hte:∀C fp s2 H2,QE (gQ X N scope C fp s2 H2) elt te)
 (hs:∀x,foldedSetIterable iter X.env x=pure x:=by intro _;rfl):QE X (.ListComp elt [⟨tg,iter,ifs,0⟩] scope pos) (pz wi fv g tt te):=by
 rintro π s σ H Q I ⟨τ,G,q,hτ,hG,ht,hQ⟩;rw[eval_ListComp];refine wpAny_comprehension_free (use:=none) rfl hs (eP (S.cells I)) S.kind S.names (bR (hi π s σ H (λJ H1=>∃ws Cd G1,aM H H1/\aI X.K H1 G1/\px X.K J ws Cd H1/\cq Cd g tt te ws (pick fv τ) G1 [] λrs G2=>∀p,G1 p=none->G2 p=none->q (.ref p) (aF G2 p (.lst rs))) I
  ⟨τ,G,_,hτ,hG,ht,λJ H1 ws C G1 t1 g1 it r1=>⟨ws,C,G1,t1,g1,it,r1⟩⟩) λv s1 h1=>bR h1 λitv s2 h2=>?_)
 obtain⟨it,fp,tn,J,H2,e,I2,T,st2,f2,ws,Cd,G1,t1,g1,itn,hw⟩:=h2;subst e;refine eR (RR:=λacc C=>compPost (model X.prog X.w) X.A X.xe none (EP X π σ Q) acc C) I2 S hc T st2 f2 (λC=>hg C fp s2 H2) (λC=>htt C fp s2 H2) (λC=>hte C fp s2 H2) itn (hτ.mono t1) g1 hw λD C s' z9=>?_;obtain⟨Hf,Gf,rs,⟨m,hn⟩,I5,hC,hCs,t5,g5,hD,hD2,q5⟩:=z9;refine⟨m,hn,λh' sb=>?_⟩;have hlt:C≠X.env.locals:=λz=>absurd I2.lt (not_lt.mpr (z▸hCs));have I6:aB X π σ Hf { s' with heap:=h' }:=I5.turned (t':=s'.toks) (λb o hb e=>(sb.2 b hb).trans e) hC hlt (.inr (ybz I2.sz hCs)) (λx c e z=>by
  obtain⟨v,o,ho,_⟩:=I2.cell x c e;exact absurd (ybx ho) (not_lt.mpr (z▸hCs))) λp hp z=>absurd (ybx (I2.pin p hp).1) (not_lt.mpr (z▸hCs))
 exact⟨.ref D,Hf,I6,rfl,hQ _ Hf _ _ (t1.trans t5) (.ref D) g5 (q5 D hD hD2)⟩
theorem ui (i:Nat) {y:Str} {py spos:Pos} {wi:WI} (S:eQ X scope N fv) (hc:X.calm=true) (hN:X.N.Nodup) (hiN:X.N[i]?=some y) (hy:wA X.env.scope y) (hi:QI X tg iter wi) (hg:∀C fp s2 H2,QG (gQ X N scope C fp s2 H2) tg g) (htt:∀C fp s2 H2,zA (gQ X N scope C fp s2 H2) ifs tt) (hte:∀C fp s2 H2,QE (gQ X N scope C fp s2 H2) elt te)
 (hsw:swapsWith (.ListComp elt [⟨tg,iter,ifs,0⟩] scope pos) (some (.Name y py)) spos.line X.env=pure true:=by rfl) (hs:∀x,foldedSetIterable iter X.env x=pure x:=by intro _;rfl) (hfn:X.fn y=true∨X.env.scope.names.lookup y=some .local:=by first | exact .inl rfl | exact .inr rfl | assumption):
 QS X (.Assign [.Name y py] (.ListComp elt [⟨tg,iter,ifs,0⟩] scope pos) spos) (xi (pz wi fv g tt te) (cP i)):=by
 rintro π s σ H D0 I ⟨τ,G,d,hτ,hG,ht,l⟩;rw[exec_Assign_Name_used _ _ _ _ hsw];refine wax (wpAny_standAt (wax ?_));show wpAny _ _ (do let _ ←comprehension (.ListComp elt [⟨tg,iter,ifs,0⟩] scope pos) scope X.env _ (newList []) false (eval iter X.env) (some (assign (.Name y py) X.env))) _ _ s;refine wax (wpAny_mono (wpAny_comprehension_free (use:=some (assign (.Name y py) X.env)) (Q:=λ_ s'=>SP X π D0 .next s') rfl hs (eP (S.cells I)) S.kind S.names (bR (hi π s σ H (λJ H1=>∃ws Cd G1,aM H H1/\aI X.K H1 G1/\px X.K J ws Cd H1/\cq Cd g tt te ws (pick fv τ) G1 [] λrs G2=>∀p,G1 p=none->G2 p=none->cP i (.ref p) τ (aF G2 p (.lst rs)) d.nx) I
  ⟨τ,G,_,hτ,hG,ht,λJ H1 ws C G1 t1 g1 it r1=>⟨ws,C,G1,t1,g1,it,r1⟩⟩) λv s1 h1=>bR h1 λitv s2 h2=>?_)) (λ_ s' hq=>way (way hq)) λ_ _ e=>e)
 obtain⟨it,fp,tn,J,H2,e,I2,T,st2,f2,ws,Cd,G1,t1,g1,itn,hw⟩:=h2;subst e;refine eR (RR:=λacc C=>compPost (model X.prog X.w) X.A X.xe (some (assign (.Name y py) X.env)) (λ_ s'=>SP X π D0 .next s') acc C) I2 S hc T st2 f2 (λC=>hg C fp s2 H2) (λC=>htt C fp s2 H2) (λC=>hte C fp s2 H2) itn (hτ.mono t1) g1 hw λD C s' z9=>?_;obtain⟨Hf,Gf,rs,⟨m,hn⟩,I5,hC,hCs,t5,g5,hD,hD2,q5⟩:=z9;have hlt:C≠X.env.locals:=λz=>absurd I2.lt (not_lt.mpr (z▸hCs));have hcell:∀x c,X.env.cells.lookup x=some c->c≠C:=λx c e z=>by
  obtain⟨v,o,ho,_⟩:=I2.cell x c e;exact absurd (ybx ho) (not_lt.mpr (z▸hCs))
 show wpAny _ _ (assign (.Name y py) X.env (.ref D)) _ _ s';refine wpAny_assign_Name (iw I5 hN hiN hy (v:= .ref D) rfl (λs6 I6 z9=>?_) hfn);obtain⟨a,sb6,ha⟩:=z9;have haC:C≠a:=by
  rcases ha with z | z
  ·rw[z];exact hlt
  ·exact Ne.symm (hcell y a z)
 refine⟨m,hn.sameBut sb6 haC,λh' sb=>?_⟩;have I7:aB X π (σ.set i (some (.ref D))) Hf { s6 with heap:=h' }:=I6.turned (t':=s6.toks) (λb o hb e=>(sb.2 b hb).trans e) hC hlt (.inr (ybz I2.sz hCs)) hcell λp hp z=>absurd (ybx (I2.pin p hp).1) (not_lt.mpr (z▸hCs));exact⟨_,Hf,I7,l.nx _ Hf _ _ (t1.trans t5) ((hτ.mono (t1.trans t5)).set (.ref D) i) g5 (q5 D hD hD2)⟩
end
section
variable {P:Program} {w:World} {K:yax}
end
section
variable {X:Cx}
noncomputable def Dc (te:WE):WE:=λτ G q=>te τ G λx G1=>match x with | .int i=>q (.int (-i)) G1 | _=>False
theorem eS {a:Expr} {ta:WE} (ha:QE X a ta):QE X (.UnaryOp .USub a pos) (Dc ta):=
 (Cq As ha).imp λσ H Q z0=>z0.el λτ G q hs hg ht hQ=>⟨τ,G,_,hs,hg,ht,λv H1 w G1 t1 r1 g1 q1=>by
   split at q1
   ·cases r1;exact⟨_,rfl,hQ _ H1 _ G1 t1 (.int _) g1 q1⟩
   ·exact q1.elim⟩
noncomputable def Fx (P:Program) (w:World) (K:yax) (mg:ydv) (base:Heap) (x:Str) (ps:List Str) (k:Nat) (sp:bQ):Prop:=
 ∃(f:Addr) (fd:FuncData),ca P w K mg base k f fd ps sp/\mg x=some (.ref f)/\keepIn K (.ref f)=true/\bJ K fd ps []
theorem De {sp:bQ} {p pos:Pos} {t:WA} (F:Fx X.prog X.w X.K X.mg X.base x ps k sp) (hr:aw k X.A) (hg:Gl X x) (ha:QA X (e::es) t) (hdb:(x==("__debug__":Str))=false:=by decide)
 (he:starEach (e::es) X.env=(false,eval e X.env)::starEach es X.env:=by rfl) (hpl:(backTo pos (starEach es X.env)).any (·.1)=false:=by rfl):QE X (.Call (.Name x p) (e::es) [] pos) (gZ sp [] t):=by
 obtain⟨f,fd,h1,h2,h3,h4⟩:=F;exact xj h1 hr hg h2 h3 h4 ha hdb he hpl
theorem AT {sp:bQ} {p pos:Pos} (F:Fx X.prog X.w X.K X.mg X.base x ps k sp) (hr:aw k X.A) (hg:Gl X x) (hdb:(x==("__debug__":Str))=false:=by decide):QE X (.Call (.Name x p) [] [] pos) (gZ sp [] lU):=by
 obtain⟨f,fd,h1,h2,h3,h4⟩:=F;exact tW h1 hr hg h2 h3 h4 hdb
noncomputable def uj (scope:Scope):List Str:=scope.names.map (·.1)
noncomputable def pA (N:List Str) (scope:Scope):List (Option Nat):=scope.names.map λy=>if y.2== .free then N.findIdx? (·==y.1) else none
noncomputable def uk (outer scope:Scope):Bool:=
 scope.kind== .function&&scope.names.all (λy=>y.2 !=.cell)&&scope.names.all (λy=>y.2 !=.local||scope.names.lookup y.1==some .local)&&
  scope.names.all (λy=>y.2 !=.free||(outer.names.lookup y.1==some .cell&&scope.names.lookup y.1 !=some .local))
theorem d7 (h:uk X.env.scope scope=true):eQ X scope (uj scope) (pA X.N scope):=by
 unfold uk at h;simp only[Bool.and_eq_true,all_eq_true,Bool.or_eq_true,bne_iff_ne,beq_iff_eq,ne_eq] at h;obtain⟨⟨⟨h1,h2⟩,h3⟩,h4⟩:=h;refine⟨h1,h2,λx hx hk=>(h3 x hx).resolve_left λz=>z hk,λy hy hk=>((h4 y hy).resolve_left λz=>z hk).1,λi j x e1 e2=>?_,by simp[uj,pA],λ{x} hx=>((h4 _ hx).resolve_left λz=>z rfl).2⟩;unfold uj at e1;unfold pA at e2;rw[List.getElem?_map] at e1 e2;cases e:scope.names[i]? with
 | none=>rw[e] at e1;cases e1
 | some y=>
   rw[e] at e1 e2;have e1':y.1=x:=Option.some.inj e1;have e2':(if (y.2==NameKind.free)=true then X.N.findIdx? (·==y.1) else none)=some j:=Option.some.inj e2;have hm:y∈scope.names:=List.mem_of_getElem? e;split at e2'
   ·rename_i hk;have hk':y.2=.free:=by simpa using hk
    have hy:y=(x,NameKind.free):=by rw[←e1',←hk']
    have:=List.findIdx?_eq_some_iff_getElem.mp e2';obtain⟨hj,hj2,_⟩:=this;refine⟨?_,?_,hy▸hm⟩
    ·rw[ybw hj];have:X.N[j]=y.1:=by simpa using hj2
     rw[this,e1']
    ·have:=((h4 y hm).resolve_left λz=>z hk').1;rw[e1'] at this;exact this
   ·cases e2'
theorem ci (i:Nat) {N:List Str} {C:Addr} {fp:List Addr} {s2:Shared} {H2:Hp} (hN:N.Nodup) (hi:N[i]?=some x) (hx:wA (gQ X N scope C fp s2 H2).env.scope x) (hf:(gQ X N scope C fp s2 H2).fn x=true∨(gQ X N scope C fp s2 H2).env.scope.names.lookup x=some .local:=by first | exact .inl rfl | exact .inr rfl):
 QG (gQ X N scope C fp s2 H2) (.Name x pos) (cP i):=bT (X:=gQ X N scope C fp s2 H2) i hN hi hx hf
theorem fL:bootBuiltins "tuple"=some (.type "tuple"):=by decide+kernel
theorem pB:bootBuiltins "list"=some (.type "list"):=by decide+kernel
theorem qz:bootBuiltins "max"=some (.builtin "max"):=by decide+kernel
theorem Dg:bootBuiltins "sum"=some (.builtin "sum"):=by decide+kernel
theorem aJ {R:WS->Prop} {t:WS} (h:nr X body t) (g:R t):∃t,nr X body t/\R t:=⟨t,h,g⟩
end
mutual
noncomputable def W.lt:W->W->Bool
 | .int i,.int j=>decide (i<j)
 | .tup xs,.tup ys=>W.lts xs ys
 | _,_=>false
noncomputable def W.lts:List W->List W->Bool
 | [],[]=>false
 | [],_::_=>true
 | _::_,[]=>false
 | x::xs,y::ys=>if W.eq x y=true then W.lts xs ys else W.lt x y
end
mutual
noncomputable def W.ord:W->W->Bool
 | .int _,.int _=>true
 | .tup xs,.tup ys=>W.ords xs ys
 | _,_=>false
noncomputable def W.ords:List W->List W->Bool
 | x::xs,y::ys=>if W.eq x y=true then W.ords xs ys else W.ord x y
 | _,_=>true
end
noncomputable def lW (A:Around) (s:Shared) (y x:Value) (b:Bool):Prop:=
 ∀(prog:Program) (w:World) (E:ydz) (Q:ydz),Q (.bool b) s->wpAny (model prog w) A (richCompare .Lt y x) Q E s
inductive gs (A:Around) (s:Shared):List Value->List Value->Bool->Prop where
 | nn:gs A s [] [] false
 | nc {y:Value} {ys:ydw}:gs A s [] (y::ys) true
 | cn {x:Value} {xs:ydw}:gs A s (x::xs) [] false
 | eq {x y:Value} {xs ys:ydw} {r:Bool} (h:SeqAt.EqAt A s x y true) (t:gs A s xs ys r):gs A s (x::xs) (y::ys) r
 | ne {x y:Value} {xs ys:ydw} {r:Bool} (h:SeqAt.EqAt A s x y false) (t:lW A s x y r):gs A s (x::xs) (y::ys) r
section
open PySem.SeqAt
open PySem.AutoSeq1 (wpAny_loadPart')
open PySem.MeetsSeq PySem.MeetsSeq2 PySem.MeetsSeq3
theorem jJ (l b:Addr) (items items2:Array Value) (n n2:Nat) (dd dd2:Option Addr) (sl sl2:Array (Option Value)) (r:Bool):
 Meets (Builtin.«tuple.__lt__» ⟨[.ref l,.ref b],[]⟩)
  (λA R s=>s.heap.get? l=some { cls:= .type "tuple",dict:=dd,data:= .seq items n,slots:=sl }/\s.heap.get? b=some { cls:= .type "tuple",dict:=dd2,data:= .seq items2 n2,slots:=sl2 }/\
    gs A.in1 s items.toList items2.toList r/\R (.ok (.ret (.bool r))) s):=
 .of_wp λprog w A R s h=>by
  obtain⟨hp,g,d,tk,os⟩:=s;obtain⟨hl,hb,hc,h⟩:=h;have f2:=AutoSeq1.sub_tuple_tuple
  wp_walk using wpAny_loadPart' hl,wpAny_loadPart' hb,wpAny_forIn_list _ (λbt b s'=>b.1=none/\s'=⟨hp,g,d,tk,os⟩/\∃(vs ws:ydw),bt=vs.zip ws/\
   gs A.in1 ⟨hp,g,d,tk,os⟩ vs ws r/\vs.length+items2.size=ws.length+items.size) _
  case turn=>
   rintro⟨y,x⟩ bt b s' ⟨hb',rfl,vs,ws,hz,hC,hlen⟩;cases hC with
   | nn=>rw[List.zip_nil_left] at hz;cases hz
   | nc=>rw[List.zip_nil_left] at hz;cases hz
   | cn=>rw[List.zip_nil_right] at hz;cases hz
   | eq he ht=>
     rw[zip_cons_cons] at hz;injection hz with hyx hrest
     injection hyx with hy hx
     subst hy hx;simp only[length_cons] at hlen;refine wax (he prog w _ _ ?_)
     wp_walk
     exact⟨rfl,rfl,_,_,hrest,ht,by lia⟩
   | ne he ht=>
     rw[zip_cons_cons] at hz;injection hz with hyx hrest
     injection hyx with hy hx
     subst hy hx;refine wax (he prog w _ _ ?_);have hri:=ht prog w
     wp_walk using hri
     exact⟨_,rfl,by simpa using h⟩
  case fin=>
   rintro⟨b1,b2⟩ s' ⟨hb',rfl,vs,ws,hz,hC,hlen⟩;simp only at hb';subst hb';have hv:r=decide (items.size<items2.size):=by
    cases hC with
    | nn=>simp only[length_nil] at hlen;exact(ycz (by lia)).symm
    | nc=>simp only[length_nil,length_cons] at hlen;exact(ycw (by lia)).symm
    | cn=>simp only[length_nil,length_cons] at hlen;exact(ycz (by lia)).symm
    | eq he ht=>rw[zip_cons_cons] at hz;cases hz
    | ne he ht=>rw[zip_cons_cons] at hz;cases hz
   rw[hv] at h
   wp_walk
   exact⟨_,rfl,by simpa[Builtin.Tuple.tupleCompareSizes] using h⟩
  case h=>
   exact⟨rfl,rfl,_,_,rfl,hc,by simp;lia⟩
end
theorem lW.tuples {l b:Addr} {items items2:Array Value} {r:Bool} (hl:s.heap.IsTuple l items) (hb:s.heap.IsTuple b items2) (hu:A.units<cLine)
 (hc:gs A.in1 s items.toList items2.toList r):lW A s (.ref l) (.ref b) r:=λprog w E Q h=>by
 obtain⟨⟨cls,dd,data,sl⟩,ho,hcl,n,hd⟩:=id hl;obtain⟨⟨cls2,dd2,data2,sl2⟩,ho2,hc2,n2,hd2⟩:=id hb;simp only at hcl hd hc2 hd2;subst hcl hd hc2 hd2;exact richCompare_meets_room (op:= .Lt) ⟨_,ho,rfl⟩ ⟨_,ho2,rfl⟩ PySem.F.slot_tuple_lt PySem.F.entry_tuple_lt (PySem.F.args_tuple_lt_2 _ _) (jJ l b items items2 n n2 dd dd2 sl sl2 r)
  ⟨ho,ho2,hc,show Value.bool r≠Value.notImplemented/\Q (.bool r) s from ⟨(λx=>nomatch x),h⟩⟩ hu
section
variable {X:Cx} {π:List (Addr×Obj)} {σ:St} {H:Hp} {s:Shared}
theorem qA (I:aB X π σ H s) (n:Nat) (A:Around)
 (ih:∀{w1 w2:W} {v1 v2:V} {u1 u2:Value},w1.dep<n->w1.flat=true->w2.flat=true->W.ord w1 w2=true->bK X.K H w1 v1->bK X.K H w2 v2->bc v1 u1->bc v2 u2->lW A s u1 u2 (w1.lt w2)) (hu:A.units+n<cLine):
 ∀{ws us:List W} {xs ys:List V} {its its2:ydw},W.deps ws<n->W.flats ws=true->W.flats us=true->W.ords ws us=true->aQ X.K H ws xs->aQ X.K H us ys->aU xs its->aU ys its2->gs A s its its2 (W.lts ws us):=by
 intro ws
 induction ws with
 | nil=>
   intro us xs ys its its2 hd f1 f2 ho r1 r2 q1 q2;cases r1;cases q1;cases r2 with
   | nil=>cases q2;simpa[W.lts] using gs.nn
   | cons _ _=>cases q2;simpa[W.lts] using gs.nc
 | cons x xs IH=>
   intro us vs1 vs2 its its2 hd f1 f2 ho r1 r2 q1 q2;cases r1 with
   | cons r1 s1=>
     cases q1 with
     | cons q1 t1=>
       cases r2 with
       | nil=>cases q2;simpa[W.lts] using gs.cn
       | @cons y ys _ _ r2 s2=>
         cases q2 with
         | cons q2 t2=>
           simp only[W.deps] at hd;simp only[W.flats,Bool.and_eq_true] at f1 f2;have e:=(iH I n A (w1:=x) (w2:=y) (by lia) f1.1 f2.1 hu r1 r2 q1 q2).1;rw[W.ords] at ho;rw[W.lts];cases he:W.eq x y with
           | true=>
             rw[he] at e ho;rw[ycx rfl] at ho ⊢;exact .eq e (IH (by lia) f1.2 f2.2 ho s1 s2 t1 t2)
           | false=>
             rw[he] at e ho;rw[ybv ycy] at ho ⊢;exact .ne e (ih (by lia) f1.1 f2.1 ho r1 r2 q1 q2)
theorem ul (I:aB X π σ H s):∀(n:Nat) (A:Around) {w1 w2:W} {v1 v2:V} {u1 u2:Value},w1.dep<n->w1.flat=true->w2.flat=true->W.ord w1 w2=true->A.units+n<cLine->bK X.K H w1 v1->bK X.K H w2 v2->bc v1 u1->bc v2 u2->
 lW A s u1 u2 (w1.lt w2):=by
 intro n
 induction n with
 | zero=>intro A w1 w2 v1 v2 u1 u2 h;lia
 | succ n ih=>
   intro A w1 w2 v1 v2 u1 u2 hd f1 f2 ho hu r1 r2 q1 q2;cases r1 with
   | ref a=>simp[W.flat] at f1
   | scr a=>simp[W.flat] at f1
   | non=>simp[W.ord] at ho
   | bl b=>simp[W.ord] at ho
   | str b=>simp[W.ord] at ho
   | int a=>
     cases r2 with
     | int b=>
       obtain⟨t,rfl⟩:=q1;obtain⟨t',rfl⟩:=q2;rw[W.lt];exact λprog w E Q h=>HT.rcLt_int A s a t b t' prog w E Q h
     | _=>simp[W.ord] at ho
   | @tup a ws xs h r=>
     cases r2 with
     | @tup b us ys h2 r2=>
       cases (show u1=Value.ref _ from q1);cases (show u2=Value.ref _ from q2);obtain⟨its,rv,p,_⟩:=aB.tupH I h;obtain⟨its2,rv2,p2,_⟩:=aB.tupH I h2;have g1:W.flats ws=true:=by simpa[W.flat] using f1
       have g2:W.flats us=true:=by simpa[W.flat] using f2
       have ho':W.ords ws us=true:=by simpa[W.ord] using ho
       have hd':W.deps ws<n:=by simp only[W.dep] at hd;lia
       have hui:A.in1.units+n<cLine:=by show A.units+1+n<cLine;lia
       rw[W.lt];exact lW.tuples p p2 (by lia) (qA I n A.in1 (λh1 h2 h3 h4=>ih A.in1 h1 h2 h3 h4 hui) hui hd' g1 g2 ho' r r2 rv rv2)
     | _=>simp[W.ord] at ho
end
section
variable {X:Cx}
noncomputable def xz:W2:=λx y G q=>match x,y with
 | .int i,.int j=>q (.bl (decide (i<j))) G
 | .tup xs,.tup ys=>W.flats xs=true/\W.flats ys=true/\W.deps xs<=149/\W.ords xs ys=true/\q (.bl (W.lts xs ys)) G
 | _,_=>False
theorem kT (hr:aw k X.A):iC X (compareOp .Lt) xz:=by
 rintro π s σ H x y v u Q I rx ry ⟨wx,wy,G,q,r1,r2,g,h,hQ⟩;unfold xz at h;split at h
 ·cases r1;cases r2;exact Cu π s σ H _ _ v u Q I rx ry ⟨_,_,rfl,rfl,hQ _ H _ G (aM.refl H) (.bl _) g h⟩
 ·rename_i xs ys;obtain⟨f1,f2,hd,ho,h⟩:=h;have z:=ul I 151 X.A (w1:= .tup xs) (w2:= .tup ys) (by simp only[W.dep];lia) (by simpa[W.flat] using f1) (by simpa[W.flat] using f2) (by simpa[W.ord] using ho) (by have:=hr.un;lia) r1 r2 rx ry;rw[W.lt] at z;exact z X.prog X.w X.xe _ ⟨.bl _,H,I,rfl,hQ _ H _ G (aM.refl H) (.bl _) g h⟩
 ·exact h.elim
end
section
variable {X:Cx}
end
section
variable {X:Cx} {π:List (Addr×Obj)} {σ:St} {H:Hp} {s:Shared}
theorem Ff (I:aB X π σ H s) {n:Nat} {ws us:List W} {xs ys:List V} {its its2:ydw} (hd:W.deps ws<n) (g1:W.flats ws=true) (g2:W.flats us=true) (hu:A.in1.units+n<cLine) (r:aQ X.K H ws xs) (r2:aQ X.K H us ys) (rv:aU xs its) (rv2:aU ys its2):
 ∀j (h1:j<its.toArray.size) (h2:j<its2.toArray.size),SeqAt.EqAt A.in1 s its.toArray[j] its2.toArray[j] (jH ws us j):=λj j1 j2=>by
 have e1:its.length=ws.length:=by rw[←rv.length,r.length]
 have e2:its2.length=us.length:=by rw[←rv2.length,r2.length]
 rw[size_toArray] at j1 j2;have ea:ws[j]?=some ws[j]:=ybw (by lia);have eb:us[j]?=some us[j]:=ybw (by lia);obtain⟨va,ea1,ra⟩:=r.get ea;obtain⟨vb,eb1,rb⟩:=r2.get eb;obtain⟨ua,ea2,qa⟩:=rv.get ea1;obtain⟨ub,eb2,qb⟩:=rv2.get eb1;have za:its.toArray[j]=ua:=by
  have:=(List.getElem?_eq_some_iff.mp ea2).2;simpa using this
 have zb:its2.toArray[j]=ub:=by
  have:=(List.getElem?_eq_some_iff.mp eb2).2;simpa using this
 rw[za,zb];have:=(iH I n A.in1 (w1:=ws[j]) (w2:=us[j]) (Nat.lt_of_le_of_lt (W.deps_get ea) hd) (W.flats_get g1 ea) (W.flats_get g2 eb) hu ra rb qa qb).1;unfold jH;rw[ea,eb];exact this
theorem lX {ws us:List W} (h:ws.length≠us.length):W.eqs ws us=false:=by
 cases e:W.eqs ws us with
 | false=>rfl
 | true=>exact absurd ((W.eqs_iff ws us).mp e).1 h
end
section
variable {X:Cx}
noncomputable def Dh:W2:=λx y G q=>match x,y with
 | .ref a,.ref b=>∃xs ys,G a=some (.lst xs)/\G b=some (.lst ys)/\W.flats xs=true/\W.flats ys=true/\W.deps xs<=149/\q (.bl (W.eqs xs ys)) G
 | x,y=>xm x y G q
noncomputable def Di:W2:=λx y G q=>match x,y with
 | .ref a,.ref b=>∃xs ys,G a=some (.lst xs)/\G b=some (.lst ys)/\W.flats xs=true/\W.flats ys=true/\W.deps xs<=149/\q (.bl (!(W.eqs xs ys))) G
 | x,y=>xn x y G q
theorem Dj (hr:aw k X.A):iC X (compareOp .Eq) Dh:=by
 rintro π s σ H x y v u Q I rx ry ⟨wx,wy,G,q,r1,r2,g,h,hQ⟩;unfold Dh at h;split at h
 ·obtain⟨ws,us,ea,eb,f1,f2,hd,h⟩:=h;cases r1;cases r2;cases rx;cases ry;obtain⟨_,xs,e1,ra⟩:=g _ _ ea;obtain⟨_,ys,e2,rb⟩:=g _ _ eb;obtain⟨its,rv,p,_⟩:=I.list (dm.of e1);obtain⟨its2,rv2,p2,_⟩:=I.list (dm.of e2);have l1:its.length=ws.length:=by rw[←rv.length,ra.length]
  have l2:its2.length=us.length:=by rw[←rv2.length,rb.length]
  have hu:=hr.un;have fin:EP X π σ Q (.bool (W.eqs ws us)) s:=⟨.bl _,H,I,rfl,hQ _ H _ G (aM.refl H) (.bl _) g h⟩
  by_cases hl:ws.length=us.length
  ·have c1:=SeqAt.RcAt.lists p.isList p2.isList (by rw[size_toArray,size_toArray,l1,l2,hl]) (A:=X.A) (by lia) (Ff I (n:=150) (by lia) f1 f2 (by show X.A.units+1+150<cLine;lia) ra rb rv rv2);have er:=fJ ws us;rw[←hl,Nat.min_self,beq_self_eq_true,Bool.and_true] at er;rw[size_toArray,l1,er] at c1;exact c1 X.prog X.w X.xe _ fin
  ·rw[lX hl] at fin;exact SeqAt.RcAt.lists_lengths p.isList p2.isList (by rw[size_toArray,size_toArray,l1,l2];simpa using hl) (A:=X.A) (by lia) X.prog X.w X.xe _ fin
 ·exact AN hr π s σ H x y v u Q I rx ry ⟨wx,wy,G,q,r1,r2,g,h,hQ⟩
theorem Dk (hr:aw k X.A):iC X (compareOp .NotEq) Di:=by
 rintro π s σ H x y v u Q I rx ry ⟨wx,wy,G,q,r1,r2,g,h,hQ⟩;unfold Di at h;split at h
 ·obtain⟨ws,us,ea,eb,f1,f2,hd,h⟩:=h;cases r1;cases r2;cases rx;cases ry;obtain⟨_,xs,e1,ra⟩:=g _ _ ea;obtain⟨_,ys,e2,rb⟩:=g _ _ eb;obtain⟨its,rv,p,_⟩:=I.list (dm.of e1);obtain⟨its2,rv2,p2,_⟩:=I.list (dm.of e2);have l1:its.length=ws.length:=by rw[←rv.length,ra.length]
  have l2:its2.length=us.length:=by rw[←rv2.length,rb.length]
  have hu:=hr.un;have fin:EP X π σ Q (.bool (!(W.eqs ws us))) s:=⟨.bl _,H,I,rfl,hQ _ H _ G (aM.refl H) (.bl _) g h⟩
  by_cases hl:ws.length=us.length
  ·have c1:=SeqAt.RcNeAt.lists p.isList p2.isList (by rw[size_toArray,size_toArray,l1,l2,hl]) (A:=X.A) (by lia) (Ff I (n:=150) (by lia) f1 f2 (by show X.A.units+1+150<cLine;lia) ra rb rv rv2);have er:=fJ ws us;rw[←hl,Nat.min_self,beq_self_eq_true,Bool.and_true] at er;rw[size_toArray,l1,er] at c1;exact c1 X.prog X.w X.xe _ fin
  ·rw[lX hl] at fin;exact SeqAt.RcNeAt.lists_lengths p.isList p2.isList (by rw[size_toArray,size_toArray,l1,l2];simpa using hl) (A:=X.A) (by lia) X.prog X.w X.xe _ fin
 ·exact AO hr π s σ H x y v u Q I rx ry ⟨wx,wy,G,q,r1,r2,g,h,hQ⟩
end
noncomputable def AU (lo c:Int) (n:Nat):It:=⟨λi _=>i<n,λi H x H'=>H'=H/\x=.int (lo+i*c),λi _=>n<=i⟩
theorem nA {tg:Expr} (it:Addr) (lo c:Int) (n:Nat):kt P w K tg (AU lo c n) [it] it (λi h=>IsRangeIter h it (lo+(i:Nat)*c) ((n:Int)- (i:Nat)) c) where
 mem:=by simp
 obj:=λi h st b hb=>by
  have e:b=it:=by simpa using hb
  subst e;exact⟨_,st,λv z=>by
   have z':Data.fields _=Data.cell v:=z;cases z'⟩
 keep:=λi h h' st k=>k it (by simp) _ st
 item:=by
  intro X hP hw hK hc i π s σ H E I hf st hg;subst hP hw hK;obtain⟨f0,f1,f2,f3,f4,f5⟩:=hf it (by simp);have W:=Walks.range (prog:=X.prog) (w:=X.w) (I.ok.hd hc) it lo c n;refine W.item i s _ _ hg st λv h' tk hv st' kk=>?_;obtain⟨t,rfl⟩:=hv;have I1:aB X π σ H { s with heap:=h',toks:=tk }:=I.turned (λb o hb e=>kk b o (by simpa using hb) e) f0 f1 f3 f4 f5;exact⟨_,rfl,jA (s:={ s with heap:=h',toks:=tk }) (n:="range_iterator") st' rfl rfl (by decide) ⟨.int (lo+i*c),H,I1,⟨t,rfl⟩,⟨rfl,rfl⟩,st',λb hb=>(hf b hb).1⟩⟩
 done:=by
  intro X hP hw hK hc i π s σ H E I hf st hg;subst hP hw hK;obtain⟨f0,f1,f2,f3,f4,f5⟩:=hf it (by simp);exact wpAny_pyNext_range_end (I.ok.hd hc) st (by have:n<=i:=hg;lia) λh' eb=>⟨rfl,I.turned (t':=s.toks) (λb o hb e=>eb b o hb e) f0 f1 f3 f4 f5⟩
 self:=λ_ _ _ _ _ st h=>wpAny_pyIter_rangeiter st h
structure AV (lo hi c:Int):Prop where
 c0:0<c
 c1:c<1000
 l0: -(2^40)<=lo
 l1:lo<2^40
 h0: -(2^40)<=hi
 h1:hi<2^40
noncomputable def nB (lo hi c:Int):Int:=Builtin.Range.rangeSize lo hi c
theorem AV.size {lo hi c:Int} (h:AV lo hi c):0<=nB lo hi c/\nB lo hi c<=2^42:=by
 obtain⟨c0,c1,l0,l1,h0,h1⟩:=h;unfold nB Builtin.Range.rangeSize;rw[ycx c0];split
 ·have k0:0<=(hi-lo-1)/c:=Int.ediv_nonneg (by lia) (by lia);have k1:(hi-lo-1)/c<=hi-lo-1:=Int.ediv_le_self _ (by lia);lia
 ·lia
theorem AV.last {lo hi c:Int} (h:AV lo hi c):nB lo hi c*c<=2^52:=by
 have:=h.size;have h1:nB lo hi c*c<=2^42*1000:=Int.mul_le_mul this.2 (by have:=h.c1;lia) (by have:=h.c0;lia) (by lia);lia
section
variable {X:Cx} {tg:Expr}
theorem AV.small {lo hi c:Int} (h:AV lo hi c):Builtin.Range.small lo hi c=true:=by
 have hs:=h.size;have hl:=h.last;obtain⟨c0,c1,l0,l1,h0,h1⟩:=h;unfold nB at hs hl;unfold Builtin.Range.small;have:0<=Builtin.Range.rangeSize lo hi c*c:=Int.mul_nonneg hs.1 (by lia);simp only[Builtin.Range.rangeFitsLong,Bool.and_eq_true,Bool.or_eq_true,decide_eq_true_eq,beq_iff_eq,show c > 0 from c0,if_true];lia
noncomputable def sg (lo c:Int) (n:Nat):List W:=(List.range n).map λ(i:Nat)=>W.int (lo+(i:Int)*c)
theorem um {lo c:Int} {n:Nat} {H:Hp}:px K (AU lo c n) (sg lo c n) (λ_=>True) H where
 stop:=λi H1 G t g _ hl=>by have h:n<=i:=(by simpa[sg] using hl);exact h
 go:=λi w H1 G t g _ e=>by
  unfold sg at e;rw[List.getElem?_map] at e;have hi:i<n:=by
   cases h:(List.range n)[i]? with
   | none=>rw[h] at e;cases e
   | some k=>
     have:=(List.getElem?_eq_some_iff.mp h).1;simpa using this
  rw[List.getElem?_range hi] at e;cases e;refine⟨hi,λx H' z9=>?_⟩;obtain⟨eH,hy⟩:=z9;subst eH;subst hy;exact⟨aM.refl _,.int _,g⟩
end
section
variable {X:Cx}
noncomputable def Dl (i j:Int):Prop:=i.natAbs<2^4000/\j.natAbs<2^4000
noncomputable def Fg (j:Int):Prop:=0<j/\j.natAbs<2^4000
noncomputable def qB (i j:Int):Prop:=wR i j∨Dl i j
theorem qB.ok {i j:Int} (h:qB i j):IntMulOk i j:=by
 rcases h with h | ⟨h1,h2⟩
 ·exact h.ok
 ·have b1:=PyProof.Rows.intBits_le h1;have b2:=PyProof.Rows.intBits_le h2;unfold IntMulOk Builtin.Int.intTooBig;have:¬(((Builtin.Int.intBits i+Builtin.Int.intBits j:Int)) > bitsLine):=by
   have hb:(8000:Int)<=bitsLine:=by decide
   lia
  simp[this]
noncomputable def uo (i j:Int):Prop:=Ct i j∨Fg j
theorem uq:jk X (binaryOp .FloorDiv) (rI uo λi j=> .int (i/j)):=Et λi j _ _ _ _ _ hc q=>by
 rcases hc with hc | ⟨h0,h1⟩
 ·have h1:(0:Int)<j:=hc.1;have h2:j<1073741824:=hc.2;exact floordiv_int (by lia) (by rw[Int.fdiv_eq_ediv_of_nonneg i (by lia)];exact q) (.inl (PyProof.noPylong_small (by lia)))
 ·refine floordiv_int (by lia) (by rw[Int.fdiv_eq_ediv_of_nonneg i (by lia)];exact q) (.inl (PyProof.noPylong_of_log2 ?_));have hne:j.natAbs≠0:=by lia
  exact ycv ((Nat.log2_lt hne).mpr h1) (by decide)
noncomputable abbrev Dm:W2:=rZ uo λi j=> .int (i/j)
theorem cr:iC X (binaryOp .FloorDiv) Dm:=ph uq
end
section
variable {X:Cx}
end
structure gv (K:yax) (x qual:Str) (st:Stmt) (f:Addr) (fd:FuncData) (T:Addr) (ds:ydw):Prop where
 ex:∃(oc:Value) (od:Option Addr) (kV doc pm:Value) (an:Option Addr) (cdv ct:Value) (osl:Array (Option Value)) (ot:Obj) (nt:Nat),
  fd=fnOf x qual (au st) (ap st) (am st) (.ref T) kV doc pm an cdv ct/\K.lookup f=some ⟨oc,od,.func fd,osl⟩/\codeIn K cdv qual=true/\K.lookup T=some ot/\ot.data=.seq ds.toArray nt
 kp:keepIn K (.ref f)=true
section
variable {P:Program} {w:World} {K:yax} {mg:ydv} {base:Heap} {x qual:Str} {st:Stmt} {f T:Addr} {fd:FuncData} {ds:ydw}
theorem lY {oc:Value} {od an:Option Addr} {osl:Array (Option Value)} {kV doc pm cdv ct:Value} {ot:Obj} {nt:Nat} (l:K.lookup f=some ⟨oc,od,.func (fnOf x qual (au st) (ap st) (am st) (.ref T) kV doc pm an cdv ct),osl⟩)
 (c:codeIn K cdv qual=true) (k:keepIn K (.ref f)=true) (t:K.lookup T=some ot) (h:ot.data=.seq ds.toArray nt):gv K x qual st f (fnOf x qual (au st) (ap st) (am st) (.ref T) kV doc pm an cdv ct) T ds:=
 ⟨⟨oc,od,kV,doc,pm,an,cdv,ct,osl,ot,nt,rfl,l,c,t,h⟩,k⟩
theorem gv.binds {es:ydw} (F:gv K x qual st f fd T ds)
 (h:∀(kV doc pm:Value) (an:Option Addr) (cdv ct:Value) (us:ydw),(us++es).length=ps.length->∃k,bindArgs (fnOf x qual (au st) (ap st) (am st) (.ref T) kV doc pm an cdv ct) ⟨us,[]⟩=seqItems? (.ref T) >>= k/\k (some ds.toArray)=pure (ps.zip (us++es))):bJ K fd ps es:=by
 obtain⟨oc,od,kV,doc,pm,an,cdv,ct,osl,ot,nt,rfl,lk,hcd,ht,hd⟩:=F.ex;intro s us KX hl;obtain⟨k,h1,h2⟩:=h kV doc pm an cdv ct us hl;exact BindsTo.of_defaults (T:=T) rfl (KX _ _ ht) hd h1 h2
theorem Dq {N ps:List Str} {sp:bQ} (F:gv K x qual st f fd T ds) (S:bS N ps (am st)) (len:∀ws G q e,sp ws G q e->ws.length=ps.length)
 (hbody:∀(cdv:Value) (A:Around) (outer:List Env) (s:Shared) (H:Hp) (E:XK),aw k (A.deeper (envOfC qual (am st) s.heap.objs.size f cdv))->
   ∃t,nr (dE tQ P w K mg base N qual (am st) f cdv A outer s H E).nox (ap st) t/\
    ∀(ws:List W) (G:Gp) (q:WK) (e:WX),sp ws G q e->t { nx:=λ_ G1=>∃G0,aC G0 G1/\q .non G0,rt:=λw G1=>∃G0,aC G0 G1/\q w G0 } (iG N ws) G):ca P w K mg base (k+1) f fd ps sp:=by
 obtain⟨oc,od,kV,doc,pm,an,cdv,ct,osl,ot,nt,rfl,lk,hcd,ht,hd⟩:=F.ex;refine qk lk hcd S (λvs H Q E ⟨ws,G,q,e,r,g,z,_⟩=>by rw[←r.length];exact len _ _ _ _ z) (λA outer s H vs Q E hr ⟨ws,G,q,e,r,g,z,hQ,_⟩=>?_);obtain⟨t,ht,hq⟩:=hbody cdv A outer s H E hr;have ht':mV (dE tQ P w K mg base N qual (am st) f cdv A outer s H E).nox (ap st) (LS K t):=ht;exact⟨_,ht'.nox,_,G,_,bu.start r,g,hq ws G q e z,⟨λσ1 H1 τ1 G1 t1 s1 g1 ⟨G0,l,q1⟩=>hQ .non H1 .non G0 t1 .non (g1.le l) q1,λv H1 w G1 t1 r1 g1 ⟨G0,l,q1⟩=>hQ v H1 w G0 t1 r1 (g1.le l) q1,λ_ _ _ _ _ _ _ z=>z.elim,λ_ _ _ _ _ _ _ z=>z.elim⟩⟩
noncomputable def Dr (P:Program) (w:World) (K:yax) (mg:ydv) (base:Heap) (x:Str) (ps:List Str) (k:Nat) (sp:bQ) (dws:List W):Prop:=
 ∃(f:Addr) (fd:FuncData) (ds:ydw) (dvs:List V),ca P w K mg base k f fd ps sp/\mg x=some (.ref f)/\keepIn K (.ref f)=true/\bJ K fd ps ds/\aU dvs ds/\∀H,aQ K H dws dvs
noncomputable def xA (K:yax) (mg:ydv) (x:Str) (st:Stmt) (ps:List Str) (dws:List W):Prop:=
 ∃(f:Addr) (fd:FuncData) (T:Addr) (ds:ydw) (dvs:List V),gv K x x st f fd T ds/\bJ K fd ps []/\bJ K fd ps ds/\mg x=some (.ref f)/\aU dvs ds/\∀H,aQ K H dws dvs
theorem xA.fx {sp:bQ} {dws:List W} (D:xA K mg x st ps dws) (h:∀(f:Addr) (fd:FuncData) (T:Addr) (ds:ydw),gv K x x st f fd T ds->ca P w K mg base k f fd ps sp):Fx P w K mg base x ps k sp:=by
 obtain⟨f,fd,T,ds,dvs,F,b,b',m,_,_⟩:=D;exact⟨f,fd,h f fd T ds F,m,F.kp,b⟩
theorem xA.fxd {sp:bQ} {dws:List W} (D:xA K mg x st ps dws) (h:∀(f:Addr) (fd:FuncData) (T:Addr) (ds:ydw),gv K x x st f fd T ds->ca P w K mg base k f fd ps sp):Dr P w K mg base x ps k sp dws:=by
 obtain⟨f,fd,T,ds,dvs,F,b,b',m,v,r⟩:=D;exact⟨f,fd,ds,dvs,h f fd T ds F,m,F.kp,b',v,r⟩
end
section
variable {X:Cx}
theorem aA {sp:bQ} {p pos:Pos} {t:WA} (F:Fx X.prog X.w X.K X.mg X.base x ps k sp) (hr:aw k X.A) (hg:Gl X x) (ha:QA X (e::es) t) (_hn:(e::es).length=ps.length:=by rfl) (hdb:(x==("__debug__":Str))=false:=by decide)
 (he:starEach (e::es) X.env=(false,eval e X.env)::starEach es X.env:=by rfl) (hpl:(backTo pos (starEach es X.env)).any (·.1)=false:=by rfl):QE X (.Call (.Name x p) (e::es) [] pos) (gZ sp [] t):=De F hr hg ha hdb he hpl
theorem pC {sp:bQ} {dws:List W} {p pos:Pos} {t:WA} (F:Dr X.prog X.w X.K X.mg X.base x ps k sp dws) (hr:aw k X.A) (hg:Gl X x) (ha:QA X (e::es) t) (_hn:(e::es).length+dws.length=ps.length:=by rfl) (hdb:(x==("__debug__":Str))=false:=by decide)
 (he:starEach (e::es) X.env=(false,eval e X.env)::starEach es X.env:=by rfl) (hpl:(backTo pos (starEach es X.env)).any (·.1)=false:=by rfl):QE X (.Call (.Name x p) (e::es) [] pos) (gZ sp dws t):=by
 obtain⟨f,fd,ds,dvs,h1,h2,h3,h4,h5,h6⟩:=F;exact(qi h1 hr hg h2 h3 h4 h5 kM ha hdb he hpl).imp λ_ _ _ h=>h.call h6
noncomputable def ur:WS:=λ_ _ _=>False
theorem ut:QS X st ur:=λ_ _ _ _ _ _ ⟨_,_,_,_,_,z,_⟩=>z.elim
end
variable {X:Cx}
noncomputable def uu:List W->Gp->WK->Prop:=λws G q=>match ws with
 | [.int i,.int j]=>q (.int (if j > i then j else i)) G
 | [.int i,.int j,.int k]=>q (.int (if j > i then (if k > j then k else j) else if k > i then k else i)) G
 | [.ref a]=>∃ns:List Int,G a=some (.lst (ns.map W.int))/\ns≠[]/\∀m:Int,m∈ns->(∀x,x∈ns->x<=m)->q (.int m) G
 | _=>False
theorem lZ (hc:X.calm=true):fe X (.builtin "max") uu:=by
 rintro π s σ H xs us Q I r ⟨ws,G,q,rw',g,h,hQ⟩;unfold uu at h;split at h
 ·obtain⟨v,u,rfl,r1,r2⟩:=rw'.two;cases r1;cases r2;exact rQ hc π s σ H _ us Q I r ⟨_,_,rfl,hQ _ H _ G (aM.refl H) (.int _) g h⟩
 ·rename_i i j k;cases rw' with
  | cons r1 rw'=>
    cases rw' with
    | cons r2 rw'=>
      cases rw' with
      | cons r3 rw'=>
        cases rw';cases r1;cases r2;cases r3;cases r with
        | cons a1 r=>
          cases r with
          | cons a2 r=>
            cases r with
            | cons a3 r=>
              cases r;obtain⟨t1,rfl⟩:=a1;obtain⟨t2,rfl⟩:=a2;obtain⟨t3,rfl⟩:=a3;refine max_three_ints (I.ok.hd hc) λh' tk k'=>⟨.int (if j > i then (if k > j then k else j) else if k > i then k else i),H,I.kept k',?_,hQ _ H _ G (aM.refl H) (.int _) g h⟩
              by_cases h1:j > i
              ·by_cases h2:k > j
               ·rw[ycx h1,ycx h2,ycx h1,ycx h2];exact⟨_,rfl⟩
               ·rw[ycx h1,ybv h2,ycx h1,ybv h2];exact⟨_,rfl⟩
              ·by_cases h2:k > i
               ·rw[ybv h1,ycx h2,ybv h1,ycx h2];exact⟨_,rfl⟩
               ·rw[ybv h1,ybv h2,ybv h1,ybv h2];exact⟨_,rfl⟩
 ·rename_i a;obtain⟨ns,e,hne,h⟩:=h;obtain⟨v,rfl,r1⟩:=rw'.one;cases r1;obtain⟨_,zs,e1,rr⟩:=g a _ e;obtain rfl:=rr.ints_of;obtain⟨u,rfl,ru⟩:=fT r;cases (show u=Value.ref a from ru);obtain⟨its,rv,p,hz⟩:=I.list (dm.of e1);have hi:IntsAre its ns:=L2.intsAre_of rv;obtain⟨ys,ey⟩:=hi.allInts.items;have hn:(ys.toList.map (·.1))=ns:=by rw[←nums_intItems,←ey,←hi.numsOf]
  have hl:s.heap.IsList a (intItems ys):=by rw[←ey];exact p.isList
  have hsz:ys.size=ns.length:=by rw[←hn];simp
  have hpos:0<ys.size:=by
   rw[hsz];exact List.length_pos_iff.mpr hne
  refine max_intList (I.ok.hd hc) hl hpos λv h' tk hv hk=>?_;have ab:=argBest_gt (numAt ys) (ys.size-1);generalize argBest (λi j=>decide (numAt ys i > numAt ys j)) (ys.size-1)=ix at hv ab;have hix:ix<ys.size:=by lia
  have hna:∀j (hj:j<ys.size),numAt ys j=ns[j]'(by lia):=λj hj=>by
   unfold numAt;rw[Array.getElem?_eq_getElem hj];simp[←hn]
  have hv2:v=Value.int (ys[ix].1) (ys[ix].2):=by
   unfold intItems at hv;rw[Array.getElem?_map,Array.getElem?_eq_getElem hix] at hv;simpa using hv.symm
  have hm:ys[ix].1=ns[ix]'(by lia):=by
   have:=hna ix hix;unfold numAt at this;rw[Array.getElem?_eq_getElem hix] at this;simpa using this
  rw[hm] at hv2;subst hv2;refine⟨.int _,H,I.kept hk,⟨_,rfl⟩,hQ _ H _ G (aM.refl H) (.int _) g (h _ (getElem_mem _) λx hx=>?_)⟩;obtain⟨j,hj,rfl⟩:=List.mem_iff_getElem.mp hx;have:=ab.2 j (by lia);rw[hna j (by lia),hna ix hix] at this;exact this
 ·exact h.elim
end L2
namespace L2
open PySem PySem.Spec PyProof.Rows
theorem XC.of {C:Addr} (q:excIn K C bmV "ValueError.__new__"=true):∃bm,XC K C bm:=by
 unfold excIn at q;cases lk:List.lookup C K with
 | none=>rw[lk] at q;exact cR q
 | some o=>
   rw[lk] at q;obtain⟨cls,d1,data,⟨ls⟩⟩:=o;cases cls with
   | type s=>
     by_cases hs:s="type"
     ·subst hs;cases data with
      | cls cl=>
        obtain⟨nm,bs,mro,ns,qn,hd,sn,sb,ab,co,del⟩:=cl;rcases mro with _ | ⟨v,tl⟩
        ·exact cR q
        cases v with
        | ref C2=>
          rcases ls with _ | ⟨j0,_ | ⟨j1,_ | ⟨j2,_ | ⟨j3,_ | ⟨(_ | j4),r⟩⟩⟩⟩⟩
          any_goals first | exact cR q | skip
          cases j4 with
          | builtin id=>
            rcases r with _ | ⟨j5,_ | _⟩
            any_goals first | exact cR q | skip
            replace q:(C2==C&&id=="ValueError.__new__"&&!del&&W.tailIn K bmV tl&&W.nsOkIn K ns&&W.nsIn K ns (Str.ofString "__init__")==some none)=true:=q
            simp only[beq_iff_eq,Bool.not_eq_true',Bool.and_eq_true] at q;obtain⟨⟨⟨⟨⟨e1,e2⟩,e3⟩,e4⟩,e5⟩,e6⟩:=q;subst e1 e2;subst e3;refine⟨tl,λh X=>⟨ns,nm,qn,bs,hd,sn,sb,ab,co,d1,j0,j1,j2,j3,j5,_,X _ _ lk,.of_isNs (PySem.W.isNs_of_in X e5),PySem.W.nsMap_none_of_in X e5 e6,PySem.W.tail_of_in X e4⟩,λv=>?_⟩;unfold mroIn clsIn;rw[lk]
            rfl
          | _=>exact cR q
        | _=>exact cR q
      | _=>exact cR q
     ·delta PySem.W.excIn.match_6 at q
      change (dite (s="type") _ _:Bool)=true at q;rw[dif_neg hs] at q;exact cR q
   | _=>exact cR q
theorem XC.has {C:Addr} (x:XC K C bm) {h:Heap} (X:K.In h) {t:String} {b:Bool} (hb:bmV.contains (.type t)=b):(Value.ref C::bm).contains (.type t)=b:=by
 obtain⟨_,_,_,_,_,_,_,_,_,_,_,_,_,_,_,_,_,_,_,T⟩:=x.obj h X;rw[List.contains_cons,T.hasType hb]
 rfl
section
variable {M:Model} {A:Around} {E:ydz} {K:yax} {C D a:Addr} {bm bmD:ydw} {oe:Obj}
theorem sh {Q:Bool->Shared->Prop} {b:Bool} (X:K.In s.heap) (hC:XC K C bm) (hD:XC K D bmD) (he:s.heap.get? a=some oe) (hcls:oe.cls=.ref C) (hs:mroIn K C (.ref D)=some b) (hq:Q b s):
 wpAny M A (excMatches (.ref a) (.ref D)) Q E s:=by
 obtain⟨h,g,d,t,os⟩:=s;have hb:=hD.has X (t:="BaseException") (b:=true) rfl;have hcd:(Value.ref C::bm).contains (.ref D)=b:=by
  have:=(hC.mro (.ref D)).symm.trans hs;exact Option.some.inj this
 obtain⟨N1,n1,q1,b1,d1,s1,u1,a1,c1,f1,g0,g1,g2,g3,g5,m1,gC,_,_,_⟩:=hC.obj h X;obtain⟨N2,n2,q2,b2,d2,s2,u2,a2,c2,f2,l0,l1,l2,l3,l5,m2,gD,_,_,_⟩:=hD.obj h X;have nt:=tc_notTuple;unfold excMatches
 repeat (first | (with_reducible refine wpAny_loadPart_at he ?_;rw[hcls]) | with_reducible refine wpAny_loadPart_at gD ?_ | (with_reducible refine wpAny_isSubtype_exc gD ?_;rw[hb]) | (with_reducible refine wpAny_isSubtype_exc gC ?_;rw[hcd]) | wp_step)
 cases b with
 | true=>wp_walk;exact hq
 | false=>wp_walk;exact hq
end
theorem fP.none_of {H:Hp} {h:Heap} (x:fP P w H h) (e:h.get? a=none):H a=none:=by
 cases q:H a with
 | none=>rfl
 | some o=>
   have y:=x a o q;cases o with
   | lst xs=>obtain⟨_,_,_,_,z⟩:=y;rw[e] at z;cases z
   | tup xs=>obtain⟨_,_,_,p,z,_⟩:=y;rw[e] at z;cases z
   | dK kvs=>obtain⟨_,_,_,_,o,_,_,z,_⟩:=y;rw[e] at z;cases z
   | dT kvs=>obtain⟨_,_,_,_,o,_,_,z,_⟩:=y;rw[e] at z;cases z
   | set S n=>obtain⟨o,_,_,_,z,_⟩:=y;rw[e] at z;cases z
   | ins C dx fs=>obtain⟨_,_,_,z,_⟩:=y;rw[e] at z;cases z
   | own y2=>obtain⟨_,z⟩:=y;rw[e] at z;cases z
   | xd fs=>obtain⟨_,⟨_,_,_,z,_⟩,_⟩:=y;rw[e] at z;cases z
   | rng lo hi=>obtain⟨_,_,_,z⟩:=y;rw[e] at z;cases z
   | frz ob u=>obtain⟨z,_⟩:=y;rw[e] at z;cases z
   | tbl ps=>have z:h.get? a=some _:=y;rw[e] at z;cases z
   | met f y2=>have z:h.get? a=some _:=y;rw[e] at z;cases z
   | ext φ=>obtain⟨_,⟨_,z⟩,_⟩:=y;rw[e] at z;cases z
theorem fu {h B:Heap} {m:List Addr}:∀{l:List Env},h.FunFrames B l->(∀b∈eJ l,b∈m)->h.FunFrames (hideAll h m) l
 | [],_,_=>trivial
 | env::r,⟨e0,⟨L,o,e1,_,e3,e4⟩,e5⟩,hm=>
   have hl:eJ (env::r)=L::eJ r:=by unfold eJ;rw[filterMap_cons,e1]
   ⟨e0,⟨L,o,e1,hideAll_none m (hm L (by rw[hl];exact .head _)),e3,e4⟩,fu e5 λb hb=>hm b (by rw[hl];exact .tail _ hb)⟩
structure Fl (P:Program) (w:World) (fs:List Addr) (H H':Hp) (h0 h:Heap) (a T:Addr) (c fl:Value):Prop where
 un:Un fs [] H H' h0 h
 hok:fP P w H' h
 na:h0.get? a=none
 nT:h0.get? T=none
 ha:H' a=none
 hT:H' T=none
 tr:∃oe vs oT ts a0,h.get? a=some oe/\(oe.cls=c/\vs[0]?=some a0)/\oe.data=.fields vs/\vs[1]?=some (.ref T)/\T≠a/\h.get? T=some oT/\oT.data=.fields ts/\ts[3]?=some fl
section
variable {P:Program} {w:World} {fs:List Addr} {H H':Hp} {h0 h h':Heap} {a T:Addr} {c fl fl':Value}
theorem Fl.traced (F:Fl P w fs H H' h0 h a T c fl):∃a0,h.TracedAtW (hideAll h (a::T::fs)) a c a0 fl:=by
 obtain⟨oe,vs,oT,ts,a0,e1,e2,e3,e4,e5,e6,e7,e8⟩:=F.tr;exact⟨a0,oe,vs,T,oT,ts,e1,e2,e3,e4,hideAll_none _ (.tail _ (.head _)),e5,e6,e7,e8⟩
theorem Fl.move {a0:Value} (F:Fl P w fs H H' h0 h a T c fl) (hfs:∀b∈fs,H' b=none/\∃o,h.get? b=some o/\∀vs,o.data≠ .fields vs)
 (k1:(hideAll h (a::T::fs)).StaysIn h') (k3:h'.TracedAtW (hideAll h (a::T::fs)) a c a0 fl') (k4:h.UpToSlots h'):∃T',Fl P w fs H H' h0 h' a T' c fl':=by
 have keep:∀b o,b≠a->b≠T->b∉fs->h.get? b=some o->h'.get? b=some o:=λb o n1 n2 n3 e=>k1 b o (hideAll_get _ e (by simp[n1,n2,n3]));have slot:∀b o,b∈fs->h.get? b=some o->∃sl,h'.get? b=some { o with slots:=sl }:=λb o hb e=>by
  obtain⟨_,o2,e2,d2⟩:=hfs b hb;rw[e] at e2;cases e2;exact k4 b o e d2
 obtain⟨oe,vs,T',oT,ts,q1,q2,q3,q4,q5,q6,q7,q8,q9⟩:=k3;have hT':T'=T∨h.get? T'=none:=by
  by_cases z:T'=T
  ·exact .inl z
  ·refine .inr ?_;cases e:h.get? T' with
   | none=>rfl
   | some o=>
     by_cases zf:T'∈fs
     ·obtain⟨_,o2,e2,d2⟩:=hfs T' zf;obtain⟨sl,e3⟩:=k4 T' o2 e2 d2;rw[q7] at e3;cases e3;exact absurd q8 (d2 ts)
     ·rw[hideAll_get _ e (by simp[z,zf,q6])] at q5;cases q5
 have back:∀b,h.get? b=none->h0.get? b=none:=λb e=>by
  cases q:h0.get? b with
  | none=>rfl
  | some o=>
    obtain⟨o',e'⟩:=F.un.there b o q (by simp);rw[e] at e';cases e'
 refine⟨T',⟨⟨λb o q n hb hx=>?_,λb o q n hb hx=>?_,F.un.free,λb o q hx=>?_,F.un.tups,F.un.frzs,F.un.tbls⟩,λb u e=>?_,F.na,?_,F.ha,?_,⟨oe,vs,oT,ts,a0,q1,q2,q3,q4,q6,q7,q8,q9⟩⟩⟩
 ·exact keep b o (λz=>by rw[z,F.na] at q;cases q) (λz=>by rw[z,F.nT] at q;cases q) hb (F.un.keep b o q n hb hx)
 ·obtain⟨sl,e1⟩:=F.un.slot b o q n hb hx;obtain⟨sl2,e2⟩:=slot b _ hb e1;exact⟨sl2,e2⟩
 ·obtain⟨o1,e1⟩:=F.un.there b o q hx
  by_cases hb:b∈fs
  ·obtain⟨sl,e2⟩:=slot b o1 hb e1;exact⟨_,e2⟩
  ·exact⟨o1,keep b o1 (λz=>by rw[z,F.na] at q;cases q) (λz=>by rw[z,F.nT] at q;cases q) hb e1⟩
 ·have nn:∀x v,H' x=some v->x≠a/\x≠T/\x∉fs:=λx v e=>⟨λz=>(by rw[z,F.ha] at e;cases e),λz=>(by rw[z,F.hT] at e;cases e),λz=>(by rw[(hfs x z).1] at e;cases e)⟩;refine(F.hok b u e).stay (λx v hc q=>?_) (λ_ q=>q) λ_ _ q=>q;rcases hc with hc | hc
  ·obtain⟨z1,z2,z3⟩:=nn b u e;rw[hc] at q ⊢;exact keep b v z1 z2 z3 q
  ·obtain⟨z1,z2,z3⟩:=nn x _ hc;exact keep x v z1 z2 z3 q
 ·rcases hT' with z | z
  ·rw[z];exact F.nT
  ·exact back T' z
 ·rcases hT' with z | z
  ·rw[z];exact F.hT
  ·exact F.hok.none_of z
end
noncomputable def pD (P:Program) (w:World):oW:=λouter H s E e s'=>∃a T C H',e=.ref a/\s'.os=s.os/\AllBare s'.gens/\Fl P w (eJ outer) H H' s.heap s'.heap a T (.ref C) .none/\E (.ref C) none H'
noncomputable abbrev xB (P:Program) (w:World) (K:yax) (mg:ydv) (base:Heap) (k:Nat) (f:Addr) (fd:FuncData) (ps:List Str) (sp:bQ):Prop:=dQ P w K mg base (pD P w) k f fd ps (wB K sp)
section
variable {P:Program} {w:World} {K:yax} {mg:ydv} {base:Heap} {N:List Str} {qual:Str} {scope:Scope} {f:Addr} {cdv:Value} {A:Around} {outer:List Env} {s:Shared} {H:Hp} {E:XK}
theorem AW {σ:St} {H2:Hp} {s2:Shared} {h':Heap} {e C:Addr} {vs:ydw} (I:aB (dE (pD P w) P w K mg base N qual scope f cdv A outer s H E) π σ H2 s2)
 (mx:Heap.MadeExcOf s2.heap h' e (.ref C) vs) (hE:E (.ref C) none H2):(dE (pD P w) P w K mg base N qual scope f cdv A outer s H E).xe (.ref e) { s2 with heap:=h' }:=by
 have ST:=I.stack;have SF:=I.stkFree;refine wpAny_leaves_madeW (base:=hideAll s2.heap (eJ (envOfC qual scope s.heap.objs.size f cdv::outer))) (h:=s2.heap) (L:=s.heap.objs.size) I.ok.frames rfl (λb o q=>of_hideAll _ q) (fu ST λ_ z=>z) mx λh3 t fly _ _ ups=>?_;obtain⟨k1,_,_,k3⟩:=fly;obtain⟨oe,ws,T,oT,ts,q1,q2,q3,q4,q5,q6,q7,q8,q9⟩:=k3;have keep:∀b o,b∉eJ (envOfC qual scope s.heap.objs.size f cdv::outer)->s2.heap.get? b=some o->h3.get? b=some o:=λb o hb q=>k1 b o (hideAll_get _ q hb);have slot:∀b o,b∈eJ (envOfC qual scope s.heap.objs.size f cdv::outer)->s2.heap.get? b=some o->(∃sl,h3.get? b=some { o with slots:=sl })/\∀vs,o.data≠ .fields vs:=λb o hb q=>by
  obtain⟨_,o2,e2,d2⟩:=ST.mem hb;rw[q] at e2;cases e2;exact⟨ups b o (mx.keeps b o q) d2,d2⟩
 have nL:∀b o,s.heap.get? b=some o->b∉eJ outer->b∉eJ (envOfC qual scope s.heap.objs.size f cdv::outer):=λb o q hb z=>by
  rcases mem_cons.mp (show b∈s.heap.objs.size::eJ outer from z) with z | z
  ·exact absurd (ybx q) (by rw[z];exact lt_irrefl _)
  ·exact hb z
 have back:∀b,s2.heap.get? b=none->s.heap.get? b=none:=λb q=>by
  cases z:s.heap.get? b with
  | none=>rfl
  | some o=>
    obtain⟨o',e'⟩:=I.base.there b o z (by intro y;cases y);rw[q] at e';cases e'
 have nT:s2.heap.get? T=none:=by
  cases z:s2.heap.get? T with
  | none=>rfl
  | some o=>
    by_cases zf:T∈eJ (envOfC qual scope s.heap.objs.size f cdv::outer)
    ·obtain⟨⟨sl,e3⟩,d2⟩:=slot T o zf z;rw[q7] at e3;cases e3;exact absurd q8 (d2 ts)
    ·rw[hideAll_get _ z zf] at q5;cases q5
 refine⟨e,T,C,H2,rfl,I.os,I.bare,⟨⟨λb o q n hb hx=>?_,λb o q n hb hx=>?_,λb o q n hx=>I.base.free b o q n (by intro y;cases y),λb o q hx=>?_,I.base.tups,I.base.frzs,I.base.tbls⟩,λb u q=>?_,back e mx.new,back T nT,I.hok.none_of mx.new,I.hok.none_of nT,
  ⟨oe,ws,oT,ts,_,q1,q2,q3,q4,q6,q7,q8,q9⟩⟩,hE⟩
 ·exact keep b o (nL b o q hb) (I.base.keep b o q n hb (by intro y;cases y))
 ·obtain⟨sl,e1⟩:=I.base.slot b o q n hb (by intro y;cases y);obtain⟨⟨sl2,e2⟩,_⟩:=slot b _ (yay _ hb) e1;exact⟨sl2,e2⟩
 ·obtain⟨o1,e1⟩:=I.base.there b o q (by intro y;cases y)
  by_cases hb:b∈eJ (envOfC qual scope s.heap.objs.size f cdv::outer)
  ·obtain⟨⟨sl,e2⟩,_⟩:=slot b o1 hb e1;exact⟨_,e2⟩
  ·exact⟨o1,keep b o1 hb e1⟩
 ·have nn:∀x v,H2 x=some v->x∉eJ (envOfC qual scope s.heap.objs.size f cdv::outer):=λx v q z=>by rw[SF x z] at q;cases q
  refine(I.hok b u q).stay (λx v hc q2=>?_) (λ_ q=>q) λ_ _ q=>q;rcases hc with hc | hc
  ·rw[hc] at q2 ⊢;exact keep b v (nn b u q) q2
  ·exact keep x v (nn x _ hc) q2
noncomputable def uv (C:Addr) (e:WX):WS:=λ_ _ G=>e (.ref C) G
theorem uw {x msg:Str} {C:Addr} {e:WX} {np cpos pos p1:Pos} {j} (hm:mg x=some (.ref C)) (hC:XC K C bm) (hE:∀H1 G1,aM H H1->aI K H1 G1->e (.ref C) G1->E (.ref C) none H1)
 (hg:Gl (dE (pD P w) P w K mg base N qual scope f cdv A outer s H E) x) (hd:(x==("__debug__":Str))=false:=by decide):
 QS (dE (pD P w) P w K mg base N qual scope f cdv A outer s H E) (.Raise (some (.Call (.Name x np) [.Constant (.str msg) j p1] [] cpos)) none pos) (uv C e):=by
 rintro π s2 σ H2 D I ⟨τ,G,d,hs,hgG,ht,l⟩;obtain⟨N1,n1,q1,b1,d1,s1,u1,a1,c1,f1,g0,g1,g2,g3,g5,m1,gC,gN,gi,gT⟩:=hC.obj _ I.ok.mod.kin;refine wpAny_Raise_call_subT (C:=C) (nm:=n1) (q:=q1) (N:=N1) (bs:=b1) (bm:=bm) (hdct:=d1) (sn:=s1) (sub:=u1) (ab:=a1) (col:=c1) (dd:=f1) (k0:=g0) (k1:=g1) (k2:=g2) (k3:=g3) (k5:=g5) PySem.F.excBase_ValueError (mN:=m1) (gT.hasType rfl) (I.ok.hd rfl) rfl gi
  (fG I hg hm ⟨rfl,?_⟩ hd)
 have ha:=(cU (X:=dE (pD P w) P w K mg base N qual scope f cdv A outer s H E) (oK (x:=msg) (j:=j) (pos:=p1)) pa_nil) cpos π s2 σ H2 (λvs H'=>vs.length=1/\H'=H2) I ⟨rfl,rfl⟩;refine Calls.evalArgs_plain (wpAny_mono ha (λus s3 h3=>?_) λ_ _ y=>y);obtain⟨vs,H3,I3,rv,hl,rfl⟩:=h3;refine⟨rfl,?_,I3.bk _ _ gC,gN.keeps I3.bk,gT.keeps I3.bk,λh' a mx=>AW I3 mx (hE _ G ⟨I3.base.tups,λb o u q=>I3.base.frzs b o _ q⟩ hgG ht)⟩;show us.length<=sizeLine;rw[←rv.length,hl];decide
end
theorem Fh {x qual:Str} {f:Addr} {N ps:List Str} {sp:bQ} (F:cz K x qual st f fd) (S:bS N ps (am st)) (len:∀ws G q e,sp ws G q e->ws.length=ps.length)
 (hbody:∀(cdv:Value) (A:Around) (outer:List Env) (s:Shared) (H:Hp) (E:XK) (ws:List W) (G:Gp) (q:WK) (e:WX),aw k (A.deeper (envOfC qual (am st) s.heap.objs.size f cdv))->sp ws G q e->(∀c H1 G1,aM H H1->aI K H1 G1->e c G1->E c none H1)->
   ∃t,nr (dE (pD P w) P w K mg base N qual (am st) f cdv A outer s H E) (ap st) t/\t { nx:=λ_ G1=>∃G0,aC G0 G1/\q .non G0,rt:=λw G1=>∃G0,aC G0 G1/\q w G0 } (iG N ws) G):xB P w K mg base (k+1) f fd ps sp:=by
 obtain⟨oc,od,kV,doc,pm,an,cdv,ct,osl,rfl,lk,hcd⟩:=F.ex;refine qk lk hcd S (λvs H Q E ⟨ws,G,q,e,r,g,z,_⟩=>by rw[←r.length];exact len _ _ _ _ z) (λA outer s H vs Q E hr ⟨ws,G,q,e,r,g,z,hQ,hX⟩=>?_);obtain⟨t,ht,hq⟩:=hbody cdv A outer s H E ws G q e hr z λc H1 G1 t1 g1 z1=>hX c none H1 G1 t1 g1 z1;exact⟨_,ht,_,G,_,bu.start r,g,hq,⟨λσ1 H1 τ1 G1 t1 s1 g1 ⟨G0,l,q1⟩=>hQ .non H1 .non G0 t1 .non (g1.le l) q1,λv H1 w G1 t1 r1 g1 ⟨G0,l,q1⟩=>hQ v H1 w G0 t1 r1 (g1.le l) q1,λ_ _ _ _ _ _ _ z=>z.elim,λ_ _ _ _ _ _ _ z=>z.elim⟩⟩
theorem Ds {x qual:Str} {f T:Addr} {ds:ydw} {N ps:List Str} {sp:bQ} (F:gv K x qual st f fd T ds) (S:bS N ps (am st)) (len:∀ws G q e,sp ws G q e->ws.length=ps.length)
 (hbody:∀(cdv:Value) (A:Around) (outer:List Env) (s:Shared) (H:Hp) (E:XK) (ws:List W) (G:Gp) (q:WK) (e:WX),aw k (A.deeper (envOfC qual (am st) s.heap.objs.size f cdv))->sp ws G q e->(∀c H1 G1,aM H H1->aI K H1 G1->e c G1->E c none H1)->
   ∃t,nr (dE (pD P w) P w K mg base N qual (am st) f cdv A outer s H E) (ap st) t/\t { nx:=λ_ G1=>∃G0,aC G0 G1/\q .non G0,rt:=λw G1=>∃G0,aC G0 G1/\q w G0 } (iG N ws) G):xB P w K mg base (k+1) f fd ps sp:=by
 obtain⟨oc,od,kV,doc,pm,an,cdv,ct,osl,ot,nt,rfl,lk,hcd,ht,hd⟩:=F.ex;refine qk lk hcd S (λvs H Q E ⟨ws,G,q,e,r,g,z,_⟩=>by rw[←r.length];exact len _ _ _ _ z) (λA outer s H vs Q E hr ⟨ws,G,q,e,r,g,z,hQ,hX⟩=>?_);obtain⟨t,ht,hq⟩:=hbody cdv A outer s H E ws G q e hr z λc H1 G1 t1 g1 z1=>hX c none H1 G1 t1 g1 z1;exact⟨_,ht,_,G,_,bu.start r,g,hq,⟨λσ1 H1 τ1 G1 t1 s1 g1 ⟨G0,l,q1⟩=>hQ .non H1 .non G0 t1 .non (g1.le l) q1,λv H1 w G1 t1 r1 g1 ⟨G0,l,q1⟩=>hQ v H1 w G0 t1 r1 (g1.le l) q1,λ_ _ _ _ _ _ _ z=>z.elim,λ_ _ _ _ _ _ _ z=>z.elim⟩⟩
noncomputable def Rx (P:Program) (w:World) (K:yax) (mg:ydv) (base:Heap) (x:Str) (ps:List Str) (k:Nat) (sp:bQ) (dws:List W):Prop:=
 ∃(f:Addr) (fd:FuncData) (ds:ydw) (dvs:List V),xB P w K mg base k f fd ps sp/\mg x=some (.ref f)/\keepIn K (.ref f)=true/\bJ K fd ps ds/\aU dvs ds/\∀H,aQ K H dws dvs
noncomputable abbrev Cx.xmk (X:Cx) (a:Addr) (oe:Obj):Cx:={ X with A:=X.A.mark (some (.ref a)),calm:=false,xe:=λ_ _=>False,pn:=(a,oe)::X.pn }
section
variable {X:Cx} {π:List (Addr×Obj)} {σ:St} {H:Hp} {s:Shared} {a:Addr} {oe:Obj}
theorem aB.xmk (I:aB X π σ H s) (e:s.heap.get? a=some oe) (n:H a=none) (hl:a≠X.env.locals) (hf:a∉X.fs) (hd:∀v,oe.data≠ .cell v):aB (X.xmk a oe) π σ H s:=
 ⟨⟨I.ok.mod,I.ok.kind,I.ok.glob,I.ok.blt,I.ok.above,I.ok.inj,I.ok.has,I.ok.cab,λz=>(ycy z).elim,I.ok.frames,I.ok.stk,I.ok.exf,I.ok.bs,I.ok.bsz,I.ok.noex,I.ok.exfs,I.ok.funs,I.ok.frf⟩,I.os,I.bare,I.base,I.loc,I.cell,I.free,I.freeC,
   λp hp=>by
    rcases mem_cons.mp (show p∈(a,oe)::(X.pn++π) from hp) with z | z
    ·rw[z];exact⟨e,n,hl,hf,hd⟩
    ·exact I.pin p z,I.hok,I.len⟩
theorem aB.unx (I:aB (X.xmk a oe) π σ H s) (hh:X.calm=true->X.A.handled=none):aB X π σ H s:=
 ⟨⟨I.ok.mod,I.ok.kind,I.ok.glob,I.ok.blt,I.ok.above,I.ok.inj,I.ok.has,I.ok.cab,hh,I.ok.frames,I.ok.stk,I.ok.exf,I.ok.bs,I.ok.bsz,I.ok.noex,I.ok.exfs,I.ok.funs,I.ok.frf⟩,I.os,I.bare,I.base,I.loc,I.cell,I.free,I.freeC,
   λp hp=>I.pin p (yay _ hp),I.hok,I.len⟩
theorem SP.unx {D:fQ} {f:Flow} {s':Shared} (h:SP (X.xmk a oe) π D f s') (hh:X.calm=true->X.A.handled=none):SP X π D f s':=by
 cases f with
 | next=>obtain⟨σ',H',I,q⟩:=h;exact⟨σ',H',I.unx hh,q⟩
 | brk=>obtain⟨σ',H',I,q⟩:=h;exact⟨σ',H',I.unx hh,q⟩
 | cont=>obtain⟨σ',H',I,q⟩:=h;exact⟨σ',H',I.unx hh,q⟩
 | ret u=>obtain⟨v,σ',H',I,r,q⟩:=h;exact⟨v,σ',H',I.unx hh,r,q⟩
end
noncomputable def QH (X:Cx) (C:Addr) (hs:List ExceptHandler) (th:WS):Prop:=
 ∀(π:List (Addr×Obj)) (s0:Shared) (σ:St) (H0:Hp) (s:Shared) (H:Hp) (a T:Addr) (D:fQ),aB X π σ H0 s0->Fl X.prog X.w (eJ X.stack) H0 H s0.heap s.heap a T (.ref C) .none->s.os=s0.os->AllBare s.gens->LS X.K th D σ H->
  wpAny (model X.prog X.w) X.A (handleBy (.ref a) X.env hs) (SP X π D) X.xe s
section
variable {X:Cx} {π:List (Addr×Obj)} {σ:St} {H0 H:Hp} {s0 s:Shared} {a T:Addr} {c fl:Value}
theorem Fl.inv (F:Fl X.prog X.w (eJ X.stack) H0 H s0.heap s.heap a T c fl) (I:aB X π σ H0 s0) (os:s.os=s0.os) (bare:AllBare s.gens):aB X π σ H s:=I.call' (ch:=[]) os F.un F.hok bare λb z=>absurd z (by simp)
theorem aB.frmem (I:aB X π σ H s):∀b∈eJ X.stack,H b=none/\∃o,s.heap.get? b=some o/\∀vs,o.data≠ .fields vs:=λb hb=>⟨I.stkFree b hb,(I.stack.mem hb).2⟩
theorem Fl.there (F:Fl X.prog X.w (eJ X.stack) H0 H s0.heap s.heap a T c fl) (I:aB X π σ H0 s0):∃oe,s.heap.get? a=some oe/\oe.cls=c/\H a=none/\a≠X.env.locals/\a∉X.fs/\∀v,oe.data≠ .cell v:=by
 obtain⟨oe,vs,oT,ts,a0,e1,e2,e3,_⟩:=F.tr;refine⟨oe,e1,e2.1,F.ha,λz=>?_,λz=>?_,λv z=>by rw[e3] at z;cases z⟩
 ·obtain⟨m,⟨o,_,_,ho,_⟩,_⟩:=I.loc;rw[←z,F.na] at ho;cases ho
 ·obtain⟨_,o,ho,_⟩:=I.funs.mem z;rw[F.na] at ho;cases ho
theorem Fl.lands {M:Model} {Q:Unit->Shared->Prop} (F:Fl X.prog X.w (eJ X.stack) H0 H s0.heap s.heap a T c fl) (I:aB X π σ H0 s0) (os:s.os=s0.os) (bare:AllBare s.gens)
 (h:∀h' T',Fl X.prog X.w (eJ X.stack) H0 H s0.heap h' a T' c .none->Q () { s with heap:=h' }):wpAny M A (setFlight (.ref a) none) Q E s:=by
 have I1:=F.inv I os bare;obtain⟨a0,tr⟩:=F.traced;refine wpAny_setFlight_noneW (base:=hideAll s.heap (a::T::eJ X.stack)) (λb o q=>of_hideAll _ q) (fu I1.stack λb z=> .tail _ (.tail _ z)) tr λh' k1 _ k3 k4=>?_;obtain⟨T',F'⟩:=F.move I1.frmem k1 k3 λb o e n=>⟨o.slots,k4 b o e n⟩;exact h h' T' F'
variable {C D:Addr} {bm bmD:ydw} {x:Str} {p pos:Pos} {name:Option Str} {body:List Stmt} {bt:List ExceptHandler} {b0:Stmt} {th:WS}
theorem xC (hm:X.mg x=some (.ref D)) (hg:Gl X x) (hC:XC X.K C bm) (hD:XC X.K D bmD) (hs:mroIn X.K C (.ref D)=some true) (hb:∀a oe,oe.cls=.ref C->nr (X.xmk a oe) (b0::body) th) (hd:(x==("__debug__":Str))=false:=by decide):
 QH X C (.ExceptHandler (some (.Name x p)) none (b0::body) pos::bt) th:=by
 intro π s0 σ H0 s H a T D' I0 F os bare hLS;have I:=F.inv I0 os bare;obtain⟨oe,e1,e2,e3,e4,e5,e6⟩:=F.there I0;refine wpAny_handleBy_cons (codeAny_handlers_test (fG (X:=X.xmk a oe) (I.xmk e1 e3 e4 e5 e6) hg hm ?_ hd)) (by intro q;cases q);refine sh I.kIn hC hD e1 e2 hs ?_;refine codeAny_handlers_suite (F.lands I0 os bare λh' T' F'=>?_);have I':=Fl.inv (s:={ s with heap:=h' }) F' I0 os bare;obtain⟨oe',q1,q2,q3,q4,q5,q6⟩:=Fl.there (s:={ s with heap:=h' }) F' I0;exact wpAny_mono (hb a oe' q2 π _ σ H D' (I'.xmk q1 q3 q4 q5 q6) hLS) (λf s2 z=>z.unx I0.ok.hd) λ_ _ z=>z.elim
end
section
variable {X:Cx} {a:Addr} {oe:Obj} {C D:Addr} {bm bmD:ydw}
theorem pE {x y:V} (r:aU [x,y] us):∃u v,us=[u,v]/\bc x u/\bc y v:=by
 cases r with
 | cons r1 r=>
   cases r with
   | cons r2 r=>cases r;exact⟨_,_,rfl,r1,r2⟩
end
theorem XC.self {C:Addr} (x:XC K C bm):mroIn K C (.ref C)=some true:=by rw[x.mro];simp
section
variable {prog:Program} {w:World} {A:Around} {R:Result->Shared->Prop} {I:Addr} {fp wr:List Addr} {n:Nat} {P:Nat->Value->Prop} {St:Nat->Heap->Prop} {kw:List (Str×Value)}
end
section
variable {prog:Program} {w:World} {A:Around} {E:ydz} {s:Shared} {l:Addr} {xs:Array (Int×Tok)} {d:Value}
end
section
variable {X:Cx}
end
section
variable {P:Program} {w:World} {K:yax} {mg:ydv} {base:Heap} {N:List Str} {qual:Str} {scope:Scope} {f:Addr} {cdv:Value} {A:Around} {outer:List Env} {s:Shared} {H:Hp} {E:XK}
theorem xD {E':XK} (hE:∀C H1,aM H H1->E' (.ref C) none H1->E (.ref C) none H1):eK (pD P w) (dE (pD P w) P w K mg base N qual scope f cdv A outer s H E) E':=by
 intro π σ H2 s2 e s3 I hx;obtain⟨a,T,C,H',rfl,os,bare,F,hw⟩:=hx;have I':=F.inv I os bare;obtain⟨a0,tr⟩:=F.traced;show wpAny _ _ (leaving (envOfC qual scope s.heap.objs.size f cdv) (.ref a)) _ _ s3;refine wpAny_leaving_nextW (base:=hideAll s3.heap (a::T::eJ (envOfC qual scope s.heap.objs.size f cdv::outer))) (outer:=outer) (L:=s.heap.objs.size) I'.ok.frames (fu I'.stack λb z=> .tail _ (.tail _ z)) rfl tr (λb o q=>of_hideAll _ q) (hideAll_none _ (.head _)) λh3 left=>?_;obtain⟨k1,_,k3,k4⟩:=left;obtain⟨T',F'⟩:=F.move I'.frmem k1 k3 k4;have nL:∀b o,s.heap.get? b=some o->b∉eJ outer->b∉eJ (envOfC qual scope s.heap.objs.size f cdv::outer):=λb o q hb z=>by
  rcases mem_cons.mp (show b∈s.heap.objs.size::eJ outer from z) with z | z
  ·exact absurd (ybx q) (by rw[z];exact lt_irrefl _)
  ·exact hb z
 have no:∀b:Addr,b∉(dE (pD P w) P w K mg base N qual scope f cdv A outer s H E).ex:=λb y=>nomatch y;have back:∀b,s2.heap.get? b=none->s.heap.get? b=none:=λb q=>by
  cases z:s.heap.get? b with
  | none=>rfl
  | some o=>
    obtain⟨o',e'⟩:=I.base.there b o z (no b);rw[q] at e';cases e'
 have tl:aM H H':=⟨λb xs q=>F.un.tups b xs (I.base.tups b xs q),λb o u q=>F.un.frzs b o _ (I.base.frzs b o _ q)⟩;refine⟨a,T',C,H',rfl,os.trans I.os,bare,⟨⟨λb o q n hb hx=>?_,λb o q n hb hx=>?_,λb o q n hx=>?_,λb o q hx=>?_,λb xs q=>F.un.tups b xs (I.base.tups b xs q),λb o u q=>F.un.frzs b o u (I.base.frzs b o u q),λb ps q=>?_⟩,F'.hok,back a F'.na,back T' F'.nT,F'.ha,F'.hT,F'.tr⟩,hE C H' tl hw⟩
 ·exact F'.un.keep b o (I.base.keep b o q n hb (no b)) (I.base.free b o q n (no b)) (nL b o q hb) (by simp)
 ·obtain⟨sl,e1⟩:=I.base.slot b o q n hb (no b);obtain⟨sl2,e2⟩:=F'.un.slot b _ e1 (I.base.free b o q n (no b)) (yay _ hb) (by simp);exact⟨sl2,e2⟩
 ·obtain⟨o',e'⟩:=I.base.there b o q (no b);exact F'.un.free b o' e' (I.base.free b o q n (no b)) (by simp)
 ·obtain⟨o',e'⟩:=I.base.there b o q (no b);exact F'.un.there b o' e' (by simp)
 ·obtain⟨m1,e1⟩:=I.base.tbls b ps q;obtain⟨m2,e2⟩:=F.un.tbls b _ e1;exact⟨m1++m2,by rw[e2,Array.append_assoc]⟩
end
section
variable {X:Cx} {π:List (Addr×Obj)} {σ:St} {H:Hp} {s:Shared}
theorem aB.big (I:aB X π σ H s):sysModules<s.heap.objs.size:=by
 have h:mainGlobals<s.heap.objs.size:=(I.mod.glob.keeps I.bk).lt;exact Nat.lt_trans (by decide) h
end
section
variable {prog:Program} {w:World} {A:Around} {E:ydz} {s:Shared} {I l:Addr} {items:Array Value}
end
section
variable {X:Cx}
end
noncomputable def uz (lo hi c:Int):Prop:=AV lo hi c∨(c= -1/\-(2^40)<=lo/\lo<2^40/\-(2^40)<=hi/\hi<2^40)
theorem nC (a b:Int):nB a b (-1)=((a-b).toNat:Int):=by
 unfold nB Builtin.Range.rangeSize;rw[ybv (by decide)];split
 ·have:(a-b-1)/ (1:Int)=a-b-1:=Int.ediv_one _;simp only[Int.neg_neg];lia
 ·lia
theorem uz.nn {lo hi c:Int} (h:uz lo hi c):0<=nB lo hi c:=by
 rcases h with h | ⟨rfl,h⟩
 ·exact h.size.1
 ·rw[nC];lia
theorem uz.small {lo hi c:Int} (h:uz lo hi c):Builtin.Range.small lo hi c=true:=by
 rcases h with h | ⟨rfl,l0,l1,h0,h1⟩
 ·exact h.small
 ·have e:Builtin.Range.rangeSize lo hi (-1)=((lo-hi).toNat:Int):=nC lo hi;unfold Builtin.Range.small;rw[e];simp only[Builtin.Range.rangeFitsLong,Bool.and_eq_true,Bool.or_eq_true,decide_eq_true_eq,beq_iff_eq];rw[ybv (by decide)];simp only[Bool.and_eq_true,decide_eq_true_eq];lia
theorem uz.ne {lo hi c:Int} (h:uz lo hi c):c≠0:=by
 rcases h with h | ⟨rfl,_⟩
 ·have:=h.c0;lia
 ·decide
theorem uz.lo {lo hi c:Int} (h:uz lo hi c):c.natAbs<1073741824:=by
 rcases h with h | ⟨rfl,_⟩
 ·have:=h.c0;have:=h.c1;lia
 ·decide
section
variable {X:Cx} {tg:Expr}
theorem si {σ:St} {H:Hp} {R:It->Hp->Prop} {lo hi c:Int} {t u v:Tok} {tk:Nat} (I:aB X π σ H s) (h:uz lo hi c)
 (q:R (AU lo c (nB lo hi c).toNat) H):wpAny (model X.prog X.w) X.A (pyIter (.ref s.heap.objs.size)) (EQ X π σ tg R) E { s with heap:=s.heap.push { cls:= .type "range",data:= .fields #[.int lo t,.int hi u,.int c v] },toks:=tk }:=by
 refine wpAny_pyIter_range (IsRange.new ..) h.small ?_;have I1:aB X π σ H { s with heap:=s.heap.push { cls:= .type "range",data:= .fields #[.int lo t,.int hi u,.int c v] },toks:=tk }:=I.kept λb o e=>yaw _ e;refine⟨(s.heap.push { cls:= .type "range",data:= .fields #[.int lo t,.int hi u,.int c v] }).objs.size,[(s.heap.push { cls:= .type "range",data:= .fields #[.int lo t,.int hi u,.int c v] }).objs.size],_,_,H,rfl,
  I1.kept (t':=tk) λb o e=>yaw _ e,nA _ lo c (nB lo hi c).toNat,?_,λb hb=>?_,q⟩
 ·have e1:lo+((0:Nat):Int)*c=lo:=by simp
  have e2:(((nB lo hi c).toNat:Nat):Int)- ((0:Nat):Int)=Builtin.Range.rangeSize lo hi c:=by have:=h.nn;unfold nB at this ⊢;lia
  show IsRangeIter _ _ (lo+((0:Nat):Int)*c) ((((nB lo hi c).toNat:Nat):Int)- ((0:Nat):Int)) c;rw[e1,e2];exact yav _ rfl
 ·have e:b=(s.heap.push { cls:= .type "range",data:= .fields #[.int lo t,.int hi u,.int c v] }).objs.size:=by simpa using hb
  subst e;exact I1.fpOk (yby _) (I1.hok.fresh (yby _))
noncomputable def zB (ta:WA):WI:=λτ G r=>ta τ G λws G1=>match ws with
 | [.int lo,.int hi,.int c]=>uz lo hi c/\r (sg lo c (nB lo hi c).toNat) (λ_=>True) G1
 | _=>False
theorem xE {ws:List W} {f:Int->Int->Int->Prop} (h:match ws with | [.int i,.int j,.int k]=>f i j k | _=>False):∃i j k,ws=[.int i,.int j,.int k]/\f i j k:=by
 rcases ws with _ | ⟨a,_ | ⟨b,_ | ⟨c,r⟩⟩⟩
 ·exact h.elim
 ·cases a<;> exact h.elim
 ·cases a with
  | int i=>cases b<;> exact h.elim
  | _=>exact h.elim
 ·cases a with
  | int i=>
    cases b with
    | int j=>
      cases c with
      | int k=>cases r with
        | nil=>exact⟨i,j,k,rfl,h⟩
        | cons _ _=>exact h.elim
      | _=>exact h.elim
    | _=>exact h.elim
  | _=>exact h.elim
theorem sj {a b c:Expr} {ta:WA} {p pos:Pos} (hg:Gl X "range") (hm:X.mg "range"=none) (ha:QA X [a,b,c] ta) (hs:starEach [a,b,c] X.env=[(false,eval a X.env),(false,eval b X.env),(false,eval c X.env)]:=by rfl) (hs2:starEach [b,c] X.env=[(false,eval b X.env),(false,eval c X.env)]:=by rfl):
 QI X tg (.Call (.Name "range" p) [a,b,c] [] pos) (zB ta):=by
 rintro π s σ H R I ⟨τ,G,r,hτ,hG,ht,hR⟩;refine Call_ (fo I hg hm boot_range (PyProof.Rows.callWith_type1 (bR (ha pos π s σ H (λvs H1=>∃ws G1,aM H H1/\aQ X.K H1 ws vs/\aI X.K H1 G1/\match ws with | [.int lo,.int hi,.int c]=>uz lo hi c/\r (sg lo c (nB lo hi c).toNat) (λ_=>True) G1 | _=>False) I ⟨τ,G,_,hτ,hG,ht,λvs H1 ws G1 t1 r1 g1 q1=>⟨ws,G1,t1,r1,g1,q1⟩⟩) λus s1 ⟨vs,H1,I1,ru,ws,G1,t1,r1,g1,q1⟩=>?_) (by rw[hs,hs2]) (by rw[hs2];rfl)));obtain⟨lo,hi,c,rfl,q1⟩:=xE q1;cases r1 with
 | cons ra rr=>
   cases ra;cases rr with
   | cons rb rr=>
     cases rb;cases rr with
     | cons rc rr=>
       cases rc;cases rr;cases ru with
       | cons va vv=>
         obtain⟨t,rfl⟩:=va;cases vv with
         | cons vb vv=>
           obtain⟨t',rfl⟩:=vb;cases vv with
           | cons vc vv=>
             obtain⟨t'',rfl⟩:=vc;cases vv;exact call_range_3 q1.1.ne (si I1 q1.1 (hR _ H1 _ _ G1 t1 g1 um q1.2)) (.inl (PyProof.noPylong_small q1.1.lo))
noncomputable def Fi (i j:Int):Prop:=0<=j/\j<=1000/\i.natAbs<2^4000
noncomputable def uA (i j:Int):Prop:=Ao i j∨Fi i j
noncomputable abbrev Dt:W2:=rZ uA λi j=> .int (i^j.toNat)
theorem xG:jk X (binaryOp .Pow) (rI uA λi j=> .int (i^j.toNat)):=Et λi j _ _ _ _ _ hc q=>by
 rcases hc with hc | ⟨h0,h1,h2⟩
 ·exact pow_int_small hc.1 hc.2.1 hc.2.2 q
 ·refine pow_int h0 ?_ q;have b1:=PyProof.Rows.intBits_le h2;have b2:(Builtin.Int.intBits i:Int)*j<=4000*1000:=Int.mul_le_mul (by lia) h1 h0 (by decide);have hb:(4000000:Int)<=bitsLine:=by decide
  first | lia | (simp[Builtin.Int.intTooBig];lia)
theorem AX:iC X (binaryOp .Pow) Dt:=ph xG
end
section
variable {X:Cx} {C:Addr} {th:WS} {x:Str} {p pos:Pos}
end
section
variable {X:Cx}
end
theorem iI:fillsNumberSlot (.type "tuple") "mul"=pure false:=
 PySem.fillsNumberSlot_seq (id:="tuple.__mul__") (r:=some (.builtin "tuple.__rmul__")) F.slot_tuple_mul.lookup (by decide+kernel) F.slot_tuple_rmul.lookup (by decide+kernel)
theorem mf:seqRepeat? (.type "tuple")=pure (some (.builtin "tuple.__mul__")):=by
 unfold seqRepeat?;rw[PySem.seqSlot_of (T:="tuple") (name:="__mul__") (id:="tuple.__mul__") F.slot_tuple_mul.lookup (by decide+kernel),PySem.seqSlot_of (T:="tuple") (name:="__rmul__") (id:="tuple.__rmul__") F.slot_tuple_rmul.lookup (by decide+kernel)]
 rfl
theorem jK (a:Int) (t:Tok) (l:Addr) (items:Array Value) (n:Nat) (dd:Option Addr) (sl:Array (Option Value)):
 Meets (Builtin.«int.__rmul__» ⟨[.int a t,.ref l],[]⟩) (λ_ R s=>s.heap.get? l=some { cls:= .type "tuple",dict:=dd,data:= .seq items n,slots:=sl }/\R (.ok (.ret Value.notImplemented)) s):=
 .of_wp λprog w A R s h=>by obtain⟨hp,g,d,tk,os⟩:=s;obtain⟨hl,h⟩:=h;wp_walk;exact⟨_,rfl,h⟩
theorem pF (l:Addr) (items:Array Value) (n:Nat) (dd:Option Addr) (sl:Array (Option Value)) (u:Tok):
 Meets (Builtin.«tuple.__mul__» ⟨[.ref l,.int 1 u],[]⟩) (λ_ R s=>s.heap.get? l=some { cls:= .type "tuple",dict:=dd,data:= .seq items n,slots:=sl }/\R (.ok (.ret (.ref l))) s):=
 .of_wp λprog w A R s h=>by
  obtain⟨hp,g,d,tk,os⟩:=s;obtain⟨hl,h⟩:=h
  wp_walk
  exact⟨_,rfl,h⟩
theorem pG (l:Addr) (items:Array Value) (n:Nat) (dd:Option Addr) (sl:Array (Option Value)) (x:Int) (u:Tok) (h0:items.isEmpty=false) (h1:(x==1)=false) (h2:0<x) (hf:(decide (x< -(2^63))||decide (x≥2^63))=false) (hm:decide ((items.size:Int)*x > (2^63-1)/8)=false) (ht:Builtin.Tuple.tupleTooMany ((items.size:Int)*x)=false) (hsz:((List.replicate x.toNat items).foldl (·++ ·) #[]).size<=sizeLine):
 Meets (Builtin.«tuple.__mul__» ⟨[.ref l,.int x u],[]⟩) (λ_ R s=>s.heap.get? l=some { cls:= .type "tuple",dict:=dd,data:= .seq items n,slots:=sl }/\R (.ok (.ret (.ref s.heap.objs.size))) { s with heap:=s.heap.push { cls:= .type "tuple",data:= .seq ((List.replicate x.toNat items).foldl (·++ ·) #[]) } }):=
 .of_wp λprog w A R s h=>by
  obtain⟨hp,g,d,tk,os⟩:=s;obtain⟨hl,h⟩:=h;have c1:(items.isEmpty||x==1)=false:=by rw[h0,h1];rfl
  have c2:(decide (x<=0)||items.isEmpty)=false:=by rw[h0,ycz (by lia)];rfl
  wp_walk
  refine wpAny_ite_false (by rw[hf];rfl) ?_
  wp_walk
  refine wpAny_ite_false hm ?_
  wp_walk
  exact⟨_,rfl,h⟩
theorem pH (l:Addr) (items:Array Value) (n:Nat) (dd:Option Addr) (sl:Array (Option Value)) (u:Tok) (h0:items.isEmpty=false):
 Meets (Builtin.«tuple.__mul__» ⟨[.ref l,.int 0 u],[]⟩) (λ_ R s=>s.heap.get? l=some { cls:= .type "tuple",dict:=dd,data:= .seq items n,slots:=sl }/\R (.ok (.ret (.ref s.heap.objs.size))) { s with heap:=s.heap.push { cls:= .type "tuple",data:= .seq #[] } }):=
 .of_wp λprog w A R s h=>by
  obtain⟨hp,g,d,tk,os⟩:=s;obtain⟨hl,h⟩:=h;have c1:(items.isEmpty||(0:Int)==1)=false:=by rw[h0];rfl
  wp_walk
  exact⟨_,rfl,h⟩
section
variable {X:Cx}
noncomputable def Du (K:yax):R2:=λx y H Q=>∃a k xs,x=.ref a/\y=.int k/\cY K H a xs/\xs≠[]/\0<=k/\k<=100000/\xs.length*k.toNat<=sizeLine/\
 (k=1->Q (.ref a) H)/\(k≠1->∀p,H p=none->Q (.ref p) (upd H p (.tup (List.replicate k.toNat xs).flatten)))
theorem xH:jk X (binaryOp .Mult) (Du X.K):=by
 intro π s σ H x y v u Q I rx ry h;obtain⟨a,k,xs,rfl,rfl,ha,hx,h0,h1,hz,q1,q2⟩:=h;cases rx;obtain⟨t,rfl⟩:=ry;obtain⟨its,r1,p1,_⟩:=I.tuple ha;have hl:=r1.length;obtain⟨⟨cls,dd,data,sl⟩,ho,hc,n,hd⟩:=id p1;simp only at hc hd;subst hc hd;have he:its.toArray.isEmpty=false:=by
  cases its with
  | nil=>exact absurd (r1.nil_iff.mp rfl) hx
  | cons _ _=>rfl
 refine wpAny_binaryOp_repeat_ref (T:="tuple") (U:="int") (by decide) ⟨_,ho,rfl⟩ (λs'=>typeIs_int s' k t) iI F.fills_int_mul F.slot_int_rmul mf F.slot_int_index.lookup
  (call_meets F.slot_int_rmul (typeIs_int s k t) F.entry_int_rmul (F.args_int_rmul_2 _ _) (jK k t a its.toArray n dd sl) ⟨ho,rfl,⟨_,ho,rfl⟩,?_⟩)
 by_cases hk1:k=1
 ·subst hk1;exact call_meets F.slot_tuple_mul ⟨_,ho,rfl⟩ F.entry_tuple_mul (F.args_tuple_mul_2 _ _) (pF a its.toArray n dd sl t) ⟨ho,⟨.ref a,H,I,rfl,q1 rfl⟩⟩
 ·by_cases hk0:k=0
  ·subst hk0;refine call_meets F.slot_tuple_mul ⟨_,ho,rfl⟩ F.entry_tuple_mul (F.args_tuple_mul_2 _ _) (pH a its.toArray n dd sl t he) ⟨ho,?_⟩;refine⟨.ref s.heap.objs.size,_,I.laid (t':=s.toks) (o:= .tup []) (λb ob q=>yaw _ q) (yby _) ?_,rfl,q2 (by decide) _ (I.hok.fresh (yby _))⟩;exact⟨zero_le _,[],.nil,IsTup.new _ _⟩
  ·have hsz:(its.toArray.size:Int)*k<=(sizeLine:Int):=by
    rw[size_toArray,←hl,←Int.toNat_of_nonneg h0]
    exact_mod_cast hz
   have hnew:List.foldl (λx1 x2=>x1++x2) #[] (List.replicate k.toNat its.toArray)=(List.replicate k.toNat its).flatten.toArray:=by
    have:=iA its k.toNat [];rw[nil_append] at this;exact this
   refine call_meets F.slot_tuple_mul ⟨_,ho,rfl⟩ F.entry_tuple_mul (F.args_tuple_mul_2 _ _) (pG a its.toArray n dd sl k t he (by simpa using hk1) (by lia) ?_ ?_ ?_ ?_) ⟨ho,?_⟩
   ·rw[ycz (by lia),ycz (by lia)];rfl
   ·refine ycz (Int.not_lt.mpr (ydx hsz ?_));decide
   ·unfold Builtin.Tuple.tupleTooMany;exact ycz (Int.not_lt.mpr hsz)
   ·rw[hnew,size_toArray,jr,Nat.mul_comm,←hl];exact hz
   ·rw[hnew];refine⟨.ref s.heap.objs.size,_,I.laid (t':=s.toks) (o:= .tup (List.replicate k.toNat xs).flatten) (λb ob q=>yaw _ q) (yby _) ?_,rfl,q2 hk1 _ (I.hok.fresh (yby _))⟩;exact⟨by rw[jr,Nat.mul_comm];exact hz,_,r1.rep k.toNat,IsTup.new _ _⟩
end
section
variable {X:Cx}
end
noncomputable abbrev xI:=Addr->cO->Gp->Prop
noncomputable def XP (X:Cx) (π:List (Addr×Obj)) (H:Hp) (ex:xI) (e:Value) (s':Shared):Prop:=
 ∃a T C H0 s0 σ H' τ G,e=.ref a/\aB X π σ H0 s0/\Fl X.prog X.w (eJ X.stack) H0 H' s0.heap s'.heap a T (.ref C) .none/\s'.os=s0.os/\AllBare s'.gens/\aM H H'/\bu X.K H' τ σ/\aI X.K H' G/\ex C τ G
noncomputable def QY (X:Cx) (st:Stmt) (t:xI->WS):Prop:=
 ∀(ex:xI) (π:List (Addr×Obj)) (s:Shared) (σ:St) (H:Hp) (D:fQ),aB X π σ H s->LS X.K (t ex) D σ H->wpAny (model X.prog X.w) X.A (exec st X.env) (SP X π D) (XP X π H ex) s
noncomputable def GW (X:Cx) (st:List Stmt) (t:xI->WS):Prop:=
 ∀(ex:xI) (π:List (Addr×Obj)) (s:Shared) (σ:St) (H:Hp) (D:fQ),aB X π σ H s->LS X.K (t ex) D σ H->wpAny (model X.prog X.w) X.A (execs st X.env) (SP X π D) (XP X π H ex) s
section
variable {X:Cx} {x:Str} {p pos:Pos}
theorem xJ {t:xI->WS} (h:QY X st t):GW X [st] t:=by
 intro ex π s σ H D I hl;refine wpAny_execs_cons (bR (h ex π s σ H D I hl) λf s1 q=>?_);cases f with
 | next=>exact wpAny_execs_nil q
 | ret v=>exact q
 | brk=>exact q
 | cont=>exact q
noncomputable def uB (i:Nat) (sp:bQ) (dws:List W) (t:WA):xI->WS:=λex d τ G=>t τ G λws G1=>sp (ws++dws) G1 (λv G2=>d.nx (τ.set i (some v)) G2) λc G2=>∀C,c=.ref C->ex C τ G2
theorem AY (i:Nat) {y:Str} {sp:bQ} {dws:List W} {t:WA} {cpos epos ypos:Pos} (hnx:∀e s,¬X.xe e s)
 (hN:X.N.Nodup) (hi:X.N[i]?=some y) (hy:wA X.env.scope y)
 (F:Rx X.prog X.w X.K X.mg X.base x ps k sp dws) (hr:aw k X.A) (hg:Gl X x) (ha:QA X (e::es) t) (hdb:(x==("__debug__":Str))=false:=by decide)
 (he:starEach (e::es) X.env=(false,eval e X.env)::starEach es X.env:=by rfl) (hpl:(backTo cpos (starEach es X.env)).any (·.1)=false:=by rfl) (hsw:swapsWith (.Call (.Name x p) (e::es) [] cpos) (some (.Name y ypos)) epos.line X.env=pure false:=by rfl)
 (hf:X.fn y=true∨X.env.scope.names.lookup y=some .local:=by first | exact .inl rfl | exact .inr rfl | assumption):
 QY X (.Assign [.Name y ypos] (.Call (.Name x p) (e::es) [] cpos) epos) (uB i sp dws t):=by
 rintro ex π s σ H D I ⟨τ,G,d,rs,rg,ht,l⟩;obtain⟨f,fd,ds,dvs,F,hm,hk,hb,hd,hrep⟩:=F;refine wpAny_Assign_Name (wpAny_Call_Name_kw (fG I hg hm ?_ hdb)) hsw;have go:=ha cpos π s σ H (λvs H1=>wB X.K sp (vs++dvs) H1 (λv H2=>D.nx (σ.set i (some v)) H2) λc _ H2=>∀C,c=.ref C->aM H H2/\∃G2,bu X.K H2 τ σ/\aI X.K H2 G2/\ex C τ G2) I ⟨τ,G,_,rs,rg,ht,λvs H1 ws G1 t1 r1 g1 q1=>
  ⟨ws++dws,G1,_,_,r1.append (hrep H1),g1,q1,λv H2 w G2 t2 r2 g2 q2=>l.nx _ H2 _ G2 (t1.trans t2) ((rs.mono (t1.trans t2)).set r2 i) g2 q2,
    λc dd H2 G2 t2 g2 q2 C ec=>⟨t1.trans t2,G2,rs.mono (t1.trans t2),g2,q2 C ec⟩⟩⟩
 refine callWith_K (h₀:=X.base) I.ok.mod.kin hk (wpAny_mono go (λus s1 h1=>?_) λe s1 z=>(hnx e s1 z).elim) he hpl;obtain⟨vs,H1,I1,r,q⟩:=h1;refine⟨I1.kIn,?_⟩;have r2:aU (vs++dvs) (us++ds):=r.append hd;have hl:(us++ds).length=ps.length:=by rw[←r2.length];exact F.len _ _ _ _ q
 refine wpAny_call (codeAny_mono (F.run X.A X.stack s1 H1 ⟨us,[]⟩ (us++ds) (vs++dvs) _ _ hr I1.env0 (hb s1 us I1.kIn hl) r2 q) λr s' hq=>?_);cases r with
 | ok fl=>
   cases fl with
   | ret u=>
     obtain⟨v,H',I',rv,q'⟩:=I1.after hq;exact jz I' hN hi hy rv (λs2 I2=>⟨_,H',I2,q'⟩) hf
   | next=>exact False.elim hq
   | brk=>exact False.elim hq
   | cont=>exact False.elim hq
 | error e=>
   obtain⟨a,T,C',H',rfl,os,bare,F1,hx⟩:=hq;obtain⟨tl,G2,rs2,rg2,hx⟩:=hx C' rfl;exact⟨a,T,C',H1,s1,σ,H',τ,G2,rfl,I1,F1,os,bare,tl,rs2,rg2,hx⟩
noncomputable def zC (t:xI->WS) (cs:List (Addr×WS)):WS:=λd τ G=>t (λC τ1 G1=>∃th,(C,th)∈cs/\th d τ1 G1) d τ G
theorem xK {h0:ExceptHandler} {hs:List ExceptHandler} {t:xI->WS} {cs:List (Addr×WS)} (hst:X.stack=X.env::X.outer) (hfr:X.env.frame=some X.env.locals) (hb:GW X body t) (hh:∀c,c∈cs->QH X c.1 (h0::hs) c.2):
 QS X (.Try body (h0::hs) [] [] pos) (zC t cs):=by
 rintro π s σ H D I ⟨τ,G,d,rs,rg,ht,l⟩;refine wpAny_Try_except (wpAny_mono (hb _ π s σ H D I ⟨τ,G,d,rs,rg,ht,l⟩) (λf s1 q=>?_) λe s' hx=>?_)
 ·cases f with
  | next=>exact wpAny_execs_nil q
  | ret v=>exact q
  | brk=>exact q
  | cont=>exact q
 ·obtain⟨a,T,C,H1,s1,σ1,H',τ1,G1,rfl,I1,F1,os,bare,tl,rs1,rg1,th,hc,hx⟩:=hx;have I':=F1.inv I1 os bare;obtain⟨a0,tr⟩:=F1.traced;refine wpAny_noteFrame_onW (base:=hideAll s'.heap (a::T::eJ X.stack)) (outer:=X.outer) (by rw[←hst];exact I'.ok.frames) (by rw[←hst];exact fu I'.stack λb z=> .tail _ (.tail _ z)) hfr tr (λb o q=>of_hideAll _ q) (hideAll_none _ (.head _)) λh2 N2=>?_;obtain⟨k1,_,k3,k4⟩:=N2;obtain⟨T2,F2⟩:=F1.move I'.frmem k1 k3 k4;refine Fl.lands (s:={ s' with heap:=h2 }) F2 I1 os bare λh3 T3 F3=>?_;exact hh _ hc π s1 σ1 H1 { s' with heap:=h3 } H' a T3 D I1 F3 os bare ⟨τ1,G1,d,rs1,rg1,hx,l.mono tl⟩
theorem xL {hs:List ExceptHandler}:∀c:Addr×WS,c∈([]:List (Addr×WS))->QH X c.1 hs c.2:=λ_ h=>nomatch h
theorem uC {hs:List ExceptHandler} {C:Addr} {th:WS} {cs:List (Addr×WS)} (h1:QH X C hs th) (h2:∀c:Addr×WS,c∈cs->QH X c.1 hs c.2):∀c:Addr×WS,c∈(C,th)::cs->QH X c.1 hs c.2:=λc h=>by
 rcases mem_cons.mp h with z | z
 ·rw[z];exact h1
 ·exact h2 c z
end
theorem slot_rv_next:Slot "reversed" "__next__" "reversed.__next__":=
 .of (owner:="reversed") (n:="__next__") (by rw[typeLookup_type,builtinLookup_eq_fast];kernel_rfl) (by decide+kernel) (by decide+kernel) (by decide+kernel)
  (by first | exact .inl (by decide+kernel) | exact .inr (by decide+kernel)) (by rw[isSubtype_type];kernel_rfl)
theorem fX:entryFor table "reversed.__next__"=some Builtin.«reversed.__next__»:=entryFor_of_tree (by kernel_rfl)
theorem hJ (a:Value):argsOk "reversed.__next__" ⟨[a],[]⟩:=by unfold argsOk;kernel_rfl
theorem ia:Slot "reversed" "__iter__" "reversed.__iter__":=
 .of (owner:="reversed") (n:="__iter__") (by rw[typeLookup_type,builtinLookup_eq_fast];kernel_rfl) (by decide+kernel) (by decide+kernel) (by decide+kernel)
  (by first | exact .inl (by decide+kernel) | exact .inr (by decide+kernel)) (by rw[isSubtype_type];kernel_rfl)
theorem mh (a:Value):argsOk "reversed.__iter__" ⟨[a],[]⟩:=by unfold argsOk;kernel_rfl
theorem ky:entryFor table "reversed.__iter__"=some Builtin.«dict_keyiterator.__iter__»:=
 entryFor_alias (id':="dict_keyiterator.__iter__") (by kernel_rfl) (by first | rfl | decide+kernel | (unfold String.splitOn;simp+decide [String.splitOnAux])) (by decide+kernel) (by kernel_rfl)
theorem mj:Slot "reversed" "__init__" "object.__init__":=
 .of (owner:="object") (n:="__init__") (by rw[typeLookup_type,builtinLookup_eq_fast];kernel_rfl) (by decide+kernel) (by decide+kernel) (by decide+kernel)
  (by first | exact .inl (by decide+kernel) | exact .inr (by decide+kernel)) (by rw[isSubtype_type];kernel_rfl)
theorem sk:TypeCalled "reversed" "reversed.__new__" "object.__init__":=
 ⟨by decide+kernel,by decide+kernel,⟨_,_,F.mro_reversed⟩,F.made_reversed,by decide+kernel,by rw[isSubtype_type];kernel_rfl,mj⟩
theorem so:typeLookup (.type "tuple") "__reversed__"=pure none:=by (rw[typeLookup_type,builtinLookup_eq_fast]);kernel_rfl
theorem pI:isSubtype (.type "tuple") (.type "dict")=pure false:=by rw[isSubtype_type];kernel_rfl
noncomputable def qC (a:Addr) (i:Int):Obj:={ cls:= .type "reversed",data:= .fields #[.ref a,rawInt i] }
noncomputable def iJ (h:Heap) (it a:Addr) (i:Int):Prop:=∃o,h.get? it=some o/\o.cls=.type "reversed"/\o.data=.fields #[.ref a,rawInt i]
theorem iJ.at {h h':Heap} {it a:Addr} {i:Int} (x:iJ h it a i) (e:∀o,h.get? it=some o->h'.get? it=some o):iJ h' it a i:=let ⟨o,ho,r⟩:=x;⟨o,e _ ho,r⟩
theorem kz {i n:Nat} (h:i<n):seqIndex? (i:Int) n=some i:=by
 unfold seqIndex?;have h0:¬((i:Int)<0):=by lia
 have h1:(0:Int)<=(i:Int):=by lia
 have h2:(i:Int)<(n:Int):=by lia
 simp only[h0,if_false,h1,h2,decide_true,Bool.and_true,if_true,Int.toNat_natCast]
section
variable {prog:Program} {w:World} {A:Around} {E:ydz} {s:Shared}
theorem iJ.typeIs {it a:Addr} {i:Int} (x:iJ s.heap it a i):s.TypeIs (.ref it) "reversed":=let ⟨o,ho,hc,_⟩:=x;⟨o,ho,hc⟩
theorem fR {l:Addr} (hl:IsTup s.heap l items) (hfit:(items.size:Int)<2^63)
 (h:∀tk,Q (.ref s.heap.objs.size) { s with heap:=s.heap.push (qC l ((items.size:Int)-1)),toks:=tk }):wpAny (model prog w) A (call (.type "reversed") [.ref l]) Q E s:=by
 refine callType_new sk (by decide) (F.typeCall_reversed_1 _) (F.newCall_reversed_1 _) (λobj=>F.args_object_init_2 obj _) F.entry_reversed_new
  (S:=λA R s1=>s1=s/\∀tk,R (.ok (.ret (.ref s.heap.objs.size))) { s with heap:=s.heap.push (qC l ((items.size:Int)-1)),toks:=tk }) ?_ ⟨rfl,λtk=>⟨⟨_,yav _ rfl,rfl⟩,h tk⟩⟩
 refine .of_wp λprog w A R s1 hs=>?_;obtain⟨rfl,hs⟩:=hs;unfold Builtin.«reversed.__new__»;refine wax (wpAny_of_eq (newClass_reversed _) ?_)
 try dsimp only
 refine wax (wpAny_of_eq (a:=()) (by first | rfl | kernel_rfl) ?_);refine wax (wpAny_of_eq (a:=()) (by first | rfl | kernel_rfl) ?_)
 try dsimp only
 refine wax (wpAny_specialOf hl.typeIs so ?_)
 try dsimp only
 k_delta "hasItemSlot"
 refine wax (wax (wpAny_isInstance hl.typeIs pI ?_));simp only[Bool.false_eq_true,if_false];refine wax (wpAny_specialOf hl.typeIs slot_tuple_getitem.lookup ?_)
 try dsimp only
 rw[ycx (by decide)];refine way ?_;simp only[Bool.not_true,Bool.false_eq_true,if_false];refine wax (len_tuple hl hfit ?_);refine wax (wpAny_of_eq (a:=some (items.size:Int)) rfl ?_)
 try dsimp only
 unfold Builtin.SmallTypes.newRecord;refine wax (wpAny_newObj_type (way ⟨_,rfl,?_⟩));exact hs _
theorem kU {it l:Addr} {i:Int} (hit:iJ s.heap it l i) (h:Q (.ref it) s):wpAny (model prog w) A (pyIter (.ref it)) Q E s:=by
 refine wpAny_pyIter_slot hit.typeIs ia (wpAny_call_entry ia hit.typeIs ky ?_ (mh _));show wpAny _ _ (ret (.ref it)) _ _ s;exact way ⟨_,rfl,"reversed",_,hit.typeIs,slot_rv_next.lookup,h⟩
theorem xM {it l:Addr} {x:Value} {Q:Option Value->Shared->Prop} (hit:iJ s.heap it l (i:Int)) (hl:IsTup s.heap l items) (hi:(i:Int)<2^63) (hx:items[i]?=some x)
 (hQ:∀h' tk,iJ h' it l ((i:Int)-1)->Heap.SameBut it s.heap h'->Q (some x) { s with heap:=h',toks:=tk }):wpAny (model prog w) A (pyNext (.ref it)) Q E s:=by
 obtain⟨o,ho,hc,hd⟩:=id hit;unfold pyNext;refine wax (wpAny_attempt (wpAny_callSpecial?_slot (name:=Str.ofString "__next__") hit.typeIs slot_rv_next
  (wpAny_call_entry slot_rv_next hit.typeIs fX ?_ (hJ _))))
 unfold Builtin.«reversed.__next__»;refine wax (wpAny_of_eq (a:=(Value.ref it,[])) rfl ?_)
 try dsimp only
 refine wax (wpAny_field ho hd (x:= .ref l) rfl ?_);refine wax (wpAny_field ho hd (x:=rawInt (i:Int)) rfl ?_);show wpAny _ _ (if (i:Int)<0 then _ else _) _ _ s;rw[ybv (by lia)];refine wax (wpAny_specialOf hl.typeIs slot_tuple_getitem.lookup ?_);simp only[Option.isNone_some,Bool.false_eq_true,if_false];refine wax (wpAny_mkInt ?_);have hz:i<items.size:=by
  rcases lt_or_ge i items.size with h | h
  ·exact h
  ·rw[Array.getElem?_eq_none h] at hx;cases hx
 have hl':IsTup ({ s with toks:=s.toks+1 }:Shared).heap l items:=hl;refine wax (wpAny_attempt (getItem_tuple (s:={ s with toks:=s.toks+1 }) hl' (by lia) hi (kz hz) hx ?_))
 try dsimp only
 refine wax (wpAny_field (s:={ s with toks:=s.toks+1 }) ho hd (x:=rawInt (i:Int)) rfl ?_);refine wax (wpAny_setField (s:={ s with toks:=s.toks+1 }) ho hd (by simp) ?_);refine way ⟨x,rfl,way (hQ _ _ ?_ (Heap.SameBut.update ..))⟩;exact⟨_,Heap.get?_update_self _ ho (Obj.isFreed_of_fields (Obj.data_mapFields hd _)),(Obj.cls_mapFields ..).trans hc,by
  rw[Obj.data_mapFields hd];simp⟩
theorem nD {it l:Addr} {Q:Option Value->Shared->Prop} (hh:A.handled=none) (hit:iJ s.heap it l (-1))
 (hQ:∀h',Heap.ExtBut it s.heap h'->Q none { s with heap:=h' }):wpAny (model prog w) A (pyNext (.ref it)) Q E s:=by
 obtain⟨o,ho,hc,hd⟩:=id hit;unfold pyNext;refine wax (wpAny_attempt (wpAny_callSpecial?_slot (name:=Str.ofString "__next__") hit.typeIs slot_rv_next
  (wpAny_call_entry slot_rv_next hit.typeIs fX ?_ (hJ _))))
 unfold Builtin.«reversed.__next__»;refine wax (wpAny_of_eq (a:=(Value.ref it,[])) rfl ?_)
 try dsimp only
 refine wax (wpAny_field ho hd (x:= .ref l) rfl ?_);refine wax (wpAny_field ho hd (x:=rawInt (-1)) rfl ?_);show wpAny _ _ (if (-1:Int)<0 then _ else _) _ _ s;rw[ycx (by decide)];refine wax (wpAny_rule ?_)
 k_delta "reversedEnd"
 refine wax (wax (wpAny_setField ho hd (by simp) ?_));have ho1:=Heap.get?_update_self (h:=s.heap) (λo:Obj=>o.mapFields λvs=>vs.set! 1 (rawInt (-1))) ho (Obj.isFreed_of_fields (Obj.data_mapFields hd _));refine wpAny_setField ho1 (Obj.data_mapFields hd _) (by simp) ?_;unfold Builtin.SmallTypes.stopIteration;refine wax ?_
 first
 | show wpAny _ _ (newExc (.type "StopIteration") [] >>= _) _ _ _
 | (refine wax ?_;show wpAny _ _ (newExc (.type "StopIteration") [] >>= _) _ _ _)
 refine wax ?_;simp only[newExc,newTuple];refine wax (wpAny_newObj_type ?_ (by size_fits));refine wax (m:=firstArgMember _ _) (wpAny_of_eq (a:=Value.none) (by first | rfl | (simp only[firstArgMember];rfl)) ?_);refine wpAny_newObj_type ?_ (by size_fits);simp only[raiseNew];refine wax (wpAny_handled ?_)
 first | rw[show A.in1.handled=none from hh] | rw[hh]
 refine wax (way (wpAny_throw ?_));refine wax (wpAny_isInstance (T:="StopIteration") (b:=true) ⟨_,yav _ rfl,rfl⟩ isSubtype_stop ?_);refine way (hQ _ ((Heap.ExtBut.push (Heap.ExtBut.push ?_ _) _)));exact λb o hb e=>((Heap.SameBut.update _ _ _).2 b hb).trans (((Heap.SameBut.update _ _ _).2 b hb).trans e)
end
noncomputable def GX (K:yax) (a:Addr) (n:Nat):It:=
 ⟨λi H=>∃xs x,cY K H a xs/\xs.length=n/\i<n/\xs[n-1-i]?=some x,λi H x H'=>H'=H/\∀xs,cY K H a xs->xs[n-1-i]?=some x,λi H=>∃xs,cY K H a xs/\xs.length=n/\n<=i⟩
theorem xN {tg:Expr} (a it:Addr) (n:Nat) (hn:(n:Int)<2^63):kt P w K tg (GX K a n) [it] it (λi h=>i<=n/\iJ h it a ((n:Int)-1- (i:Int))) where
 mem:=by simp
 obj:=λi h st b hb=>by
  have e:b=it:=by simpa using hb
  subst e;obtain⟨_,o,e,c,d⟩:=st;exact⟨o,e,λv z=>by rw[d] at z;cases z⟩
 keep:=λi h h' st k=>⟨st.1,st.2.at λo e=>k it (by simp) o e⟩
 item:=by
  intro X hP hw hK hc i π s σ H E I hf st hg;subst hP hw hK;obtain⟨xs,x,hq,hl,hi,hx⟩:=hg;obtain⟨its,rv,p,hz⟩:=I.tuple hq;obtain⟨u,hu,ru⟩:=rv.get hx;obtain⟨f0,f1,f2,f3,f4,f5⟩:=hf it (by simp);have st1:iJ s.heap it a ((n-1-i:Nat):Int):=by have:=st.2;rw[show(n:Int)-1- (i:Int)=((n-1-i:Nat):Int) by lia] at this;exact this
  refine xM st1 p (by lia) (x:=u) (by simpa using hu) λh' tk st' sb=>?_;have I1:aB X π σ H { s with heap:=h',toks:=tk }:=I.turned (t':=tk) (λb o hb e=>(sb.2 b hb).trans e) f0 f1 f3 f4 f5;obtain⟨o,e,c,d⟩:=id st';exact⟨u,rfl,jA (s:={ s with heap:=h',toks:=tk }) e c d (by decide) ⟨x,H,I1,ru,⟨rfl,λys hy=>by rw[I.tuple_inj hy hq];exact hx⟩,⟨by assumption,by rw[show(n:Int)-1- ((i+1:Nat):Int)=((n-1-i:Nat):Int)-1 by lia];exact st'⟩,λb hb=>(hf b hb).1⟩⟩
 done:=by
  intro X hP hw hK hc i π s σ H E I hf st hg;subst hP hw hK;obtain⟨xs,hq,hl,hi⟩:=hg;obtain⟨f0,f1,f2,f3,f4,f5⟩:=hf it (by simp);have st1:iJ s.heap it a (-1):=by have:=st.2;rw[show(n:Int)-1- (i:Int)= -1 by have:=st.1;lia] at this;exact this
  exact nD (I.ok.hd hc) st1 λh' eb=>⟨rfl,I.turned (t':=s.toks) (λb o hb e=>eb b o hb e) f0 f1 f3 f4 f5⟩
 self:=λ_ _ _ _ _ st h=>kU st.2 h
theorem AZ {ws:List W} {xs:List V} {H:Hp} (h:H a=some (.tup xs)) (r:aQ K H ws xs):px K (GX K a xs.length) ws.reverse (λ_=>True) H where
 stop:=λi H1 G t g _ hl=>⟨xs,cY.of (t.tup _ _ h),rfl,by rw[←r.length];simpa using hl⟩
 go:=λi w H1 G t g _ e=>by
  have hl:=r.length;have hi:i<ws.length:=by
   rcases lt_or_ge i ws.length with z | z
   ·exact z
   ·rw[List.getElem?_eq_none (by simpa using z)] at e;cases e
  rw[List.getElem?_reverse hi] at e;obtain⟨v,e1,rv⟩:=r.get e;rw[hl] at e1;refine⟨⟨xs,v,cY.of (t.tup _ _ h),rfl,by lia,e1⟩,λx H' z9=>?_⟩;obtain⟨eH,hy⟩:=z9;subst eH;have e2:=hy xs (cY.of (t.tup _ _ h));rw[e1] at e2;cases e2;exact⟨aM.refl _,rv.mono t,g⟩
noncomputable def Dv (ta:WA):WI:=λτ G r=>ta τ G λws G1=>match ws with
 | [.tup xs]=>r xs.reverse (λ_=>True) G1
 | _=>False
theorem qD:bootBuiltins "reversed"=some (.type "reversed"):=by decide+kernel
theorem A0 {X:Cx} {tg a:Expr} {ta:WA} {p pos:Pos} (hg:Gl X "reversed") (hm:X.mg "reversed"=none) (ha:QA X [a] ta) (hs:starEach [a] X.env=[(false,eval a X.env)]:=by rfl):
 QI X tg (.Call (.Name "reversed" p) [a] [] pos) (Dv ta):=by
 rintro π s σ H R I ⟨τ,G,r,hτ,hG,ht,hR⟩;refine Call_ (fo I hg hm qD (PyProof.Rows.callWith_type1 (bR (ha pos π s σ H (λvs H1=>∃ws G1,aM H H1/\aQ X.K H1 ws vs/\aI X.K H1 G1/\match ws with | [.tup xs]=>r xs.reverse (λ_=>True) G1 | _=>False) I ⟨τ,G,_,hτ,hG,ht,λvs H1 ws G1 t1 r1 g1 q1=>⟨ws,G1,t1,r1,g1,q1⟩⟩) λus s1 ⟨vs,H1,I1,ru,ws,G1,t1,r1,g1,q1⟩=>?_) (by rw[hs];rfl) (by rfl)));split at q1
 ·rename_i xs;cases r1 with
  | cons ra rn=>
    cases rn;cases ra with
    | @tup pa _ xs' ha' ra=>
      cases ru with
      | cons w1 wn=>
        cases wn;cases (show _=Value.ref pa from w1);obtain⟨its,rv,p1,hz⟩:=I1.tuple (cY.of ha');have hl:=rv.length;have hsz:xs'.length<=9223372036854775807:=by
         have:sizeLine<=9223372036854775807:=by decide
         lia
        refine fR p1 (by simp;lia) λtk=>?_;have st0:iJ (s1.heap.push (qC pa ((its.toArray.size:Int)-1))) s1.heap.objs.size pa ((xs'.length:Int)-1- ((0:Nat):Int)):=⟨_,yav _ rfl,rfl,by
         rw[show((xs'.length:Int)-1- ((0:Nat):Int))=(its.toArray.size:Int)-1 by simp;lia];rfl⟩
        refine kU (s:={ s1 with heap:=s1.heap.push (qC pa ((its.toArray.size:Int)-1)),toks:=tk }) st0 ?_;refine⟨s1.heap.objs.size,[s1.heap.objs.size],_,_,H1,rfl,I1.kept (t':=tk) λb o e=>yaw _ e,xN pa _ xs'.length (by lia),⟨zero_le _,st0⟩,λb hb=>?_,hR _ H1 _ _ G1 t1 g1 (AZ ha' ra) q1⟩;have e:b=s1.heap.objs.size:=by simpa using hb
        subst e;exact I1.fpOk (yby _) (I1.hok.fresh (yby _))
 ·exact q1.elim
section
variable {prog:Program} {w:World} {A:Around} {E:ydz} {s:Shared}
end
mutual
noncomputable def W.ge:W->W->Bool
 | .int i,.int j=>decide (i≥j)
 | .tup xs,.tup ys=>W.ges xs ys
 | _,_=>false
noncomputable def W.ges:List W->List W->Bool
 | [],[]=>true
 | [],_::_=>false
 | _::_,[]=>true
 | x::xs,y::ys=>if W.eq x y=true then W.ges xs ys else W.ge x y
end
noncomputable def Fj (A:Around) (s:Shared) (y x:Value) (b:Bool):Prop:=
 ∀(prog:Program) (w:World) (E:ydz) (Q:ydz),Q (.bool b) s->wpAny (model prog w) A (richCompare .GtE y x) Q E s
inductive sr (A:Around) (s:Shared):List Value->List Value->Bool->Prop where
 | nn:sr A s [] [] true
 | nc {y:Value} {ys:ydw}:sr A s [] (y::ys) false
 | cn {x:Value} {xs:ydw}:sr A s (x::xs) [] true
 | eq {x y:Value} {xs ys:ydw} {r:Bool} (h:SeqAt.EqAt A s x y true) (t:sr A s xs ys r):sr A s (x::xs) (y::ys) r
 | ne {x y:Value} {xs ys:ydw} {r:Bool} (h:SeqAt.EqAt A s x y false) (t:Fj A s x y r):sr A s (x::xs) (y::ys) r
section
open PySem.SeqAt
open PySem.AutoSeq1 (wpAny_loadPart')
open PySem.MeetsSeq PySem.MeetsSeq2 PySem.MeetsSeq3
end
section
variable {X:Cx} {π:List (Addr×Obj)} {σ:St} {H:Hp} {s:Shared}
end
section
variable {X:Cx}
noncomputable def Fk:W2:=λx y G q=>match x,y with
 | .int i,.int j=>q (.bl (decide (i≥j))) G
 | .tup xs,.tup ys=>W.flats xs=true/\W.flats ys=true/\W.deps xs<=149/\W.ords xs ys=true/\q (.bl (W.ges xs ys)) G
 | _,_=>False
end
section
variable {X:Cx}
end
section
variable {prog:Program} {w:World} {A:Around} {E:ydz} {h:Heap} {g:Array GenState} {d:Drawn} {t:Nat} {os:OsState} {a C:Addr} {o:Obj} {K:yax} {bm:ydw}
end
section
variable {prog:Program} {w:World} {A:Around} {E:ydz} {s:Shared} {a C D:Addr} {o:Obj} {K:yax} {bm:ydw}
end
section
variable {X:Cx} {a:Addr} {oe:Obj} {C D:Addr} {bm:ydw}
end
section
variable {prog:Program} {w:World} {A:Around} {E:ydz} {s:Shared} {I l:Addr} {items:Array Value}
end
section
variable {X:Cx}
end
section
variable {X:Cx}
end
section
variable {X:Cx} {π:List (Addr×Obj)} {σ:St} {H0 H:Hp} {s0 s:Shared} {a T C D:Addr}
variable {bm bmD:ydw} {x:Str} {p pos:Pos} {name:Option Str} {body:List Stmt} {bt:List ExceptHandler} {b0:Stmt} {th:WS}
end
structure Dw (k:Nat) (A:Around):Prop where
 dp:A.depth+3*k+5<recursionLimit
 un:A.units+16*k+200<cLine
structure Iu (P:Program) (w:World) (K:yax) (mg:ydv) (base:Heap) (CX:oW) (k:Nat) (f:Addr) (fd:FuncData) (ps:List Str) (sp:Sp):Prop where
 len:∀vs H Q E,sp vs H Q E->vs.length=ps.length
 run:∀(A:Around) (outer:List Env) (s:Shared) (H:Hp) (args:Args) (us:ydw) (vs:List V) (Q:VK) (E:XK),Dw k A->mZ P w K mg base A outer s H->BindsTo s fd args (ps.zip us)->aU vs us->sp vs H Q E->
  codeAny (model P w) A (.call (.ref f) args) (CR CX outer P w H s Q E) s
section
variable {X:Cx}
end
section
variable {P:Program} {w:World} {K:yax} {mg:ydv} {base:Heap} {k:Nat} {f:Addr} {fd:FuncData} {ps:List Str} {sp sp':bQ}
theorem ca.toR (F:ca P w K mg base k f fd ps sp):xB P w K mg base k f fd ps sp:=by
 refine⟨F.len,λA outer s H args us vs Q E hr he hb hv hs=>?_⟩;refine codeAny_mono (F.run A outer s H args us vs Q E hr he hb hv hs) λr s' hq=>?_;cases r with
 | ok fl=>
   cases fl with
   | ret u=>exact hq
   | next=>exact hq
   | brk=>exact hq
   | cont=>exact hq
 | error e=>exact False.elim hq
end
theorem aM.ins {H:Hp} {p C dx:Addr} {fs:List (Str×V)} (hp:H p=some (.ins C dx fs)) (o:HO):aM H (upd H p o):=
 ⟨λ_ _ h=>by rw[aG (fS h hp (by intro z;cases z))];exact h,λ_ _ _ h=>by rw[aG (fS h hp (by intro z;cases z))];exact h⟩
noncomputable def nE (f:Str) (v:W):List (Str×W)->List (Str×W)
 | []=>[(f,v)]
 | (g,x)::r=>if g=f then (g,v)::r else (g,x)::nE f v r
section
variable {K:yax} {H:Hp}
theorem jd {f:Str} {w:W}:∀{fs:List (Str×W)} {fs':List (Str×V)},fs'.map (·.1)=fs.map (·.1)->aQ K H (fs.map (·.2)) (fs'.map (·.2))->fs.lookup f=some w->∃v,fs'.lookup f=some v/\bK K H w v
 | [],_,_,_,e=>by cases e
 | (g,x)::r,[],n,_,_=>by cases n
 | (g,x)::r,(g',x')::r',n,rs,e=>by
   rw[map_cons,map_cons,List.cons.injEq] at n;obtain⟨n1,n2⟩:=n;have n1:g'=g:=n1;subst n1;cases rs with
   | cons r1 r2=>
     rw[lookup_cons] at e ⊢;cases h:f==g' with
     | true=>rw[h] at e;cases e;exact⟨x',rfl,r1⟩
     | false=>rw[h] at e;exact jd n2 r2 e
theorem fM {f:Str}:∀{fs:List (Str×W)} {fs':List (Str×V)},fs'.map (·.1)=fs.map (·.1)->fs.lookup f=none->fs'.lookup f=none
 | [],[],_,_=>rfl
 | [],_::_,n,_=>by cases n
 | _::_,[],n,_=>by cases n
 | (g,x)::r,(g',x')::r',n,e=>by
   rw[map_cons,map_cons,List.cons.injEq] at n;obtain⟨n1,n2⟩:=n;have n1:g'=g:=n1;subst n1;rw[lookup_cons] at e ⊢;cases h:f==g' with
   | true=>rw[h] at e;cases e
   | false=>rw[h] at e;exact fM n2 e
theorem nF {f:Str} {w:W} {v:V} (rv:bK K H w v):∀{fs:List (Str×W)} {fs':List (Str×V)},fs'.map (·.1)=fs.map (·.1)->aQ K H (fs.map (·.2)) (fs'.map (·.2))->(et f v fs').map (·.1)=(nE f w fs).map (·.1)/\aQ K H ((nE f w fs).map (·.2)) ((et f v fs').map (·.2))/\(nE f w fs).length<=fs.length+1
 | [],[],_,_=>⟨rfl,.cons rv .nil,yby _⟩
 | [],_::_,n,_=>by cases n
 | _::_,[],n,_=>by cases n
 | (g,x)::r,(g',x')::r',n,rs=>by
   rw[map_cons,map_cons,List.cons.injEq] at n;obtain⟨n1,n2⟩:=n;have n1:g'=g:=n1;subst n1;cases rs with
   | cons r1 r2=>
     obtain⟨a1,a2,a3⟩:=nF (f:=f) rv n2 r2;unfold et nE
     by_cases h:g'=f
     ·rw[ycx h,ycx h];refine⟨?_,.cons rv r2,by simp⟩;rw[map_cons,map_cons,n2]
     ·rw[ybv h,ybv h];refine⟨?_,.cons r1 a2,by simp;assumption⟩;rw[map_cons,map_cons,a1]
end
section
variable {X:Cx}
noncomputable def Dx (K:yax) (to:WE) (f:Str):WE:=λτ G q=>to τ G λx G1=>∃a C fs v,x=.ref a/\G1 a=some (.ins C fs)/\(dq K C/\ay K C f)/\fs.lookup f=some v/\q v G1
theorem bg {o:Expr} {to:WE} {f:Str} (ho:QE X o to) (hb:attributeBase o f X.env (eval o X.env)=eval o X.env:=by rfl):QE X (.Attribute o f pos) (Dx X.K to f):=
 (Au ho hb).imp λσ H Q z0=>z0.el λτ G q hs hg ht hQ=>⟨τ,G,_,hs,hg,ht,λv H1 w G1 t1 r1 g1 q1=>by
   obtain⟨a,C,fs,v',rfl,hG,hc,hl,q1⟩:=q1;cases r1;obtain⟨_,dx,fs',hH,hn,hr⟩:=g1 a _ hG;obtain⟨v2,hv2,rv2⟩:=jd hn hr hl;exact⟨a,C,dx,fs',v2,rfl,hH,hc.1,hc.2,hv2,hQ v2 H1 v' G1 t1 rv2 g1 q1⟩⟩
noncomputable def zD (K:yax) (to te:WE) (f:Str):WS:=λd τ G=>te τ G λy G1=>to τ G1 λx G2=>∃a C fs,x=.ref a/\G2 a=some (.ins C fs)/\(dq K C/\ay K C f)/\fs.length<100/\d.nx τ (aF G2 a (.ins C (nE f y fs)))
theorem cj {o e:Expr} {to te:WE} {f:Str} {pos pos':Pos} (ho:QE X o to) (he:QE X e te) (hs:swapsWith e (some (.Attribute o f pos')) pos.line X.env=pure false:=by rfl):QS X (.Assign [.Attribute o f pos'] e pos) (zD X.K to te f):=
 (Av ho he hs).imp λD σ H z0=>z0.el λτ G d rs rg ht l=>⟨τ,G,_,rs,rg,ht,λy H1 w G1 t1 r1 g1 q1=>⟨τ,G1,_,rs.mono t1,g1,q1,λv H2 w2 G2 t2 r2 g2 q2=>by
   obtain⟨a,C,fs,rfl,hG,hc,hlen,q2⟩:=q2;cases r2;obtain⟨_,dx,fs',hH,hn,hr⟩:=g2 a _ hG;obtain⟨a1,a2,a3⟩:=nF (f:=f) (r1.mono t2) hn hr;have tl:=aM.ins hH (.ins C dx (et f y fs'));have hlen':fs'.length=fs.length:=by simpa using congrArg List.length hn
   refine⟨a,C,dx,fs',rfl,hH,hc.1,hc.2,by lia,l.nx σ _ τ _ ((t1.trans t2).trans tl) (((rs.mono t1).mono t2).mono tl) (g2.lay (g:= .ins C (nE f w fs)) tl ⟨by lia,dx,_,aX,a1,a2.mono tl⟩) q2⟩⟩⟩
noncomputable def qE (C:Addr) (sp:bQ) (dws:List W) (t:WA):WE:=λτ G q=>t τ G λws G1=>∀p,G1 p=none->sp (.ref p::(ws++dws)) (aF G1 p (.ins C [])) (λv G2=>v=.non/\q (.ref p) G2) λ_ _=>False
theorem kx.make {C:Addr} {sp:bQ} {dws:List W} {dvs:List V} {t:WA} {σ:St} {H:Hp} {Q:VK} {E:XK} (hd:∀H,aQ K H dws dvs) (h:kx K (qE C sp dws t) σ H Q):zg C (wB K sp) dvs E (LA K t) σ H Q:=by
 obtain⟨τ,G,q,hs,hg,ht,hQ⟩:=h;refine⟨τ,G,_,hs,hg,ht,λvs H1 ws G1 t1 r1 g1 q1 x dx hx hdx hne=>?_⟩;have hdx':upd H1 dx (.own x) x=none:=by rw[aG (Ne.symm hne)];exact hx
 have tl:=(aM.new hdx (.own x)).trans (aM.new hdx' (.ins C dx []));have g2:aI K (upd (upd H1 dx (.own x)) x (.ins C dx [])) (aF G1 x (.ins C [])):=(g1.keep hdx (.own x)).lay (aM.new hdx' _) ⟨by simp,dx,[],aX,rfl,.nil⟩;exact⟨.ref x::(ws++dws),_,_,_,.cons (.ref x) ((r1.mono tl).append (hd _)),g2,q1 x (g1.fresh hx),λv H2 w G2 t2 r2 g2 q2=>by
  obtain⟨e,q2⟩:=q2;subst e;cases r2;exact⟨rfl,hQ _ H2 _ G2 ((t1.trans tl).trans t2) (.ref x) g2 q2⟩,λ_ _ _ _ _ _ z=>z.elim⟩
theorem xO {C f:Addr} {sp:bQ} {p pos:Pos} {t:WA} (M:Mk X.K C f) (F:ca X.prog X.w X.K X.mg X.base k f fd ps sp) (hr:aw (k+1) X.A) (hg:Gl X x) (hm:X.mg x=some (.ref C)) (hb:bJ X.K fd ps [])
 (ha:QA X (e::es) t) (hdb:(x==("__debug__":Str))=false:=by decide) (he:starEach (e::es) X.env=(false,eval e X.env)::starEach es X.env:=by rfl) (hpl:(backTo pos (starEach es X.env)).any (·.1)=false:=by rfl):
 QE X (.Call (.Name x p) (e::es) [] pos) (qE C sp [] t):=
 (wZ (dvs:=[]) M F hr hg hm hb .nil (kM (X:=X)) ha hdb he hpl).imp λ_ _ _ h=>kx.make (λ_=> .nil) h
noncomputable def kX (C:Addr) (m:Str) (sp:bQ) (dws:List W) (to:WE) (t:WA):WE:=λτ G q=>to τ G λx G1=>∃a fs,x=.ref a/\G1 a=some (.ins C fs)/\fs.lookup m=none/\t τ G1 λws G2=>sp (x::(ws++dws)) G2 q λ_ _=>False
theorem kx.meth {C:Addr} {m:Str} {sp:bQ} {dws:List W} {dvs:List V} {to:WE} {t:WA} {σ:St} {H:Hp} {Q:VK} {E:XK} (hd:∀H,aQ K H dws dvs) (h:kx K (kX C m sp dws to t) σ H Q):tG C m (wB K sp) dvs E (kx K to) (LA K t) σ H Q:=by
 obtain⟨τ,G,q,hs,hg,ht,hQ⟩:=h;refine⟨τ,G,_,hs,hg,ht,λx H1 w G1 t1 r1 g1 q1=>?_⟩;obtain⟨a,fs,rfl,hG,hl,q1⟩:=q1;cases r1;obtain⟨_,dx,fs',hH,hn,_⟩:=g1 a _ hG;refine⟨a,dx,fs',rfl,hH,fM hn hl,τ,G1,_,hs.mono t1,g1,q1,λvs H2 ws G2 t2 r2 g2 q2=>?_⟩;exact⟨.ref a::(ws++dws),G2,q,_,.cons (.ref a) (r2.append (hd _)),g2,q2,λv H3 w3 G3 t3=>hQ v H3 w3 G3 ((t1.trans t2).trans t3),λ_ _ _ _ _ _ z=>z.elim⟩
structure Mt (P:Program) (w:World) (K:yax) (mg:ydv) (base:Heap) (C:Addr) (m:Str) (ps:List Str) (k:Nat) (sp:bQ) (dws:List W):Prop where
 ex:∃(f:Addr) (fd:FuncData) (ds:ydw) (dvs:List V),rT K C m f/\ca P w K mg base k f fd ps sp/\bJ K fd ps ds/\aU dvs ds/\∀H,aQ K H dws dvs
 cl:dq K C
theorem mo {C:Addr} {m:Str} {sp:bQ} {dws:List W} {o e:Expr} {to:WE} {t:WA} {apos pos:Pos} {pl:Sem Bool} (ho:QE X o to) (M:Mt X.prog X.w X.K X.mg X.base C m ps k sp dws) (hr:aw k X.A) (ha:QA X (e::es) t)
 (hst:starEach (e::es) X.env=(false,eval e X.env)::starEach es X.env:=by rfl) (hpl:(backTo pos (starEach es X.env)).any (·.1)=false:=by rfl)
 (ht:eval (.Call (.Attribute o m apos) (e::es) [] pos) X.env=(do
   let ov ←eval o X.env
   standAt apos.atName
   let (f,first) ←holding [ov] (getMethod ov m pl)
   callWith pos f first (backTo pos (starEach (e::es) X.env)) (backToKw pos (keywordEach [] X.env))):=by rfl):QE X (.Call (.Attribute o m apos) (e::es) [] pos) (kX C m sp dws to t):=by
 obtain⟨⟨f,fd,ds,dvs,hm,F,hb,hd,hrep⟩,c⟩:=M;exact(qj (pl:=pl) ho c hm F hr hb hd (kM (X:=X)) ha hst hpl ht).imp λ_ _ _ h=>kx.meth hrep h
theorem nG {C:Addr} {m:Str} {sp:bQ} {dws:List W} {o:Expr} {to:WE} {apos pos:Pos} {pl:Sem Bool} (ho:QE X o to) (M:Mt X.prog X.w X.K X.mg X.base C m ps k sp dws) (hr:aw k X.A)
 (ht:eval (.Call (.Attribute o m apos) [] [] pos) X.env=(do
   let ov ←eval o X.env
   standAt apos.atName
   let (f,first) ←holding [ov] (getMethod ov m pl)
   callWith pos f first (backTo pos (starEach [] X.env)) (backToKw pos (keywordEach [] X.env))):=by rfl):QE X (.Call (.Attribute o m apos) [] [] pos) (kX C m sp dws to lU):=by
 obtain⟨⟨f,fd,ds,dvs,hm,F,hb,hd,hrep⟩,c⟩:=M;refine(tI (pl:=pl) ho c hm F hr hb hd (kM (X:=X)) ht).imp λσ H Q z0=>z0.el λτ G q hs hg ht hQ=>?_;refine⟨τ,G,_,hs,hg,ht,λx H1 w G1 t1 r1 g1 q1=>?_⟩;obtain⟨a,fs,rfl,hG,hl,q1⟩:=q1;cases r1;obtain⟨_,dx,fs',hH,hn,_⟩:=g1 a _ hG;exact⟨a,dx,fs',rfl,hH,fM hn hl,.ref a::([]++dws),G1,q,_,.cons (.ref a) (hrep _),g1,q1,λv H3 w3 G3 t3=>hQ v H3 w3 G3 (t1.trans t3),λ_ _ _ _ _ _ z=>z.elim⟩
noncomputable def A1 (to:WE):WE:=λτ G q=>to τ G λx G1=>match x with
 | .ref a=>∃ys y,G1 a=some (.lst (ys++[y]))/\q y (aF G1 a (.lst ys))
 | _=>False
theorem aQ.snoc {K:yax} {H:Hp}:∀{ys:List W} {y:W} {xs:List V},aQ K H (ys++[y]) xs->∃v,xs[xs.length-1]?=some v/\bK K H y v/\aQ K H ys xs.dropLast
 | [],y,xs,r=>by
   obtain⟨v,rfl,rv⟩:=r.one;exact⟨v,rfl,rv,.nil⟩
 | w::ys,y,_,.cons (v:=v) (vs:=vs) r rs=>by
   obtain⟨u,h1,h2,h3⟩:=aQ.snoc rs;have hl:=rs.length;cases vs with
   | nil=>simp at hl
   | cons v2 vs2=>
     refine⟨u,?_,h2,?_⟩
     ·simpa using h1
     ·rw[List.dropLast_cons₂];exact .cons r h3
theorem A2 {o:Expr} {to:WE} {apos cpos:Pos} (ho:QE X o to)
 (hbase:attributeBase o "pop" X.env (eval o X.env)=eval o X.env:=by rfl) (hline:(apos.endLine==cpos.line)=true:=by rfl):QE X (.Call (.Attribute o "pop" apos) [] [] cpos) (A1 to):=
 (AC PySem.F.plainAttrs_list PySem.F.slot_list_pop PySem.F.type_list_pop AD ho hbase hline).imp λσ H Q z0=>z0.el λτ G q hs hg ht hQ=>
   ⟨τ,G,_,hs,hg,ht,λv H1 w G1 t1 r1 g1 q1=>by
     split at q1
     ·rename_i a;cases r1;obtain⟨ys,y,e1,q1⟩:=q1;obtain⟨hl,xs',h1,rr⟩:=g1 a _ e1;obtain⟨u,hu,ru,rd⟩:=rr.snoc;refine⟨.inl ⟨rfl,xs',dm.of h1⟩,a,xs',u,rfl,rfl,h1,hu,?_⟩;have tl:=aM.lst h1 (.lst xs'.dropLast);exact hQ _ _ _ _ (t1.trans tl) (ru.mono tl) (g1.put tl rd (by simp at hl;lia)) q1
     ·exact q1.elim⟩
noncomputable def Fm:Stmt->List Stmt
 | .ClassDef _ _ _ b _ _ _ _ _ _ _=>b
 | _=>[]
noncomputable def Md (K:yax) (C:Addr) (m qual:Str) (st:Stmt) (ps:List Str):Prop:=∃(f:Addr) (fd:FuncData),rT K C m f/\cz K m qual st f fd/\bJ K fd ps []
noncomputable def wD (K:yax) (C:Addr) (qual:Str) (st:Stmt) (ps:List Str):Prop:=∃(f:Addr) (fd:FuncData),Mk K C f/\cz K "__init__" qual st f fd/\bJ K fd ps []
section
variable {P:Program} {w:World} {K:yax} {mg:ydv} {base:Heap} {C:Addr} {m qual:Str} {st:Stmt} {ps:List Str} {k:Nat} {sp:bQ} {dws:List W}
theorem Md.mt (D:Md K C m qual st ps) (c:dq K C) (h:∀(f:Addr) (fd:FuncData),cz K m qual st f fd->ca P w K mg base k f fd ps sp):Mt P w K mg base C m ps k sp []:=by
 obtain⟨f,fd,hm,F,b⟩:=D;exact⟨⟨f,fd,[],[],hm,h f fd F,b,.nil,λ_=> .nil⟩,c⟩
noncomputable def nH (P:Program) (w:World) (K:yax) (mg:ydv) (base:Heap) (x:Str) (C:Addr) (ps:List Str) (k:Nat) (sp:bQ):Prop:=∃(f:Addr) (fd:FuncData),Mk K C f/\ca P w K mg base k f fd ps sp/\mg x=some (.ref C)/\bJ K fd ps []
theorem wD.new (D:wD K C qual st ps) (hm:mg x=some (.ref C)) (h:∀(f:Addr) (fd:FuncData),cz K "__init__" qual st f fd->ca P w K mg base k f fd ps sp):nH P w K mg base x C ps k sp:=by
 obtain⟨f,fd,M,F,b⟩:=D;exact⟨f,fd,M,h f fd F,hm,b⟩
end
theorem eT {C:Addr} {sp:bQ} {p pos:Pos} {t:WA} (M:nH X.prog X.w X.K X.mg X.base x C ps k sp) (hr:aw (k+1) X.A) (hg:Gl X x)
 (ha:QA X (e::es) t) (hdb:(x==("__debug__":Str))=false:=by decide) (he:starEach (e::es) X.env=(false,eval e X.env)::starEach es X.env:=by rfl) (hpl:(backTo pos (starEach es X.env)).any (·.1)=false:=by rfl):
 QE X (.Call (.Name x p) (e::es) [] pos) (qE C sp [] t):=by
 obtain⟨f,fd,M,F,hm,b⟩:=M;exact xO M F hr hg hm b ha hdb he hpl
theorem cL {α:Type} {p:List α->Prop} (h:p []) (us:List α) (e:us.length=0):p us:=by
 rw[List.eq_nil_of_length_eq_zero e];exact h
theorem bC {α:Type} {n:Nat} {p:List α->Prop} (h:∀a,∀us:List α,us.length=n->p (a::us)) (us:List α) (e:us.length=n+1):p us:=by
 cases us with
 | nil=>exact absurd e (Nat.succ_ne_zero n).symm
 | cons a us=>exact h a us (Nat.succ.inj e)
end
structure Dy (P:Program) (w:World) (K:yax) (mg:ydv) (base:Heap) (C:Addr) (m:Str) (ps:List Str) (k:Nat) (sp:bQ) (dws:List W):Prop where
 ex:∃(f:Addr) (fd:FuncData) (ds:ydw) (dvs:List V),rT K C m f/\xB P w K mg base k f fd ps sp/\bJ K fd ps ds/\aU dvs ds/\∀H,aQ K H dws dvs
 cl:dq K C
section
variable {X:Cx} {x:Str} {p pos:Pos}
end
section
variable {X:Cx} {p pos:Pos}
noncomputable def zE (S:Addr->Prop) (t:Addr->WE):WE:=λτ G q=>∃C,S C/\t C τ G q
theorem mq {S:Addr->Prop} {t:Addr->WE} (h:∀C,S C->QE X e (t C)):QE X e (zE S t):=λπ s σ H Q I ⟨τ,G,q,a,b,⟨C,hC,ht⟩,d⟩=>h C hC π s σ H Q I ⟨τ,G,q,a,b,ht,d⟩
end
noncomputable def GY (K:yax) (a:Addr) (n:Nat):It:=
 ⟨λi H=>∃xs x,dm K H a xs/\xs.length=n/\i<n/\xs[n-1-i]?=some x,λi H x H'=>H'=H/\∀xs,dm K H a xs->xs[n-1-i]?=some x,λi H=>∃xs,dm K H a xs/\xs.length=n/\n<=i⟩
theorem xP {tg:Expr} (a it:Addr) (n:Nat):kt P w K tg (GY K a n) [it] it (λi h=>i<=n/\h.IsRevIter it a ((n:Int)-1- (i:Int))) where
 mem:=by simp
 obj:=λi h st b hb=>by
  have e:b=it:=by simpa using hb
  subst e;obtain⟨_,o,e,c,d⟩:=st;exact⟨o,e,λv z=>by rw[d] at z;cases z⟩
 keep:=λi h h' st k=>⟨st.1,st.2.at λo e=>k it (by simp) o e⟩
 item:=by
  intro X hP hw hK hc i π s σ H E I hf st hg;subst hP hw hK;obtain⟨xs,x,hq,hl,hi,hx⟩:=hg;obtain⟨its,rv,p,hz⟩:=I.list hq;obtain⟨u,hu,ru⟩:=rv.get hx;obtain⟨f0,f1,f2,f3,f4,f5⟩:=hf it (by simp);have st1:s.heap.IsRevIter it a ((n-1-i:Nat):Int):=by have:=st.2;rw[show(n:Int)-1- (i:Int)=((n-1-i:Nat):Int) by lia] at this;exact this
  refine wpAny_pyNext_rev_item st1 p.isList (x:=u) (by simpa using hu) λh' st' sb=>?_;have I1:aB X π σ H { s with heap:=h' }:=I.turned (t':=s.toks) (λb o hb e=>(sb.2 b hb).trans e) f0 f1 f3 f4 f5;obtain⟨o,e,c,d⟩:=id st';exact⟨u,rfl,jA (s:={ s with heap:=h' }) e c d (by decide) ⟨x,H,I1,ru,⟨rfl,λys hy=>by rw[I.list_inj hy hq];exact hx⟩,⟨by assumption,by rw[show(n:Int)-1- ((i+1:Nat):Int)=((n-1-i:Nat):Int)-1 by lia];exact st'⟩,λb hb=>(hf b hb).1⟩⟩
 done:=by
  intro X hP hw hK hc i π s σ H E I hf st hg;subst hP hw hK;obtain⟨xs,hq,hl,hi⟩:=hg;obtain⟨f0,f1,f2,f3,f4,f5⟩:=hf it (by simp);have st1:s.heap.IsRevIter it a (-1):=by have:=st.2;rw[show(n:Int)-1- (i:Int)= -1 by have:=st.1;lia] at this;exact this
  exact wpAny_pyNext_rev_end (I.ok.hd hc) st1 λh' eb=>⟨rfl,I.turned (t':=s.toks) (λb o hb e=>eb b o hb e) f0 f1 f3 f4 f5⟩
 self:=λ_ _ _ _ _ st h=>wpAny_pyIter_revIter st.2 h
theorem A3 {ws:List W} {H:Hp} {n:Nat} (hn:ws.length=n):px K (GY K a n) ws.reverse (λG=>G a=some (.lst ws)) H where
 stop:=λi H1 G t g eG hl=>by
  obtain⟨_,xs,h1,r⟩:=g a _ eG;exact⟨xs,dm.of h1,by rw[←r.length];exact hn,by simp at hl;lia⟩
 go:=λi w H1 G t g eG e=>by
  obtain⟨_,xs,h1,r⟩:=g a _ eG;have hl:=r.length;have hi:i<ws.length:=by
   rcases lt_or_ge i ws.length with z | z
   ·exact z
   ·rw[List.getElem?_eq_none (by simpa using z)] at e;cases e
  rw[List.getElem?_reverse hi] at e;obtain⟨v,e1,rv⟩:=r.get e;rw[hn] at e1;refine⟨⟨xs,v,dm.of h1,by lia,by lia,e1⟩,λx H' z9=>?_⟩;obtain⟨eH,hy⟩:=z9;subst eH;have e2:=hy xs (dm.of h1);rw[e1] at e2;cases e2;exact⟨aM.refl _,rv,g⟩
noncomputable def zF (ta:WA):WI:=λτ G r=>ta τ G λws G1=>match ws with
 | [.ref a]=>∃xs,G1 a=some (.lst xs)/\r xs.reverse (λG=>G a=some (.lst xs)) G1
 | _=>False
theorem xQ {X:Cx} {tg a:Expr} {ta:WA} {p pos:Pos} (hg:Gl X "reversed") (hm:X.mg "reversed"=none) (ha:QA X [a] ta) (hs:starEach [a] X.env=[(false,eval a X.env)]:=by rfl):
 QI X tg (.Call (.Name "reversed" p) [a] [] pos) (zF ta):=by
 rintro π s σ H R I ⟨τ,G,r,hτ,hG,ht,hR⟩;refine Call_ (fo I hg hm qD (PyProof.Rows.callWith_type1 (bR (ha pos π s σ H (λvs H1=>∃ws G1,aM H H1/\aQ X.K H1 ws vs/\aI X.K H1 G1/\match ws with | [.ref a]=>∃xs,G1 a=some (.lst xs)/\r xs.reverse (λG=>G a=some (.lst xs)) G1 | _=>False) I ⟨τ,G,_,hτ,hG,ht,λvs H1 ws G1 t1 r1 g1 q1=>⟨ws,G1,t1,r1,g1,q1⟩⟩) λus s1 ⟨vs,H1,I1,ru,ws,G1,t1,r1,g1,q1⟩=>?_) (by rw[hs];rfl) (by rfl)));split at q1
 ·rename_i pa;obtain⟨ws,eG,q1⟩:=q1;cases r1 with
  | cons ra rn=>
    cases rn;cases ra;cases ru with
    | cons w1 wn=>
      cases wn;cases (show _=Value.ref pa from w1);obtain⟨_,xs',h1,rr⟩:=g1 _ _ eG;obtain⟨its,rv,p1,hz⟩:=I1.list (dm.of h1);have hl:=rv.length;have hr:=rr.length;refine call_reversed_list p1.isList ?_;have st0:(s1.heap.push (revObj pa ((its.toArray.size:Int)-1))).IsRevIter s1.heap.objs.size pa ((ws.length:Int)-1- ((0:Nat):Int)):=⟨_,yav _ rfl,rfl,by
       rw[show((ws.length:Int)-1- ((0:Nat):Int))=(its.toArray.size:Int)-1 by simp;lia];rfl⟩
      refine wpAny_pyIter_revIter (s:={ s1 with heap:=s1.heap.push (revObj pa ((its.toArray.size:Int)-1)) }) st0 ?_;refine⟨s1.heap.objs.size,[s1.heap.objs.size],_,_,H1,rfl,I1.kept (t':=s1.toks) λb o e=>yaw _ e,xP pa _ ws.length,⟨zero_le _,st0⟩,λb hb=>?_,hR _ H1 _ _ G1 t1 g1 (A3 rfl) q1⟩;have e:b=s1.heap.objs.size:=by simpa using hb
      subst e;exact I1.fpOk (yby _) (I1.hok.fresh (yby _))
 ·exact q1.elim
section
variable {X:Cx}
theorem A4 (x y:Str):(W.str x).eq (.str y)=decide (x=y):=by
 simp only[W.eq];rw[Bool.eq_iff_iff,beq_iff_eq,decide_eq_true_eq]
theorem uD (x:Str):(W.str x).flat=true:=rfl
theorem xR (x:Str):(W.str x).dep=0:=rfl
theorem A5 (x:Str):decide (x=x)=true:=ycw rfl
abbrev dNq (a b:String):Prop:=decide (Str.ofString a=Str.ofString b)=false
theorem Dz:dNq "set" "copy"/\dNq "set" "add"/\dNq "set" "less"/\dNq "set" "times"/\dNq "set" "count"/\dNq "set" "while"/\dNq "copy" "set"/\dNq "copy" "add"/\dNq "copy" "less"/\dNq "copy" "times"/\dNq "copy" "count"/\dNq "copy" "while"/\dNq "add" "set"/\dNq "add" "copy"/\dNq "add" "less"/\dNq "add" "times"/\dNq "add" "count"/\dNq "add" "while"/\dNq "less" "set"/\dNq "less" "copy"/\dNq "less" "add"/\dNq "less" "times"/\dNq "less" "count"/\dNq "less" "while"/\dNq "times" "set"/\dNq "times" "copy"/\dNq "times" "add"/\dNq "times" "less"/\dNq "times" "count"/\dNq "times" "while"/\dNq "count" "set"/\dNq "count" "copy"/\dNq "count" "add"/\dNq "count" "less"/\dNq "count" "times"/\dNq "count" "while"/\dNq "while" "set"/\dNq "while" "copy"/\dNq "while" "add"/\dNq "while" "less"/\dNq "while" "times"/\dNq "while" "count":=by decide+kernel
end
section
variable {P:Program} {w:World} {K:yax} {mg:ydv} {base:Heap} {N:List Str} {qual:Str} {scope:Scope} {f:Addr} {cdv:Value} {A:Around} {outer:List Env} {s:Shared} {H:Hp} {E:XK}
noncomputable def uE (C:Addr) (m:Str) (sp:bQ) (dws:List W) (to:WE) (t:WA) (e:WX):WE:=λτ G q=>to τ G λx G1=>∃a fs,x=.ref a/\G1 a=some (.ins C fs)/\fs.lookup m=none/\t τ G1 λws G2=>sp (x::(ws++dws)) G2 q e
theorem uF {C:Addr} {m:Str} {sp:bQ} {dws:List W} {o e0:Expr} {to:WE} {t:WA} {apos pos:Pos} {pl:Sem Bool} {e:WX} (ho:QE (dE (pD P w) P w K mg base N qual scope f cdv A outer s H E) o to) (M:Dy P w K mg base C m ps k sp dws) (hr:aw k (A.deeper (envOfC qual scope s.heap.objs.size f cdv)))
 (hE:∀c H1 G1,aM H H1->aI K H1 G1->e c G1->E c none H1) (ha:QA (dE (pD P w) P w K mg base N qual scope f cdv A outer s H E) (e0::es) t)
 (hst:starEach (e0::es) (envOfC qual scope s.heap.objs.size f cdv)=(false,eval e0 (envOfC qual scope s.heap.objs.size f cdv))::starEach es (envOfC qual scope s.heap.objs.size f cdv):=by rfl) (hpl:(backTo pos (starEach es (envOfC qual scope s.heap.objs.size f cdv))).any (·.1)=false:=by rfl)
 (ht:eval (.Call (.Attribute o m apos) (e0::es) [] pos) (envOfC qual scope s.heap.objs.size f cdv)=(do
   let ov ←eval o (envOfC qual scope s.heap.objs.size f cdv)
   standAt apos.atName
   let (fn,first) ←holding [ov] (getMethod ov m pl)
   callWith pos fn first (backTo pos (starEach (e0::es) (envOfC qual scope s.heap.objs.size f cdv))) (backToKw pos (keywordEach [] (envOfC qual scope s.heap.objs.size f cdv)))):=by rfl):QE (dE (pD P w) P w K mg base N qual scope f cdv A outer s H E) (.Call (.Attribute o m apos) (e0::es) [] pos) (uE C m sp dws to t e):=by
 obtain⟨⟨f1,fd,ds,dvs,hm,F,hb,hd,hrep⟩,c⟩:=M;refine(qj (X:=dE (pD P w) P w K mg base N qual scope f cdv A outer s H E) (E:=λc _ H1=>∃G1,aI K H1 G1/\e c G1) (pl:=pl) ho c hm F hr hb hd (xD λC H1 t1 z=>?_) ha hst hpl ht).imp λσ H2 Q h=>?_
 ·obtain⟨G1,g1,z1⟩:=z;exact hE _ H1 G1 t1 g1 z1
 ·obtain⟨τ,G,q,hs,hg,ht,hQ⟩:=h;refine⟨τ,G,_,hs,hg,ht,λx H1 w G1 t1 r1 g1 q1=>?_⟩;obtain⟨a,fs,rfl,hG,hl,q1⟩:=q1;cases r1;obtain⟨_,dx,fs',hH,hn,_⟩:=g1 a _ hG;refine⟨a,dx,fs',rfl,hH,fM hn hl,τ,G1,_,hs.mono t1,g1,q1,λvs H2 ws G2 t2 r2 g2 q2=>?_⟩;exact⟨.ref a::(ws++dws),G2,q,e,.cons (.ref a) (r2.append (hrep _)),g2,q2,λv H3 w3 G3 t3=>hQ v H3 w3 G3 ((t1.trans t2).trans t3),λc d H3 G3 _ g3 z=>⟨G3,g3,z⟩⟩
end
section
variable {X:Cx} {π:List (Addr×Obj)} {σ:St} {H:Hp} {s:Shared} {h':Heap} {ch:List Addr}
theorem aB.pair {x y:V} {ux uy:Value} (I:aB X π σ H s) (hf:∀c,c∈ch->jj X π H c) (keep:∀c o,c∉ch->s.heap.get? c=some o->h'.get? c=some o) (tn:h'.get? s.heap.objs.size=some { cls:= .type "tuple",data:= .seq #[ux,uy] }) (rx:bc x ux) (ry:bc y uy):aB X π σ (upd H s.heap.objs.size (.tup [x,y])) { s with heap:=h' }:=by
 have hnew:H s.heap.objs.size=none:=I.hok.fresh (yby _);have tr:∀c u,H c=some u->c∉ch:=λc u e hc=>by rw[(hf c hc).1] at e;cases e
 refine I.step (g':=s.gens) (d':=s.drawn) (t':=s.toks) (ch:=ch) (λc hc=>?_) (λc o _ _ hc e _=>keep c o hc e) (λc o _ _ hc e _=>⟨o.slots,keep c o hc e⟩) (λc o _ e n=>?_) (λc o hc e=>⟨o,keep c o hc e⟩) (λc xs e=>?_) (λc o u e=>?_) (λc ps e=>⟨#[],?_⟩) (λm hm=>?_) (λc u e=>?_) I.bare
 ·obtain⟨_,f1,_,f3,f4,f5⟩:=hf c hc;exact⟨f3,f1,f4,f5⟩
 ·rw[aG (ne_of_lt (ybx e))];exact n
 ·rw[aG (bf e hnew)];exact e
 ·rw[aG (bf e hnew)];exact e
 ·rw[aG (bf e hnew),e];simp
 ·obtain⟨o,es,ep,ho,bt⟩:=hm;exact⟨o,es,ep,keep _ o (λhc=>(hf _ hc).2.1 rfl) ho,bt⟩
 ·by_cases hcs:c=s.heap.objs.size
  ·subst hcs;rw[aX] at e;cases e;exact⟨by show 2<=sizeLine;decide,[ux,uy],.cons rx (.cons ry .nil),⟨_,tn,rfl,_,rfl⟩⟩
  ·rw[aG hcs] at e;refine(I.hok c u e).stay (λc' v hc' q=>keep c' v ?_ q) (λc' q=>by rw[aG (bf q hnew)];exact q) λc' xs q=>by rw[aG (bf q hnew)];exact q
   rcases hc' with rfl | hc'
   ·exact tr _ _ e
   ·exact tr _ _ hc'
end
structure ZL (z p r i j a b:Addr) (n:Nat) (f:Value) (h:Heap):Prop where
 hz:IsZip h z p r f
 hp:IsPair h p (.ref i) (.ref j)
 hr:∃x y,IsPair h r x y
 hi:h.IsListIter i a n
 hj:h.IsListIter j b n
section
variable {P:Program} {w:World} {K:yax}
end
section
variable {X:Cx}
end
end L2
namespace Nm
inductive O where
 | z
 | c (e:O) (n:Int) (r:O)
 deriving DecidableEq
namespace O
noncomputable def cmp:O->O->Int
 | z,z=>0
 | z,c _ _ _=> -1
 | c _ _ _,z=>1
 | c e n r,c e' n' r'=>
   if cmp e e'≠0 then cmp e e' else if n<n' then -1 else if n'<n then 1 else cmp r r'
noncomputable def size:O->Nat
 | z=>0
 | c e _ r=>1+size e+size r
noncomputable def dp:O->Nat
 | z=>0
 | c e _ r=>max (dp e+1) (dp r)
noncomputable def len:O->Nat
 | z=>0
 | c _ _ r=>len r+1
noncomputable def app:O->O->O
 | z,b=>b
 | c e n r,b=>c e n (app r b)
noncomputable def filt (p:O->Int->Bool):O->O
 | z=>z
 | c e n r=>if p e n then c e n (filt p r) else filt p r
noncomputable def same (x:O):O->Int
 | z=>0
 | c e n r=>if e=x then n+same x r else same x r
noncomputable def init:O->O
 | z=>z
 | c _ _ z=>z
 | c e n r=>c e n (init r)
noncomputable def last:O->O
 | z=>z
 | c e n z=>c e n z
 | c _ _ r=>last r
theorem cmp_self:∀a:O,cmp a a=0
 | z=>rfl
 | c e n r=>by simp[cmp,cmp_self e,cmp_self r]
theorem cmp_eq:∀a b:O,cmp a b=0->a=b
 | z,z,_=>rfl
 | z,c _ _ _,h=>by simp[cmp] at h
 | c _ _ _,z,h=>by simp[cmp] at h
 | c e n r,c e' n' r',h=>by
   unfold cmp at h
   by_cases he:cmp e e'=0
   ·rw[ybv (by simpa using he)] at h
    by_cases h1:n<n'
    ·rw[ycx h1] at h;lia
    ·rw[ybv h1] at h
     by_cases h2:n'<n
     ·rw[ycx h2] at h;lia
     ·rw[ybv h2] at h;have:=cmp_eq e e' he;have:=cmp_eq r r' h;have:n=n':=by lia
      subst_vars
      rfl
   ·rw[ycx he] at h;exact absurd h he
theorem cmp_range:∀a b:O,cmp a b= -1∨cmp a b=0∨cmp a b=1
 | z,z=>by simp[cmp]
 | z,c _ _ _=>by simp[cmp]
 | c _ _ _,z=>by simp[cmp]
 | c e n r,c e' n' r'=>by
   have h1:=cmp_range e e';have h2:=cmp_range r r';unfold cmp;split
   ·exact h1
   ·split
    ·exact .inl rfl
    ·split
     ·exact .inr (.inr rfl)
     ·exact h2
theorem aN:∀a b:O,cmp b a= -cmp a b
 | z,z=>rfl
 | z,c _ _ _=>rfl
 | c _ _ _,z=>rfl
 | c e n r,c e' n' r'=>by
   have h1:=aN e e';have h2:=aN r r';unfold cmp;rw[h1,h2]
   by_cases he:cmp e e'=0
   ·rcases Int.lt_trichotomy n n' with k | k | k
    ·have k':¬n'<n:=by lia
     simp[he,k,k']
    ·subst k;simp[he]
    ·have k':¬n<n':=by lia
     simp[he,k,k']
   ·have he':¬-cmp e e'=0:=by lia
    simp[he,he']
theorem bB:∀a b d:O,cmp a b<0->cmp b d<0->cmp a d<0
 | z,z,_,h,_=>by simp[cmp] at h
 | z,c _ _ _,z,_,h=>by simp[cmp] at h
 | z,c _ _ _,c _ _ _,_,_=>by simp[cmp]
 | c _ _ _,z,_,h,_=>by simp[cmp] at h
 | c _ _ _,c _ _ _,z,_,h=>by simp[cmp] at h
 | c e n r,c e' n' r',c f m t,h1,h2=>by
   have ih1:=bB e e' f;have ih2:=bB r r' t;have r1:=cmp_range e e';have r2:=cmp_range e' f;unfold cmp at h1 h2 ⊢
   by_cases k1:cmp e e'=0
   ·have e1:=cmp_eq e e' k1;subst e1;rw[ybv (by lia)] at h1
    by_cases k2:cmp e f=0
    ·rw[ybv (by lia)] at h2 ⊢
     by_cases a1:n<n'
     ·by_cases a2:n'<m
      ·rw[ycx (by lia)];lia
      ·rw[ybv a2] at h2
       by_cases a3:m<n'
       ·rw[ycx a3] at h2;lia
       ·rw[ycx (by lia)];lia
     ·rw[ybv a1] at h1
      by_cases a2:n'<n
      ·rw[ycx a2] at h1;lia
      ·rw[ybv a2] at h1
       by_cases a3:n'<m
       ·rw[ycx (by lia)];lia
       ·rw[ybv a3] at h2
        by_cases a4:m<n'
        ·rw[ycx a4] at h2;lia
        ·rw[ybv a4] at h2;rw[ybv (by lia),ybv (by lia)];exact ih2 h1 h2
    ·rw[ycx k2] at h2 ⊢;exact h2
   ·rw[ycx k1] at h1
    by_cases k2:cmp e' f=0
    ·have e2:=cmp_eq e' f k2;subst e2;rw[ycx k1];exact h1
    ·rw[ycx k2] at h2;have:=ih1 h1 h2;rw[ycx (by lia)];exact this
noncomputable def Lt (e:O):O->Prop
 | z=>True
 | c x _ r=>cmp x e<0/\Lt e r
noncomputable def NF:O->Prop
 | z=>True
 | c e n r=>NF e/\1<=n/\Lt e r/\NF r
theorem Lt.app {e:O}:∀{a b:O},Lt e a->Lt e b->Lt e (app a b)
 | z,_,_,h=>h
 | c _ _ _,_,h1,h2=>⟨h1.1,Lt.app h1.2 h2⟩
theorem Lt.filt {e:O} (p:O->Int->Bool):∀{a:O},Lt e a->Lt e (O.filt p a)
 | z,_=>trivial
 | c _ _ _,h=>by
   unfold O.filt;split
   ·exact⟨h.1,Lt.filt p h.2⟩
   ·exact Lt.filt p h.2
theorem same_nonneg (x:O):∀{a:O},NF a->0<=same x a
 | z,_=>by simp[same]
 | c e n r,h=>by
   have h1:=h.2.1;have h2:=same_nonneg x h.2.2.2;unfold same;split<;> lia
theorem NF.join {e:O} {n:Int} {b:O} (he:NF e) (hn:1<=n) (hb:NF b) (hl:Lt e b) (hx:∀x,0<cmp x e->Lt x b):∀{a:O},NF a->NF (O.app (O.filt (λx _=>decide (0<cmp x e)) a) (c e n b))
 | z,_=>⟨he,hn,hl,hb⟩
 | c x k r,h=>by
   unfold O.filt;split
   ·rename_i hp;have hp':0<cmp x e:=by simpa using hp
    have hs:=aN x e;exact⟨h.1,h.2.1,Lt.app (h.2.2.1.filt _) ⟨by lia,hx x hp'⟩,NF.join he hn hb hl hx h.2.2.2⟩
   ·exact NF.join he hn hb hl hx h.2.2.2
end O
namespace O
theorem cE (a:O):¬cmp a a<0:=by rw[cmp_self];lia
theorem iK (x:O):same x z=0:=rfl
theorem eU (e:O) (n:Int) (r:O):same e (c e n r)=n+same e r:=by simp[same]
theorem same_ne {x e:O} (h:e≠x) (n:Int) (r:O):same x (c e n r)=same x r:=by simp[same,h]
theorem bP {e x:O} (hx:¬cmp x e<0):∀{r:O},Lt e r->same x r=0
 | z,_=>rfl
 | c y n t,h=>by
   have hy:y≠x:=λk=>hx (k▸h.1);rw[same_ne hy];exact bP hx h.2
theorem same_self {e:O} {n:Int} {r:O} (h:Lt e r):same e (c e n r)=n:=by
 rw[eU,bP (cE e) h];lia
theorem aZ {x e:O} {n:Int} {r:O} (h:Lt e r) (hx:0<cmp x e):same x (c e n r)=0:=by
 have hne:e≠x:=λk=>by subst k;rw[cmp_self] at hx;lia
 rw[same_ne hne,bP (by lia) h]
theorem nI:∀{a b:O},NF a->NF b->(∀x,same x a=same x b)->a=b
 | z,z,_,_,_=>rfl
 | z,c e n r,_,hb,h=>by
   have:=h e;rw[same_self hb.2.2.1,iK] at this;have:=hb.2.1;lia
 | c e n r,z,ha,_,h=>by
   have:=h e;rw[same_self ha.2.2.1,iK] at this;have:=ha.2.1;lia
 | c e n r,c e' n' r',ha,hb,h=>by
   rcases cmp_range e e' with k | k | k
   ·have h1:=h e';rw[same_self hb.2.2.1,aZ ha.2.2.1 (by have:=aN e e';lia)] at h1;have:=hb.2.1;lia
   ·have k':=cmp_eq _ _ k;subst k';have h1:=h e;rw[same_self ha.2.2.1,same_self hb.2.2.1] at h1;subst h1;have hr:r=r':=nI ha.2.2.2 hb.2.2.2 λx=>by
     by_cases hx:e=x
     ·subst hx;rw[bP (cE e) ha.2.2.1,bP (cE e) hb.2.2.1]
     ·have:=h x;rw[same_ne hx,same_ne hx] at this;exact this
    rw[hr]
   ·have h1:=h e;rw[same_self ha.2.2.1,aZ hb.2.2.1 (by lia)] at h1;have:=ha.2.1;lia
theorem dX {x:O}:∀{a b:O},NF a->NF b->same x a<same x b->(∀y,0<cmp y x->same y a=same y b)->cmp a b<0
 | z,z,_,_,h,_=>by simp[same] at h
 | z,c _ _ _,_,_,_,_=>by simp[cmp]
 | c e n r,z,ha,_,h,_=>by
   have:=same_nonneg x ha;rw[iK] at h;lia
 | c e n r,c e' n' r',ha,hb,h,hy=>by
   rcases cmp_range e e' with k | k | k
   ·rw[cmp,ycx (by lia)];lia
   ·have k':=cmp_eq _ _ k;subst k';rw[cmp,ybv (by lia)];rcases cmp_range x e with q | q | q
    ·have hne:e≠x:=λz=>by subst z;rw[cmp_self] at q;lia
     have h1:=hy e (by have:=aN x e;lia);rw[same_self ha.2.2.1,same_self hb.2.2.1] at h1;subst h1;rw[ybv (by lia),ybv (by lia)];rw[same_ne hne,same_ne hne] at h;refine dX ha.2.2.2 hb.2.2.2 h λy hyx=>?_
     by_cases hye:e=y
     ·subst hye;rw[bP (cE e) ha.2.2.1,bP (cE e) hb.2.2.1]
     ·have:=hy y hyx;rw[same_ne hye,same_ne hye] at this;exact this
    ·have q':=cmp_eq _ _ q;subst q';rw[same_self ha.2.2.1,same_self hb.2.2.1] at h;rw[ycx h];lia
    ·rw[aZ ha.2.2.1 (by lia),aZ hb.2.2.1 (by lia)] at h;lia
   ·have hn:=ha.2.1;rcases cmp_range e x with q | q | q
    ·have qx:0<cmp x e:=by have:=aN e x;lia
     have qx':0<cmp x e':=by
      have:=bB e' e x (by have:=aN e e';lia) (by lia);have:=aN e' x;lia
     rw[aZ ha.2.2.1 qx,aZ hb.2.2.1 qx'] at h;lia
    ·have q':=cmp_eq _ _ q;subst q';rw[same_self ha.2.2.1,aZ hb.2.2.1 (by lia)] at h;lia
    ·have h1:=hy e (by lia);rw[same_self ha.2.2.1,aZ hb.2.2.1 (by lia)] at h1;lia
theorem dg:∀{a b:O},NF a->NF b->cmp a b<0->∃x,same x a<same x b/\∀y,0<cmp y x->same y a=same y b
 | z,z,_,_,h=>by simp[cmp] at h
 | z,c e n r,_,hb,_=>by
   refine⟨e,?_,λy hy=>?_⟩
   ·rw[same_self hb.2.2.1,iK];have:=hb.2.1;assumption
   ·rw[aZ hb.2.2.1 hy,iK]
 | c _ _ _,z,_,_,h=>by simp[cmp] at h
 | c e n r,c e' n' r',ha,hb,h=>by
   rcases cmp_range e e' with k | k | k
   ·refine⟨e',?_,λy hy=>?_⟩
    ·rw[same_self hb.2.2.1,aZ ha.2.2.1 (by have:=aN e e';lia)];have:=hb.2.1;assumption
    ·have hy2:0<cmp y e:=by
      have:=bB e e' y (by lia) (by have:=aN y e';lia);have:=aN e y;lia
     rw[aZ hb.2.2.1 hy,aZ ha.2.2.1 hy2]
   ·have k':=cmp_eq _ _ k;subst k';rw[cmp,ybv (by lia)] at h
    by_cases h1:n<n'
    ·refine⟨e,?_,λy hy=>?_⟩
     ·rw[same_self ha.2.2.1,same_self hb.2.2.1];exact h1
     ·rw[aZ hb.2.2.1 hy,aZ ha.2.2.1 hy]
    ·rw[ybv h1] at h
     by_cases h2:n'<n
     ·rw[ycx h2] at h;lia
     ·rw[ybv h2] at h;have hn:n=n':=by lia
      subst hn;obtain⟨x,hx,hy⟩:=dg ha.2.2.2 hb.2.2.2 h;have hxe:cmp x e<0:=by
       refine Classical.byContradiction λq=>?_;rw[bP q ha.2.2.1,bP q hb.2.2.1] at hx;lia
      have hne:e≠x:=λz=>by subst z;rw[cmp_self] at hxe;lia
      refine⟨x,by rw[same_ne hne,same_ne hne];exact hx,λy hyx=>?_⟩
      by_cases hye:e=y
      ·subst hye;rw[same_self ha.2.2.1,same_self hb.2.2.1]
      ·rw[same_ne hye,same_ne hye];exact hy y hyx
   ·rw[cmp,ycx (by lia)] at h;lia
theorem pJ {a b:O} (ha:NF a) (hb:NF b) (h:∀x,same x a<=same x b):cmp a b<=0:=by
 rcases cmp_range a b with k | k | k
 ·lia
 ·lia
 ·have hs:=aN a b;obtain⟨x,hx,_⟩:=dg hb ha (by lia);have:=h x;lia
noncomputable def plusO:O->O->O
 | a,z=>a
 | a,c e n r=>app (filt (λx _=>decide (0<cmp x e)) a) (c e (same e a+n) r)
theorem nJ:∀(x a b:O),same x (app a b)=same x a+same x b
 | x,z,b=>by simp[app,same]
 | x,c e n r,b=>by
   have:=nJ x r b;show same x (c e n (app r b))=_
   by_cases h:e=x
   ·subst h;rw[eU,eU,this];lia
   ·rw[same_ne h,same_ne h,this]
theorem kY (p:O->Bool):∀(x a:O),same x (filt (λy _=>p y) a)=if p x then same x a else 0
 | x,z=>by simp[filt,same]
 | x,c e n r=>by
   have ih:=kY p x r;unfold filt
   by_cases hp:p e=true
   ·rw[ycx hp]
    by_cases h:e=x
    ·subst h;rw[eU,eU,ih,ycx hp,ycx hp]
    ·rw[same_ne h,same_ne h,ih]
   ·rw[ybv hp,ih]
    by_cases h:e=x
    ·subst h;rw[ybv hp,ybv hp]
    ·rw[same_ne h]
theorem NF.join' {e:O} {n:Int} {b:O} (he:NF e) (hn:1<=n) (hb:NF b) (hl:Lt e b) {a:O} (ha:NF a):NF (O.app (O.filt (λx _=>decide (0<cmp x e)) a) (c e n b)):=by
 refine NF.join he hn hb hl (λx hx=>?_) ha;have:∀{b:O},Lt e b->Lt x b:=by
  intro b
  induction b with
  | z=>exact λ_=>trivial
  | c y m t _ ih=>exact λh=>⟨bB y e x h.1 (by have:=aN x e;lia),ih h.2⟩
 exact this hl
theorem NF.plus {a b:O} (ha:NF a) (hb:NF b):NF (plusO a b):=by
 cases b with
 | z=>exact ha
 | c e n r=>
   have:=same_nonneg e ha;exact NF.join' hb.1 (by have:=hb.2.1;lia) hb.2.2.2 hb.2.2.1 ha
theorem iL {a e:O} {n:Int} {r:O} (hr:Lt e r) (x:O):same x (plusO a (c e n r))=if 0<cmp x e then same x a else if cmp x e<0 then same x (c e n r) else same x a+same x (c e n r):=by
 show same x (app _ _)=_;rw[nJ,kY (λy=>decide (0<cmp y e))]
 by_cases h1:0<cmp x e
 ·rw[ycx (by simpa using h1),ycx h1,aZ hr h1];lia
 ·rw[ybv (by simpa using h1),ybv h1]
  by_cases h2:cmp x e<0
  ·have hne:e≠x:=λz=>by subst z;rw[cmp_self] at h2;lia
   rw[ycx h2,same_ne hne,same_ne hne];lia
  ·have:cmp x e=0:=by lia
   have h3:=cmp_eq _ _ this;subst h3;rw[ybv h2,same_self hr,same_self hr];lia
end O
namespace O
noncomputable def oH (b y:O):Prop:=∃w,cmp y w<0/\same w b≠0
theorem DA (y:O):¬oH z y:=λ⟨_,_,h⟩=>h rfl
theorem uG {e:O} {n:Int} {r y:O} (hn:1<=n) (hr:Lt e r):oH (c e n r) y↔cmp y e<0:=by
 constructor
 ·rintro⟨w,hw,hs⟩;have:¬0<cmp w e:=λk=>hs (aZ hr k);rcases cmp_range w e with k | k | k
  ·exact bB y w e hw (by lia)
  ·rw[cmp_eq _ _ k] at hw;exact hw
  ·lia
 ·intro h;exact⟨e,h,by rw[same_self hr];lia⟩
theorem bv {a b y:O} (hb:NF b) (h:oH b y):same y (plusO a b)=same y b:=by
 cases b with
 | z=>exact absurd h (DA y)
 | c e n r=>
   have h':=(uG hb.2.1 hb.2.2.1).mp h;rw[iL hb.2.2.1,ybv (by lia),ycx h']
theorem bw {a b y:O} (hb:NF b) (h:¬oH b y):same y (plusO a b)=same y b+same y a:=by
 cases b with
 | z=>show same y a=0+same y a;lia
 | c e n r=>
   have h':¬cmp y e<0:=λk=>h ((uG hb.2.1 hb.2.2.1).mpr k);rw[iL hb.2.2.1]
   by_cases k:0<cmp y e
   ·rw[ycx k,aZ hb.2.2.1 k];lia
   ·rw[ybv k,ybv h'];lia
theorem kZ {b d x y:O} (h:∀y,0<cmp y x->same y b=same y d) (hy:¬cmp y x<0):oH b y↔oH d y:=by
 have go:∀w,cmp y w<0->0<cmp w x:=λw hw=>by
  have hs:=aN w x;rcases cmp_range y x with k | k | k
  ·lia
  ·rw[cmp_eq _ _ k] at hw;lia
  ·have h3:=bB x y w (by have:=aN y x;lia) hw;lia
 constructor
 ·rintro⟨w,hw,hs⟩;exact⟨w,hw,by rw[←h w (go w hw)];exact hs⟩
 ·rintro⟨w,hw,hs⟩;exact⟨w,hw,by rw[h w (go w hw)];exact hs⟩
theorem qF {a b d:O} (ha:NF a) (hb:NF b) (hd:NF d) (h:cmp b d<0):cmp (plusO a b) (plusO a d)<0:=by
 obtain⟨x,hx,hy⟩:=dg hb hd h;refine dX (x:=x) (ha.plus hb) (ha.plus hd) ?_ λy hyx=>?_
 ·have q:=kZ hy (cE x)
  by_cases k:oH b x
  ·rw[bv hb k,bv hd (q.mp k)];exact hx
  ·rw[bw hb k,bw hd (λz=>k (q.mpr z))];lia
 ·have q:=kZ (y:=y) hy (by lia)
  by_cases k:oH b y
  ·rw[bv hb k,bv hd (q.mp k)];exact hy y hyx
  ·rw[bw hb k,bw hd (λz=>k (q.mpr z)),hy y hyx]
theorem ss {f:O->O} {b d:O} (h1:cmp b d<0->cmp (f b) (f d)<0) (h2:cmp d b<0->cmp (f d) (f b)<0):cmp (f b) (f d)=cmp b d:=by
 rcases cmp_range b d with k | k | k
 ·have:=h1 (by lia);rcases cmp_range (f b) (f d) with q | q | q<;> lia
 ·rw[cmp_eq _ _ k,cmp_self,cmp_self]
 ·have:=h2 (by have:=aN b d;lia);have:=aN (f d) (f b);rcases cmp_range (f b) (f d) with q | q | q<;> lia
theorem dJ {a b d:O} (ha:NF a) (hb:NF b) (hd:NF d):cmp (plusO a b) (plusO a d)=cmp b d:=ss (qF ha hb hd) (qF ha hd hb)
noncomputable def mv:O->O->O
 | z,b=>b
 | c e n r,z=>c e n r
 | c e n r,c e' n' r'=>if 0<cmp e e' then c e n (mv r (c e' n' r')) else if cmp e e'<0 then c e' n' (mv (c e n r) r') else c e (n+n') (mv r r')
termination_by a b=>a.len+b.len
decreasing_by all_goals (simp only[len];lia)
theorem Lt.mono {e f:O} (h:cmp e f<0):∀{r:O},Lt e r->Lt f r
 | z,_=>trivial
 | c _ _ _,k=>⟨bB _ _ _ k.1 h,Lt.mono h k.2⟩
end O
namespace O
noncomputable def getP:O->Nat->Option (O×Int)
 | z,_=>none
 | c e n _,0=>some (e,n)
 | c _ _ r,i+1=>getP r i
theorem getP_none:∀{a:O} {i:Nat},getP a i=none↔a.len<=i
 | z,i=>by simp[getP,len]
 | c e n r,0=>by simp[getP,len]
 | c e n r,i+1=>by
   have:=getP_none (a:=r) (i:=i);simp only[getP,len,this];lia
theorem getP_some {a:O} (h:i<a.len):∃e n,getP a i=some (e,n):=by
 cases k:getP a i with
 | none=>rw[getP_none] at k;lia
 | some p=>exact⟨p.1,p.2,rfl⟩
theorem getP_size:∀{a:O} {i:Nat} {e:O} {n:Int},getP a i=some (e,n)->e.size<a.size/\e.dp<a.dp
 | z,_,_,_,h=>by simp[getP] at h
 | c e n r,0,_,_,h=>by simp[getP] at h;obtain⟨rfl,rfl⟩:=h;simp only[size,dp];lia
 | c e n r,i+1,x,m,h=>by
   have:=getP_size (a:=r) (i:=i) (e:=x) (n:=m) (by simpa[getP] using h);simp only[size,dp];lia
noncomputable def stay (e a:O):Nat:=(filt (λx _=>decide (0<cmp x e)) a).len
theorem cM {y e:O} (h:¬0<cmp y e):∀{r:O},Lt y r->filt (λx _=>decide (0<cmp x e)) r=z
 | z,_=>rfl
 | c x n t,k=>by
   have hx:¬0<cmp x e:=λq=>by
    have h1:=aN x e;have h2:=bB e x y (by lia) k.1;have h3:=aN e y;lia
   unfold filt;rw[ybv (by simpa using hx)];exact cM h k.2
theorem filt_c (p:O->Int->Bool) (e:O) (n:Int) (r:O):filt p (c e n r)=if p e n then c e n (filt p r) else filt p r:=rfl
theorem eV {e y:O} {n:Int} {r:O} (h:0<cmp y e):stay e (c y n r)=stay e r+1:=by
 unfold stay;rw[filt_c,ycx (by simpa using h)]
 rfl
theorem eW {e y:O} {n:Int} {r:O} (h:¬0<cmp y e) (hr:Lt y r):stay e (c y n r)=0:=by
 unfold stay;rw[filt_c,ybv (by simpa using h),cM h hr]
 rfl
theorem stay_le {e:O}:∀{a:O},stay e a<=a.len
 | z=>yby _
 | c y n r=>by
   have:=stay_le (e:=e) (a:=r);unfold stay at this ⊢;unfold filt;split<;> simp only[len]<;> lia
theorem above_iff {e:O}:∀{a:O} {i:Nat} {x:O} {n:Int},NF a->getP a i=some (x,n)->(0<cmp x e↔i<stay e a)
 | z,_,_,_,_,h=>by simp[getP] at h
 | c y m r,0,x,n,ha,h=>by
   simp[getP] at h;obtain⟨rfl,rfl⟩:=h
   by_cases k:0<cmp y e
   ·rw[eV k];exact⟨λ_=>by lia,λ_=>k⟩
   ·rw[eW k ha.2.2.1];exact⟨λq=>absurd q k,λq=>by lia⟩
 | c y m r,i+1,x,n,ha,h=>by
   have h':getP r i=some (x,n):=by simpa[getP] using h
   have ih:=above_iff (e:=e) ha.2.2.2 h'
   by_cases k:0<cmp y e
   ·rw[eV k,ih];lia
   ·rw[eW k ha.2.2.1];constructor
    ·intro q;have z0:stay e r=0:=by unfold stay;rw[cM k ha.2.2.1];rfl
     have:=ih.mp q;lia
    ·intro q;lia
theorem same_stay {e:O}:∀{a:O},NF a->same e a=match getP a (stay e a) with | some (x,m)=>if x=e then m else 0 | none=>0
 | z,_=>rfl
 | c y n r,ha=>by
   by_cases k:0<cmp y e
   ·have hne:y≠e:=λq=>by subst q;rw[cmp_self] at k;lia
    rw[eV k,same_ne hne,same_stay ha.2.2.2]
    rfl
   ·rw[eW k ha.2.2.1];show _=if y=e then n else 0
    by_cases q:y=e
    ·subst q;rw[ycx rfl,same_self ha.2.2.1]
    ·rw[ybv q,same_ne q];refine bP (λhl=>?_) ha.2.2.1;have h1:=aN e y;lia
noncomputable def takeO:Nat->O->O
 | 0,_=>z
 | _+1,z=>z
 | i+1,c e n r=>c e n (takeO i r)
theorem take_stay {e:O}:∀{a:O},NF a->takeO (stay e a) a=filt (λx _=>decide (0<cmp x e)) a
 | z,_=>rfl
 | c y n r,ha=>by
   by_cases k:0<cmp y e
   ·rw[eV k,filt_c,ycx (by simpa using k),takeO,take_stay ha.2.2.2]
   ·rw[eW k ha.2.2.1,filt_c,ybv (by simpa using k),cM k ha.2.2.1]
    rfl
end O
namespace O
noncomputable def mx:O->Int
 | z=>0
 | c e n r=>max n (max (mx e) (mx r))
theorem mx_c (e:O) (n:Int) (r:O):mx (c e n r)=max n (max (mx e) (mx r)):=rfl
theorem qG {e:O} {n:Int} {r:O}:n<=mx (c e n r):=Int.le_max_left _ _
theorem uH {e:O} {n:Int} {r:O}:mx e<=mx (c e n r):=ydx (Int.le_max_left _ _) (Int.le_max_right _ _)
theorem nK {e:O} {n:Int} {r:O}:mx r<=mx (c e n r):=ydx (Int.le_max_right _ _) (Int.le_max_right _ _)
theorem pK {e:O} {n:Int} {r:O} {B:Int} (h1:n<=B) (h2:mx e<=B) (h3:mx r<=B):mx (c e n r)<=B:=Int.max_le.mpr ⟨h1,Int.max_le.mpr ⟨h2,h3⟩⟩
theorem mx_nonneg:∀a:O,0<=mx a
 | z=>Int.le_refl _
 | c _ _ r=>ydx (mx_nonneg r) nK
theorem uI:∀a b:O,mx (app a b)=max (mx a) (mx b)
 | z,b=>by have:=mx_nonneg b;show mx b=max 0 (mx b);lia
 | c e n r,b=>by
   show mx (c e n (app r b))=_;rw[mx_c,uI r b,mx_c,Int.max_assoc,Int.max_assoc]
theorem qH (p:O->Int->Bool):∀a:O,mx (filt p a)<=mx a
 | z=>Int.le_refl _
 | c e n r=>by
   have:=qH p r;rw[filt_c];split
   ·exact pK qG uH (ydx this nK)
   ·exact ydx this nK
theorem same_le_mx (x:O):∀{a:O},NF a->same x a<=mx a
 | z,_=>Int.le_refl _
 | c e n r,h=>by
   have h1:=same_le_mx x h.2.2.2;rw[mx_c]
   by_cases k:e=x
   ·subst k;rw[same_self h.2.2.1];lia
   ·rw[same_ne k];lia
theorem uJ:∀a b:O,dp (app a b)=max (dp a) (dp b)
 | z,b=>by show dp b=max 0 (dp b);lia
 | c e n r,b=>by
   show dp (c e n (app r b))=_;simp only[dp,uJ r b];rw[Nat.max_assoc]
theorem dp_filt (p:O->Int->Bool):∀a:O,dp (filt p a)<=dp a
 | z=>yby _
 | c e n r=>by
   have:=dp_filt p r;rw[filt_c];split<;> simp only[dp]<;> lia
theorem dp_plus (a b:O):dp (plusO a b)<=max (dp a) (dp b):=by
 cases b with
 | z=>show dp a<=_;lia
 | c e n r=>
   show dp (app _ _)<=_;rw[uJ];have:=dp_filt (λx _=>decide (0<cmp x e)) a;simp only[dp];lia
structure Hz (B:Int) (o:O):Prop where
 nf:NF o
 sz:o.size<=24
 mx:O.mx o<=B
end O
namespace O
theorem pL:∀a:O,plusO z a=a
 | z=>rfl
 | c e n r=>by
   simp[plusO,filt,app,same]
theorem fw (a:O):plusO a z=a:=rfl
theorem plus_c (a e:O) (n:Int) (r:O):plusO a (c e n r)=app (filt (λx _=>decide (0<cmp x e)) a) (c e (same e a+n) r):=rfl
noncomputable def dL:O->O->O
 | a,z=>a
 | z,_=>z
 | c e n r,c e' n' r'=>if e=e' then (if n=n' then dL r r' else c e (n-n') r) else c e n r
theorem mw (a:O):dL a z=a:=by cases a<;> rfl
theorem Lt.minus {g:O}:∀{a b:O},Lt g a->Lt g (dL a b)
 | a,z,h=>by rw[mw];exact h
 | z,c _ _ _,h=>h
 | c e n r,c e' n' r',h=>by
   unfold dL;split
   ·split
    ·exact Lt.minus h.2
    ·exact h
   ·exact h
theorem NF.minus:∀{a b:O},NF a->cmp b a<=0->NF (dL a b)
 | a,z,h,_=>by rw[mw];exact h
 | z,c _ _ _,h,_=>h
 | c e n r,c e' n' r',h,k=>by
   unfold dL;split
   ·rename_i q;subst q;rw[cmp,ybv (by rw[cmp_self];simp)] at k;split
    ·rename_i q2;subst q2;rw[ybv (by lia),ybv (by lia)] at k;exact NF.minus h.2.2.2 k
    ·rename_i q2;have:n'<n:=by
      rcases Int.lt_trichotomy n' n with j | j | j
      ·exact j
      ·exact absurd j.symm q2
      ·rw[ybv (by lia),ycx j] at k;lia
     exact⟨h.1,by lia,h.2.2.1,h.2.2.2⟩
   ·exact h
theorem je {e:O} {n:Int} {r:O} (hr:Lt e r) {f:O} (h:cmp e f<=0):filt (λx _=>decide (0<cmp x f)) (c e n r)=z:=by
 rw[filt_c,ybv (by simp;assumption),cM (by lia) hr]
theorem gz:∀{a b:O},NF a->NF b->cmp b a<=0->plusO b (dL a b)=a
 | a,z,_,_,_=>by rw[mw,pL]
 | z,c _ _ _,_,_,h=>by simp[cmp] at h
 | c e n r,c e' n' r',ha,hb,h=>by
   unfold dL
   by_cases q:e=e'
   ·subst q;rw[cmp,ybv (by rw[cmp_self];simp)] at h;rw[ycx rfl]
    by_cases q2:n=n'
    ·subst q2;rw[ybv (by lia),ybv (by lia)] at h;rw[ycx rfl];have ih:=gz ha.2.2.2 hb.2.2.2 h;have hl:Lt e (dL r r'):=ha.2.2.1.minus;cases k:dL r r' with
     | z=>
       rw[k,fw] at ih;rw[fw,ih]
     | c f m t=>
       rw[k] at ih hl;have hf:0<cmp e f:=by have:=aN e f;have:=hl.1;lia
       have hne:e≠f:=λz=>by subst z;rw[cmp_self] at hf;lia
       rw[plus_c] at ih ⊢;rw[filt_c,ycx (by simpa using hf),same_ne hne];show c e n (app _ _)=_;rw[ih]
    ·rw[ybv q2];have hlt:n'<n:=by
      rcases Int.lt_trichotomy n' n with j | j | j
      ·exact j
      ·exact absurd j.symm q2
      ·rw[ybv (by lia),ycx j] at h;lia
     rw[plus_c,je hb.2.2.1 (by rw[cmp_self];lia),same_self hb.2.2.1];show c e (n'+(n-n')) r=_;have e1:n'+(n-n')=n:=by lia
     rw[e1]
   ·rw[ybv q];have hk:cmp e' e<0:=by
     rcases cmp_range e' e with j | j | j
     ·lia
     ·exact absurd (cmp_eq _ _ j).symm q
     ·rw[cmp,ycx (by lia)] at h;lia
    rw[plus_c,je hb.2.2.1 (by lia),aZ hb.2.2.1 (by have:=aN e' e;lia)];show c e (0+n) r=_;rw[Int.zero_add]
theorem uK {a b d:O} (ha:NF a) (hb:NF b) (hd:NF d) (h:plusO a b=plusO a d):b=d:=by
 have:=dJ ha hb hd;rw[h,cmp_self] at this;exact cmp_eq _ _ this.symm
theorem sw {a:O} (h:a≠z):cmp z a<0:=by
 cases a with
 | z=>exact absurd rfl h
 | c _ _ _=>simp[cmp]
theorem lt_plus {e f:O} (he:NF e) (hf:NF f) (h:f≠z):cmp e (plusO e f)<0:=by
 have:=dJ (b:=z) he trivial hf;rw[fw] at this;have:=sw h;lia
noncomputable def mulP (e:O) (n:Int) (r:O):O->O
 | z=>z
 | c f d t=>if f=z then c e (n*d) r else c (plusO e f) d (mulP e n r t)
noncomputable def timesO:O->O->O
 | z,_=>z
 | c e n r,b=>mulP e n r b
theorem mulP_c (e:O) (n:Int) (r f:O) (d:Int) (t:O):mulP e n r (c f d t)=if f=z then c e (n*d) r else c (plusO e f) d (mulP e n r t):=rfl
theorem times_z (a:O):timesO a z=z:=by cases a<;> rfl
theorem my {e:O} {n:Int} {r:O} (he:NF e) (hr:Lt e r) {f:O} (hf:NF f) (h0:f≠z):∀{t:O},NF t->Lt f t->Lt (plusO e f) (mulP e n r t)
 | z,_,_=>trivial
 | c g d u,ht,hl=>by
   rw[mulP_c];split
   ·exact⟨lt_plus he hf h0,hr.mono (lt_plus he hf h0)⟩
   ·exact⟨by rw[dJ he ht.1 hf];exact hl.1,my he hr hf h0 ht.2.2.2 hl.2⟩
theorem jL {a b:Int} (ha:1<=a) (hb:1<=b):1<=a*b:=by
 have:=Int.mul_le_mul ha hb (by lia) (by lia);simpa using this
theorem cX {e:O} {n:Int} {r:O} (h:NF (c e n r)):∀{t:O},NF t->NF (mulP e n r t)
 | z,_=>trivial
 | c g d u,ht=>by
   rw[mulP_c];split
   ·exact⟨h.1,jL h.2.1 ht.2.1,h.2.2.1,h.2.2.2⟩
   ·rename_i hg;exact⟨h.1.plus ht.1,ht.2.1,my h.1 h.2.2.1 ht.1 hg ht.2.2.2 ht.2.2.1,cX h ht.2.2.2⟩
theorem NF.times {a b:O} (ha:NF a) (hb:NF b):NF (timesO a b):=by
 cases a with
 | z=>exact trivial
 | c e n r=>exact cX ha hb
theorem Lt_z {t:O} (h:Lt z t):t=z:=by
 cases t with
 | z=>rfl
 | c x _ _=>
   have:=h.1;cases x<;> simp[cmp] at this
section
variable {e:O} {n:Int} {r:O}
theorem ba (h:NF (c e n r)) {g:O} (hg:NF g) (h0:g≠z):∀{b:O},NF b->same (plusO e g) (mulP e n r b)=same g b
 | z,_=>rfl
 | c f d t,hb=>by
   rw[mulP_c]
   by_cases k:f=z
   ·subst k;rw[ycx rfl,Lt_z hb.2.2.1];have hl:=lt_plus h.1 hg h0;have hs:=aN e (plusO e g);rw[aZ h.2.2.1 (by lia),same_ne (Ne.symm h0)]
    rfl
   ·rw[ybv k]
    by_cases q:f=g
    ·subst q;rw[same_self (my h.1 h.2.2.1 hg h0 hb.2.2.2 hb.2.2.1),same_self hb.2.2.1]
    ·rw[same_ne (λz=>q (uK h.1 hb.1 hg z)),same_ne q,ba h hg h0 hb.2.2.2]
theorem cc (h:NF (c e n r)):∀{b:O},NF b->same e (mulP e n r b)=n*same z b
 | z,_=>by show(0:Int)=n*0;lia
 | c f d t,hb=>by
   rw[mulP_c]
   by_cases k:f=z
   ·subst k;rw[ycx rfl,same_self h.2.2.1,same_self hb.2.2.1]
   ·have hne:plusO e f≠e:=λq=>by have:=lt_plus h.1 hb.1 k;rw[q,cmp_self] at this;lia
    rw[ybv k,same_ne hne,same_ne k,cc h hb.2.2.2]
theorem dM (h:NF (c e n r)) {y:O} (hy:cmp y e<0):∀{b:O},NF b->same y (mulP e n r b)=if same z b=0 then 0 else same y r
 | z,_=>by rw[iK,ycx rfl];rfl
 | c f d t,hb=>by
   have hd:=hb.2.1;rw[mulP_c]
   by_cases k:f=z
   ·subst k;have hne:e≠y:=λq=>by subst q;rw[cmp_self] at hy;lia
    rw[ycx rfl,same_ne hne,same_self hb.2.2.1,ybv (by lia)]
   ·have hne:plusO e f≠y:=λq=>by
     have h1:=lt_plus h.1 hb.1 k;rw[q] at h1;have h2:=aN e y;lia
    rw[ybv k,same_ne hne,same_ne k,dM h hy hb.2.2.2]
theorem gE {y:O} (he:NF e) (hy:NF y) (h:cmp e y<0):∃g,NF g/\g≠z/\y=plusO e g:=by
 refine⟨dL y e,hy.minus (by lia),λk=>?_,(gz hy he (by lia)).symm⟩;have:=gz hy he (by lia);rw[k,fw] at this;rw[this,cmp_self] at h;lia
end
theorem NF.of_same {x:O}:∀{a:O},NF a->same x a≠0->NF x
 | z,_,h=>absurd rfl h
 | c e n r,ha,h=>by
   by_cases k:e=x
   ·subst k;exact ha.1
   ·rw[same_ne k] at h;exact NF.of_same ha.2.2.2 h
theorem sx {a b:O} (ha:NF a) (hb:NF b) (h:∀x,NF x->same x a=same x b):a=b:=nI ha hb λx=>by
 refine Classical.byContradiction λk=>?_
 by_cases q:NF x
 ·exact k (h x q)
 ·have h1:same x a=0:=Classical.byContradiction λz=>q (ha.of_same z);have h2:same x b=0:=Classical.byContradiction λz=>q (hb.of_same z);exact k (by rw[h1,h2])
end O
namespace O
section
variable {e:O} {n:Int} {r:O}
theorem d9 (h:NF (c e n r)) {d g:O} (hd:NF d) (hg:NF g):oH (mulP e n r d) (plusO e g)↔oH d g:=by
 constructor
 ·rintro⟨w,hw,hs⟩;have hwN:NF w:=(cX h hd).of_same hs;have hew:cmp e w<0:=by
   by_cases k:g=z
   ·rw[k,fw] at hw;exact hw
   ·exact bB _ _ _ (lt_plus h.1 hg k) hw
  obtain⟨g',hg',h0,rfl⟩:=gE h.1 hwN hew;rw[dJ h.1 hg hg'] at hw;rw[ba h hg' h0 hd] at hs;exact⟨g',hw,hs⟩
 ·rintro⟨g',hw,hs⟩;have hg':NF g':=hd.of_same hs;have h0:g'≠z:=λk=>by
   subst k;have:=aN z g;cases g<;> simp[cmp] at hw
  exact⟨plusO e g',by rw[dJ h.1 hg hg'];exact hw,by rw[ba h hg' h0 hd];exact hs⟩
theorem jM (h:NF (c e n r)) {d:O} (hd:NF d):oH (mulP e n r d) e↔oH d z:=by
 have:=d9 h hd (g:=z) trivial
 rwa [fw] at this
theorem kA (h:NF (c e n r)) {d y:O} (hd:NF d) (h0:d≠z) (hy:cmp y e<0):oH (mulP e n r d) y:=by
 cases d with
 | z=>exact absurd rfl h0
 | c f m t=>
   have hm:=hd.2.1
   by_cases k:f=z
   ·subst k;refine⟨e,hy,?_⟩;rw[cc h hd,same_self hd.2.2.1];have:=jL h.2.1 hm;lia
   ·refine⟨plusO e f,bB _ _ _ hy (lt_plus h.1 hd.1 k),?_⟩;rw[ba h hd.1 k hd,same_self hd.2.2.1];lia
end
theorem uL {a b d:O} (ha:NF a) (hb:NF b) (hd:NF d):timesO a (plusO b d)=plusO (timesO a b) (timesO a d):=by
 cases a with
 | z=>rfl
 | c e n r=>
   by_cases hz:d=z
   ·subst hz;rfl
   show mulP e n r (plusO b d)=plusO (mulP e n r b) (mulP e n r d);have hbd:=hb.plus hd;have hmd:=cX ha hd;refine sx (cX ha hbd) ((cX ha hb).plus hmd) λy hy=>?_;rcases cmp_range y e with k | k | k
   ·rw[bv hmd (kA ha hd hz (by lia)),dM ha (by lia) hbd,dM ha (by lia) hd]
    by_cases q:oH d z
    ·rw[bv hd q]
    ·rw[bw hd q];have h1:same z d≠0:=by
      cases d with
      | z=>exact absurd rfl hz
      | c f m t=>
        have hf:f=z:=Classical.byContradiction λj=>q ((uG hd.2.1 hd.2.2.1).mpr (sw j));subst hf;rw[same_self hd.2.2.1];have:=hd.2.1;lia
     have h2:=same_nonneg z hd;have h3:=same_nonneg z hb;rw[ybv h1,ybv (by lia)]
   ·have q:=cmp_eq _ _ k;subst q;rw[cc ha hbd]
    by_cases q:oH d z
    ·rw[bv hmd ((jM ha hd).mpr q),bv hd q,cc ha hd]
    ·rw[bw hmd (λj=>q ((jM ha hd).mp j)),bw hd q,cc ha hd,cc ha hb,Int.mul_add]
   ·obtain⟨g,hg,h0,rfl⟩:=gE ha.1 hy (by have:=aN y e;lia);rw[ba ha hg h0 hbd]
    by_cases q:oH d g
    ·rw[bv hmd ((d9 ha hd hg).mpr q),bv hd q,ba ha hg h0 hd]
    ·rw[bw hmd (λj=>q ((d9 ha hd hg).mp j)),bw hd q,ba ha hg h0 hd,ba ha hg h0 hb]
theorem uM {a b d:O} (ha:NF a) (h0:a≠z) (hb:NF b) (hd:NF d) (h:cmp b d<0):cmp (timesO a b) (timesO a d)<0:=by
 cases a with
 | z=>exact absurd rfl h0
 | c e n r=>
   show cmp (mulP e n r b) (mulP e n r d)<0;obtain⟨x,hx,hy⟩:=dg hb hd h;have hxN:NF x:=hd.of_same (by have:=same_nonneg x hb;lia);have up:∀y,0<cmp y (plusO e x)->same y (mulP e n r b)=same y (mulP e n r d):=λy hyx=>by
    refine Classical.byContradiction λk=>?_;have hyN:NF y:=by
     refine Classical.byContradiction λq=>k ?_;have h1:same y (mulP e n r b)=0:=Classical.byContradiction λj=>q ((cX ha hb).of_same j);have h2:same y (mulP e n r d)=0:=Classical.byContradiction λj=>q ((cX ha hd).of_same j);rw[h1,h2]
    have hs:=aN y (plusO e x);have hey:cmp e y<0:=by
     by_cases j:x=z
     ·rw[j,fw] at hs hyx;lia
     ·exact bB _ _ _ (lt_plus ha.1 hxN j) (by lia)
    obtain⟨g,hg,hg0,rfl⟩:=gE ha.1 hyN hey;rw[dJ ha.1 hg hxN] at hyx;rw[ba ha hg hg0 hb,ba ha hg hg0 hd] at k;exact k (hy g hyx)
   refine dX (x:=plusO e x) (cX ha hb) (cX ha hd) ?_ up
   by_cases j:x=z
   ·subst j;rw[fw,cc ha hb,cc ha hd];exact Int.mul_lt_mul_of_pos_left hx (by have:=ha.2.1;assumption)
   ·rw[ba ha hxN j hb,ba ha hxN j hd];exact hx
theorem sy {a:O}:timesO a (c z 1 z)=a:=by
 cases a with
 | z=>rfl
 | c e n r=>show mulP e n r (c z 1 z)=_;rw[mulP_c,ycx rfl,Int.mul_one]
end O
namespace O
end O
namespace O
noncomputable def hw:O->Nat
 | z=>0
 | c e _ r=>max (len r+1) (max (hw e) (hw r))
theorem hw_c (e:O) (n:Int) (r:O):hw (c e n r)=max (len r+1) (max (hw e) (hw r)):=rfl
theorem len_le_hw:∀a:O,len a<=hw a
 | z=>yby _
 | c e n r=>by rw[hw_c];simp only[len];lia
theorem len_app':∀a b:O,(app a b).len=a.len+b.len
 | z,b=>by simp[app,len]
 | c e n r,b=>by have:=len_app' r b;simp only[app,len];lia
theorem len_filt' (p:O->Int->Bool):∀a:O,(a.filt p).len<=a.len
 | z=>yby _
 | c e n r=>by
   have:=len_filt' p r;rw[filt_c];split<;> simp only[len]<;> lia
theorem uN:∀a b:O,hw (app a b)<=max (len a+len b) (max (hw a) (hw b))
 | z,b=>by show hw b<=_;lia
 | c e n r,b=>by
   have ih:=uN r b;show hw (c e n (app r b))<=_;have l0:len (c e n r)=len r+1:=rfl;have b1:hw e<=hw (c e n r):=ybz (le_max_left _ _) (le_max_right _ _);have b2:hw r<=hw (c e n r):=ybz (le_max_right _ _) (le_max_right _ _);have c1:len (c e n r)+len b<=max (len (c e n r)+len b) (max (hw (c e n r)) (hw b)):=le_max_left _ _;have c2:hw (c e n r)<=max (len (c e n r)+len b) (max (hw (c e n r)) (hw b)):=ybz (le_max_left _ _) (le_max_right _ _);have c3:hw b<=max (len (c e n r)+len b) (max (hw (c e n r)) (hw b)):=ybz (le_max_right _ _) (le_max_right _ _);generalize max (len (c e n r)+len b) (max (hw (c e n r)) (hw b))=R at c1 c2 c3 ⊢;rw[hw_c,len_app'];refine max_le.mpr ⟨by lia,max_le.mpr ⟨ybz b1 c2,ybz ih (max_le.mpr ⟨by lia,max_le.mpr ⟨ybz b2 c2,c3⟩⟩)⟩⟩
theorem hw_filt (p:O->Int->Bool):∀a:O,hw (filt p a)<=hw a
 | z=>yby _
 | c e n r=>by
   have ih:=hw_filt p r;have h:=len_filt' p r;rw[filt_c];split
   ·rw[hw_c,hw_c];lia
   ·rw[hw_c];lia
theorem hw_plus (a b:O):hw (plusO a b)<=hw a+hw b:=by
 cases b with
 | z=>show hw a<=_;lia
 | c e n r=>
   rw[plus_c];have h1:=uN (filt (λx _=>decide (0<cmp x e)) a) (c e (same e a+n) r);have h2:=hw_filt (λx _=>decide (0<cmp x e)) a;have h3:=len_filt' (λx _=>decide (0<cmp x e)) a;have h4:=len_le_hw a;have h5:=len_le_hw (c e n r);have e1:hw (c e (same e a+n) r)=hw (c e n r):=rfl;have e2:len (c e (same e a+n) r)=len (c e n r):=rfl;rw[e1,e2] at h1;exact ybz h1 (max_le.mpr ⟨by lia,max_le.mpr ⟨by lia,by lia⟩⟩)
theorem qI (e:O) (n:Int) (r:O):∀b:O,(mulP e n r b).len<=b.len+r.len
 | z=>by simp[mulP,len]
 | c f d t=>by
   have ih:=qI e n r t;rw[mulP_c];split<;> simp only[len]<;> lia
theorem uO (e:O) (n:Int) (r:O):∀b:O,hw (mulP e n r b)<=hw (c e n r)+hw b
 | z=>by simp[mulP,hw]
 | c f d t=>by
   have ih:=uO e n r t;have h1:=hw_plus e f;have h2:=qI e n r t;have h3:=len_le_hw t;have h4:hw e<=hw (c e n r):=ybz (le_max_left _ _) (le_max_right _ _);have h5:len r+1<=hw (c e n r):=le_max_left _ _;have h6:hw f<=hw (c f d t):=ybz (le_max_left _ _) (le_max_right _ _);have h7:hw t<=hw (c f d t):=ybz (le_max_right _ _) (le_max_right _ _);have h8:len t+1<=hw (c f d t):=le_max_left _ _;rw[mulP_c];split
   ·have e1:hw (c e (n*d) r)=hw (c e n r):=rfl;rw[e1];lia
   ·rw[hw_c (plusO e f)];exact max_le.mpr ⟨by lia,max_le.mpr ⟨by lia,by lia⟩⟩
theorem hw_times (a b:O):hw (timesO a b)<=hw a+hw b:=by
 cases a with
 | z=>show hw z<=_;exact zero_le _
 | c e n r=>exact uO e n r b
theorem qJ (e:O) (n:Int) (r:O):∀b:O,(mulP e n r b).dp<=max (dp (c e n r)) (b.dp)
 | z=>by simp[mulP,dp]
 | c f d t=>by
   have ih:=qJ e n r t;have h:=dp_plus e f;have h1:dp e+1<=dp (c e n r):=le_max_left _ _;have h2:dp f+1<=dp (c f d t):=le_max_left _ _;have h3:dp t<=dp (c f d t):=le_max_right _ _;rw[mulP_c];split
   ·have e1:dp (c e (n*d) r)=dp (c e n r):=rfl;rw[e1];exact le_max_left _ _
   ·refine max_le.mpr ⟨?_,ybz ih (max_le.mpr ⟨le_max_left _ _,ybz h3 (le_max_right _ _)⟩)⟩;rcases Nat.le_total (dp e) (dp f) with k | k
    ·rw[Nat.max_eq_right k] at h;exact ybz (Nat.succ_le_succ h) (ybz h2 (le_max_right _ _))
    ·rw[Nat.max_eq_left k] at h;exact ybz (Nat.succ_le_succ h) (ybz h1 (le_max_left _ _))
theorem dp_times (a b:O):dp (timesO a b)<=max (dp a) (dp b):=by
 cases a with
 | z=>show dp z<=_;exact zero_le _
 | c e n r=>exact qJ e n r b
theorem mx_plus {a b:O} (ha:NF a):mx (plusO a b)<=mx a+mx b:=by
 have h0:=mx_nonneg a;cases b with
 | z=>show mx a<=mx a+0;lia
 | c e n r=>
   rw[plus_c,uI,mx_c,mx_c];have h2:=qH (λx _=>decide (0<cmp x e)) a;have h3:=same_le_mx e ha;have e1:n<=max n (max (mx e) (mx r)):=qG (e:=e) (r:=r);have e2:max (mx e) (mx r)<=max n (max (mx e) (mx r)):=Int.le_max_right _ _;have e3:0<=max n (max (mx e) (mx r)):=mx_nonneg (c e n r);generalize max n (max (mx e) (mx r))=M at e1 e2 e3 ⊢;refine Int.max_le.mpr ⟨ydx h2 (Int.le_add_of_nonneg_right e3),Int.max_le.mpr ⟨Int.add_le_add h3 e1,ydx e2 (Int.le_add_of_nonneg_left h0)⟩⟩
theorem uP {e:O} {n:Int} {r:O} (h:NF (c e n r)):∀{b:O},NF b->mx (mulP e n r b)<=(mx (c e n r)+1)*(mx b+1)
 | z,_=>by
   have:=mx_nonneg (c e n r);show(0:Int)<=(mx (c e n r)+1)*(0+1);lia
 | c f d t,hb=>by
   have ih:=uP h hb.2.2.2;have hp:=mx_plus (a:=e) (b:=f) h.1;have n0:=mx_nonneg (c e n r);have n1:=mx_nonneg f;have n2:=mx_nonneg t;have hd:=hb.2.1;have hn:=h.2.1;obtain⟨A,hA⟩:∃A,A=mx (c e n r):=⟨_,rfl⟩;rw[←hA] at ih n0 ⊢;rw[mx_c] at hA;have k1:(A+1)*(mx t+1)<=(A+1)*(mx (c f d t)+1):=Int.mul_le_mul_of_nonneg_left (Int.add_le_add_right nK 1) (Int.le_add_one n0);have e1:mx e<=A:=by rw[hA];exact uH
   have e2:mx r<=A:=by rw[hA];exact nK
   have e3:n<=A:=by rw[hA];exact qG
   have e4:mx f<=mx (c f d t):=uH;have e5:d<=mx (c f d t):=qG;have e6:=mx_nonneg (c f d t);clear hA n1 n2 hn;generalize mx (c f d t)=M at k1 e4 e5 e6 ⊢;have k2:A+M<=(A+1)*(M+1):=by
    have:=Int.mul_nonneg n0 e6;rw[Int.mul_add,Int.add_mul];generalize A*M=P at this ⊢;clear ih hp hd k1 e1 e2 e3 e4 e5;lia
   have k5:A<=(A+1)*(M+1):=ydx (Int.le_add_of_nonneg_right e6) k2;rw[mulP_c];split
   ·exact pK (Int.mul_le_mul (ydx e3 (Int.le_add_one (Int.le_refl A))) (ydx e5 (Int.le_add_one (Int.le_refl M))) (Int.le_of_lt hd) (Int.le_add_one n0)) (ydx e1 k5) (ydx e2 k5)
   ·exact pK (ydx (ydx e5 (Int.le_add_of_nonneg_left n0)) k2) (ydx (ydx hp (Int.add_le_add e1 e4)) k2) (ydx ih k1)
end O
namespace O
noncomputable def fy:O->O
 | z=>z
 | c e n z=>if n=1 then z else c e (n-1) z
 | c e n (c e' n' r')=>c e n (fy (c e' n' r'))
noncomputable def cF:O->O
 | z=>z
 | c e _ z=>e
 | c _ _ (c e' n' r')=>cF (c e' n' r')
theorem app_z:∀a:O,app a z=a
 | z=>rfl
 | c e n r=>by show c e n (app r z)=_;rw[app_z r]
noncomputable def GZ (a:O):Prop:=a≠z/\same z a=0
inductive A6:O->Int->O->Prop where
 | suc {a:O} {n:Int} (h0:a≠z) (h:cF a=z):A6 a n (fy a)
 | lim {a:O} {n:Int} {o:O} (h0:a≠z) (h:GZ (cF a)) (k:A6 (cF a) n o):A6 a n (app (fy a) (c o 1 z))
 | one {a:O} {n:Int} (h0:a≠z) (h:cF a≠z) (h':¬GZ (cF a)):A6 a n (app (fy a) (if n=0 then z else c (fy (cF a)) n z))
end O
namespace O
theorem app_assoc:∀a b d:O,app (app a b) d=app a (app b d)
 | z,_,_=>rfl
 | c e k r,b,d=>by show c e k (app (app r b) d)=c e k (app r (app b d));rw[app_assoc r b d]
end O
namespace O
structure Rg (a b:O) (n:Int):Prop where
 pos:0<=n
 pass:∀o,A6 a n o->cmp b o<0
 least:0<n->∀o,A6 a (n-1) o->¬cmp b o<0
end O
namespace O
end O
namespace O
end O
namespace O
noncomputable def wh (m:Int):O:=if m=0 then z else c z m z
theorem NF.wh {m:Int} (h:0<=m):NF (wh m):=by
 unfold O.wh;split
 ·exact trivial
 ·exact⟨trivial,by lia,trivial,trivial⟩
theorem A7:wh 0=z:=rfl
theorem wh_pos {m:Int} (h:0<m):wh m=c z m z:=by unfold wh;rw[ybv (by lia)]
theorem xS {m:Int} (h:0<=m):plusO (wh m) (c z 1 z)=wh (m+1):=by
 by_cases q:m=0
 ·subst q;rfl
 ·rw[wh_pos (by lia),wh_pos (by lia)];rw[plus_c,filt_c,ybv (by rw[cmp_self];simp),eU];show c z (m+0+1) z=c z (m+1) z;rw[Int.add_zero]
theorem sA {b:O} {m:Int} (hb:NF b) (h:0<=m):timesO b (wh (m+1))=plusO (timesO b (wh m)) b:=by
 have n1:NF (c z 1 z):=⟨trivial,by lia,trivial,trivial⟩;rw[←xS h,uL hb (NF.wh h) n1,sy]
theorem uQ {a b:O} (ha:NF a) (hb:NF b) (h:cmp a b<0):cmp (plusO a (c z 1 z)) b<=0:=by
 have n1:NF (c z 1 z):=⟨trivial,by lia,trivial,trivial⟩;have sm:∀y,same y (plusO a (c z 1 z))=same y a+(if y=z then 1 else 0):=λy=>by
  rw[iL (show Lt z z from trivial)]
  by_cases q:y=z
  ·subst q;rw[cmp_self,ybv (by lia),ybv (by lia),eU,ycx rfl]
   rfl
  ·have:0<cmp y z:=by have:=sw q;have:=aN z y;lia
   rw[ycx this,ybv q];lia
 obtain⟨x,h1,h2⟩:=dg ha hb h
 by_cases q:x=z
 ·subst q;refine pJ (ha.plus n1) hb λy=>?_;rw[sm]
  by_cases q:y=z
  ·subst q;rw[ycx rfl];assumption
  ·have:0<cmp y z:=by have:=sw q;have:=aN z y;lia
   rw[ybv q,h2 y this];lia
 ·have:cmp (plusO a (c z 1 z)) b<0:=by
   refine dX (x:=x) (ha.plus n1) hb (by rw[sm,ybv q];lia) λy hy=>?_;have hyz:y≠z:=λk=>by subst k;cases x<;> simp[cmp] at hy
   rw[sm,ybv hyz,h2 y hy];lia
  lia
theorem jN (e:O) (n:Int) (r:O) (n':Int) (r':O):cmp (c e n r) (c e n' r')=if n<n' then -1 else if n'<n then 1 else cmp r r':=by
 rw[cmp,ybv (by rw[cmp_self];simp)]
end O
namespace O
noncomputable abbrev one:O:=c z 1 z
noncomputable abbrev lim (b:O):O:=filt (λy _=>decide (¬y=z)) b
theorem times_mx {a b:O} (ha:NF a) (hb:NF b):mx (timesO a b)<=(mx a+1)*(mx b+1):=by
 cases a with
 | z=>
   have:=mx_nonneg b;show(0:Int)<=(0+1)*(mx b+1);lia
 | c e n r=>exact uP ha hb
end O
namespace O
section
variable {x:O} {n m:Int}
end
end O
namespace O
noncomputable abbrev w1:O:=c one 1 z
end O
namespace O
end O
namespace O
noncomputable def ot:O->Int
 | z=>0
 | c _ n r=>max n (ot r)
end O
namespace O
end O
namespace O
noncomputable def val (b:Nat):O->Nat
 | z=>0
 | c e n r=>n.toNat*b^val b e+val b r
structure Wr (b:Nat) (a:O):Prop where
 nf:NF a
 mx:O.mx a<b
end O
namespace O
noncomputable def tp (b:Nat):O->Nat
 | z=>0
 | c e _ _=>val b e+1
end O
namespace O
open Classical in
noncomputable def rep (b s:Nat):O:=if h:∃o,Wr b o/\val b o=s then choose h else z
noncomputable def tl (b:Nat):Nat->O
 | 0=>z
 | s+1=>c (rep b s) ((b:Int)-1) (tl b s)
noncomputable def dn (b:Nat) (a:O):O:=app (fy a) (tl b (val b (cF a)))
end O
namespace O
inductive Wy (b:Nat):O->Prop where
 | z:Wy b z
 | c {a:O} (h0:a≠O.z) (nf:NF a) (w:Wr b (fy a)) (k:Wy b (cF a)):Wy b a
end O
namespace O
end O
namespace O
noncomputable def xb (b:Nat):Nat:=if b*b<=55 then b else 54/b+1
noncomputable def Fn (b:Nat):O:=if b<56 then c (c z 1 z) (xb b:Int) z else c z 55 z
structure Rw (b k:Nat) (a:O):Prop where
 wr:Wr (b+k) a
 aO:Lt (Fn b) a
 tp:O.tp (b+k) a<=200
end O
namespace O
structure Hi (b:Nat) (a p e:O) (n:Int):Prop where
 app:a=O.app p (c e n z)
 wp:Wr b p
 we:Wr b e
 n1:1<=n
 n2:n<b
 last:cF a=e
 div:∃q,val b p=q*b^ (val b e+1)
 lt:p≠z->cmp e (cF p)<0
 dp:p.dp<=a.dp
 de:e.dp<a.dp
 aO:∀x,Lt x a->Lt x p
end O
namespace O
end O
inductive Tr where
 | z
 | c (b r:Tr)
namespace Tr
noncomputable def pts:Tr->Nat
 | z=>1
 | c b r=>pts b+pts r
noncomputable def dp:Tr->Nat
 | z=>0
 | c b r=>max (dp b+1) (dp r)
noncomputable def len:Tr->Nat
 | z=>0
 | c _ r=>len r+1
noncomputable def sm (f:Nat->Nat):Nat->Nat
 | 0=>0
 | n+1=>sm f n+f n
structure HA (n M:Nat) (ch:Nat->List Nat) (ds:Nat->Nat):Prop where
 pos:1<=n
 d0:ds 0=0
 in_:∀v,v<n->∀j,j∈ch v->v<j/\j<n/\ds j=ds v+1
 dp:∀v,v<n->ds v<=M
 sum:∀f:Nat->Nat,sm (λv=>((ch v).map f).sum) n+f 0=sm f n
 len:∀v,v<n->(ch v).length<=n
structure Ha (n M k:Nat) (ch:Nat->List Nat) (ds:Nat->Nat) (t:Nat->Tr):Prop where
 pts:∀v,k<=v->v<n->Tr.pts (t v)=1+((ch v).map λj=>Tr.pts (t j)).sum
 dp:∀v,k<=v->v<n->Tr.dp (t v)+ds v<=M
end Tr
namespace Tr
open O
noncomputable def nO:Tr->O
 | z=> .z
 | c b r=>mv (.c (nO b) 1 .z) (nO r)
noncomputable def app:Tr->Tr->Tr
 | z,u=>u
 | c b r,u=>c b (app r u)
noncomputable def uR:Tr->Nat->Option Tr
 | z,_=>none
 | c b _,0=>some b
 | c _ r,i+1=>uR r i
noncomputable def uS:Tr->Nat->Tr->Tr
 | z,_,_=>z
 | c _ r,0,u=>app u r
 | c b r,i+1,u=>c b (uS r i u)
noncomputable def DB (b:Tr):Nat->Tr
 | 0=>z
 | n+1=>c b (DB b n)
noncomputable def xT (m:Nat):Tr->List Nat->Tr
 | t,[]=>t
 | t,[i]=>uS t i z
 | t,[i,j]=>match uR t i with
   | some b=>uS t i (DB (uS b j z) (1+m))
   | none=>t
 | t,i::j::k::w=>match uR t i with
   | some b=>uS t i (c (xT m b (j::k::w)) z)
   | none=>t
end Tr
namespace Tr
open O
end Tr
namespace Tr
open O
end Tr
namespace Tr
end Tr
namespace Tr
open O
end Tr
namespace Tr
noncomputable def HB:Tr->Bool
 | z=>true
 | c _ _=>false
noncomputable def bare:Tr->Nat
 | z=>0
 | c b r=>(if HB b=true then 1 else bare b)+bare r
end Tr
namespace O
inductive Ru (n:Int):O->O->Prop
 | less {a:O}:a≠ .z->cF a=.z->Ru n a (fy a)
 | succ {a:O}:a≠ .z->cF a≠ .z->cF (cF a)=.z->Ru n a (O.app (fy a) (.c (fy (cF a)) n .z))
 | lim {a o:O}:a≠ .z->cF a≠ .z->cF (cF a)≠ .z->Ru n (cF a) o->Ru n a (O.app (fy a) (.c o 1 .z))
end O
namespace Tr
open O
noncomputable def xU (t:Tr) (i:Nat) (b:Tr):Prop:=uR t i=some b/\∀j d,uR t j=some d->(j<=i->0<=cmp (nO d) (nO b))/\(i<j->0<cmp (nO d) (nO b))
noncomputable def Hb:Tr->List Nat->Prop
 | t,[]=>t=z
 | t,i::w=>∃b,xU t i b/\Hb b w
end Tr
namespace O
end O
namespace O
structure Bd (d s:Nat) (m:Int) (o:O):Prop where
 nf:o.NF
 dp:o.dp<=d
 sz:o.size<=s
 mx:O.mx o<=m
end O
namespace O
end O
namespace O
end O
namespace O
theorem len_app:∀a b:O,(app a b).len=a.len+b.len
 | z,b=>by simp[app,len]
 | c e n r,b=>by
   have:=len_app r b;show(app r b).len+1=r.len+1+b.len;lia
end O
namespace O
end O
namespace O
noncomputable def e1:O:=c z 1 z
inductive Hc (B k l:Nat):Prop
 | two:B=2->k=16->l<2->Hc B k l
 | three:B=3->k=27->l<3->Hc B k l
end O
namespace O
end O
namespace O
inductive Dn (f:Nat->Int) (a:O):List O->O->Prop where
 | one:Dn f a [a] a
 | step {os:List O} {b o:O} (h:Dn f a os b) (hb:b≠z) (l:A6 b (f (os.length-1)) o):Dn f a (os++[o]) o
end O
namespace Tr
instance decZ:(t:Tr)->Decidable (t=z)
 | z=> .isTrue rfl
 | c _ _=> .isFalse (λh=>by cases h)
noncomputable def Ew:List Tr->Tr
 | []=>z
 | [t]=>t
 | _::u::l=>Ew (u::l)
noncomputable def step (ls:List Tr) (s:Nat):Option (List Tr):=
 if s=40/\Ew ls=z/\ls.length<=41 then some (z::ls)
 else if s=41 then
  match ls with
  | t::u::l=>some (u.app (c t z)::l)
  | _=>none
 else none
structure Bg (ls:List Tr):Prop where
 ne:ls≠[]
 lo:Ew ls=z∨∃b,ls=[c b z]
 len:ls.length<=42
noncomputable def Hd:List Nat->Bool->Int->Int->Option (Int×Int)
 | [],_,d,m=>some (d,m)
 | s::cs,f,d,m=>
   if ¬(s=40∨s=41)∨(f=false/\d=0) then none
   else
    let d':=d+1-2*(if s=41 then 1 else 0)
    if d'<0 then none else Hd cs false d' (max m d')
noncomputable def rt (l:List Nat):Bool:=match Hd l true 0 0 with
 | none=>false
 | some (d,m)=>decide (l≠[])&&decide (d=0)&&decide (l.length<=1200)&&decide (m<=41)
end Tr
namespace Tr
open O
inductive Fo (f:Nat->Nat) (t:Tr):List Tr->Tr->Prop
 | one:Fo f t [t] t
 | step {ts:List Tr} {u:Tr} {w:List Nat} (h:Fo f t ts u) (hz:u≠z) (hw:w≠[]) (hl:Hb u w) (hp:pts (xT (f (ts.length-1)) u w)<=60):Fo f t (ts++[xT (f (ts.length-1)) u w]) (xT (f (ts.length-1)) u w)
section
variable {f:Nat->Nat} {t u:Tr} {ts:List Tr}
end
end Tr
open O
mutual
inductive Rw (α:Type) where
 | set (b:α) (n:Int)
 | copy (b o:α)
 | add (b o:α)
 | less (b:α)
 | times (b:α) (rs:pM α)
 | count (rs:pM α) (n:Int)
inductive pM (α:Type) where
 | nil
 | cons (r:Rw α) (rs:pM α)
end
noncomputable def om:O:= .c (O.wh 1) 1 .z
section
variable {α:Type}
mutual
noncomputable def Rw.wt:Rw α->O
 | .times _ rs=>O.timesO (O.plusO rs.wt (O.wh 1)) om
 | .count rs n=>O.plusO (O.timesO (O.plusO rs.wt (O.wh 1)) (O.wh n)) (O.wh 1)
 | _=>O.wh 1
noncomputable def pM.wt:pM α->O
 | .nil=> .z
 | .cons r rs=>O.plusO rs.wt r.wt
end
mutual
noncomputable def Rw.hb:Rw α->Nat
 | .times _ rs=>rs.hb+2
 | .count rs _=>rs.hb+3
 | _=>1
noncomputable def pM.hb:pM α->Nat
 | .nil=>0
 | .cons r rs=>rs.hb+r.hb
end
mutual
noncomputable def Rw.mb:Rw α->Nat
 | .times _ rs=>(rs.mb+2)*2
 | .count rs n=>(rs.mb+2)*(n.toNat+1)+1
 | _=>1
noncomputable def pM.mb:pM α->Nat
 | .nil=>0
 | .cons r rs=>rs.mb+r.mb
end
mutual
noncomputable def Rw.lb:Rw α->Nat
 | .count rs _=>rs.lb+2
 | _=>1
noncomputable def pM.lb:pM α->Nat
 | .nil=>0
 | .cons r rs=>rs.lb+r.lb
end
mutual
noncomputable def Rw.nn:Rw α->Prop
 | .times _ rs=>rs.nn
 | .count rs n=>rs.nn/\0<=n
 | _=>True
noncomputable def pM.nn:pM α->Prop
 | .nil=>True
 | .cons r rs=>r.nn/\rs.nn
end
mutual
noncomputable def Rw.dt:Rw α->Nat
 | .times _ rs=>rs.dt+1
 | .count rs _=>rs.dt+1
 | _=>0
noncomputable def pM.dt:pM α->Nat
 | .nil=>0
 | .cons r rs=>max r.dt rs.dt
end
structure Wb (o:O) (h m l:Nat):Prop where
 nf:o.NF
 dp:o.dp<=3
 hw:O.hw o<=h
 mx:O.mx o<=m
 ln:o.len<=l
theorem jO (a b:O):(O.plusO a b).len<=a.len+b.len:=by
 cases b with
 | z=>show a.len<=_;lia
 | c e n r=>
   rw[O.plus_c,O.len_app'];have:=O.len_filt' (λx _=>decide (0<O.cmp x e)) a;show _+(r.len+1)<=a.len+(r.len+1);lia
theorem Wb.wh {n:Int} (h:0<=n):Wb (O.wh n) 1 n.toNat 1:=by
 by_cases h0:n=0
 ·subst h0;exact⟨trivial,zero_le _,zero_le _,Int.le_refl _,zero_le _⟩
 ·rw[O.wh_pos (by lia)];refine⟨⟨trivial,by lia,trivial,trivial⟩,Nat.le_of_ble_eq_true rfl,Nat.le_of_ble_eq_true rfl,?_,Nat.le_of_ble_eq_true rfl⟩;show max n (max 0 0)<=_;lia
theorem uT:O.NF om:=⟨O.NF.wh (by decide),by decide,trivial,trivial⟩
end
noncomputable def rk (os:List O) (o:O):Nat:=(os.filter λx=>decide (cmp x o<0)).length
theorem lc {α:Type} {p q:α->Bool}:∀{l:List α},(∀x,x∈l->p x=true->q x=true)->(l.filter p).length<=(l.filter q).length
 | [],_=>yby _
 | x::l,h=>by
   have ih:=lc (p:=p) (q:=q) (l:=l) λy hy=>h y (yay _ hy);have hx:=h x yaz;rw[filter_cons,filter_cons]
   by_cases e:p x=true
   ·rw[ycx e,ycx (hx e)];simp only[length_cons];lia
   ·rw[ybv e];split
    ·simp only[length_cons];lia
    ·exact ih
theorem iM {α:Type} {p q:α->Bool}:∀{l:List α} {a:α},a∈l->p a=false->q a=true->(∀x,x∈l->p x=true->q x=true)->(l.filter p).length<(l.filter q).length
 | x::l,a,ha,h1,h2,h=>by
   rw[filter_cons,filter_cons];rcases mem_cons.mp ha with rfl | ha
   ·have ih:=lc (p:=p) (q:=q) (l:=l) λy hy=>h y (yay _ hy);rw[ybv (by rw[h1];exact ycy),ycx h2];simp only[length_cons];lia
   ·have ih:=iM (p:=p) (q:=q) ha h1 h2 λy hy=>h y (yay _ hy);have hx:=h x yaz
    by_cases e:p x=true
    ·rw[ycx e,ycx (hx e)];simp only[length_cons];lia
    ·rw[ybv e];split
     ·simp only[length_cons];lia
     ·exact ih
theorem qK {os:List O} {a b:O} (ha:a∈os) (h:cmp a b<0):rk os a<rk os b:=by
 unfold rk;refine iM ha ?_ (ycw h) λx _ hx=>?_
 ·rw[cmp_self];rfl
 ·exact ycw (bB x a b (of_decide_eq_true hx) h)
theorem A8 {os:List O} {a:O} (ha:a∈os):rk os a<os.length:=by
 have h:=iM (p:=λx=>decide (cmp x a<0)) (q:=λ_=>true) ha (by rw[cmp_self];rfl) rfl λ_ _ _=>rfl;have e:(os.filter λ_=>true)=os:=List.filter_eq_self.mpr λ_ _=>rfl;unfold rk;rw[e] at h;exact h
theorem uU {os:List O} {a b:O} (ha:a∈os) (hb:b∈os):rk os a<rk os b↔cmp a b<0:=by
 constructor
 ·intro h;rcases cmp_range a b with e | e | e
  ·lia
  ·rw[cmp_eq a b e] at h;lia
  ·have:cmp b a<0:=by rw[aN];lia
   have:=qK hb this;lia
 ·exact qK ha
theorem A9 {os:List O} {a b:O} (ha:a∈os) (hb:b∈os) (h:rk os a=rk os b):a=b:=by
 rcases cmp_range a b with e | e | e
 ·have:=qK ha (show cmp a b<0 by lia);lia
 ·exact cmp_eq a b e
 ·have:=qK hb (show cmp b a<0 by rw[aN];lia);lia
theorem qL {α:Type} [DecidableEq α]:∀{l m:List α},l.Nodup->(∀x,x∈l->x∈m)->m.length=l.length->l.Perm m
 | [],m,_,_,e=>by rw[List.eq_nil_of_length_eq_zero e]
 | x::l,m,hn,hs,e=>by
   rw[nodup_cons] at hn;have hx:=hs x yaz;have h1:=List.perm_cons_erase hx;refine List.Perm.trans (List.Perm.cons x (qL (m:=m.erase x) hn.2 (λy hy=>?_) ?_)) h1.symm
   ·exact(List.mem_erase_of_ne (λ(z:y=x)=>hn.1 (by rw[←z];exact hy))).mpr (hs y (yay _ hy))
   ·rw[List.length_erase_of_mem hx,e];rfl
noncomputable def dv (l:List O):Prop:=l.Pairwise λa b=>cmp b a<0
theorem xV {os:List O} {n:Nat} (hn:os.length=n) (hd:os.Nodup) {p:List Nat} (hp:(p.map λi=>(os.map (rk os)).getD i 0)=List.range n) (hi:∀i,i∈p->i<n):
 dv ((p.map λi=>os.getD i .z).reverse)/\((p.map λi=>os.getD i .z).reverse).Perm os:=by
 have hm:∀i,i∈p->os.getD i .z∈os:=λi h=>by
  have hi':=hi i h;rw[List.getD_eq_getElem?_getD,ybw (by lia)];exact getElem_mem _
 have he:∀i,i∈p->(os.map (rk os)).getD i 0=rk os (os.getD i .z):=λi h=>by
  have hi':=hi i h;rw[List.getD_eq_getElem?_getD,List.getD_eq_getElem?_getD,List.getElem?_map,ybw (by lia)]
  rfl
 have hr:(p.map λi=>os.getD i .z).map (rk os)=List.range n:=by
  rw[map_map,←hp];exact List.map_congr_left λi h=>(he i h).symm
 have hmem:∀x,x∈(p.map λi=>os.getD i .z)->x∈os:=λx hx=>by
  obtain⟨i,h1,rfl⟩:=mem_map.mp hx;exact hm i h1
 generalize (p.map λi=>os.getD i .z)=asc at hr hmem;have hlen:asc.length=n:=by have:=congrArg List.length hr;simpa using this
 have hpw:asc.Pairwise λa b=>cmp a b<0:=by
  have h1:(asc.map (rk os)).Pairwise (·< ·):=by rw[hr];exact List.pairwise_lt_range
  rw[List.pairwise_map] at h1;exact h1.imp_of_mem λ{a b} ha hb h=>(uU (hmem a ha) (hmem b hb)).mp h
 constructor
 ·unfold dv;rw[List.pairwise_reverse];exact hpw
 ·refine(List.reverse_perm asc).trans (qL ?_ hmem (by lia));exact hpw.imp λ{a b} h z=>by rw[z,cmp_self] at h;lia
mutual
inductive Rq (α:Type) where
 | set (b:α) (n:Int)
 | copy (b o:α)
 | add (b o:α)
 | less (b:α)
 | times (b:α) (rs:aT α)
 | count (rs:aT α) (n:Int)
 | whl (b:α) (hs:List (O×List α)) (rs:aT α)
 | bear (b:α) (hs:List (O×List α)) (rs:aT α) (o:O)
inductive aT (α:Type) where
 | nil
 | cons (r:Rq α) (rs:aT α)
end
section
variable {α:Type}
noncomputable def zG:List (O×List α)->O
 | []=> .z
 | p::_=>O.plusO p.1 (O.wh 1)
noncomputable def hpw (hs:List (O×List α)):O:= .c (zG hs) 1 .z
mutual
noncomputable def Rq.wt:Rq α->O
 | .times _ rs=>O.timesO (O.plusO rs.wt (O.wh 1)) om
 | .count rs n=>O.plusO (O.timesO (O.plusO rs.wt (O.wh 1)) (O.wh n)) (O.wh 1)
 | .whl _ hs rs=>O.plusO (O.timesO (O.plusO rs.wt (O.wh 2)) (hpw hs)) (O.wh 1)
 | .bear _ _ rs o=>O.plusO (O.timesO (O.plusO rs.wt (O.wh 2)) o) (O.wh 1)
 | _=>O.wh 1
noncomputable def aT.wt:aT α->O
 | .nil=> .z
 | .cons r rs=>O.plusO rs.wt r.wt
end
noncomputable def aT.rnd (rs:aT α):O:=O.plusO rs.wt (O.wh 1)
noncomputable def aT.rnw (rs:aT α):O:=O.plusO rs.wt (O.wh 2)
mutual
noncomputable def Rq.hb:Rq α->Nat
 | .times _ rs=>rs.hb+2
 | .count rs _=>rs.hb+3
 | .whl _ hs rs=>rs.hb+hw (hpw hs)+2
 | .bear _ _ rs o=>rs.hb+hw o+2
 | _=>1
noncomputable def aT.hb:aT α->Nat
 | .nil=>0
 | .cons r rs=>rs.hb+r.hb
end
mutual
noncomputable def Rq.mb:Rq α->Nat
 | .times _ rs=>(rs.mb+2)*2
 | .count rs n=>(rs.mb+2)*(n.toNat+1)+1
 | .whl _ hs rs=>(rs.mb+3)*((mx (hpw hs)).toNat+1)+1
 | .bear _ _ rs o=>(rs.mb+3)*((mx o).toNat+1)+1
 | _=>1
noncomputable def aT.mb:aT α->Nat
 | .nil=>0
 | .cons r rs=>rs.mb+r.mb
end
mutual
noncomputable def Rq.lb:Rq α->Nat
 | .count rs _=>rs.lb+2
 | .whl _ hs rs=>match hs with
   | []=>rs.lb+2
   | _::_=>2
 | .bear _ _ rs o=>rs.lb+1+o.len+1
 | _=>1
noncomputable def aT.lb:aT α->Nat
 | .nil=>0
 | .cons r rs=>rs.lb+r.lb
end
noncomputable def sR (d:Nat) (hs:List (O×List α)):Prop:=∀p,p∈hs->p.1.NF/\p.1.dp<=d/\O.hw p.1<=100
mutual
noncomputable def Rq.nn:Rq α->Prop
 | .times _ rs=>rs.nn
 | .count rs n=>rs.nn/\0<=n
 | .whl _ hs rs=>rs.nn/\sR 3 hs
 | .bear _ hs rs o=>rs.nn/\sR 3 hs/\o.NF/\o.dp<=4
 | _=>True
noncomputable def aT.nn:aT α->Prop
 | .nil=>True
 | .cons r rs=>r.nn/\rs.nn
end
mutual
noncomputable def Rq.dt:Rq α->Nat
 | .times _ rs=>rs.dt+1
 | .count rs _=>rs.dt+1
 | .whl _ _ rs=>rs.dt+1
 | .bear _ _ rs _=>rs.dt+1
 | _=>0
noncomputable def aT.dt:aT α->Nat
 | .nil=>0
 | .cons r rs=>max r.dt rs.dt
end
noncomputable def aT.L:aT α->List (Rq α)
 | .nil=>[]
 | .cons r rs=>r::rs.L
noncomputable def aT.of:List (Rq α)->aT α
 | []=> .nil
 | r::rs=> .cons r (aT.of rs)
theorem aT.of_L:∀rs:aT α,aT.of rs.L=rs
 | .nil=>rfl
 | .cons r rs=>by rw[aT.L,aT.of,aT.of_L rs]
theorem aT.L_of:∀rs:List (Rq α),(aT.of rs).L=rs
 | []=>rfl
 | r::rs=>by rw[aT.of,aT.L,aT.L_of rs]
noncomputable def cm:List (Rq α)->O
 | []=> .z
 | r::rs=>O.plusO (cm rs) r.wt
theorem qM:∀rs:List (Rq α),(aT.of rs).wt=cm rs
 | []=>rfl
 | r::rs=>by rw[aT.of,aT.wt,cm,qM rs]
structure Wq (o:O) (h m l:Nat):Prop where
 nf:o.NF
 dp:o.dp<=4
 hw:O.hw o<=h
 mx:O.mx o<=m
 ln:o.len<=l
theorem Wq.plus {a b:O} {h m l h' m' l':Nat} (x:Wq a h m l) (y:Wq b h' m' l'):Wq (O.plusO a b) (h+h') (m+m') (l+l'):=by
 refine⟨x.nf.plus y.nf,?_,?_,?_,?_⟩
 ·exact ybz (O.dp_plus a b) (max_le.mpr ⟨x.dp,y.dp⟩)
 ·have:=O.hw_plus a b;have:=x.hw;have:=y.hw;lia
 ·have:=O.mx_plus (b:=b) x.nf;have:=x.mx;have:=y.mx;lia
 ·have:=jO a b;have:=x.ln;have:=y.ln;lia
theorem Wq.z:Wq .z 0 0 0:=⟨trivial,zero_le _,yby _,Int.le_refl _,yby _⟩
theorem Wq.of {o:O} {h m l:Nat} (x:Wb o h m l):Wq o h m l:=⟨x.nf,Nat.le_succ_of_le x.dp,x.hw,x.mx,x.ln⟩
theorem Wq.wh {n:Int} (h:0<=n):Wq (O.wh n) 1 n.toNat 1:= .of (.wh h)
theorem nM (e:O) (n:Int) (r:O):∀b:O,(O.mulP e n r b).len<=r.len+1+b.len
 | .z=>zero_le _
 | .c f d t=>by
   rw[O.mulP_c];split
   ·show r.len+1<=r.len+1+(t.len+1);lia
   ·have:=nM e n r t;show(O.mulP e n r t).len+1<=r.len+1+(t.len+1);lia
theorem iN (a b:O):(O.timesO a b).len<=a.len+b.len:=by
 cases a with
 | z=>exact zero_le _
 | c e n r=>exact nM e n r b
theorem Wq.times {a b:O} {h m l:Nat} (x:Wq a h m l) (hb:b.NF) (hd:b.dp<=4) (hk:(O.timesO a b).len<=k):Wq (O.timesO a b) (h+O.hw b) ((m+1)*((O.mx b).toNat+1)) k:=by
 refine⟨x.nf.times hb,?_,?_,?_,hk⟩
 ·exact ybz (O.dp_times a b) (max_le.mpr ⟨x.dp,hd⟩)
 ·have:=O.hw_times a b;have:=x.hw;lia
 ·have h1:=O.times_mx x.nf hb;have h2:=x.mx;have h5:=O.mx_nonneg b;have h3:(O.mx a+1)*(O.mx b+1)<=((m:Int)+1)*(((O.mx b).toNat:Int)+1):=Int.mul_le_mul (by lia) (by lia) (by lia) (by lia);have h4:(((m+1)*((O.mx b).toNat+1):Nat):Int)=((m:Int)+1)*(((O.mx b).toNat:Int)+1):=by simp
  lia
theorem Wq.lia {a:O} {h m l:Nat} (x:Wq a h m l):Wq (O.timesO a om) (h+1) ((m+1)*2) 1:=by
 refine x.times (b:=om) uT (by decide) ?_;cases a with
 | z=>exact zero_le _
 | c e n r=>
   show(O.mulP e n r (.c (O.wh 1) 1 .z)).len<=1;rw[O.mulP_c,ybv (by decide)];exact yby _
theorem Wq.many {a:O} {h m l:Nat} (x:Wq a h m l) {n:Int} (hn:0<=n):Wq (O.timesO a (O.wh n)) (h+1) ((m+1)*(n.toNat+1)) l:=by
 have y:=Wb.wh hn;have hk:(O.timesO a (O.wh n)).len<=l:=by
  by_cases h0:n=0
  ·subst h0;rw[show O.wh 0=.z from rfl,O.times_z];exact zero_le _
  ·rw[O.wh_pos (by lia)];cases a with
   | z=>exact zero_le _
   | c e k r=>
     show(O.mulP e k r (.c .z n .z)).len<=l;rw[O.mulP_c,ycx rfl];exact x.ln
 have z:=x.times y.nf (Nat.le_succ_of_le y.dp) hk;refine⟨z.nf,z.dp,ybz z.hw (Nat.add_le_add_left y.hw _),ydx z.mx ?_,z.ln⟩;have h5:=y.mx;exact Int.ofNat_le.mpr (Nat.mul_le_mul_left _ (by lia))
theorem uV {hs:List (O×List α)} (h:sR 3 hs):(zG hs).NF/\(zG hs).dp<=3:=by
 cases hs with
 | nil=>exact⟨trivial,zero_le _⟩
 | cons p hs=>
   obtain⟨h1,h2,_⟩:=h p yaz;have y:=Wb.wh (n:=1) (by decide);exact⟨h1.plus y.nf,ybz (O.dp_plus p.1 (O.wh 1)) (max_le.mpr ⟨h2,y.dp⟩)⟩
theorem pN {hs:List (O×List α)} (h:sR 3 hs):(hpw hs).NF/\(hpw hs).dp<=4:=by
 obtain⟨h1,h2⟩:=uV h;refine⟨⟨h1,by decide,trivial,trivial⟩,?_⟩;show max ((zG hs).dp+1) 0<=4;lia
theorem Ba (p:O×List α) (hs:List (O×List α)):zG (p::hs)≠ .z:=by
 show O.plusO p.1 (O.wh 1)≠ .z;rw[O.wh_pos (by decide),O.plus_c];intro h;have:=congrArg O.len h;rw[O.len_app'] at this;simp[O.len] at this
theorem xW (a:O) (hs:List (O×List α)):(O.timesO a (hpw hs)).len<=match hs with
 | []=>a.len
 | _::_=>1:=by
 cases a with
 | z=>exact zero_le _
 | c e n r=>
   cases hs with
   | nil=>
     show(O.mulP e n r (.c .z 1 .z)).len<=_;rw[O.mulP_c,ycx rfl];exact yby _
   | cons p hs=>
     show(O.mulP e n r (.c (zG (p::hs)) 1 .z)).len<=1;rw[O.mulP_c,ybv (Ba p hs)];exact yby _
mutual
theorem Rq.wq:∀r:Rq α,r.nn->Wq r.wt r.hb r.mb r.lb
 | .set _ _,_=>Wq.wh (n:=1) (by decide)
 | .copy _ _,_=>Wq.wh (n:=1) (by decide)
 | .add _ _,_=>Wq.wh (n:=1) (by decide)
 | .less _,_=>Wq.wh (n:=1) (by decide)
 | .times _ rs,h=>by
   have:=((aT.wq rs h).plus (Wq.wh (n:=1) (by decide))).lia;exact this
 | .count rs n,h=>by
   have:=(((aT.wq rs h.1).plus (Wq.wh (n:=1) (by decide))).many h.2).plus (Wq.wh (n:=1) (by decide));exact this
 | .whl _ hs rs,h=>by
   obtain⟨h1,h2⟩:=pN h.2;have x:=(aT.wq rs h.1).plus (Wq.wh (n:=2) (by decide));have y:=(x.times h1 h2 (xW _ hs)).plus (Wq.wh (n:=1) (by decide));refine⟨y.nf,y.dp,?_,y.mx,?_⟩
   ·refine ybz y.hw ?_;show _<=rs.hb+O.hw (hpw hs)+2;lia
   ·have h3:=y.ln;cases hs with
    | nil=>
      have h4:=x.ln;simp only at h3;show _<=rs.lb+2;exact ybz h3 (by lia)
    | cons p hs=>exact h3
 | .bear _ _ rs o,h=>by
   have x:=(aT.wq rs h.1).plus (Wq.wh (n:=2) (by decide));have y:=(x.times h.2.2.1 h.2.2.2 (ybz (iN _ o) (Nat.add_le_add_right x.ln _))).plus (Wq.wh (n:=1) (by decide));refine⟨y.nf,y.dp,?_,y.mx,y.ln⟩;refine ybz y.hw ?_;show _<=rs.hb+O.hw o+2;lia
theorem aT.wq:∀rs:aT α,rs.nn->Wq rs.wt rs.hb rs.mb rs.lb
 | .nil,_=>Wq.z
 | .cons r rs,h=>(aT.wq rs h.2).plus (Rq.wq r h.1)
end
theorem aT.rb {rs:aT α} (h:rs.nn):Wq rs.rnd (rs.hb+1) (rs.mb+1) (rs.lb+1):=(rs.wq h).plus (Wq.wh (n:=1) (by decide))
theorem aT.rbw {rs:aT α} (h:rs.nn):Wq rs.rnw (rs.hb+1) (rs.mb+2) (rs.lb+1):=(rs.wq h).plus (Wq.wh (n:=2) (by decide))
noncomputable def insO (o:O):List O->List O
 | []=>[o]
 | x::l=>if cmp o x=0 then x::l else if cmp o x=1 then o::x::l else x::insO o l
theorem mem_insO {x o:O}:∀{l:List O},x∈insO o l↔x=o∨x∈l
 | []=>by simp[insO]
 | y::l=>by
   unfold insO;split
   ·rename_i h;have:=cmp_eq o y h;subst this;simp
   ·split
    ·simp
    ·rw[mem_cons,mem_cons,mem_insO (l:=l)];constructor
     ·rintro(h | h | h)
      ·exact .inr (.inl h)
      ·exact .inl h
      ·exact .inr (.inr h)
     ·rintro(h | h | h)
      ·exact .inr (.inl h)
      ·exact .inl h
      ·exact .inr (.inr h)
theorem dv.insO {o:O}:∀{l:List O},dv l->dv (insO o l)
 | [],_=>List.pairwise_singleton _ _
 | y::l,h=>by
   obtain⟨h1,h2⟩:=pairwise_cons.mp h;unfold Nm.insO;split
   ·exact h
   ·rename_i e0;split
    ·rename_i e1;refine pairwise_cons.mpr ⟨λx hx=>?_,h⟩;have e2:cmp y o<0:=by rw[aN,e1];decide
     rcases mem_cons.mp hx with rfl | hx
     ·exact e2
     ·exact bB x y o (h1 x hx) e2
    ·rename_i e1;refine pairwise_cons.mpr ⟨λx hx=>?_,dv.insO h2⟩;rcases mem_insO.mp hx with rfl | hx
     ·rcases cmp_range x y with e | e | e<;> lia
     ·exact h1 x hx
noncomputable def jf (l:List O):List O:=l.foldr insO []
theorem mem_descO {x:O}:∀{l:List O},x∈jf l↔x∈l
 | []=>Iff.rfl
 | y::l=>by
   show x∈insO y (jf l)↔_;rw[mem_insO,mem_descO (l:=l),mem_cons]
theorem gF:∀l:List O,dv (jf l)
 | []=>List.Pairwise.nil
 | _::l=>(gF l).insO
theorem dv.uniq:∀{l m:List O},dv l->dv m->(∀x,x∈l↔x∈m)->l=m
 | [],[],_,_,_=>rfl
 | [],y::m,_,_,h=>(nomatch (h y).mpr yaz)
 | x::l,[],_,_,h=>(nomatch (h x).mp yaz)
 | x::l,y::m,h1,h2,h=>by
   obtain⟨a1,a2⟩:=pairwise_cons.mp h1;obtain⟨b1,b2⟩:=pairwise_cons.mp h2;have e:x=y:=by
    rcases mem_cons.mp ((h x).mp yaz) with e | e
    ·exact e
    ·rcases mem_cons.mp ((h y).mpr yaz) with e' | e'
     ·exact e'.symm
     ·have p:=b1 x e;have q:=a1 y e';rw[aN] at q;lia
   subst e;have:=dv.uniq (l:=l) (m:=m) a2 b2 λz=>by
    constructor
    ·intro hz;rcases mem_cons.mp ((h z).mp (yay _ hz)) with rfl | e
     ·have:=a1 z hz;rw[cmp_self] at this;lia
     ·exact e
    ·intro hz;rcases mem_cons.mp ((h z).mpr (yay _ hz)) with rfl | e
     ·have:=b1 z hz;rw[cmp_self] at this;lia
     ·exact e
   rw[this]
noncomputable def bM (ms:List (O×α)) (o:O):List α:=(ms.filter λm=>decide (m.1=o)).map (·.2)
theorem gG (ms:List (O×α)) (m:O×α) (o:O):bM (ms++[m]) o=bM ms o++(if m.1=o then [m.2] else []):=by
 unfold bM;rw[List.filter_append,map_append]
 congr 1
 by_cases h:m.1=o
 ·rw[ycx h,filter_cons_of_pos (by simpa using h)];rfl
 ·rw[ybv h,filter_cons_of_neg (by simpa using h)];rfl
theorem eX {ms:List (O×α)} {o:O} (h:o∉ms.map (·.1)):bM ms o=[]:=by
 unfold bM;rw[List.filter_eq_nil_iff.mpr λm hm=>by simp only[decide_eq_true_eq];exact λe=>h (mem_map.mpr ⟨m,hm,e⟩)]
 rfl
noncomputable def eA (ms:List (O×α)):List (O×List α):=(jf (ms.map (·.1))).map λo=>(o,bM ms o)
theorem uW {ms:List (O×α)} {ks:List O} (h1:dv ks) (h2:∀o,o∈ks↔o∈ms.map (·.1)):(ks.map λo=>(o,bM ms o))=eA ms:=by
 unfold eA;rw[dv.uniq h1 (gF _) λx=>(h2 x).trans mem_descO.symm]
theorem xX {ms:List (O×α)} {p:O×List α} (h:p∈eA ms):p.1∈ms.map (·.1):=by
 obtain⟨o,ho,rfl⟩:=mem_map.mp h;exact mem_descO.mp ho
end
section
variable {α:Type}
noncomputable def di (g:α->Int):List α->Int
 | []=>0
 | n::ns=>g n+di g ns
theorem js {g:α->Int} (h:∀x,0<=g x):∀l:List α,0<=di g l
 | []=>Int.le_refl _
 | n::ns=>by have:=js h ns;have:=h n;simp only[di];lia
theorem qN {g:α->Int} {B:Int} (h:∀x,g x<=B):∀l:List α,di g l<=l.length*B
 | []=>by simp[di]
 | n::ns=>by
   have:=qN h ns;have:=h n;simp only[di,length_cons];rw[Int.natCast_succ,Int.add_mul];lia
noncomputable def bH (g:α->Int):List (O×List α)->O
 | []=> .z
 | p::hs=>if di g p.2=0 then bH g hs else .c p.1 (di g p.2) (bH g hs)
theorem ib (g:α->Int):∀hs:List (O×List α),(bH g hs).len<=hs.length
 | []=>yby _
 | p::hs=>by
   have:=ib g hs;unfold bH;split
   ·rw[length_cons];lia
   ·simp only[O.len,length_cons];lia
theorem qO {g:α->Int} {x:O}:∀{hs:List (O×List α)},(∀p,p∈hs->cmp p.1 x<0)->Lt x (bH g hs)
 | [],_=>trivial
 | p::hs,h=>by
   have ih:=qO (g:=g) (x:=x) (hs:=hs) λq hq=>h q (yay _ hq);unfold bH;split
   ·exact ih
   ·exact⟨h p yaz,ih⟩
theorem qP {g:α->Int} (hg:∀x,0<=g x):∀{hs:List (O×List α)},sR 3 hs->dv (hs.map (·.1))->NF (bH g hs)
 | [],_,_=>trivial
 | p::hs,h,hd=>by
   rw[map_cons] at hd;obtain⟨d1,d2⟩:=pairwise_cons.mp hd;have ih:=qP hg (hs:=hs) (λq hq=>h q (yay _ hq)) d2;have hs0:=js hg p.2;unfold bH;split
   ·exact ih
   ·exact⟨(h p yaz).1,by lia,qO λq hq=>d1 q.1 (mem_map.mpr ⟨q,hq,rfl⟩),ih⟩
theorem lg {g:α->Int} {B:Int} {n:Nat} {M:Int} (hg:∀x,0<=g x/\g x<=B) (hM:0<=M):∀{hs:List (O×List α)},sR 3 hs->(∀p,p∈hs->p.2.length<=n/\mx p.1<=M)->(bH g hs).dp<=4/\hw (bH g hs)<=max hs.length 100/\mx (bH g hs)<=max M (n*B)
 | [],_,_=>by refine⟨zero_le _,zero_le _,?_⟩;simp only[bH,mx];lia
 | p::hs,h,hb=>by
   obtain⟨i1,i2,i3⟩:=lg hg hM (hs:=hs) (λq hq=>h q (yay _ hq)) (λq hq=>hb q (yay _ hq));obtain⟨h1,h2,h3⟩:=h p yaz;obtain⟨b1,b2⟩:=hb p yaz;have hl:=ib g hs;unfold bH;split
   ·exact⟨i1,by rw[length_cons];lia,i3⟩
   ·have hB:0<=B:=by
     cases hp:p.2 with
     | nil=>
       rename_i hne;rw[hp] at hne;exact absurd rfl hne
     | cons x _=>have:=hg x;lia
    have s1:=qN (λx=>(hg x).2) p.2;have s2:(p.2.length:Int)*B<=n*B:=Int.mul_le_mul_of_nonneg_right (by lia) hB;refine⟨by simp only[O.dp];lia,?_,?_⟩
    ·rw[hw_c,length_cons];lia
    ·rw[mx_c];lia
theorem qQ (g:α->Int):∀{hs:List (O×List α)},sR 3 hs->(bH g hs).dp<=4
 | [],_=>zero_le _
 | p::hs,h=>by
   have ih:=qQ g (hs:=hs) λq hq=>h q (yay _ hq);have h2:=(h p yaz).2.1;unfold bH;split
   ·exact ih
   ·simp only[O.dp];lia
structure Ex (hs:List (O×List α)):Prop where
 ln:hs.length<=100
 nm:∀p,p∈hs->p.2.length<=100
 ds:dv (hs.map (·.1))
mutual
noncomputable def Rq.od:Rq α->Prop
 | .times _ rs=>rs.od
 | .count rs _=>rs.od
 | .whl _ hs rs=>Ex hs/\rs.od
 | .bear _ hs rs _=>Ex hs/\rs.od
 | _=>True
noncomputable def aT.od:aT α->Prop
 | .nil=>True
 | .cons r rs=>r.od/\rs.od
end
end
theorem uX {a b m:O} (h:cmp a b<=0) (k:cmp b m<0):cmp a m<0:=by
 rcases cmp_range a b with e | e | e
 ·exact bB a b m (by lia) k
 ·rw[cmp_eq a b e];exact k
 ·lia
theorem Fp {a b m:O} (h:cmp a b<0) (k:cmp b m<=0):cmp a m<0:=by
 rcases cmp_range b m with e | e | e
 ·exact bB a b m h (by lia)
 ·rw[←cmp_eq b m e];exact h
 ·lia
theorem jg {n:Int} (h:0<=n):NF (wh n):=NF.wh h
theorem uY {w:O} (hw:NF w) {n:Int} (hn:0<=n):cmp (plusO (timesO (plusO w (wh 1)) (wh n)) (wh 1)) (timesO (plusO w (wh 1)) om)<0:=by
 have n1:NF (wh 1):=jg (by decide);have hR:=hw.plus n1;have s0:cmp w (plusO w (wh 1))<0:=lt_plus hw n1 (λh=>by cases h);have r0:plusO w (wh 1)≠z:=λe=>by
  rw[e] at s0;cases w with
  | z=>rw[cmp_self] at s0;lia
  | c _ _ _=>simp[cmp] at s0
 have s1:=uQ (a:=z) trivial hR (sw r0);rw[pL] at s1;have nn:=jg hn;have nt:=hR.times nn;have s2:cmp (plusO (timesO (plusO w (wh 1)) (wh n)) (wh 1)) (plusO (timesO (plusO w (wh 1)) (wh n)) (plusO w (wh 1)))<=0:=by
  rw[dJ nt n1 hR];exact s1
 rw[←sA hR hn] at s2;refine uX s2 (uM hR r0 (jg (by lia)) uT ?_);rw[wh_pos (by lia)];show cmp (c z (n+1) z) (c (wh 1) 1 z)<0;have:cmp z (wh 1)<0:=by decide
 simp only[cmp];rw[ycx (by lia)];exact this
section
variable {α:Type}
theorem Bb (r:Rq α) (h:r.nn):cmp z r.wt<0:=by
 have n1:NF (wh 1):=jg (by decide);cases r with
 | set _ _=>show cmp z (wh 1)<0;decide
 | copy _ _=>show cmp z (wh 1)<0;decide
 | add _ _=>show cmp z (wh 1)<0;decide
 | less _=>show cmp z (wh 1)<0;decide
 | times b rs=>
   have:=uY (rs.wq h).nf (n:=0) (by decide);refine uX ?_ this;cases plusO (timesO (plusO rs.wt (wh 1)) (wh 0)) (wh 1) with
   | z=>rw[cmp_self];exact Int.le_refl _
   | c _ _ _=>simp[cmp]
 | count rs n=>exact Fp (sw (λe=>by cases e)) (show cmp (wh 1) (plusO _ (wh 1))<=0 from by
    have:=lt_plus (e:=timesO (plusO rs.wt (wh 1)) (wh n)) (((rs.wq h.1).nf.plus n1).times (jg h.2)) n1 (λe=>by cases e);have s:=uQ (a:=z) trivial ((((rs.wq h.1).nf.plus n1).times (jg h.2)).plus n1) (uX (by
     cases timesO (plusO rs.wt (wh 1)) (wh n) with
     | z=>rw[cmp_self];exact Int.le_refl _
     | c _ _ _=>simp[cmp]) this)
    rw[pL] at s;exact s)
 | whl b hs rs=>
   obtain⟨h1,h2⟩:=pN h.2;have n2:NF (wh 2):=jg (by decide);have:=lt_plus (e:=timesO (plusO rs.wt (wh 2)) (hpw hs)) (((rs.wq h.1).nf.plus n2).times h1) n1 (λe=>by cases e);refine uX ?_ this;cases timesO (plusO rs.wt (wh 2)) (hpw hs) with
   | z=>rw[cmp_self];exact Int.le_refl _
   | c _ _ _=>simp[cmp]
 | bear b hs rs o=>
   have n2:NF (wh 2):=jg (by decide);have:=lt_plus (e:=timesO (plusO rs.wt (wh 2)) o) (((rs.wq h.1).nf.plus n2).times h.2.2.1) n1 (λe=>by cases e);refine uX ?_ this;cases timesO (plusO rs.wt (wh 2)) o with
   | z=>rw[cmp_self];exact Int.le_refl _
   | c _ _ _=>simp[cmp]
end
section
variable {α:Type}
theorem nN (g:α->Int):∀a b:List α,di g (a++b)=di g a+di g b
 | [],b=>by simp[di]
 | x::a,b=>by rw[cons_append,di,di,nN g a b];lia
theorem Bc (ms:List (O×α)):dv ((eA ms).map (·.1)):=by
 unfold eA;rw[map_map];show dv (List.map (λo=>o) (jf _));rw[List.map_id'];exact gF _
end
noncomputable def oI:List (Int×Int)->O
 | []=> .z
 | p::l=> .c (wh p.1) p.2 (oI l)
theorem pO {a b:Int} (ha:0<=a) (hb:0<=b):cmp (wh a) (wh b)=if a<b then -1 else if b<a then 1 else 0:=by
 by_cases a0:a=0
 ·subst a0;rw[A7]
  by_cases b0:b=0
  ·subst b0;simp[A7,cmp]
  ·rw[wh_pos (by lia),ycx (by lia)];rfl
 ·rw[wh_pos (by lia)]
  by_cases b0:b=0
  ·subst b0;rw[A7,ybv (by lia),ycx (by lia)];rfl
  ·rw[wh_pos (by lia),jN]
   rfl
theorem mz {a b:Int} (ha:0<=a) (hb:0<=b) (h:wh a=wh b):a=b:=by
 have e:=pO ha hb;rw[h,cmp_self] at e
 by_cases h1:a<b
 ·rw[ycx h1] at e;lia
 ·rw[ybv h1] at e
  by_cases h2:b<a
  ·rw[ycx h2] at e;lia
  ·lia
noncomputable def wE:List (Int×Int)->List (Int×Int)->Bool
 | [],[]=>false
 | [],_::_=>true
 | _::_,[]=>false
 | p::l,q::m=>if p=q then wE l m else decide (p.1<q.1∨p.1=q.1/\p.2<q.2)
theorem qR:∀{l m:List (Int×Int)},(∀p,p∈l->0<=p.1)->(∀p,p∈m->0<=p.1)->(wE l m=true↔cmp (oI l) (oI m)<0)
 | [],[],_,_=>by simp[wE,oI,cmp]
 | [],_::_,_,_=>by simp[wE,oI,cmp]
 | _::_,[],_,_=>by simp[wE,oI,cmp]
 | p::l,q::m,h,k=>by
   have ih:=qR (l:=l) (m:=m) (λx hx=>h x (yay _ hx)) (λx hx=>k x (yay _ hx));have hp:=h p yaz;have hq:=k q yaz;unfold wE
   by_cases e:p=q
   ·subst e;rw[ycx rfl,ih];show _↔cmp (.c (wh p.1) p.2 (oI l)) (.c (wh p.1) p.2 (oI m))<0;rw[jN,ybv (by lia),ybv (by lia)]
   ·rw[ybv e,decide_eq_true_eq];show _↔cmp (.c (wh p.1) p.2 (oI l)) (.c (wh q.1) q.2 (oI m))<0
    by_cases e1:p.1=q.1
    ·have e2:p.2≠q.2:=λz=>e (Prod.ext e1 z);rw[e1,jN];constructor
     ·rintro(z | z)
      ·lia
      ·rw[ycx z.2];decide
     ·intro z
      by_cases z1:p.2<q.2
      ·exact .inr ⟨rfl,z1⟩
      ·rw[ybv z1,ycx (by lia)] at z;lia
    ·have c1:=pO hp hq;have hne:cmp (wh p.1) (wh q.1)≠0:=by
      rw[c1]
      by_cases z:p.1<q.1
      ·rw[ycx z];decide
      ·rw[ybv z,ycx (by lia)];decide
     have c2:cmp (.c (wh p.1) p.2 (oI l)) (.c (wh q.1) q.2 (oI m))=cmp (wh p.1) (wh q.1):=by
      simp only[cmp];rw[ycx hne]
     rw[c2,c1];constructor
     ·rintro(z | z)
      ·rw[ycx z];decide
      ·exact absurd z.1 e1
     ·intro z
      by_cases z1:p.1<q.1
      ·exact .inl z1
      ·rw[ybv z1,ycx (by lia)] at z;lia
section
variable {α:Type}
noncomputable def dN (ms:List (Int×α)):List (O×α):=ms.map λm=>(wh m.1,m.2)
theorem uZ (g:α->Int) (f:O->List α):∀ks:List Int,bH g (ks.map λe=>(wh e,f (wh e)))=oI ((ks.map λe=>(e,di g (f (wh e)))).filter λp=>decide (p.2≠0))
 | []=>rfl
 | e::ks=>by
   have ih:=uZ g f ks;rw[map_cons,map_cons];unfold bH
   by_cases h:di g (f (wh e))=0
   ·rw[ycx h,filter_cons_of_neg (by simpa using h)];exact ih
   ·rw[ybv h,filter_cons_of_pos (by simpa using h)];show O.c _ _ _=O.c _ _ _;rw[ih]
theorem xY {g:α->Int} {ms:List (Int×α)} {ks:List Int} (h0:∀m,m∈ms->0<=m.1) (h1:ks.Pairwise λa b=>b<a) (h2:∀e,e∈ks↔e∈ms.map (·.1)):bH g (eA (dN ms))=oI ((ks.map λe=>(e,di g (bM (dN ms) (wh e)))).filter λp=>decide (p.2≠0)):=by
 have hk:∀e,e∈ks->0<=e:=λe he=>by
  obtain⟨m,hm,rfl⟩:=mem_map.mp ((h2 e).mp he);exact h0 m hm
 have hd:dv (ks.map wh):=by
  refine List.pairwise_map.mpr (h1.imp_of_mem λ{a b} ha hb hab=>?_);rw[pO (hk b hb) (hk a ha),ycx hab];decide
 have e:eA (dN ms)=(ks.map wh).map λo=>(o,bM (dN ms) o):=by
  refine(uW hd λo=>?_).symm;constructor
  ·intro ho;obtain⟨a,ha,rfl⟩:=mem_map.mp ho;obtain⟨m,hm,rfl⟩:=mem_map.mp ((h2 a).mp ha);exact mem_map.mpr ⟨(wh m.1,m.2),mem_map.mpr ⟨m,hm,rfl⟩,rfl⟩
  ·intro ho;obtain⟨x,hx,rfl⟩:=mem_map.mp ho;obtain⟨m,hm,rfl⟩:=mem_map.mp hx;exact mem_map.mpr ⟨m.1,(h2 m.1).mpr (mem_map.mpr ⟨m,hm,rfl⟩),rfl⟩
 rw[e,map_map];exact uZ g (λo=>bM (dN ms) o) ks
end
section
variable {α:Type}
noncomputable def iO (f g:Int->Int):List Int->Bool
 | []=>false
 | e::ks=>if f e≠g e then decide (f e<g e) else iO f g ks
noncomputable def fY (f:Int->Int) (ks:List Int):List (Int×Int):=(ks.map λe=>(e,f e)).filter λp=>decide (p.2≠0)
theorem ic (f:Int->Int) (e:Int) (ks:List Int):fY f (e::ks)=if f e=0 then fY f ks else (e,f e)::fY f ks:=by
 unfold fY;rw[map_cons]
 by_cases h:f e=0
 ·rw[ycx h,filter_cons_of_neg (by simpa using h)]
 ·rw[ybv h,filter_cons_of_pos (by simpa using h)]
theorem mB {f:Int->Int} {ks:List Int} {p:Int×Int} (h:p∈fY f ks):p.1∈ks:=by
 have:=(mem_filter.mp h).1;obtain⟨e,he,rfl⟩:=mem_map.mp this;exact he
theorem zH {f g:Int->Int} (hf:∀e,0<=f e) (hg:∀e,0<=g e):∀{ks:List Int},(ks.Pairwise λa b=>b<a)->wE (fY f ks) (fY g ks)=iO f g ks
 | [],_=>rfl
 | e::ks,h=>by
   obtain⟨h1,h2⟩:=pairwise_cons.mp h;have ih:=zH hf hg h2;have f0:=hf e;have g0:=hg e;rw[ic,ic];unfold iO
   by_cases a:f e=0
   ·rw[ycx a]
    by_cases b:g e=0
    ·rw[ycx b,ybv (by lia)];exact ih
    ·rw[ybv b,ycx (by lia),ycw (by lia)];cases hl:fY f ks with
     | nil=>rfl
     | cons p l=>
       have hp:=h1 p.1 (mB (by rw[hl];exact yaz));unfold wE;rw[ybv (λz=>by rw[z] at hp;exact absurd hp (Int.lt_irrefl _)),ycw (.inl hp)]
   ·rw[ybv a]
    by_cases b:g e=0
    ·rw[ycx b,ycx (by lia),ycz (by lia)];cases hl:fY g ks with
     | nil=>rfl
     | cons p l=>
       have hp:=h1 p.1 (mB (by rw[hl];exact yaz));unfold wE;rw[ybv (λz=>by rw[←z] at hp;exact absurd hp (Int.lt_irrefl _)),decide_eq_false];rintro(z | z)
       ·exact absurd (show e<p.1 from z) (by lia)
       ·exact absurd (show e=p.1 from z.1) (by lia)
    ·rw[ybv b];unfold wE
     by_cases c:f e=g e
     ·rw[ycx (by rw[c]),ybv (by lia)];exact ih
     ·rw[ybv (λz=>c (Prod.mk.inj z).2),ycx c]
      by_cases d:f e<g e
      ·rw[ycw (.inr ⟨rfl,d⟩),ycw d]
      ·rw[ycz (p:=f e<g e) d,decide_eq_false];rintro(z | z)
       ·exact absurd z (Int.lt_irrefl _)
       ·exact d z.2
noncomputable def e4:List Int:=[4,3,2,1,0]
noncomputable def sS (g:α->Int) (ms:List (Int×α)) (e:Int):Int:=di g (bM (dN ms) (wh e))
theorem u0 {g:α->Int} {ms:List (Int×α)} (h:∀m,m∈ms->0<=m.1/\m.1<=4):bH g (eA (dN ms))=oI (fY (sS g ms) e4):=by
 have p4:e4.Pairwise λa b=>b<a:=by decide
 have hin:∀e,0<=e->e<=4->e∈e4:=λe a b=>by
  have:e=0∨e=1∨e=2∨e=3∨e=4:=by lia
  rcases this with rfl | rfl | rfl | rfl | rfl<;> decide
 have:=xY (g:=g) (ms:=ms) (ks:=e4.filter λe=>decide (e∈ms.map (·.1))) (λm hm=>(h m hm).1) (p4.filter _) λe=>by
  rw[mem_filter,decide_eq_true_eq];refine⟨λz=>z.2,λz=>⟨?_,z⟩⟩;obtain⟨m,hm,rfl⟩:=mem_map.mp z;exact hin _ (h m hm).1 (h m hm).2
 rw[this];show oI (fY (sS g ms) _)=_;have:fY (sS g ms) (e4.filter λe=>decide (e∈ms.map (·.1)))=fY (sS g ms) e4:=by
  have step:∀ks:List Int,(∀e,e∈ks->0<=e)->fY (sS g ms) (ks.filter λe=>decide (e∈ms.map (·.1)))=fY (sS g ms) ks:=by
   intro ks
   induction ks with
   | nil=>exact λ_=>rfl
   | cons e ks ih=>
     intro hk;have ih:=ih λx hx=>hk x (yay _ hx)
     by_cases a:e∈ms.map (·.1)
     ·rw[filter_cons_of_pos (by simpa using a),ic,ic,ih]
     ·rw[filter_cons_of_neg (by simpa using a),ic,ycx ?_,ih];unfold sS;rw[eX ?_]
      ·rfl
      ·intro z;obtain⟨x,hx,hxe⟩:=mem_map.mp z;obtain⟨m,hm,rfl⟩:=mem_map.mp hx;have e1:m.1=e:=mz (h m hm).1 (hk e yaz) hxe;exact a (mem_map.mpr ⟨m,hm,e1⟩)
  exact step e4 (by decide)
 rw[this]
theorem u3 {g:α->Int} (hg:∀x,0<=g x) (ms:List (Int×α)) (e:Int):0<=sS g ms e:=js hg _
theorem xZ {g g':α->Int} (hg:∀x,0<=g x) (hg':∀x,0<=g' x) {ms:List (Int×α)} (h:∀m,m∈ms->0<=m.1/\m.1<=4):iO (sS g ms) (sS g' ms) e4=true↔cmp (bH g (eA (dN ms))) (bH g' (eA (dN ms)))<0:=by
 rw[u0 h,u0 h,←zH (u3 hg ms) (u3 hg' ms) (by decide)];refine qR (λp hp=>?_) λp hp=>?_
 ·exact(show ∀e,e∈e4->0<=e by decide) _ (mB hp)
 ·exact(show ∀e,e∈e4->0<=e by decide) _ (mB hp)
end
end Nm
namespace L2
open PySem PySem.Spec PyProof.Rows Nm
noncomputable def aq:O->List W
 | .z=>[]
 | .c e n r=> .tup [.tup (aq e),.int n]::aq r
noncomputable def mW (o:O):W:= .tup (aq o)
noncomputable def iu (e:O) (n:Int):W:= .tup [mW e,.int n]
theorem Bf:aq .z=[]:=rfl
theorem bW (e:O) (n:Int) (r:O):aq (.c e n r)=iu e n::aq r:=rfl
theorem aY:∀a:O,(aq a).length=a.len
 | .z=>rfl
 | .c e n r=>by rw[bW,length_cons,aY r];rfl
theorem u4 {e:O} {n:Int} (h:W.flats (aq e)=true):(iu e n).flat=true:=by
 simp[iu,mW,W.flat,W.flats,h]
theorem bX:∀a:O,W.flats (aq a)=true
 | .z=>by simp[aq,W.flats]
 | .c e n r=>by
   rw[bW];simp[W.flats,u4 (bX e),bX r]
theorem u5 (a:O):(mW a).flat=true:=by simp[mW,W.flat,bX a]
theorem eB:∀a:O,W.deps (aq a)<=2*a.dp
 | .z=>by simp[aq,W.deps]
 | .c e n r=>by
   have h1:=eB e;have h2:=eB r;rw[bW];simp only[W.deps,iu,mW,W.dep,O.dp];lia
theorem x4 (a:O):(mW a).dep<=2*a.dp+1:=by
 have:=eB a;simp only[mW,W.dep];lia
theorem jt:∀a b:O,W.eqs (aq a) (aq b)=decide (a=b)
 | .z,.z=>by simp[aq,W.eqs]
 | .z,.c _ _ _=>by simp[aq,W.eqs]
 | .c _ _ _,.z=>by simp[aq,W.eqs]
 | .c e n r,.c e' n' r'=>by
   have h1:=jt e e';have h2:=jt r r';simp only[aq,W.eqs,W.eq_tup,W.eq_int,h1,h2,Bool.and_true];rw[Bool.eq_iff_iff];simp only[Bool.and_eq_true,decide_eq_true_eq,beq_iff_eq,O.c.injEq];constructor
   ·rintro⟨⟨a,b⟩,c⟩;exact⟨a,b,c⟩
   ·rintro⟨a,b,c⟩;exact⟨⟨a,b⟩,c⟩
theorem pP (a b:O):(mW a).eq (mW b)=decide (a=b):=jt a b
theorem Bh (e e':O) (n n':Int):(iu e n).eq (iu e' n')=(decide (e=e')&&decide (n=n')):=by
 have:=pP e e';simp only[iu,W.eq_tup,W.eq_int,W.eqs,this,Bool.and_true]
 congr 1
theorem pQ (a b:O):(W.tup (aq a)).eq (W.tup (aq b))=decide (a=b):=pP a b
theorem cu (a:O):(W.tup (aq a)).flat=true:=u5 a
theorem dw (a:O):(W.tup (aq a)).dep<=2*a.dp+1:=x4 a
theorem nP {a b:O} (h:aq a=aq b):a=b:=by
 have:=jt a b;rw[h,W.eqs_refl _ (bX b)] at this;simpa using this.symm
theorem fA:∀a b:O,aq (a.app b)=aq a++aq b
 | .z,b=>by simp[O.app,aq]
 | .c e n r,b=>by
   show aq (.c e n (r.app b))=_;rw[bW,bW,fA r b]
   rfl
theorem Fq {α:Type} (x:α) (xs:List α):eI (x::xs) 0=some x:=by
 simp[eI,tM]
theorem Fs {α:Type} (x y:α) (xs:List α):eI (x::y::xs) 1=some y:=by
 have h:(1:Int)<((xs.length:Int)+1+1):=by lia
 simp[eI,tM,h]
theorem u6 (i:Int):(W.int i).flat=true:=by simp[W.flat]
theorem x5 (i:Int):(W.int i).dep=0:=by simp[W.dep]
theorem pR (i j:Int):(W.int i).eq (W.int j)=(i==j):=rfl
theorem u7:(W.tup []).flat=true:=by simp[W.flat,W.flats]
theorem x6:(W.tup []).dep=1:=by simp[W.dep,W.deps]
theorem cC (a:O):(W.tup (aq a)).eq (W.tup [])=decide (a=.z):=pP a .z
theorem Ft (i j:Int):(i==j)=decide (i=j):=by
 by_cases h:i=j<;> simp[h]
theorem aC.done {G:Gp} {q:Gp->Prop} (h:q G):∃G0,aC G0 G/\q G0:=⟨G,aC.refl G,h⟩
theorem bY {C:Gp->Prop} {g:WG} {tb:WS} {d:cZ} (Iv:List W->cO->Gp->Prop) (stop:∀τ G,Iv [] τ G->C G/\d.nx τ G)
 (step:∀w ws τ G (k:cO->Gp->Prop),Iv (w::ws) τ G->(∀τ3 G3,Iv ws τ3 G3->k τ3 G3)->C G/\g w τ G λτ2 G2=>tb { d with nx:=k,ct:=k,bk:=d.nx } τ2 G2):∀ws τ G,Iv ws τ G->jc C g tb d ws τ G
 | [],τ,G,h=>stop τ G h
 | w::ws,τ,G,h=>step w ws τ G _ h λτ3 G3 h3=>bY Iv stop step ws τ3 G3 h3
theorem jP:∀(a:O) (i:Nat),(aq a)[i]?=(a.getP i).map λp=>iu p.1 p.2
 | .z,i=>by simp[aq,O.getP]
 | .c e n r,0=>by rw[bW];rfl
 | .c e n r,i+1=>by
   rw[bW];simpa[O.getP] using jP r i
theorem mC {a:O} {e:O} {n:Int} (h:a.getP i=some (e,n)):eI (aq a) (i:Int)=some (iu e n):=eL (by rw[jP,h];rfl)
theorem iP:∀(i:Nat) (a:O),(aq a).take i=aq (O.takeO i a)
 | 0,a=>by simp[O.takeO,aq]
 | i+1,.z=>by simp[aq,O.takeO]
 | i+1,.c e n r=>by
   rw[bW,List.take_succ_cons,iP i r]
   rfl
theorem u9 (xs:List W) (k:Nat):dc xs none (some (k:Int))=xs.take k:=by
 unfold dc;rw[HT.sIx_none,HT.sIx_nat,List.drop_zero,Nat.sub_zero];rcases Nat.le_total k xs.length with h | h
 ·rw[Nat.min_eq_left h]
 ·rw[Nat.min_eq_right h,List.take_length,List.take_of_length_le h]
theorem jQ (xs:List W) (k:Nat):dc xs (some (k:Int)) none=xs.drop k:=by
 unfold dc;rw[HT.sIx_none,HT.sIx_nat];rcases Nat.le_total k xs.length with h | h
 ·rw[Nat.min_eq_left h];exact List.take_of_length_le (by rw[length_drop];lia)
 ·rw[Nat.min_eq_right h,List.drop_length,List.drop_of_length_le h];simp
theorem x8 (xs:List W):dc xs none (some (-1))=xs.take (xs.length-1):=by
 unfold dc;have e:HT.sIx xs.length xs.length (some (-1))=xs.length-1:=by
  show(if (-1:Int)<0 then ((-1:Int)+(xs.length:Int)).toNat else min (-1:Int).toNat xs.length)=_;rw[ycx (by lia)];lia
 rw[HT.sIx_none,e,List.drop_zero,Nat.sub_zero]
theorem lh:∀a:O,O.takeO (a.len-1) a=O.init a
 | .z=>rfl
 | .c _ _ .z=>rfl
 | .c e n (.c e' n' r')=>by
   have h:=lh (.c e' n' r');simp only[O.len,Nat.add_sub_cancel] at h ⊢;rw[O.takeO,h];simp[O.init]
theorem vd (a:O):dc (aq a) none (some (-1))=aq (O.init a):=by rw[x8,aY,iP,lh]
theorem ve:∀{a:O},a≠ .z->∃e n,O.last a=.c e n .z/\a.getP (a.len-1)=some (e,n)
 | .z,h=>absurd rfl h
 | .c e n .z,_=>⟨e,n,rfl,rfl⟩
 | .c e n (.c e' n' r'),_=>by
   obtain⟨x,m,h1,h2⟩:=ve (a:= .c e' n' r') (by simp);refine⟨x,m,?_,?_⟩
   ·rw[←h1];simp[O.last]
   ·simp only[O.len,Nat.add_sub_cancel] at h2 ⊢;rw[←h2];simp[O.getP]
theorem ie {xs:List W} {w:W} (h:xs[xs.length-1]?=some w):eI xs (-1)=some w:=by
 have hl:xs.length-1<xs.length:=(List.getElem?_eq_some_iff.mp h).1;unfold eI tM;rw[ybv (by lia),ycx (by lia)];show xs[((-1:Int)+(xs.length:Int)).toNat]?=some w;rw[←h]
 congr 1
 lia
theorem ig {a:O} {e:O} {n:Int} (h:a.getP (a.len-1)=some (e,n)):eI (aq a) (-1)=some (iu e n):=ie (by rw[aY,jP,h];rfl)
theorem ii:∀a b:O,W.ords (aq a) (aq b)=true/\W.lts (aq a) (aq b)=decide (O.cmp a b<0)
 | .z,.z=>by simp[aq,W.ords,W.lts,O.cmp]
 | .z,.c _ _ _=>by simp[aq,W.ords,W.lts,O.cmp]
 | .c _ _ _,.z=>by simp[aq,W.ords,W.lts,O.cmp]
 | .c e n r,.c e' n' r'=>by
   obtain⟨o1,l1⟩:=ii e e';obtain⟨o2,l2⟩:=ii r r';rw[bW,bW,W.ords,W.lts,Bh]
   by_cases h:(decide (e=e')&&decide (n=n'))=true
   ·rw[ycx h,ycx h];have h':e=e'/\n=n':=by simpa using h
    obtain⟨rfl,rfl⟩:=h';refine⟨o2,?_⟩;rw[l2,O.cmp,ybv (by rw[O.cmp_self];simp),ybv (by lia),ybv (by lia)]
   ·rw[ybv h,ybv h];have ee:(W.tup (aq e)).eq (W.tup (aq e'))=decide (e=e'):=pQ e e';unfold iu mW;rw[W.ord,W.lt,W.ords,W.lts,ee]
    by_cases q:e=e'
    ·subst q;rw[ycx (by simp),ycx (by simp),W.ords,W.lts];have hn:¬n=n':=λz=>h (by simp[z]);rw[pR,ybv (by simpa using hn),ybv (by simpa using hn),W.ord,W.lt];refine⟨rfl,?_⟩;rw[O.cmp,ybv (by rw[O.cmp_self];simp)]
     by_cases k:n<n'
     ·rw[ycx k];simp[k]
     ·rw[ybv k,ycx (by lia)];simp[k]
    ·rw[ybv (by simpa using q),ybv (by simpa using q),W.ord,W.lt];refine⟨o1,?_⟩;rw[l1,O.cmp,ycx (λz=>q (O.cmp_eq _ _ z))]
theorem lj (a:O) (h:a.dp<=70):W.deps (aq a)<=149:=by
 have:=eB a;lia
noncomputable def Df (K:yax) (mg:ydv) (x:Str) (st:Stmt) (ps:List Str):Prop:=∃(f:Addr) (fd:FuncData),cz K x x st f fd/\bJ K fd ps []/\mg x=some (.ref f)
theorem Df.fx {sp:bQ} (D:Df K mg x st ps) (h:∀(f:Addr) (fd:FuncData),cz K x x st f fd->ca P w K mg base k f fd ps sp):Fx P w K mg base x ps k sp:=by
 obtain⟨f,fd,F,b,m⟩:=D;exact⟨f,fd,h f fd F,m,F.kp,b⟩
theorem Bi {H:Hp} {ns:List Int} (hO:tO H) (hS:dm K H a (ns.map V.int)):zm K H a ns:=by
 rcases hS with(h | h) | h
 ·rcases hO a with z | ⟨o,xs,z⟩
  ·rw[z] at h;cases h
  ·rw[z] at h;cases h
 ·exact .inl h
 ·exact .inr h
theorem iQ {i j:Int} (h:0<j):0<=i%j/\i%j<j:=⟨Int.emod_nonneg _ (by lia),Int.emod_lt_of_pos _ h⟩
theorem x9 {ns:List Int} {i:Int} (h0:0<=i) (h1:i<ns.length):∃n,eI ns i=some n:=by
 have hl:i.toNat<ns.length:=by lia
 have e:((i.toNat:Nat):Int)=i:=Int.toNat_of_nonneg h0;have q:=eL (ybw hl);rw[e] at q;exact⟨_,q⟩
theorem Bj (j:Int):Ao 10 j=(0<=j/\j<=1000000):=by
 unfold Ao;have:(10:Int).natAbs<2^64:=by decide
 simp[this]
theorem aK {t u:WS} {d:cZ} {τ:cO} {G:Gp} (h:∀U:WS,U=u->t { d with nx:=U d } τ G):tU t u d τ G:=h u rfl
theorem aP {G:Gp} {a b:Addr} {g g':GO} (h:G b=some g') (ha:G a=none):aF G a g b=some g':=by
 rw[ao (λz=>by rw[z,ha] at h;cases h)];exact h
theorem jR (p:O->Int->Bool):∀a:O,(a.filt p).len<=a.len
 | .z=>yby _
 | .c e n r=>by
   have:=jR p r;rw[O.filt_c];split<;> simp only[O.len]<;> lia
theorem ya (G:Gp) (i:Int):ue G (.int i)=some "int":=rfl
theorem Bk (G:Gp) (b:Bool):ue G (.bl b)=some "bool":=rfl
theorem yc (G:Gp) (ws:List W):ue G (.tup ws)=some "tuple":=rfl
theorem yd (G:Gp):ue G .non=some "NoneType":=rfl
theorem ye:gl "int" "int"=true:=by decide
theorem yf:gl "int" "bool"=false:=by decide
theorem yg:gl "int" "tuple"=false:=by decide
theorem yh:gl "bool" "int"=true:=by decide
theorem yi:gl "bool" "bool"=true:=by decide
theorem yj:gl "bool" "tuple"=false:=by decide
theorem yk:gl "tuple" "tuple"=true:=by decide
theorem ym:gl "tuple" "int"=false:=by decide
theorem yn:gl "tuple" "bool"=false:=by decide
theorem yo:gl "list" "list"=true:=by decide
theorem yp:gl "NoneType" "tuple"=false:=by decide
theorem Bm:((0:Nat):Int)=0:=rfl
theorem Bo:((1:Nat):Int)=1:=rfl
theorem Bp:((2:Nat):Int)=2:=rfl
theorem Bq:((3:Nat):Int)=3:=rfl
theorem pS {c:WT} {tb:WS} {d:cZ} {τ:cO} {G:Gp} (I:Nat->cO->Gp->Prop) (h0:∃m,I m τ G)
 (h:∀m τ G,I m τ G->∀B:WS,B=tb->c τ G λb G1=>if b=true then ∃N:cO->Gp->Prop,(∀τ1 G1,N τ1 G1->∃m1,m1<m/\I m1 τ1 G1)/\B { d with nx:=N,ct:=N,bk:=d.nx } τ G1 else d.nx τ G1):tV c tb d τ G:=
 ⟨I,h0,λm τ G hI=>h m τ G hI tb rfl⟩
theorem Fu {α:Type} (x y v:α) (xs:List α):eI (x::y::v::xs) 2=some v:=eL (j:=2) rfl
theorem nQ (n i:Nat) (h:i<n):(sQ n).drop i=.int (i:Int)::(sQ n).drop (i+1):=by
 have hl:i<(sQ n).length:=by simp[sQ,h]
 rw[drop_eq_getElem_cons hl]
 congr 1
 simp[sQ]
theorem qS {C:Gp->Prop} {g:WG} {tb:WS} {d:cZ} {τ:cO} {G:Gp} (n:Nat) (Iv:Nat->cO->Gp->Prop) (h0:Iv 0 τ G) (stop:∀τ G,Iv n τ G->C G/\d.nx τ G)
 (step:∀(i:Nat) τ G (k:cO->Gp->Prop),i<n->Iv i τ G->(∀τ3 G3,Iv (i+1) τ3 G3->k τ3 G3)->C G/\g (.int (i:Int)) τ G λτ2 G2=>tb { d with nx:=k,ct:=k,bk:=d.nx } τ2 G2):jc C g tb d (sQ n) τ G:=by
 refine bY (λws τ G=>∃i,i<=n/\ws=(sQ n).drop i/\Iv i τ G) ?_ ?_ _ _ _ ⟨0,zero_le _,rfl,h0⟩
 ·rintro τ G ⟨i,hi,hw,hI⟩;have:i=n:=by
   rcases lt_or_ge i n with k | k
   ·rw[nQ n i k] at hw;cases hw
   ·lia
  subst this;exact stop τ G hI
 ·rintro w ws τ G k ⟨i,hi,hw,hI⟩ hk;have hlt:i<n:=by
   rcases lt_or_ge i n with j | j
   ·exact j
   ·rw[List.drop_of_length_le (by simp[sQ];assumption)] at hw;cases hw
  rw[nQ n i hlt] at hw;cases hw;exact step i τ G k hlt hI λτ3 G3 h3=>hk τ3 G3 ⟨i+1,hlt,rfl,h3⟩
theorem nR (lo c:Int) (n i:Nat) (h:i<n):(sg lo c n).drop i=.int (lo+(i:Int)*c)::(sg lo c n).drop (i+1):=by
 have hl:i<(sg lo c n).length:=by simp[sg,h]
 rw[drop_eq_getElem_cons hl]
 congr 1
 simp[sg]
theorem vf {C:Gp->Prop} {g:WG} {tb:WS} {d:cZ} {τ:cO} {G:Gp} (lo c:Int) (n:Nat) (Iv:Nat->cO->Gp->Prop) (h0:Iv 0 τ G) (stop:∀τ G,Iv n τ G->C G/\d.nx τ G)
 (step:∀(i:Nat) τ G (k:cO->Gp->Prop),i<n->Iv i τ G->(∀τ3 G3,Iv (i+1) τ3 G3->k τ3 G3)->C G/\g (.int (lo+(i:Int)*c)) τ G λτ2 G2=>tb { d with nx:=k,ct:=k,bk:=d.nx } τ2 G2):jc C g tb d (sg lo c n) τ G:=by
 refine bY (λws τ G=>∃i,i<=n/\ws=(sg lo c n).drop i/\Iv i τ G) ?_ ?_ _ _ _ ⟨0,zero_le _,rfl,h0⟩
 ·rintro τ G ⟨i,hi,hw,hI⟩;have:i=n:=by
   rcases lt_or_ge i n with k | k
   ·rw[nR lo c n i k] at hw;cases hw
   ·lia
  subst this;exact stop τ G hI
 ·rintro w ws τ G k ⟨i,hi,hw,hI⟩ hk;have hlt:i<n:=by
   rcases lt_or_ge i n with j | j
   ·exact j
   ·rw[List.drop_of_length_le (by simp[sg];assumption)] at hw;cases hw
  rw[nR lo c n i hlt] at hw;cases hw;exact step i τ G k hlt hI λτ3 G3 h3=>hk τ3 G3 ⟨i+1,hlt,rfl,h3⟩
noncomputable def pT (Pd:O->Int->Prop):O->Prop
 | .z=>True
 | .c e n r=>Pd e n/\pT Pd r
theorem pT.imp {Pd Pd':O->Int->Prop} (h:∀e n,Pd e n->Pd' e n):∀{a:O},pT Pd a->pT Pd' a
 | .z,_=>trivial
 | .c _ _ _,k=>⟨h _ _ k.1,pT.imp h k.2⟩
theorem qT:∀a:O,pT (λe _=>e.dp<a.dp/\O.hw e<=O.hw a) a
 | .z=>trivial
 | .c e n r=>⟨by rw[O.hw_c];simp only[O.dp];lia,(qT r).imp λx m h=>by rw[O.hw_c];simp only[O.dp];lia⟩
noncomputable def mapP (p:O->Int->Bool) (f:O->Int->W):O->List W
 | .z=>[]
 | .c e n r=>if p e n then f e n::mapP p f r else mapP p f r
theorem jS {C:Gp->Prop} {tt:WT} {te:WE} {i:Nat} {τ0:cO} {G:Gp} {q:List W->Gp->Prop} {Pd:O->Int->Prop} (p:O->Int->Bool) (f:O->Int->W) (hC:C G):∀{a:O} {acc:List W} {τ:cO},pT Pd a->
 (∀e n,Pd e n->∀k:Bool->Gp->Prop,k (p e n) G->tt (τ0.set i (some (iu e n))) G k)->(∀e n,Pd e n->p e n=true->∀k:W->Gp->Prop,k (f e n) G->te (τ0.set i (some (iu e n))) G k)->acc.length+a.len<=100000->(∀x,τ.set i x=τ0.set i x)->
 q (acc++mapP p f a) G->cq C (cP i) tt te (aq a) τ G acc q
 | .z,acc,τ,_,_,_,_,_,hq=>⟨hC,by simpa[mapP] using hq⟩
 | .c e n r,acc,τ,hP,ht,he,hl,hτ,hq=>by
   rw[bW];refine⟨hC,?_⟩;show tt (τ.set i (some (iu e n))) G _;rw[hτ];refine ht e n hP.1 _ ?_;have hτ':∀x,(τ0.set i (some (iu e n))).set i x=τ0.set i x:=λx=>set_set ..;simp only[O.len] at hl;rw[mapP] at hq;cases hp:p e n with
   | true=>
     rw[ycx rfl];refine he e n hP.1 hp _ ⟨by lia,?_⟩;rw[hp,ycx rfl] at hq;exact jS p f hC hP.2 ht he (by rw[length_append];simp;lia) hτ' (by simpa using hq)
   | false=>
     rw[ybv ycy];rw[hp,ybv ycy] at hq;exact jS p f hC hP.2 ht he (by lia) hτ' hq
noncomputable def zI:Int:=(10^172)^7
theorem qU {i:Int} (h0:0<=i) (h:i<=zI):i.natAbs<2^4000:=by
 have h2:zI<((2^4000:Nat):Int):=by decide+kernel
 generalize (2:Nat)^4000=B at h2 ⊢;lia
theorem Fv {i j:Int} (h1:0<=i) (h2:i<=zI) (h3:0<=j) (h4:j<=zI):Dl i j:=⟨qU h1 h2,qU h3 h4⟩
end L2
namespace Nm
namespace O
end O
end Nm
namespace L2
open PySem PySem.Spec PyProof.Rows Nm
section
variable {P:Program} {w:World} {K:yax} {mg:ydv} {base:Heap} {x:Str} {st:Stmt} {ps:List Str} {k:Nat} {sp:bQ}
theorem xA.rx {dws:List W} (D:xA K mg x st ps dws) (h:∀(f:Addr) (fd:FuncData) (T:Addr) (ds:ydw),gv K x x st f fd T ds->xB P w K mg base k f fd ps sp):Rx P w K mg base x ps k sp []:=by
 obtain⟨f,fd,T,ds,dvs,F,b,b',m,_,_⟩:=D;exact⟨f,fd,[],[],h f fd T ds F,m,F.kp,b,.nil,λ_=> .nil⟩
end
open PySem PySem.Spec PyProof.Rows PySem.W
@[irreducible] def pU (i:Int):Prop:=i.natAbs<2^1048576
theorem jT:∀{ns:List Int} {n:Int},n∈ns->WData.weight (.int n)<=WData.weightAll (ns.map WData.int)
 | m::ns,n,h=>by
   rw[map_cons,WData.weightAll];rcases mem_cons.mp h with rfl | h
   ·lia
   ·have:=jT h;lia
theorem yq {n:Int} (h:WData.weight (.int n)<=1048576):pU n:=by
 unfold WData.weight at h;unfold pU;generalize 1048576=a at h ⊢
 by_cases h0:n=0
 ·subst h0;exact Nat.two_pow_pos a
 ·rw[ybv (by simpa using h0)] at h;have:n.natAbs≠0:=by lia
  exact(Nat.log2_lt this).mp (by assumption)
theorem vg {ns:List Int} (h:WData.layableAll [.list (ns.map WData.int)]=true):∀n,n∈ns->pU n:=by
 intro n hn;have h1:WData.layable (.list (ns.map WData.int))=true:=(all_eq_true.mp h) _ yaz;have h2:WData.weight (.list (ns.map WData.int))<=2^20:=by
  have:=(Bool.and_eq_true_iff.mp h1).2;exact of_decide_eq_true this
 have h3:WData.weight (.list (ns.map WData.int))=WData.weightAll (ns.map WData.int):=by rw[WData.weight]
 have:=jT hn;exact yq (by lia)
@[irreducible] def Wide (i:Int):Prop:=i.natAbs<2^1048577
set_option exponentiation.threshold 500 in
noncomputable def DC (i j:Int):Prop:=(Wide i/\j.natAbs<2^4000)∨(i.natAbs<2^4000/\Wide j)
noncomputable def lp (i j:Int):Prop:=qB i j∨DC i j
theorem lp.ok {i j:Int} (h:lp i j):IntMulOk i j:=by
 have key:∀{x y:Int},Wide x->y.natAbs<2^4000->¬(((Builtin.Int.intBits x+Builtin.Int.intBits y:Int)) > bitsLine):=λ{x y} h1 h2=>by
  unfold Wide at h1;have b1:=PyProof.Rows.intBits_le h1;have b2:=PyProof.Rows.intBits_le h2;have hb:(1053000:Int)<=bitsLine:=by decide
  lia
 rcases h with h | ⟨h1,h2⟩ | ⟨h1,h2⟩
 ·exact h.ok
 ·have:=key h1 h2;unfold IntMulOk Builtin.Int.intTooBig;simp[this]
 ·have:=key h2 h1;rw[Int.add_comm] at this;unfold IntMulOk Builtin.Int.intTooBig;simp[this]
section
variable {X:Cx}
theorem yt:jk X (binaryOp .Mult) (rI lp λi j=> .int (i*j)):=Et λ_ _ _ _ _ _ _ hc q=>mul_int q hc.ok
end
noncomputable def iR:bQ:=λws _ q _=>∃ns:List Int,ws=[.scr ns]/\ns.length<=63/\(∀n,n∈ns->pU n)/\∀G',q (.bl true) G'
theorem pV {H:Hp} {ns:List Int} (hO:tO H) (hS:dm K H a (ns.map V.int)) (hl:ns.length<=63) (hc:∀n,n∈ns->pU n):wB K iR [.ref a] H (λv _=>v=.bl true) λ_ _ _=>False:=
 ⟨[.scr ns],λ_=>none,λw _=>w=.bl true,λ_ _=>False,.cons (.scr (Bi hO hS)) .nil,λ_ _ e=>(by cases e),⟨ns,rfl,hl,hc,λ_=>rfl⟩,λv H1 w G1 _ r _ e=>(by subst e;cases r;rfl),λ_ _ _ _ _ _ z=>z⟩
theorem Fw {l:OpenLaw} {n:Nat} {q:Program} {loose:List Str} {XP:(Str->Option Value)->Heap->Prop} {YP:World->Heap->Prop} {d:DefRec}
 (hn:l.most=some n) (hdf:d.params.defaults=[])
 (call:∀(w:World) (s₀ s₁:Shared) (mg mb:ydv) (fa:Addr) (a:Addr) (vs:ydw) (ns:List Int),
   Ground q loose [] XP w s₀ mg mb s₁.heap->YP w s₁.heap->mg d.name=some (.ref fa)->
   s₁.heap.get? a=some { cls:= .type "list",data:= .seq vs.toArray }->IntsAre vs ns->ns.length<=n->(∀n,n∈ns->pU n)->s₁.gens= #[]->
   codeAny (model l.prog w) callerA (.call (.ref fa) ⟨[.ref a],[]⟩) (λr s'=>r=.ok (.ret (.bool true))/\OldK s₁.heap s'.heap/\s'.os=s₁.os/\AllBare s'.gens) s₁):
 WalkO q loose XP YP l.row.toRowW d [] (λf vs=>PySem.call f vs):=by
 intro w s₀ s₁ mg mb G Y fa o pm cd doc dV kV ho hd hcd hD hmg hg args vals as hpre hlay hrd hwl hlo;obtain rfl:dV=.none:=Dflts.none hD hdf;obtain rfl:kV=.none:=Dflts.noKw hD;obtain⟨a,vs,ns,ea,rfl,hobj,hints,hlen⟩:=Att.script_of hn hpre hwl;subst ea;refine enter_call (codeAny_mono (call w s₀ s₁ mg mb fa a vs ns G Y hmg hobj hints hlen (vg hlay) hg) λr s' hq=>?_);obtain⟨rfl,h2,h3,h4⟩:=hq;exact⟨.inl ⟨.bool true,.bool true,[],rfl,λ_=>rfl,.bool true,Att.post_true l _,λ_=>⟨List.Pairwise.nil,λ_ hm=>(nomatch hm)⟩⟩,h2,h3,h4⟩
theorem walk_ofC {l:PySem.W.OpenLaw} {n k:Nat} {q:Program} {loose:List Str} {XP:(Str->Option Value)->Heap->Prop} {YP:World->Heap->Prop} {d:DefRec} {K:Params->yax} {CX:World->oW} {sp:World->Sp}
 (hn:l.most=some n) (hn2:n<=sizeLine) (hdf:d.params.defaults=[]) (hr:aw k callerA)
 (hY:∀(w:World) (h:Heap),YP w h->(K w.params).In h)
 (F:∀(w:World) (mg:ydv) (fa:Addr) (h:Heap),(K w.params).In h->h.Ns mainGlobals mg->mg d.name=some (.ref fa)->
   ∃fd:FuncData,(∀(s:Shared) (u:Value),BindsTo s fd ⟨[u],[]⟩ [(x,u)])/\
    ∀base:Heap,(K w.params).In base->base.Ns mainGlobals mg->dQ l.prog w (K w.params) mg base (CX w) k fa fd [x] (sp w))
 (hsp:∀(w:World) (H:Hp) (a:Addr) (ns:List Int),ns.length<=n->(∀n,n∈ns->pU n)->tO H->dm (K w.params) H a (ns.map V.int)->sp w [.ref a] H (λv _=>v=.bl true) λ_ _ _=>False)
 (hCX:∀(w:World) (H:Hp) (s:Shared) (e:Value) (s':Shared),CX w [] H s (λ_ _ _=>False) e s'->False):
 PySem.W.WalkO q loose XP YP l.row.toRowW d [] (λf vs=>PySem.call f vs):=by
 refine Fw hn hdf λw s₀ s₁ mg mb fa a vs ns G Y hmg hobj hints hlen hc hg=>?_;have KX:=hY w _ Y;obtain⟨fd,hb,hF⟩:=F w mg fa _ KX G.T.g hmg;exact tP KX G.T.g G.T.b G.T.builtins G.T.nolimit hg hobj hints (ybz hlen hn2) hr hF hb (λH hO hS=>hsp w H a ns hlen hc hO hS) λH e s'=>hCX w H s₁ e s'
open PySem PySem.Spec PyProof.Rows
theorem aQ.rep {K:yax} {H:Hp} {ws:List W} {vs:List V} (r:aQ K H ws vs):∀k:Nat,aQ K H (List.replicate k ws).flatten (List.replicate k vs).flatten
 | 0=> .nil
 | k+1=>by
   rw[replicate_succ,flatten_cons,replicate_succ,flatten_cons];exact r.append (aQ.rep r k)
section
variable {X:Cx}
noncomputable def zJ:W2:=λx y G q=>match x,y with
 | .int i,.int j=>lp i j/\q (.int (i*j)) G
 | .ref a,.int k=>∃xs,G a=some (.lst xs)/\0<=k/\k<=100000/\xs.length*k.toNat<=100000/\∀p,G p=none->q (.ref p) (aF G p (.lst (List.replicate k.toNat xs).flatten))
 | .tup xs,.int k=>xs≠[]/\0<=k/\k<=100000/\xs.length*k.toNat<=100000/\q (.tup (List.replicate k.toNat xs).flatten) G
 | _,_=>False
theorem Br:iC X (binaryOp .Mult) zJ:=by
 rintro π s σ H x y v u Q I rx ry ⟨wx,wy,G,q,r1,r2,g,h,hQ⟩;cases r2 with
 | int k=>
   cases r1 with
   | int i=>exact yt π s σ H _ _ v u Q I rx ry ⟨_,_,rfl,rfl,h.1,hQ _ H _ G (aM.refl H) (.int _) g h.2⟩
   | ref a=>
     obtain⟨xs,ea,h0,h1,hl,h⟩:=h;obtain⟨_,xs',ha,ra⟩:=g _ _ ea;refine AF π s σ H _ _ v u Q I rx ry ⟨_,_,_,rfl,rfl,ha,ydx (by decide) h0,Int.lt_of_le_of_lt h1 (by decide),by rw[←ra.length];exact bN hl,λp hp=>?_⟩;exact hQ _ _ _ _ (aM.new hp _) (.ref p) (g.put (aM.new hp _) (ra.rep _) (by rw[jr,Nat.mul_comm];exact hl)) (h p (g.fresh hp))
   | @tup a ws xs ha ra=>
     obtain⟨hne,h0,h1,hl,h⟩:=h;refine xH π s σ H _ _ v u Q I rx ry ⟨a,_,_,rfl,rfl,cY.of ha,λz=>?_,h0,h1,by rw[←ra.length];exact bN hl,λe=>?_,λ_ p hp=>?_⟩
     ·subst z;cases ra;exact hne rfl
     ·subst e;have e1:∀zs:List W,(List.replicate (Int.toNat 1) zs).flatten=zs:=λzs=>by simp
      rw[e1] at h;exact hQ _ H _ G (aM.refl H) (.tup ha ra) g h
     ·exact hQ _ _ _ G (aM.new hp _) (.tup aX ((ra.rep _).mono (aM.new hp _))) (g.keep hp _) h
   | _=>exact False.elim h
 | _=>cases r1<;> exact False.elim h
end
end L2
namespace Nm
namespace O
end O
end Nm
namespace L2
open PySem PySem.Spec PyProof.Rows
section
variable {X:Cx}
noncomputable def lq:W2:=λx y G q=>match x,y with
 | .str a,.str b=>a.length+b.length<=100000/\q (.str (a++b)) G
 | x,y=>CQ x y G q
theorem bZ:iC X (binaryOp .Add) lq:=by
 rintro π s σ H x y v u Q I rx ry ⟨wx,wy,G,q,r1,r2,g,h,hQ⟩;unfold lq at h;split at h
 ·cases r1;cases r2;exact oO π s σ H _ _ v u Q I rx ry ⟨_,_,rfl,rfl,bN h.1,hQ _ H _ G (aM.refl H) (.str _) g h.2⟩
 ·exact CS π s σ H x y v u Q I rx ry ⟨wx,wy,G,q,r1,r2,g,h,hQ⟩
noncomputable def lr:W2:=λx y G q=>match x,y with
 | .str a,.int k=>0<=k/\k<=100000/\a.length*k.toNat<=100000/\∀z:Str,z.length<=a.length*k.toNat->q (.str z) G
 | x,y=>zJ x y G q
theorem lu (a:Array Nat):∀(n:Nat) (b:Array Nat),(List.foldl (λx1 x2=>x1++x2) b (List.replicate n a)).size=b.size+a.size*n
 | 0,b=>by simp
 | n+1,b=>by
   rw[replicate_succ,foldl_cons,lu a n,Array.size_append,Nat.mul_succ];lia
theorem yu (x:Str) {n:Int} (h:0<=n):(Txt.mul x n).length<=x.length*n.toNat:=by
 unfold Txt.mul;split
 ·exact zero_le _
 ·split
  ·rename_i h1 h2;have:1<=n.toNat:=by lia
   exact Nat.le_mul_of_pos_right _ this
  ·show Array.size _<=x.cps.size*n.toNat;rw[lu];simp
theorem Bs:iC X (binaryOp .Mult) lr:=by
 rintro π s σ H x y v u Q I rx ry ⟨wx,wy,G,q,r1,r2,g,h,hQ⟩;unfold lr at h;split at h
 ·rename_i a k;obtain⟨h0,h1,hl,h⟩:=h;cases r1;cases r2;obtain⟨t,rfl⟩:=rx;obtain⟨t',rfl⟩:=ry;refine SB.mul ?_ λt' tk=>⟨.str _,H,I.tok _,⟨_,rfl⟩,hQ _ H _ G (aM.refl H) (.str _) g (h _ (yu a h0))⟩;have hk:(k.toNat:Int)=k:=by lia
  refine⟨?_,λh2 h3=>?_,λh2 h3=>?_⟩
  ·have e1:decide (k< -(2^63:Int))=false:=ycz (by lia);have e2:decide (k≥2^63)=false:=ycz (by lia);rw[e1,e2,Bool.or_false]
  ·have h4:((a.length*k.toNat:Nat):Int)<=((100000:Nat):Int):=Int.ofNat_le.mpr hl;rw[Int.natCast_mul,hk] at h4;have h5:(a.length:Int)<=(2^63-1)/k:=by
    rw[Int.le_ediv_iff_mul_le (by lia)];exact ydx h4 (by decide)
   exact Int.not_lt.mpr h5
  ·exact ycz (not_lt.mpr (bN hl))
 ·exact Br π s σ H x y v u Q I rx ry ⟨wx,wy,G,q,r1,r2,g,h,hQ⟩
noncomputable def vh:W2:=λx y G q=>match x,y with
 | .str z,.int i=>z.length<=100000/\∃c,eI z.cps.toList i=some c/\q (.str ⟨#[c]⟩) G
 | x,y=>CU x y G q
theorem DE:AJ X vh:=by
 rintro value slice π s σ H x y v u Q I rx ry ⟨wx,wy,G,q,r1,r2,g,h,hQ⟩ hsl;unfold vh at h;split at h
 ·obtain⟨hz,c,e,h⟩:=h;cases r1;cases r2;exact AB value slice π s σ H _ _ v u Q I rx ry ⟨_,_,c,rfl,rfl,bN hz,e,hQ _ H _ G (aM.refl H) (.str _) g h⟩ hsl
 ·exact Fd value slice π s σ H x y v u Q I rx ry ⟨wx,wy,G,q,r1,r2,g,h,hQ⟩ hsl
noncomputable def yv:W3:=λx lo hi G q=>match x with
 | .str z=>z.length<=100000/\∀y:Str,y.length<=z.length->q (.str y) G
 | x=>xo x lo hi G q
theorem qV {vl:Value} {lo:Option Int} (p:IsPart vl lo):∃l:Option (Int×Tok),vl=partValue l:=by
 cases p with
 | none=>exact⟨none,rfl⟩
 | int i t=>exact⟨some (i,t),rfl⟩
theorem DF:CA X (GV X.K yv):=by
 rintro π s σ H x v vl vu lo hi sl Q I rx hs pl pu ⟨w,G,q,r,g,h,hQ⟩;unfold yv at h;split at h
 ·rename_i z;obtain⟨hz,h⟩:=h;cases r;obtain⟨t,rfl⟩:=rx;refine⟨"str",_,slot_str_getitem.lookup,typeIs_str s z t,?_⟩;obtain⟨l,rfl⟩:=qV pl;obtain⟨u,rfl⟩:=qV pu;refine wpAny_getItem_str_slice (l:=l) (u:=u) (st:=none) ?_ rfl ?_
  ·obtain⟨o,e1,e2,e3⟩:=hs;exact⟨o,e1,e2,e3⟩
  ·have hle:=Txt.slice_le z (l.map (·.1)) (u.map (·.1));unfold sliceMade;split
   ·exact⟨.str z,H,I,⟨_,rfl⟩,hQ _ H _ G (aM.refl H) (.str _) g (h _ (yby _))⟩
   ·rename_i hn;unfold Txt.slice at hle;split at hle
    ·rename_i hy;exact absurd hy hn
    ·exact⟨ybz hle (bN hz),.str _,H,I.tok _,⟨_,rfl⟩,hQ _ H _ G (aM.refl H) (.str _) g (h _ hle)⟩
 ·exact Fe π s σ H x v vl vu lo hi sl Q I rx hs pl pu ⟨w,G,q,r,g,h,hQ⟩
noncomputable def DG (te:WE) (tl th:WO):WE:=λτ G q=>te τ G λx G1=>tl τ G1 λl G2=>th τ G2 λu G3=>yv x l u G3 q
theorem cv {lo hi:Option Expr} {te:WE} {tl th:WO} {pos p2:Pos} (he:QE X e te) (hl:QO X lo tl) (hu:QO X hi th):QE X (.Subscript e (.Slice lo hi none p2) pos) (DG te tl th):=
 (tL DF he hl hu).imp λσ H Q z0=>z0.el λτ G q hs hg ht hQ=>⟨τ,G,_,hs,hg,ht,λv H1 w G1 t1 r1 g1 q1=>⟨τ,G1,_,hs.mono t1,g1,q1,λl H2 G2 t2 g2 q2=>
   ⟨τ,G2,_,(hs.mono t1).mono t2,g2,q2,λu H3 G3 t3 g3 q3=>⟨w,G3,q,(r1.mono t2).mono t3,g3,q3,λv4 H4 w4 G4 t4=>hQ v4 H4 w4 G4 (((t1.trans t2).trans t3).trans t4)⟩⟩⟩⟩
noncomputable def vi:List W->Gp->WK->Prop:=λws G q=>match ws with
 | [.str z]=>z.length<=100000/\q (.int z.length) G
 | ws=>CP ws G q
theorem Bt:fe X (.builtin "len") vi:=by
 rintro π s σ H xs us Q I r ⟨ws,G,q,rw',g,h,hQ⟩;unfold vi at h;split at h
 ·obtain⟨v,rfl,r1⟩:=rw'.one;cases r1;exact lR π s σ H _ us Q I r ⟨_,rfl,bN h.1,hQ _ H _ G (aM.refl H) (.int _) g h.2⟩
 ·exact zx π s σ H xs us Q I r ⟨ws,G,q,rw',g,h,hQ⟩
noncomputable def Fy (x:Str):It:=⟨λi _=>i<x.cps.toList.length,λi H y H'=>H'=H/\∃c,x.cps.toList[i]?=some c/\y=.str ⟨#[c]⟩,λi _=>x.cps.toList.length<=i⟩
theorem lw (hA:A.handled=none) (it:Addr) (x:Str) (t:Tok):Walks P w A it [it] [it] x.cps.size (SignAt x) (λi h=>h.IsStrIter it (strIterType x) x t i):=by
 unfold strIterType;split
 ·exact Walks.strAscii hA it x t
 ·exact Walks.strWide hA it x t
theorem vj {tg:Expr} (it:Addr) (x:Str) (t:Tok):kt P w K tg (Fy x) [it] it (λi h=>i<=x.cps.size/\h.IsStrIter it (strIterType x) x t i) where
 mem:=by simp
 obj:=λi h st b hb=>by
  have e:b=it:=by simpa using hb
  subst e;obtain⟨_,o,e1,e2,e3⟩:=st;exact⟨_,e1,λv z=>by rw[e3] at z;cases z⟩
 keep:=λi h h' st k=>by
  obtain⟨hi,o,e1,e2,e3⟩:=st;exact⟨hi,o,k it (by simp) _ e1,e2,e3⟩
 item:=by
  intro X hP hw hK hc i π s σ H E I hf st hg;subst hP hw hK;obtain⟨f0,f1,f2,f3,f4,f5⟩:=hf it (by simp);have hg':i<x.cps.size:=by
   have h:i<x.cps.toList.length:=hg;simpa using h
  refine(lw (I.ok.hd hc) it x t).item i s _ _ hg' st.2 λv h' tk hv st' kk=>?_;obtain⟨c,u,e,rfl⟩:=hv;have I1:aB X π σ H { s with heap:=h',toks:=tk }:=I.turned (λb o hb e=>kk b o (by simpa using hb) e) f0 f1 f3 f4 f5;obtain⟨o,e1,e2,e3⟩:=id st';refine⟨_,rfl,jA (s:={ s with heap:=h',toks:=tk }) (n:=strIterType x) e1 e2 e3 ?_ ⟨.str ⟨#[c]⟩,H,I1,⟨u,rfl⟩,⟨rfl,c,by simpa using e,rfl⟩,⟨hg',st'⟩,λb hb=>(hf b hb).1⟩⟩;unfold strIterType;split<;> decide
 done:=by
  intro X hP hw hK hc i π s σ H E I hf st hg;subst hP hw hK;obtain⟨f0,f1,f2,f3,f4,f5⟩:=hf it (by simp);have hg':x.cps.size<=i:=by
   have h:x.cps.toList.length<=i:=hg;simpa using h
  have hi:i=x.cps.size:=Nat.le_antisymm st.1 hg';subst hi;exact(lw (I.ok.hd hc) it x t).done s _ _ st.2 λh' tk kk=>⟨rfl,I.turned (t':=tk) (λb o hb e=>kk b o (by simpa using hb) e) f0 f1 f3 f4 f5⟩
 self:=λA i s Q E st h=>by
  obtain⟨_,o,e1,e2,e3⟩:=st;unfold strIterType at e2;split at e2
  ·exact wpAny_pyIter_striter_ascii ⟨o,e1,e2,e3⟩ h
  ·exact wpAny_pyIter_striter_wide ⟨o,e1,e2,e3⟩ h
noncomputable def Ey (l:List Nat):List W:=l.map λc=> .str ⟨#[c]⟩
theorem yw {H:Hp}:px K (Fy x) (Ey x.cps.toList) (λ_=>True) H where
 stop:=λi H1 G t g _ hl=>by
  have h:x.cps.toList.length<=i:=by simpa[Ey] using hl
  exact h
 go:=λi w H1 G t g _ e=>by
  unfold Ey at e;rw[List.getElem?_map] at e;cases h:x.cps.toList[i]? with
  | none=>rw[h] at e;cases e
  | some c=>
    rw[h] at e;cases e;refine⟨(List.getElem?_eq_some_iff.mp h).1,λy H' ⟨eH,c',hc,hy⟩=>?_⟩;subst eH hy;rw[h] at hc;cases hc;exact⟨aM.refl _,.str _,g⟩
variable {tg:Expr}
theorem yx {l:Expr} {tl:TE} (hl:PE X l tl):PI X tg l (λσ H R=>tl σ H λx H1=>(∃z,x=.str z/\R (Fy z) H1)∨∃a,x=.ref a/\(((∃xs,dm X.K H1 a xs)/\R (Er X.K a) H1)∨((∃xs,cY X.K H1 a xs)/\R (ER X.K a) H1))):=by
 intro π s σ H R I h;refine bR (hl π s σ H _ I h) λv s1 z9=>?_;obtain⟨x,H1,I1,r1,q1⟩:=z9;rcases q1 with⟨z,rfl,q⟩ | ⟨a,e,q1⟩
 ·obtain⟨t,rfl⟩:=r1;refine wpAny_pyIter_strU ?_;refine⟨s1.heap.objs.size,[s1.heap.objs.size],_,_,H1,rfl,I1.kept (t':=s1.toks) λb o e=>yaw _ e,vj _ z t,⟨zero_le _,_,yav _ rfl,rfl,rfl⟩,λb hb=>?_,q⟩;have e:b=s1.heap.objs.size:=by simpa using hb
  subst e;exact I1.fpOk (yby _) (I1.hok.fresh (yby _))
 ·subst e;cases r1;rcases q1 with⟨⟨xs,hq⟩,q⟩ | ⟨⟨xs,hq⟩,q⟩
  ·obtain⟨its,rv,p,hz⟩:=I1.list hq;refine wpAny_pyIter_list p.isList ?_;refine⟨s1.heap.objs.size,[s1.heap.objs.size],_,_,H1,rfl,I1.kept (t':=s1.toks) λb o e=>yaw _ e,rN a _,⟨_,yav _ rfl,rfl,rfl⟩,λb hb=>?_,q⟩;have e:b=s1.heap.objs.size:=by simpa using hb
   subst e;exact I1.fpOk (yby _) (I1.hok.fresh (yby _))
  ·obtain⟨its,rv,p,hz⟩:=I1.tuple hq;refine wpAny_pyIter_tuple (show s1.heap.IsTuple a its.toArray from p) ?_;refine⟨s1.heap.objs.size,[s1.heap.objs.size],_,_,H1,rfl,I1.kept (t':=s1.toks) λb o e=>yaw _ e,oM a _,⟨_,yav _ rfl,rfl,rfl⟩,λb hb=>?_,q⟩;have e:b=s1.heap.objs.size:=by simpa using hb
   subst e;exact I1.fpOk (yby _) (I1.hok.fresh (yby _))
noncomputable def zK (te:WE):WI:=λτ G r=>te τ G λx G1=>match x with
 | .str z=>r (Ey z.cps.toList) (λ_=>True) G1
 | .tup ws=>r ws (λ_=>True) G1
 | .scr ns=>r (ns.map W.int) (λ_=>True) G1
 | .ref a=>∃ws,G1 a=some (.lst ws)/\r ws (λG=>G a=some (.lst ws)) G1
 | _=>False
theorem ck {l:Expr} {te:WE} (hl:QE X l te):QI X tg l (zK te):=
 (yx hl).imp λσ H R ⟨τ,G,r,hs,hg,ht,hR⟩=>⟨τ,G,_,hs,hg,ht,λv H1 w G1 t1 r1 g1 q1=>by
   split at q1
   ·cases r1;exact .inl ⟨_,rfl,hR _ H1 _ _ G1 t1 g1 yw q1⟩
   ·cases r1 with
    | tup h rr=>exact .inr ⟨_,rfl,.inr ⟨⟨_,cY.of h⟩,hR _ H1 _ _ G1 t1 g1 (xq h rr) q1⟩⟩
   ·cases r1 with
    | scr h=>exact .inr ⟨_,rfl,.inl ⟨⟨_,h.sq⟩,hR _ H1 _ _ G1 t1 g1 (xu h) q1⟩⟩
   ·obtain⟨ws,e,q1⟩:=q1;cases r1;obtain⟨_,xs,h1,_⟩:=g1 _ _ e;exact .inr ⟨_,rfl,.inl ⟨⟨xs,dm.of h1⟩,hR _ H1 _ _ G1 t1 g1 xt q1⟩⟩
   ·exact q1.elim⟩
end
open PySem PySem.Spec PyProof.Rows Nm
theorem fN {β:Type} {C:Gp->Prop} {te:WE} {i:Nat} {τ0:cO} {G:Gp} {q:List W->Gp->Prop} (key val:β->W) (hC:C G):∀{ps:List β} {acc:List W} {τ:cO},
 (∀p,p∈ps->∀k:W->Gp->Prop,k (val p) G->te (τ0.set i (some (key p))) G k)->acc.length+ps.length<=100000->(∀x,τ.set i x=τ0.set i x)->q (acc++ps.map val) G->cq C (cP i) kS te (ps.map key) τ G acc q
 | [],acc,τ,_,_,_,hq=>⟨hC,by simpa using hq⟩
 | p::ps,acc,τ,ht,hl,hτ,hq=>by
   refine⟨hC,?_⟩;show te (τ.set i (some (key p))) G _;rw[hτ];refine ht p yaz _ ?_;rw[length_cons] at hl;refine⟨by lia,fN key val hC (λu hu=>ht u (yay _ hu)) (by rw[length_append];simp only[length_cons,length_nil];lia) (λx=>?_) (by simpa using hq)⟩;rw[set_set]
theorem nS {C:Gp->Prop} {te:WE} {i:Nat} {τ0:cO} {q:List W->Gp->Prop} (Iv:List W->List W->Gp->Prop) (stop:∀acc G,Iv [] acc G->C G/\q acc G)
 (step:∀x ws acc G (k:WK),Iv (x::ws) acc G->(∀v G1,Iv ws (acc++[v]) G1->acc.length+1<=100000->k v G1)->C G/\te (τ0.set i (some x)) G k):∀{ws acc:List W} {τ:cO} {G:Gp},Iv ws acc G->acc.length+ws.length<=100000->(∀x,τ.set i x=τ0.set i x)->cq C (cP i) kS te ws τ G acc q
 | [],acc,τ,G,hI,_,_=>stop acc G hI
 | x::ws,acc,τ,G,hI,hl,hτ=>by
   rw[length_cons] at hl;obtain⟨h1,h2⟩:=step x ws acc G (λv G4=>acc.length+1<=100000/\cq C (cP i) kS te ws (τ0.set i (some x)) G4 (acc++[v]) q) hI λv G1 hv hn=>⟨hn,nS Iv stop step hv (by rw[length_append];simp only[length_cons,length_nil];lia) λy=>set_set ..⟩;refine⟨h1,?_⟩;show te (τ.set i (some x)) G _;rw[hτ];exact h2
theorem Hg {c:WT} {t u:WS} {d:cZ} {τ:cO} {G:Gp} (h:∀(T V:WS) (D:cZ),T=t->V=u->D=d->AM c T V D τ G):AM c t u d τ G:=h t u d rfl rfl rfl
theorem bA {G G':Gp} {p:Addr} (h:aC G G') (hp:G' p=none):G p=none:=by
 cases e:G p with
 | none=>rfl
 | some g=>rw[h _ _ e] at hp;cases hp
theorem pW {G:Gp} {p:Addr} {g g':GO}:aF (aF G p g) p g'=aF G p g':=by
 funext b
 unfold aF;split<;> rfl
theorem fh {c A B:Prop} {d:Decidable c} (h1:c->A) (h2:¬c->B): @ite Prop c d A B:=by
 cases d with
 | isTrue h=>exact h1 h
 | isFalse h=>exact h2 h
theorem Bu (xs:List W) (a b:Nat):∃x y:Nat,dc xs (some (a:Int)) (some (b:Int))=(xs.drop x).take y/\y<=b-a:=by
 unfold dc;rw[HT.sIx_nat,HT.sIx_nat];exact⟨_,_,rfl,by lia⟩
noncomputable abbrev wF (L:List Str):List W:=L.map W.str
theorem mD {L:List Str} {i:Int} (h0:0<=i) (h1:i<L.length):∃x,eI (wF L) i=some (.str x)/\x∈L:=by
 have hl:i.toNat<L.length:=by lia
 have q:=eL (xs:=wF L) (j:=i.toNat) (v:= .str L[i.toNat]) (by unfold wF;rw[List.getElem?_map,ybw hl];rfl);rw[Int.toNat_of_nonneg h0] at q;exact⟨_,q,getElem_mem hl⟩
section
variable {X:Cx} {π:List (Addr×Obj)} {σ:St} {H:Hp} {s:Shared} {a:Addr} {o:Obj} {kvs:List (ax×V)}
theorem aB.swap {u v:HO} (I:aB X π σ H s) (e:H a=some u) (un:Un X.fs X.ex X.H₀ (upd H a v) X.s₀.heap s.heap) (hv:bD X.prog X.w (upd H a v) s.heap a v) (nu:∀xs,u≠ .tup xs) (no:∀x,u≠ .own x):aB X π σ (upd H a v) s:=by
 have ne:∀b,H b=none->b≠a:=λb hb z=>by rw[z,e] at hb;cases hb
 refine⟨I.ok,I.os,I.bare,un,I.loc,I.cell,by rw[aG (ne _ I.free)];exact I.free,λx c hc=>by rw[aG (ne _ (I.freeC x c hc))];exact I.freeC x c hc,λp hp=>?_,λb w hb=>?_,I.len⟩
 ·obtain⟨h1,h2,h3⟩:=I.pin p hp;exact⟨h1,by rw[aG (ne _ h2)];exact h2,h3⟩
 ·by_cases hba:b=a
  ·subst hba;rw[aX] at hb;cases hb;exact hv
  ·rw[aG hba] at hb;refine(I.hok b w hb).stay (λd v _ q=>q) (λd q=>?_) λd xs q=>?_
   ·rw[aG (λz=>by rw[z,e] at q;exact no _ (Option.some.inj q))];exact q
   ·rw[aG (λz=>by rw[z,e] at q;exact nu _ (Option.some.inj q))];exact q
theorem aB.freeze (I:aB X π σ H s) (e:H a=some (.dK kvs)) (ho:s.heap.get? a=some o):aB X π σ (upd H a (.frz o (.dK kvs))) s:=by
 refine I.swap e ?_ ⟨ho,(I.hok a _ e)⟩ (λ_ z=>by cases z) (λ_ z=>by cases z);have U:=I.base;refine⟨U.keep,U.slot,λb ob h1 h2 h3=>?_,U.there,λb xs h1=>?_,λb ob w h1=>?_,λb ps h1=>?_⟩
 ·have h4:=U.free b ob h1 h2 h3;rw[aG (λz=>by rw[z,e] at h4;cases h4)];exact h4
 ·have h4:=U.tups b xs h1;rw[aG (λz=>by rw[z,e] at h4;cases h4)];exact h4
 ·have h4:=U.frzs b ob w h1;rw[aG (λz=>by rw[z,e] at h4;cases h4)];exact h4
 ·obtain⟨m,h4⟩:=U.tbls b ps h1;exact⟨m,by rw[aG (λz=>by rw[z,e] at h4;cases h4)];exact h4⟩
theorem aB.thaw (I:aB X π σ H s) (e:H a=some (.frz o (.dK kvs))) (h0:∀ob w,X.H₀ a≠some (.frz ob w)):aB X π σ (upd H a (.dK kvs)) s:=by
 refine I.swap e ?_ (I.hok a _ e).2 (λ_ z=>by cases z) (λ_ z=>by cases z);have U:=I.base;refine⟨U.keep,U.slot,λb ob h1 h2 h3=>?_,U.there,λb xs h1=>?_,λb ob w h1=>?_,λb ps h1=>?_⟩
 ·have h4:=U.free b ob h1 h2 h3;rw[aG (λz=>by rw[z,e] at h4;cases h4)];exact h4
 ·have h4:=U.tups b xs h1;rw[aG (λz=>by rw[z,e] at h4;cases h4)];exact h4
 ·have h4:=U.frzs b ob w h1;rw[aG (λz=>by rw[z] at h1;exact h0 _ _ h1)];exact h4
 ·obtain⟨m,h4⟩:=U.tbls b ps h1;exact⟨m,by rw[aG (λz=>by rw[z,e] at h4;cases h4)];exact h4⟩
theorem aB.nofrz (I:aB X π σ H s) (e:H a=some (.dK kvs)):∀ob w,X.H₀ a≠some (.frz ob w):=λob w h=>by
 have:=I.base.frzs a ob w h;rw[e] at this;cases this
theorem lx {α β:Type} {F:α->β->Prop}:∀{l1:List α} {l2:List β},Paired F l1 l2->∀{i:Nat} {a:α} {b:β},l1[i]?=some a->l2[i]?=some b->F a b
 | _,_,.nil,_,_,_,h,_=>by cases h
 | _,_,.cons r t,0,_,_,h1,h2=>by cases h1;cases h2;exact r
 | _,_,.cons r t,i+1,_,_,h1,h2=>lx t (i:=i) h1 h2
theorem aB.dictAt {es:Array DictEntry} {ep:Nat} (I:aB X π σ H s) (e:H a=some (.frz o (.dK kvs))) (hd:o.data=.dict es ep):∃vs,KV kvs vs/\s.heap.DictAt (aW X.prog X.w) a vs ep/\(a==sysModules)=false:=by
 obtain⟨h1,_,h2,vs,h3,o2,es2,ep2,h4,h5,h6,h7⟩:=I.hok a _ e;rw[h1] at h4;cases h4;rw[hd] at h6;cases h6;exact⟨vs,h3,⟨o,es,h1,h5,hd,h7⟩,h2⟩
theorem qW {k:ax} {v:Value} (h:jy k v=true):bc (kV k) v:=by
 rcases bE h with⟨i,t,rfl,rfl⟩ | ⟨x,t,rfl,rfl⟩
 ·exact⟨t,rfl⟩
 ·exact⟨t,rfl⟩
variable {tg:Expr}
end
noncomputable def bI (kvs:List (ax×W)) (k:ax):Option W:=(kvs.find? λkv=>decide (kv.1=k)).map (·.2)
noncomputable def bO (kvs:List (ax×W)) (k:ax) (w:W):List (ax×W):=
 if (kvs.any λkv=>decide (kv.1=k))=true then kvs.map (λkv=>if kv.1=k then (kv.1,w) else kv) else kvs++[(k,w)]
inductive DP (K:yax) (H:Hp):List (ax×W)->List (ax×V)->Prop where
 | nil:DP K H [] []
 | cons {k:ax} {w:W} {v:V} {kvs:List (ax×W)} {us:List (ax×V)} (r:bK K H w v) (t:DP K H kvs us):DP K H ((k,w)::kvs) ((k,v)::us)
section
variable {K:yax} {H H1:Hp}
theorem DP.of:∀{kvs:List (ax×W)} {us:List (ax×V)},us.map (·.1)=kvs.map (·.1)->aQ K H (kvs.map (·.2)) (us.map (·.2))->DP K H kvs us
 | [],[],_,_=> .nil
 | [],_::_,h,_=>by simp at h
 | _::_,[],h,_=>by simp at h
 | (k,w)::kvs,(k',v)::us,h,r=>by
   simp only[map_cons,List.cons.injEq] at h;obtain⟨rfl,h⟩:=h;cases r with
   | cons r rs=>exact .cons r (DP.of h rs)
theorem DP.keys {kvs:List (ax×W)} {us:List (ax×V)} (d:DP K H kvs us):us.map (·.1)=kvs.map (·.1):=by
 induction d with
 | nil=>rfl
 | cons r t ih=>rw[map_cons,map_cons,ih]
theorem DP.vals {kvs:List (ax×W)} {us:List (ax×V)} (d:DP K H kvs us):aQ K H (kvs.map (·.2)) (us.map (·.2)):=by
 induction d with
 | nil=>exact .nil
 | cons r t ih=>exact .cons r ih
theorem DP.len {kvs:List (ax×W)} {us:List (ax×V)} (d:DP K H kvs us):us.length=kvs.length:=by
 have:=congrArg List.length d.keys;simpa using this
theorem DP.mono {kvs:List (ax×W)} {us:List (ax×V)} (t:aM H H1) (d:DP K H kvs us):DP K H1 kvs us:=DP.of d.keys (d.vals.mono t)
theorem DP.val {kvs:List (ax×W)} {us:List (ax×V)} (d:DP K H kvs us) (k:ax):(bI kvs k=none/\lS us k=none)∨∃w v,bI kvs k=some w/\lS us k=some v/\bK K H w v:=by
 induction d with
 | nil=>exact .inl ⟨rfl,rfl⟩
 | @cons k' w v kvs us r t ih=>
   by_cases e:k'=k
   ·exact .inr ⟨w,v,by simp[bI,List.find?_cons,e],nk e,r⟩
   ·rw[show bI ((k',w)::kvs) k=bI kvs k by simp[bI,List.find?_cons,e],nl (p:=(k',v)) e];exact ih
theorem DP.any {kvs:List (ax×W)} {us:List (ax×V)} (d:DP K H kvs us) (k:ax):(us.any λkv=>decide (kv.1=k))=kvs.any λkv=>decide (kv.1=k):=by
 induction d with
 | nil=>rfl
 | cons r t ih=>rw[any_cons,any_cons,ih]
theorem DP.put {kvs:List (ax×W)} {us:List (ax×V)} (d:DP K H kvs us) (k:ax) {w:W} {v:V} (r:bK K H w v):DP K H (bO kvs k w) (fg us k v):=by
 unfold bO fg;rw[d.any k]
 by_cases e:(kvs.any λkv=>decide (kv.1=k))=true
 ·rw[ycx e,ycx e];clear e
  induction d with
  | nil=>exact .nil
  | @cons k' w' v' kvs us r' t ih=>
    rw[map_cons,map_cons]
    by_cases e:k'=k
    ·rw[ycx e,ycx e];exact .cons r ih
    ·rw[ybv e,ybv e];exact .cons r' ih
 ·rw[ybv e,ybv e];clear e
  induction d with
  | nil=>exact .cons r .nil
  | cons r' t ih=>exact .cons r' ih
end
theorem cN (kvs:List (ax×W)) (k:ax) (w:W):(bO kvs k w).length<=kvs.length+1:=by
 unfold bO;split
 ·rw[length_map];lia
 ·rw[length_append,length_cons,length_nil];lia
noncomputable def GD (G:Gp) (a:Addr) (kvs:List (ax×W)):Prop:=G a=some (.dic kvs)∨∃o us,G a=some (.fdc o us kvs)
section
variable {K:yax} {H:Hp} {G:Gp} {a:Addr} {kvs:List (ax×W)}
theorem GD.rd (h:GD G a kvs) (g:aI K H G):kvs.length<=100000/\∃us,Rd H a (.dK us)/\DP K H kvs us:=by
 rcases h with h | ⟨o,us,h⟩
 ·obtain⟨l,us,e,n,r⟩:=g a _ h;exact⟨l,us,.inl e,DP.of n r⟩
 ·obtain⟨l,e,n,r⟩:=g a _ h;exact⟨l,us,.inr ⟨o,e⟩,DP.of n r⟩
theorem aM.dk {us:List (ax×V)} (hp:H a=some (.dK us)) (o:HO):aM H (upd H a o):=
 ⟨λ_ _ h=>by rw[aG (fS h hp (by intro z;cases z))];exact h,λ_ _ _ h=>by rw[aG (fS h hp (by intro z;cases z))];exact h⟩
theorem aM.fz {us:List (ax×V)} {ob:Obj} (hp:H a=some (.frz ob (.dK us))) (o:HO):aM H (upd H a o):=
 ⟨λ_ _ h=>by rw[aG (fS h hp (by intro z;cases z))];exact h,λ_ _ _ h=>by rw[aG (fS h hp (by intro z;cases z))];exact h⟩
end
section
variable {X:Cx} {π:List (Addr×Obj)} {σ:St} {H:Hp} {s:Shared} {A:Around} {E:ydz}
noncomputable def jm:W2:=λx y G q=>match x,y with
 | .ref a,.str z=>∃kvs w,GD G a kvs/\bI kvs (.inr z)=some w/\q w G
 | x,y=>vh x y G q
theorem aE:AJ X jm:=by
 rintro value slice π s σ H x y v u Q I rx ry ⟨wx,wy,G,q,r1,r2,g,h,hQ⟩ hsl;unfold jm at h;split at h
 ·rename_i a z;obtain⟨kvs,w,hd,hv,h⟩:=h;cases r1;cases r2;cases rx;obtain⟨_,us,rd,dp⟩:=hd.rd g;obtain⟨hl,hm,vs,rel,dd⟩:=fq I.hok rd;rcases dp.val (.inr z) with⟨e,_⟩ | ⟨w',v',e,e',r⟩
  ·rw[e] at hv;cases hv
  ·rw[e] at hv;cases hv;obtain⟨u',hw,ru⟩:=gf.some_of (v:=v') (o:=valueAt vs (.inr z)) (by rw[←e'];exact rel.val (.inr z));exact tail_any dd.typeIs PySem.F.slot_dict_getitem.lookup (wpAny_getItem_of (kN (P:=X.prog) (w:=X.w) (k:= .inr z) ry) dd.mapOf hw ⟨v',H,I.tok _,ru,hQ _ H _ G (aM.refl H) r g h⟩) hsl
 ·exact DE value slice π s σ H x y v u Q I rx ry ⟨wx,wy,G,q,r1,r2,g,h,hQ⟩ hsl
structure HC (ws:List W) (x:W):Prop where
 fx:x.flat=true
 fs:W.flats ws=true
 hd:W.deps ws<=149
inductive Hh (G:Gp) (a:Addr):W->Bool->Prop where
 | dic {kvs:List (ax×W)} {z:Str} (h:GD G a kvs):Hh G a (.str z) (bI kvs (.inr z)).isSome
 | lst {ws:List W} {x:W} (h:G a=some (.lst ws)) (l:HC ws x):Hh G a x (ws.any λw=>w.eq x)
open Classical in
noncomputable def zL:WE:=λ_ G q=>∀p,G p=none->q (.ref p) (aF G p (.dic []))
theorem mE:QE X (.Dict [] [] pos) zL:=
 pe_dnewK.imp λσ H Q z0=>z0.el λτ G q hs hg ht hQ p hp=>hQ _ _ _ _ (aM.new hp _) (.ref p) (hg.lay (g:= .dic []) (aM.new hp _) ⟨zero_le _,[],aX,rfl,.nil⟩) (ht p (hg.fresh hp))
noncomputable def kW:ax->W
 | .inl i=> .int i
 | .inr x=> .str x
theorem vk (k:ax):bK K H (kW k) (kV k):=by
 cases k with
 | inl i=>exact .int i
 | inr x=>exact .str x
theorem DH {k:ax} {v:V} (r:bK K H (kW k) v):v=kV k:=by
 cases k<;> cases r<;> rfl
noncomputable def Ez {α:Type} (mk:α->ax) (d:cZ) (τ:cO) (w x y:W) (G:Gp):Prop:=∃a z kvs,x=.ref a/\y=kW (mk z)/\G a=some (.dic kvs)/\kvs.length+1<=100000/\d.nx τ (aF G a (.dic (bO kvs (mk z) w)))
theorem nU {α:Type} (mk:α->ax) {o i value:Expr} {to ti tv:WE} {pos pos':Pos} (hv:QE X value tv) (ho:QE X o to) (hi:QE X i ti) (hs:swapsWith value (some (.Subscript o i pos')) pos.line X.env=pure false:=by rfl):
 QS X (.Assign [.Subscript o i pos'] value pos) (λd τ G=>tv τ G λw G1=>to τ G1 λx G2=>ti τ G2 λy G3=>Ez mk d τ w x y G3):=by
 intro π s σ H D I h;obtain⟨τ,G,d,hst,hg,ht,l⟩:=h;refine wpAny_Assign_Subscript (bR (hv π s σ H (λv H1=>∃w G1,aM H H1/\bK X.K H1 w v/\aI X.K H1 G1/\to τ G1 λx G2=>ti τ G2 λy G3=>Ez mk d τ w x y G3) I ⟨τ,G,_,hst,hg,ht,λv H1 w G1 t1 r1 g1 q1=>⟨w,G1,t1,r1,g1,q1⟩⟩) λr s1 z9=>?_) hs;obtain⟨v,H1,I1,rv,w,G1,t1,r1,g1,q1⟩:=z9;refine bR (ho π s1 σ H1 (λv2 H2=>∃w2 G2,aM H1 H2/\bK X.K H2 w2 v2/\aI X.K H2 G2/\ti τ G2 λy G3=>Ez mk d τ w w2 y G3) I1 ⟨τ,G1,_,hst.mono t1,g1,q1,λv2 H2 w2 G2 t2 r2 g2 q2=>⟨w2,G2,t2,r2,g2,q2⟩⟩) λu s2 z9=>?_;obtain⟨x,H2,I2,rx,w2,G2,t2,r2,g2,q2⟩:=z9;refine bR (hi π s2 σ H2 (λv3 H3=>∃w3 G3,aM H2 H3/\bK X.K H3 w3 v3/\aI X.K H3 G3/\Ez mk d τ w w2 w3 G3) I2 ⟨τ,G2,_,(hst.mono t1).mono t2,g2,q2,λv3 H3 w3 G3 t3 r3 g3 q3=>⟨w3,G3,t3,r3,g3,q3⟩⟩) λiv s3 z9=>?_;obtain⟨y,H3,I3,ry,w3,G3,t3,r3,g3,a,z,kvs,e1,e2,e3,hl,q3⟩:=z9;subst e1 e2;cases r2;obtain rfl:=DH r3;cases rx;obtain⟨_,us,e4,n4,r4⟩:=g3 a _ e3;have dp:=DP.of n4 r4;obtain⟨zl,hd,vs,rel,dd⟩:=qq I3.hok e4;have hz:vs.length<=sizeLine:=by rw[←rel.length];exact zl
 have hlen:kvs.length+1<=sizeLine:=bN hl;have hl2:(fg us (mk z) v).length<=sizeLine:=by have:=i9 us (mk z) v;have:=dp.len;lia
 refine wpAny_setItem_pairs (hsz:=hz) (kN (P:=X.prog) (w:=X.w) (k:=mk z) ry) dd λh' dd' hs=>?_;have he:∃q,h'.get? a=some q:=let ⟨q,_,_,hq,_⟩:=dd';⟨q,hq⟩;have I4:=lT (t':=s3.toks+1) I3 (by rw[e4];exact True.intro) hs he (tS hl2 hd (rel.put (mk z) rv) dd');have tt:=(t1.trans t2).trans t3;have t4:=aM.dk e4 (.dK (fg us (mk z) v));have dp2:=(dp.put (mk z) (r1.mono (t2.trans t3))).mono t4;exact⟨σ,_,I4,l.nx σ _ τ _ (tt.trans t4) (hst.mono (tt.trans t4)) (g3.lay (g:= .dic _) t4 ⟨ybz (cN _ _ _) hl,_,aX,dp2.keys,dp2.vals⟩) q3⟩
noncomputable def zM (tv to ti:WE):WS:=λd τ G=>tv τ G λw G1=>to τ G1 λx G2=>ti τ G2 λy G3=>∃a z kvs,x=.ref a/\y=.str z/\G3 a=some (.dic kvs)/\kvs.length+1<=100000/\d.nx τ (aF G3 a (.dic (bO kvs (.inr z) w)))
theorem cy {o i value:Expr} {to ti tv:WE} {pos pos':Pos} (hv:QE X value tv) (ho:QE X o to) (hi:QE X i ti) (hs:swapsWith value (some (.Subscript o i pos')) pos.line X.env=pure false:=by rfl):QS X (.Assign [.Subscript o i pos'] value pos) (zM tv to ti):=nU Sum.inr hv ho hi hs
noncomputable def cZ.th (a:Addr) (d:cZ):cZ where
 nx:=λτ G=>∃o us kvs,G a=some (.fdc o us kvs)/\d.nx τ (aF G a (.dic kvs))
 rt:=λw G=>∃o us kvs,G a=some (.fdc o us kvs)/\d.rt w (aF G a (.dic kvs))
 bk:=λτ G=>∃o us kvs,G a=some (.fdc o us kvs)/\d.bk τ (aF G a (.dic kvs))
 ct:=λτ G=>∃o us kvs,G a=some (.fdc o us kvs)/\d.ct τ (aF G a (.dic kvs))
noncomputable def fQ.th (a:Addr) (d:fQ):fQ where
 nx:=λτ G=>∃o us,G a=some (.frz o (.dK us))/\d.nx τ (upd G a (.dK us))
 rt:=λw G=>∃o us,G a=some (.frz o (.dK us))/\d.rt w (upd G a (.dK us))
 bk:=λτ G=>∃o us,G a=some (.frz o (.dK us))/\d.bk τ (upd G a (.dK us))
 ct:=λτ G=>∃o us,G a=some (.frz o (.dK us))/\d.ct τ (upd G a (.dK us))
theorem yy {t:TS} (h:PS X st t):PS X st (λD σ H=>∃a us,H a=some (.dK us)/\t (fQ.th a D) σ H):=by
 rintro π s σ H D I ⟨a,us,e,q⟩;have h0:=I.nofrz e;refine bR (h π s σ H _ I q) λf s1 z=>?_;cases f with
 | next=>obtain⟨σ1,H1,I1,o,us,e,q⟩:=z;exact⟨σ1,_,I1.thaw e h0,q⟩
 | cont=>obtain⟨σ1,H1,I1,o,us,e,q⟩:=z;exact⟨σ1,_,I1.thaw e h0,q⟩
 | brk=>obtain⟨σ1,H1,I1,o,us,e,q⟩:=z;exact⟨σ1,_,I1.thaw e h0,q⟩
 | ret u=>obtain⟨v,σ1,H1,I1,rv,o,us,e,q⟩:=z;exact⟨v,σ1,_,I1.thaw e h0,rv,q⟩
theorem aI.thaw {G:Gp} {o:Obj} {us:List (ax×V)} {kvs:List (ax×W)} (g:aI K H G) (e:G a=some (.fdc o us kvs)):
 H a=some (.frz o (.dK us))/\aM H (L2.upd H a (.dK us))/\aI K (L2.upd H a (.dK us)) (aF G a (.dic kvs)):=by
 obtain⟨l,e1,n,r⟩:=g a _ e;have t:=aM.fz e1 (.dK us);exact⟨e1,t,g.lay (g:= .dic _) t ⟨l,us,aX,n,r.mono t⟩⟩
noncomputable def zN (t:WS):WS:=λd τ G=>∃a kvs,G a=some (.dic kvs)/\t (d.th a) τ G
theorem qX {t:WS} (h:QS X st t):QS X st (zN t):=
 (yy h).imp λD σ H z0=>z0.el λτ G d hs hg ⟨a,kvs,ea,ht⟩ l=>by
   obtain⟨_,us,e1,_⟩:=hg a _ ea;refine⟨a,us,e1,τ,G,d.th a,hs,hg,ht,⟨?_,?_,?_,?_⟩⟩
   ·rintro σ1 H1 τ1 G1 t1 s1 g1 ⟨o,us,kvs,e,q⟩;obtain⟨e2,t2,g2⟩:=g1.thaw e;exact⟨o,us,e2,l.nx _ _ _ _ (t1.trans t2) (s1.mono t2) g2 q⟩
   ·rintro v H1 w G1 t1 r1 g1 ⟨o,us,kvs,e,q⟩;obtain⟨e2,t2,g2⟩:=g1.thaw e;exact⟨o,us,e2,l.rt _ _ _ _ (t1.trans t2) (r1.mono t2) g2 q⟩
   ·rintro σ1 H1 τ1 G1 t1 s1 g1 ⟨o,us,kvs,e,q⟩;obtain⟨e2,t2,g2⟩:=g1.thaw e;exact⟨o,us,e2,l.bk _ _ _ _ (t1.trans t2) (s1.mono t2) g2 q⟩
   ·rintro σ1 H1 τ1 G1 t1 s1 g1 ⟨o,us,kvs,e,q⟩;obtain⟨e2,t2,g2⟩:=g1.thaw e;exact⟨o,us,e2,l.ct _ _ _ _ (t1.trans t2) (s1.mono t2) g2 q⟩
theorem aI.freeze {G:Gp} {us:List (ax×V)} {kvs:List (ax×W)} (g:aI K H G) (e:G a=some (.dic kvs)) (e1:H a=some (.dK us)) (o:Obj):
 aM H (L2.upd H a (.frz o (.dK us)))/\aI K (L2.upd H a (.frz o (.dK us))) (aF G a (.fdc o us kvs)):=by
 obtain⟨l,us',e2,n,r⟩:=g a _ e;rw[e1] at e2;cases e2;have t:=aM.dk e1 (.frz o (.dK us));exact⟨t,g.lay (g:= .fdc _ _ _) t ⟨l,aX,n,r.mono t⟩⟩
variable {tg:Expr}
end
noncomputable def Fz (d:Addr) (o:Obj) (kvs:List (ax×V)):It:=
 ⟨λi H=>H d=some (.frz o (.dK kvs))/\i<kvs.length,
  λi H y H'=>∃p kv,H p=none/\kvs[i]?=some kv/\y=.ref p/\H'=upd H p (.tup [kV kv.1,kv.2]),
  λi H=>H d=some (.frz o (.dK kvs))/\kvs.length<=i⟩
theorem pX {elts:List Expr} {o:Obj} {kvs:List (ax×V)} {es:Array DictEntry} {ep:Nat} (it d:Addr) (hne:d≠it) (hd:o.data=.dict es ep):
 kt P w K (.Tuple elts k pos) (Fz d o kvs) [it] it (λi h=>i<=kvs.length/\∃ok ov,IsItemIter h it d i kvs.length ep ok ov) where
 mem:=by simp
 obj:=λi h st b hb=>by
  have e:b=it:=by simpa using hb
  subst e;obtain⟨_,ok,ov,e1⟩:=st;exact⟨_,e1,λv z=>by cases z⟩
 keep:=λi h h' st k=>by
  obtain⟨hi,ok,ov,e1⟩:=st;exact⟨hi,ok,ov,k it (by simp) _ e1⟩
 item:=by
  intro X hP hw hK hc i π s σ H E I hf st hg;subst hP hw hK;obtain⟨f0,f1,f2,f3,f4,f5⟩:=hf it (by simp);obtain⟨hfz,hi⟩:=hg;obtain⟨vs,kv,da,_⟩:=I.dictAt hfz hd;have hl:=kv.length;obtain⟨_,ok,ov,hit⟩:=st;have hi2:i<vs.length:=by lia
  have e0:=ybw hi;have e1:=ybw hi2;obtain⟨pk,pv⟩:=lx kv e0 e1;rw[hl] at hit;refine wpAny_pyNext_items_item (knd:=aW X.prog X.w) (k:=vs[i].1) (v:=vs[i].2) hit da e1 λkey h1 hkey ho ht hsz kk=>⟨_,rfl,?_⟩;refine PySem.wpAny_letOwnedTupleGo_items ho λh2 he2 sb2=>?_;have lt:∀{c:Addr} {o:Obj},s.heap.get? c=some o->c≠s.heap.objs.size:=λe=>ne_of_lt (ybx e);have hnew:H s.heap.objs.size=none:=I.hok.fresh (yby _);have ene:it≠s.heap.objs.size:=lt hit;have keep:∀c o,c≠it->s.heap.get? c=some o->h2.get? c=some o:=λc o c1 q=>sb2.extBut c o c1 (kk c o c1 q);have tn:h2.get? s.heap.objs.size=some { cls:= .type "tuple",data:= .seq #[key,vs[i].2] }:=sb2.extBut _ _ (Ne.symm ene) ht;have rk:bc (kV kvs[i].1) key:=by rw[pk];exact qW hkey
  refine⟨.ref s.heap.objs.size,upd H s.heap.objs.size (.tup [kV kvs[i].1,kvs[i].2]),I.pair (ch:=[it]) hf (λc o hc e=>keep c o (by simpa using hc) e) tn rk pv,rfl,⟨_,_,hnew,e0,rfl,rfl⟩,⟨by assumption,key,vs[i].2,by rw[hl];exact he2⟩,λc hc=>?_⟩
  ·have hc':c=it:=by simpa using hc
   subst hc';rw[aG ene];exact f0
 done:=by
  intro X hP hw hK hc i π s σ H E I hf st hg;subst hP hw hK;obtain⟨f0,f1,f2,f3,f4,f5⟩:=hf it (by simp);obtain⟨hfz,hi⟩:=hg;obtain⟨vs,kv,da,_⟩:=I.dictAt hfz hd;have hl:=kv.length;obtain⟨hi2,ok,ov,hit⟩:=st;rw[hl] at hit;exact wpAny_pyNext_items_end (knd:=aW X.prog X.w) (I.ok.hd hc) hit da (List.getElem?_eq_none (by lia)) λh' kk=>⟨rfl,I.turned (t':=s.toks) (λb o hb e=>kk b o (by simpa using hb) e) f0 f1 f3 f4 f5⟩
 self:=λA i s Q E st h=>let ⟨_,_,_,hit⟩:=st;PySem.W.kcp_self hit h
section
variable {X:Cx} {elts:List Expr} {k:Nat} {tp:Pos}
theorem vm {p apos cpos:Pos} (hN:X.N[i]?=some x) (hv:B8 X.env.scope x) (hd:(x==("__debug__":Str))=false:=by decide) (hcd:(x==("__classdict__":Str))=false:=by decide)
 (hbase:attributeBase (.Name x p) "items" X.env (eval (.Name x p) X.env)=eval (.Name x p) X.env:=by rfl) (hline:(apos.endLine==cpos.line)=true:=by rfl):
 PI X (.Tuple elts k tp) (.Call (.Attribute (.Name x p) "items" apos) [] [] cpos) (λσ H R=>∃a kvs,σ[i]?=some (some (.ref a))/\H a=some (.dK kvs)/\∀o,R (Fz a o kvs) (upd H a (.frz o (.dK kvs)))):=by
 rintro π s σ H R I ⟨a,kvs,hi,e,h⟩;refine wpAny_Call_method0_late hbase hline (bR (oJ (pos:=p) hN hv hd hcd π s σ H (λv H'=>v=.ref a/\H'=H) I ⟨_,hi,rfl,rfl⟩) λu s1 z9=>?_);obtain⟨v,H1,I1,r,hv1,hH⟩:=z9;subst hv1;subst hH;obtain rfl:u=Value.ref a:=r;obtain⟨_,hm,vs,kv,o,es,ep,h1,h2,h3,h4⟩:=qq I1.hok e;have ty:Eu X.K "dict" (.ref a) H1:= .inr (.inr (.inl ⟨rfl,.inl ⟨kvs,e⟩⟩));obtain⟨t1,t2⟩:=o0 I1 (show bc (V.ref a) (Value.ref a) from rfl) ty;refine⟨"dict",_,PySem.F.plainAttrs_dict,PySem.F.slot_dict_items,PySem.F.type_dict_items,t1,t2,Calls.callWith_builtin rfl (PySem.evalArgs_none ?_)⟩;refine call_meetsIn PySem.F.slot_dict_items t1 PySem.F.entry_dict_items (PySem.F.args_dict_items_1 _) (meets_dict_items (aW X.prog X.w) a hm) ⟨⟨vs,o,es,ep,h1,h2,h3,h4⟩,?_⟩;have I2:aB X π σ H1 { s1 with heap:=s1.heap.push { cls:= .type "dict_items",data:= .fields #[.ref a] } }:=I1.kept (t':=s1.toks) λb o e=>yaw _ e;have h1':(s1.heap.push { cls:= .type "dict_items",data:= .fields #[.ref a] }).get? a=some o:=yaw _ h1;have J:=I2.freeze e h1';refine wpAny_pyIter_items (knd:=aW X.prog X.w) (d:=a) ⟨_,yav _ rfl,rfl,rfl⟩ ⟨o,es,h1',h2,h3,h4⟩ ?_;have hne:a≠(s1.heap.push { cls:= .type "dict_items",data:= .fields #[.ref a] }).objs.size:=ne_of_lt (ybx h1');refine⟨_,[(s1.heap.push { cls:= .type "dict_items",data:= .fields #[.ref a] }).objs.size],_,_,_,rfl,J.kept (t':=s1.toks) λb o e=>yaw _ e,pX (o:=o) (kvs:=kvs) (es:=es) (ep:=ep) _ a hne h3,⟨zero_le _,.none,.none,by rw[kv.length];exact yav _ rfl⟩,λb hb=>?_,h o⟩;have e:b=(s1.heap.push { cls:= .type "dict_items",data:= .fields #[.ref a] }).objs.size:=by simpa using hb
 subst e;exact J.fpOk (yby _) (J.hok.fresh (yby _))
theorem sB {H:Hp} {o:Obj} {us:List (ax×V)} {kvs:List (ax×W)}:px K (Fz a o us) (kvs.map λp=> .tup [kW p.1,p.2]) (λG=>G a=some (.fdc o us kvs)) H where
 stop:=λi H1 G t g e hl=>by
  obtain⟨_,e1,n,r⟩:=g a _ e;have:=(DP.of n r).len;rw[length_map] at hl;exact⟨e1,by lia⟩
 go:=λi w H1 G t g eG e=>by
  obtain⟨_,e1,n,r⟩:=g a _ eG;have hl:=(DP.of n r).len;rw[List.getElem?_map] at e;cases hk:kvs[i]? with
  | none=>rw[hk] at e;cases e
  | some p=>
    rw[hk] at e;cases e;have hi:=(List.getElem?_eq_some_iff.mp hk).1;obtain⟨v,h5,rv⟩:=r.get (i:=i) (w:=p.2) (by rw[List.getElem?_map,hk];rfl);refine⟨⟨e1,by lia⟩,λx H' z9=>?_⟩;obtain⟨q,kv,hq,h1,h2,h3⟩:=z9;subst h2 h3;have h4:(us.map (·.1))[i]?=some kv.1:=by rw[List.getElem?_map,h1];rfl
    rw[n,List.getElem?_map,hk] at h4;have h4':p.1=kv.1:=Option.some.inj h4;rw[List.getElem?_map,h1] at h5;cases h5;have tn:=aM.new hq (HO.tup [kV kv.1,kv.2]);refine⟨tn,.tup aX (.cons ?_ (.cons (rv.mono tn) .nil)),g.keep hq _⟩;rw[h4'];exact vk _
noncomputable def pY (i:Nat):WI:=λτ G r=>match τ[i]? with
 | some (some (.ref a))=>∃kvs,G a=some (.dic kvs)/\∀o us,r (kvs.map λp=> .tup [kW p.1,p.2]) (λG=>G a=some (.fdc o us kvs)) (aF G a (.fdc o us kvs))
 | _=>False
theorem nV (i:Nat) {p apos cpos:Pos} (hN:X.N[i]?=some x) (hv:B8 X.env.scope x) (hd:(x==("__debug__":Str))=false:=by decide) (hcd:(x==("__classdict__":Str))=false:=by decide)
 (hbase:attributeBase (.Name x p) "items" X.env (eval (.Name x p) X.env)=eval (.Name x p) X.env:=by rfl) (hline:(apos.endLine==cpos.line)=true:=by rfl):
 QI X (.Tuple elts k tp) (.Call (.Attribute (.Name x p) "items" apos) [] [] cpos) (pY i):=
 (vm hN hv hd hcd hbase hline).imp λσ H R ⟨τ,G,r,hs,hg,ht,hR⟩=>by
   unfold pY at ht;split at ht
   ·rename_i a e;obtain⟨kvs,ea,ht⟩:=ht;obtain⟨v,e1,rv⟩:=hs.2 i _ e;cases rv;obtain⟨_,us,e2,_⟩:=hg a _ ea;refine⟨a,us,e1,e2,λo=>?_⟩;obtain⟨t,g⟩:=hg.freeze ea e2 o;exact hR _ _ _ _ _ t g sB (ht o us)
   ·exact ht.elim
end
section
variable {X:Cx} {π:List (Addr×Obj)} {σ:St} {H:Hp} {s:Shared}
theorem pZ:bootBuiltins "dict"=some (.type "dict"):=by decide+kernel
inductive yz (G:Gp) (a:Addr):Nat->Prop where
 | lst {ws:List W} (h:G a=some (.lst ws)):yz G a ws.length
 | dic {kvs:List (ax×W)} (h:GD G a kvs):yz G a kvs.length
noncomputable def lz:List W->Gp->WK->Prop:=λws G q=>match ws with
 | [.ref a]=>∃n:Nat,yz G a n/\q (.int n) G
 | ws=>vi ws G q
theorem fB:fe X (.builtin "len") lz:=by
 rintro π s σ H xs us Q I r ⟨ws,G,q,rw',g,h,hQ⟩;unfold lz at h;split at h
 ·obtain⟨n,hn,h⟩:=h;cases hn with
  | lst e=>exact zx π s σ H xs us Q I r ⟨_,G,q,rw',g,⟨_,e,h⟩,hQ⟩
  | dic hd=>
    obtain⟨v,rfl,r1⟩:=rw'.one;cases r1;obtain⟨u,rfl,ru⟩:=fT r;cases ru;obtain⟨_,us,rd,dp⟩:=hd.rd g;refine CH I rd λt s' I'=>⟨.int us.length,H,I',⟨t,rfl⟩,hQ _ H _ G (aM.refl H) ?_ g h⟩;rw[dp.len];exact .int _
 ·exact Bt π s σ H xs us Q I r ⟨ws,G,q,rw',g,h,hQ⟩
inductive Bv (G:Gp) (a:Addr):List W->Prop where
 | lst {ws:List W} (h:G a=some (.lst ws)):Bv G a ws
 | dic {kvs:List (ax×W)} (h:GD G a kvs):Bv G a (kvs.map λp=>kW p.1)
noncomputable def p5:List W->Gp->WK->Prop:=λws G q=>match ws with
 | [.ref a]=>∃ws,Bv G a ws/\∀p,G p=none->q (.ref p) (aF G p (.lst ws))
 | ws=>qw ws G q
theorem qY {P:Program} {w:World}:∀{us:List (ax×V)} {vs:List (ax×Value)} {its:ydw},KV us vs->its.length=vs.length->(∀(j:Nat) (v:Value),its[j]?=some v->∃(k:ax) (x:Value),vs[j]?=some (k,x)/\(aW P w).is k v=true)->aU (us.map λp=>kV p.1) its
 | [],_,[],.nil,_,_=> .nil
 | [],_,_::_,.nil,h,_=>by simp at h
 | _::_,_,[],.cons _ _,h,_=>by simp at h
 | p::us,_,u::its,.cons r t,h,hv=>by
   obtain⟨k,x,e1,e2⟩:=hv 0 u rfl;cases e1;refine .cons ?_ (qY (P:=P) (w:=w) t (by simpa using h) λj v e=>by simpa using hv (j+1) v (by simpa using e));show bc (kV p.1) u;rw[show p.1=k from r.1];exact qW e2
theorem qZ (hc:X.calm=true):fe X (.type "list") p5:=by
 rintro π s σ H xs us Q I r ⟨ws,G,q,rw',g,h,hQ⟩;unfold p5 at h;split at h
 ·rename_i a;obtain⟨ws,hw,h⟩:=h;cases hw with
  | lst e=>exact tY π s σ H xs us Q I r ⟨_,G,q,rw',g,⟨_,e,h⟩,hQ⟩
  | dic hd=>
    obtain⟨v,rfl,r1⟩:=rw'.one;cases r1;obtain⟨u,rfl,ru⟩:=fT r;cases ru;obtain⟨hl,us,rd,dp⟩:=hd.rd g;obtain⟨zl,hm,vs,rel,dd⟩:=fq I.hok rd;obtain⟨ep,hat⟩:=dd.dictAt;refine PySem.W.kdl_call (PySem.W.kdl_dict (knd:=aW X.prog X.w) (kvs:=vs) (ep:=ep) hm) (I.ok.hd hc) hat (by rw[←rel.length];exact zl) λh' tk acc' c' kp e hacc=>?_;have rv:aU (us.map λp=>kV p.1) acc'.toList:=qY (P:=X.prog) (w:=X.w) rel (by rw[Array.length_toList];exact hacc.1) λj v e=>hacc.2 j v (by rw[←Array.getElem?_toList];exact e);have hsz:(us.map λp=>kV p.1).length<=sizeLine:=by rw[length_map];exact zl
    have hp:=I.hok.fresh (yby s.heap.objs.size);have e':h'.get? s.heap.objs.size=some { cls:= .type "list",data:= .seq acc'.toList.toArray c' }:=by simpa using e
    refine⟨.ref s.heap.objs.size,_,I.laid (t':=tk) (λb o q=>kp b o q) (yby _) (show bD X.prog X.w _ h' _ (.lst (us.map λp=>kV p.1)) from ⟨hsz,acc'.toList,c',rv,e'⟩),rfl,?_⟩;have rr:∀{kvs:List (ax×W)} {us:List (ax×V)},DP X.K H kvs us->aQ X.K H (kvs.map λp=>kW p.1) (us.map λp=>kV p.1):=by
     intro kvs us d
     induction d with
     | nil=>exact .nil
     | cons r t ih=>exact .cons (vk _) ih
    exact hQ _ _ _ _ (aM.new hp _) (.ref _) (g.put (aM.new hp _) (rr dp) (by rw[length_map];exact hl)) (h _ (g.fresh hp))
 ·exact tY π s σ H xs us Q I r ⟨ws,G,q,rw',g,h,hQ⟩
noncomputable def FA:V->List V->Hp->VK->Prop:=λx vs H Q=>∃a kvs k d,x=.ref a/\vs=[kV k,d]/\H a=some (.dK kvs)/\Q ((lS kvs k).getD d) H
theorem Bw:CD X "dict.get" FA:=by
 rintro π s σ H x vs v us Q I rx rv ⟨a,kvs,k,d,e1,e2,e,q⟩;subst e1 e2;cases rx;obtain⟨u1,u2,rfl,r1,r2⟩:=qh rv;obtain⟨z,hd,vs,rel,dd⟩:=qq I.hok e;exact call_meetsIn PySem.F.slot_dict_get dd.typeIs PySem.F.entry_dict_get (PySem.F.args_dict_get_3 _ _ _) (meets_dict_get_default (aW X.prog X.w) a (kN r1) hd u2) ⟨_,dd.mapOf,_,H,I.tok _,(rel.val k).getD r2,q⟩
theorem nW {α:Type} (mk:α->ax) {o k e:Expr} {to tk te:WE} {apos cpos:Pos} (ho:QE X o to) (hk:QE X k tk) (he:QE X e te)
 (hbase:attributeBase o "get" X.env (eval o X.env)=eval o X.env:=by rfl)
 (hfew:((backTo cpos (starEach [k,e] X.env)).all (λx=>!x.1)&&(backToKw cpos (keywordEach [] X.env)).all (λx=>x.1.isSome)
   &&decide (([k,e]:List Expr).length+([]:List Keyword).length+(if ([]:List Keyword).isEmpty then 0 else 1)<30))=true:=by rfl)
 (hline:(apos.endLine==cpos.line)=true:=by rfl) (hs:starEach [k,e] X.env=(false,eval k X.env)::starEach [e] X.env:=by rfl) (hs2:starEach [e] X.env=(false,eval e X.env)::starEach [] X.env:=by rfl) (hpl:(backTo cpos (starEach [e] X.env)).any (·.1)=false:=by rfl):
 QE X (.Call (.Attribute o "get" apos) [k,e] [] cpos) (λτ G q=>to τ G λx G1=>match x with
 | .ref a=>(∃kvs,G1 a=some (.dic kvs))/\tk τ G1 λy G2=>te τ G2 λd G3=>∃z kvs,y=kW (mk z)/\G3 a=some (.dic kvs)/\q ((bI kvs (mk z)).getD d) G3
 | _=>False):=
 (zh PySem.F.plainAttrs_dict PySem.F.slot_dict_get PySem.F.type_dict_get Bw ho (cU hk (cU he pa_nil hs2) hs) hbase hfew hline hs hpl).imp λσ H Q z0=>z0.el λτ G q hs hg ht hQ=>
   ⟨τ,G,_,hs,hg,ht,λv H1 w G1 t1 r1 g1 q1=>by
     split at q1
     ·rename_i a;cases r1;obtain⟨⟨kvs,e1⟩,q1⟩:=q1;obtain⟨_,us,h1,_⟩:=g1 a _ e1;refine⟨.inr (.inr (.inl ⟨rfl,.inl ⟨us,h1⟩⟩)),τ,G1,_,hs.mono t1,g1,q1,λv2 H2 w2 G2 t2 r2 g2 q2=>?_⟩;refine⟨τ,G2,_,(hs.mono t1).mono t2,g2,q2,λv3 H3 w3 G3 t3 r3 g3 q3=>?_⟩;obtain⟨z,kvs,rfl,e2,q3⟩:=q3;obtain rfl:=DH r2;obtain⟨_,us,h2,n,rr⟩:=g3 a _ e2;refine⟨a,us,mk z,v3,rfl,rfl,h2,hQ _ _ _ _ ((t1.trans t2).trans t3) ?_ g3 q3⟩;rcases(DP.of n rr).val (mk z) with⟨e,e'⟩ | ⟨w',v',e,e',r⟩
      ·rw[e,e'];exact r3
      ·rw[e,e'];exact r
     ·exact q1.elim⟩
noncomputable def zO (to tk td:WE):WE:=λτ G q=>to τ G λx G1=>match x with
 | .ref a=>(∃kvs,G1 a=some (.dic kvs))/\tk τ G1 λy G2=>td τ G2 λd G3=>∃z kvs,y=.str z/\G3 a=some (.dic kvs)/\q ((bI kvs (.inr z)).getD d) G3
 | _=>False
theorem eY {o k e:Expr} {to tk te:WE} {apos cpos:Pos} (ho:QE X o to) (hk:QE X k tk) (he:QE X e te)
 (hbase:attributeBase o "get" X.env (eval o X.env)=eval o X.env:=by rfl)
 (hfew:((backTo cpos (starEach [k,e] X.env)).all (λx=>!x.1)&&(backToKw cpos (keywordEach [] X.env)).all (λx=>x.1.isSome)
   &&decide (([k,e]:List Expr).length+([]:List Keyword).length+(if ([]:List Keyword).isEmpty then 0 else 1)<30))=true:=by rfl)
 (hline:(apos.endLine==cpos.line)=true:=by rfl) (hs:starEach [k,e] X.env=(false,eval k X.env)::starEach [e] X.env:=by rfl) (hs2:starEach [e] X.env=(false,eval e X.env)::starEach [] X.env:=by rfl) (hpl:(backTo cpos (starEach [e] X.env)).any (·.1)=false:=by rfl):
 QE X (.Call (.Attribute o "get" apos) [k,e] [] cpos) (zO to tk te):=
 nW Sum.inr ho hk he hbase hfew hline hs hs2 hpl
inductive jU (G:Gp):W->W->Prop where
 | int (i:Int):jU G (.int i) (.int i)
 | lst {a b:Addr} {ws us:List W} (ea:G a=some (.lst ws)) (eb:G b=some (.lst us)) (f1:W.flats ws=true) (f2:W.flats us=true) (hd:W.deps ws<=8) (he:W.eqs ws us=true):jU G (.ref a) (.ref b)
inductive DI (G:Gp) (a b:Addr):Bool->Prop where
 | lst {ws us:List W} (ea:G a=some (.lst ws)) (eb:G b=some (.lst us)) (f1:W.flats ws=true) (f2:W.flats us=true) (hd:W.deps ws<=149):DI G a b (W.eqs ws us)
 | dic {kvs us:List (ax×W)} (ea:GD G a kvs) (eb:GD G b us) (hl:kvs.length=us.length) (hv:∀p,p∈kvs->∃w',bI us p.1=some w'/\jU G p.2 w'):DI G a b true
noncomputable def DJ:W2:=λx y G q=>match x,y with
 | .ref a,.ref b=>∃r,DI G a b r/\q (.bl r) G
 | x,y=>xm x y G q
noncomputable def DK:W2:=λx y G q=>match x,y with
 | .ref a,.ref b=>∃r,DI G a b r/\q (.bl (!r)) G
 | x,y=>xn x y G q
theorem yA (hu:A.units+20<cLine) {G:Gp} {w1 w2:W} {v1 v2:V} {u1 u2:Value} (I:aB X π σ H s) (g:aI X.K H G) (h:jU G w1 w2) (r1:bK X.K H w1 v1) (r2:bK X.K H w2 v2) (q1:bc v1 u1) (q2:bc v2 u2):SeqAt.EqAt A s u1 u2 true:=by
 cases h with
 | int i=>
   cases r1;cases r2;have:=(iH I 10 A (w1:= .int i) (w2:= .int i) (by show 0<10;decide) rfl rfl (by lia) (.int i) (.int i) q1 q2).1;rw[pR] at this;simpa using this
 | @lst a b ws us ea eb f1 f2 hd he=>
   cases r1;cases r2;cases q1;cases q2
   by_cases hne:a=b
   ·subst hne;exact SeqAt.EqAt.same _
   obtain⟨_,xs,e1,ra⟩:=g _ _ ea;obtain⟨_,ys,e2,rb⟩:=g _ _ eb;obtain⟨its,rv,p,_⟩:=I.list (dm.of e1);obtain⟨its2,rv2,p2,_⟩:=I.list (dm.of e2);have l1:its.length=ws.length:=by rw[←rv.length,ra.length]
   have l2:its2.length=us.length:=by rw[←rv2.length,rb.length]
   have hl:ws.length=us.length:=by
    by_cases hl:ws.length=us.length
    ·exact hl
    ·rw[lX hl] at he;cases he
   have c1:=SeqAt.RcAt.lists p.isList p2.isList (by rw[size_toArray,size_toArray,l1,l2,hl]) (A:=A) (by lia) (Ff I (n:=10) (by lia) f1 f2 (by show A.units+1+10<cLine;lia) ra rb rv rv2);have er:=fJ ws us;rw[←hl,Nat.min_self,beq_self_eq_true,Bool.and_true] at er;rw[size_toArray,l1,er,he] at c1;exact SeqAt.EqAt.of_refs hne c1
theorem mG (hu:A.units+20<cLine) {G:Gp} (I:aB X π σ H s) (g:aI X.K H G) {kb:List (ax×Value)} {us:List (ax×W)} {ub:List (ax×V)} (db:DP X.K H us ub) (rb:KV ub kb):
 ∀{kvs:List (ax×W)} {ua:List (ax×V)} {ka:List (ax×Value)},DP X.K H kvs ua->KV ua ka->(∀p,p∈kvs->∃w',bI us p.1=some w'/\jU G p.2 w')->PySem.W.KeqHits A s kb ka true:=by
 intro kvs ua ka d
 induction d generalizing ka with
 | nil=>
   intro r _;cases r;exact .nil
 | @cons k w v kvs ua rw' t ih=>
   intro r hv;cases r with
   | @cons _ b _ bs r1 rt=>
     obtain⟨b1,b2⟩:=b;obtain⟨e1,r2⟩:=r1;cases (show k=b1 from e1);obtain⟨w',hw,sv⟩:=hv _ yaz;rcases db.val k with⟨e,_⟩ | ⟨w2,v2,e,e',r3⟩
     ·rw[e] at hw;cases hw
     ·rw[e] at hw;cases hw;obtain⟨y,hy,ry⟩:=gf.some_of (v:=v2) (o:=valueAt kb k) (by rw[←e'];exact rb.val k);exact .hit (e:=true) (b:=true) hy (yA hu I g sv rw' r3 r2 ry) (ih rt λp hp=>hv p (yay _ hp))
theorem DL (hr:aw k X.A):iC X (compareOp .Eq) DJ:=by
 rintro π s σ H x y v u Q I rx ry ⟨wx,wy,G,q,r1,r2,g,h,hQ⟩;unfold DJ at h;split at h
 ·obtain⟨r,he,h⟩:=h;cases he with
  | lst ea eb f1 f2 hd=>exact Dj hr π s σ H x y v u Q I rx ry ⟨_,_,G,q,r1,r2,g,⟨_,_,ea,eb,f1,f2,hd,h⟩,hQ⟩
  | dic ea eb hl hv=>
    cases r1;cases r2;cases rx;cases ry;have hu:=hr.un;obtain⟨_,ua,ra,da⟩:=ea.rd g;obtain⟨_,ub,rb,db⟩:=eb.rd g;obtain⟨_,ma,ka,qa,dda⟩:=fq I.hok ra;obtain⟨_,mb,kb,qb,ddb⟩:=fq I.hok rb;have hlen:ka.length=kb.length:=by rw[←qa.length,←qb.length,da.len,db.len,hl]
    refine PySem.W.keq_eq ma mb dda ddb (by lia) (λ_=>mG (A:=X.A.in1) (by show X.A.units+1+20<cLine;lia) I g db qb da qa hv) ?_;rw[hlen,beq_self_eq_true,Bool.true_and];exact⟨.bl _,H,I,rfl,hQ _ H _ G (aM.refl H) (.bl _) g h⟩
 ·exact AN hr π s σ H x y v u Q I rx ry ⟨wx,wy,G,q,r1,r2,g,h,hQ⟩
theorem DM (hr:aw k X.A):iC X (compareOp .NotEq) DK:=by
 rintro π s σ H x y v u Q I rx ry ⟨wx,wy,G,q,r1,r2,g,h,hQ⟩;unfold DK at h;split at h
 ·obtain⟨r,he,h⟩:=h;cases he with
  | lst ea eb f1 f2 hd=>exact Dk hr π s σ H x y v u Q I rx ry ⟨_,_,G,q,r1,r2,g,⟨_,_,ea,eb,f1,f2,hd,h⟩,hQ⟩
  | dic ea eb hl hv=>
    cases r1;cases r2;cases rx;cases ry;have hu:=hr.un;obtain⟨_,ua,ra,da⟩:=ea.rd g;obtain⟨_,ub,rb,db⟩:=eb.rd g;obtain⟨_,ma,ka,qa,dda⟩:=fq I.hok ra;obtain⟨_,mb,kb,qb,ddb⟩:=fq I.hok rb;have hlen:ka.length=kb.length:=by rw[←qa.length,←qb.length,da.len,db.len,hl]
    refine PySem.W.keq_ne ma mb dda ddb (by lia) (λ_=>mG (A:=X.A.in1) (by show X.A.units+1+20<cLine;lia) I g db qb da qa hv) ?_;rw[hlen,beq_self_eq_true,Bool.true_and];exact⟨.bl _,H,I,rfl,hQ _ H _ G (aM.refl H) (.bl _) g h⟩
 ·exact AO hr π s σ H x y v u Q I rx ry ⟨wx,wy,G,q,r1,r2,g,h,hQ⟩
structure Iw (ws:List W) (x:W) (j:Nat):Prop where
 hit:∃w,ws[j]?=some w/\w.eq x=true
 no:∀m w,m<j->ws[m]?=some w->w.eq x=false
end
section
variable {prog:Program} {w:World} {A:Around} {R:Result->Shared->Prop} {I:Addr} {fp wr:List Addr} {Gn:Array GenState->Array GenState->Prop} {n:Nat} {P:Nat->Value->Prop} {St:Nat->Shared->Prop}
end
section
variable {prog:Program} {w:World} {A:Around} {E:ydz} {s:Shared}
set_option maxHeartbeats 3200000 in
end
section
variable {X:Cx}
end
section
variable {X:Cx} {π:List (Addr×Obj)} {σ:St} {H:Hp} {s:Shared}
theorem nX {xs:Array Value} {sl:Array (Option Value)} {h:Heap} {g:_} {d:_} {t:Nat} {os:_} {Q:Option Value->Shared->Prop}
 (hx:h.get? a=some { cls:= .type "list",dict:=none,data:= .seq xs k,slots:=sl }) (hA:A.handled=none)
 (hq:∀(h':Heap) (tk:Nat),(∀(b:Addr) (o:Obj),h.get? b=some o->h'.get? b=some o)->Q none ⟨h',g,d,tk,os⟩):
 wpAny (model prog w) A (getAttr? (.ref a) "keys") Q E ⟨h,g,d,t,os⟩:=by
 unfold getAttr? getAttrBy?;have hT:∀t,(Shared.mk h g d t os).TypeIs (.ref a) "list":=λt=>⟨_,hx,rfl⟩;have f1:=PySem.sub_AttributeError;have f3:=PySem.F.slot_list_getattribute.lookup;have f4:=PySem.F.slot_list_getattribute.bind (Value.ref a);have f5:=PySem.am_list_getattr_none;refine wax ?_;unfold mkText;refine wax (wpAny_fresh' (way ?_));refine wax (wpAny_attempt ?_);unfold getAttrBy;refine wpAny_holding ?_;refine wax ?_;unfold typeOf;refine wax (wpAny_loadPart' hx (way ?_));refine wax (wpAny_of_eq f3 ?_);refine wpAny_ite_false (by rfl) ?_;unfold getAttrByItsOwn;refine wax ?_;unfold hookBefore;refine wpAny_ite_false (by rfl) (way ?_);refine wax (wpAny_attempt ?_);refine wpAny_holding ?_;unfold callGetattribute;refine wpAny_ite_false (by rfl) ?_;refine wax (wpAny_of_eq f4 ?_);refine call_meets PySem.F.slot_list_getattribute (hT _) PySem.am_entry_list_getattribute (PySem.F.args_list_getattribute_2 _ _) (PySem.meets_getattribute_miss_list a xs k sl "keys" t (by rfl) (by decide)) ⟨hx,?_⟩;refine⟨hA,λh' tk e hx'=>?_⟩;have te:(Shared.mk h' g d tk os).TypeIs (.ref e) "AttributeError":=by
  obtain⟨t1,u1,e1⟩:=hx'.there;exact⟨_,e1,rfl⟩
 show wpAny _ _ (getattributeRaised _ _ _ _ _ _ _) _ _ _;unfold getattributeRaised;refine wax (wpAny_isInstance te f1 ?_);refine wpAny_ite_true (by rfl) ?_;unfold hookBehind hookOrError;refine wax (wpAny_ite_false (by rfl) (wpAny_of_eq f5 ?_));show wpAny _ _ (attributeErrorLeaves _ _ _ _ _) _ _ _;unfold attributeErrorLeaves
 repeat (any_goals (first | assumption | wp_step))
 exact hq h' tk hx'.keeps
set_option maxHeartbeats 4000000 in
theorem jh:entryFor table "dict.update.loop"=some Builtin.«dict.update.loop»:=by rfl
theorem nY {prog:Program} {w:World} {A:Around} (hA:A.handled=none) {d it l:Addr} (hdi:d≠it) (hdl:d≠l) (hil:it≠l) {items:Array Value} {R:Result->Shared->Prop}:
 ∀(ps:List (ax×Value)) (i:Nat) (s:Shared) (kvs:List (ax×Value)) (tok:Tok),i+ps.length=items.size->s.heap.IsListIter it l i->s.heap.IsList l items->s.heap.DictOf (aW prog w) d kvs->
 (∀(j:Nat) (p:ax×Value),ps[j]?=some p->∃t k,items[i+j]?=some (.ref t)/\t≠d/\t≠it/\s.heap.IsTuple t #[k,p.2]/\(aW prog w).is p.1 k=true)->
 kvs.length+ps.length<=sizeLine->
 (∀(h':Heap) (tk:Nat),(∀(b:Addr) (o:Obj),b≠d->b≠it->s.heap.get? b=some o->h'.get? b=some o)->h'.DictOf (aW prog w) d (ps.foldl (λkvs p=>stored kvs p.1 p.2) kvs)->R (.ok (.ret .none)) ⟨h',s.gens,s.drawn,tk,s.os⟩)->
 codeAny (model prog w) A (.builtin "dict.update.loop" ⟨[.ref d,.ref it,.int (i:Int) tok,.none],[]⟩) R s
 | [],i,s,kvs,tok,hn,hi,hl,hd,hp,hz,hR=>by
   refine codeAny_builtin jh ?_;unfold Builtin.«dict.update.loop»;dsimp only;refine wax (wpAny_pyNext_list_end (by exact hA) hi hl (by simp at hn ⊢;lia) λh' eb=>?_);dsimp only;refine wax ?_;unfold Builtin.Dict.addKeywords;refine wax (way (way (way ?_)));refine hR h' s.toks (λb o _ hb e=>eb b o hb e) ?_;obtain⟨o,es,ep,e,c⟩:=hd;exact⟨o,es,ep,eb d o hdi e,c⟩
 | p::ps,i,s,kvs,tok,hn,hi,hl,hd,hp,hz,hR=>by
   refine codeAny_builtin jh ?_;unfold Builtin.«dict.update.loop»;dsimp only;obtain⟨t,k,e1,td,ti,e2,e3⟩:=hp 0 p rfl;refine wax (wpAny_pyNext_list_item hi hl e1 λh' hi' sb=>?_);dsimp only;refine wax (wpAny_holding ?_);refine wax ?_;refine wpAny_tryCatch ?_;obtain⟨o,g1,g2,n,g3⟩:=e2;have g1':h'.get? t=some o:=(sb.2 t ti).trans g1;unfold Builtin.Dict.pairItems;refine wax (wpAny_typeOf (T:="tuple") ⟨o,g1',g2⟩ ?_);refine wpAny_ite_true (by rfl) ?_;refine wax (wpAny_seqItems g1' g3 (way ?_));show wpAny _ _ (holding [k,p.2] (dictSet d k p.2)) _ _ _;have hz':kvs.length+(ps.length+1)<=sizeLine:=hz;refine wpAny_holding (wpAny_dictSet_pairs e3 (hd.sameBut sb hdi) (λh2 hd2 sb2=>way ⟨PySem.Code.quiet_builtin _ (by decide+kernel),?_⟩) (by lia));have k2:∀b,b≠d->b≠it->h2.get? b=s.heap.get? b:=λb h1 h2=>(sb2.2 b h1).trans (sb.2 b h2);have hn':i+(ps.length+1)=items.size:=hn;refine nY (items:=items) hA hdi hdl hil ps (i+1) ⟨h2,s.gens,s.drawn,s.toks+1,s.os⟩ (stored kvs p.1 p.2) 0 (by lia) ?_ ?_ hd2 (λj q hq=>?_) ?_ λh3 tk kp hd3=>?_
   ·obtain⟨o1,e1,c1⟩:=hi';exact⟨o1,(sb2.2 it hdi.symm).trans e1,c1⟩
   ·obtain⟨o1,e1,c1⟩:=hl;exact⟨o1,(k2 l hdl.symm hil.symm).trans e1,c1⟩
   ·obtain⟨t',k',a1,a2,a3,⟨o1,a4,a5⟩,a6⟩:=hp (j+1) q hq;exact⟨t',k',by rw[show i+1+j=i+(j+1) by lia];exact a1,a2,a3,⟨o1,(k2 t' a2 a3).trans a4,a5⟩,a6⟩
   ·have:=PySem.stored_length_le kvs p.1 p.2;show(stored kvs p.1 p.2).length+ps.length<=sizeLine;lia
   ·exact hR h3 tk (λb o h1 h2 e=>kp b o h1 h2 ((k2 b h1 h2).trans e)) hd3
theorem p6 (hA:A.handled=none) (hb:sysModules<s.heap.objs.size) {l:Addr} {n:Nat} {sl:Array (Option Value)} {ps:List (ax×Value)}
 (hl:s.heap.get? l=some { cls:= .type "list",dict:=none,data:= .seq items n,slots:=sl }) (hn:ps.length=items.size) (hz:ps.length<=sizeLine)
 (hp:∀(j:Nat) (p:ax×Value),ps[j]?=some p->∃t k,items[j]?=some (.ref t)/\s.heap.IsTuple t #[k,p.2]/\(aW prog w).is p.1 k=true)
 (hQ:∀(h':Heap) (tk:Nat),(∀(b:Addr) (o:Obj),s.heap.get? b=some o->h'.get? b=some o)->h'.DictOf (aW prog w) s.heap.objs.size (ps.foldl (λkvs p=>stored kvs p.1 p.2) [])->Q (.ref s.heap.objs.size) ⟨h',s.gens,s.drawn,tk,s.os⟩):
 wpAny (model prog w) A (call (.type "dict") [.ref l]) Q E s:=by
 refine callType_codes PySem.F.kt_called_dict (PySem.F.kt_typeCall_dict_1 (.ref l)) PySem.F.entry_dict_init (kt_code_dict_new (.ref l) (Q₁:=λobj s₁=>obj=.ref s.heap.objs.size/\s₁={ s with heap:=s.heap.push { cls:= .type "dict",data:= .dict #[] } }) ⟨rfl,rfl⟩) λobj s₁ a=>?_;obtain⟨rfl,rfl⟩:=a;have hnew:=PySem.Heap.DictOf.new (knd:=aW prog w) s.heap;have hpu:∀b o,s.heap.get? b=some o->(s.heap.push { cls:= .type "dict",data:= .dict #[] }).get? b=some o:=λb o e=>yaw _ e;refine⟨PySem.Heap.DictOf.typeIs hnew,PySem.F.args_dict_init_2 _ _,?_⟩;unfold Builtin.«dict.__init__»;refine wax ?_;unfold Builtin.Dict.selfAndRest;refine wax (wpAny_notOrdered_dict (PySem.Heap.DictOf.typeIs hnew) (way ?_));show wpAny _ _ (Builtin.Dict.updateFrom "dict.__init__" s.heap.objs.size (.ref l) [] .none) _ _ _;unfold Builtin.Dict.updateFrom;refine wax (wpAny_typeOf (T:="list") ⟨_,hpu _ _ hl,rfl⟩ ?_);refine wpAny_ite_true (by rfl) ?_;refine wax (nX (hpu _ _ hl) (by exact hA) λh1 tk k1=>?_);refine wpAny_ite_true (by rfl) ?_;refine wax (wpAny_rule ?_);have hl1:=k1 _ _ (hpu _ _ hl);refine wax (wpAny_pyIter_list (items:=items) ⟨_,hl1,rfl,n,rfl⟩ ?_);obtain⟨od,es,ep,ed,hnew'⟩:=hnew;have ed1:=k1 _ _ ed;have d1:=ybx ed1;have l0:=ybx hl;have l1:=ybx hl1;have kk:∀b o,s.heap.get? b=some o->(h1.push { cls:= .type "list_iterator",data:= .fields #[.ref l,.int 0 0] }).get? b=some o:=λb o e=>yaw _ (k1 _ _ (hpu _ _ e));refine way ⟨PySem.Code.quiet_builtin _ (by decide+kernel),nY (A:=A.in1) (items:=items) (l:=l) hA (ne_of_lt d1) (Nat.ne_of_gt l0) (Nat.ne_of_gt l1) ps 0 _ [] 0 (by lia) ⟨_,yav _ rfl,rfl,rfl⟩ ⟨_,kk _ _ hl,rfl,n,rfl⟩ ⟨od,es,ep,yaw _ ed1,hnew'⟩ (λj p hj=>?_) (by simpa using hz) λh' tk' kp hd'=>⟨rfl,hQ h' tk' (λb o e=>kp b o (ne_of_lt (ybx e)) (ne_of_lt (ybx (k1 _ _ (hpu _ _ e)))) (kk b o e)) hd'⟩⟩;obtain⟨t,k,e1,⟨o,e2,e3⟩,e4⟩:=hp j p hj;exact⟨t,k,by rw[Nat.zero_add];exact e1,ne_of_lt (ybx e2),ne_of_lt (ybx (k1 _ _ (hpu _ _ e2))),⟨o,kk _ _ e2,e3⟩,e4⟩
inductive Bx (G:Gp) (a:Addr) (kvs:List (ax×W)):Prop where
 | dic (h:GD G a kvs):Bx G a kvs
 | lst {ps:List (ax×W)} (h:G a=some (.lst (ps.map λp=> .tup [kW p.1,p.2]))) (e:kvs=ps.foldl (λa p=>bO a p.1 p.2) []):Bx G a kvs
noncomputable def By:List W->Gp->WK->Prop:=λws G q=>match ws with
 | [.ref a]=>∃kvs,Bx G a kvs/\∀p,G p=none->q (.ref p) (aF G p (.dic kvs))
 | _=>False
theorem jV:∀(ps:List (ax×W)) (kvs:List (ax×W)),(ps.foldl (λa p=>bO a p.1 p.2) kvs).length<=kvs.length+ps.length
 | [],kvs=>yby _
 | p::ps,kvs=>by
   have h1:=jV ps (bO kvs p.1 p.2);have h2:=cN kvs p.1 p.2;simp only[foldl_cons,length_cons];lia
theorem q0:∀{qs:List (ax×V)} {ps:List (ax×Value)},KV qs ps->∀{kvs:List (ax×V)} {vs:List (ax×Value)},KV kvs vs->KV (qs.foldl (λa p=>fg a p.1 p.2) kvs) (ps.foldl (λa p=>stored a p.1 p.2) vs)
 | _,_,.nil,_,_,h=>h
 | q::qs,p::ps,.cons r t,_,_,h=>q0 (qs:=qs) (ps:=ps) t (by show KV (fg _ q.1 q.2) (stored _ p.1 p.2);rw[show p.1=q.1 from r.1.symm];exact h.put q.1 r.2)
theorem re {K:yax}:∀{ps:List (ax×W)} {qs:List (ax×V)},DP K H ps qs->∀{kvs:List (ax×W)} {us:List (ax×V)},DP K H kvs us->DP K H (ps.foldl (λa p=>bO a p.1 p.2) kvs) (qs.foldl (λa p=>fg a p.1 p.2) us)
 | _,_,.nil,_,_,h=>h
 | _,_,.cons r t,_,_,h=>re t (h.put _ r)
theorem yB {k:ax} {v:V} (r:bK K H (kW k) v):v=kV k:=by
 cases k with
 | inl i=>cases r;rfl
 | inr z=>cases r;rfl
theorem nZ (I:aB X π σ H s):∀{ps:List (ax×W)} {xs:List V} {its:ydw},aQ X.K H (ps.map λp=> .tup [kW p.1,p.2]) xs->aU xs its->
 ∃(qs:List (ax×V)) (vs:List (ax×Value)),DP X.K H ps qs/\KV qs vs/\vs.length=its.length/\∀(j:Nat) (p:ax×Value),vs[j]?=some p->∃t k,its[j]?=some (.ref t)/\s.heap.IsTuple t #[k,p.2]/\(aW X.prog X.w).is p.1 k=true
 | [],_,_,.nil,.nil=>⟨[],[],.nil,.nil,rfl,λj p h=>by cases h⟩
 | (k,w)::ps,_,[],.cons r rs,z=>by cases z
 | (k,w)::ps,_,u::its,.cons r rs,.cons v vs=>by
   obtain⟨qs,ys,h1,h2,h3,h4⟩:=nZ I rs vs;cases r with
   | @tup t _ zs hT rr=>
     cases (show u=Value.ref t from v);obtain⟨its2,rv,hp,_⟩:=I.tuple (cY.of hT);cases rr with
     | cons r1 rr=>
       cases rr with
       | cons r2 rr=>
         cases rr;obtain⟨u1,u2,rfl,ru1,ru2⟩:=pE rv;rw[yB r1] at ru1;refine⟨_,(k,u2)::ys,.cons r2 h1,.cons ⟨rfl,ru2⟩ h2,by simp[h3],λj p hj=>?_⟩;cases j with
         | zero=>
           cases hj;exact⟨t,u1,rfl,hp,kN (P:=X.prog) (w:=X.w) ru1⟩
         | succ j=>exact h4 j p hj
theorem vn (hc:X.calm=true):fe X (.type "dict") By:=by
 rintro π s σ H xs us Q I r ⟨ws,G,q,rw',g,h,hQ⟩;unfold By at h;split at h
 ·rename_i a;obtain⟨kvs,hs,h⟩:=h;obtain⟨v,rfl,r1⟩:=rw'.one;cases r1;obtain⟨u,rfl,ru⟩:=fT r;cases ru;have hp:=I.hok.fresh (yby s.heap.objs.size);cases hs with
  | dic hd=>
    obtain⟨hl,us,rd,dp⟩:=hd.rd g;obtain⟨zl,hm,vs,rel,dd⟩:=fq I.hok rd;refine kt_call_dict hm dd (by rw[←rel.length];exact zl) λh' hd' sb=>?_;refine⟨.ref s.heap.objs.size,_,I.laid (t':=s.toks) (λb o q=>(sb.2 b (ne_of_lt (ybx q))).trans (yaw _ q)) (yby _) (show bD X.prog X.w _ h' _ (.dK us) from ⟨zl,beq_eq_false_iff_ne.mpr (Ne.symm (ne_of_lt I.big)),vs,rel,hd'⟩),rfl,?_⟩;exact hQ _ _ _ _ (aM.new hp _) (.ref _) (g.lay (g:= .dic kvs) (aM.new hp _) ⟨hl,us,aX,dp.keys,(dp.mono (aM.new hp _)).vals⟩) (h _ (g.fresh hp))
  | @lst ps e ek=>
    subst ek;obtain⟨hl,xs,eH,rr⟩:=g a _ e;obtain⟨zl,its,c,rv,eo⟩:=I.hok a _ eH;obtain⟨qs,vs,dp,kv,hn,ht⟩:=nZ I rr rv;have hll:ps.length<=100000:=by simpa using hl
    have hqs:=dp.len;have hvs:=kv.length;have fl:=jV ps [];have fd:=re dp (H:=H) (K:=X.K) .nil;have fk:=q0 kv (kvs:=[]) (vs:=[]) .nil;have hz:(qs.foldl (λa p=>fg a p.1 p.2) []).length<=sizeLine:=by
     rw[fd.len];exact bN (by simp only[length_nil] at fl;lia)
    refine p6 (I.ok.hd hc) I.big eo (by rw[hn];simp) (bN (by lia)) (λj p hj=>?_) λh' tk kp hd'=>?_
    ·obtain⟨t,k,e1,e2,e3⟩:=ht j p hj;exact⟨t,k,by simpa using e1,e2,e3⟩
    ·refine⟨.ref s.heap.objs.size,_,I.laid (t':=tk) kp (yby _) (show bD X.prog X.w _ h' _ (.dK (qs.foldl (λa p=>fg a p.1 p.2) [])) from ⟨hz,beq_eq_false_iff_ne.mpr (Ne.symm (ne_of_lt I.big)),_,fk,hd'⟩),rfl,?_⟩;exact hQ _ _ _ _ (aM.new hp _) (.ref _) (g.lay (g:= .dic (ps.foldl (λa p=>bO a p.1 p.2) [])) (aM.new hp _) ⟨by simp only[length_nil] at fl;lia,_,aX,fd.keys,(fd.mono (aM.new hp _)).vals⟩) (h _ (g.fresh hp))
 ·exact h.elim
end
section
variable {prog:Program} {w:World} {A:Around} {s:Shared}
noncomputable def jW (prog:Program) (w:World) (A:Around) (s:Shared) (u v:Value):Prop:=∀(E:ydz) (Q:Bool->Shared->Prop),Q true s->wpAny (model prog w) A (eqBool u v) Q E s
theorem jW.of {u v:Value} (h:SeqAt.EqAt A s u v true):jW prog w A s u v:=λE Q q=>h prog w E Q q
theorem jW.refs {l b:Addr} (h:l≠b->∀(E:ydz) (Q:ydz),Q (.bool true) s->wpAny (model prog w) A (richCompare .Eq (.ref l) (.ref b)) Q E s):jW prog w A s (.ref l) (.ref b):=by
 by_cases hne:l=b
 ·subst hne;exact .of (SeqAt.EqAt.same _)
 ·exact λE Q q=>wpAny_holding (wpAny_ite_split (λhab=>absurd (by have:=eq_of_beq hab;injection this) hne) λ_=>wax (h hne E _ (wpAny_truthy_bool q)))
theorem yC {l b:Addr} {x1 x2 y1 y2:Value} (hl:s.heap.IsTuple l #[x1,x2]) (hb:s.heap.IsTuple b #[y1,y2]) (hu:A.units<cLine) (h1:jW prog w A.in1 s x1 y1) (h2:jW prog w A.in1 s x2 y2) (E:ydz) (Q:ydz) (q:Q (.bool true) s):
 wpAny (model prog w) A (richCompare .Eq (.ref l) (.ref b)) Q E s:=by
 obtain⟨o1,e1,c1,n1,d1⟩:=id hl;obtain⟨o2,e2,c2,n2,d2⟩:=id hb;refine wpAny_richCompare_same_room (T:="tuple") ⟨o1,e1,c1⟩ ⟨o2,e2,c2⟩ PySem.F.slot_tuple_eq (wpAny_call_entry PySem.F.slot_tuple_eq ⟨o1,e1,c1⟩ PySem.F.entry_tuple_eq ?_ (PySem.F.args_tuple_eq_2 _ _)) hu;unfold Builtin.«tuple.__eq__»
 k_delta "compare"
 refine wax ?_;unfold slotArgs;refine wpAny_ite_false (by rfl) (wpAny_ite_false (by rfl) (way ?_));dsimp only;refine wax (wpAny_isInstance (T:="tuple") (b:=true) ⟨o2,e2,c2⟩ (by rfl) ?_);refine wpAny_ite_false (by rfl) ?_;refine wax (wpAny_tupleItemsOf e1 d1 ?_);refine wax (wpAny_tupleItemsOf e2 d2 ?_);rw[show(#[x1,x2]:Array Value).toList.zip (#[y1,y2]:Array Value).toList=[(x1,y1),(x2,y2)] from rfl];simp only[List.forIn_cons,List.forIn_nil];refine wax (wax (wax (h1 _ _ ?_)));refine wpAny_ite_false (by rfl) (way ?_);dsimp only;refine wax (wax (h2 _ _ ?_));refine wpAny_ite_false (by rfl) (way ?_);refine way ?_;dsimp only;exact way ⟨.bool true,rfl,(λz=>nomatch z),q⟩
theorem mH {c:Int} {r:Bool} (hc:(c=2/\r=true)∨(c=3/\r=false)) {l b:Addr} {items items2:Array Value} {o1 o2:Obj} {n1 n2:Nat} (e1:s.heap.get? l=some o1) (d1:o1.data=.seq items n1) (e2:s.heap.get? b=some o2) (d2:o2.data=.seq items2 n2) (hz:items.size=items2.size) {R:Result->Shared->Prop}
 (he:∀(j:Nat) (u v:Value),items[j]?=some u->items2[j]?=some v->jW prog w A.in1 s u v) (hR:R (.ok (.ret (.bool r))) s):
 ∀(m i:Nat) (t t':Tok),i+m=items.size->codeAny (model prog w) A (.builtin "list.__eq__.loop" ⟨[.ref l,.ref b,.int (i:Int) t,.int c t'],[]⟩) R s
 | 0,i,t,t',hi=>by
   refine codeAny_builtin PySem.MeetsSeq3.entry_eq_loop ?_;have n1:items[i]?=none:=by simp;lia
   unfold Builtin.«list.__eq__.loop»
   k_delta "cmpOps"
   rcases hc with⟨rfl,rfl⟩ | ⟨rfl,rfl⟩
   ·dsimp only;rw[show(([CmpOp.Lt,CmpOp.LtE,CmpOp.Eq,CmpOp.NotEq,CmpOp.Gt,CmpOp.GtE]:List CmpOp)[Int.toNat 2]?)=some CmpOp.Eq from rfl];refine wax (wpAny_listItems e1 d1 (wax (wpAny_listItems e2 d2 ?_)));rw[Int.toNat_natCast,n1];refine wax (wpAny_listItems e1 d1 (wax (wpAny_listItems e2 d2 ?_)));refine way ?_;show R (Except.ok (Flow.ret (Value.bool (items.size==items2.size)))) s;rw[hz,beq_self_eq_true];exact hR
   ·dsimp only;rw[show(([CmpOp.Lt,CmpOp.LtE,CmpOp.Eq,CmpOp.NotEq,CmpOp.Gt,CmpOp.GtE]:List CmpOp)[Int.toNat 3]?)=some CmpOp.NotEq from rfl];refine wax (wpAny_listItems e1 d1 (wax (wpAny_listItems e2 d2 ?_)));rw[Int.toNat_natCast,n1];refine wax (wpAny_listItems e1 d1 (wax (wpAny_listItems e2 d2 ?_)));refine way ?_;show R (Except.ok (Flow.ret (Value.bool (items.size !=items2.size)))) s;rw[hz,bne_self_eq_false];exact hR
 | m+1,i,t,t',hi=>by
   have ih:=mH hc e1 d1 e2 d2 hz he hR m (i+1) 0 0 (by lia);refine codeAny_builtin PySem.MeetsSeq3.entry_eq_loop ?_;have l1:i<items.size:=by lia
   have n1:items[i]?=some items[i]:=by simp
   have n2:items2[i]?=some (items2[i]'(by lia)):=by simp
   unfold Builtin.«list.__eq__.loop»
   k_delta "cmpOps"
   rcases hc with⟨rfl,rfl⟩ | ⟨rfl,rfl⟩
   ·dsimp only;rw[show(([CmpOp.Lt,CmpOp.LtE,CmpOp.Eq,CmpOp.NotEq,CmpOp.Gt,CmpOp.GtE]:List CmpOp)[Int.toNat 2]?)=some CmpOp.Eq from rfl];refine wax (wpAny_listItems e1 d1 (wax (wpAny_listItems e2 d2 ?_)));rw[Int.toNat_natCast,n1,n2];refine wax (he i _ _ n1 n2 _ _ ?_);refine wpAny_ite_true (by rfl) ?_;exact way ⟨PySem.plainId_quiet PySem.MeetsSeq3.plain_eq_loop _,ih⟩
   ·dsimp only;rw[show(([CmpOp.Lt,CmpOp.LtE,CmpOp.Eq,CmpOp.NotEq,CmpOp.Gt,CmpOp.GtE]:List CmpOp)[Int.toNat 3]?)=some CmpOp.NotEq from rfl];refine wax (wpAny_listItems e1 d1 (wax (wpAny_listItems e2 d2 ?_)));rw[Int.toNat_natCast,n1,n2];refine wax (he i _ _ n1 n2 _ _ ?_);refine wpAny_ite_true (by rfl) ?_;exact way ⟨PySem.plainId_quiet PySem.MeetsSeq3.plain_eq_loop _,ih⟩
theorem yD {op:CmpOp} {r:Bool} (hop:(op=.Eq/\r=true)∨(op=.NotEq/\r=false)) {l b:Addr} {items items2:Array Value} (hl:s.heap.IsList l items) (hb:s.heap.IsList b items2) (hz:items.size=items2.size) (hu:A.units<cLine)
 (he:∀(j:Nat) (u v:Value),items[j]?=some u->items2[j]?=some v->jW prog w A.in1 s u v) (E:ydz) (Q:ydz) (q:Q (.bool r) s):
 wpAny (model prog w) A (richCompare op (.ref l) (.ref b)) Q E s:=by
 obtain⟨o1,e1,c1,n1,d1⟩:=id hl;obtain⟨o2,e2,c2,n2,d2⟩:=id hb;rcases hop with⟨rfl,rfl⟩ | ⟨rfl,rfl⟩
 ·refine wpAny_richCompare_same_room (T:="list") ⟨o1,e1,c1⟩ ⟨o2,e2,c2⟩ PySem.F.slot_list_eq (call_meetsIn PySem.F.slot_list_eq ⟨o1,e1,c1⟩ PySem.F.entry_list_eq (PySem.F.args_list_eq_2 _ _) (S:=λA' R s'=>A'=A/\s'=s/\R (.ok (.ret (.bool true))) s) ?_ ⟨rfl,rfl,(λz=>nomatch z),q⟩) hu;rintro A' R s' ⟨rfl,rfl,hR⟩;unfold Builtin.«list.__eq__»
  k_delta "listCompare"
  refine wax ?_;unfold slotArgs;refine wpAny_ite_false (by rfl) (wpAny_ite_false (by rfl) (way ?_));dsimp only;refine wax (wpAny_isInstance (T:="list") (b:=true) ⟨o2,e2,c2⟩ PySem.AutoSeq1.sub_list_list ?_);refine wpAny_ite_false (by rfl) ?_;refine wpAny_ite_true (by rfl) ?_;refine wax (wpAny_listItems e1 d1 (wax (wpAny_listItems e2 d2 ?_)));refine wpAny_ite_false (by rw[hz,bne_self_eq_false];rfl) ?_;exact way ⟨PySem.plainId_quiet PySem.MeetsSeq3.plain_eq_loop _,mH (.inl ⟨rfl,rfl⟩) e1 d1 e2 d2 hz he hR items.size 0 0 0 (by lia)⟩
 ·refine wpAny_richCompare_same_room (T:="list") ⟨o1,e1,c1⟩ ⟨o2,e2,c2⟩ PySem.F.slot_list_ne (call_meetsIn PySem.F.slot_list_ne ⟨o1,e1,c1⟩ PySem.F.entry_list_ne (PySem.F.args_list_ne_2 _ _) (S:=λA' R s'=>A'=A/\s'=s/\R (.ok (.ret (.bool false))) s) ?_ ⟨rfl,rfl,(λz=>nomatch z),q⟩) hu;rintro A' R s' ⟨rfl,rfl,hR⟩;unfold Builtin.«list.__ne__»
  k_delta "listCompare"
  refine wax ?_;unfold slotArgs;refine wpAny_ite_false (by rfl) (wpAny_ite_false (by rfl) (way ?_));dsimp only;refine wax (wpAny_isInstance (T:="list") (b:=true) ⟨o2,e2,c2⟩ PySem.AutoSeq1.sub_list_list ?_);refine wpAny_ite_false (by rfl) ?_;refine wpAny_ite_true (by rfl) ?_;refine wax (wpAny_listItems e1 d1 (wax (wpAny_listItems e2 d2 ?_)));refine wpAny_ite_false (by rw[hz,bne_self_eq_false];rfl) ?_;exact way ⟨PySem.plainId_quiet PySem.MeetsSeq3.plain_eq_loop _,mH (.inr ⟨rfl,rfl⟩) e1 d1 e2 d2 hz he hR items.size 0 0 0 (by lia)⟩
end
section
variable {X:Cx} {π:List (Addr×Obj)} {σ:St} {H:Hp} {s:Shared}
inductive ik (G:Gp):Nat->W->W->Prop where
 | flat {n:Nat} {x y:W} (f1:x.flat=true) (f2:y.flat=true) (hd:x.dep<=140) (he:x.eq y=true):ik G n x y
 | same {n:Nat} {a:Addr}:ik G n (.ref a) (.ref a)
 | dic {n:Nat} {a b:Addr} {kvs us:List (ax×W)} (ea:GD G a kvs) (eb:GD G b us) (hl:kvs.length=us.length) (hv:∀p,p∈kvs->∃w',bI us p.1=some w'/\jU G p.2 w'):ik G n (.ref a) (.ref b)
 | pair {n:Nat} {x1 x2 y1 y2:W} (h1:ik G n x1 y1) (h2:ik G n x2 y2):ik G (n+1) (.tup [x1,x2]) (.tup [y1,y2])
theorem sC {G:Gp} (I:aB X π σ H s) (g:aI X.K H G) {n:Nat} {w1 w2:W} (h:ik G n w1 w2):∀{A:Around} {v1 v2:V} {u1 u2:Value},A.units+n+160<cLine->bK X.K H w1 v1->bK X.K H w2 v2->bc v1 u1->bc v2 u2->jW X.prog X.w A s u1 u2:=by
 induction h with
 | @flat n x y f1 f2 hd he=>
   intro A v1 v2 u1 u2 hu r1 r2 q1 q2;have:=(iH I 150 A (w1:=x) (w2:=y) (by lia) f1 f2 (by lia) r1 r2 q1 q2).1;rw[he] at this;exact .of this
 | same=>
   intro A v1 v2 u1 u2 hu r1 r2 q1 q2;cases r1;cases r2;cases q1;cases q2;exact .of (SeqAt.EqAt.same _)
 | @dic n a b kvs us ea eb hl hv=>
   intro A v1 v2 u1 u2 hu r1 r2 q1 q2;cases r1;cases r2;cases q1;cases q2;obtain⟨_,ua,ra,da⟩:=ea.rd g;obtain⟨_,ub,rb,db⟩:=eb.rd g;obtain⟨_,ma,ka,qa,dda⟩:=fq I.hok ra;obtain⟨_,mb,kb,qb,ddb⟩:=fq I.hok rb;have hlen:ka.length=kb.length:=by rw[←qa.length,←qb.length,da.len,db.len,hl]
   refine jW.refs λhne E Q q=>?_;refine PySem.W.keq_eq ma mb dda ddb (by lia) (λ_=>mG (A:=A.in1) (by show A.units+1+20<cLine;lia) I g db qb da qa hv) ?_;rw[hlen,beq_self_eq_true,Bool.true_and];exact q
 | @pair n x1 x2 y1 y2 h1 h2 ih1 ih2=>
   intro A v1 v2 u1 u2 hu r1 r2 q1 q2;cases r1 with
   | @tup a _ xs hT rr=>
     cases r2 with
     | @tup b _ ys hT2 rr2=>
       cases (show u1=Value.ref a from q1);cases (show u2=Value.ref b from q2);obtain⟨its,rv,hp,_⟩:=I.tuple (cY.of hT);obtain⟨its2,rv2,hp2,_⟩:=I.tuple (cY.of hT2);cases rr with
       | cons a1 rr=>
         cases rr with
         | cons a2 rr=>
           cases rr;cases rr2 with
           | cons b1 rr2=>
             cases rr2 with
             | cons b2 rr2=>
               cases rr2;obtain⟨p1,p2,rfl,c1,c2⟩:=pE rv;obtain⟨t1,t2,rfl,d1,d2⟩:=pE rv2;exact jW.refs λhne E Q q=>yC hp hp2 (by lia) (ih1 (A:=A.in1) (by show A.units+1+n+160<cLine;lia) a1 b1 c1 d1) (ih2 (A:=A.in1) (by show A.units+1+n+160<cLine;lia) a2 b2 c2 d2) E Q q
inductive Bz (G:Gp) (a b:Addr):Bool->Prop where
 | old {r:Bool} (h:DI G a b r):Bz G a b r
 | nil {ws:List W} (ea:G a=some (.lst ws)) (eb:G b=some (.lst [])):Bz G a b ws.isEmpty
 | deep {ws us:List W} (ea:G a=some (.lst ws)) (eb:G b=some (.lst us)) (hl:ws.length=us.length) (he:∀(j:Nat) (x y:W),ws[j]?=some x->us[j]?=some y->ik G 9 x y):Bz G a b true
noncomputable def iS:W2:=λx y G q=>match x,y with
 | .ref a,.ref b=>∃r,Bz G a b r/\q (.bl r) G
 | x,y=>xm x y G q
noncomputable def n5:W2:=λx y G q=>match x,y with
 | .ref a,.ref b=>∃r,Bz G a b r/\q (.bl (!r)) G
 | x,y=>xn x y G q
theorem ju (hr:aw k X.A) {op:CmpOp} {r:Bool} (hop:(op=.Eq/\r=true)∨(op=.NotEq/\r=false)) {G:Gp} (I:aB X π σ H s) (g:aI X.K H G) {a b:Addr} {ws us:List W} (ea:G a=some (.lst ws)) (eb:G b=some (.lst us)) (hl:ws.length=us.length)
 (he:∀(j:Nat) (x y:W),ws[j]?=some x->us[j]?=some y->ik G 9 x y) (E:ydz) (Q:ydz) (q:Q (.bool r) s):wpAny (model X.prog X.w) X.A (richCompare op (.ref a) (.ref b)) Q E s:=by
 have hu:=hr.un;obtain⟨_,xs,e1,ra⟩:=g _ _ ea;obtain⟨_,ys,e2,rb⟩:=g _ _ eb;obtain⟨its,rv,p,_⟩:=I.list (dm.of e1);obtain⟨its2,rv2,p2,_⟩:=I.list (dm.of e2);have l1:its.length=ws.length:=by rw[←rv.length,ra.length]
 have l2:its2.length=us.length:=by rw[←rv2.length,rb.length]
 refine yD hop p.isList p2.isList (by rw[size_toArray,size_toArray,l1,l2,hl]) (by lia) (λj u v hj hv=>?_) E Q q;rw[List.getElem?_toArray] at hj hv;have j1:j<ws.length:=by
  rw[←l1];exact(List.getElem?_eq_some_iff.mp hj).1
 have gw:=ybw j1;have gu:=ybw (show j<us.length by lia);obtain⟨x,hx,rx⟩:=ra.get gw;obtain⟨y,hy,ry⟩:=rb.get gu;obtain⟨u',hu',qu⟩:=rv.get hx;obtain⟨v',hv',qv⟩:=rv2.get hy;rw[hj] at hu';rw[hv] at hv';cases hu';cases hv';exact sC I g (he j _ _ gw gu) (A:=X.A.in1) (by show X.A.units+1+9+160<cLine;lia) rx ry qu qv
theorem vo (hr:aw k X.A) {G:Gp} (I:aB X π σ H s) (g:aI X.K H G) {a b:Addr} {x:W} {ws:List W} (ea:G a=some (.lst (x::ws))) (eb:G b=some (.lst [])) (E:ydz) (Q:ydz):
 (Q (.bool false) s->wpAny (model X.prog X.w) X.A (richCompare .Eq (.ref a) (.ref b)) Q E s)/\(Q (.bool true) s->wpAny (model X.prog X.w) X.A (richCompare .NotEq (.ref a) (.ref b)) Q E s):=by
 have hu:=hr.un;obtain⟨_,xs,e1,ra⟩:=g _ _ ea;obtain⟨_,ys,e2,rb⟩:=g _ _ eb;obtain⟨its,rv,p,_⟩:=I.list (dm.of e1);obtain⟨its2,rv2,p2,_⟩:=I.list (dm.of e2);have l1:its.length=(x::ws).length:=by rw[←rv.length,ra.length]
 have l2:its2.length=([]:List W).length:=by rw[←rv2.length,rb.length]
 have ne:(its.toArray.size !=its2.toArray.size)=true:=by rw[size_toArray,size_toArray,l1,l2];simp
 exact⟨λq=>SeqAt.RcAt.lists_lengths p.isList p2.isList (by simpa using ne) (A:=X.A) (by lia) X.prog X.w E Q q,λq=>SeqAt.RcNeAt.lists_lengths p.isList p2.isList (by simpa using ne) (A:=X.A) (by lia) X.prog X.w E Q q⟩
theorem bG (hr:aw k X.A):iC X (compareOp .Eq) iS:=by
 rintro π s σ H x y v u Q I rx ry ⟨wx,wy,G,q,r1,r2,g,h,hQ⟩;unfold iS at h;split at h
 ·rename_i a b;obtain⟨r,he,h⟩:=h;have fin:EP X π σ Q (.bool r) s:=⟨.bl _,H,I,rfl,hQ _ H _ G (aM.refl H) (.bl _) g h⟩;cases he with
  | old he=>exact DL hr π s σ H x y v u Q I rx ry ⟨_,_,G,q,r1,r2,g,⟨r,he,h⟩,hQ⟩
  | @nil ws ea eb=>
    cases r1;cases r2;cases rx;cases ry;cases ws with
    | nil=>exact ju hr (.inl ⟨rfl,rfl⟩) I g ea eb rfl (λj x y z=>by cases z) X.xe _ fin
    | cons x ws=>exact(vo hr I g ea eb X.xe _).1 fin
  | deep ea eb hl he=>
    cases r1;cases r2;cases rx;cases ry;exact ju hr (.inl ⟨rfl,rfl⟩) I g ea eb hl he X.xe _ fin
 ·exact AN hr π s σ H x y v u Q I rx ry ⟨wx,wy,G,q,r1,r2,g,h,hQ⟩
theorem ff (hr:aw k X.A):iC X (compareOp .NotEq) n5:=by
 rintro π s σ H x y v u Q I rx ry ⟨wx,wy,G,q,r1,r2,g,h,hQ⟩;unfold n5 at h;split at h
 ·rename_i a b;obtain⟨r,he,h⟩:=h;have fin:EP X π σ Q (.bool (!r)) s:=⟨.bl _,H,I,rfl,hQ _ H _ G (aM.refl H) (.bl _) g h⟩;cases he with
  | old he=>exact DM hr π s σ H x y v u Q I rx ry ⟨_,_,G,q,r1,r2,g,⟨r,he,h⟩,hQ⟩
  | @nil ws ea eb=>
    cases r1;cases r2;cases rx;cases ry;cases ws with
    | nil=>exact ju hr (.inr ⟨rfl,rfl⟩) I g ea eb rfl (λj x y z=>by cases z) X.xe _ fin
    | cons x ws=>exact(vo hr I g ea eb X.xe _).2 fin
  | deep ea eb hl he=>
    cases r1;cases r2;cases rx;cases ry;exact ju hr (.inr ⟨rfl,rfl⟩) I g ea eb hl he X.xe _ fin
 ·exact AO hr π s σ H x y v u Q I rx ry ⟨wx,wy,G,q,r1,r2,g,h,hQ⟩
end
section
variable {X:Cx} {pos:Pos}
noncomputable abbrev zP:=cO->Gp->(List (Str×W)->Gp->Prop)->Prop
noncomputable def HD (K:yax) (t:zP) (σ:St) (H:Hp) (Q:List (V×V)->Hp->Prop):Prop:=
 ∃τ G q,bu K H τ σ/\aI K H G/\t τ G q/\∀(kvs:List (Str×V)) (H1:Hp) (kws:List (Str×W)) (G1:Gp),aM H H1->kvs.map (·.1)=kws.map (·.1)->aQ K H1 (kws.map (·.2)) (kvs.map (·.2))->aI K H1 G1->q kws G1->Q (kvs.map λp=>(.str p.1,p.2)) H1
noncomputable def EA (X:Cx) (pos:Pos) (keys:List (Option Expr)) (values:List Expr) (t:zP):Prop:=
 ∀(π:List (Addr×Obj)) (s:Shared) (σ:St) (H:Hp) (Q:List (V×V)->Hp->Prop),aB X π σ H s->HD X.K t σ H Q->
  wpAny (model X.prog X.w) X.A (evalPairs (pairTrees keys values X.env pos)) (λvs s'=>∃ps H',aB X π σ H' s'/\VV ps vs/\Q ps H') X.xe s
noncomputable def Hj:zP:=λ_ G q=>q [] G
noncomputable def Hk (z:Str) (tv:WE) (tr:zP):zP:=λτ G q=>tv τ G λw G1=>tr τ G1 λkws G2=>q ((z,w)::kws) G2
theorem yE:EA X pos [] [] Hj:=λπ s σ H Q I ⟨τ,G,q,hs,hg,ht,hQ⟩=>pairTrees_nil_walk ⟨[],H,I,.nil,hQ [] H [] G (aM.refl H) rfl .nil hg ht⟩
theorem jX {z:Str} {j} {kp:Pos} {v:Expr} {ks:List (Option Expr)} {vs:List Expr} {tv:WE} {tr:zP} (hv:QE X v tv) (hr:EA X pos ks vs tr):EA X pos (some (.Constant (.str z) j kp)::ks) (v::vs) (Hk z tv tr):=
 λπ s σ H Q I ⟨τ,G,q,hs,hg,ht,hQ⟩=>
  pairTrees_cons_walk (bR (oK (X:=X) (x:=z) (j:=j) (pos:=kp) π s σ H (λv H1=>v=.str z/\H1=H) I ⟨rfl,rfl⟩) λu s1 ⟨x,H1,I1,rx,e1,e2⟩=>by
   subst e1 e2;refine bR (hv π s1 σ H1 (λv H2=>∃w G2,aM H1 H2/\bK X.K H2 w v/\aI X.K H2 G2/\tr τ G2 λkws G3=>q ((z,w)::kws) G3) I1 ⟨τ,G,_,hs,hg,ht,λv H2 w G2 t2 r2 g2 q2=>⟨w,G2,t2,r2,g2,q2⟩⟩) λw2 s2 z9=>?_;obtain⟨y,H2,I2,ry,w,G2,t2,r2,g2,q2⟩:=z9;refine bR (hr π s2 σ H2 (λps H3=>Q ((.str z,y)::ps) H3) I2 ⟨τ,G2,_,hs.mono t2,g2,q2,λkvs H3 kws G3 t3 e3 r3 g3 q3=>?_⟩) λws s3 ⟨ps,H3,I3,rel,q3⟩=>⟨_,H3,I3,.cons ⟨rx,ry⟩ rel,q3⟩;exact hQ ((z,y)::kvs) H3 ((z,w)::kws) G3 (t2.trans t3) (by rw[map_cons,map_cons,e3]) (.cons (r2.mono t3) r3) g3 q3)
noncomputable def putAll (a:List (ax×W)) (kws:List (Str×W)):List (ax×W):=kws.foldl (λa p=>bO a (.inr p.1) p.2) a
theorem vp {K:yax} {H:Hp}:∀{kws:List (Str×W)} {kvs:List (Str×V)} {a:List (ax×W)} {b:List (ax×V)},DP K H a b->kvs.map (·.1)=kws.map (·.1)->aQ K H (kws.map (·.2)) (kvs.map (·.2))->DP K H (putAll a kws) (gh b (kvs.map λp=>(.inr p.1,p.2)))
 | [],[],_,_,d,_,_=>d
 | [],_::_,_,_,_,e,_=>by cases e
 | _::_,[],_,_,_,e,_=>by cases e
 | p::kws,r::kvs,a,b,d,e,rr=>by
   rw[map_cons,map_cons] at e rr;obtain⟨e1,e2⟩:=List.cons.inj e;cases rr with
   | cons r1 r2=>
     have:=vp (d.put (.inr p.1) r1) e2 r2;show DP K H (putAll (bO a (.inr p.1) p.2) kws) (gh (fg b (.inr r.1) r.2) _);rw[e1];exact this
theorem jY:∀(kws:List (Str×W)) (a:List (ax×W)),(putAll a kws).length<=a.length+kws.length
 | [],a=>yby _
 | p::kws,a=>by
   have h1:=jY kws (bO a (.inr p.1) p.2);have h2:=cN a (.inr p.1) p.2;show(putAll (bO a (.inr p.1) p.2) kws).length<=_;rw[length_cons];lia
noncomputable def zQ (t:zP):WE:=λτ G q=>∀p,G p=none->t τ (aF G p (.dic [])) λkws G2=>G2 p=some (.dic [])/\kws.length<=15/\q (.ref p) (aF G2 p (.dic (putAll [] kws)))
theorem yF {keys:List (Option Expr)} {values:List Expr} {t:zP} (h:EA X pos keys values t) (hall:keys.all (·.isSome)=true:=by rfl) (hl:keys.length=values.length:=by rfl) (h0:keys≠[]:=by exact λz=>nomatch z)
 (h15:keys.length<=15:=by decide):QE X (.Dict keys values pos) (zQ t):=by
 rintro π s σ H Q I ⟨τ,G,q,hs,hg,ht,hQ⟩;have hn:=I.hok.fresh (yby s.heap.objs.size);have I1:=I.laid (a:=s.heap.objs.size) (o:= .dK []) (h':=s.heap.push { cls:= .type "dict",data:= .dict #[] }) (t':=s.toks) (λ_ _ q=>yaw _ q) (yby _) (kP s.heap I.bigD);have t1:aM H (upd H s.heap.objs.size (.dK [])):=aM.new hn _;have g1:aI X.K (upd H s.heap.objs.size (.dK [])) (aF G s.heap.objs.size (.dic [])):=hg.lay (g:= .dic []) t1 ⟨zero_le _,[],aX,rfl,.nil⟩;refine wpAny_Dict_walk (knd:=aW X.prog X.w) hall hl h0 h15 (bR (h π _ σ _ (λps H2=>∃(kvs:List (Str×V)) (kws:List (Str×W)) (G2:Gp),ps=kvs.map (λp=>(.str p.1,p.2))/\aM (upd H s.heap.objs.size (.dK [])) H2/\kvs.map (·.1)=kws.map (·.1)/\aQ X.K H2 (kws.map (·.2)) (kvs.map (·.2))/\aI X.K H2 G2/\G2 s.heap.objs.size=some (.dic [])/\kws.length<=15/\q (.ref s.heap.objs.size) (aF G2 s.heap.objs.size (.dic (putAll [] kws)))) I1 ⟨τ,_,_,hs.mono t1,g1,ht _ (hg.fresh hn),λkvs H2 kws G2 t2 e2 r2 g2 q2=>⟨kvs,kws,G2,rfl,t2,e2,r2,g2,q2⟩⟩) λws s2 z9=>?_);obtain⟨ps,H2,I2,rel,kvs,kws,G2,ep,t2,e2,r2,g2,gp,lk,q2⟩:=z9;subst ep;have lv:kvs.length=kws.length:=by have:=congrArg List.length e2;rwa [length_map,length_map] at this
 have em:(kvs.map λp=>((.str p.1:V),p.2))=(kvs.map λp=>((.inr p.1:ax),p.2)).map (λkv=>(kV kv.1,kv.2)):=by rw[map_map];rfl
 rw[em] at rel;obtain⟨rs,c,rk⟩:=jF (P:=X.prog) (w:=X.w) rel;obtain⟨_,us,e,n4,_⟩:=g2 _ _ gp;have eu:us=[]:=List.map_eq_nil_iff.mp n4;subst eu;obtain⟨z,hd,vs0,r0,dd⟩:=qq I2.hok e;cases r0;have t3:=aM.dk e (.dK (gh [] (kvs.map λp=>((.inr p.1:ax),p.2))));have dp:=(vp (K:=X.K) (H:=H2) (a:=[]) (b:=[]) (DP.of rfl .nil) e2 r2).mono t3;refine⟨rs,c,dd,λh' dd' hs'=>⟨.ref s.heap.objs.size,_,?_,rfl,hQ _ _ _ _ ((t1.trans t2).trans t3) (.ref _) (g2.lay (g:= .dic _) t3 ⟨?_,_,aX,dp.keys,dp.vals⟩) q2⟩⟩
 ·have hz:(gh [] (kvs.map λp=>((.inr p.1:ax),p.2))).length<=sizeLine:=by
   have h1:=fV (kvs.map λp=>((.inr p.1:ax),p.2)) [];rw[length_nil,length_map] at h1;rw[sizeLine_eq];lia
  have he:∃q,h'.get? s.heap.objs.size=some q:=let ⟨q,_,_,hq,_⟩:=dd';⟨q,hq⟩;exact lT I2 (by rw[e];exact True.intro) hs' he (tS hz hd (rk.merge .nil) dd')
 ·have:=jY kws [];rw[length_nil] at this;lia
end
section
variable {X:Cx} {tg:Expr}
end
mutual
inductive fj (h:Heap):Nat->W->Value->Prop where
 | int {d:Nat} (n:Int) (t:Tok):fj h d (.int n) (.int n t)
 | tup {d:Nat} {a:Addr} {o:Obj} {items:Array Value} {n:Nat} {ws:List W} (gO:h.get? a=some o) (hc:o.cls=.type "tuple") (dO:o.data=.seq items n) (hs:cS h d ws items.toList):fj h (d+1) (.tup ws) (.ref a)
inductive cS (h:Heap):Nat->List W->List Value->Prop where
 | nil {d:Nat}:cS h d [] []
 | cons {d:Nat} {w:W} {v:Value} {ws:List W} {vs:ydw} (r:fj h d w v) (rs:cS h d ws vs):cS h d (w::ws) (v::vs)
end
section
variable {h h':Heap}
mutual
theorem fj.inj:∀{d d':Nat} {w w':W} {v:Value},fj h d w v->fj h d' w' v->w=w'
 | _,_,_,_,_,.int n t,.int _ _=>rfl
 | _,_,_,_,_,.tup gO hc dO hs,.tup gO' hc' dO' hs'=>by
   cases gO.symm.trans gO';rw[dO] at dO';injection dO' with e1 _
   subst e1;rw[cS.inj hs hs']
theorem cS.inj:∀{d d':Nat} {ws ws':List W} {vs:ydw},cS h d ws vs->cS h d' ws' vs->ws=ws'
 | _,_,_,_,_,.nil,.nil=>rfl
 | _,_,_,_,_,.cons r rs,.cons r' rs'=>by rw[fj.inj r r',cS.inj rs rs']
end
mutual
theorem fj.keeps (k:∀a o items n,h.get? a=some o->o.data=.seq items n->h'.get? a=some o):∀{d:Nat} {w:W} {v:Value},fj h d w v->fj h' d w v
 | _,_,_,.int n t=> .int n t
 | _,_,_,.tup gO hc dO hs=> .tup (k _ _ _ _ gO dO) hc dO (cS.keeps k hs)
theorem cS.keeps (k:∀a o items n,h.get? a=some o->o.data=.seq items n->h'.get? a=some o):∀{d:Nat} {ws:List W} {vs:ydw},cS h d ws vs->cS h' d ws vs
 | _,_,_,.nil=> .nil
 | _,_,_,.cons r rs=> .cons (fj.keeps k r) (cS.keeps k rs)
end
end
section
variable (P:Program) (w:World)
mutual
noncomputable def jZ:W->Int
 | .int n=>(aW P w).hash (.inl n)
 | .tup ws=>reduceHash (Builtin.Tuple.tupleHashOf (ef ws))
 | _=>0
noncomputable def ef:List W->List Int
 | []=>[]
 | x::xs=>jZ x::ef xs
end
mutual
noncomputable def p9:W->Nat
 | .int _=>1
 | .tup ws=>eC ws+1
 | _=>0
noncomputable def eC:List W->Nat
 | []=>0
 | x::xs=>p9 x+eC xs
end
end
theorem yG (xs ys:List W):eC (xs++ys)=eC xs+eC ys:=by
 induction xs with
 | nil=>simp[eC]
 | cons x xs ih=>show p9 x+eC (xs++ys)=_;rw[ih];simp[eC,Nat.add_assoc]
theorem vq (P:Program) (w:World) (xs ys:List W):ef P w (xs++ys)=ef P w xs++ef P w ys:=by
 induction xs with
 | nil=>rfl
 | cons x xs ih=>show jZ P w x::ef P w (xs++ys)=_;rw[ih];rfl
section
variable {prog:Program} {w:World}
theorem dz {o:Obj} (gO:s.heap.get? a=some o) (hc:o.cls=.type "tuple"):s.TypeIs (.ref a) "tuple":=⟨o,gO,hc⟩
theorem vt {d:Nat} {ws:List W} {o:Obj} {n:Nat} {Q:Int->Shared->Prop} (hu:A.units+d+1<cLine) (gO:s.heap.get? a=some o) (hc:o.cls=.type "tuple") (dO:o.data=.seq items n) (hi:cS s.heap d ws items.toList)
 (ih:∀(x:W) (v:Value) (A':Around) (E':ydz) (tk:Nat) (Q':Int->Shared->Prop),x∈ws->fj s.heap d x v->A'.units+d<cLine->Q' (jZ prog w x) { s with toks:=tk+p9 x }->wpAny (model prog w) A' (pyHash v) Q' E' { s with toks:=tk })
 (h:Q (jZ prog w (.tup ws)) { s with toks:=s.toks+p9 (.tup ws) }):wpAny (model prog w) A (pyHash (.ref a)) Q E s:=by
 have tp:=dz gO hc;unfold pyHash
 first | unfold pyHashByItsType | skip
 first | refine wax (wpAny_cRoomFor_or (.inr (by lia)) ?_) | skip
 refine wax (wpAny_specialOf tp F.slot_tuple_hash.lookup ?_);rw[show(some (Value.builtin "tuple.__hash__")==some Value.none)=false from by rw[beq_builtin_none],ybv ycy];refine wax (wpAny_specialOf tp F.slot_tuple_hash.lookup ?_);show wpAny _ _ (callSpecialIfBoundUnlessNone? (.ref a) "__hash__" _ >>= _) Q E s;refine wax (wpAny_callSpecialIfBoundUnlessNone?_slot tp F.slot_tuple_hash (wpAny_call_entry F.slot_tuple_hash tp F.entry_tuple_hash ?_ (F.args_tuple_hash_1 _)));show wpAny _ _ (Builtin.Tuple.tupleItemsOf (.ref a) >>= _) _ _ s;refine wax (wpAny_tupleItemsOf gO dO ?_);refine wax ?_;rw[←Array.forIn_toList];refine wpAny_forIn_list _
  (λbt (b:Array Int) s'=>∃done left,ws=done++left/\cS s.heap d left bt/\b.toList=ef prog w done/\s'={ s with toks:=s.toks+eC done })
  _ ?_ ?_ _ _ ⟨[],ws,rfl,hi,rfl,rfl⟩
 ·rintro x bt b s' ⟨done,left,rfl,hL,hB,rfl⟩;cases hL with
  | @cons _ k _ ks' _ h1 hL'=>
    refine wax (ih k x _ _ _ _ (by simp) h1 (by first | lia | (show A.units+1+d<cLine;lia)) ?_);have e1:b.toList++[jZ prog w k]=ef prog w (done++[k]):=by rw[hB,vq];rfl
    have e2:s.toks+eC done+p9 k=s.toks+eC (done++[k]):=by rw[yG];simp[eC,Nat.add_assoc]
    first
     | exact way ⟨done++[k],ks',by simp,hL',by simpa using e1,by rw[←e2]⟩
     | exact wax (way (way ⟨done++[k],ks',by simp,hL',by simpa using e1,by rw[←e2]⟩))
 ·rintro b s' ⟨done,left,rfl,hL,hB,rfl⟩;cases hL;rw[append_nil] at h;show wpAny _ _ (retInt (Builtin.Tuple.tupleHashOf b.toList)) _ _ _;rw[hB];refine wpAny_ret_mkInt ?_;have h:Q (reduceHash (Builtin.Tuple.tupleHashOf (ef prog w done))) { s with toks:=s.toks+(eC done+1) }:=h;generalize ef prog w done=hs at h ⊢;show wpAny _ _ (if (decide (-(2:Int)^63<=Builtin.Tuple.tupleHashOf hs)&&decide (Builtin.Tuple.tupleHashOf hs<2^63))=true then _ else _) Q E _;unfold reduceHash at h
  by_cases hR:(decide (-(2:Int)^63<=Builtin.Tuple.tupleHashOf hs)&&decide (Builtin.Tuple.tupleHashOf hs<2^63))=true
  ·rw[ycx hR];rw[ycx hR] at h;exact way (by simpa[Nat.add_assoc] using h)
  ·rw[ybv hR];rw[ybv hR] at h;exact wax (wpAny_rule (way (by simpa[Nat.add_assoc] using h)))
theorem fj.hash {s:Shared}:∀(d:Nat) {x:W} {v:Value},fj s.heap d x v->∀{A:Around} {E:ydz} {tk:Nat} {Q:Int->Shared->Prop},A.units+d<cLine->Q (jZ prog w x) { s with toks:=tk+p9 x }->wpAny (model prog w) A (pyHash v) Q E { s with toks:=tk }
 | _,_,_,.int n t,A,E,tk,Q,hu,h=>(aW prog w).pyHash (k:= .inl n) (dR prog w n t) h
 | d+1,_,_,.tup (ws:=ws) gO hc dO hs,A,E,tk,Q,hu,h=>
   vt (s:={ s with toks:=tk }) (d:=d) (ws:=ws) (by assumption) gO hc dO hs (λx v A' E' tk' Q' _ hk hu' hq=>fj.hash d hk hu' hq) h
noncomputable def vw (p:Prop):Bool:= @decide p (Classical.propDecidable p)
theorem j6 {p:Prop} (h:p):vw p=true:= @decide_eq_true p (Classical.propDecidable p) h
theorem ji {p:Prop} (h:¬p):vw p=false:= @decide_eq_false p (Classical.propDecidable p) h
inductive Sh:W->W->Prop where
 | int (n m:Int):Sh (.int n) (.int m)
 | tup {xs ys:List W} (h:∀p,p∈xs.zip ys->Sh p.1 p.2):Sh (.tup xs) (.tup ys)
theorem eq_tup {d:Nat} {x y:List W} {a b:Addr} {oa ob:Obj} {xs ys:Array Value} {na nb:Nat} {R:PySem.Fin->Shared->Prop} (gA:s.heap.get? a=some oa) (hca:oa.cls=.type "tuple") (dA:oa.data=.seq xs na) (hia:cS s.heap d x xs.toList) (gB:s.heap.get? b=some ob) (hcb:ob.cls=.type "tuple") (dB:ob.data=.seq ys nb) (hib:cS s.heap d y ys.toList)
 (hsh:∀p,p∈x.zip y->Sh p.1 p.2)
 (ih:∀(p q:W) (u v:Value) (E':ydz) (Q':Bool->Shared->Prop),fj s.heap d p u->fj s.heap d q v->Sh p q->Q' (vw (p=q)) s->wpAny (model prog w) A (eqBool u v) Q' E' s)
 (h:R (.done (.ret (.bool (vw (x=y))))) s):wpAny (model prog w) A (Builtin.«tuple.__eq__» ⟨[.ref a,.ref b],[]⟩) R E s:=by
 have tpB:=dz gB hcb;show wpAny _ _ (isInstance (.ref b) (.type "tuple") >>= _) _ _ s;refine wax (wpAny_isInstance tpB isSubtype_tuple_tuple ?_);simp only[Bool.not_true,Bool.false_eq_true,if_false];refine wax (wpAny_tupleItemsOf gA dA ?_);refine wax (wpAny_tupleItemsOf gB dB ?_);refine wax ?_;refine wpAny_forIn_list _
  (λbt r s'=>r.1=none/\s'=s/\∃x' y' xs' ys',bt=List.zip xs' ys'/\cS s.heap d x' xs'/\cS s.heap d y' ys'/\((x'=y')↔(x=y))/\(∀p,p∈x'.zip y'->Sh p.1 p.2)/\(xs'.length==ys'.length)=(xs.size==ys.size))
  _ ?_ ?_ _ _ ⟨rfl,rfl,x,y,xs.toList,ys.toList,rfl,hia,hib,Iff.rfl,hsh,by simp⟩
 ·rintro⟨u,v⟩ bt r s' ⟨hR,rfl,x',y',xs',ys',hZ,hx',hy',hdec,hs',hlen⟩;cases hx' with
  | nil=>simp at hZ
  | @cons _ k1 u' x'' xs'' h1 hx''=>
    cases hy' with
    | nil=>simp at hZ
    | @cons _ k2 v' y'' ys'' h2 hy''=>
      simp only[zip_cons_cons,List.cons.injEq,Prod.mk.injEq] at hZ;obtain⟨⟨rfl,rfl⟩,rfl⟩:=hZ;refine wax (ih k1 k2 _ _ _ _ h1 h2 (hs' (k1,k2) yaz) ?_)
      by_cases hk:k1=k2
      ·subst hk;rw[j6 rfl];simp only[Bool.not_true,Bool.false_eq_true,if_false];refine way ⟨rfl,rfl,x'',y'',xs'',ys'',rfl,hx'',hy'',?_,λp hp=>hs' p (yay _ hp),by simpa using hlen⟩;rw[←hdec];simp
      ·rw[ji hk];simp only[Bool.not_false,if_true];have hf:vw (x=y)=false:=ji λz=>hk (by have:=hdec.mpr z;injection this);rw[hf] at h;exact wax (way (way (way h)))
 ·rintro⟨q1,q2⟩ s' ⟨hR,rfl,x',y',xs',ys',hZ,hx',hy',hdec,hs',hlen⟩;simp only at hR;subst hR;refine way ?_;have hfin:(xs.size==ys.size)=vw (x=y):=by
   rw[←hlen];cases hx' with
   | nil=>
     cases hy' with
     | nil=>rw[j6 (hdec.mp rfl)];rfl
     | cons _ _=>rw[ji (λz=>by have:=hdec.mpr z;cases this)];rfl
   | cons _ _=>
     cases hy' with
     | nil=>rw[ji (λz=>by have:=hdec.mpr z;cases this)];rfl
     | cons _ _=>simp at hZ
  show R (.done (.ret (.bool (xs.size==ys.size)))) s';rw[hfin];exact h
theorem fj.eqs {s:Shared}:∀(d:Nat) {x y:W} {u v:Value},fj s.heap d x u->fj s.heap d y v->Sh x y->∀{A:Around} {E:ydz} {Q:Bool->Shared->Prop},A.units+2*d<cLine->Q (vw (x=y)) s->wpAny (model prog w) A (PySem.eqBool u v) Q E s
 | _,_,_,_,_,.int n t,.int m t',_,A,E,Q,hu,h=>by
   refine(aW prog w).eqBool (a:= .inl n) (b:= .inl m) (dR prog w n t) (dR prog w m t') ?_;have:decide ((Sum.inl n:ax)=.inl m)=vw (W.int n=.int m):=by
    by_cases e:n=m
    ·subst e;rw[ycw rfl,j6 rfl]
    ·rw[ycz (λz=>e (Sum.inl.inj z)),ji (λz=>by injection z with z;exact e z)]
   rw[this];exact h
 | _,_,_,_,_,.int n t,.tup _ _ _ _,hs,A,E,Q,hu,h=>(nomatch hs)
 | _,_,_,_,_,.tup _ _ _ _,.int m t',hs,A,E,Q,hu,h=>(nomatch hs)
 | d+1,_,_,_,_,.tup (a:=a) (ws:=ws) gO hc dO hs,.tup (a:=a') (ws:=ws') gO' hc' dO' hs',.tup hsh,A,E,Q,hu,h=>by
   unfold PySem.eqBool
   try with_reducible refine wpAny_holding ?_
   show wpAny _ _ (if (Value.ref a==Value.ref a')=true then _ else _) Q E s
   by_cases hab:(Value.ref a==Value.ref a')=true
   ·rw[ycx hab];have e:a=a':=by have:=eq_of_beq hab;injection this
    subst e;have:=fj.inj (.tup gO hc dO hs) (.tup gO' hc' dO' hs');rw[j6 this] at h;exact wax (wpAny_rule (way h))
   ·rw[ybv hab];refine wax (wpAny_richCompare_same_room (op:= .Eq) (dz gO hc) (dz gO' hc') F.slot_tuple_eq
     (wpAny_call_entry F.slot_tuple_eq (dz gO hc) F.entry_tuple_eq (eq_tup gO hc dO hs gO' hc' dO' hs' hsh (λp q u v E' Q' hp hq hpq hQ=>fj.eqs d hp hq hpq (by first | lia | (show A.units+1+2*d<cLine;lia) | (show A.units+1+1+2*d<cLine;lia)) hQ) ⟨_,rfl,(λe=>nomatch e),wpAny_truthy_bool ?_⟩) (F.args_tuple_eq_2 _ _)) (by lia))
    have:vw (ws=ws')=vw (W.tup ws=.tup ws'):=by
     by_cases e:ws=ws'
     ·subst e;rw[j6 rfl,j6 rfl]
     ·rw[ji e,ji (λz=>by injection z with z;exact e z)]
    rw[this];exact h
theorem fj.quiet {s:Shared}:∀(d:Nat) {x:W} {v:Value},fj s.heap d x v->∀{A:Around} {E:ydz} {Q:Bool->Shared->Prop},Q true s->wpAny (model prog w) A (eqIsQuiet d v) Q E s
 | _,_,_,.int n t,A,E,Q,h=>by
   rw[eqIsQuiet_byValue _ rfl];exact way h
 | d+1,_,_,.tup gO hc dO hs,A,E,Q,h=>by
   have tp:=dz gO hc;unfold eqIsQuiet;refine wax (wpAny_specialOf tp F.slot_tuple_eq.lookup ?_);refine wax (wpAny_isInstance tp isSubtype_tuple_tuple ?_);simp only[Bool.not_true,Bool.false_eq_true,if_false];refine wax (wpAny_seqItems gO dO ?_);refine wax ?_;show wpAny _ _ (forIn _ _ _) _ _ s;rw[←Array.forIn_toList];refine wpAny_forIn_list _ (λbt r s'=>r.1=none/\s'=s/\∃ws,cS s.heap d ws bt) _ ?_ ?_ _ _ ⟨rfl,rfl,_,hs⟩
   ·rintro v bt r s' ⟨hR,rfl,ws,hk⟩;cases hk with
    | cons q1 rs1=>
      refine wax (fj.quiet d q1 ?_);simp only[Bool.not_true,Bool.false_eq_true,if_false];exact way ⟨rfl,rfl,_,rs1⟩
   ·rintro⟨q1,q2⟩ s' ⟨hR,rfl,_⟩;simp only at hR;subst hR;exact way h
theorem BA:∀a b:O,Sh (.tup (aq a)) (.tup (aq b)):=by
 have main:∀(k:Nat) (a b:O),a.size+b.size<=k->Sh (.tup (aq a)) (.tup (aq b)):=by
  intro k
  induction k with
  | zero=>
    intro a b h;cases a with
    | z=>exact .tup λp hp=>by simp[aq] at hp
    | c e n r=>simp[O.size] at h
  | succ k ih=>
    intro a b h;cases a with
    | z=>exact .tup λp hp=>by simp[aq] at hp
    | c e n r=>
      cases b with
      | z=>exact .tup λp hp=>by simp[aq] at hp
      | c e' n' r'=>
        have h1:e.size+e'.size<=k:=by simp only[O.size] at h;lia
        have h2:r.size+r'.size<=k:=by simp only[O.size] at h;lia
        refine .tup λp hp=>?_;rw[bW,bW,zip_cons_cons] at hp;rcases mem_cons.mp hp with rfl | hp
        ·refine .tup λp hp=>?_;simp only[zip_cons_cons,List.zip_nil_left] at hp;rcases mem_cons.mp hp with rfl | hp
         ·exact ih e e' h1
         ·rw[mem_singleton.mp hp];exact .int n n'
        ·cases ih r r' h2 with
         | tup h3=>exact h3 p hp
 exact λa b=>main _ a b (yby _)
theorem rl {a b:O} (h:W.tup (aq a)=.tup (aq b)):a=b:=by injection h with h;exact nP h
noncomputable def j7 (prog:Program) (w:World):HeapKind prog w O where
 is:=λh o a=>fj h 8 (.tup (aq o)) (.ref a)
 hash:=λo=>jZ prog w (.tup (aq o))
 draws:=λo=>p9 (.tup (aq o))
 room:=λA=>A.units+20<cLine
 inj:=λhx hy=>rl (fj.inj hx hy)
 keeps:=λx gO dO hs=>x.keeps λa o items n gO' dO'=>by
  rename_i d' od es ep;have hne:a≠d':=λz=>by
   subst z;cases gO.symm.trans gO';rw[dO] at dO';cases dO'
  exact(hs.2 a hne).trans gO'
 pyHash:=λhu hk h=>fj.hash 8 hk (by lia) h
 eqBool:=λhu hx hy h=>fj.eqs 8 hx hy (BA _ _) (by lia) (by
  rename_i x y _ _ _;have:vw (W.tup (aq x)=.tup (aq y))=decide (x=y):=by
   by_cases e:x=y
   ·subst e;rw[j6 rfl,ycw rfl]
   ·rw[ji (λz=>e (rl z)),ycz e]
  rw[this];exact h)
 quiet:=λhk h=>fj.quiet 8 hk h
end
mutual
theorem fj.le {h:Heap}:∀{d d':Nat} {w:W} {v:Value},d<=d'->fj h d w v->fj h d' w v
 | _,_,_,_,_,.int n t=> .int n t
 | _,d'+1,_,_,l,.tup ho hc hd hs=> .tup ho hc hd (cS.le (Nat.le_of_succ_le_succ l) hs)
 | _,0,_,_,l,.tup ho hc hd hs=>absurd l (Nat.not_succ_le_zero _)
theorem cS.le {h:Heap}:∀{d d':Nat} {ws:List W} {vs:ydw},d<=d'->cS h d ws vs->cS h d' ws vs
 | _,_,_,_,_,.nil=> .nil
 | _,_,_,_,l,.cons r rs=> .cons (fj.le l r) (cS.le l rs)
end
section
variable {X:Cx} {π:List (Addr×Obj)} {σ:St} {H:Hp} {s:Shared}
theorem yH (I:aB X π σ H s):∀(k:Nat) (o:O) (v:V) (u:Value),o.dp<=k->bK X.K H (.tup (aq o)) v->bc v u->fj s.heap (2*k+1) (.tup (aq o)) u:=by
 intro k
 induction k with
 | zero=>
   intro o v u hd r ru;have:o=.z:=by
    cases o with
    | z=>rfl
    | c e n r=>simp only[O.dp] at hd;lia
   subst this;cases r with
   | tup hT rr=>
     obtain⟨its,rv,⟨ob,e,c,n,dd⟩,_⟩:=I.tuple (cY.of hT);cases rr;cases rv;cases (show u=Value.ref _ from ru);exact .tup e c dd .nil
 | succ k ih=>
   have parts:∀(o:O) (xs:List V) (its:ydw),o.dp<=k+1->aQ X.K H (aq o) xs->aU xs its->cS s.heap (2*k+2) (aq o) its:=by
    intro o
    induction o with
    | z=>
      intro xs its hd rr rv;cases rr;cases rv;exact .nil
    | c e n r ihe ihr=>
      intro xs its hd rr rv;rw[bW] at rr ⊢;cases rr with
      | cons r1 rs1=>
        cases rv with
        | cons v1 vs1=>
          have hd1:e.dp<=k:=by simp only[O.dp] at hd;lia
          have hd2:r.dp<=k+1:=by simp only[O.dp] at hd;lia
          refine .cons ?_ (ihr _ _ hd2 rs1 vs1);unfold iu at r1 ⊢;cases r1 with
          | tup hT rr=>
            obtain⟨its,rv,⟨ob,ee,c,m,dd⟩,_⟩:=I.tuple (cY.of hT);cases (show _=Value.ref _ from v1);cases rr with
            | cons q1 qs=>
              cases qs with
              | cons q2 qs=>
                cases qs;cases rv with
                | cons w1 ws=>
                  cases ws with
                  | cons w2 ws=>
                    cases ws;refine .tup ee c dd (.cons (ih e _ _ hd1 q1 w1) (.cons ?_ .nil));cases q2;obtain⟨t,rfl⟩:=w2;exact .int _ _
   intro o v u hd r ru;cases r with
   | tup hT rr=>
     obtain⟨its,rv,⟨ob,e,c,n,dd⟩,_⟩:=I.tuple (cY.of hT);cases (show u=Value.ref _ from ru);exact .tup e c dd (parts o _ _ hd rr rv)
theorem j8 (I:aB X π σ H s) {o:O} (hd:o.dp<=3) (r:bK X.K H (.tup (aq o)) (.ref a)):(j7 X.prog X.w).is s.heap o a:=fj.le (by decide) (yH I 3 o (.ref a) (.ref a) hd r rfl)
end
inductive gR (K:yax) (H:Hp):List (O×W)->List (O×Addr×Value)->Prop where
 | nil:gR K H [] []
 | cons {k:O} {a:Addr} {w:W} {v:V} {u:Value} {kvs:List (O×W)} {xs:List (O×Addr×Value)} (rk:bK K H (.tup (aq k)) (.ref a)) (rv:bK K H w v) (ru:bc v u) (t:gR K H kvs xs):gR K H ((k,w)::kvs) ((k,a,u)::xs)
theorem gR.mono {K:yax} {H H1:Hp} (t:aM H H1):∀{kvs:List (O×W)} {xs:List (O×Addr×Value)},gR K H kvs xs->gR K H1 kvs xs
 | _,_,.nil=> .nil
 | _,_,.cons rk rv ru r=> .cons (rk.mono t) (rv.mono t) ru (gR.mono t r)
theorem gR.keys {K:yax} {H:Hp}:∀{kvs:List (O×W)} {xs:List (O×Addr×Value)},gR K H kvs xs->xs.map (·.1)=kvs.map (·.1)
 | _,_,.nil=>rfl
 | _,_,.cons _ _ _ r=>by rw[map_cons,map_cons,gR.keys r]
theorem gR.mem {K:yax} {H:Hp}:∀{kvs:List (O×W)} {xs:List (O×Addr×Value)},gR K H kvs xs->∀x,x∈xs->bK K H (.tup (aq x.1)) (.ref x.2.1)
 | _,_,.nil,x,hx=>(nomatch hx)
 | _,_,.cons rk _ _ r,x,hx=>by
   rcases mem_cons.mp hx with rfl | hx
   ·exact rk
   ·exact gR.mem r x hx
noncomputable def j9 (P:Program) (w:World) (a:Addr) (xs:List (O×Addr×Value)):Heap->Prop:=λh=>∃o es ep,h.get? a=some o/\o.ExactDict/\o.data=.dict es ep/\es.toList=xs.map (entryOfKey (j7 P w))
noncomputable def kB (P:Program) (w:World) (K:yax) (kvs:List (O×W)):Hp->Addr->Prop:=λH a=>kvs.length<=1000/\(a==sysModules)=false/\(kvs.map (·.1)).Nodup/\(∀p,p∈kvs->p.1.dp<=3)/\∃xs,H a=some (.ext (j9 P w a xs))/\gR K H kvs xs
noncomputable abbrev rm (P:Program) (w:World) (K:yax) (kvs:List (O×W)):GO:= .any (kB P w K kvs)
theorem kB.ok {kvs:List (O×W)} {H:Hp} (h:kB P w K kvs H a):zn K H a (rm P w K kvs):=by
 refine⟨h,?_,λH1 H2 t e x=>?_⟩
 ·obtain⟨_,_,_,_,xs,e,_⟩:=h;exact⟨_,e⟩
 ·obtain⟨a1,a2,a3,a4,xs,e1,kv⟩:=x;exact⟨a1,a2,a3,a4,xs,e.trans e1,kv.mono t⟩
section
variable {X:Cx} {π:List (Addr×Obj)} {σ:St} {H:Hp} {s:Shared}
theorem kB.dict {kvs:List (O×W)} (I:aB X π σ H s) (h:kB X.prog X.w X.K kvs H a):∃xs,H a=some (.ext (j9 X.prog X.w a xs))/\gR X.K H kvs xs/\s.heap.DictOfH (j7 X.prog X.w) a xs:=by
 obtain⟨a1,a2,a3,a4,xs,e,kv⟩:=h;obtain⟨⟨o,es,ep,h1,h2,h3,h4⟩,_⟩:=I.hok a _ e;refine⟨xs,e,kv,o,es,ep,h1,h2,h3,h4,λx hx=>?_,by rw[kv.keys];exact a3⟩;refine j8 I ?_ (kv.mem x hx);have:x.1∈kvs.map (·.1):=by rw[←kv.keys];exact mem_map.mpr ⟨x,hx,rfl⟩
 obtain⟨p,hp,hpe⟩:=mem_map.mp this;rw[←hpe];exact a4 p hp
theorem rz {H:Hp} {h:Heap} {xs:List (O×Addr×Value)} (d:j9 P w a xs h):bD P w H h a (.ext (j9 P w a xs)):=by
 refine⟨d,?_,λh1 h2 x k=>?_⟩
 ·obtain⟨o,_,_,e,_⟩:=d;exact⟨o,e⟩
 ·obtain⟨o,es,ep,e,r⟩:=x;exact⟨o,es,ep,k _ e,r⟩
noncomputable def vx (P:Program) (w:World) (K:yax):WE:=λ_ G q=>∀p,G p=none->q (.ref p) (aF G p (rm P w K []))
theorem yI:QE X (.Dict [] [] pos) (vx X.prog X.w X.K):=by
 have pe:PE X (.Dict [] [] pos) (λ_ H Q=>∀p,H p=none->(p==sysModules)=false->Q (.ref p) (upd H p (.ext (j9 X.prog X.w p [])))):=λπ s σ H Q I h=>
  wpAny_Dict_empty ⟨.ref s.heap.objs.size,_,I.laid (a:=s.heap.objs.size) (o:= .ext (j9 X.prog X.w s.heap.objs.size [])) (t':=s.toks) (λ_ _ q=>yaw _ q) (yby _) (rz ⟨_,#[],0,yav _ rfl,⟨rfl,rfl,rfl⟩,rfl,rfl⟩),rfl,h _ (I.hok.fresh (yby _)) (beq_eq_false_iff_ne.mpr (Ne.symm (ne_of_lt I.bigD)))⟩
 exact pe.imp λσ H Q z0=>z0.el λτ G q hs hg ht hQ p hp hm=>hQ _ _ _ _ (aM.new hp _) (.ref p) (hg.lay (g:=rm X.prog X.w X.K []) (aM.new hp _) (kB.ok ⟨zero_le _,hm,by simp,(λ_ h=>(nomatch h)),[],aX,.nil⟩)) (ht p (hg.fresh hp))
noncomputable def eZ (kvs:List (O×W)) (k:O):Option W:=(kvs.find? λp=>decide (p.1=k)).map (·.2)
theorem gR.at {K:yax} {k:O}:∀{kvs:List (O×W)} {xs:List (O×Addr×Value)},gR K H kvs xs->(eZ kvs k=none/\atKey xs k=none)∨∃w a v u,eZ kvs k=some w/\atKey xs k=some (a,u)/\bK K H w v/\bc v u
 | _,_,.nil=> .inl ⟨rfl,rfl⟩
 | _,_,.cons (k:=k') (a:=a) (w:=w) (v:=v) (u:=u) rk rv ru t=>by
   by_cases e:k'=k
   ·exact .inr ⟨w,a,v,u,by simp[eZ,e],by simp[atKey,e],rv,ru⟩
   ·rcases gR.at (k:=k) t with⟨h1,h2⟩ | ⟨w',a',v',u',h1,h2,h3,h4⟩
    ·exact .inl ⟨by simpa[eZ,List.find?_cons,e] using h1,by simpa[atKey,List.find?_cons,e] using h2⟩
    ·exact .inr ⟨w',a',v',u',by simpa[eZ,List.find?_cons,e] using h1,by simpa[atKey,List.find?_cons,e] using h2,h3,h4⟩
theorem vy {kvs:List (O×W)} {k:O} {x:W} (h:eZ kvs k=some x):(k,x)∈kvs:=by
 unfold eZ at h;obtain⟨p,hp,rfl⟩:=Option.map_eq_some_iff.mp h;have h1:=List.mem_of_find?_eq_some hp;have h2:=List.find?_some hp;have h3:p.1=k:=of_decide_eq_true h2;rw[←h3];exact h1
noncomputable def yJ (P:Program) (w:World) (K:yax):W2:=λx y G q=>match x,y with
 | .ref a,.tup ts=>∃kvs o x,ts=aq o/\G a=some (rm P w K kvs)/\eZ kvs o=some x/\q x G
 | x,y=>jm x y G q
theorem vz (hr:aw k A):A.in1.units+20<cLine:=by
 have:=hr.un;show A.units+1+20<cLine;lia
theorem DN (hr:aw k X.A):AJ X (yJ X.prog X.w X.K):=by
 rintro value slice π s σ H x y v u Q I rx ry ⟨wx,wy,G,q,r1,r2,g,h,hQ⟩ hsl;unfold yJ at h;split at h
 ·rename_i a ts;obtain⟨kvs,o,x,rfl,hG,hv,h⟩:=h;cases r1;cases rx;have hD:=(g a _ hG).1;obtain⟨xs,_,kv,dd⟩:=hD.dict I;rcases kv.at (k:=o) with⟨e,_⟩ | ⟨x',b',v',u',e,e',r,ru⟩
  ·rw[e] at hv;cases hv
  ·rw[e] at hv;cases hv;have hdp:o.dp<=3:=hD.2.2.2.1 _ (vy e);cases r2 with
   | @tup b _ _ hT rr=>
     cases (show u=Value.ref b from ry);exact tail_any dd.typeIs PySem.F.slot_dict_getitem.lookup (wpAny_getItem_heap (knd:=j7 X.prog X.w) (vz hr) (j8 I hdp (.tup hT rr)) dd e' ⟨v',H,I.tok _,ru,hQ _ H _ G (aM.refl H) r g h⟩) hsl
 ·exact aE value slice π s σ H x _ v u Q I rx ry ⟨wx,wy,G,q,r1,r2,g,h,hQ⟩ hsl
theorem jn {K:Type} [DecidableEq K] {knd:HeapKind prog w K} {d a:Addr} {xs:List (K×Addr×Value)} {k:K} {dflt:Value} (hu:knd.room A) (hkey:knd.is s.heap k a) (hm:s.heap.DictOfH knd d xs)
 (hthere:∀p,atKey xs k=some p->Q p.2 { s with toks:=s.toks+knd.draws k })
 (hnew:atKey xs k=none->∀h',h'.DictOfH knd d (xs++[(k,a,dflt)])->Heap.SameBut d s.heap h'->Q dflt { s with heap:=h',toks:=s.toks+knd.draws k }) (hsz:xs.length<=sizeLine):
 wpAny (model prog w) A (dictSetDefault d (.ref a) dflt) Q E s:=by
 obtain⟨o,es,ep,ho,hc,hd,he,his,hn⟩:=hm;unfold dictSetDefault
 try with_reducible refine wpAny_holding ?_
 refine wax (knd.pyHash hu hkey ?_);refine wax (wpAny_dictFind_heap (s:={ s with toks:=s.toks+knd.draws k }) hu hkey ho hd he his hn ?_ ?_)
 ·intro hno;have hnot:k∉xs.map (·.1):=not_mem_keys_of_get hno;have hat:=atKey_none_of_get hno;refine wax (wpAny_rule (wax (wpAny_updateDictKeys (hz:=by have e:=size_of_entries he;lia) (s:={ s with toks:=s.toks+knd.draws k }) ho hd (way (hnew hat _ ⟨_,_,ep+1,Heap.get?_update_self _ ho (Obj.isFreed_of_dict (Obj.data_mapDictKeys hd _)),
   hc.mapDictKeys _,Obj.data_mapDictKeys hd _,?_,?_,?_⟩ (Heap.SameBut.update ..))))))
  ·simp[he,entryOfKey]
  ·intro x hx;rcases mem_append.mp hx with hx | hx
   ·exact knd.keeps (his x hx) ho hd (Heap.SameBut.update ..)
   ·simp only[mem_singleton] at hx;subst hx;exact knd.keeps hkey ho hd (Heap.SameBut.update ..)
  ·rw[map_append,List.nodup_append];refine⟨hn,by simp,?_⟩;intro x hx y hy;simp only[map_cons,map_nil,mem_singleton] at hy;subst hy;exact λe=>hnot (e▸hx)
 ·intro j p hj;refine wax (wpAny_dictEntries (s:={ s with toks:=s.toks+knd.draws k }) ho hd ?_);rw[entry_at he j,hj];exact wax (wpAny_rule (way (hthere p (atKey_of_get hn hj))))
theorem il {K:Type} [DecidableEq K] (knd:HeapKind prog w K) (d a:Addr) (hd:(d==sysModules)=false) (dflt:Value):
 MeetsIn prog w (Builtin.«dict.setdefault» ⟨[.ref d,.ref a,dflt],[]⟩) (λA R s=>knd.room A.in1/\∃k xs,knd.is s.heap k a/\s.heap.DictOfH knd d xs/\xs.length<=sizeLine/\
  (∀p,atKey xs k=some p->R (.ok (.ret p.2)) { s with toks:=s.toks+knd.draws k })/\
  (atKey xs k=none->∀h',h'.DictOfH knd d (xs++[(k,a,dflt)])->Heap.SameBut d s.heap h'->R (.ok (.ret dflt)) { s with heap:=h',toks:=s.toks+knd.draws k })):=
 .of_wp λA R s ⟨hu,k,xs,hkey,hm,hz,h1,h2⟩=>by
  unfold Builtin.«dict.setdefault»;refine wax ?_;unfold Builtin.Dict.keyAndDefault;refine wax (wpAny_notOrdered_dict hm.typeIs ?_);show wpAny _ _ (pure (d,Value.ref a,some dflt)) _ _ s;refine way ?_;show wpAny _ _ (if (d==sysModules)=true then _ else (dictSetDefault d (.ref a) dflt >>= _)) _ _ s;rw[ybv (by rw[hd];exact ycy)];exact wax (jn hu hkey hm (λp hp=>way ⟨p.2,rfl,h1 p hp⟩) (λhn h' hm' hs'=>way ⟨dflt,rfl,h2 hn h' hm' hs'⟩) hz)
theorem BC {o e:Expr} {to:TE} {t:TA} {name:Str} {apos cpos:Pos} {id:String} {r:V->List V->Hp->VK->Prop} {ty:V->Hp->Prop} (hty0:∀(π:List (Addr×Obj)) (σ:St) (H:Hp) (s:Shared) (x:V) (v:Value),aB X π σ H s->bc x v->ty x H->s.TypeIs v "dict"/\∀a,v=.ref a->∃ob,s.heap.get? a=some ob/\ob.dict=none)
 (slot:Slot "dict" name id) (hty:typeOf (.builtin id)=pure (.type "method_descriptor")) (hm:CD X id r) (ho:PE X o to) (ha:PA X (e::es) t)
 (hbase:attributeBase o name X.env (eval o X.env)=eval o X.env:=by rfl)
 (hfew:((backTo cpos (starEach (e::es) X.env)).all (λx=>!x.1)&&(backToKw cpos (keywordEach [] X.env)).all (λx=>x.1.isSome)
   &&decide ((e::es).length+([]:List Keyword).length+(if ([]:List Keyword).isEmpty then 0 else 1)<30))=true:=by rfl)
 (hline:(apos.endLine==cpos.line)=true:=by rfl) (hs:starEach (e::es) X.env=(false,eval e X.env)::starEach es X.env:=by rfl) (hplain:(backTo cpos (starEach es X.env)).any (·.1)=false:=by rfl):
 PE X (.Call (.Attribute o name apos) (e::es) [] cpos) (λσ H Q=>to σ H λx H1=>ty x H1/\t σ H1 λxs H2=>r x xs H2 Q):=by
 intro π s σ H Q I h;refine wpAny_Call_method_late hbase hfew hline rfl (bR (ho π s σ H _ I h) λv s1 z9=>?_);obtain⟨x,H1,I1,r1,ty1,q1⟩:=z9;obtain⟨h1,h2⟩:=hty0 _ _ _ _ _ _ I1 r1 ty1;refine⟨"dict",id,PySem.F.plainAttrs_dict,slot,hty,h1,h2,?_⟩;have hA:=ha cpos π s1 σ H1 _ I1 q1;rw[hs] at hA ⊢;refine Calls.callWith_builtin (by show(false||(backTo cpos (starEach es X.env)).any (·.1))=false;rw[hplain]<;> rfl) (Calls.evalArgs_plain ?_);exact bR hA λus s2 ⟨vs,H2,I2,r2,q2⟩=>hm π s2 σ H2 x vs v us Q I2 r1 r2 q2
noncomputable def FB (X:Cx):V->List V->Hp->VK->Prop:=λx vs H Q=>∃a b kvs o d w,x=.ref a/\vs=[.ref b,d]/\kB X.prog X.w X.K kvs H a/\o.dp<=3/\bK X.K H (.tup (aq o)) (.ref b)/\bK X.K H w d/\kvs.length+1<=1000/\
 (∀w' v',eZ kvs o=some w'->bK X.K H w' v'->Q v' H)/\(eZ kvs o=none->∀xs,kB X.prog X.w X.K (kvs++[(o,w)]) (upd H a (.ext (j9 X.prog X.w a xs))) a->aM H (upd H a (.ext (j9 X.prog X.w a xs)))->Q d (upd H a (.ext (j9 X.prog X.w a xs))))
theorem gR.snoc {K:yax} {k:O} {a:Addr} {x:W} {v:V} {u:Value} (rk:bK K H (.tup (aq k)) (.ref a)) (rv:bK K H x v) (ru:bc v u):∀{kvs:List (O×W)} {xs:List (O×Addr×Value)},gR K H kvs xs->gR K H (kvs++[(k,x)]) (xs++[(k,a,u)])
 | _,_,.nil=> .cons rk rv ru .nil
 | _,_,.cons r1 r2 r3 t=> .cons r1 r2 r3 (gR.snoc rk rv ru t)
theorem gR.length {K:yax}:∀{kvs:List (O×W)} {xs:List (O×Addr×Value)},gR K H kvs xs->xs.length=kvs.length
 | _,_,.nil=>rfl
 | _,_,.cons _ _ _ t=>by rw[length_cons,length_cons,gR.length t]
theorem aM.ex {φ:Heap->Prop} (hp:H a=some (.ext φ)) (o:HO):aM H (upd H a o):=
 ⟨λ_ _ h=>by rw[aG (fS h hp (by intro z;cases z))];exact h,λ_ _ _ h=>by rw[aG (fS h hp (by intro z;cases z))];exact h⟩
theorem BD (hr:aw k X.A):CD X "dict.setdefault" (FB X):=by
 rintro π s σ H x vs v us Q I rx rv ⟨a,b,kvs,o,d,w,e1,e2,hD,hdp,hk,hw,hl,h1,h2⟩;subst e1 e2;cases rx;obtain⟨u1,u2,rfl,r1,r2⟩:=qh rv;cases (show u1=Value.ref b from r1);obtain⟨xs,eH,kv,dd⟩:=hD.dict I;have hsz:xs.length<=sizeLine:=by rw[kv.length,sizeLine_eq];lia
 refine call_meetsIn PySem.F.slot_dict_setdefault dd.typeIs PySem.F.entry_dict_setdefault (PySem.F.args_dict_setdefault_3 _ _ _) (il (j7 X.prog X.w) a b hD.2.1 u2) ⟨vz hr,o,xs,j8 I hdp hk,dd,hsz,λp hp=>?_,λhn h' hm' hs'=>?_⟩
 ·rcases kv.at (k:=o) with⟨e,e'⟩ | ⟨x',b',v',u',e,e',r,ru⟩
  ·rw[e'] at hp;cases hp
  ·rw[e'] at hp;cases hp;exact⟨v',H,I.tok _,ru,h1 x' v' e r⟩
 ·rcases kv.at (k:=o) with⟨e,e'⟩ | ⟨x',b',v',u',e,e',r,ru⟩
  ·have tl:=aM.ex eH (.ext (j9 X.prog X.w a (xs++[(o,b,u2)])));obtain⟨ob,es,ep,m1,m2,m3,m4,_⟩:=id hm';have dh:j9 X.prog X.w a (xs++[(o,b,u2)]) h':=⟨ob,es,ep,m1,m2,m3,m4⟩;refine⟨d,_,lT (t':=s.toks+(j7 X.prog X.w).draws o) I (by rw[eH];exact True.intro) hs' ⟨ob,m1⟩ (rz dh),r2,h2 e _ ⟨by rw[length_append];exact hl,hD.2.1,?_,λp hp=>?_,_,aX,(gR.snoc hk hw r2 kv).mono tl⟩ tl⟩
   ·rw[map_append,List.nodup_append];refine⟨hD.2.2.1,by simp,λx hx y hy z=>?_⟩;simp only[map_cons,map_nil,mem_singleton] at hy;rw[hy] at z;obtain⟨p,hp,hpe⟩:=mem_map.mp hx;unfold eZ at e;rw[Option.map_eq_none_iff,List.find?_eq_none] at e;exact e p hp (ycw (hpe.trans z))
   ·rcases mem_append.mp hp with hp | hp
    ·exact hD.2.2.2.1 p hp
    ·rw[mem_singleton.mp hp];exact hdp
  ·rw[hn] at e';cases e'
noncomputable def DO (X:Cx):V->Hp->Prop:=λx H=>∃a kvs,x=.ref a/\kB X.prog X.w X.K kvs H a
theorem vA (π:List (Addr×Obj)) (σ:St) (H:Hp) (s:Shared) (x:V) (v:Value) (I:aB X π σ H s) (rx:bc x v) (h:DO X x H):s.TypeIs v "dict"/\∀a,v=.ref a->∃ob,s.heap.get? a=some ob/\ob.dict=none:=by
 obtain⟨a,kvs,rfl,hD⟩:=h;cases rx;obtain⟨xs,_,_,dd⟩:=hD.dict I;refine⟨dd.typeIs,λb e=>?_⟩;cases e;obtain⟨ob,_,_,m1,m2,_⟩:=dd;exact⟨ob,m1,m2.2.1⟩
noncomputable def BE (P:Program) (w:World) (K:yax) (to tk td:WE):WE:=λτ G q=>to τ G λx G1=>match x with
 | .ref a=>(∃kvs,G1 a=some (rm P w K kvs))/\tk τ G1 λy G2=>td τ G2 λd G3=>∃o kvs,y=.tup (aq o)/\o.dp<=3/\G3 a=some (rm P w K kvs)/\kvs.length+1<=1000/\(∀x,eZ kvs o=some x->q x G3)/\(eZ kvs o=none->q d (aF G3 a (rm P w K (kvs++[(o,d)]))))
 | _=>False
theorem BF {o k e:Expr} {to tk te:WE} {apos cpos:Pos} {n:Nat} (hr:aw n X.A) (ho:QE X o to) (hk:QE X k tk) (he:QE X e te)
 (hbase:attributeBase o "setdefault" X.env (eval o X.env)=eval o X.env:=by rfl)
 (hfew:((backTo cpos (starEach [k,e] X.env)).all (λx=>!x.1)&&(backToKw cpos (keywordEach [] X.env)).all (λx=>x.1.isSome)
   &&decide (([k,e]:List Expr).length+([]:List Keyword).length+(if ([]:List Keyword).isEmpty then 0 else 1)<30))=true:=by rfl)
 (hline:(apos.endLine==cpos.line)=true:=by rfl) (hs:starEach [k,e] X.env=(false,eval k X.env)::starEach [e] X.env:=by rfl) (hs2:starEach [e] X.env=(false,eval e X.env)::starEach [] X.env:=by rfl) (hpl:(backTo cpos (starEach [e] X.env)).any (·.1)=false:=by rfl):
 QE X (.Call (.Attribute o "setdefault" apos) [k,e] [] cpos) (BE X.prog X.w X.K to tk te):=
 (BC vA PySem.F.slot_dict_setdefault PySem.F.type_dict_setdefault (BD hr) ho (cU hk (cU he pa_nil hs2) hs) hbase hfew hline hs hpl).imp λσ H Q z0=>z0.el λτ G q hs hg ht hQ=>
   ⟨τ,G,_,hs,hg,ht,λv H1 w G1 t1 r1 g1 q1=>by
     split at q1
     ·rename_i a;cases r1;obtain⟨⟨kvs,e1⟩,q1⟩:=q1;refine⟨⟨a,kvs,rfl,(g1 a _ e1).1⟩,τ,G1,_,hs.mono t1,g1,q1,λv2 H2 w2 G2 t2 r2 g2 q2=>?_⟩;refine⟨τ,G2,_,(hs.mono t1).mono t2,g2,q2,λv3 H3 w3 G3 t3 r3 g3 q3=>?_⟩;obtain⟨o,kvs,rfl,hdp,e2,hl,h1,h2⟩:=q3;have r2':=r2.mono t3;have tt:=(t1.trans t2).trans t3;cases r2 with
      | @tup b _ _ hT rr=>
        refine⟨a,b,kvs,o,v3,w3,rfl,rfl,(g3 a _ e2).1,hdp,r2',r3,hl,λw' v' hv rv'=>hQ _ _ _ _ tt rv' g3 (h1 w' hv),λhn xs hD tl=>?_⟩;exact hQ _ _ _ _ (tt.trans tl) (r3.mono tl) (g3.lay (g:=rm X.prog X.w X.K (kvs++[(o,w3)])) tl hD.ok) (h2 hn)
     ·exact q1.elim⟩
end
open PySem PySem.Spec PyProof.Rows Nm PySem.W
noncomputable def sE {α:Type} (lt:Nat->Nat->Bool):KasT α->α
 | .ret a=>a
 | .ask i j k=>sE lt (k (lt i j))
noncomputable def BG {α:Type} (n:Nat):KasT α->Bool
 | .ret _=>true
 | .ask i j k=>decide (i<n)&&decide (j<n)&&BG n (k true)&&BG n (k false)
theorem n6 {α:Type} {n:Nat} {lt:Nat->Nat->Bool} {cmp:Nat->Nat->(Bool->Shared->Prop)->Shared->Prop} {s:Shared} (hc:∀i j,i<n->j<n->∀C:Bool->Shared->Prop,C (lt i j) s->cmp i j C s) {Q:α->Shared->Prop}:∀t:KasT α,BG n t=true->Q (sE lt t) s->t.kasWp cmp Q s
 | .ret a,_,h=>h
 | .ask i j k,ok,h=>by
   simp only[BG,Bool.and_eq_true,decide_eq_true_eq] at ok;refine hc i j ok.1.1.1 ok.1.1.2 _ ?_;have h:Q (sE lt (k (lt i j))) s:=h;have:BG n (k (lt i j))=true:=by
    cases lt i j with
    | true=>exact ok.1.2
    | false=>exact ok.2
   exact n6 hc (k (lt i j)) this h
noncomputable def sF (σ:List Nat) (i j:Nat):Bool:=decide (σ.getD i 0<σ.getD j 0)
noncomputable def DQ (n:Nat) (σ:List Nat):Bool:=((sE (sF σ) (kas_sort n)).toList.map λi=>σ.getD i 0)==List.range n&&(sE (sF σ) (kas_sort n)).toList.all λi=>decide (i<n)
noncomputable def yK (n:Nat):Nat->List (List Nat)
 | 0=>[[]]
 | m+1=>(yK n m).flatMap λl=>(List.range n).map λx=>x::l
theorem n8 {n:Nat}:∀{l:List Nat},(∀x,x∈l->x<n)->l∈yK n l.length
 | [],_=>mem_singleton.mpr rfl
 | x::l,h=>List.mem_flatMap.mpr ⟨l,n8 λy hy=>h y (yay _ hy),mem_map.mpr ⟨x,List.mem_range.mpr (h x yaz),rfl⟩⟩
noncomputable def EB:List Nat->Bool
 | []=>true
 | x::l=>!l.contains x&&EB l
theorem vB:∀{l:List Nat},l.Nodup->EB l=true
 | [],_=>rfl
 | x::l,h=>by
   rw[nodup_cons] at h;rw[EB,vB h.2,Bool.and_true];simpa using h.1
noncomputable def sG (n:Nat):Bool:=BG n (kas_sort n)&&(yK n n).all λσ=>!EB σ||DQ n σ
theorem FC:sG 2=true:=by decide+kernel
theorem FD:sG 3=true:=by decide+kernel
theorem FE:sG 4=true:=by decide+kernel
theorem FF:sG 5=true:=by decide+kernel
theorem BH {n:Nat} (h2:2<=n) (h5:n<=5):sG n=true:=by
 have:n=2∨n=3∨n=4∨n=5:=by lia
 rcases this with rfl | rfl | rfl | rfl
 ·exact FC
 ·exact FD
 ·exact FE
 ·exact FF
section
variable {X:Cx} {π:List (Addr×Obj)} {σ:St} {H:Hp} {s:Shared}
theorem mI (I:aB X π σ H s) {a b:O} {p q:Addr} (da:a.dp<=3) (rp:bK X.K H (.tup (aq a)) (.ref p)) (rq:bK X.K H (.tup (aq b)) (.ref q)):∃its its2:List Value,IsTup s.heap p its.toArray/\IsTup s.heap q its2.toArray/\its.length=a.len/\its2.length=b.len/\∀A:Around,A.units+20<cLine->gs A s its its2 (decide (O.cmp a b<0)):=by
 cases rp with
 | tup hT r=>
   cases rq with
   | tup hT2 r2=>
     obtain⟨its,rv,pt,_⟩:=I.tuple (cY.of hT);obtain⟨its2,rv2,pt2,_⟩:=I.tuple (cY.of hT2);obtain⟨l1,l2⟩:=ii a b;have hd:=eB a;refine⟨its,its2,pt,pt2,by rw[←rv.length,←r.length,aY],by rw[←rv2.length,←r2.length,aY],λA hu=>?_⟩;rw[←l2];exact qA I 10 A (λh1 h2 h3 h4 q1 q2 q3 q4=>ul I 10 A h1 h2 h3 h4 (by lia) q1 q2 q3 q4) (by lia) (by lia) (bX a) (bX b) l1 r r2 rv rv2
theorem BI (I:aB X π σ H s) {a b:O} {p q:Addr} (da:a.dp<=3) (rp:bK X.K H (.tup (aq a)) (.ref p)) (rq:bK X.K H (.tup (aq b)) (.ref q)) (hu:A.units+25<cLine):lW A s (.ref p) (.ref q) (decide (O.cmp a b<0)):=by
 obtain⟨its,its2,p1,p2,_,_,hc⟩:=mI I da rp rq;exact lW.tuples p1 p2 (by lia) (hc A.in1 (by show A.units+1+20<cLine;lia))
theorem vC {x y:Value} {b:Bool} (h:lW A s x y b) {Q:Bool->Shared->Prop} (q:Q b s):wpAny (model prog w) A (oneLt' false x y) Q E s:=by
 refine kat_one x y ?_;show wpAny (model prog w) A (richCompare .Lt x y) _ E s;exact h prog w E _ q
theorem yL (I:aB X π σ H s) {a b:O} {p q:Addr} (da:a.dp<=3) (rp:bK X.K H (.tup (aq a)) (.ref p)) (rq:bK X.K H (.tup (aq b)) (.ref q)) (hu:A.units+25<cLine) {Q:Bool->Shared->Prop} (h:Q (decide (O.cmp a b<0)) s):wpAny (model X.prog X.w) A (keyLt' general' (.ref p) (.ref q)) Q E s:=vC (BI I da rp rq hu) h
theorem vD {prog:Program} {w:World} {A:Around} {Q:Bool->Shared->Prop} {r:Bool} {s:Shared} {fin:Bool}:∀{xs ys:ydw} {i:Nat},gs A s xs ys r->(xs.length=ys.length->fin=false)->(xs.length<ys.length->fin=true)->(ys.length<xs.length->fin=false)->Q r s->KatLex prog w A false fin Q (xs.zip ys) i s
 | _,_,i,.nn,h1,_,_,q=>by
   have:=h1 rfl;subst this;exact q
 | _,_,i,.nc,_,h2,_,q=>by
   have:=h2 (by simp);subst this;exact q
 | _,_,i,.cn,_,_,h3,q=>by
   have:=h3 (by simp);subst this;exact q
 | _,_,i,.eq he t,h1,h2,h3,q=>by
   refine kat_cons (he prog w _ _ (kat_yes ?_));exact vD t (λe=>h1 (by simp[e])) (λe=>h2 (by simpa using e)) (λe=>h3 (by simpa using e)) q
 | _,_,i,.ne he t,_,_,_,q=>by
   refine kat_cons (he prog w _ _ (kat_no ?_));rw[Bool.false_and];exact vC t q
theorem yM (I:aB X π σ H s) {a b:O} {p q:Addr} (da:a.dp<=3) (rp:bK X.K H (.tup (aq a)) (.ref p)) (rq:bK X.K H (.tup (aq b)) (.ref q)) (hu:A.units+25<cLine) {Q:Bool->Shared->Prop} (h:Q (decide (O.cmp a b<0)) s):wpAny (model X.prog X.w) A (keyLt' (tuples' false) (.ref p) (.ref q)) Q E s:=by
 obtain⟨its,its2,⟨o1,e1,c1,n1,d1⟩,⟨o2,e2,c2,n2,d2⟩,_,_,hc⟩:=mI I da rp rq;refine kat_lt e1 d1 e2 d2 (vD (hc A (by lia)) (λe=>?_) (λe=>?_) (λe=>?_) h)
 ·exact ycz (by simp only[size_toArray];simp at e;lia)
 ·exact ycw (by simpa using e)
 ·exact ycz (by simp only[size_toArray];simp at e;lia)
theorem yN (I:aB X π σ H s) {a b:O} {p q:Addr} (da:a.dp<=3) (rp:bK X.K H (.tup (aq a)) (.ref p)) (rq:bK X.K H (.tup (aq b)) (.ref q)) (hu:A.units+25<cLine) {Q:Bool->Shared->Prop} (h:Q (decide (O.cmp a b<0)) s):wpAny (model X.prog X.w) A (keyLt' oneType' (.ref p) (.ref q)) Q E s:=by
 obtain⟨its,its2,⟨⟨cl1,dd1,da1,sl1⟩,e1,c1,n1,d1⟩,⟨⟨cl2,dd2,da2,sl2⟩,e2,c2,n2,d2⟩,_,_,hc⟩:=mI I da rp rq;simp only at c1 d1 c2 d2;subst c1 d1 c2 d2;have ty:s.TypeIs (.ref p) "tuple":=⟨_,e1,rfl⟩;rw[keyLt'_oneType,oneLt'_eq];simp only[if_true];refine wax (wpAny_cRoomFor_or (.inr (by lia)) ?_);refine wax (wpAny_callSpecialIfBound?_slot (name:=Str.ofString "__lt__") ty PySem.F.slot_tuple_lt (call_meets PySem.F.slot_tuple_lt ty PySem.F.entry_tuple_lt (PySem.F.args_tuple_lt_2 _ _) (jJ p q its.toArray its2.toArray n1 n2 dd1 dd2 sl1 sl2 (decide (O.cmp a b<0))) ⟨e1,e2,by simpa using hc A.in1 (by show A.units+1+20<cLine;lia),?_⟩));exact wpAny_truthy_bool h
end
noncomputable def fZ (h:Heap) (d:Addr) (es:Array DictEntry) (ep:Nat):Prop:=∃o,h.get? d=some o/\o.ExactDict/\o.data=.dict es ep
theorem fZ.at {h h':Heap} {d:Addr} {es:Array DictEntry} {ep:Nat} (x:fZ h d es ep) (k:∀o,h.get? d=some o->h'.get? d=some o):fZ h' d es ep:=let ⟨o,e,r⟩:=x;⟨o,k o e,r⟩
theorem fZ.ty {d:Addr} {es:Array DictEntry} {ep:Nat} (x:fZ s.heap d es ep):s.TypeIs (.ref d) "dict":=let ⟨o,e,c,_⟩:=x;⟨o,e,c.1⟩
section
variable {prog:Program} {w:World} {A:Around} {E:ydz} {s:Shared} {it d:Addr} {i ep:Nat} {es:Array DictEntry}
theorem vE (lo:(d==sysModules)=false) (x:fZ s.heap d es ep)
 (q:Q (.ref s.heap.objs.size) { s with heap:=s.heap.push { cls:= .type "dict_keyiterator",data:= .fields #[.ref d,.int 0 0,.int es.size 0,.int ep 0] } }):wpAny (model prog w) A (pyIter (.ref d)) Q E s:=by
 have ty:=x.ty;obtain⟨o,gO,_,dO⟩:=x;refine wpAny_pyIter_slot ty F.slot_dict_iter (wpAny_call_entry F.slot_dict_iter ty F.entry_dict_iter ?tree (F.args_dict_iter_1 _))
 case tree=>
  unfold Builtin.«dict.__iter__» Builtin.Dict.dictSlotNone;refine wax (wax (wpAny_notOrdered_dict ty (way (a:=Value.ref d) ?_)));show wpAny _ _ (Builtin.Dict.showsAll d >>= _) _ _ s;unfold Builtin.Dict.showsAll;rw[lo,ybv ycy];refine wax (way (wax (wpAny_dictEntries gO dO (wax (wpAny_dictEpoch gO dO ?_)))));refine wax (wpAny_newObj_type (way ⟨_,rfl,"dict_keyiterator",_,⟨_,yav _ rfl,rfl⟩,F.slot_dict_keyiterator_next.lookup,?_⟩));simpa[rawInt] using q
theorem vF {Q:Option Value->Shared->Prop} (ki:s.heap.IsKeyIter it d i es.size ep) (x:fZ s.heap d es ep) (hi:i<es.size)
 (q:∀h',h'.IsKeyIter it d (i+1) es.size ep->Heap.SameBut it s.heap h'->Q (some es[i].key) { s with heap:=h' }):wpAny (model prog w) A (pyNext (.ref it)) Q E s:=by
 have tk:=ki.typeIs;obtain⟨o,gI,cI,dI⟩:=id ki;obtain⟨od,gO,_,dO⟩:=x;unfold pyNext;refine wax (wpAny_attempt (wpAny_callSpecial?_slot (name:=Str.ofString "__next__") tk F.slot_dict_keyiterator_next (wpAny_call_entry F.slot_dict_keyiterator_next tk F.entry_dict_keyiterator_next ?tree (F.args_dict_keyiterator_next_1 _))))
 case tree=>
  refine wax (way (wax (wax ?_)))
  first | refine wax (wpAny_typeNameOfWhole_keyiter tk (way (wax (wpAny_fieldsOf gI dI ?_)))) | refine wax (wpAny_typeNameOf_keyiter tk (way (wax (wpAny_fieldsOf gI dI ?_))))
  simp only[show Builtin.Dict_items.ownsTuple "dict_keyiterator"=false from by decide,Bool.false_eq_true,if_false];show wpAny _ _ (if (Value.ref d==Value.none)=true then _ else _) _ _ s;rw[show(Value.ref d==Value.none)=false from rfl,ybv ycy];refine wax (way (wax (wpAny_dictEntries gO dO ?_)));rw[ybv (by simp)];refine wax (way (wax (wpAny_dictEpoch gO dO ?_)));rw[ybv (by simp)];refine way ?_;simp only[show ¬((i:Int)<0) from by lia,if_false,Int.toNat_natCast,Array.getElem?_eq_getElem hi];refine wax ?_
  first | refine wax (wpAny_typeNameOfWhole_keyiter tk (way (wax (wpAny_isOneOf_keyiter tk ?_)))) | refine wax (wpAny_typeNameOf_keyiter tk (way (wax (wpAny_isOneOf_keyiter tk ?_))))
  show wpAny _ _ (setField (.ref it) 1 (rawInt ((i:Int)+1)) >>= _) _ _ s;refine wax (wpAny_setField gI dI (by simp) ?_);have ki':(s.heap.update it (Obj.mapFields (·.setIfInBounds 1 (rawInt ((i:Int)+1))))).IsKeyIter it d (i+1) es.size ep:=
   ⟨_,Heap.get?_update_self _ gI (Obj.isFreed_of_fields (Obj.data_mapFields dI _)),(Obj.cls_mapFields ..).trans cI,by rw[Obj.data_mapFields dI];simp[rawInt]⟩
  refine wax (wpAny_holding (wax (wpAny_isOneOf_keyiter (s:={ s with heap:=s.heap.update it (Obj.mapFields (·.setIfInBounds 1 (rawInt ((i:Int)+1)))) }) ki'.typeIs ?_)));exact way (a:=es[i].key) (way ⟨_,rfl,way (q _ ki' (Heap.SameBut.update ..))⟩)
theorem yO {Q:Option Value->Shared->Prop} (hh:A.handled=none) (ki:s.heap.IsKeyIter it d i es.size ep) (x:fZ s.heap d es ep) (hi:es.size<=i)
 (q:∀h',Heap.ExtBut it s.heap h'->Q none { s with heap:=h' }):wpAny (model prog w) A (pyNext (.ref it)) Q E s:=by
 have tk:=ki.typeIs;obtain⟨o,gI,cI,dI⟩:=id ki;obtain⟨od,gO,_,dO⟩:=x;unfold pyNext;refine wax (wpAny_attempt (wpAny_callSpecial?_slot (name:=Str.ofString "__next__") tk F.slot_dict_keyiterator_next (wpAny_call_entry F.slot_dict_keyiterator_next tk F.entry_dict_keyiterator_next ?tree (F.args_dict_keyiterator_next_1 _))))
 case tree=>
  refine wax (way (wax (wax ?_)))
  first | refine wax (wpAny_typeNameOfWhole_keyiter tk (way (wax (wpAny_fieldsOf gI dI ?_)))) | refine wax (wpAny_typeNameOf_keyiter tk (way (wax (wpAny_fieldsOf gI dI ?_))))
  simp only[show Builtin.Dict_items.ownsTuple "dict_keyiterator"=false from by decide,Bool.false_eq_true,if_false];show wpAny _ _ (if (Value.ref d==Value.none)=true then _ else _) _ _ s;rw[show(Value.ref d==Value.none)=false from rfl,ybv ycy];refine wax (way (wax (wpAny_dictEntries gO dO ?_)));rw[ybv (by simp)];refine wax (way (wax (wpAny_dictEpoch gO dO ?_)));rw[ybv (by simp)];refine way ?_;simp only[show ¬((i:Int)<0) from by lia,if_false,Int.toNat_natCast,Array.getElem?_eq_none hi];refine wax ?_
  first | refine wax (wpAny_typeNameOfWhole_keyiter tk (way ?_)) | refine wax (wpAny_typeNameOf_keyiter tk (way ?_))
  show wpAny _ _ (setField (.ref it) 0 .none >>= _) _ _ s;refine wax (wpAny_setField gI dI (by simp) ?_);show wpAny _ _ (newExc (.type "StopIteration") [] >>= _) _ _ _;refine wax ?_;simp only[newExc,newTuple];refine wax (wpAny_newObj_type (wax (m:=firstArgMember _ _) (wpAny_of_eq (a:=Value.none) (by first | rfl | (simp only[firstArgMember];rfl)) (wpAny_newObj_type ?_ (by size_fits)))) (by size_fits));simp only[raiseNew];refine wax (wpAny_handled ?_);rw[show A.in1.handled=none from hh];refine wax (way (wpAny_throw ?_));refine wax (wpAny_isInstance (T:="StopIteration") (b:=true) ⟨_,yav _ rfl,rfl⟩ isSubtype_stop ?_);exact way (q _ (((Heap.SameBut.update ..).extBut.push _).push _))
theorem sH (hh:A.handled=none) (I:Addr) (hne:d≠I):Walks prog w A I [I,d] [I] es.size (λi v=>∃e,es[i]?=some e/\v=e.key) (λi h=>h.IsKeyIter I d i es.size ep/\fZ h d es ep) where
 sub:=λb hb=>by simp at hb;simp[hb]
 frame:=λ_ _ _ st hk=>⟨st.1.at λo e=>hk I (by simp) o e,st.2.at λo e=>hk d (by simp) o e⟩
 item:=λi s Q E hi st hQ=>vF st.1 st.2 hi λh' ki' sb=>hQ _ h' s.toks ⟨_,Array.getElem?_eq_getElem hi,rfl⟩ ⟨ki',st.2.at λo e=>(sb.2 d hne).trans e⟩ λb o hb e=>(sb.2 b (λz=>hb (by simp[z]))).trans e
 done:=λs Q E st hQ=>yO hh st.1 st.2 (yby _) λh' eb=>hQ h' s.toks λb o hb e=>eb b o (λz=>hb (by simp[z])) e
 self:=λ_ _ _ _ st hQ=>wpAny_pyIter_keyiter st.1 hQ
theorem yP (lo:(d==sysModules)=false):KdlSrc prog w "dict" d d es.size (λi v=>∃e,es[i]?=some e/\v=e.key) (λh=>fZ h d es ep) where
 type:=λ_ x=>x.ty
 there:=λ_ x=>let ⟨_,e,_⟩:=x;⟨ybx e,ybx e⟩
 keep:=λ_ _ x hk=>x.at λo e=>hk d (.inl rfl) o e
 notList:=by decide
 notTuple:=by decide
 hint:=λ_ _ _ _ x hq=>kdl_hint_dict x.ty hq
 iter:=λ_ _ hh x=>⟨_,_,(λ_ _ hq=>vE lo x hq),sH hh _ (let ⟨_,e,_⟩:=x;ne_of_lt (ybx e)),⟨⟨_,yav _ rfl,rfl,rfl⟩,x.at λo e=>yaw _ e⟩⟩
end
end L2
set_option maxHeartbeats 1000000
namespace L2
open PySem PySem.Spec PyProof.Rows Nm PySem.W
inductive NV (K:yax) (H:Hp):List O->List Value->Prop where
 | nil:NV K H [] []
 | cons {o:O} {a:Addr} {os:List O} {us:ydw} (r:bK K H (.tup (aq o)) (.ref a)) (hd:o.dp<=3) (t:NV K H os us):NV K H (o::os) (.ref a::us)
theorem NV.length {H:Hp}:∀{os:List O} {us:ydw},NV K H os us->os.length=us.length
 | _,_,.nil=>rfl
 | _,_,.cons _ _ t=>congrArg (·+1) t.length
theorem NV.app {H:Hp}:∀{os ps:List O} {us vs:ydw},NV K H os us->NV K H ps vs->NV K H (os++ps) (us++vs)
 | _,_,_,_,.nil,t=>t
 | _,_,_,_,.cons r hd t,t2=> .cons r hd (t.app t2)
theorem NV.rev {H:Hp}:∀{os:List O} {us:ydw},NV K H os us->NV K H os.reverse us.reverse
 | _,_,.nil=> .nil
 | _,_,.cons r hd t=>by
   rw[List.reverse_cons,List.reverse_cons];exact t.rev.app (.cons r hd .nil)
theorem NV.at {H:Hp}:∀{os:List O} {us:ydw},NV K H os us->∀i,i<os.length->∃a,us.getD i Value.none=.ref a/\bK K H (.tup (aq (os.getD i .z))) (.ref a)/\(os.getD i .z).dp<=3
 | _,_,.nil,i,h=>absurd h (Nat.not_lt_zero _)
 | _,_,.cons r hd t,0,_=>⟨_,rfl,r,hd⟩
 | _,_,.cons r hd t,i+1,h=>t.at i (Nat.lt_of_succ_lt_succ h)
theorem NV.pick {H:Hp} {os:List O} (h:NV K H os us):∀{p:List Nat},(∀i,i∈p->i<os.length)->NV K H (p.map λi=>os.getD i .z) (p.map λi=>us.getD i Value.none)
 | [],_=> .nil
 | i::p,hp=>by
   obtain⟨a,h1,h2,h3⟩:=h.at i (hp i yaz);rw[map_cons,map_cons,h1];exact .cons h2 h3 (h.pick λj hj=>hp j (yay _ hj))
section
variable {X:Cx} {π:List (Addr×Obj)} {σ:St} {H:Hp} {s:Shared}
theorem iT {M:Model} {o:Obj} {h:Heap} (e:h.get? a=some o) (c:o.cls=.type "tuple"):Looks M h (typeOf (.ref a)) (.type "tuple"):=c▸((Looks.ld e).andThen .now)
theorem lA (I:aB X π σ H s) {M:Model} {A:Around} {E:ydz}:∀{os:List O} {us:ydw},NV X.K H os us->∃fs:List (Option Value),fs.length=us.length/\(∀v,some v∈fs->Looks M s.heap (typeOf v) (.type "tuple"))/\∀{Q:List (Option Value)->Shared->Prop},Q fs s->wpAny M A (us.mapM firstOfTuple') Q E s
 | _,_,.nil=>⟨[],rfl,(λ_ h=>(nomatch h)),λq=>by rw[List.mapM_nil];exact way q⟩
 | _,_,.cons (o:=o) (a:=a) (us:=us) r hd t=>by
   obtain⟨fs,h1,h2,h3⟩:=lA I t;cases r with
   | tup hT rr=>
     obtain⟨its,rv,⟨ob,e,c,n,dd⟩,_⟩:=I.tuple (cY.of hT);refine⟨its[0]?::fs,by simp[h1],λv hv=>?_,λ{Q} q=>?_⟩
     ·rcases mem_cons.mp hv with hv | hv
      ·cases o with
       | z=>
         cases rr;cases rv;cases hv
       | c e1 n1 r1=>
         rw[bW] at rr;cases rr with
         | cons q1 qs=>
           cases rv with
           | cons w1 ws=>
             cases hv;unfold iu at q1;cases q1 with
             | tup hT2 _=>
               obtain⟨its2,_,⟨ob2,e2,c2,n2,dd2⟩,_⟩:=I.tuple (cY.of hT2);cases (show v=Value.ref _ from w1);exact iT e2 c2
      ·exact h2 v hv
     ·rw[List.mapM_cons];refine wax ?_;rw[kas_first_eq];refine wax ((iT e c).here ?_);rw[ybv (by decide)];refine wax (listItems_at e dd (way (wax (h3 (way ?_)))));simpa using q
theorem n9 (I:aB X π σ H s) {M:Model}:∀{os:List O} {us:ydw},NV X.K H os us->∀v,v∈us->Looks M s.heap (typeOf v) (.type "tuple")
 | _,_,.nil,v,hv=>(nomatch hv)
 | _,_,.cons r hd t,v,hv=>by
   rcases mem_cons.mp hv with rfl | hv
   ·cases r with
    | tup hT rr=>
      obtain⟨its,rv,⟨ob,e,c,n,dd⟩,_⟩:=I.tuple (cY.of hT);exact iT e c
   ·exact n9 I t v hv
theorem og {M:Model} {vs:ydw} (hne:vs≠[]) (hT:∀v,v∈vs->Looks M s.heap (typeOf v) (.type "tuple")) {Q:Option Value->Shared->Prop} (q:Q (some (.type "tuple")) s):wpAny M A (oneTypeOnly' vs.toArray) Q E s:=by
 rw[oneTypeOnly'_eq,List.mapM_toArray,map_eq_pure_bind];refine wax (wax (kas_mapM (r:=Value.type "tuple") _ (λv hv Q' hq=>(hT v hv).here hq) (way ?_)));cases vs with
 | nil=>exact absurd rfl hne
 | cons v vs=>
   have e0:(List.map (λ_=>Value.type "tuple") (v::vs)).toArray[0]?=some (Value.type "tuple"):=by simp
   have e1:((List.map (λ_=>Value.type "tuple") (v::vs)).toArray.all λx=>x==Value.type "tuple")=true:=by simp
   rw[e0];simp only[e1,if_true];exact way q
theorem yQ (I:aB X π σ H s) {os:List O} (nv:NV X.K H os us) (h1:1<=us.length) {Q:SortKind->Shared->Prop} (q:∀κ,(κ=tuples' false∨κ=general'∨κ=oneType')->Q κ s):wpAny (model X.prog X.w) A (keyKind' us.toArray) Q E s:=by
 obtain⟨fs,l1,l2,l3⟩:=lA (M:=model X.prog X.w) (A:=A) (E:=E) I nv;have hne:us≠[]:=λz=>by rw[z] at h1;exact absurd h1 (by decide)
 rw[kat_kind_eq,List.mapM_toArray,map_eq_pure_bind];refine wax (wax (l3 (way ?_)))
 by_cases hall:(fs.toArray.all λx=>x.isSome)=true
 ·rw[ycx hall];refine wax (wpAny_rule ?_);have hfm:(fs.toArray.filterMap id)=(fs.filterMap id).toArray:=by simp
  rw[hfm];refine wax (og ?_ (λv hv=>?_) ?_)
  ·intro z;have:fs≠[]:=λz2=>by rw[z2] at l1;exact hne (List.eq_nil_of_length_eq_zero l1.symm)
   cases fs with
   | nil=>exact this rfl
   | cons f fs=>
     cases f with
     | none=>simp at hall
     | some v=>simp at z
  ·obtain⟨x,hx,hv⟩:=List.mem_filterMap.mp hv;exact l2 v (by rw[←hv];exact hx)
  ·exact way (q _ (.inl rfl))
 ·rw[ybv hall]
  by_cases h0:(fs.toArray[0]?.bind id).isSome=true
  ·rw[ycx h0];exact way (q _ (.inr (.inl rfl)))
  ·rw[ybv h0];refine wax (og hne (n9 I nv) ?_);exact way (q _ (.inr (.inr rfl)))
theorem yR (I:aB X π σ H s) {a b:O} {p q:Addr} (da:a.dp<=3) (rp:bK X.K H (.tup (aq a)) (.ref p)) (rq:bK X.K H (.tup (aq b)) (.ref q)) (hu:A.units+25<cLine) {κ:SortKind} (hκ:κ=tuples' false∨κ=general'∨κ=oneType') {Q:Bool->Shared->Prop} (h:Q (decide (O.cmp a b<0)) s):wpAny (model X.prog X.w) A (keyLt' κ (.ref p) (.ref q)) Q E s:=by
 rcases hκ with rfl | rfl | rfl
 ·exact yM I da rp rq hu h
 ·exact yL I da rp rq hu h
 ·exact yN I da rp rq hu h
theorem sI (vs:ydw):(vs.toArray.zip vs.toArray).reverse=pairsOf vs.reverse:=by
 apply Array.toList_inj.mp;show(vs.toArray.zip vs.toArray).reverse.toList=(vs.reverse.toArray.zip vs.reverse.toArray).toList;rw[Array.toList_reverse,Array.toList_zip,Array.toList_zip];show(List.zip vs vs).reverse=List.zip vs.reverse vs.reverse;unfold List.zip;exact List.reverse_zipWith rfl
theorem vG {os:List O} {n:Nat} (hn:os.length=n) (h2:2<=n) (h5:n<=5) (hd:os.Nodup):BG n (kas_sort n)=true/\∃p:List Nat,p=(sE (sF (os.map (rk os))) (kas_sort n)).toList/\(p.map λi=>(os.map (rk os)).getD i 0)=List.range n/\∀i,i∈p->i<n:=by
 have hc:=BH h2 h5;unfold sG at hc;rw[Bool.and_eq_true] at hc;refine⟨hc.1,_,rfl,?_⟩;have hm:os.map (rk os)∈yK n n:=by
  have:=n8 (n:=n) (l:=os.map (rk os)) λx hx=>by
   obtain⟨o,ho,rfl⟩:=mem_map.mp hx;rw[←hn];exact A8 ho
  rw[length_map,hn] at this;exact this
 have hnd:(os.map (rk os)).Nodup:=by
  rw[List.Nodup,List.pairwise_map];exact hd.imp_of_mem λ{a b} ha hb hne z=>hne (A9 ha hb z)
 have h3:=all_eq_true.mp hc.2 _ hm;rw[vB hnd,Bool.not_true,Bool.false_or] at h3;unfold DQ at h3;rw[Bool.and_eq_true] at h3;refine⟨by simpa using h3.1,λi hi=>?_⟩;have:=all_eq_true.mp h3.2 i hi;simpa using this
theorem vH {os:List O} {i j:Nat} (hi:i<os.length) (hj:j<os.length):sF (os.map (rk os)) i j=decide (O.cmp (os.getD i .z) (os.getD j .z)<0):=by
 have e:∀k,k<os.length->(os.map (rk os)).getD k 0=rk os (os.getD k .z)/\os.getD k .z∈os:=λk hk=>by
  rw[List.getD_eq_getElem?_getD,List.getD_eq_getElem?_getD,List.getElem?_map,ybw hk];exact⟨rfl,getElem_mem hk⟩
 unfold sF;rw[(e i hi).1,(e j hj).1];exact decide_eq_decide.mpr (uU (e i hi).2 (e j hj).2)
theorem sJ (I:aB X π σ H s) {vs:ydw} {os:List O} {n:Nat} {R:PySem.Fin->Shared->Prop} (ho:s.heap.get? a=some (seqObj "list" vs.toArray n)) (fa:jj X π H a) (nv:NV X.K H os vs) (hnd:os.Nodup) (h5:vs.length<=5) (hu:A.units+25<cLine)
 (h:∀(out:ydw) (ks:List O) (h':Heap) (e:Nat),(∀b o,b≠a->s.heap.get? b=some o->h'.get? b=some o)->h'.get? a=some (seqObj "list" out.toArray e)->NV X.K H ks out->dv ks->ks.Perm os->R (.done (.ret .none)) { s with heap:=h' }):
 wpAny (model X.prog X.w) A (Builtin.«list.sort» ⟨[.ref a],[(Str.ofString "reverse",.bool true)]⟩) R E s:=by
 have hlen:=nv.length;rw[list_sort_rev];have ha:a<s.heap.objs.size:=ybx ho;refine wax (listItems_at ho rfl ?_);refine wax (listUpdate_at ho rfl ?_ (by rw[size_toArray,sizeLine_eq];lia) (zero_le _));obtain⟨e1,ho1⟩:∃e1,(s.heap.update a (Obj.mapSeq λ_=> #[])).get? a=some (seqObj "list" #[] e1):=⟨_,get?_update_seq ho (λ_=> #[])⟩;refine wax (seqEpoch_at ho1 rfl ?_);refine wax (wpAny_newTuple ?_ (by show vs.length<=_;rw[sizeLine_eq];lia));refine wax (wpAny_newList ?_ (zero_le _));refine wpAny_holding ?_;have sb:Heap.SameBut a s.heap (s.heap.update a (Obj.mapSeq λ_=> #[])):=Heap.SameBut.update ..;have keep6:∀b o,b≠a->s.heap.get? b=some o->(((s.heap.update a (Obj.mapSeq λ_=> #[])).push (seqObj "tuple" vs.toArray 0)).push (seqObj "list" #[] 0)).get? b=some o:=λb o hb e=>yaw _ (yaw _ ((sb.2 b hb).trans e));have ho6:(((s.heap.update a (Obj.mapSeq λ_=> #[])).push (seqObj "tuple" vs.toArray 0)).push (seqObj "list" #[] 0)).get? a=some (seqObj "list" #[] e1):=yaw _ (yaw _ ho1);show wpAny (model X.prog X.w) A _ R E { s with heap:=((s.heap.update a (Obj.mapSeq λ_=> #[])).push (seqObj "tuple" vs.toArray 0)).push (seqObj "list" #[] 0) };generalize ((s.heap.update a (Obj.mapSeq λ_=> #[])).push (seqObj "tuple" vs.toArray 0)).push (seqObj "list" #[] 0)=h6 at keep6 ho6 ⊢;obtain⟨f0,f1,f2,f3,f4,f5⟩:=fa;have I6:aB X π σ H { s with heap:=h6 }:=I.turned (t':=s.toks) keep6 f0 f1 f3 f4 f5;simp only[if_true];refine wax (wpAny_rule ?_)
 -- what is left once the order is known
 have fin:∀(out:ydw) (ks:List O),NV X.K H ks out->dv ks->ks.Perm os->out.length=vs.length->wpAny (model X.prog X.w) A (Builtin.List.listUpdate (.ref a) λ_=>out.toArray) (λ_ s'=>∃h' e,s'={ s with heap:=h' }/\(∀b o,b≠a->s.heap.get? b=some o->h'.get? b=some o)/\h'.get? a=some (seqObj "list" out.toArray e)) E { s with heap:=h6 }:=λout ks _ _ _ hl=>by
  refine listUpdate_at ho6 rfl ?_ (zero_le _) (by rw[size_toArray,sizeLine_eq];lia);have sb2:Heap.SameBut a h6 (h6.update a (Obj.mapSeq λ_=>out.toArray)):=Heap.SameBut.update ..;exact⟨_,_,rfl,λb o hb e=>(sb2.2 b hb).trans (keep6 b o hb e),get?_update_seq ho6 λ_=>out.toArray⟩
 by_cases h2:vs.toArray.size<2
 ·rw[ycx h2,ycx h2];refine wax (way ?_);rw[StateT.run_pure];refine wax (way ?_);dsimp only;refine wax (seqEpoch_at ho6 rfl ?_);have eo:((arrOf (SortSt.mk' general' (vs.toArray.zip vs.toArray).reverse #[] 7 none)).map (·.2)).reverse=vs.toArray:=by
   show(((vs.toArray.zip vs.toArray).reverse).map (·.2)).reverse=vs.toArray;apply Array.toList_inj.mp;simp[List.map_snd_zip]
  rw[eo];have hd1:dv os:=by
   have:os.length<2:=by rw[hlen];simpa using h2
   match os,this with
   | [],_=>exact List.Pairwise.nil
   | [x],_=>exact List.pairwise_singleton _ _
  refine wax (wpAny_mono (fin vs os nv hd1 (List.Perm.refl _) rfl) (λ_ s' z9=>?_) λ_ _ x=>x);obtain⟨h',e,es,k1,k2⟩:=z9;subst es;simp only[bne_self_eq_false,Bool.false_eq_true,if_false];exact way (h vs os h' e k1 k2 nv hd1 (List.Perm.refl _))
 ·rw[ybv h2,ybv h2];have hn2:2<=vs.length:=by simpa using h2
  refine wax (yQ I6 nv (by lia) λκ hκ=>?_);have nv':=nv.rev;have hl':os.reverse.length=vs.length:=by rw[length_reverse];exact hlen
  have hnd':os.reverse.Nodup:=by rw[List.Nodup,List.pairwise_reverse];exact hnd.imp λh=>h.symm
  obtain⟨ok,p,hp,hp1,hp2⟩:=vG hl' hn2 h5 hnd';obtain⟨dsc,prm⟩:=xV hl' hnd' hp1 hp2;have nvp:=(nv'.pick (p:=p) λi hi=>by rw[hl'];exact hp2 i hi).rev;have hlp:p.length=vs.length:=by have:=congrArg List.length hp1;simpa using this
  have hask:(kas_sort vs.length).kasWp (kas_cmp X.prog X.w A κ (pairsOf vs.reverse)) (λp' s'=>s'={ s with heap:=h6 }/\p'.toList=p) { s with heap:=h6 }:=by
   refine n6 (n:=vs.length) (lt:=sF (os.reverse.map (rk os.reverse))) (λi j hi hj C hC=>?_) _ ok ⟨rfl,hp.symm⟩;rw[←kas_ask_eq];unfold kas_ask;obtain⟨a1,g1,g2,g3⟩:=nv'.at i (by rw[hl'];exact hi);obtain⟨a2,k1,k2,k3⟩:=nv'.at j (by rw[hl'];exact hj);rw[g1,k1];rw[vH (by rw[hl'];exact hi) (by rw[hl'];exact hj)] at hC;exact yR I6 g3 g2 k2 hu hκ hC
  have est:SortSt.mk' κ (vs.toArray.zip vs.toArray).reverse #[] 7 none=kas_st κ (pairsOf vs.reverse) (List.toArray (List.range vs.length)):=by
   have e:=kas_range (pairsOf vs.reverse);rw[pairsOf_size,length_reverse] at e;rw[sI];show SortSt.mk' κ (pairsOf vs.reverse) #[] 7 none=SortSt.mk' κ ((List.toArray (List.range vs.length)).map (kas_item (pairsOf vs.reverse))) #[] 7 none;rw[e]
  have run:=kas_runs (E:=E) (κ:=κ) (it:=pairsOf vs.reverse) (Q:=λ_ st' s'=>s'={ s with heap:=h6 }/\(arrOf st').map (·.2)=(p.map λi=>vs.reverse.getD i Value.none).toArray/\failedOf st'=none) hn2 (by lia) (λp' st' s' a1 a2 a3 a4=>⟨a4.1,by
   apply Array.toList_inj.mp;rw[a2,Array.map_map,Array.toList_map,a4.2];exact List.map_congr_left λi _=>by show(kas_item (pairsOf vs.reverse) i).2=_;rw[kas_item_eq],a3⟩) hask
  rw[←est] at run;refine wax (wpAny_mono run ?_ λ_ _ e=>e);rintro⟨⟨⟩,st'⟩ s' ⟨rfl,har,hf⟩;dsimp only;refine wax (seqEpoch_at ho6 rfl ?_);rw[har,show(p.map λi=>vs.reverse.getD i Value.none).toArray.reverse=((p.map λi=>vs.reverse.getD i Value.none).reverse).toArray by simp];have prm2:=prm.trans (List.reverse_perm os);refine wax (wpAny_mono (fin _ _ nvp dsc prm2 (by rw[length_reverse,length_map,hlp])) (λ_ s' z9=>?_) λ_ _ x=>x);obtain⟨h',e,es,k1,k2⟩:=z9;subst es;rw[hf];simp only[bne_self_eq_false,Bool.false_eq_true,if_false];exact way (h _ _ h' e k1 k2 nvp dsc prm2)
end
section
variable {X:Cx} {π:List (Addr×Obj)} {σ:St} {H:Hp} {s:Shared}
theorem gR.ents {P:Program} {w:World} {K:yax}:∀{kvs:List (O×W)} {xs:List (O×Addr×Value)},gR K H kvs xs->(∀p,p∈kvs->p.1.dp<=3)->NV K H (kvs.map (·.1)) ((xs.map (entryOfKey (j7 P w))).map (·.key))
 | _,_,.nil,_=> .nil
 | _,_,.cons rk _ _ t,h=> .cons rk (h _ yaz) (gR.ents t λp hp=>h p (yay _ hp))
theorem qc (hr:aw k X.A) (hc:X.calm=true) (I:aB X π σ H s) {d:Addr} {kvs:List (O×W)} (hD:kB X.prog X.w X.K kvs H d) (h5:kvs.length<=5)
 (h:∀(h1:Heap) (ks:List O) (out:ydw) (h':Heap) (tk e:Nat),aB X π σ H { s with heap:=h1,toks:=tk }->(∀b o,h1.get? b=some o->h'.get? b=some o)->h'.get? h1.objs.size=some (seqObj "list" out.toArray e)->NV X.K H ks out->dv ks->ks.Perm (kvs.map (·.1))->Q (.ref h1.objs.size) { s with heap:=h',toks:=tk }):
 wpAny (model X.prog X.w) X.A (call (.builtin "sorted") [.ref d] [(Str.ofString "reverse",.bool true)]) Q E s:=by
 have hun:=hr.un;obtain⟨xs,eH,kv,ob,es,ep,m1,m2,m3,m4,_⟩:=hD.dict I;have hsz:es.size=kvs.length:=by rw[size_of_entries m4,kv.length]
 refine call_function_entry_kw kind_sorted plain_sorted entry_sorted (args_sorted_rev _ _) ?_;unfold Builtin.«sorted»;refine wax (m:=checkCount "sorted" 1 1 _) (way ?_);refine wax (kdu_collect (A:=X.A.in1) (yP (es:=es) (ep:=ep) hD.2.1) (I.ok.hd hc) ⟨ob,m1,m2,m3⟩ (by rw[hsz,sizeLine_eq];lia) λh1 tk acc k1 hacc=>?_);have hal:acc.toList=es.toList.map (·.key):=by
  apply List.ext_getElem?;intro i;rw[List.getElem?_map]
  by_cases hi:i<es.size
  ·have hi2:i<acc.size:=by rw[hacc.1];exact hi
   obtain⟨e,e1,e2⟩:=hacc.2 i acc[i] (Array.getElem?_eq_getElem hi2);rw[Array.getElem?_toList,Array.getElem?_toList,e1,Array.getElem?_eq_getElem hi2,e2]
   rfl
  ·rw[Array.getElem?_toList,Array.getElem?_toList,Array.getElem?_eq_none (by rw[hacc.1];lia),Array.getElem?_eq_none (by lia)]
   rfl
 have nv:NV X.K H (kvs.map (·.1)) acc.toList:=by
  rw[hal,m4];exact gR.ents kv hD.2.2.2.1
 have hlen:acc.toList.length<=5:=by rw[←nv.length,length_map];exact h5
 refine wax (wpAny_newList ?_ (by rw[sizeLine_eq];lia));have I1:aB X π σ H { s with heap:=h1,toks:=tk }:=I.kept k1;have fp:jj X π H h1.objs.size:=I1.fpOk (yby _) (I1.hok.fresh (yby _));have I2:aB X π σ H { s with heap:=h1.push (seqObj "list" acc.toList.toArray 0),toks:=tk }:=I1.kept λb o e=>yaw _ e;refine wax (wpAny_holding (wpAny_call_entry_kw slot_list_sort ⟨_,yav _ rfl,rfl⟩ entry_list_sort (sJ I2 (yav _ rfl) fp nv hD.2.2.1 hlen (by show X.A.units+1+1+25<cLine;lia) λout ks h' e k2 g2 nvk ds pm=>⟨_,rfl,?_⟩) (args_list_sort_rev _ _)));exact way ⟨_,rfl,h h1 ks out h' tk e I1 (λb o e=>k2 b o (ne_of_lt (ybx e)) (yaw _ e)) g2 nvk ds pm⟩
theorem NV.vals {K:yax}:∀{os:List O} {us:ydw},NV K H os us->∃vs:List V,aQ K H (os.map λo=> .tup (aq o)) vs/\aU vs us
 | _,_,.nil=>⟨[],.nil,.nil⟩
 | _,_,.cons (a:=a) r _ t=>by
   obtain⟨vs,h1,h2⟩:=NV.vals t;exact⟨.ref a::vs,.cons r h1,.cons rfl h2⟩
noncomputable def qd (P:Program) (w:World) (K:yax) (te:WE):WE:=λτ G q=>te τ G λx G1=>match x with
 | .ref a=>∃kvs,G1 a=some (rm P w K kvs)/\kvs.length<=5/\∀(p:Addr) (ks:List O),G1 p=none->dv ks->ks.Perm (kvs.map (·.1))->q (.ref p) (aF G1 p (.lst (ks.map λo=> .tup (aq o))))
 | _=>False
theorem oh:bootBuiltins "sorted"=some (.builtin "sorted"):=by decide+kernel
theorem vI {n:Nat} {te:WE} {j} {p pos kp cp:Pos} (hr:aw n X.A) (hc:X.calm=true) (hg:Gl X "sorted") (hm:X.mg "sorted"=none) (he:QE X e te)
 (hs1:starEach [e] X.env=(false,eval e X.env)::starEach [] X.env:=by rfl) (hb1:backTo pos (starEach [e] X.env)=(false,eval e X.env)::backTo pos (starEach [] X.env):=by rfl) (hpl:(backTo pos (starEach [e] X.env)).any (·.1)=false:=by rfl):
 QE X (.Call (.Name "sorted" p) [e] [⟨some "reverse",.Constant (.bool true) j cp,kp⟩] pos) (qd X.prog X.w X.K te):=by
 rintro π s σ H Q I ⟨τ,G,q,hs,hgG,ht,hQ⟩;refine wpAny_Call_Name_kw (fo I hg hm oh ?_);have go:=(cU he pa_nil hs1) pos π s σ H (λvs H1=>∃v w G1,vs=[v]/\aM H H1/\bK X.K H1 w v/\aI X.K H1 G1/\(match w with
  | .ref a=>∃kvs,G1 a=some (rm X.prog X.w X.K kvs)/\kvs.length<=5/\∀(p:Addr) (ks:List O),G1 p=none->dv ks->ks.Perm (kvs.map (·.1))->q (.ref p) (aF G1 p (.lst (ks.map λo=> .tup (aq o))))
  | _=>False)) I ⟨τ,G,_,hs,hgG,ht,λv H1 w G1 t1 r1 g1 q1=>⟨v,w,G1,rfl,t1,r1,g1,q1⟩⟩
 refine callWith_kw (bR go λus s1 ⟨vs,H1,I1,rv,v,w,G1,ev,t1,rw1,g1,hw⟩=>kws_cons ?_) hb1 hpl rfl rfl;subst ev;refine bR (y9 (X:=X) (b:=true) (j:=j) (pos:=cp) π s1 σ H1 (λv H2=>v=.bl true/\H2=H1) I1 ⟨rfl,rfl⟩) λu2 s2 ⟨v2,H2,I2,rv2,e1,e2⟩=>kws_nil ?_;subst e1 e2;cases (show u2=Value.bool true from rv2);show wpAny _ _ (call (.builtin "sorted") us [("reverse",.bool true)]) _ _ s2;split at hw
 ·rename_i a;obtain⟨kvs,e,h5,h⟩:=hw;cases rw1;obtain⟨u,rfl,ru⟩:=fT rv;cases (show u=Value.ref a from ru);refine qc hr hc I2 (g1 a _ e).1 h5 λh1 ks out h' tk ee I3 k3 g3 nvk ds pm=>?_;obtain⟨vs,r1,r2⟩:=nvk.vals;have hl:ks.length<=5:=by have:=pm.length_eq;rw[length_map] at this;lia
  have hp:=I3.hok.fresh (yby h1.objs.size);have hvl:vs.length<=sizeLine:=by rw[←r1.length,length_map,sizeLine_eq];lia
  refine⟨.ref h1.objs.size,_,I3.laid (t':=tk) k3 (yby _) (show bD X.prog X.w _ h' _ (.lst vs) from ⟨hvl,out,ee,r2,g3⟩),rfl,?_⟩;exact hQ _ _ _ _ (t1.trans (aM.new hp _)) (.ref _) (g1.put (aM.new hp _) r1 (by rw[length_map];lia)) (h _ ks (g1.fresh hp) ds pm)
 ·exact hw.elim
end
section
variable {n:Nat} {σ:Nat->Nat}
structure Gd (n:Nat) (σ:Nat->Nat) (p:Array Nat):Prop where
 sz:p.size=n
 lt:∀k,k<n->p.getD k 0<n
 inj:∀j k,j<n->k<n->σ (p.getD j 0)=σ (p.getD k 0)->j=k
 pm:p.Perm (List.range n).toArray
noncomputable def vv (σ:Nat->Nat) (p:Array Nat) (k:Nat):Nat:=σ (p.getD k 0)
end
section
variable {X:Cx} {π:List (Addr×Obj)} {σ:St} {H:Hp} {s:Shared}
end
section
variable {X:Cx} {π:List (Addr×Obj)} {σ:St} {H:Hp} {s:Shared}
noncomputable def qe (tv to ti:WE):WS:=λd τ G=>tv τ G λw G1=>to τ G1 λx G2=>ti τ G2 λy G3=>∃a z kvs,x=.ref a/\y=.int z/\G3 a=some (.dic kvs)/\kvs.length+1<=100000/\d.nx τ (aF G3 a (.dic (bO kvs (.inl z) w)))
theorem vJ {o i value:Expr} {to ti tv:WE} {pos pos':Pos} (hv:QE X value tv) (ho:QE X o to) (hi:QE X i ti) (hs:swapsWith value (some (.Subscript o i pos')) pos.line X.env=pure false:=by rfl):QS X (.Assign [.Subscript o i pos'] value pos) (qe tv to ti):=nU Sum.inl hv ho hi hs
noncomputable def gH (to tk td:WE):WE:=λτ G q=>to τ G λx G1=>match x with
 | .ref a=>(∃kvs,G1 a=some (.dic kvs))/\tk τ G1 λy G2=>td τ G2 λd G3=>∃z kvs,y=.int z/\G3 a=some (.dic kvs)/\q ((bI kvs (.inl z)).getD d) G3
 | _=>False
theorem fC {o k e:Expr} {to tk te:WE} {apos cpos:Pos} (ho:QE X o to) (hk:QE X k tk) (he:QE X e te)
 (hbase:attributeBase o "get" X.env (eval o X.env)=eval o X.env:=by rfl)
 (hfew:((backTo cpos (starEach [k,e] X.env)).all (λx=>!x.1)&&(backToKw cpos (keywordEach [] X.env)).all (λx=>x.1.isSome)
   &&decide (([k,e]:List Expr).length+([]:List Keyword).length+(if ([]:List Keyword).isEmpty then 0 else 1)<30))=true:=by rfl)
 (hline:(apos.endLine==cpos.line)=true:=by rfl) (hs:starEach [k,e] X.env=(false,eval k X.env)::starEach [e] X.env:=by rfl) (hs2:starEach [e] X.env=(false,eval e X.env)::starEach [] X.env:=by rfl) (hpl:(backTo cpos (starEach [e] X.env)).any (·.1)=false:=by rfl):
 QE X (.Call (.Attribute o "get" apos) [k,e] [] cpos) (gH to tk te):=
 nW Sum.inl ho hk he hbase hfew hline hs hs2 hpl
end
open PySem PySem.Spec PyProof.Rows
section
variable {G:Gp} {q:WK} {a b:Addr} {i j:Int} {xs ys:List W} {z z':PySem.Str} {ns:List Int} {y:W} {c d:Bool}
theorem HE:lq (.int i) (.int j) G q=q (.int (i+j)) G:=rfl
theorem HF:lq (.tup xs) (.tup ys) G q=(xs.length+ys.length<=100000/\q (.tup (xs++ys)) G):=rfl
theorem HG:lq (.ref a) (.ref b) G q=(∃xs ys,G a=some (.lst xs)/\G b=some (.lst ys)/\xs.length+ys.length<=100000/\∀p,G p=none->q (.ref p) (aF G p (.lst (xs++ys)))):=rfl
theorem HH:lq (.str z) (.str z') G q=(z.length+z'.length<=100000/\q (.str (z++z')) G):=rfl
theorem HI:lr (.int i) (.int j) G q=(lp i j/\q (.int (i*j)) G):=rfl
theorem HJ:lr (.ref a) (.int j) G q=(∃xs,G a=some (.lst xs)/\0<=j/\j<=100000/\xs.length*j.toNat<=100000/\∀p,G p=none->q (.ref p) (aF G p (.lst (List.replicate j.toNat xs).flatten))):=rfl
theorem HK:lr (.tup xs) (.int j) G q=(xs≠[]/\0<=j/\j<=100000/\xs.length*j.toNat<=100000/\q (.tup (List.replicate j.toNat xs).flatten) G):=rfl
theorem HL:lr (.str z) (.int j) G q=(0<=j/\j<=100000/\z.length*j.toNat<=100000/\∀z':PySem.Str,z'.length<=z.length*j.toNat->q (.str z') G):=rfl
theorem HM:jm (.ref a) (.str z) G q=(∃kvs w,GD G a kvs/\bI kvs (.inr z)=some w/\q w G):=rfl
theorem HN:jm (.str z) (.int i) G q=(z.length<=100000/\∃c,eI z.cps.toList i=some c/\q (.str ⟨#[c]⟩) G):=rfl
theorem Hl:jm (.tup xs) (.int i) G q=(∃w,eI xs i=some w/\q w G):=rfl
theorem HP:jm (.scr ns) (.int i) G q=(∃n,eI ns i=some n/\q (.int n) G):=rfl
theorem HQ:jm (.ref a) (.int i) G q=(∃xs w,G a=some (.lst xs)/\eI xs i=some w/\q w G):=rfl
theorem HR:iS (.ref a) (.ref b) G q=(∃r,Bz G a b r/\q (.bl r) G):=rfl
theorem HS:iS (.tup xs) y G q=((W.tup xs).flat=true/\y.flat=true/\(W.tup xs).dep<=150/\q (.bl ((W.tup xs).eq y)) G):=rfl
theorem HU:iS (.int i) y G q=((W.int i).flat=true/\y.flat=true/\(W.int i).dep<=150/\q (.bl ((W.int i).eq y)) G):=rfl
theorem Hm:iS (.str z) y G q=((W.str z).flat=true/\y.flat=true/\(W.str z).dep<=150/\q (.bl ((W.str z).eq y)) G):=rfl
theorem HV:iS (.bl c) y G q=((W.bl c).flat=true/\y.flat=true/\(W.bl c).dep<=150/\q (.bl ((W.bl c).eq y)) G):=rfl
theorem HW:iS .non y G q=(W.non.flat=true/\y.flat=true/\W.non.dep<=150/\q (.bl (W.non.eq y)) G):=rfl
theorem HX:n5 (.ref a) (.ref b) G q=(∃r,Bz G a b r/\q (.bl (!r)) G):=rfl
theorem HY:n5 (.tup xs) y G q=((W.tup xs).flat=true/\y.flat=true/\(W.tup xs).dep<=150/\q (.bl (!(W.tup xs).eq y)) G):=rfl
theorem HZ:n5 (.int i) y G q=((W.int i).flat=true/\y.flat=true/\(W.int i).dep<=150/\q (.bl (!(W.int i).eq y)) G):=rfl
theorem H9:n5 (.str z) y G q=((W.str z).flat=true/\y.flat=true/\(W.str z).dep<=150/\q (.bl (!(W.str z).eq y)) G):=rfl
theorem Ia:n5 (.bl c) y G q=((W.bl c).flat=true/\y.flat=true/\(W.bl c).dep<=150/\q (.bl (!(W.bl c).eq y)) G):=rfl
theorem Ib:n5 .non y G q=(W.non.flat=true/\y.flat=true/\W.non.dep<=150/\q (.bl (!W.non.eq y)) G):=rfl
theorem Ic:xz (.int i) (.int j) G q=q (.bl (decide (i<j))) G:=rfl
theorem Ie:xz (.tup xs) (.tup ys) G q=(W.flats xs=true/\W.flats ys=true/\W.deps xs<=149/\W.ords xs ys=true/\q (.bl (W.lts xs ys)) G):=rfl
theorem Ig:t9 (.int i) (.int j) G q=q (.int (i-j)) G:=rfl
theorem Ih:t9 (.bl c) (.bl d) G q=q (.int (b2i c-b2i d)) G:=rfl
theorem Ii {C:Int->Int->Prop} {f:Int->Int->W}:rZ C f (.int i) (.int j) G q=(C i j/\q (f i j) G):=rfl
theorem Ij {f:Int->Int->W}:kR f (.int i) (.int j) G q=q (f i j) G:=rfl
theorem Ik:lz [.ref a] G q=(∃n:Nat,yz G a n/\q (.int n) G):=rfl
theorem Il:lz [.str z] G q=(z.length<=100000/\q (.int z.length) G):=rfl
theorem Im:lz [.tup xs] G q=q (.int xs.length) G:=rfl
theorem Io:lz [.scr ns] G q=q (.int ns.length) G:=rfl
theorem Ip:Fk (.int i) (.int j) G q=q (.bl (decide (i≥j))) G:=rfl
theorem Iq:iS (.ref a) (.int i) G q=((W.ref a).flat=true/\(W.int i).flat=true/\(W.ref a).dep<=150/\q (.bl ((W.ref a).eq (.int i))) G):=rfl
end
section
variable {τ:cO} {G:Gp} {d:cZ} {i:Nat} {k:Int} {a b:Str} {ws:List W} {t u v:WS} {c:WT}
theorem qf {q:Bool->Gp->Prop} (h1:τ[i]?=some (some (.tup ws))) (h2:eI ws k=some (.str a)) (e:Bool) (h3:decide (a=b)=e) (h:q e G):gX (o7 iS (o7 jm (iB i) (wC (.int k))) (wC (.str b))) τ G q:=by
 subst h3;simp only[gX,o7,iB,h1,wC,Hl];refine⟨_,h2,?_⟩;simp only[Hm];refine⟨rfl,rfl,zero_le _,?_⟩;rw[show(W.str a).eq (.str b)=decide (a=b) by
  simp only[W.eq];rw[Bool.eq_iff_iff,beq_iff_eq,decide_eq_true_eq]]
 exact h
theorem BJ (h1:τ[i]?=some (some (.tup ws))) (h2:eI ws k=some (.str a)) (h3:decide (a=b)=false) (h:u d τ G):tU (AM (gX (o7 iS (o7 jm (iB i) (wC (.int k))) (wC (.str b)))) t qt) u d τ G:=
 qf h1 h2 false h3 h
theorem BK (h1:τ[i]?=some (some (.tup ws))) (h2:eI ws k=some (.str a)) (h3:decide (a=b)=true) (h:t d τ G):AM (gX (o7 iS (o7 jm (iB i) (wC (.int k))) (wC (.str b)))) t v d τ G:=
 qf h1 h2 true h3 h
theorem BL (h1:τ[i]?=some (some (.tup ws))) (h2:eI ws k=some (.str a)) (h3:decide (a=b)=false) (h:u d τ G):tU (AM (AK (gX (o7 iS (o7 jm (iB i) (wC (.int k))) (wC (.str b)))) c) t qt) u d τ G:=
 qf h1 h2 false h3 h
end
theorem dP {x qual:Str} {f:Addr} {N ps:List Str} {sp:bQ} (F:cz K x qual st f fd) (S:bS N ps (am st)) (len:∀ws G q e,sp ws G q e->ws.length=ps.length) (hb:∀(cdv:Value) (A:Around) (outer:List Env) (s:Shared) (H:Hp) (E:XK),N.Nodup->aw k (A.deeper (envOfC qual (am st) s.heap.objs.size f cdv))->∃t,nr (dE tQ P w K mg base N qual (am st) f cdv A outer s H E).nox (ap st) t/\∀(ws:List W) (G:Gp) (q:WK) (e:WX),sp ws G q e->t { nx:=λ_ G1=>∃G0,aC G0 G1/\q .non G0,rt:=λw G1=>∃G0,aC G0 G1/\q w G0 } (iG N ws) G):ca P w K mg base (k+1) f fd ps sp:=CO F S len λ_ _ _ _ _ _ hr=>hb _ _ _ _ _ _ S.nd hr
end L2
open PySem PySem.Spec PyProof.Rows L2 Nm
seal QE QT QW QA QS nr QG CI QI QO zA iC AJ fe
seal PySem.compareOp PySem.binaryOp PySem.unaryOp
set_option bootstrap.genMatcherCode true
set_option compiler.extract_closed false
local macro_rules | `(tactic| walk_at "s") => `(tactic| exact ⟨rfl, rfl, rfl, by decide +kernel, rfl, by decide +kernel, by decide +kernel⟩)
local macro_rules | `(tactic| walk_at "l") => `(tactic| (intro ws G q e h; repeat (first | (obtain ⟨h1, _⟩ := h; subst h1; rfl) | obtain ⟨_, h⟩ := h)))
local macro_rules | `(tactic| walk_at "k0") => `(tactic| first | refine BJ (i := 0) (k := 0) rfl rfl (by decide +kernel) ?_ | refine BL (i := 0) (k := 0) rfl rfl (by decide +kernel) ?_)
local macro_rules | `(tactic| walk_at "t0") => `(tactic| refine BK (i := 0) (k := 0) rfl rfl (by decide +kernel) ?_)
local macro_rules | `(tactic| walk_at "R") => `(tactic| simp (config := { failIfUnchanged := false, maxSteps := 2000000 }) only [Dz, A5, A4, uD, xR, vx, BE, qd, yJ, pz, zF, By, zE, zL, zM, zN, pY, p5, zO, DG, yv, zK, A1, Dx, zD, qE, kX, A1, nE, iG, tU, AM, gX, o7, iB, wC, Dc, CN, qt, xi, ur, uv, zC, uB, zB, uA, cP, gZ, Ev, qr, lU, CL, CM, CW, AK, GU, CJ, zq, zt, CK, zv, zy, qy, Da, C9, Dv, uh, C0, kS, pf, ja, o9, CV, xo, tX, qw, AS, uu, List.map_cons, List.map_nil, List.length_cons, List.length_nil, List.replicate_succ, List.replicate_zero, List.cons_append, List.nil_append, List.append_nil, List.getElem?_cons_zero, List.getElem?_cons_succ, List.set_cons_zero, List.set_cons_succ, Nat.reduceAdd, Nat.reduceSub, Nat.zero_add, Nat.add_zero, Nat.sub_self, Nat.sub_zero, Fq, Fs, Fu, Option.some.injEq, exists_eq_left', u6, x5, pR, u7, x6, Ft, decide_eq_true_eq, Bool.not_eq_true', decide_eq_false_iff_not, true_and, Nat.zero_le, Bj, lp, qB, uo, wR, Ct, Int.reduceLE, Int.reduceLT, Nat.reducePow, Nat.reduceLT, Nat.reduceLeDiff, Int.reduceToNat, Int.reducePow, Int.reduceNeg, and_true, or_true, true_or, and_self, ya, Bk, yc, yd, ye, yf, yg, yh, yi, yj, yk, ym, yn, yo, yp, Int.toNat_natCast, if_true, if_false, Bool.false_eq_true, Bool.true_eq_false, Bool.not_true, Bool.not_false, eq_self, not_true_eq_false, not_false_eq_true, Bm, Bo, Bp, Bq, HE, HF, HG, HH, HI, HJ, HK, HL, HM, HN, Hl, HP, HQ, HR, HS, HU, Hm, HV, HW, HX, HY, HZ, H9, Ia, Ib, Ic, Ie, Ig, Ih, Ii, Ij, Ik, Il, Im, Io, Ip, Iq])
local macro_rules | `(tactic| walk_at "s") => `(tactic| exact ⟨rfl, rfl, rfl, by decide +kernel, rfl, by decide +kernel, by decide +kernel⟩)
namespace Lw
open PySem PySem.Spec PyProof.Rows L2 Nm
set_option hygiene false
local macro_rules | `(tactic| walk_at "a") => `(tactic| (subst hU; refine aK fun U hU => ?_; walk_at "R"))
local macro_rules | `(tactic| walk_at "a0") => `(tactic| (refine aK fun U hU => ?_; walk_at "R"))
local macro_rules | `(tactic| walk_at "b") => `(tactic| (subst hU1; refine aK fun U1 hU1 => ?_; walk_at "R"))
set_option hygiene true
noncomputable def aO (i:Nat):Stmt:=PySem.Challenge.pw_hydrahouse_k83_whole_run.main.body.getD i (.Pass ⟨0,0,0,0⟩)
noncomputable def bb (i j:Nat):Stmt:=(Fm (aO i)).getD j (.Pass ⟨0,0,0,0⟩)
structure Txt (K:yax) (mg:ydv):Prop where
 d_is_whole:xA K mg "is_whole" (aO 5) ["thing","least"] [.int 0]
 d_whole:Df K mg "whole" (aO 6) ["n"]
 d_endless:Df K mg "endless" (aO 7) []
 d_raised:xA K mg "raised" (aO 8) ["exponent","times"] [.int 1]
 d_compare:Df K mg "compare" (aO 9) ["a","b"]
 d_whole_part:Df K mg "whole_part" (aO 10) ["a"]
 d_without_whole:Df K mg "without_whole" (aO 11) ["a"]
 d_plus:Df K mg "plus" (aO 13) ["a","b"]
 d_parts_above:Df K mg "parts_above" (aO 14) ["a","exponent"]
 d_total:Df K mg "total" (aO 15) ["some"]
 d_times:Df K mg "times" (aO 17) ["a","b"]
 d_weight_of:Df K mg "weight_of" (aO 19) ["things"]
 d_held:Df K mg "held" (aO 20) ["boxes","box"]
 d_by_exponent:Df K mg "by_exponent" (aO 30) ["marks"]
 d_trace:xA K mg "trace" (aO 32) ["rows","boxes","most"] [.int 50]
 d_put_ahead:Df K mg "put_ahead" (aO 33) ["left","things"]
 d_weight_left:Df K mg "weight_left" (aO 34) ["left"]
 d_told:Df K mg "told" (aO 35) ["left","boxes"]
 d__law_cell_at:Df K mg "_law_cell_at" (aO 37) ["_law_script","_law_k"]
 d__law_amount:Df K mg "_law_amount" (aO 38) ["_law_cell"]
 d__law_deep:Df K mg "_law_deep" (aO 39) ["_law_thing"]
 d__law_marks:Df K mg "_law_marks" (aO 40) ["_law_cell","_law_box","_law_names"]
 d__law_rows:Df K mg "_law_rows" (aO 41) ["_law_cells","_law_names"]
 d__law_made:Df K mg "_law_made" (aO 42) ["_law_thing"]
 d__law_done:Df K mg "_law_done" (aO 43) ["_law_thing","_law_having"]
 d__law_below:Df K mg "_law_below" (aO 44) ["_law_one","_law_other"]
 d__law_spent:Df K mg "_law_spent" (aO 45) ["_law_run"]
 d__law_while:Df K mg "_law_while" (aO 46) ["_law_thing","_law_having","_law_run"]
 d__law_times:Df K mg "_law_times" (aO 47) ["_law_thing","_law_having","_law_run"]
 d__law_do:Df K mg "_law_do" (aO 48) ["_law_rows_here","_law_having","_law_run"]
 d__law_ends:Df K mg "_law_ends" (aO 49) ["_law_found","_law_having"]
 k_Set:∃C:Addr,mg "Set"=some (.ref C)/\dq K C/\ay K C "box"/\ay K C "amount"/\wD K C "Set.__init__" (bb 22 0) ["self","box","amount"]/\Md K C "step" "Set.step" (bb 22 1) ["self","boxes"]/\Md K C "weigh" "Row.weigh" (bb 21 0) ["self"]/\∃D:Addr,mg "Row"=some (.ref D)/\XD K D/\mroIn K C (.ref D)=some true
 k_Copy:∃C:Addr,mg "Copy"=some (.ref C)/\dq K C/\ay K C "box"/\ay K C "other"/\wD K C "Copy.__init__" (bb 23 0) ["self","box","other"]/\Md K C "step" "Copy.step" (bb 23 1) ["self","boxes"]/\Md K C "weigh" "Row.weigh" (bb 21 0) ["self"]/\∃D:Addr,mg "Row"=some (.ref D)/\XD K D/\mroIn K C (.ref D)=some true
 k_Add:∃C:Addr,mg "Add"=some (.ref C)/\dq K C/\ay K C "box"/\ay K C "other"/\wD K C "Add.__init__" (bb 24 0) ["self","box","other"]/\Md K C "step" "Add.step" (bb 24 1) ["self","boxes"]/\Md K C "weigh" "Row.weigh" (bb 21 0) ["self"]/\∃D:Addr,mg "Row"=some (.ref D)/\XD K D/\mroIn K C (.ref D)=some true
 k_Less:∃C:Addr,mg "Less"=some (.ref C)/\dq K C/\ay K C "box"/\wD K C "Less.__init__" (bb 25 0) ["self","box"]/\Md K C "step" "Less.step" (bb 25 1) ["self","boxes"]/\Md K C "weigh" "Row.weigh" (bb 21 0) ["self"]/\∃D:Addr,mg "Row"=some (.ref D)/\XD K D/\mroIn K C (.ref D)=some true
 k_Times:∃C:Addr,mg "Times"=some (.ref C)/\dq K C/\ay K C "box"/\ay K C "rows"/\ay K C "of_round"/\wD K C "Times.__init__" (bb 26 0) ["self","box","rows"]/\Md K C "weigh" "Times.weigh" (bb 26 1) ["self"]/\Md K C "step" "Times.step" (bb 26 2) ["self","boxes"]/\∃D:Addr,mg "Row"=some (.ref D)/\XD K D/\mroIn K C (.ref D)=some true
 k_Count:∃C:Addr,mg "Count"=some (.ref C)/\dq K C/\ay K C "loop"/\ay K C "rounds"/\wD K C "Count.__init__" (bb 27 0) ["self","loop","rounds"]/\Md K C "weigh" "Count.weigh" (bb 27 1) ["self"]/\Md K C "step" "Count.step" (bb 27 2) ["self","boxes"]/\∃D:Addr,mg "Row"=some (.ref D)/\XD K D/\mroIn K C (.ref D)=some true
 k_While:∃C:Addr,mg "While"=some (.ref C)/\dq K C/\ay K C "box"/\ay K C "heights"/\ay K C "rows"/\ay K C "of_round"/\wD K C "While.__init__" (bb 28 0) ["self","box","marks","rows"]/\Md K C "weigh" "While.weigh" (bb 28 1) ["self"]/\Md K C "step" "While.step" (bb 28 2) ["self","boxes"]/\Md K C "measure" "While.measure" (bb 28 3) ["self","boxes"]/\∃D:Addr,mg "Row"=some (.ref D)/\XD K D/\mroIn K C (.ref D)=some true
 k_Bearing:∃C:Addr,mg "Bearing"=some (.ref C)/\dq K C/\ay K C "loop"/\ay K C "borne"/\wD K C "Bearing.__init__" (bb 29 0) ["self","loop","borne"]/\Md K C "weigh" "Bearing.weigh" (bb 29 1) ["self"]/\Md K C "step" "Bearing.step" (bb 29 2) ["self","boxes"]/\∃D:Addr,mg "Row"=some (.ref D)/\XD K D/\mroIn K C (.ref D)=some true
 x_:∃c0 c1 c2:Addr,(mg "HydraError"=some (.ref c0)/\excIn K c0 [.type "ValueError",.type "Exception",.type "BaseException",.type "object"] "ValueError.__new__"=true)/\(mg "NoFall"=some (.ref c1)/\excIn K c1 [.type "ValueError",.type "Exception",.type "BaseException",.type "object"] "ValueError.__new__"=true)/\(mg "NoNumber"=some (.ref c2)/\excIn K c2 [.type "ValueError",.type "Exception",.type "BaseException",.type "object"] "ValueError.__new__"=true)/\mroIn K c1 (.ref c0)=some true/\mroIn K c1 (.ref c2)=some false/\(XQ K c0/\XD K c0)/\(XQ K c1/\XD K c1)/\(XQ K c2/\XD K c2)
 z_ValueError:mg "ValueError"=none
 z_bool:mg "bool"=none
 z_dict:mg "dict"=none
 z_int:mg "int"=none
 z_isinstance:mg "isinstance"=none
 z_len:mg "len"=none
 z_list:mg "list"=none
 z_max:mg "max"=none
 z_range:mg "range"=none
 z_reversed:mg "reversed"=none
 z_sorted:mg "sorted"=none
 z_sum:mg "sum"=none
 z_tuple:mg "tuple"=none
section
variable {P:Program} {w:World} {K:yax} {mg:ydv} {base:Heap} {f:Addr} {fd:FuncData}
set_option maxHeartbeats 0
noncomputable def BM:bQ:=λws G q _=>∃a b:O,ws=[.tup (aq a),.tup (aq b)]/\a.dp<=60/\q (.int (O.cmp a b)) G
noncomputable def DR:bQ:=λws G q _=>∃a x:O,ws=[.tup (aq a),.tup (aq x)]/\a.NF/\a.dp<=60/\a.len<=40000/\q (.int (O.stay x a)) G
noncomputable def mJ:bQ:=λws G q _=>∃a b:O,ws=[.tup (aq a),.tup (aq b)]/\a.NF/\a.dp<=60/\b.dp<=60/\a.len<=40000/\b.len<=40000/\q (.tup (aq (O.plusO a b))) G
theorem FG (F:cz K "compare" "compare" (aO 9) f fd):ca P w K mg base 1 f fd ["a","b"] BM:=by
 refine dP F (N:=["a","b"]) (by walk_at "s") (by walk_at "l") λ_ _ _ _ _ _ nd hr=>?_;apply aJ
 ·exact(ac (bh (aL (bG hr) (aa 0) (aa 1)) (ac (av ah) ag) ag) (ac (av (jG (aL (kT hr) (aa 0) (aa 1)) (eS ah) ah)) ag))
 ·rintro ws G q e ⟨a,b,rfl,hx,hq⟩;walk_at "R";have h1:=ii a b;have hd:=dw a;rw[pQ,h1.2];refine⟨cu a,cu b,by lia,?_⟩;rcases O.cmp_range a b with k | k | k
  ·rw[ybv (by simp;intro z;rw[z,O.cmp_self] at k;lia),ycx (by simp;lia)];exact⟨bX a,bX b,lj a (by lia),h1.1,aC.done (by rw[k] at hq;exact hq)⟩
  ·rw[ycx (by simpa using O.cmp_eq _ _ k)];exact aC.done (by rw[k] at hq;exact hq)
  ·rw[ybv (by simp;intro z;rw[z,O.cmp_self] at k;lia),ybv (by simp;lia)];exact⟨bX a,bX b,lj a (by lia),h1.1,aC.done (by rw[k] at hq;exact hq)⟩
theorem FH (F:cz K "parts_above" "parts_above" (aO 14) f fd) (F1:Fx P w K mg base "compare" ["a","b"] 1 BM) (ml:mg "len"=none):ca P w K mg base 2 f fd ["a","exponent"] DR:=by
 refine dP F (N:=["a","exponent","low","high","middle"]) (by walk_at "s") (by walk_at "l") λ_ _ _ _ _ _ nd hr=>?_;apply aJ
 ·exact(ac (aR 2 nd rfl (.inl rfl) ah) (ac (aR 3 nd rfl (.inl rfl) (bU fB rfl ml PySem.boot_len (ae (aa 0) ak))) (ac (gY PySem.PassesOwn.never (aL (kT hr) (aa 2) (aa 3)) (ac (aR 4 nd rfl (.inl rfl) (aS cr (aS bZ (aa 2) (aa 3)) ah)) (ac (bh (aL pp (aA F1 (aw.mono hr (by lia)) rfl (ae (aD aE (aD aE (aa 0) (aa 4)) ah) (ae (aa 1) ak))) ah) (ac (aR 2 nd rfl (.inl rfl) (aS bZ (aa 4) ah)) ag) (ac (aR 3 nd rfl (.inl rfl) (aa 4)) ag)) ag))) (ac (av (aa 2)) ag))))
 ·rintro ws G q e ⟨a,x,rfl,hn,hx,hl,hq⟩;walk_at "a0";walk_at "a";rw[aY];subst hU;refine aK λU hU=>?_;refine⟨λm τ G'=>G'=G/\∃(lo hi:Nat) (t4:Option W),τ=[some (.tup (aq a)),some (.tup (aq x)),some (.int (lo:Int)),some (.int (hi:Int)),t4]/\lo<=O.stay x a/\O.stay x a<=hi/\hi<=a.len/\m=hi-lo,⟨a.len,rfl,0,a.len,none,rfl,zero_le _,O.stay_le,yby _,rfl⟩,?_⟩;rintro m τ G' ⟨rfl,lo,hi,t4,rfl,h1,h2,h3,rfl⟩;walk_at "R";split
  ·rename_i hlt;refine⟨λτ1 G1=>G1=G'/\∃(lo' hi':Nat) (t4:Option W),τ1=[some (.tup (aq a)),some (.tup (aq x)),some (.int (lo':Int)),some (.int (hi':Int)),t4]/\lo'<=O.stay x a/\O.stay x a<=hi'/\hi'<=a.len/\hi'-lo'<hi-lo,?_,?_⟩
   ·rintro τ1 G1 ⟨rfl,lo',hi',t4,rfl,k1,k2,k3,k4⟩;exact⟨_,k4,rfl,lo',hi',t4,rfl,k1,k2,k3,rfl⟩
   ·have em:((lo:Int)+hi)/2=(((lo+hi)/2:Nat):Int):=by lia
    obtain⟨y,n,hp⟩:=O.getP_some (a:=a) (i:=(lo+hi)/2) (by lia);rw[em];refine⟨_,mC hp,?_⟩;have hs:=O.getP_size hp;have hab:=O.above_iff (e:=x) hn hp;unfold iu mW;walk_at "R";refine⟨y,x,rfl,by lia,?_⟩;walk_at "R";split
    ·rename_i hc;have:=hab.mp hc;exact⟨(lo+hi)/2+1,hi,_,rfl,by assumption,h2,h3,by lia⟩
    ·rename_i hc;have:=λz=>hc (hab.mpr z);exact⟨lo,(lo+hi)/2,_,rfl,h1,by lia,by lia,by lia⟩
  ·subst hU;walk_at "R";have:(lo:Int)=O.stay x a:=by lia
   rw[this];exact aC.done hq
theorem FI (F:cz K "plus" "plus" (aO 13) f fd) (F1:Fx P w K mg base "parts_above" ["a","exponent"] 2 DR) (ml:mg "len"=none):ca P w K mg base 3 f fd ["a","b"] mJ:=by
 refine dP F (N:=["a","b","exponent","stay","both"]) (by walk_at "s") (by walk_at "l") λ_ _ _ _ _ _ nd hr=>?_;apply aJ
 ·exact(ac (bh (aL (bG hr) (aa 1) (bp ak)) (ac (av (aa 0)) ag) ag) (ac (aR 2 nd rfl (.inl rfl) (aD aE (aD aE (aa 1) ah) ah)) (ac (aR 3 nd rfl (.inl rfl) (aA F1 (aw.mono hr (by lia)) rfl (ae (aa 0) (ae (aa 2) ak)))) (ac (bh (iE (gj (aL (kT hr) (aa 3) (bU fB rfl ml PySem.boot_len (ae (aa 0) ak))) (eO (aL (bG hr) (aD aE (aD aE (aa 0) (aa 3)) ah) (aa 2))))) (ac (aR 4 nd rfl (.inl rfl) (bp (ae (aa 2) (ae (aS bZ (aD aE (aD aE (aa 0) (aa 3)) ah) (aD aE (aD aE (aa 1) ah) ah)) ak)))) (ac (av (aS bZ (aS bZ (cv (aa 0) dU (cW (aa 3))) (bp (ae (aa 4) ak))) (cv (aa 1) (cW ah) dU))) ag)) ag) (ac (av (aS bZ (cv (aa 0) dU (cW (aa 3))) (aa 1))) ag)))))
 ·rintro ws G q e ⟨a,b,rfl,hn,hx,hy,hl,hl2,hq⟩;have hd:=dw b;walk_at "a0";refine⟨cu b,by lia,?_⟩;rw[cC];cases b with
  | z=>
    rw[ycx (by simp)];exact aC.done hq
  | c e n r=>
    rw[ybv (by simp)];simp only[O.len] at hl2;have hde:e.dp<=60:=by simp only[O.dp] at hy;lia
    subst hU;refine aK λU hU=>?_;rw[bW];unfold iu mW;walk_at "R";walk_at "a";refine⟨a,e,rfl,hn,hx,hl,?_⟩;subst hU;have hst:=O.stay_le (e:=e) (a:=a);have hsame:=O.same_stay (e:=e) hn;have htake:=O.take_stay (e:=e) hn;have e1:dc (W.tup [W.tup (aq e),W.int n]::aq r) (some 1) none=aq r:=by rw[show(1:Int)=((1:Nat):Int) from rfl,jQ];rfl
    have e2:dc (aq a) none (some (O.stay e a:Int))=aq (O.filt (λx _=>decide (0<O.cmp x e)) a):=by rw[u9,iP,htake]
    have l1:=jR (λx _=>decide (0<O.cmp x e)) a;have hq':q (.tup (aq (O.filt (λx _=>decide (0<O.cmp x e)) a)++(iu e (O.same e a+n)::aq r))) G:=by
     rw[O.plus_c,fA,bW] at hq;exact hq
    refine aK λU hU=>?_;have other:O.same e a=0->U { nx:=λx G1=>∃G0,aC G0 G1/\q W.non G0,rt:=λw G1=>∃G0,aC G0 G1/\q w G0 } [some (W.tup (aq a)),some (W.tup (W.tup [W.tup (aq e),W.int n]::aq r)),some (W.tup (aq e)),some (W.int (O.stay e a)),none] G:=λhz=>by
     subst hU;walk_at "R";rw[e2];refine⟨by rw[aY,aY];lia,aC.done ?_⟩;rw[hz,Int.zero_add] at hq';exact hq'
    walk_at "R";rw[aY];split
    ·rename_i hlt;obtain⟨y,m,hp⟩:=O.getP_some (a:=a) (i:=O.stay e a) (by lia);have hs:=O.getP_size hp;have hdy:=dw y;refine⟨_,mC hp,?_⟩;rw[hp] at hsame;have hsame':O.same e a=if y=e then m else 0:=hsame
     unfold iu mW;walk_at "R";refine⟨cu y,cu e,by lia,?_⟩;rw[pQ]
     by_cases hye:y=e
     ·rw[ycx (by simpa using hye)];refine⟨_,mC hp,?_⟩;unfold iu mW;walk_at "R";rw[e1,e2];rw[ycx hye] at hsame';refine⟨by rw[aY];lia,by rw[length_append,aY,aY];simp;lia,aC.done ?_⟩;rw[hsame'] at hq';rw[append_assoc];exact hq'
     ·rw[ybv (by simpa using hye)];rw[ybv hye] at hsame';exact other hsame'
    ·rename_i hlt;rw[O.getP_none.mpr (by lia)] at hsame;exact other hsame
theorem kc:∀{a:O} {x:O} {n:Int},a.NF->O.last a=.c x n .z->O.same .z a=if x=.z then n else 0
 | .z,_,_,_,h=>by cases h
 | .c e m .z,x,n,ha,h=>by
   have:O.last (.c e m .z)=.c e m .z:=rfl;rw[this] at h;injection h with h1 h2 _
   subst h1 h2
   by_cases k:e=.z
   ·subst k;rw[ycx rfl,O.same_self ha.2.2.1]
   ·rw[ybv k,O.same_ne k];rfl
 | .c e m (.c e' m' r'),x,n,ha,h=>by
   have e0:O.last (.c e m (.c e' m' r'))=O.last (.c e' m' r'):=by simp[O.last]
   rw[e0] at h;have hne:e≠ .z:=λz=>by
    subst z;have:=ha.2.2.1.1;cases e'<;> simp[O.cmp] at this
   rw[O.same_ne hne];exact kc ha.2.2.2 h
theorem oi:∀{a:O},a.NF->O.same .z a=0->O.filt (λy _=>decide (¬y=.z)) a=a
 | .z,_,_=>rfl
 | .c e m r,ha,h=>by
   have hne:e≠ .z:=λz=>by
    subst z;rw[O.same_self ha.2.2.1] at h;have:=ha.2.1;lia
   rw[O.same_ne hne] at h;rw[O.filt_c,ycx (by simpa using hne),oi ha.2.2.2 h]
theorem ke:∀{a:O},a.NF->O.same .z a≠0->O.filt (λy _=>decide (¬y=.z)) a=O.init a
 | .z,_,h=>absurd rfl h
 | .c e m .z,ha,h=>by
   have:e=.z:=Classical.byContradiction λk=>h (by rw[O.same_ne k];rfl);subst this
   rfl
 | .c e m (.c e' m' r'),ha,h=>by
   have hne:e≠ .z:=λz=>by
    subst z;have:=ha.2.2.1.1;cases e'<;> simp[O.cmp] at this
   rw[O.same_ne hne] at h;have e0:O.init (.c e m (.c e' m' r'))=.c e m (O.init (.c e' m' r')):=by simp[O.init]
   rw[O.filt_c,ycx (by simpa using hne),ke ha.2.2.2 h,e0]
noncomputable def BN:bQ:=λws G q _=>∃a:O,ws=[.tup (aq a)]/\a.NF/\a.dp<=60/\q (.int (O.same .z a)) G
noncomputable def DS:bQ:=λws G q _=>∃a:O,ws=[.tup (aq a)]/\a.NF/\a.dp<=60/\q (.tup (aq (O.filt (λy _=>decide (¬y=.z)) a))) G
theorem FJ (F:cz K "whole_part" "whole_part" (aO 10) f fd):ca P w K mg base 1 f fd ["a"] BN:=by
 refine dP F (N:=["a"]) (by walk_at "s") (by walk_at "l") λ_ _ _ _ _ _ nd hr=>?_;apply aJ
 ·exact(ac (bh (iE (kQ (aL (bG hr) (aa 0) (bp ak)) (iD (aL (ff hr) (aD aE (aD aE (aa 0) (eS ah)) ah) (bp ak))))) (ac (av ah) ag) ag) (ac (av (aD aE (aD aE (aa 0) (eS ah)) ah)) ag))
 ·rintro ws G q e ⟨a,rfl,ha,hd,hq⟩;have hd2:=dw a;walk_at "R";refine⟨cu a,by lia,?_⟩;rw[cC]
  by_cases hz:a=.z
  ·subst hz;rw[ycx (by simp)];exact aC.done hq
  ·rw[ybv (by simpa using hz)];obtain⟨x,n,h1,h2⟩:=ve hz;have hw:=kc ha h1;have hs:=O.getP_size h2;have hdx:=dw x;refine⟨_,ig h2,?_⟩;unfold iu mW;walk_at "R";refine⟨cu x,by lia,?_⟩;rw[cC]
   by_cases hx:x=.z
   ·rw[ybv (by simpa using hx)];rw[ycx hx] at hw;have h3:=ig h2;unfold iu mW at h3;refine⟨_,h3,?_⟩;walk_at "R";rw[hw] at hq;exact aC.done hq
   ·rw[ycx (by simpa using hx)];rw[ybv hx] at hw;rw[hw] at hq;exact aC.done hq
theorem FK (F:cz K "without_whole" "without_whole" (aO 11) f fd) (F1:Fx P w K mg base "whole_part" ["a"] 1 BN):ca P w K mg base 2 f fd ["a"] DS:=by
 refine dP F (N:=["a"]) (by walk_at "s") (by walk_at "l") λ_ _ _ _ _ _ nd hr=>?_;apply aJ
 ·exact(ac (bh (aL (bG hr) (aA F1 (aw.mono hr (by lia)) rfl (ae (aa 0) ak)) ah) (ac (av (aa 0)) ag) ag) (ac (av (cv (aa 0) dU (cW (eS ah)))) ag))
 ·rintro ws G q e ⟨a,rfl,ha,hd,hq⟩;walk_at "R";refine⟨a,rfl,ha,hd,?_⟩;walk_at "R";split
  ·rename_i h;rw[oi ha h] at hq;exact aC.done hq
  ·rename_i h;rw[ke ha h] at hq;rw[vd];exact aC.done hq
noncomputable def kC (e:O):O->O
 | .z=> .z
 | .c f d t=> .c (O.plusO e f) d (kC e t)
theorem lB (e:O):∀b:O,mapP (λ_ _=>true) (λx m=>iu (O.plusO e x) m) b=aq (kC e b)
 | .z=>rfl
 | .c f d t=>by rw[mapP,ycx rfl,lB e t];rfl
theorem oj (e:O):∀b:O,(kC e b).len=b.len
 | .z=>rfl
 | .c f d t=>by simp only[kC,O.len,oj e t]
theorem lC {e:O} {n:Int} {r:O}:∀{b:O},b.NF->O.mulP e n r b=O.app (kC e (O.filt (λy _=>decide (¬y=.z)) b)) (if O.same .z b=0 then .z else .c e (n*O.same .z b) r)
 | .z,_=>rfl
 | .c f d t,hb=>by
   rw[O.mulP_c,O.filt_c]
   by_cases k:f=.z
   ·subst k;have hd:=hb.2.1;rw[ycx rfl,ybv (by simp),O.Lt_z hb.2.2.1,O.same_self (r:= .z) trivial,ybv (by lia)]
    rfl
   ·rw[ybv k,ycx (by simpa using k),O.same_ne k,lC hb.2.2.2]
    rfl
noncomputable def vK:bQ:=λws G q _=>∃a b:O,ws=[.tup (aq a),.tup (aq b)]/\a.NF/\b.NF/\a.dp<=40/\b.dp<=40/\O.hw a<=1000/\O.hw b<=1000/\O.mx a<=zI/\O.mx b<=zI/\q (.tup (aq (O.timesO a b))) G
theorem FL (F:cz K "times" "times" (aO 17) f fd) (F1:Fx P w K mg base "whole_part" ["a"] 1 BN) (F2:Fx P w K mg base "without_whole" ["a"] 2 DS) (F3:Fx P w K mg base "plus" ["a","b"] 3 mJ) (mt:mg "tuple"=none):ca P w K mg base 4 f fd ["a","b"] vK:=by
 refine dP F (N:=["a","b","exponent","parts","many"]) (by walk_at "s") (by walk_at "l") λ_ _ _ _ _ _ nd hr=>?_;apply aJ
 ·exact(ac (bh (iE (kQ (aL (bG hr) (aa 0) (bp ak)) (iD (aL (bG hr) (aa 1) (bp ak))))) (ac (av (bp ak)) ag) ag) (ac (aR 2 nd rfl (.inr rfl) (aD aE (aD aE (aa 0) ah) ah)) (ac (xy 3 (d7 (by first | rfl | decide+kernel)) rfl nd rfl (.inl rfl) (ck (aA F2 (aw.mono hr (by lia)) rfl (ae (aa 1) ak))) (λ_ _ _ _=>(ci 1 (by first | assumption | decide+kernel | rfl) rfl (.inl rfl))) (λ_ _ _ _=>du) (λ_ _ _ _=>(bp (ae (aA F3 (aw.mono hr (by lia)) rfl (ae (aa 3 rfl (.inr (.inl rfl))) (ae (aD aE (aa 1) ah) ak))) (ae (aD aE (aa 1) ah) ak))))) (ac (aR 4 nd rfl (.inl rfl) (aA F1 (aw.mono hr (by lia)) rfl (ae (aa 1) ak))) (ac (bh (aL (bG hr) (aa 4) ah) (ac (av (bV fI rfl mt fL (ae (aa 3) ak))) ag) ag) (ac (av (aS bZ (aS bZ (bV fI rfl mt fL (ae (aa 3) ak)) (bp (ae (bp (ae (aa 2 rfl (.inr (.inl rfl))) (ae (aS Bs (aD aE (aD aE (aa 0) ah) ah) (aa 4)) ak))) ak))) (cv (aa 0) (cW ah) dU))) ag))))))
 ·rintro ws G q e ⟨a,b,rfl,na,nb,da,db,sa,sb,ma,mb,hq⟩;have hda:=dw a;have hdb:=dw b;have la:=O.len_le_hw a;have lb:=O.len_le_hw b;walk_at "a0";refine⟨cu a,by lia,?_⟩;rw[cC];cases a with
  | z=>
    rw[ycx (by simp)];exact aC.done hq
  | c e n r=>
    rw[ybv (by simp)];refine⟨cu b,by lia,?_⟩;rw[cC]
    by_cases hb0:b=.z
    ·subst hb0;rw[ycx (by simp)];exact aC.done hq
    ·rw[ybv (by simpa using hb0)];subst hU;rw[O.hw_c] at sa;simp only[O.dp,O.len] at da la;have le1:=O.len_le_hw e;have lr1:=O.len_le_hw r;rw[bW];unfold iu mW;walk_at "a0";walk_at "a";refine⟨b,rfl,nb,by lia,?_⟩;walk_at "R";show cq _ _ _ _ _ [none,none,none,some (W.tup (aq e))] G [] _;have lf:=jR (λy _=>decide (¬y=O.z)) b;have df:=O.dp_filt (λy _=>decide (¬y=O.z)) b;have sf:=O.hw_filt (λy _=>decide (¬y=O.z)) b;refine jS (λ_ _=>true) (λx m=>iu (O.plusO e x) m) trivial (qT _) (λy m hy k hk=>?_) (λy m hy _ k hk=>?_) (by rw[length_nil];lia) (λ_=>rfl) λp1 hp1=>?_
     ·walk_at "R";exact hk
     ·have ly:=O.len_le_hw y;unfold iu mW at hk ⊢;walk_at "R";exact⟨e,y,rfl,na.1,by lia,by lia,by lia,by lia,hk⟩
     rw[nil_append,lB];have hG1:=af (G:=G) (a:=p1) (g:=GO.lst (aq (kC e (O.filt (λy _=>decide (¬y=O.z)) b))));have le:aC G (aF G p1 (GO.lst (aq (kC e (O.filt (λy _=>decide (¬y=O.z)) b))))):=aC.new hp1;generalize aF G p1 (GO.lst (aq (kC e (O.filt (λy _=>decide (¬y=O.z)) b))))=G1 at hG1 le ⊢;walk_at "a";refine⟨b,rfl,nb,by lia,?_⟩;have hsp:O.timesO (.c e n r) b=_:=lC (e:=e) (n:=n) (r:=r) nb;rw[hsp] at hq;have hn:=na.2.1;have hsm:=O.same_le_mx .z nb;have hs0:=O.same_nonneg .z nb;rw[O.mx_c] at ma;have lm:=oj e (O.filt (λy _=>decide (¬y=O.z)) b);walk_at "a";split
     ·rename_i h0;refine⟨_,hG1,G,le,?_⟩;rw[ycx h0] at hq;have:O.app (kC e (O.filt (λy _=>decide (¬y=O.z)) b)) .z=kC e (O.filt (λy _=>decide (¬y=O.z)) b):=nP (by rw[fA,Bf,append_nil]);rw[this] at hq;exact hq
     ·rename_i h0;rw[ybv h0,fA,bW] at hq;subst hU;have e1:dc (W.tup [W.tup (aq e),W.int n]::aq r) (some 1) none=aq r:=by rw[show(1:Int)=((1:Nat):Int) from rfl,jQ];rfl
      walk_at "R";rw[e1];refine⟨_,hG1,.inl (.inr (Fv (by lia) (by lia) (by assumption) (by lia))),by rw[aY,lm];lia,by rw[length_append,aY,aY,length_cons,length_nil,lm];lia,G,le,?_⟩;rw[append_assoc];exact hq
noncomputable def DT:bQ:=λws G q _=>∃n k:Int,ws=[.int n,.int k]/\q (.bl (decide (k<=n))) G
theorem scWh:bS ["thing","least"] ["thing","least"] (am (aO 5)):=by walk_at "s"
theorem FM {T:Addr} {ds:ydw} (F:gv K "is_whole" "is_whole" (aO 5) f fd T ds) (mi:mg "isinstance"=none) (mn:mg "int"=none) (mb:mg "bool"=none):ca P w K mg base 1 f fd ["thing","least"] DT:=by
 have nd:=scWh.nd;refine Dq F scWh (λws G q e h=>by obtain⟨_,_,rfl,_⟩:=h;rfl) (λcdv A outer s H E hr=>?_);apply aJ
 ·exact(ac (av (o8 (pw (T:="int") (x:="int") (by first | simp[r9] | assumption | decide+kernel) PyProof.Rows.boot_int mn rfl mi rfl (aa 0)) (o8 (AL (pw (T:="bool") (x:="bool") (by first | simp[r9] | assumption | decide+kernel) PyProof.Rows.boot_bool mb rfl mi rfl (aa 0))) (tT (eN CT (aa 0) (aa 1)))))) ag)
 ·rintro ws G q e ⟨n,k,rfl,hq⟩;walk_at "R";exact aC.done hq
noncomputable def vL:bQ:=λws G q _=>∃(x:O) (n:Int),ws=[.tup (aq x),.int n]/\0<=n/\q (.tup (aq (if n=0 then .z else .c x n .z))) G
theorem scRs:bS ["exponent","times"] ["exponent","times"] (am (aO 8)):=by walk_at "s"
theorem DU {T:Addr} {ds:ydw} (F:gv K "raised" "raised" (aO 8) f fd T ds) (F1:Dr P w K mg base "is_whole" ["thing","least"] 1 DT [.int 0]):ca P w K mg base 2 f fd ["exponent","times"] vL:=by
 have nd:=scRs.nd;refine Dq F scRs (λws G q e h=>by obtain⟨_,_,rfl,_⟩:=h;rfl) (λcdv A outer s H E hr=>?_);apply aJ
 ·exact(ac (bh (dZ (cB (pC F1 (aw.mono hr (by lia)) rfl (ae (aa 1) ak)))) (ac ut ag) ag) (ac (bh (aL (bG hr) (aa 1) ah) (ac (av (bp ak)) ag) ag) (ac (av (bp (ae (bp (ae (aa 0) (ae (aa 1) ak))) ak))) ag)))
 ·rintro ws G q e ⟨x,n,rfl,hn,hq⟩;walk_at "R";refine⟨n,0,rfl,?_⟩;walk_at "R";rw[ybv (by lia)];split
  ·rename_i h;rw[ycx h] at hq;exact aC.done hq
  ·rename_i h;rw[ybv h,bW] at hq;exact aC.done hq
noncomputable def kD:bQ:=λws G q _=>∃n:Int,ws=[.int n]/\0<=n/\q (.tup (aq (O.wh n))) G
theorem FN (F:cz K "whole" "whole" (aO 6) f fd) (F1:Fx P w K mg base "raised" ["exponent","times"] 2 vL):ca P w K mg base 3 f fd ["n"] kD:=by
 refine dP F (N:=["n"]) (by walk_at "s") (by walk_at "l") λ_ _ _ _ _ _ nd hr=>?_;apply aJ
 ·exact(ac (av (aA F1 (aw.mono hr (by lia)) rfl (ae (bp ak) (ae (aa 0) ak)))) ag)
 ·rintro ws G q e ⟨n,rfl,hn,hq⟩;walk_at "R";exact⟨.z,n,rfl,hn,aC.done hq⟩
noncomputable abbrev Row:=Rq Str
structure Cs where
 s:Addr
 c:Addr
 a:Addr
 l:Addr
 t:Addr
 w:Addr
 n:Addr
 b:Addr
noncomputable def Cs.at_ (C:Cs):Nat->Addr
 | 0=>C.s
 | 1=>C.c
 | 2=>C.a
 | 3=>C.l
 | 4=>C.t
 | 5=>C.w
 | 6=>C.n
 | _=>C.b
noncomputable def kd:Row->Nat
 | .set _ _=>0
 | .copy _ _=>1
 | .add _ _=>2
 | .less _=>3
 | .times _ _=>4
 | .whl _ _ _=>5
 | .count _ _=>6
 | .bear _ _ _ _=>7
noncomputable abbrev fE (hs:List (O×List Str)):List W:=hs.map λp=> .tup [.tup (aq p.1),.tup (p.2.map W.str)]
noncomputable abbrev FO (b:Str) (as:List Addr) (rs:aT Str):List (Str×W):=[("box",.str b),("rows",.tup (as.map W.ref)),("of_round",.tup (aq rs.rnd))]
noncomputable abbrev EC (b:Str) (hs:List (O×List Str)) (as:List Addr) (rs:aT Str):List (Str×W):=[("box",.str b),("heights",.tup (fE hs)),("rows",.tup (as.map W.ref)),("of_round",.tup (aq rs.rnw))]
mutual
inductive kf (C:Cs) (G:Gp):Addr->Row->Prop where
 | set {a:Addr} {b:Str} {n:Int} (h:G a=some (.ins C.s [("box",.str b),("amount",.int n)])):kf C G a (.set b n)
 | copy {a:Addr} {b o:Str} (h:G a=some (.ins C.c [("box",.str b),("other",.str o)])):kf C G a (.copy b o)
 | add {a:Addr} {b o:Str} (h:G a=some (.ins C.a [("box",.str b),("other",.str o)])):kf C G a (.add b o)
 | less {a:Addr} {b:Str} (h:G a=some (.ins C.l [("box",.str b)])):kf C G a (.less b)
 | times {a:Addr} {b:Str} {as:List Addr} {rs:aT Str} (h:G a=some (.ins C.t (FO b as rs))) (hs:eE C G as rs):kf C G a (.times b rs)
 | count {a l:Addr} {b:Str} {as:List Addr} {rs:aT Str} {n:Int} (h:G a=some (.ins C.n [("loop",.ref l),("rounds",.int n)])) (hl:G l=some (.ins C.t (FO b as rs))) (hs:eE C G as rs):kf C G a (.count rs n)
 | whl {a:Addr} {b:Str} {ms:List (O×List Str)} {as:List Addr} {rs:aT Str} (h:G a=some (.ins C.w (EC b ms as rs))) (hs:eE C G as rs):kf C G a (.whl b ms rs)
 | bear {a l:Addr} {b:Str} {ms:List (O×List Str)} {as:List Addr} {rs:aT Str} {o:O} (h:G a=some (.ins C.b [("loop",.ref l),("borne",.tup (aq o))])) (hl:G l=some (.ins C.w (EC b ms as rs))) (hs:eE C G as rs):kf C G a (.bear b ms rs o)
inductive eE (C:Cs) (G:Gp):List Addr->aT Str->Prop where
 | nil:eE C G [] .nil
 | cons {a:Addr} {as:List Addr} {r:Row} {rs:aT Str} (h:kf C G a r) (hs:eE C G as rs):eE C G (a::as) (.cons r rs)
end
noncomputable def cG (G G':Gp):Prop:=∀a C x fs,G a=some (.ins C (x::fs))->G' a=some (.ins C (x::fs))
theorem aC.ins {G G':Gp} (h:aC G G'):cG G G':=λ_ _ _ _ e=>h _ _ e
theorem cG.but {G G':Gp} {p:Addr} (h:∀x g,x≠p->G x=some g->G' x=some g) (hp:∀C y fs,G p≠some (.ins C (y::fs))):cG G G':=λa C y fs e=>h a _ (λz=>hp C y fs (z▸e)) e
mutual
theorem kf.mono {C:Cs} {G G':Gp} (l:cG G G'):∀{a:Addr} {r:Row},kf C G a r->kf C G' a r
 | _,_,.set h=> .set (l _ _ _ _ h)
 | _,_,.copy h=> .copy (l _ _ _ _ h)
 | _,_,.add h=> .add (l _ _ _ _ h)
 | _,_,.less h=> .less (l _ _ _ _ h)
 | _,_,.times h hs=> .times (l _ _ _ _ h) (eE.mono l hs)
 | _,_,.count h hl hs=> .count (l _ _ _ _ h) (l _ _ _ _ hl) (eE.mono l hs)
 | _,_,.whl h hs=> .whl (l _ _ _ _ h) (eE.mono l hs)
 | _,_,.bear h hl hs=> .bear (l _ _ _ _ h) (l _ _ _ _ hl) (eE.mono l hs)
theorem eE.mono {C:Cs} {G G':Gp} (l:cG G G'):∀{as:List Addr} {rs:aT Str},eE C G as rs->eE C G' as rs
 | _,_,.nil=> .nil
 | _,_,.cons h hs=> .cons (kf.mono l h) (eE.mono l hs)
end
theorem kf.isIns {C:Cs} {G:Gp} {r:Row} (h:kf C G a r):∃fs,G a=some (.ins (C.at_ (kd r)) fs)/\fs.lookup ("weigh":Str)=none/\fs.lookup ("step":Str)=none:=by
 cases h with
 | set h=>exact⟨_,h,rfl,rfl⟩
 | copy h=>exact⟨_,h,rfl,rfl⟩
 | add h=>exact⟨_,h,rfl,rfl⟩
 | less h=>exact⟨_,h,rfl,rfl⟩
 | times h hs=>exact⟨_,h,rfl,rfl⟩
 | count h hl hs=>exact⟨_,h,rfl,rfl⟩
 | whl h hs=>exact⟨_,h,rfl,rfl⟩
 | bear h hl hs=>exact⟨_,h,rfl,rfl⟩
structure Sz (r:Row):Prop where
 nn:r.nn
 hb:r.hb<=500
 mb:(r.mb:Int)<=10^300
structure lD (rs:aT Str):Prop where
 nn:rs.nn
 hb:rs.hb<=500
 mb:(rs.mb:Int)<=10^300
theorem lD.cons {r:Row} {rs:aT Str} (h:lD (.cons r rs)):Sz r/\lD rs:=by
 have h1:=h.nn;have h2:=h.hb;have h3:=h.mb;have e2:(aT.cons r rs).hb=rs.hb+r.hb:=rfl;have e3:(aT.cons r rs).mb=rs.mb+r.mb:=rfl;rw[e2] at h2;rw[e3] at h3;exact⟨⟨h1.1,by lia,by lia⟩,⟨h1.2,by lia,by lia⟩⟩
mutual
theorem zR:∀r:Row,r.lb<=r.hb
 | .set _ _=>yby _
 | .copy _ _=>yby _
 | .add _ _=>yby _
 | .less _=>yby _
 | .times _ rs=>by show 1<=rs.hb+2;lia
 | .count rs _=>by have:=eg rs;show rs.lb+2<=rs.hb+3;lia
 | .whl _ [] rs=>by have:=eg rs;show rs.lb+2<=rs.hb+_+2;lia
 | .whl _ (_::_) rs=>by show 2<=rs.hb+_+2;lia
 | .bear _ _ rs o=>by have:=eg rs;have:=O.len_le_hw o;show rs.lb+1+o.len+1<=rs.hb+O.hw o+2;lia
theorem eg:∀rs:aT Str,rs.lb<=rs.hb
 | .nil=>yby _
 | .cons r rs=>by have:=zR r;have:=eg rs;show rs.lb+r.lb<=rs.hb+r.hb;lia
end
noncomputable def ol:∀rs:List Row,(rs.reverse.map Rq.wt).foldl O.plusO .z=cm rs
 | []=>rfl
 | r::rs=>by rw[List.reverse_cons,map_append,List.foldl_append,ol rs];rfl
noncomputable def kE (C:Cs) (i:Nat):bQ:=λws G q _=>∃(a:Addr) (r:Row),ws=[.ref a]/\kf C G a r/\kd r=i/\Sz r/\q (.tup (aq r.wt)) G
theorem yS {C:Cs} (hi:i<4) (F:cz K "weigh" "Row.weigh" (bb 21 0) f fd) (F1:Fx P w K mg base "whole" ["n"] 3 kD):ca P w K mg base 6 f fd ["self"] (kE C i):=by
 refine dP (k:=5) F (N:=["self"]) (by walk_at "s") (by walk_at "l") λ_ _ _ _ _ _ nd hr=>?_;apply aJ
 ·exact(ac (av (aA F1 (aw.mono hr (by lia)) rfl (ae ah ak))) ag)
 ·rintro ws G q e ⟨a,r,rfl,ha,hk,hz,hq⟩;walk_at "R";refine⟨1,rfl,by decide,aC.done ?_⟩;cases ha with
  | set h=>exact hq
  | copy h=>exact hq
  | add h=>exact hq
  | less h=>exact hq
  | _=>subst hk;exact absurd hi (show ¬(_:Nat)<4 by simp[kd])
noncomputable def DV:bQ:=λws G q _=>ws=[]/\q (.tup (aq om)) G
theorem FP (F:cz K "endless" "endless" (aO 7) f fd) (F1:Fx P w K mg base "whole" ["n"] 3 kD) (F2:Dr P w K mg base "raised" ["exponent","times"] 2 vL [.int 1]):ca P w K mg base 4 f fd [] DV:=by
 refine dP F (N:=[]) (by walk_at "s") (by walk_at "l") λ_ _ _ _ _ _ nd hr=>?_;apply aJ
 ·exact(ac (av (pC F2 (aw.mono hr (by lia)) rfl (ae (aA F1 (aw.mono hr (by lia)) rfl (ae ah ak)) ak))) ag)
 ·rintro ws G q e ⟨rfl,hq⟩;walk_at "R";refine⟨1,rfl,by decide,O.wh 1,1,rfl,by decide,aC.done ?_⟩;exact hq
theorem vM {rs:aT Str} (z:lD rs):rs.rnd.NF/\rs.rnd.dp<=4/\O.hw rs.rnd<=501/\O.mx rs.rnd<=10^300+1:=by
 have x:=aT.rb z.nn;have h1:=x.hw;have h2:=x.mx;have h3:=z.hb;have h4:=z.mb;exact⟨x.nf,x.dp,by lia,by lia⟩
theorem vN {rs:aT Str} (z:lD rs):rs.rnw.NF/\rs.rnw.dp<=4/\O.hw rs.rnw<=501/\O.mx rs.rnw<=10^300+2:=by
 have x:=aT.rbw z.nn;have h1:=x.hw;have h2:=x.mx;have h3:=z.hb;have h4:=z.mb;exact⟨x.nf,x.dp,by lia,by lia⟩
noncomputable def Hn (os:List O):Prop:=(∀o,o∈os->o.NF/\o.dp<=4)/\(os.map O.len).sum<=1000
noncomputable def DW:bQ:=λws G q _=>∃(p:Addr) (os:List O),ws=[.ref p]/\G p=some (.lst (os.map λo=> .tup (aq o)))/\Hn os/\q (.tup (aq (os.foldl O.plusO .z))) G
theorem FQ (F:cz K "total" "total" (aO 15) f fd) (F1:Fx P w K mg base "plus" ["a","b"] 3 mJ):ca P w K mg base 4 f fd ["some"] DW:=by
 refine dP F (N:=["some","found","number"]) (by walk_at "s") (by walk_at "l") λ_ _ _ _ _ _ nd hr=>?_;apply aJ
 ·exact(ac (aR 1 nd rfl (.inl rfl) (bp ak)) (ac (dG PySem.PassesOwn.never rfl (ck (aa 0)) (bT 2 nd rfl (.inl rfl)) (ac (aR 1 nd rfl (.inl rfl) (aA F1 (aw.mono hr (by lia)) rfl (ae (aa 1) (ae (aa 2) ak)))) ag)) (ac (av (aa 1)) ag)))
 ·rintro ws G q e ⟨p,os,rfl,hG,⟨hp1,hp2⟩,hq⟩;walk_at "a0";walk_at "a";refine⟨_,hG,?_⟩;refine bY (λws τ G'=>G'=G/\∃(a:O) (todo:List O) (t:Option W),ws=(todo.map λo=> .tup (aq o))/\τ=[some (.ref p),some (.tup (aq a)),t]/\todo.foldl O.plusO a=os.foldl O.plusO .z/\a.NF/\a.dp<=4/\a.len+(todo.map O.len).sum<=1000/\∀o,o∈todo->o.NF/\o.dp<=4) ?_ ?_ _ _ _ ⟨rfl,.z,os,none,rfl,rfl,rfl,trivial,zero_le _,by show 0+_<=_;lia,hp1⟩
  ·rintro τ G' ⟨rfl,a,todo,t,hw,rfl,hf,_⟩;refine⟨hG,?_⟩;have hb:todo=[]:=by simpa using hw.symm
   subst hb;subst hU;walk_at "R";rw[←hf] at hq;exact aC.done hq
  ·rintro w1 ws τ G' kk ⟨rfl,a,todo,t,hw,rfl,hf,a1,a2,a3,a4⟩ hk;cases todo with
   | nil=>cases hw
   | cons o todo=>
     cases hw;refine⟨hG,?_⟩;obtain⟨o1,o2⟩:=a4 o yaz;rw[map_cons,sum_cons] at a3;walk_at "R";refine⟨a,o,rfl,a1,by lia,by lia,by lia,by lia,?_⟩;have l1:=jO a o;have l2:=O.dp_plus a o;refine hk _ _ ⟨rfl,O.plusO a o,todo,_,rfl,rfl,hf,a1.plus o1,ybz l2 (max_le.mpr ⟨a2,o2⟩),by lia,λx hx=>a4 x (yay _ hx)⟩
noncomputable def Rows (C:Cs) (G:Gp) (ps:List (Addr×Row)):Prop:=∀p,p∈ps->kf C G p.1 p.2
theorem Rows.mono {C:Cs} {G G':Gp} {ps:List (Addr×Row)} (h:Rows C G ps) (l:cG G G'):Rows C G' ps:=λp hp=>(h p hp).mono l
theorem eE.rows {C:Cs} {G:Gp}:∀{as:List Addr} {rs:aT Str},eE C G as rs->∃ps,as=ps.map (·.1)/\rs.L=ps.map (·.2)/\Rows C G ps
 | _,_,.nil=>⟨[],rfl,rfl,λ_ h=>(nomatch h)⟩
 | _,_,.cons (a:=a) (r:=r) h hs=>by
   obtain⟨ps,h1,h2,h3⟩:=eE.rows hs;refine⟨(a,r)::ps,by rw[h1];rfl,by rw[aT.L,h2];rfl,λp hp=>?_⟩;rcases mem_cons.mp hp with rfl | hp
   ·exact h
   ·exact h3 p hp
theorem Rows.ats {C:Cs} {G:Gp}:∀{ps:List (Addr×Row)},Rows C G ps->eE C G (ps.map (·.1)) (aT.of (ps.map (·.2)))
 | [],_=> .nil
 | p::ps,h=> .cons (h p yaz) (Rows.ats λx hx=>h x (yay _ hx))
theorem lD.mem:∀{rs:aT Str},lD rs->∀r,r∈rs.L->Sz r
 | .nil,_,r,h=>(nomatch h)
 | .cons r0 rs,z,r,h=>by
   obtain⟨z1,z2⟩:=z.cons;rcases mem_cons.mp h with rfl | h
   ·exact z1
   ·exact lD.mem z2 r h
theorem lE:∀rs:aT Str,rs.L.length<=rs.hb
 | .nil=>yby _
 | .cons r rs=>by
   have h1:=lE rs;have h2:1<=r.hb:=by
    cases r with
    | times b rs=>show 1<=rs.hb+2;lia
    | count rs n=>show 1<=rs.hb+3;lia
    | whl b hs rs=>show 1<=rs.hb+_+2;lia
    | bear b hs rs o=>show 1<=rs.hb+_+2;lia
    | _=>exact yby _
   show rs.L.length+1<=rs.hb+r.hb;lia
theorem vO:∀rs:aT Str,rs.nn->((rs.L.map Rq.wt).map O.len).sum<=rs.lb
 | .nil,_=>yby _
 | .cons r rs,h=>by
   have h1:=vO rs h.2;have h2:=(r.wq h.1).ln;show r.wt.len+((rs.L.map Rq.wt).map O.len).sum<=rs.lb+r.lb;lia
theorem lD.pls {rs:aT Str} (z:lD rs):Hn (rs.L.reverse.map Rq.wt):=by
 constructor
 ·intro o ho;obtain⟨r,hr,rfl⟩:=mem_map.mp ho;have:=r.wq (z.mem r (List.mem_reverse.mp hr)).nn;exact⟨this.nf,this.dp⟩
 ·have h1:=vO rs z.nn;have h2:=eg rs;have h3:=z.hb;rw[map_reverse,map_reverse,List.sum_reverse];lia
theorem DX (rs:aT Str):cm rs.L=rs.wt:=by rw[←qM,aT.of_L]
noncomputable def ED (S:Nat->Prop) (rs:aT Str):Prop:=∀r,r∈rs.L->S (kd r)
noncomputable def BO (C:Cs) (S:Nat->Prop):bQ:=λws G q _=>∃(as:List Addr) (rs:aT Str),ws=[.tup (as.map W.ref)]/\eE C G as rs/\lD rs/\ED S rs/\q (.tup (aq rs.wt)) G
theorem FR {C:Cs} {S:Nat->Prop} (F:cz K "weight_of" "weight_of" (aO 19) f fd) (F1:Fx P w K mg base "total" ["some"] 4 DW) (M:∀i,S i->Mt P w K mg base (C.at_ i) "weigh" ["self"] 6 (kE C i) []) (mr:mg "reversed"=none):ca P w K mg base 7 f fd ["things"] (BO C S):=by
 refine dP F (N:=["things"]) (by walk_at "s") (by walk_at "l") λ_ _ _ _ _ _ nd hr=>?_;apply aJ
 ·refine' cV (av (aA F1 (aw.mono hr (by lia)) rfl (ae (fK (d7 (by first | rfl | decide+kernel)) rfl (A0 rfl mr ?it) (λ_ _ _ _=>?tg) (λ_ _ _ _=>?tt) (λ_ _ _ _=>mq (S:=S) (t:=λi=>kX (C.at_ i) "weigh" (kE C i) [] (iB 1) lU) λi hi=>nG ?me (M i hi) (aw.mono hr (by lia)))) ak)))
  case it=>exact(ae (aa 0) ak)
  case tg=>exact(ci 1 (by first | assumption | decide+kernel | rfl) rfl (.inl rfl))
  case tt=>exact du
  case me=>exact(aa 1)
 ·rintro ws G q e ⟨as,rs,rfl,ha,hz,hkd,hq⟩;obtain⟨ps,rfl,h2,h3⟩:=ha.rows;have hl:=lE rs;have hb:=hz.hb;have hpl:ps.length=rs.L.length:=by rw[h2,length_map]
  walk_at "R";have ep:((ps.map (·.1)).map W.ref).reverse=ps.reverse.map λp=>W.ref p.1:=by rw[map_map,map_reverse];rfl
  rw[ep];refine fN (i:=1) (λp:Addr×Row=>W.ref p.1) (λp=> .tup (aq p.2.wt)) (τ0:=[none,none]) trivial (λp hp k hk=>?_) (by rw[length_reverse];show 0+_<=_;lia) (λ_=>rfl) λp hp=>?_
  ·have hp':=List.mem_reverse.mp hp;have h4:=h3 p hp';have hm:p.2∈rs.L:=by rw[h2];exact mem_map.mpr ⟨p,hp',rfl⟩
   obtain⟨fs,h6,h7,_⟩:=h4.isIns;walk_at "R";exact⟨kd p.2,hkd _ hm,p.1,fs,rfl,h6,h7,p.1,p.2,rfl,h4,rfl,hz.mem _ hm,hk⟩
  ·refine⟨p,rs.L.reverse.map Rq.wt,rfl,?_,hz.pls,?_⟩
   ·rw[af,nil_append,h2,←map_reverse,map_map,map_map]
    rfl
   ·rw[ol,DX];exact⟨G,aC.new hp,hq⟩
theorem mK:(10:Int)^400<=zI:=by unfold zI;decide+kernel
theorem vP {b:Str} {rs:aT Str} (h:Sz (.times b rs)):lD rs:=by
 have h1:=h.nn;have h2:=h.hb;have h3:=h.mb;have e2:(Rq.times b rs).hb=rs.hb+2:=rfl;have e3:(Rq.times b rs).mb=(rs.mb+2)*2:=rfl;rw[e2] at h2;rw[e3] at h3;exact⟨h1,by lia,by lia⟩
theorem vQ {b:Str} {hs:List (O×List Str)} {rs:aT Str} (h:Sz (.whl b hs rs)):lD rs/\sR 3 hs/\O.hw (hpw hs)<=500/\O.mx (hpw hs)<=10^300:=by
 have h1:=h.nn;have h2:=h.hb;have h3:=h.mb;have e2:(Rq.whl b hs rs).hb=rs.hb+O.hw (hpw hs)+2:=rfl;have e3:(Rq.whl b hs rs).mb=(rs.mb+3)*((O.mx (hpw hs)).toNat+1)+1:=rfl;rw[e2] at h2;rw[e3] at h3;have h4:rs.mb+3<=(rs.mb+3)*((O.mx (hpw hs)).toNat+1):=Nat.le_mul_of_pos_right _ (by lia);have h5:(O.mx (hpw hs)).toNat+1<=(rs.mb+3)*((O.mx (hpw hs)).toNat+1):=Nat.le_mul_of_pos_left _ (by lia);exact⟨⟨h1.1,by lia,by lia⟩,h1.2,by lia,by lia⟩
theorem FS {C:Cs} (F:cz K "weigh" "Times.weigh" (bb 26 1) f fd) (F1:Fx P w K mg base "times" ["a","b"] 4 vK) (F2:Fx P w K mg base "endless" [] 4 DV) (hc:dq K C.t) (h1:ay K C.t "of_round"):ca P w K mg base 6 f fd ["self"] (kE C 4):=by
 refine dP (k:=5) F (N:=["self"]) (by walk_at "s") (by walk_at "l") λ_ _ _ _ _ _ nd hr=>?_;apply aJ
 ·exact(ac (av (aA F1 (aw.mono hr (by lia)) rfl (ae (bg (aa 0)) (ae (AT F2 (aw.mono hr (by lia)) rfl) ak)))) ag)
 ·rintro ws G q e ⟨a,r,rfl,ha,hk,hz,hq⟩;cases ha with
  | times h hs=>
    rename_i b as rs;have z:=vP hz;obtain⟨r1,r2,r3,r4⟩:=vM z;have c0:=mK;walk_at "R";refine⟨a,C.t,_,_,rfl,h,⟨hc,h1⟩,rfl,rfl,rs.rnd,om,rfl,r1,uT,by lia,by decide,by lia,by decide,ydx r4 (ydx (by decide+kernel) c0),ydx (by decide:O.mx om<=1) (ydx (by decide+kernel) c0),aC.done ?_⟩;exact hq
  | _=>cases hk
theorem oo {rs:aT Str} {n:Int} (h:Sz (.count rs n)):lD rs/\0<=n/\n<=10^300:=by
 have h1:=h.nn;have h2:=h.hb;have h3:=h.mb;have e2:(Rq.count rs n).hb=rs.hb+3:=rfl;have e3:(Rq.count rs n).mb=(rs.mb+2)*(n.toNat+1)+1:=rfl;rw[e2] at h2;rw[e3] at h3;have h4:rs.mb+2<=(rs.mb+2)*(n.toNat+1):=Nat.le_mul_of_pos_right _ (by lia);have h5:n.toNat+1<=(rs.mb+2)*(n.toNat+1):=Nat.le_mul_of_pos_left _ (by lia);have h6:=h1.2;exact⟨⟨h1.1,by lia,by lia⟩,h6,by lia⟩
theorem rA {b:Str} {hs:List (O×List Str)} {rs:aT Str} {o:O} (h:Sz (.bear b hs rs o)):lD rs/\sR 3 hs/\o.NF/\o.dp<=4/\O.hw o<=500/\O.mx o<=10^300:=by
 have h1:=h.nn;have h2:=h.hb;have h3:=h.mb;have e2:(Rq.bear b hs rs o).hb=rs.hb+O.hw o+2:=rfl;have e3:(Rq.bear b hs rs o).mb=(rs.mb+3)*((O.mx o).toNat+1)+1:=rfl;rw[e2] at h2;rw[e3] at h3;have h4:rs.mb+3<=(rs.mb+3)*((O.mx o).toNat+1):=Nat.le_mul_of_pos_right _ (by lia);have h5:(O.mx o).toNat+1<=(rs.mb+3)*((O.mx o).toNat+1):=Nat.le_mul_of_pos_left _ (by lia);exact⟨⟨h1.1,by lia,by lia⟩,h1.2.1,h1.2.2.1,h1.2.2.2,by lia,by lia⟩
theorem FT {C:Cs} (F:cz K "weigh" "Count.weigh" (bb 27 1) f fd) (F1:Fx P w K mg base "times" ["a","b"] 4 vK) (F2:Fx P w K mg base "whole" ["n"] 3 kD) (F3:Fx P w K mg base "plus" ["a","b"] 3 mJ) (hc:dq K C.t) (h1:ay K C.t "of_round") (hc2:dq K C.n) (h2:ay K C.n "loop") (h3:ay K C.n "rounds"):ca P w K mg base 6 f fd ["self"] (kE C 6):=by
 refine dP (k:=5) F (N:=["self"]) (by walk_at "s") (by walk_at "l") λ_ _ _ _ _ _ nd hr=>?_;apply aJ
 ·exact(ac (av (aA F3 (aw.mono hr (by lia)) rfl (ae (aA F1 (aw.mono hr (by lia)) rfl (ae (bg (bg (aa 0))) (ae (aA F2 (aw.mono hr (by lia)) rfl (ae (bg (aa 0)) ak)) ak))) (ae (aA F2 (aw.mono hr (by lia)) rfl (ae ah ak)) ak)))) ag)
 ·rintro ws G q e ⟨a,r,rfl,ha,hk,hz,hq⟩;cases ha with
  | count h hl hs=>
    rename_i l b as rs n;obtain⟨z,n0,n1⟩:=oo hz;obtain⟨r1,r2,r3,r4⟩:=vM z;have c0:=mK;have y:=Wq.wh n0;have x:=(aT.rb z.nn).many n0;have x1:=x.ln;have x2:=eg rs;have x3:=z.hb;have y2:=y.hw;have y3:=y.mx;have y4:=y.dp;have e1:=Wq.wh (n:=1) (by decide);have n2:O.mx (O.wh n)<=10^300:=by lia
    walk_at "R";refine⟨a,C.n,_,_,rfl,h,⟨hc2,h2⟩,rfl,l,C.t,_,_,rfl,hl,⟨hc,h1⟩,rfl,a,C.n,_,_,rfl,h,⟨hc2,h3⟩,rfl,n,rfl,n0,rs.rnd,O.wh n,rfl,r1,y.nf,by lia,by lia,by lia,by lia,ydx r4 (ydx (by decide+kernel) c0),ydx n2 (ydx (by decide+kernel) c0),1,rfl,by decide,O.timesO rs.rnd (O.wh n),O.wh 1,rfl,x.nf,ybz x.dp (by decide),ybz e1.dp (by decide),by lia,ybz e1.ln (by decide),aC.done ?_⟩;exact hq
  | _=>cases hk
theorem FU {C:Cs} (F:cz K "weigh" "Bearing.weigh" (bb 29 1) f fd) (F1:Fx P w K mg base "times" ["a","b"] 4 vK) (F2:Fx P w K mg base "whole" ["n"] 3 kD) (F3:Fx P w K mg base "plus" ["a","b"] 3 mJ) (hc:dq K C.w) (h1:ay K C.w "of_round") (hc2:dq K C.b) (h2:ay K C.b "loop") (h3:ay K C.b "borne"):ca P w K mg base 6 f fd ["self"] (kE C 7):=by
 refine dP (k:=5) F (N:=["self"]) (by walk_at "s") (by walk_at "l") λ_ _ _ _ _ _ nd hr=>?_;apply aJ
 ·exact(ac (av (aA F3 (aw.mono hr (by lia)) rfl (ae (aA F1 (aw.mono hr (by lia)) rfl (ae (bg (bg (aa 0))) (ae (bg (aa 0)) ak))) (ae (aA F2 (aw.mono hr (by lia)) rfl (ae ah ak)) ak)))) ag)
 ·rintro ws G q e ⟨a,r,rfl,ha,hk,hz,hq⟩;cases ha with
  | bear h hl hs=>
    rename_i l b ms as rs o;obtain⟨z,m1,o1,o2,o3,o4⟩:=rA hz;obtain⟨r1,r2,r3,r4⟩:=vN z;have c0:=mK;have hb:=hz.hb;have hb2:(Rq.bear b ms rs o).hb=rs.hb+O.hw o+2:=rfl;have lt:=iN rs.rnw o;have l1:=O.len_le_hw rs.rnw;have l2:=O.len_le_hw o;have nt:=r1.times o1;have dt:=O.dp_times rs.rnw o;have e1:=Wq.wh (n:=1) (by decide);have x0:=(aT.rbw z.nn).ln;have x2:=eg rs;walk_at "R";refine⟨a,C.b,_,_,rfl,h,⟨hc2,h2⟩,rfl,l,C.w,_,_,rfl,hl,⟨hc,h1⟩,rfl,a,C.b,_,_,rfl,h,⟨hc2,h3⟩,rfl,rs.rnw,o,rfl,r1,o1,by lia,by lia,by lia,by lia,ydx r4 (ydx (by decide+kernel) c0),ydx o4 (ydx (by decide+kernel) c0),1,rfl,by decide,O.timesO rs.rnw o,O.wh 1,rfl,nt,by lia,ybz e1.dp (by decide),by lia,ybz e1.ln (by decide),aC.done ?_⟩;exact hq
  | _=>cases hk
theorem lG:∀l:List Str,W.flats (l.map W.str)=true
 | []=>rfl
 | _::l=>by rw[map_cons,W.flats,lG l];rfl
theorem lH:∀l:List Str,W.deps (l.map W.str)=0
 | []=>rfl
 | _::l=>by rw[map_cons,W.deps,lH l];rfl
theorem lJ:∀hs:List (O×List Str),W.flats (fE hs)=true
 | []=>rfl
 | p::hs=>by
   show W.flats (_::fE hs)=true;rw[W.flats,lJ hs];simp[W.flat,W.flats,bX,lG]
theorem lK:∀{hs:List (O×List Str)},sR 3 hs->W.deps (fE hs)<=100
 | [],_=>zero_le _
 | p::hs,h=>by
   have h1:=lK (hs:=hs) λx hx=>h x (yay _ hx);have h2:=(h p yaz).2.1;have h3:=eB p.1;show W.deps (_::fE hs)<=100;simp only[W.deps,W.dep,lH];lia
theorem FV {C:Cs} (F:cz K "weigh" "While.weigh" (bb 28 1) f fd) (F1:Fx P w K mg base "times" ["a","b"] 4 vK) (F2:Fx P w K mg base "whole" ["n"] 3 kD) (F3:Fx P w K mg base "plus" ["a","b"] 3 mJ) (F4:Dr P w K mg base "raised" ["exponent","times"] 2 vL [.int 1]) (hc:dq K C.w) (h1:ay K C.w "of_round") (h2:ay K C.w "heights"):ca P w K mg base 6 f fd ["self"] (kE C 5):=by
 refine dP (k:=5) F (N:=["self","height"]) (by walk_at "s") (by walk_at "l") λ_ _ _ _ _ _ nd hr=>?_;apply aJ
 ·exact(ac (aR 1 nd rfl (.inl rfl) (jG (aL (ff hr) (bg (aa 0)) (bp ak)) (aA F3 (aw.mono hr (by lia)) rfl (ae (aD aE (aD aE (bg (aa 0)) ah) ah) (ae (aA F2 (aw.mono hr (by lia)) rfl (ae ah ak)) ak))) (bp ak))) (ac (av (aA F3 (aw.mono hr (by lia)) rfl (ae (aA F1 (aw.mono hr (by lia)) rfl (ae (bg (aa 0)) (ae (pC F4 (aw.mono hr (by lia)) rfl (ae (aa 1) ak)) ak))) (ae (aA F2 (aw.mono hr (by lia)) rfl (ae ah ak)) ak)))) ag))
 ·rintro ws G q e ⟨a,r,rfl,ha,hk,hz,hq⟩;cases ha with
  | whl h hs=>
    rename_i b ms as rs;obtain⟨z,m1,m2,m3⟩:=vQ hz;obtain⟨r1,r2,r3,r4⟩:=vN z;obtain⟨g1,g2⟩:=uV m1;obtain⟨p1,p2⟩:=pN m1;have c0:=mK;have e1:=Wb.wh (n:=1) (by decide);have x:=(aT.wq rs z.nn).plus (Wq.wh (n:=2) (by decide));have y:=x.times p1 p2 (ybz (iN _ _) (Nat.add_le_add_right x.ln _));have y1:=y.ln;have l1:=eg rs;have l2:=z.hb;have l3:(hpw ms).len=1:=rfl;have y2:Nat.le (O.len (O.wh 1)) 1:=e1.ln;have r4':=ydx r4 (ydx (by decide+kernel) c0);have m3':=ydx m3 (ydx (by decide+kernel) c0);have hq':∃G0,aC G0 G/\q (.tup (aq (O.plusO (O.timesO rs.rnw (hpw ms)) (O.wh 1)))) G0:=aC.done hq;have y3:(O.timesO rs.rnw (hpw ms)).len<=40000:=ybz y1 (by lia);have fl:(W.tup (fE ms)).flat=true:=by simp only[W.flat];exact lJ ms
    have dl:(W.tup (fE ms)).dep<=150:=by have:=lK m1;simp only[W.dep];lia
    walk_at "a0";refine⟨a,C.w,_,_,rfl,h,⟨hc,h2⟩,rfl,?_⟩;walk_at "R";refine⟨fl,dl,?_⟩;cases ms with
    | nil=>
      rw[ybv (by decide)];subst hU;walk_at "R";exact⟨a,C.w,_,_,rfl,h,⟨hc,h1⟩,rfl,zG [],1,rfl,by decide,rs.rnw,hpw [],rfl,r1,p1,by lia,by lia,by lia,by lia,r4',m3',1,rfl,by decide,O.timesO rs.rnw (hpw []),O.wh 1,rfl,y.nf,ybz y.dp (by decide),ybz e1.dp (by decide),y3,ybz e1.ln (by decide),hq'⟩
    | cons p ms=>
      rw[ycx (by simp only[fE,map_cons,W.eq,W.eqs])];refine⟨a,C.w,_,_,rfl,h,⟨hc,h2⟩,rfl,?_⟩;walk_at "R";obtain⟨o1,o2,o4⟩:=m1 p yaz;have o3:=O.len_le_hw p.1;refine⟨1,rfl,by decide,p.1,O.wh 1,rfl,o1,ybz o2 (by decide),ybz e1.dp (by decide),by lia,ybz e1.ln (by decide),?_⟩;subst hU;walk_at "R";exact⟨a,C.w,_,_,rfl,h,⟨hc,h1⟩,rfl,zG (p::ms),1,rfl,by decide,rs.rnw,hpw (p::ms),rfl,r1,p1,by lia,by lia,by lia,by lia,r4',m3',1,rfl,by decide,O.timesO rs.rnw (hpw (p::ms)),O.wh 1,rfl,y.nf,ybz y.dp (by decide),ybz e1.dp (by decide),y3,ybz e1.ln (by decide),hq'⟩
  | _=>cases hk
noncomputable def kg (kvs:List (ax×W)):Prop:=∀p,p∈kvs->∃n:Int,p.2=.int n
noncomputable def Ir:Option W->Int
 | some (.int n)=>n
 | _=>0
noncomputable def bd (kvs:List (ax×W)) (k:Str):Int:=Ir (bI kvs (.inr k))
theorem oq {kvs:List (ax×W)} {k:ax} {w:W} {e:ax×W} (h:e∈bO kvs k w):e∈kvs∨e.2=w:=by
 unfold bO at h;split at h
 ·obtain⟨x,hx,rfl⟩:=mem_map.mp h;split
  ·exact .inr rfl
  ·exact .inl hx
 ·rcases mem_append.mp h with h | h
  ·exact .inl h
  ·rw[mem_singleton.mp h];exact .inr rfl
theorem kg.put {kvs:List (ax×W)} (h:kg kvs) (k:ax) (n:Int):kg (bO kvs k (.int n)):=λp hp=>by
 rcases oq hp with hp | hp
 ·exact h p hp
 ·exact⟨n,hp⟩
theorem kg.get {kvs:List (ax×W)} (h:kg kvs) (k:Str):(bI kvs (.inr k)).getD (.int 0)=.int (bd kvs k):=by
 unfold bd;cases e:bI kvs (.inr k) with
 | none=>rfl
 | some w=>
   unfold bI at e;obtain⟨p,hp,rfl⟩:=Option.map_eq_some_iff.mp e;obtain⟨n,hn⟩:=h p (List.mem_of_find?_eq_some hp);rw[hn]
   rfl
noncomputable def dy (B:Int) (kvs:List (ax×W)):Prop:=∀p,p∈kvs->∃n:Int,p.2=.int n/\0<=n/\n<=B
theorem dy.int {B:Int} {kvs:List (ax×W)} (h:dy B kvs):kg kvs:=λp hp=>let ⟨n,e,_⟩:=h p hp;⟨n,e⟩
theorem dy.le {B C:Int} {kvs:List (ax×W)} (h:dy B kvs) (l:B<=C):dy C kvs:=λp hp=>let ⟨n,e,h1,h2⟩:=h p hp;⟨n,e,h1,ydx h2 l⟩
theorem dy.put {B:Int} {kvs:List (ax×W)} (h:dy B kvs) (k:ax) {n:Int} (h0:0<=n) (h1:n<=B):dy B (bO kvs k (.int n)):=λp hp=>by
 rcases oq hp with hp | hp
 ·exact h p hp
 ·exact⟨n,hp,h0,h1⟩
theorem dy.get {B:Int} {kvs:List (ax×W)} (h:dy B kvs) (hB:0<=B) (k:Str):0<=bd kvs k/\bd kvs k<=B:=by
 unfold bd;cases e:bI kvs (.inr k) with
 | none=>exact⟨Int.le_refl _,hB⟩
 | some w=>
   unfold bI at e;obtain⟨p,hp,rfl⟩:=Option.map_eq_some_iff.mp e;obtain⟨n,hn,h0,h1⟩:=h p (List.mem_of_find?_eq_some hp);rw[hn];exact⟨h0,h1⟩
noncomputable def ou:bQ:=λws G q _=>∃(d:Addr) (kvs:List (ax×W)) (z:Str),ws=[.ref d,.str z]/\G d=some (.dic kvs)/\kg kvs/\q (.int (bd kvs z)) G
theorem FW (F:cz K "held" "held" (aO 20) f fd):ca P w K mg base 1 f fd ["boxes","box"] ou:=by
 refine dP F (N:=["boxes","box"]) (by walk_at "s") (by walk_at "l") λ_ _ _ _ _ _ nd hr=>?_;apply aJ
 ·exact(ac (av (eY (aa 0) (aa 1) ah)) ag)
 ·rintro ws G q e ⟨d,kvs,z,rfl,hG,hi,hq⟩;walk_at "R";refine⟨⟨_,hG⟩,_,_,rfl,hG,?_⟩;rw[hi.get z];exact aC.done hq
noncomputable def BP (C:Cs):bQ:=λws G q _=>∃(a d:Addr) (b:Str) (hs:List (O×List Str)) (as:List Addr) (rs:aT Str) (kvs:List (ax×W)) (B:Int),ws=[.ref a,.ref d]/\G a=some (.ins C.w (EC b hs as rs))/\hs.length<=100/\(∀p,p∈hs->p.2.length<=100)/\G d=some (.dic kvs)/\dy B kvs/\0<=B/\q (.tup (aq (bH (bd kvs) hs))) G
theorem ow (g:Str->Int):∀l:List Str,(l.map g).sum=di g l
 | []=>rfl
 | x::l=>by rw[map_cons,sum_cons,ow g l];rfl
theorem FX {C:Cs} (F:cz K "measure" "While.measure" (bb 28 3) f fd) (F1:Fx P w K mg base "held" ["boxes","box"] 1 ou) (F2:Fx P w K mg base "raised" ["exponent","times"] 2 vL) (ms:mg "sum"=none) (hc:dq K C.w) (h1:ay K C.w "heights"):ca P w K mg base 4 f fd ["self","boxes"] (BP C):=by
 refine dP (k:=3) F (N:=["self","boxes","found","exponent","names"]) (by walk_at "s") (by walk_at "l") λ_ _ _ _ _ _ nd hr=>?_;apply aJ
 ·exact(ac (aR 2 nd rfl (.inl rfl) (bp ak)) (ac (dG PySem.PassesOwn.never rfl (ck (bg (aa 0))) (iF rfl (cf (bT 3 nd rfl (.inl rfl)) (cf (bT 4 nd rfl (.inl rfl)) fH))) (ac (aR 2 nd rfl (.inl rfl) (aS bZ (aa 2) (aA F2 (aw.mono hr (by lia)) rfl (ae (aa 3) (ae (bU (CZ rfl) rfl ms Dg (ae (fK (d7 (by first | rfl | decide+kernel)) rfl (ck (aa 4)) (λ_ _ _ _=>(ci 1 (by first | assumption | decide+kernel | rfl) rfl (.inl rfl))) (λ_ _ _ _=>du) (λ_ _ _ _=>(aA F1 (aw.mono hr (by lia)) rfl (ae (aa 3 rfl (.inr (.inl rfl))) (ae (aa 1) ak))))) ak)) ak))))) ag)) (ac (av (aa 2)) ag)))
 ·rintro ws G q e ⟨a,d,b,hs,as,rs,kvs,B,rfl,ha,hl,hn,hd,hB,B0,hq⟩;have nn:∀x,0<=bd kvs x:=λx=>(hB.get B0 x).1;walk_at "a0";walk_at "a";refine⟨a,C.w,_,_,rfl,ha,⟨hc,h1⟩,rfl,?_⟩;walk_at "R";refine bY (λws τ G'=>aC G G'/\∃(us:List (O×List Str)) (o:O) (t3 t4:Option W),ws=fE us/\(∀p,p∈us->p∈hs)/\τ=[some (.ref a),some (.ref d),some (.tup (aq o)),t3,t4]/\O.app o (bH (bd kvs) us)=bH (bd kvs) hs/\o.len+us.length<=100) ?_ ?_ _ _ _ ⟨aC.refl _,hs,.z,none,none,rfl,λ_ h=>h,rfl,rfl,by show 0+_<=_;lia⟩
  ·rintro τ G' ⟨le,us,o,t3,t4,hw,hm,rfl,ho,hlen⟩;refine⟨trivial,?_⟩;have hu:us=[]:=by
    cases us with
    | nil=>rfl
    | cons _ _=>cases hw
   subst hu;subst hU;walk_at "R";rw[show bH (bd kvs) []=.z from rfl,O.app_z] at ho;rw[ho];exact⟨G,le,hq⟩
  ·rintro w1 ws τ G' kk ⟨le,us,o,t3,t4,hw,hm,rfl,ho,hlen⟩ hk;cases us with
   | nil=>cases hw
   | cons p us=>
     cases hw;refine⟨trivial,?_⟩;simp only[pf,ja,o9,cP,set_cons_succ,set_cons_zero];refine⟨rfl,?_⟩;have hpl:=hn p (hm p yaz);have hd':=le _ _ hd;walk_at "R";show cq _ _ _ _ _ [none,none,none,some (W.ref d)] G' [] _;refine fN W.str (λx=>W.int (bd kvs x)) trivial (λx hx k hk2=>?_) (by simp only[length_nil];lia) (λ_=>rfl) λp1 hp1=>?_
     ·walk_at "R";exact⟨d,kvs,x,rfl,hd',hB.int,hk2⟩
     refine⟨p.2.map (bd kvs),by rw[af,nil_append,map_map];rfl,?_⟩;rw[ow];have s0:=js nn p.2;refine⟨p.1,di (bd kvs) p.2,rfl,s0,?_⟩;rw[length_cons] at hlen;have hm':∀q,q∈us->q∈hs:=λq hq=>hm q (yay _ hq);have le1:aC G (aF G' p1 (GO.lst ([]++p.2.map λx=>W.int (bd kvs x)))):=le.trans (aC.new hp1)
     by_cases h0:di (bd kvs) p.2=0
     ·rw[ycx h0];have e0:bH (bd kvs) (p::us)=bH (bd kvs) us:=ycx h0;rw[e0] at ho;refine⟨by rw[aY];show o.len+0<=_;lia,?_⟩;rw[show aq o++aq O.z=aq o from append_nil _];exact hk _ _ ⟨le1,us,o,_,_,rfl,hm',rfl,ho,by lia⟩
     ·rw[ybv h0];have e0:bH (bd kvs) (p::us)=.c p.1 (di (bd kvs) p.2) (bH (bd kvs) us):=ybv h0;rw[e0] at ho;refine⟨by rw[aY];show o.len+1<=_;lia,?_⟩;rw[←fA];refine hk _ _ ⟨le1,us,_,_,_,rfl,hm',rfl,?_,?_⟩
      ·rw[O.app_assoc];exact ho
      ·rw[O.len_app];show o.len+1+_<=_;lia
noncomputable def dY (kvs:List (ax×W)):Row->List (ax×W)
 | .set b n=>bO kvs (.inr b) (.int n)
 | .copy b o=>bO kvs (.inr b) (.int (bd kvs o))
 | .add b o=>bO kvs (.inr b) (.int (bd kvs b+bd kvs o))
 | .less b=>bO kvs (.inr b) (.int (if bd kvs b-1<0 then 0 else bd kvs b-1))
 | _=>kvs
noncomputable def dr (kvs:List (ax×W)):Row->List Row
 | .times b rs=>[.count rs (bd kvs b)]
 | .count rs n=>if n=0 then [] else rs.L++[.count rs (n-1)]
 | .whl b hs rs=>if bd kvs b=0 then [] else rs.L++[.bear b hs rs (bH (bd kvs) hs)]
 | .bear b hs rs _=>if bd kvs b=0 then [] else rs.L++[.bear b hs rs (bH (bd kvs) hs)]
 | _=>[]
noncomputable def cT (kvs:List (ax×W)):Row->Prop
 | .bear b hs _ o=>0<bd kvs b/\0<=O.cmp (bH (bd kvs) hs) o
 | _=>False
noncomputable abbrev refs (ps:List (Addr×Row)):List W:=ps.map λx=>W.ref x.1
noncomputable def mL (C:Cs) (i:Nat):bQ:=λws G q _=>∃(a d:Addr) (r:Row) (kvs:List (ax×W)),ws=[.ref a,.ref d]/\kf C G a r/\kd r=i/\Sz r/\r.od/\G d=some (.dic kvs)/\(∃B:Int,dy B kvs/\0<=B)/\kvs.length<=1000/\¬cT kvs r/\
 ∀(p:Addr) (G':Gp) (ps:List (Addr×Row)),(∀x g,x≠d->G x=some g->G' x=some g)->G' d=some (.dic (dY kvs r))->G p=none->G' p=some (.lst (refs ps))->Rows C G' ps->ps.map (·.2)=dr kvs r->q (.ref p) G'
theorem fO {C:Cs} {G:Gp} {q:WK} {d:Addr} {r:Row} {kvs:List (ax×W)} (hd:G d=some (.dic kvs)) (hs:dr kvs r=[]) (hq:∀(p:Addr) (G':Gp) (ps:List (Addr×Row)),(∀x g,x≠d->G x=some g->G' x=some g)->G' d=some (.dic (dY kvs r))->G p=none->G' p=some (.lst (refs ps))->Rows C G' ps->ps.map (·.2)=dr kvs r->q (.ref p) G'):
 ∀p,aF G d (.dic (dY kvs r)) p=none->∃G0,aC G0 (aF (aF G d (.dic (dY kvs r))) p (.lst []))/\q (.ref p) G0:=λp hp=>by
 have pd:p≠d:=λz=>by rw[z,af] at hp;cases hp
 have hp0:G p=none:=by rw[ao pd] at hp;exact hp
 refine aC.done (hq p _ [] (λx g xd e=>?_) ((ao pd.symm).trans af) hp0 af (λ_ h=>(nomatch h)) hs.symm);rw[ao (λz=>by rw[z,hp0] at e;cases e),ao xd];exact e
theorem FY {C:Cs} (F:cz K "step" "Set.step" (bb 22 1) f fd) (hc:dq K C.s) (h1:ay K C.s "box") (h2:ay K C.s "amount"):ca P w K mg base 4 f fd ["self","boxes"] (mL C 0):=by
 refine dP (k:=3) F (N:=["self","boxes"]) (by walk_at "s") (by walk_at "l") λ_ _ _ _ _ _ nd hr=>?_;apply aJ
 ·exact(ac (cy (bg (aa 0)) (aa 1) (bg (aa 0))) (ac (av (bL ak)) ag))
 ·rintro ws G q e ⟨a,d,r,kvs,rfl,ha,hk,hz,hod,hd,⟨B,hB,B0⟩,hl,hnf,hq⟩;have hi:=hB.int;cases ha with
  | set ha=>
    rename_i b n;walk_at "a0";refine⟨a,C.s,_,.int n,rfl,ha,⟨hc,h2⟩,rfl,a,C.s,_,.str b,rfl,ha,⟨hc,h1⟩,rfl,d,b,kvs,rfl,rfl,hd,by lia,?_⟩;subst hU;walk_at "R";exact fO hd rfl hq
  | _=>cases hk
theorem FZ {C:Cs} (F:cz K "step" "Copy.step" (bb 23 1) f fd) (F1:Fx P w K mg base "held" ["boxes","box"] 1 ou) (hc:dq K C.c) (h1:ay K C.c "box") (h2:ay K C.c "other"):ca P w K mg base 4 f fd ["self","boxes"] (mL C 1):=by
 refine dP (k:=3) F (N:=["self","boxes"]) (by walk_at "s") (by walk_at "l") λ_ _ _ _ _ _ nd hr=>?_;apply aJ
 ·exact(ac (cy (aA F1 (aw.mono hr (by lia)) rfl (ae (aa 1) (ae (bg (aa 0)) ak))) (aa 1) (bg (aa 0))) (ac (av (bL ak)) ag))
 ·rintro ws G q e ⟨a,d,r,kvs,rfl,ha,hk,hz,hod,hd,⟨B,hB,B0⟩,hl,hnf,hq⟩;have hi:=hB.int;cases ha with
  | copy ha=>
    rename_i b o;walk_at "a0";refine⟨a,C.c,_,.str o,rfl,ha,⟨hc,h2⟩,rfl,d,kvs,o,rfl,hd,hi,?_⟩;walk_at "R";refine⟨a,C.c,_,.str b,rfl,ha,⟨hc,h1⟩,rfl,d,b,kvs,rfl,rfl,hd,by lia,?_⟩;subst hU;walk_at "R";exact fO hd rfl hq
  | _=>cases hk
theorem Gb {C:Cs} (F:cz K "step" "Add.step" (bb 24 1) f fd) (F1:Fx P w K mg base "held" ["boxes","box"] 1 ou) (hc:dq K C.a) (h1:ay K C.a "box") (h2:ay K C.a "other"):ca P w K mg base 4 f fd ["self","boxes"] (mL C 2):=by
 refine dP (k:=3) F (N:=["self","boxes"]) (by walk_at "s") (by walk_at "l") λ_ _ _ _ _ _ nd hr=>?_;apply aJ
 ·exact(ac (cy (aS bZ (aA F1 (aw.mono hr (by lia)) rfl (ae (aa 1) (ae (bg (aa 0)) ak))) (aA F1 (aw.mono hr (by lia)) rfl (ae (aa 1) (ae (bg (aa 0)) ak)))) (aa 1) (bg (aa 0))) (ac (av (bL ak)) ag))
 ·rintro ws G q e ⟨a,d,r,kvs,rfl,ha,hk,hz,hod,hd,⟨B,hB,B0⟩,hl,hnf,hq⟩;have hi:=hB.int;cases ha with
  | add ha=>
    rename_i b o;walk_at "a0";refine⟨a,C.a,_,.str b,rfl,ha,⟨hc,h1⟩,rfl,d,kvs,b,rfl,hd,hi,a,C.a,_,.str o,rfl,ha,⟨hc,h2⟩,rfl,d,kvs,o,rfl,hd,hi,?_⟩;walk_at "R";refine⟨a,C.a,_,.str b,rfl,ha,⟨hc,h1⟩,rfl,d,b,kvs,rfl,rfl,hd,by lia,?_⟩;subst hU;walk_at "R";exact fO hd rfl hq
  | _=>cases hk
theorem Gc {C:Cs} (F:cz K "step" "Less.step" (bb 25 1) f fd) (F1:Fx P w K mg base "held" ["boxes","box"] 1 ou) (mm:mg "max"=none) (hc:dq K C.l) (h1:ay K C.l "box"):ca P w K mg base 4 f fd ["self","boxes"] (mL C 3):=by
 refine dP (k:=3) F (N:=["self","boxes"]) (by walk_at "s") (by walk_at "l") λ_ _ _ _ _ _ nd hr=>?_;apply aJ
 ·exact(ac (cy (bU (lZ rfl) rfl mm qz (ae (aS jI (aA F1 (aw.mono hr (by lia)) rfl (ae (aa 1) (ae (bg (aa 0)) ak))) ah) (ae ah ak))) (aa 1) (bg (aa 0))) (ac (av (bL ak)) ag))
 ·rintro ws G q e ⟨a,d,r,kvs,rfl,ha,hk,hz,hod,hd,⟨B,hB,B0⟩,hl,hnf,hq⟩;have hi:=hB.int;cases ha with
  | less ha=>
    rename_i b;walk_at "a0";refine⟨a,C.l,_,.str b,rfl,ha,⟨hc,h1⟩,rfl,d,kvs,b,rfl,hd,hi,?_⟩;walk_at "R";refine⟨a,C.l,_,.str b,rfl,ha,⟨hc,h1⟩,rfl,d,b,kvs,rfl,rfl,hd,by lia,?_⟩;subst hU;walk_at "R";exact fO hd rfl hq
  | _=>cases hk
noncomputable def BQ (C:Cs):bQ:=λws G q _=>∃(a l:Addr) (n:Int),ws=[.ref a,.ref l,.int n]/\G a=some (.ins C.n [])/\∀G':Gp,G' a=some (.ins C.n [("loop",.ref l),("rounds",.int n)])->(∀x,x≠a->G' x=G x)->q .non G'
theorem Ge {C:Cs} (F:cz K "__init__" "Count.__init__" (bb 27 0) f fd) (hc:dq K C.n) (h1:ay K C.n "loop") (h2:ay K C.n "rounds"):ca P w K mg base 1 f fd ["self","loop","rounds"] (BQ C):=by
 refine dP F (N:=["self","loop","rounds"]) (by walk_at "s") (by walk_at "l") λ_ _ _ _ _ _ nd hr=>?_;apply aJ
 ·exact(ac (cj (aa 0) (aa 1)) (ac (cj (aa 0) (aa 2)) ag))
 ·rintro ws G q e ⟨a,l,n,rfl,hG,hq⟩;walk_at "a0";refine⟨a,C.n,[],rfl,hG,⟨hc,h1⟩,by simp,?_⟩;subst hU;walk_at "R";refine⟨a,C.n,[("loop",.ref l)],rfl,af,⟨hc,h2⟩,by simp,?_⟩;exact aC.done (hq _ af λx hx=>(ao hx).trans (ao hx))
theorem Gg {C:Cs} (F:cz K "step" "Times.step" (bb 26 2) f fd) (F1:Fx P w K mg base "held" ["boxes","box"] 1 ou) (N1:nH P w K mg base "Count" C.n ["self","loop","rounds"] 1 (BQ C)) (hc:dq K C.t) (h1:ay K C.t "box"):ca P w K mg base 4 f fd ["self","boxes"] (mL C 4):=by
 refine dP (k:=3) F (N:=["self","boxes"]) (by walk_at "s") (by walk_at "l") λ_ _ _ _ _ _ nd hr=>?_;apply aJ
 ·exact(ac (av (bL (ae (eT N1 (aw.mono hr (by lia)) rfl (ae (aa 0) (ae (aA F1 (aw.mono hr (by lia)) rfl (ae (aa 1) (ae (bg (aa 0)) ak))) ak))) ak))) ag)
 ·rintro ws G q e ⟨a,d,r,kvs,rfl,ha,hk,hz,hod,hd,⟨B,hB,B0⟩,hl,hnf,hq⟩;have hi:=hB.int;cases ha with
  | times ha hs=>
    rename_i b as rs;walk_at "R";refine⟨a,C.t,_,.str b,rfl,ha,⟨hc,h1⟩,rfl,d,kvs,b,rfl,hd,hi,λp hp=>⟨p,a,_,rfl,af,λG' g1 g2=>⟨rfl,λp2 hp2=>?_⟩⟩⟩;have le:aC G G':=λx g e=>(g2 x (λz=>by rw[z,hp] at e;cases e)).trans (aP e hp);have n2:p2≠p:=λz=>by rw[z,g1] at hp2;cases hp2
    have le2:=le.trans (aC.new (g:=GO.lst [W.ref p]) hp2);refine aC.done (hq p2 _ [(p,.count rs (bd kvs b))] (λx g _ e=>le2 _ _ e) (le2 _ _ hd) (bA le hp2) af (λx hx=>?_) rfl);rw[mem_singleton.mp hx];exact .count ((ao n2.symm).trans g1) (le2 _ _ ha) (hs.mono (aC.ins le2))
  | _=>cases hk
theorem Gh {C:Cs} (F:cz K "step" "Count.step" (bb 27 2) f fd) (N1:nH P w K mg base "Count" C.n ["self","loop","rounds"] 1 (BQ C)) (hc:dq K C.t) (h1:ay K C.t "rows") (hc2:dq K C.n) (h2:ay K C.n "loop") (h3:ay K C.n "rounds") (ml:mg "list"=none):ca P w K mg base 4 f fd ["self","boxes"] (mL C 6):=by
 refine dP (k:=3) F (N:=["self","boxes"]) (by walk_at "s") (by walk_at "l") λ_ _ _ _ _ _ nd hr=>?_;apply aJ
 ·exact(ac (bh (aL (bG hr) (bg (aa 0)) ah) (ac (av (bL ak)) ag) ag) (ac (av (aS bZ (bV (qZ rfl) rfl ml pB (ae (bg (bg (aa 0))) ak)) (bL (ae (eT N1 (aw.mono hr (by lia)) rfl (ae (bg (aa 0)) (ae (aS jI (bg (aa 0)) ah) ak))) ak)))) ag))
 ·rintro ws G q e ⟨a,d,r,kvs,rfl,ha,hk,hz,hod,hd,⟨B,hB,B0⟩,hl,hnf,hq⟩;have hi:=hB.int;cases ha with
  | count ha hl' hs=>
    rename_i l b as rs n;obtain⟨z,n0,n1⟩:=oo hz;walk_at "a0";refine⟨a,C.n,_,_,rfl,ha,⟨hc2,h3⟩,rfl,?_⟩;walk_at "R"
    by_cases hn0:n=0
    ·rw[ycx hn0];intro p hp;have le:=aC.new (g:=GO.lst []) hp;exact aC.done (hq p _ [] (λx g _ e=>le _ _ e) (le _ _ hd) hp af (λ_ h=>(nomatch h)) (by show[]=if n=0 then [] else rs.L++[Rq.count rs (n-1)];rw[ycx hn0]))
    ·rw[ybv hn0];subst hU;walk_at "R";refine⟨a,C.n,_,_,rfl,ha,⟨hc2,h2⟩,rfl,l,C.t,_,_,rfl,hl',⟨hc,h1⟩,rfl,?_⟩;walk_at "R";obtain⟨ps,rfl,hL,hR⟩:=hs.rows;have hll:=lE rs;have hzb:=z.hb;have hpl:ps.length=rs.L.length:=by rw[hL,length_map]
     refine⟨by rw[length_map,length_map];lia,λp hp=>⟨a,C.n,_,_,rfl,aP ha hp,⟨hc2,h2⟩,rfl,a,C.n,_,_,rfl,aP ha hp,⟨hc2,h3⟩,rfl,?_⟩⟩;walk_at "R";intro p1 hp1;refine⟨p1,l,_,rfl,af,λG' g1 g2=>⟨rfl,λp2 hp2=>?_⟩⟩;have le1:aC (aF G p (GO.lst (List.map W.ref (List.map (λx=>x.1) ps)))) G':=λx g e=>(g2 x (λz=>by rw[z,hp1] at e;cases e)).trans (aP e hp1);have le2:=le1.trans (aC.new (g:=GO.lst [W.ref p1]) hp2);have g2p:=le2 _ _ af;refine⟨_,_,g2p,af,by simp only[length_map,length_cons,length_nil];lia,λp3 hp3=>?_⟩;have n21:p2≠p1:=λz=>by rw[z,g1] at hp2;cases hp2
     have g1b:aF G' p2 (GO.lst [W.ref p1]) p1=some (.ins C.n [("loop",.ref l),("rounds",.int (n-1))]):=(ao n21.symm).trans g1;have le3:=(aC.new (g:=GO.lst (List.map W.ref (List.map (λx=>x.1) ps))) hp).trans (le2.trans (aC.new (g:=GO.lst (List.map W.ref (List.map (λx=>x.1) ps)++[W.ref p1])) hp3));have n31:p3≠p1:=λz=>by rw[z,g1b] at hp3;cases hp3
     refine aC.done (hq p3 _ (ps++[(p1,.count rs (n-1))]) (λx g _ e=>le3 _ _ e) (le3 _ _ hd) (bA (aC.new hp) (bA le2 hp3)) ?_ (λx hx=>?_) ?_)
     ·rw[af,map_map];simp only[refs,map_append,map_cons,map_nil]
      rfl
     ·rcases mem_append.mp hx with hx | hx
      ·exact(hR x hx).mono (aC.ins le3)
      ·rw[mem_singleton.mp hx];exact .count ((ao n31.symm).trans g1b) (le3 _ _ hl') (hs.mono (aC.ins le3))
     ·rw[map_append,←hL];show _=if n=0 then [] else rs.L++[Rq.count rs (n-1)]
      rw[ybv hn0]
      rfl
  | _=>cases hk
noncomputable def DY (C:Cs):bQ:=λws G q _=>∃(a l:Addr) (o:O),ws=[.ref a,.ref l,.tup (aq o)]/\G a=some (.ins C.b [])/\∀G':Gp,G' a=some (.ins C.b [("loop",.ref l),("borne",.tup (aq o))])->(∀x,x≠a->G' x=G x)->q .non G'
theorem Gi {C:Cs} (F:cz K "__init__" "Bearing.__init__" (bb 29 0) f fd) (hc:dq K C.b) (h1:ay K C.b "loop") (h2:ay K C.b "borne"):ca P w K mg base 1 f fd ["self","loop","borne"] (DY C):=by
 refine dP F (N:=["self","loop","borne"]) (by walk_at "s") (by walk_at "l") λ_ _ _ _ _ _ nd hr=>?_;apply aJ
 ·exact(ac (cj (aa 0) (aa 1)) (ac (cj (aa 0) (aa 2)) ag))
 ·rintro ws G q e ⟨a,l,o,rfl,hG,hq⟩;walk_at "a0";refine⟨a,C.b,[],rfl,hG,⟨hc,h1⟩,by simp,?_⟩;subst hU;walk_at "R";refine⟨a,C.b,[("loop",.ref l)],rfl,af,⟨hc,h2⟩,by simp,?_⟩;exact aC.done (hq _ af λx hx=>(ao hx).trans (ao hx))
noncomputable def BR (C:Cs):bQ:=λws G q _=>∃(a d:Addr) (b:Str) (hs:List (O×List Str)) (rs:aT Str) (kvs:List (ax×W)),ws=[.ref a,.ref d]/\kf C G a (.whl b hs rs)/\lD rs/\Ex hs/\G d=some (.dic kvs)/\(∃B:Int,dy B kvs/\0<=B)/\kvs.length<=1000/\
 ∀(p:Addr) (G':Gp) (ps:List (Addr×Row)),(∀x g,x≠d->G x=some g->G' x=some g)->G' d=some (.dic kvs)->G p=none->G' p=some (.lst (refs ps))->Rows C G' ps->ps.map (·.2)=dr kvs (.whl b hs rs)->q (.ref p) G'
theorem DZ {C:Cs} (F:cz K "step" "While.step" (bb 28 2) f fd) (F1:Fx P w K mg base "held" ["boxes","box"] 1 ou) (N1:nH P w K mg base "Bearing" C.b ["self","loop","borne"] 1 (DY C)) (M1:Mt P w K mg base C.w "measure" ["self","boxes"] 4 (BP C) []) (hc:dq K C.w) (h1:ay K C.w "box") (h2:ay K C.w "rows") (ml:mg "list"=none):ca P w K mg base 6 f fd ["self","boxes"] (BR C):=by
 refine dP (k:=5) F (N:=["self","boxes"]) (by walk_at "s") (by walk_at "l") λ_ _ _ _ _ _ nd hr=>?_;apply aJ
 ·exact(ac (bh (aL (bG hr) (aA F1 (aw.mono hr (by lia)) rfl (ae (aa 1) (ae (bg (aa 0)) ak))) ah) (ac (av (bL ak)) ag) ag) (ac (av (aS bZ (bV (qZ rfl) rfl ml pB (ae (bg (aa 0)) ak)) (bL (ae (eT N1 (aw.mono hr (by lia)) rfl (ae (aa 0) (ae (mo (aa 0) M1 (aw.mono hr (by lia)) (ae (aa 1) ak)) ak))) ak)))) ag))
 ·rintro ws G q e ⟨a,d,b,hs,rs,kvs,rfl,ha,z,ho,hd,⟨B,hB,B0⟩,hl,hq⟩;cases ha with
  | whl ha hs'=>
    rename_i as;have hi:=hB.int;walk_at "a0";refine⟨a,C.w,_,_,rfl,ha,⟨hc,h1⟩,rfl,d,kvs,b,rfl,hd,hi,?_⟩;walk_at "R"
    by_cases hn0:bd kvs b=0
    ·rw[ycx hn0];intro p hp;have le:=aC.new (g:=GO.lst []) hp;exact aC.done (hq p _ [] (λx g _ e=>le _ _ e) (le _ _ hd) hp af (λ_ h=>(nomatch h)) (by show[]=if bd kvs b=0 then [] else _;rw[ycx hn0]))
    ·rw[ybv hn0];subst hU;walk_at "R";refine⟨a,C.w,_,_,rfl,ha,⟨hc,h2⟩,rfl,?_⟩;walk_at "R";obtain⟨ps,rfl,hL,hR⟩:=hs'.rows;have hll:=lE rs;have hzb:=z.hb;have hpl:ps.length=rs.L.length:=by rw[hL,length_map]
     refine⟨by rw[length_map,length_map];lia,λp hp=>?_⟩;refine⟨a,_,rfl,aP ha hp,rfl,?_⟩;refine⟨a,d,b,hs,_,rs,kvs,B,rfl,aP ha hp,ho.ln,ho.nm,aP hd hp,hB,B0,λp1 hp1=>?_⟩;refine⟨p1,a,_,rfl,af,λG' g1 g2=>⟨rfl,λp2 hp2=>?_⟩⟩;have le1:aC (aF G p (GO.lst (List.map W.ref (List.map (λx=>x.1) ps)))) G':=λx g e=>(g2 x (λz=>by rw[z,hp1] at e;cases e)).trans (aP e hp1);have le2:=le1.trans (aC.new (g:=GO.lst [W.ref p1]) hp2);have g2p:=le2 _ _ af;refine⟨_,_,g2p,af,by simp only[length_map,length_cons,length_nil];lia,λp3 hp3=>?_⟩;have n21:p2≠p1:=λz=>by rw[z,g1] at hp2;cases hp2
     have g1b:aF G' p2 (GO.lst [W.ref p1]) p1=some (.ins C.b [("loop",.ref a),("borne",.tup (aq (bH (bd kvs) hs)))]):=(ao n21.symm).trans g1;have le3:=(aC.new (g:=GO.lst (List.map W.ref (List.map (λx=>x.1) ps))) hp).trans (le2.trans (aC.new (g:=GO.lst (List.map W.ref (List.map (λx=>x.1) ps)++[W.ref p1])) hp3));have n31:p3≠p1:=λz=>by rw[z,g1b] at hp3;cases hp3
     refine aC.done (hq p3 _ (ps++[(p1,.bear b hs rs (bH (bd kvs) hs))]) (λx g _ e=>le3 _ _ e) (le3 _ _ hd) (bA (aC.new hp) (bA le2 hp3)) ?_ (λx hx=>?_) ?_)
     ·rw[af,map_map];simp only[refs,map_append,map_cons,map_nil]
      rfl
     ·rcases mem_append.mp hx with hx | hx
      ·exact(hR x hx).mono (aC.ins le3)
      ·rw[mem_singleton.mp hx];exact .bear ((ao n31.symm).trans g1b) (le3 _ _ ha) (hs'.mono (aC.ins le3))
     ·rw[map_append,←hL];show _=if bd kvs b=0 then [] else rs.L++[Rq.bear b hs rs (bH (bd kvs) hs)]
      rw[ybv hn0]
      rfl
noncomputable def sK (C:Cs) (Cf:Addr) (i:Nat):bQ:=λws G q e=>∃(a d:Addr) (r:Row) (kvs:List (ax×W)),ws=[.ref a,.ref d]/\kf C G a r/\kd r=i/\Sz r/\r.od/\G d=some (.dic kvs)/\(∃B:Int,dy B kvs/\0<=B)/\kvs.length<=1000/\(cT kvs r->e (.ref Cf) G)/\
 (¬cT kvs r->∀(p:Addr) (G':Gp) (ps:List (Addr×Row)),(∀x g,x≠d->G x=some g->G' x=some g)->G' d=some (.dic (dY kvs r))->G p=none->G' p=some (.lst (refs ps))->Rows C G' ps->ps.map (·.2)=dr kvs r->q (.ref p) G')
theorem yT {C:Cs} {Cf:Addr} (hi:i≠7) {ws:List W} {G:Gp} {q:WK} {e:WX} (h:sK C Cf i ws G q e):mL C i ws G q e:=by
 obtain⟨a,d,r,kvs,h1,h2,h3,h4,h5,h6,h7,h8,h9,h10⟩:=h;have hn:¬cT kvs r:=λz=>by
  cases r with
  | bear _ _ _ _=>exact hi h3.symm
  | _=>exact z
 exact⟨a,d,r,kvs,h1,h2,h3,h4,h5,h6,h7,h8,hn,h10 hn⟩
theorem yU {C:Cs} {ws:List W} {G:Gp} {q:WK} {e:WX} (h:mL C 5 ws G q e):BR C ws G q e:=by
 obtain⟨a,d,r,kvs,rfl,h2,h3,h4,h5,h6,h7,h8,h9,h10⟩:=h;cases r with
 | whl b hs rs=>exact⟨a,d,b,hs,rs,kvs,rfl,h2,(vQ h4).1,h5.1,h6,h7,h8,h10⟩
 | _=>cases h3
theorem scS8:bS ["self","boxes"] ["self","boxes"] (am (bb 29 2)):=by walk_at "s"
theorem Gj {C:Cs} {Cf:Addr} (F:cz K "step" "Bearing.step" (bb 29 2) f fd) (hm:mg "NoFall"=some (.ref Cf)) (hC:XC K Cf bm) (F1:Fx P w K mg base "held" ["boxes","box"] 1 ou) (F2:Fx P w K mg base "compare" ["a","b"] 1 BM) (M1:Mt P w K mg base C.w "measure" ["self","boxes"] 4 (BP C) []) (M2:Mt P w K mg base C.w "step" ["self","boxes"] 6 (BR C) []) (hc:dq K C.w) (h1:ay K C.w "box") (hc2:dq K C.b) (h2:ay K C.b "loop") (h3:ay K C.b "borne"):xB P w K mg base 8 f fd ["self","boxes"] (sK C Cf 7):=by
 have nd:=scS8.nd;refine Fh (k:=7) F scS8 (λws G q e h=>by obtain⟨_,_,_,_,rfl,_⟩:=h;rfl) (λcdv A outer s H E ws G q e hr hsp hE=>?_);apply aJ
 ·refine' ac (bh ?c (cV (uw hm hC (λH1 G1=>hE (.ref Cf) H1 G1) rfl)) ag) ?s2
  case c=>exact(iE (gj (aL pp (aA F1 (aw.mono hr (by lia)) rfl (ae (aa 1) (ae (bg (bg (aa 0))) ak))) ah) (eO (aL CT (aA F2 (aw.mono hr (by lia)) rfl (ae (mo (bg (aa 0)) M1 (aw.mono hr (by lia)) (ae (aa 1) ak)) (ae (bg (aa 0)) ak))) ah))))
  case s2=>exact(ac (av (mo (bg (aa 0)) M2 (aw.mono hr (by lia)) (ae (aa 1) ak))) ag)
 ·obtain⟨a,d,r,kvs,rfl,ha,hk,hz,hod,hd,⟨B,hB,B0⟩,hl,hx,hq⟩:=hsp;cases ha with
  | bear ha hl' hs'=>
    rename_i l b ms as rs o;obtain⟨z,m1,o1,o2,o3,o4⟩:=rA hz;have hi:=hB.int;refine aK λU hU=>?_;have bt:¬cT kvs (.bear b ms rs o)->U { nx:=λx G1=>∃G0,aC G0 G1/\q W.non G0,rt:=λw G1=>∃G0,aC G0 G1/\q w G0 } [some (.ref a),some (.ref d)] G:=λhn=>by
     subst hU;walk_at "R";refine⟨a,C.b,_,_,rfl,ha,⟨hc2,h2⟩,rfl,l,_,rfl,hl',rfl,l,d,b,ms,rs,kvs,rfl,.whl hl' hs',z,hod.1,hd,⟨B,hB,B0⟩,hl,λp G' ps k1 k2 k3 k4 k5 k6=>?_⟩;exact aC.done (hq hn p G' ps k1 k2 k3 k4 k5 k6)
    walk_at "R";refine⟨a,C.b,_,_,rfl,ha,⟨hc2,h2⟩,rfl,l,C.w,_,_,rfl,hl',⟨hc,h1⟩,rfl,d,kvs,b,rfl,hd,hi,?_⟩;walk_at "R"
    by_cases hb:0<bd kvs b
    ·rw[ycx hb];refine⟨a,C.b,_,_,rfl,ha,⟨hc2,h2⟩,rfl,l,_,rfl,hl',rfl,l,d,b,ms,_,rs,kvs,B,rfl,hl',hod.1.ln,hod.1.nm,hd,hB,B0,?_⟩;refine⟨a,C.b,_,_,rfl,ha,⟨hc2,h3⟩,rfl,bH (bd kvs) ms,o,rfl,?_,?_⟩
     ·have:=qQ (bd kvs) m1;lia
     walk_at "R"
     by_cases hcm:0<=O.cmp (bH (bd kvs) ms) o
     ·rw[ycx hcm];exact hx ⟨hb,hcm⟩
     ·rw[ybv hcm];exact bt λh=>hcm h.2
    ·rw[ybv hb];exact bt λh=>hb h.1
  | _=>cases hk
noncomputable abbrev ox (ms:List (O×Str)):List W:=ms.map λm=> .tup [.tup (aq m.1),.str m.2]
noncomputable def D1:bQ:=λws G q _=>∃(l:Addr) (ms:List (O×Str)),ws=[.ref l]/\G l=some (.lst (ox ms))/\ms.length<=5/\(∀m,m∈ms->m.1.dp<=3)/\q (.tup (fE (eA ms))) G
structure BS (P:Program) (w:World) (K:yax) (G:Gp) (d:Addr) (done:List (O×Str)) (ps:List (O×Addr)) (G':Gp):Prop where
 le:aC G G'
 fd:G d=none
 at_d:G' d=some (rm P w K (ps.map λx=>(x.1,.ref x.2)))
 len:ps.length<=done.length
 mem:∀o,o∈ps.map (·.1)↔o∈done.map (·.1)
 ls:∀x,x∈ps->G' x.2=some (.lst ((bM done x.1).map W.str))
 fr:∀x,x∈ps->G x.2=none
 i1:∀x y,x∈ps->y∈ps->x.1=y.1->x=y
 i2:∀x y,x∈ps->y∈ps->x.2=y.2->x=y
theorem oy {ps:List (O×Addr)} {o:O} {x:W} (h:eZ (ps.map λx=>(x.1,.ref x.2)) o=some x):∃k,x=.ref k/\(o,k)∈ps:=by
 unfold eZ at h;obtain⟨p,hp,rfl⟩:=Option.map_eq_some_iff.mp h;have h1:=List.mem_of_find?_eq_some hp;have h2:=List.find?_some hp;obtain⟨y,hy,rfl⟩:=mem_map.mp h1;have:y.1=o:=by simpa using h2
 subst this;exact⟨y.2,rfl,hy⟩
theorem oz {ps:List (O×Addr)} {o:O} (h:eZ (ps.map λx=>(x.1,W.ref x.2)) o=none):o∉ps.map (·.1):=λho=>by
 obtain⟨y,hy,e⟩:=mem_map.mp ho;unfold eZ at h;have h1:=List.find?_eq_none.mp (Option.map_eq_none_iff.mp h) _ (mem_map.mpr ⟨y,hy,rfl⟩);exact h1 (ycw e)
theorem yV {ps:List (O×Addr)} {o:O} (h:o∈ps.map (·.1)):∃k,eZ (ps.map λx=>(x.1,W.ref x.2)) o=some (.ref k)/\(o,k)∈ps:=by
 cases e:eZ (ps.map λx=>(x.1,W.ref x.2)) o with
 | none=>exact absurd h (oz e)
 | some x=>
   obtain⟨k,rfl,hk⟩:=oy e;exact⟨k,rfl,hk⟩
theorem BS.old {G G':Gp} {d p k:Addr} {done:List (O×Str)} {ps:List (O×Addr)} {o:O} {b:Str} (g:BS P w K G d done ps G') (hp:G' p=none) (hk:(o,k)∈ps):
 BS P w K G d (done++[(o,b)]) ps (aF (aF G' p (.lst [])) k (.lst ((bM done o).map W.str++[.str b]))):=by
 have hkd:k≠d:=λz=>by have:=g.ls _ hk;rw[z,g.at_d] at this;cases this
 have hG0:=g.fr _ hk;refine⟨λa x e=>?_,g.fd,?_,?_,λx=>?_,λx hx=>?_,g.fr,g.i1,g.i2⟩
 ·rw[ao (λz=>by rw[z,hG0] at e;cases e)];exact aP (g.le _ _ e) hp
 ·rw[ao hkd.symm];exact aP g.at_d hp
 ·have:=g.len;rw[length_append];exact Nat.le_succ_of_le this
 ·rw[g.mem,map_append,mem_append];constructor
  ·exact Or.inl
  ·rintro(h | h)
   ·exact h
   ·rw[mem_singleton.mp h];exact(g.mem o).mp (mem_map.mpr ⟨_,hk,rfl⟩)
 ·rw[gG]
  by_cases e:x.2=k
  ·have:=g.i2 x (o,k) hx hk e;subst this;rw[af,ycx rfl,map_append]
   rfl
  ·rw[ao e,ybv (λz=>e (congrArg Prod.snd (g.i1 x (o,k) hx hk z.symm))),append_nil];exact aP (g.ls x hx) hp
theorem BS.new {G G':Gp} {d p:Addr} {done:List (O×Str)} {ps:List (O×Addr)} {o:O} {b:Str} (g:BS P w K G d done ps G') (hp:G' p=none) (hk:o∉ps.map (·.1)):
 BS P w K G d (done++[(o,b)]) (ps++[(o,p)]) (aF (aF (aF G' p (.lst [])) d (rm P w K (ps.map (λx=>(x.1,W.ref x.2))++[(o,.ref p)]))) p (.lst [.str b])):=by
 have hpd:p≠d:=λz=>by rw[z,g.at_d] at hp;cases hp
 have hp0:=bA g.le hp;have hno:o∉done.map (·.1):=λh=>hk ((g.mem o).mpr h);have old:∀x,x∈ps->x.2≠p/\x.2≠d/\x.1≠o:=λx hx=>by
  refine⟨λz=>?_,λz=>?_,λz=>hk (mem_map.mpr ⟨x,hx,z⟩)⟩
  ·have:=g.ls x hx;rw[z,hp] at this;cases this
  ·have:=g.ls x hx;rw[z,g.at_d] at this;cases this
 refine⟨λa x e=>?_,g.fd,?_,?_,λx=>?_,λx hx=>?_,λx hx=>?_,λx y hx hy e=>?_,λx y hx hy e=>?_⟩
 ·rw[ao (λz=>by rw[z,hp0] at e;cases e),ao (λz=>by rw[z,g.fd] at e;cases e)];exact aP (g.le _ _ e) hp
 ·rw[ao hpd.symm,af,map_append]
  rfl
 ·have:=g.len;rw[length_append,length_append];exact Nat.succ_le_succ this
 ·rw[map_append,map_append,mem_append,mem_append,g.mem];exact Iff.rfl
 ·rw[gG];rcases mem_append.mp hx with hx | hx
  ·obtain⟨h1,h2,h3⟩:=old x hx;rw[ao h1,ao h2,ybv (λz=>h3 z.symm),append_nil];exact aP (g.ls x hx) hp
  ·rw[mem_singleton.mp hx,af,ycx rfl,eX hno]
   rfl
 ·rcases mem_append.mp hx with hx | hx
  ·exact g.fr x hx
  ·rw[mem_singleton.mp hx];exact hp0
 ·rcases mem_append.mp hx with hx | hx<;> rcases mem_append.mp hy with hy | hy
  ·exact g.i1 x y hx hy e
  ·rw[mem_singleton.mp hy] at e;exact absurd e (old x hx).2.2
  ·rw[mem_singleton.mp hx] at e;exact absurd e.symm (old y hy).2.2
  ·rw[mem_singleton.mp hx,mem_singleton.mp hy]
 ·rcases mem_append.mp hx with hx | hx<;> rcases mem_append.mp hy with hy | hy
  ·exact g.i2 x y hx hy e
  ·rw[mem_singleton.mp hy] at e;exact absurd e (old x hx).1
  ·rw[mem_singleton.mp hx] at e;exact absurd e.symm (old y hy).1
  ·rw[mem_singleton.mp hx,mem_singleton.mp hy]
theorem Gk (F:cz K "by_exponent" "by_exponent" (aO 30) f fd) (mt:mg "tuple"=none) (ms:mg "sorted"=none):ca P w K mg base 6 f fd ["marks"] D1:=by
 refine dP (k:=5) F (N:=["marks","names","exponent","box"]) (by walk_at "s") (by walk_at "l") λ_ _ _ _ _ _ nd hr=>?_;apply aJ
 ·refine' ac (aR 1 (by assumption) rfl (by first | exact Or.inl rfl | exact Or.inr rfl) ?q1) (ac (dG PassesOwn.never rfl ?it ?tg (cV (dS (lV ?q2 ?b)))) (cV (av (bV fI rfl mt fL (ae (nz (d7 (by first | rfl | decide+kernel)) rfl (ck (show QE _ _ (qd P w K _) from vI hr rfl rfl ms ?sn)) (λ_ _ _ _=>?cg) (λ_ _ _ _=>?ct) (λ_ _ _ _=>bp (ae ?ce (ae (bV fI rfl mt fL (ae (aD (show AJ _ (yJ P w K) from DN hr) ?cn ?cx) ak)) ak)))) ak)))))
  case q1=>exact(show QE _ _ (vx P w K) from yI)
  case it=>exact(ck (aa 0))
  case tg=>exact(iF rfl (cf (bT 2 nd rfl (.inl rfl)) (cf (bT 3 nd rfl (.inl rfl)) fH)))
  case q2=>exact(show QE _ _ (BE P w K _ _ _) from BF hr (aa 1 rfl (.inr (.inl rfl))) (aa 2) (bL ak))
  case b=>exact(aa 3)
  case sn=>exact(aa 1 rfl (.inr (.inl rfl)))
  case cg=>exact(ci 1 (by first | assumption | decide+kernel | rfl) rfl (.inl rfl))
  case ct=>exact du
  case ce=>exact(aa 1)
  case cn=>exact(aa 3 rfl (.inr (.inl rfl)))
  case cx=>exact(aa 1)
 ·rintro ws G q e ⟨l,ms,rfl,hG,h5,hdp,hq⟩;walk_at "a0";intro d hd;have hG1:=aP (g:=rm P w K []) hG hd;walk_at "a";refine⟨_,hG1,?_⟩;refine bY (λws τ G'=>∃(done todo:List (O×Str)) (ps:List (O×Addr)) (t1 t2:Option W),ws=ox todo/\τ=[some (.ref l),some (.ref d),t1,t2]/\done++todo=ms/\BS P w K G d done ps G') ?_ ?_ _ _ _ ⟨[],ms,[],none,none,rfl,rfl,rfl,⟨aC.new hd,hd,af,yby _,λ_=>Iff.rfl,λ_ h=>(nomatch h),λ_ h=>(nomatch h),λ_ _ h=>(nomatch h),λ_ _ h=>(nomatch h)⟩⟩
  ·rintro τ G' ⟨done,todo,ps,t1,t2,hw,rfl,hms,g⟩;refine⟨g.le _ _ hG,?_⟩;have hb:todo=[]:=by simpa using hw.symm
   subst hb;rw[append_nil] at hms;subst hms;subst hU;walk_at "R";refine⟨_,g.at_d,by rw[length_map];exact ybz g.len h5,λp ks hp hD hP=>?_⟩;walk_at "R";refine⟨_,af,?_⟩;have hl:ks.length<=5:=by rw[hP.length_eq,length_map,length_map];exact ybz g.len h5
   have hk:∀o,o∈ks↔o∈ps.map (·.1):=λo=>by
    rw[hP.mem_iff,map_map];exact Iff.rfl
   refine fN (i:=1) (λo:O=>W.tup (aq o)) (λo=> .tup [.tup (aq o),.tup ((bM done o).map W.str)]) (τ0:=[none,none,none,some (.ref d)]) af (λo ho k hkk=>?_) (by show 0+_<=_;lia) (λ_=>rfl) λp2 hp2 _=>?_
   ·obtain⟨a,h1,h2⟩:=yV ((hk o).mp ho);walk_at "R";exact⟨_,o,_,rfl,aP g.at_d hp,h1,_,aP (g.ls _ h2) hp,hkk⟩
   ·refine⟨_,af,G,g.le.trans ((aC.new hp).trans (aC.new hp2)),?_⟩;have e:([]:List W)++ks.map (λo=> .tup [.tup (aq o),.tup ((bM done o).map W.str)])=fE (eA done):=by
     rw[←uW hD λo=>(hk o).trans (g.mem o),nil_append];simp only[fE,map_map]
     rfl
    rw[e];exact hq
  ·rintro w1 ws τ G' kk ⟨done,todo,ps,t1,t2,hw,rfl,hms,g⟩ hk;cases todo with
   | nil=>cases hw
   | cons m todo=>
     cases hw;refine⟨g.le _ _ hG,?_⟩;walk_at "R";refine⟨⟨_,g.at_d⟩,λp hp=>?_⟩;have hl:done.length<=5:=by have:=congrArg List.length hms;rw[length_append] at this;lia
     have hnl:∀o,(bM done o).length<=5:=λo=>by
      unfold bM;rw[length_map];exact ybz (List.length_filter_le _ _) hl
     have hm:(done++[m])++todo=ms:=by rw[append_assoc];exact hms
     refine⟨m.1,_,rfl,hdp m (by rw[←hms];simp),aP g.at_d hp,?_,λx hx=>?_,λhn=>?_⟩
     ·rw[length_map];have:=g.len;lia
     ·obtain⟨k,rfl,hkm⟩:=oy hx;have h1:=aP (g:=GO.lst []) (g.ls _ hkm) hp;have h2:=hnl m.1;refine⟨⟨_,h1⟩,_,h1,by rw[length_map];show(bM done m.1).length<=_;lia,hk _ _ ⟨done++[m],todo,ps,_,_,rfl,rfl,hm,g.old hp hkm⟩⟩
     ·have hpd:p≠d:=λz=>by rw[z,g.at_d] at hp;cases hp
      have h1:=(ao (g:=rm P w K (ps.map (λx=>(x.1,W.ref x.2))++[(m.1,.ref p)])) hpd).trans (af (G:=G') (a:=p) (g:=GO.lst []));exact⟨⟨_,h1⟩,_,h1,zero_le _,hk _ _ ⟨done++[m],todo,ps++[(m.1,p)],_,_,rfl,rfl,hm,g.new hp (oz hn)⟩⟩
inductive Pl where
 | set (b:Str) (n:Int)
 | copy (b o:Str)
 | add (b o:Str)
 | less (b:Str)
noncomputable def Pl.row:Pl->Row
 | .set b n=> .set b n
 | .copy b o=> .copy b o
 | .add b o=> .add b o
 | .less b=> .less b
noncomputable def Pl.kd:Pl->Nat
 | .set _ _=>0
 | .copy _ _=>1
 | .add _ _=>2
 | .less _=>3
noncomputable def Pl.args:Pl->List W
 | .set b n=>[.str b,.int n]
 | .copy b o=>[.str b,.str o]
 | .add b o=>[.str b,.str o]
 | .less b=>[.str b]
noncomputable def Pl.fs:Pl->List (Str×W)
 | .set b n=>[("box",.str b),("amount",.int n)]
 | .copy b o=>[("box",.str b),("other",.str o)]
 | .add b o=>[("box",.str b),("other",.str o)]
 | .less b=>[("box",.str b)]
theorem Pl.at {C:Cs} {G:Gp} (r:Pl) (h:G a=some (.ins (C.at_ r.kd) r.fs)):kf C G a r.row:=by
 cases r with
 | set b n=>exact .set h
 | copy b o=>exact .copy h
 | add b o=>exact .add h
 | less b=>exact .less h
noncomputable def jo (C:Cs) (i:Nat):bQ:=λws G q _=>∃(a:Addr) (r:Pl),ws=.ref a::r.args/\r.kd=i/\G a=some (.ins (C.at_ i) [])/\∀G':Gp,G' a=some (.ins (C.at_ i) r.fs)->(∀x,x≠a->G' x=G x)->q .non G'
theorem scN1:bS ["self","box","amount"] ["self","box","amount"] (am (bb 22 0)):=by walk_at "s"
theorem Gm {C:Cs} (F:cz K "__init__" "Set.__init__" (bb 22 0) f fd) (hc:dq K C.s) (h1:ay K C.s "box") (h2:ay K C.s "amount"):ca P w K mg base 1 f fd ["self","box","amount"] (jo C 0):=by
 have nd:=scN1.nd;refine CO F scN1 (λws G q e h=>by
  obtain⟨_,r,rfl,hk,_⟩:=h;cases r with
  | set b n=>rfl
  | add b o=>cases hk
  | copy b o=>cases hk
  | less b=>cases hk) (λcdv A outer s H E hr=>?_)
 apply aJ
 ·exact(ac (cj (aa 0) (aa 1)) (ac (cj (aa 0) (aa 2)) ag))
 ·rintro ws G q e ⟨a,r,rfl,hk,hG,hq⟩;cases r with
  | set b n=>
    walk_at "a0";refine⟨a,C.s,[],rfl,hG,⟨hc,h1⟩,by simp,?_⟩;subst hU;walk_at "R";refine⟨a,C.s,[("box",.str b)],rfl,af,⟨hc,h2⟩,by simp,?_⟩;exact aC.done (hq _ af λx hx=>(ao hx).trans (ao hx))
  | add b o=>cases hk
  | copy b o=>cases hk
  | less b=>cases hk
theorem scN2:bS ["self","box","other"] ["self","box","other"] (am (bb 23 0)):=by walk_at "s"
theorem Go {C:Cs} (F:cz K "__init__" "Copy.__init__" (bb 23 0) f fd) (hc:dq K C.c) (h1:ay K C.c "box") (h2:ay K C.c "other"):ca P w K mg base 1 f fd ["self","box","other"] (jo C 1):=by
 have nd:=scN2.nd;refine CO F scN2 (λws G q e h=>by
  obtain⟨_,r,rfl,hk,_⟩:=h;cases r with
  | copy b o=>rfl
  | set b n=>cases hk
  | add b o=>cases hk
  | less b=>cases hk) (λcdv A outer s H E hr=>?_)
 apply aJ
 ·exact(ac (cj (aa 0) (aa 1)) (ac (cj (aa 0) (aa 2)) ag))
 ·rintro ws G q e ⟨a,r,rfl,hk,hG,hq⟩;cases r with
  | copy b o=>
    walk_at "a0";refine⟨a,C.c,[],rfl,hG,⟨hc,h1⟩,by simp,?_⟩;subst hU;walk_at "R";refine⟨a,C.c,[("box",.str b)],rfl,af,⟨hc,h2⟩,by simp,?_⟩;exact aC.done (hq _ af λx hx=>(ao hx).trans (ao hx))
  | set b n=>cases hk
  | add b o=>cases hk
  | less b=>cases hk
theorem scN3:bS ["self","box","other"] ["self","box","other"] (am (bb 24 0)):=by walk_at "s"
theorem Gq {C:Cs} (F:cz K "__init__" "Add.__init__" (bb 24 0) f fd) (hc:dq K C.a) (h1:ay K C.a "box") (h2:ay K C.a "other"):ca P w K mg base 1 f fd ["self","box","other"] (jo C 2):=by
 have nd:=scN3.nd;refine CO F scN3 (λws G q e h=>by
  obtain⟨_,r,rfl,hk,_⟩:=h;cases r with
  | add b o=>rfl
  | set b n=>cases hk
  | copy b o=>cases hk
  | less b=>cases hk) (λcdv A outer s H E hr=>?_)
 apply aJ
 ·exact(ac (cj (aa 0) (aa 1)) (ac (cj (aa 0) (aa 2)) ag))
 ·rintro ws G q e ⟨a,r,rfl,hk,hG,hq⟩;cases r with
  | add b o=>
    walk_at "a0";refine⟨a,C.a,[],rfl,hG,⟨hc,h1⟩,by simp,?_⟩;subst hU;walk_at "R";refine⟨a,C.a,[("box",.str b)],rfl,af,⟨hc,h2⟩,by simp,?_⟩;exact aC.done (hq _ af λx hx=>(ao hx).trans (ao hx))
  | set b n=>cases hk
  | copy b o=>cases hk
  | less b=>cases hk
theorem scN4:bS ["self","box"] ["self","box"] (am (bb 25 0)):=by walk_at "s"
theorem Gr {C:Cs} (F:cz K "__init__" "Less.__init__" (bb 25 0) f fd) (hc:dq K C.l) (h1:ay K C.l "box"):ca P w K mg base 1 f fd ["self","box"] (jo C 3):=by
 have nd:=scN4.nd;refine CO F scN4 (λws G q e h=>by
  obtain⟨_,r,rfl,hk,_⟩:=h;cases r with
  | less b=>rfl
  | set b n=>cases hk
  | copy b o=>cases hk
  | add b o=>cases hk) (λcdv A outer s H E hr=>?_)
 apply aJ
 ·exact(ac (cj (aa 0) (aa 1)) ag)
 ·rintro ws G q e ⟨a,r,rfl,hk,hG,hq⟩;cases r with
  | less b=>
    walk_at "R";refine⟨a,C.l,[],rfl,hG,⟨hc,h1⟩,by simp,?_⟩;exact aC.done (hq _ af λx hx=>ao hx)
  | set b n=>cases hk
  | copy b o=>cases hk
  | add b o=>cases hk
noncomputable def BU (C:Cs) (S:Nat->Prop):bQ:=λws G q _=>∃(a:Addr) (b:Str) (pl:Addr) (ps:List (Addr×Row)),ws=[.ref a,.str b,.ref pl]/\G a=some (.ins C.t [])/\G pl=some (.lst (refs ps))/\Rows C G ps/\lD (aT.of (ps.map (·.2)))/\ED S (aT.of (ps.map (·.2)))/\∀G':Gp,G' a=some (.ins C.t (FO b (ps.map (·.1)) (aT.of (ps.map (·.2)))))->(∀x,x≠a->G' x=G x)->q .non G'
theorem Gs {C:Cs} {S:Nat->Prop} (F:cz K "__init__" "Times.__init__" (bb 26 0) f fd) (F1:Fx P w K mg base "weight_of" ["things"] 7 (BO C S)) (F2:Fx P w K mg base "whole" ["n"] 3 kD) (F3:Fx P w K mg base "plus" ["a","b"] 3 mJ) (mt:mg "tuple"=none) (hc:dq K C.t) (h1:ay K C.t "box") (h2:ay K C.t "rows") (h3:ay K C.t "of_round"):ca P w K mg base 8 f fd ["self","box","rows"] (BU C S):=by
 refine dP F (N:=["self","box","rows"]) (by walk_at "s") (by walk_at "l") λ_ _ _ _ _ _ nd hr=>?_;apply aJ
 ·exact(ac (cj (aa 0) (aa 1)) (ac (cj (aa 0) (bV fI rfl mt fL (ae (aa 2) ak))) (ac (cj (aa 0) (aA F3 (aw.mono hr (by lia)) rfl (ae (aA F1 (aw.mono hr (by lia)) rfl (ae (bg (aa 0)) ak)) (ae (aA F2 (aw.mono hr (by lia)) rfl (ae ah ak)) ak)))) ag)))
 ·rintro ws G q e ⟨a,b,pl,ps,rfl,hG,hpl,hR,hz,hkd,hq⟩;have la:pl≠a:=λz=>by rw[z,hG] at hpl;cases hpl
  have hll:=lE (aT.of (ps.map (·.2)));rw[aT.L_of,length_map] at hll;have hzb:=hz.hb;walk_at "a0";refine⟨a,C.t,[],rfl,hG,⟨hc,h1⟩,by simp,?_⟩;walk_at "a";refine⟨_,(ao la).trans hpl,a,C.t,[("box",.str b)],rfl,af,⟨hc,h2⟩,by simp,?_⟩;have em:(ps.map (·.1)).map W.ref=refs ps:=by rw[map_map];rfl
  subst hU;walk_at "R";rw[ybv (by decide)];refine⟨a,C.t,[("box",.str b),("rows",.tup (refs ps))],.tup (refs ps),rfl,af,⟨hc,h2⟩,rfl,?_⟩;have li:cG G (aF (aF G a (GO.ins C.t [("box",W.str b)])) a (GO.ins C.t [("box",W.str b),("rows",W.tup (refs ps))])):=cG.but (p:=a) (λx g xa e=>(ao xa).trans ((ao xa).trans e)) (λC' y fs e=>by rw[hG] at e;cases e);have hw0:=aT.wq _ hz.nn;have e1:=Wb.wh (n:=1) (by decide);have l1:=hw0.ln;have l2:=eg (aT.of (ps.map (·.2)));refine⟨ps.map (·.1),aT.of (ps.map (·.2)),by rw[em],(hR.mono li).ats,hz,hkd,1,rfl,by decide,(aT.of (ps.map (·.2))).wt,O.wh 1,rfl,hw0.nf,ybz hw0.dp (by decide),ybz e1.dp (by decide),by lia,ybz e1.ln (by decide),a,C.t,[("box",.str b),("rows",.tup (refs ps))],rfl,af,⟨hc,h3⟩,by simp,aC.done (hq _ ?_ λx hx=>(ao hx).trans ((ao hx).trans (ao hx)))⟩;rw[af,←em]
  rfl
noncomputable def BV (C:Cs) (S:Nat->Prop):bQ:=λws G q _=>∃(a:Addr) (b:Str) (ml pl:Addr) (ms:List (O×Str)) (ps:List (Addr×Row)),ws=[.ref a,.str b,.ref ml,.ref pl]/\G a=some (.ins C.w [])/\G ml=some (.lst (ox ms))/\ms.length<=5/\(∀m,m∈ms->m.1.dp<=3)/\G pl=some (.lst (refs ps))/\Rows C G ps/\lD (aT.of (ps.map (·.2)))/\ED S (aT.of (ps.map (·.2)))/\∀G':Gp,G' a=some (.ins C.w (EC b (eA ms) (ps.map (·.1)) (aT.of (ps.map (·.2)))))->(∀x,x≠a->G' x=G x)->q .non G'
theorem Gu {C:Cs} {S:Nat->Prop} (F:cz K "__init__" "While.__init__" (bb 28 0) f fd) (F0:Fx P w K mg base "by_exponent" ["marks"] 6 D1) (F1:Fx P w K mg base "weight_of" ["things"] 7 (BO C S)) (F2:Fx P w K mg base "whole" ["n"] 3 kD) (F3:Fx P w K mg base "plus" ["a","b"] 3 mJ) (mt:mg "tuple"=none) (hc:dq K C.w) (h1:ay K C.w "box") (h0:ay K C.w "heights") (h2:ay K C.w "rows") (h3:ay K C.w "of_round"):ca P w K mg base 8 f fd ["self","box","marks","rows"] (BV C S):=by
 refine dP F (N:=["self","box","marks","rows"]) (by walk_at "s") (by walk_at "l") λ_ _ _ _ _ _ nd hr=>?_;apply aJ
 ·exact(ac (cj (aa 0) (aa 1)) (ac (cj (aa 0) (aA F0 (aw.mono hr (by lia)) rfl (ae (aa 2) ak))) (ac (cj (aa 0) (bV fI rfl mt fL (ae (aa 3) ak))) (ac (cj (aa 0) (aA F3 (aw.mono hr (by lia)) rfl (ae (aA F1 (aw.mono hr (by lia)) rfl (ae (bg (aa 0)) ak)) (ae (aA F2 (aw.mono hr (by lia)) rfl (ae ah ak)) ak)))) ag))))
 ·rintro ws G q e ⟨a,b,ml,pl,ms,ps,rfl,hG,hml,hm5,hmd,hpl,hR,hz,hkd,hq⟩;have la:pl≠a:=λz=>by rw[z,hG] at hpl;cases hpl
  have lm:ml≠a:=λz=>by rw[z,hG] at hml;cases hml
  have hll:=lE (aT.of (ps.map (·.2)));rw[aT.L_of,length_map] at hll;have hzb:=hz.hb;walk_at "a0";refine⟨a,C.w,[],rfl,hG,⟨hc,h1⟩,by simp,?_⟩;walk_at "a";refine⟨ml,ms,rfl,(ao lm).trans hml,hm5,hmd,a,C.w,[("box",.str b)],rfl,af,⟨hc,h0⟩,by simp,?_⟩;walk_at "a";refine⟨_,(ao la).trans ((ao la).trans hpl),a,C.w,[("box",.str b),("heights",.tup (fE (eA ms)))],rfl,af,⟨hc,h2⟩,by simp,?_⟩;have em:(ps.map (·.1)).map W.ref=refs ps:=by rw[map_map];rfl
  subst hU;walk_at "R"
  repeat rw[ybv (by decide)]
  have li:cG G (aF (aF (aF G a (GO.ins C.w [("box",W.str b)])) a (GO.ins C.w [("box",W.str b),("heights",W.tup (fE (eA ms)))])) a (GO.ins C.w [("box",W.str b),("heights",W.tup (fE (eA ms))),("rows",W.tup (refs ps))])):=cG.but (p:=a) (λx g xa e=>(ao xa).trans ((ao xa).trans ((ao xa).trans e))) (λC' y fs e=>by rw[hG] at e;cases e);have hw0:=aT.wq _ hz.nn;have e1:=Wb.wh (n:=2) (by decide);have l1:=hw0.ln;have l2:=eg (aT.of (ps.map (·.2)));refine⟨a,C.w,[("box",.str b),("heights",.tup (fE (eA ms))),("rows",.tup (refs ps))],.tup (refs ps),rfl,af,⟨hc,h2⟩,rfl,ps.map (·.1),aT.of (ps.map (·.2)),by rw[em],(hR.mono li).ats,hz,hkd,2,rfl,by decide,(aT.of (ps.map (·.2))).wt,O.wh 2,rfl,hw0.nf,ybz hw0.dp (by decide),ybz e1.dp (by decide),by lia,ybz e1.ln (by decide),a,C.w,[("box",.str b),("heights",.tup (fE (eA ms))),("rows",.tup (refs ps))],rfl,af,⟨hc,h3⟩,by simp,aC.done (hq _ ?_ λx hx=>(ao hx).trans ((ao hx).trans ((ao hx).trans (ao hx))))⟩;rw[af,←em]
  rfl
noncomputable def Bd (s:Nat) (rs:aT Str):Prop:=rs.hb<=300/\rs.mb<=10^100/\rs.lb<=s
structure Mk (s:Nat) (hs:List (O×List Str)):Prop where
 e:sR 3 hs
 k:Ex hs
 l:hs.length<=s
 h:O.hw (hpw hs)<=100
 m:O.mx (hpw hs)<=10^100
 x:∀p,p∈hs->O.mx p.1<=10^100
mutual
noncomputable def gr (cp:Prop) (s:Nat) (B:Int):Row->Prop
 | .set _ n=>0<=n/\n<=B
 | .copy _ _=>cp
 | .times _ rs=>vR cp s B rs/\Bd s rs
 | .count rs n=>(vR cp s B rs/\Bd s rs)/\0<=n/\n<=B
 | .whl _ hs rs=>(vR cp s B rs/\Bd s rs)/\Mk s hs
 | .bear _ hs rs o=>(vR cp s B rs/\Bd s rs)/\Mk s hs/\o.NF/\o.dp<=4/\O.hw o<=100/\O.mx o<=10^100+100*B/\o.len<=s
 | _=>True
noncomputable def vR (cp:Prop) (s:Nat) (B:Int):aT Str->Prop
 | .nil=>True
 | .cons r rs=>gr cp s B r/\vR cp s B rs
end
section
variable {cp:Prop} {s:Nat}
mutual
theorem vS {B B':Int} (h:B<=B'):∀r:Row,gr cp s B r->gr cp s B' r
 | .set _ n,x=>⟨x.1,ydx x.2 h⟩
 | .copy _ _,x=>x
 | .add _ _,_=>trivial
 | .less _,_=>trivial
 | .times _ rs,x=>⟨kh h rs x.1,x.2⟩
 | .count rs n,x=>⟨⟨kh h rs x.1.1,x.1.2⟩,x.2.1,ydx x.2.2 h⟩
 | .whl _ _ rs,x=>⟨⟨kh h rs x.1.1,x.1.2⟩,x.2⟩
 | .bear _ _ rs o,x=>⟨⟨kh h rs x.1.1,x.1.2⟩,x.2.1,x.2.2.1,x.2.2.2.1,x.2.2.2.2.1,by have:=x.2.2.2.2.2.1;lia,x.2.2.2.2.2.2⟩
theorem kh {B B':Int} (h:B<=B'):∀rs:aT Str,vR cp s B rs->vR cp s B' rs
 | .nil,_=>trivial
 | .cons r rs,x=>⟨vS h r x.1,kh h rs x.2⟩
end
mutual
theorem rB {B:Int}:∀r:Row,gr cp s B r->r.nn/\r.od
 | .set _ n,_=>⟨trivial,trivial⟩
 | .copy _ _,_=>⟨trivial,trivial⟩
 | .add _ _,_=>⟨trivial,trivial⟩
 | .less _,_=>⟨trivial,trivial⟩
 | .times _ rs,x=>e9 rs x.1
 | .count rs n,x=>⟨⟨(e9 rs x.1.1).1,x.2.1⟩,(e9 rs x.1.1).2⟩
 | .whl _ hs rs,x=>⟨⟨(e9 rs x.1.1).1,x.2.e⟩,x.2.k,(e9 rs x.1.1).2⟩
 | .bear _ hs rs o,x=>⟨⟨(e9 rs x.1.1).1,x.2.1.e,x.2.2.1,x.2.2.2.1⟩,x.2.1.k,(e9 rs x.1.1).2⟩
theorem e9 {B:Int}:∀rs:aT Str,vR cp s B rs->rs.nn/\rs.od
 | .nil,_=>⟨trivial,trivial⟩
 | .cons r rs,x=>⟨⟨(rB r x.1).1,(e9 rs x.2).1⟩,(rB r x.1).2,(e9 rs x.2).2⟩
end
theorem im {B:Int}:∀{rs:aT Str},vR cp s B rs->∀r,r∈rs.L->gr cp s B r
 | .nil,_,r,h=>(nomatch h)
 | .cons r0 rs,x,r,h=>by
   rcases mem_cons.mp h with rfl | h
   ·exact x.1
   ·exact im x.2 r h
theorem mM:((10^100+3)*(101*10^100+1)+1:Int)<=10^300:=by decide+kernel
theorem jv {a b c d:Nat} (h1:a<=c) (h2:b<=d):((a*b+1:Nat):Int)<=(c:Int)*d+1:=by
 have:=Nat.mul_le_mul h1 h2;rw[←Int.natCast_mul];lia
theorem mO:((1:Nat):Int)<=10^300:=by decide+kernel
theorem vT {B:Int} (hB:B<=10^100) (r:Row) (x:gr cp s B r):Sz r:=by
 have hn:=(rB r x).1;cases r with
 | set _ n=>exact⟨hn,by show 1<=500;decide,mO⟩
 | copy _ _=>exact⟨hn,by show 1<=500;decide,mO⟩
 | add _ _=>exact⟨hn,by show 1<=500;decide,mO⟩
 | less _=>exact⟨hn,by show 1<=500;decide,mO⟩
 | times _ rs=>
   obtain⟨h1,h2,h3⟩:=x.2;refine⟨hn,by show rs.hb+2<=500;lia,?_⟩;have:=jv (a:=rs.mb+2) (b:=2) (c:=10^100+3) (d:=101*10^100+1) (by lia) (by lia);refine ydx ?_ (ydx this mM);show(((rs.mb+2)*2:Nat):Int)<=_;lia
 | count rs n=>
   obtain⟨h1,h2,h3⟩:=x.1.2;have n1:=x.2.2;have n0:=x.2.1;refine⟨hn,by show rs.hb+3<=500;lia,?_⟩;exact ydx (jv (a:=rs.mb+2) (b:=n.toNat+1) (c:=10^100+3) (d:=101*10^100+1) (by lia) (by lia)) mM
 | whl _ hs rs=>
   obtain⟨h1,h2,h3⟩:=x.1.2;have m1:=x.2.h;have m2:=x.2.m;refine⟨hn,by show rs.hb+O.hw (hpw hs)+2<=500;lia,?_⟩;exact ydx (jv (a:=rs.mb+3) (b:=(O.mx (hpw hs)).toNat+1) (c:=10^100+3) (d:=101*10^100+1) (by lia) (by lia)) mM
 | bear _ hs rs o=>
   obtain⟨h1,h2,h3⟩:=x.1.2;obtain⟨_,_,_,m1,m2,_⟩:=x.2;refine⟨hn,by show rs.hb+O.hw o+2<=500;lia,?_⟩;exact ydx (jv (a:=rs.mb+3) (b:=(O.mx o).toNat+1) (c:=10^100+3) (d:=101*10^100+1) (by lia) (by lia)) mM
noncomputable abbrev Sk (cp:Prop) (i:Nat):Prop:=i<8/\(i=1->cp)
theorem D2:∀r:Row,kd r<8
 | .set _ _=>by show 0<8;decide
 | .copy _ _=>by show 1<8;decide
 | .add _ _=>by show 2<8;decide
 | .less _=>by show 3<8;decide
 | .times _ _=>by show 4<8;decide
 | .whl _ _ _=>by show 5<8;decide
 | .count _ _=>by show 6<8;decide
 | .bear _ _ _ _=>by show 7<8;decide
theorem vU {B:Int} {r:Row} (x:gr cp s B r):Sk cp (kd r):=by
 refine⟨D2 r,λh=>?_⟩;cases r with
 | copy _ _=>exact x
 | _=>cases h
theorem mP:∀rs:aT Str,(rs.L.map Rq.lb).sum=rs.lb
 | .nil=>rfl
 | .cons r rs=>by
   show r.lb+(rs.L.map Rq.lb).sum=rs.lb+r.lb;rw[mP rs];lia
theorem vV:∀r:Row,1<=r.lb
 | .set _ _=>yby _
 | .copy _ _=>yby _
 | .add _ _=>yby _
 | .less _=>yby _
 | .times _ _=>yby _
 | .count rs _=>by show 1<=rs.lb+2;lia
 | .whl _ [] rs=>by show 1<=rs.lb+2;lia
 | .whl _ (_::_) rs=>by show 1<=2;lia
 | .bear _ _ rs o=>by show 1<=rs.lb+1+o.len+1;lia
theorem BW:∀rs:aT Str,rs.L.length<=rs.lb
 | .nil=>yby _
 | .cons r rs=>by have:=BW rs;have:=vV r;show rs.L.length+1<=rs.lb+r.lb;lia
theorem rC {B:Int} {kvs:List (ax×W)} (hB:0<=B) (hk:dy B kvs) {b:Str} {hs:List (O×List Str)} {rs:aT Str} (h:(vR cp s B rs/\Bd s rs)/\Mk s hs):gr cp s B (.bear b hs rs (bH (bd kvs) hs)):=by
 have hg:∀x,0<=bd kvs x/\bd kvs x<=B:=λx=>hk.get hB x;obtain⟨m1,m2,m3⟩:=lg (g:=bd kvs) (n:=100) (M:=10^100) hg (by decide) h.2.e (λp hp=>⟨h.2.k.nm p hp,h.2.x p hp⟩);have hl:=ib (bd kvs) hs;have h1:=h.2.l;have h2:=h.2.k.ln;exact⟨h.1,h.2,qP (λx=>(hg x).1) h.2.e h.2.k.ds,m1,by lia,by lia,by lia⟩
theorem yW {B:Int} {kvs:List (ax×W)} (hB:0<=B) (hk:dy B kvs) {r:Row} (h:gr cp s B r):∀x,x∈dr kvs r->gr cp s B x:=λx hx=>by
 cases r with
 | times b rs=>
   rw[mem_singleton.mp hx];have:=hk.get hB b;exact⟨h,this.1,this.2⟩
 | count rs n=>
   have hx:x∈(if n=0 then [] else rs.L++[Rq.count rs (n-1)]):=hx
   by_cases h0:n=0
   ·rw[ycx h0] at hx;cases hx
   ·rw[ybv h0] at hx;have n0:=h.2.1;have n1:=h.2.2;rcases mem_append.mp hx with hx | hx
    ·exact im h.1.1 x hx
    ·rw[mem_singleton.mp hx];exact⟨h.1,by lia,by lia⟩
 | whl b hs rs=>
   have hx:x∈(if bd kvs b=0 then [] else rs.L++[Rq.bear b hs rs (bH (bd kvs) hs)]):=hx
   by_cases h0:bd kvs b=0
   ·rw[ycx h0] at hx;cases hx
   ·rw[ybv h0] at hx;rcases mem_append.mp hx with hx | hx
    ·exact im h.1.1 x hx
    ·rw[mem_singleton.mp hx];exact rC hB hk h
 | bear b hs rs o=>
   have hx:x∈(if bd kvs b=0 then [] else rs.L++[Rq.bear b hs rs (bH (bd kvs) hs)]):=hx
   by_cases h0:bd kvs b=0
   ·rw[ycx h0] at hx;cases hx
   ·rw[ybv h0] at hx;rcases mem_append.mp hx with hx | hx
    ·exact im h.1.1 x hx
    ·rw[mem_singleton.mp hx];exact rC hB hk ⟨h.1,h.2.1⟩
 | set b n=>cases hx
 | copy b o=>cases hx
 | add b o=>cases hx
 | less b=>cases hx
theorem rD {kvs:List (ax×W)} {b:Str} {hs:List (O×List Str)} {rs:aT Str} (h1:Bd s rs) (h2:Mk s hs):((if bd kvs b=0 then [] else rs.L++[Rq.bear b hs rs (bH (bd kvs) hs)]).map Rq.lb).sum<=3*s+2/\(if bd kvs b=0 then [] else rs.L++[Rq.bear b hs rs (bH (bd kvs) hs)]).length<=s+1:=by
 by_cases h0:bd kvs b=0
 ·rw[ycx h0];exact⟨zero_le _,zero_le _⟩
 ·rw[ybv h0,map_append,sum_append,mP,length_append];have a1:=h1.2.2;have a2:=h2.l;have a3:=ib (bd kvs) hs;have a4:=BW rs;show rs.lb+(rs.lb+1+(bH (bd kvs) hs).len+1+0)<=_/\rs.L.length+1<=_;lia
theorem yX {B:Int} {kvs:List (ax×W)} {r:Row} (h:gr cp s B r):((dr kvs r).map Rq.lb).sum<=3*s+2/\(dr kvs r).length<=s+1:=by
 cases r with
 | times b rs=>
   have:=h.2.2.2;show(rs.lb+2+0:Nat)<=_/\1<=_;lia
 | count rs n=>
   show((if n=0 then [] else rs.L++[Rq.count rs (n-1)]).map Rq.lb).sum<=_/\(if n=0 then [] else rs.L++[Rq.count rs (n-1)]).length<=_
   by_cases h0:n=0
   ·rw[ycx h0];exact⟨zero_le _,zero_le _⟩
   ·rw[ybv h0,map_append,sum_append,mP,length_append];have h1:=h.1.2.2.2;have h2:=BW rs;show rs.lb+(rs.lb+2+0)<=_/\rs.L.length+1<=_;lia
 | whl b hs rs=>exact rD h.1.2 h.2
 | bear b hs rs o=>exact rD h.1.2 h.2.1
 | set b n=>exact⟨zero_le _,zero_le _⟩
 | copy b o=>exact⟨zero_le _,zero_le _⟩
 | add b o=>exact⟨zero_le _,zero_le _⟩
 | less b=>exact⟨zero_le _,zero_le _⟩
theorem vW {B:Int} {kvs:List (ax×W)} (hB:0<=B) (hk:dy B kvs) {r:Row} (h:gr cp s B r):dy (2*B) (dY kvs r):=by
 have hk2:dy (2*B) kvs:=hk.le (by lia);cases r with
 | set b n=>exact hk2.put _ h.1 (by have:=h.2;lia)
 | copy b o=>have:=hk.get hB o;exact hk2.put _ this.1 (by lia)
 | add b o=>have:=hk.get hB o;have:=hk.get hB b;exact hk2.put _ (by lia) (by lia)
 | less b=>
   have:=hk.get hB b;refine hk2.put _ ?_ ?_
   ·split<;> lia
   ·split<;> lia
 | times b rs=>exact hk2
 | count rs n=>exact hk2
 | whl b hs rs=>exact hk2
 | bear b hs rs o=>exact hk2
theorem sL (kvs:List (ax×W)) (r:Row):(dY kvs r).length<=kvs.length+1:=by
 cases r with
 | set b n=>exact cN ..
 | copy b n=>exact cN ..
 | add b n=>exact cN ..
 | less b=>exact cN ..
 | times b rs=>exact le_succ _
 | count rs n=>exact le_succ _
 | whl b hs rs=>exact le_succ _
 | bear b hs rs o=>exact le_succ _
end
noncomputable def lL:List Row×List (ax×W)->List Row×List (ax×W)
 | ([],kvs)=>([],kvs)
 | (r::st,kvs)=>(dr kvs r++st,dY kvs r)
noncomputable def aV (s:List Row×List (ax×W)):Nat->List Row×List (ax×W)
 | 0=>s
 | n+1=>lL (aV s n)
noncomputable def io:List Row×List (ax×W)->Prop
 | ([],_)=>False
 | (r::_,kvs)=>cT kvs r
structure sT (cp:Prop) (m l0:Nat) (B:Int) (i:Nat) (s:List Row×List (ax×W)):Prop where
 g:∀r,r∈s.1->gr cp m (B*2^i) r
 b:dy (B*2^i) s.2
 l:(s.1.map Rq.lb).sum<=l0+(3*m+2)*i
 k:s.2.length<=100+i
theorem sT.next {cp:Prop} {m l0:Nat} {B:Int} (hB:0<=B) {s:List Row×List (ax×W)} (h:sT cp m l0 B i s):sT cp m l0 B (i+1) (lL s):=by
 have hp:(0:Int)<=B*2^i:=Int.mul_nonneg hB (Int.le_of_lt (Int.pow_pos (by decide)));have e:B*2^ (i+1)=2*(B*2^i):=by rw[Int.pow_succ];rw[←Int.mul_assoc,Int.mul_comm]
 obtain⟨st,kvs⟩:=s;cases st with
 | nil=>
   refine⟨λr hr=>(nomatch hr),?_,zero_le _,by have h3:kvs.length<=100+i:=h.k;show kvs.length<=_;lia⟩;show dy _ kvs;rw[e];exact h.b.le (by lia)
 | cons r st=>
   have hg:=h.g r yaz;have hl:=yX (kvs:=kvs) hg;have h1:=h.l;have h3:=h.k;simp only[map_cons,sum_cons] at h1;refine⟨λx hx=>?_,?_,?_,?_⟩
   ·rcases mem_append.mp hx with hx | hx
    ·exact vS (by rw[e];lia) _ (yW hp h.b hg x hx)
    ·exact vS (by rw[e];lia) _ (h.g x (yay _ hx))
   ·rw[e];exact vW hp h.b hg
   ·show((dr kvs r++st).map Rq.lb).sum<=_;rw[map_append,sum_append,Nat.mul_add];lia
   ·have:=sL kvs r;show(dY kvs r).length<=_;have h3:kvs.length<=100+i:=h3;lia
theorem sT.run {cp:Prop} {m l0:Nat} {B:Int} (hB:0<=B) {s:List Row×List (ax×W)} (h:sT cp m l0 B 0 s):∀n,sT cp m l0 B n (aV s n)
 | 0=>h
 | n+1=>(sT.run hB h n).next hB
theorem mQ:∀rs:List Row,(∀r,r∈rs->r.nn)->(cm rs).NF/\(cm rs).dp<=4/\(cm rs).len<=(rs.map Rq.lb).sum
 | [],_=>⟨trivial,zero_le _,yby _⟩
 | r::rs,h=>by
   obtain⟨h1,h2,h3⟩:=mQ rs λx hx=>h x (yay _ hx);have x:=r.wq (h r yaz);refine⟨h1.plus x.nf,ybz (O.dp_plus _ _) (max_le.mpr ⟨h2,x.dp⟩),?_⟩;have:=jO (cm rs) r.wt;have:=x.ln;show(O.plusO (cm rs) r.wt).len<=r.lb+(rs.map Rq.lb).sum;lia
theorem vX:∀rs:List Row,rs.length<=(rs.map Rq.lb).sum
 | []=>yby _
 | r::rs=>by have:=vX rs;have:=vV r;simp only[map_cons,sum_cons,length_cons];lia
noncomputable abbrev cJ (st:List (Addr×Row)):List Row:=st.map (·.2)
noncomputable def cH:List (Addr×Row)->List W
 | []=>[]
 | p::st=>cH st++[.tup [.ref p.1,.tup (aq (cm (cJ (p::st))))]]
theorem BX (xs:List W) (x:W):eI (xs++[x]) (-1)=some x:=ie (by simp)
theorem oA:∀st:List (Addr×Row),(cH st).length=st.length
 | []=>rfl
 | a::as=>by rw[cH,length_append,oA as];rfl
noncomputable def BY:bQ:=λws G q _=>∃(l:Addr) (st:List (Addr×Row)),ws=[.ref l]/\G l=some (.lst (cH st))/\q (.tup (aq (cm (cJ st)))) G
theorem Gv (F:cz K "weight_left" "weight_left" (aO 34) f fd):ca P w K mg base 1 f fd ["left"] BY:=by
 refine dP F (N:=["left"]) (by walk_at "s") (by walk_at "l") λ_ _ _ _ _ _ nd hr=>?_;apply aJ
 ·exact(ac (av (jG (aL (ff hr) (aa 0) (bL ak)) (aD aE (aD aE (aa 0) (eS ah)) ah) (bp ak))) ag)
 ·rintro ws G q e ⟨l,as,rfl,hG,hq⟩;walk_at "R";intro p hp;refine⟨_,.nil (aP hG hp) af,?_⟩;cases as with
  | nil=>
    rw[show(cH []).isEmpty=true from rfl,ybv (by decide)];exact⟨_,aC.new hp,hq⟩
  | cons a as=>
    rw[show(cH (a::as)).isEmpty=false by simp[cH],ycx (by decide)];refine⟨_,_,aP hG hp,BX _ _,?_⟩;walk_at "R";exact⟨_,aC.new hp,hq⟩
structure kF (cp:Prop) (st:List (Addr×Row)):Prop where
 z:∀p,p∈st->Sz p.2
 kd:∀p,p∈st->Sk cp (kd p.2)
 l:((cJ st).map Rq.lb).sum<=20000
 n:st.length<=30000
theorem kF.right {cp:Prop} {st us:List (Addr×Row)} (h:kF cp (st++us)):kF cp us:=by
 have h1:=h.l;have h2:=h.n;simp only[cJ,map_append,sum_append,length_append] at h1 h2;exact⟨λp hp=>h.z p (ydy _ hp),λp hp=>h.kd p (ydy _ hp),by show((us.map (·.2)).map Rq.lb).sum<=20000;lia,by lia⟩
theorem kF.sum {cp:Prop} {st:List (Addr×Row)} (h:kF cp st):(cm (cJ st)).NF/\(cm (cJ st)).dp<=4/\(cm (cJ st)).len<=20000:=by
 obtain⟨h1,h2,h3⟩:=mQ (cJ st) λr hr=>by
  obtain⟨p,hp,rfl⟩:=mem_map.mp hr;exact(h.z p hp).nn
 exact⟨h1,h2,ybz h3 h.l⟩
noncomputable def zS (C:Cs) (cp:Prop):bQ:=λws G q _=>∃(l t:Addr) (ps st:List (Addr×Row)),ws=[.ref l,.ref t]/\t≠l/\G l=some (.lst (cH st))/\G t=some (.lst (refs ps))/\Rows C G ps/\kF cp (ps++st)/\∀G':Gp,G' l=some (.lst (cH (ps++st)))->(∀x,x≠l->G' x=G x)->q .non G'
theorem D3 {C:Cs} {cp:Prop} (F:cz K "put_ahead" "put_ahead" (aO 33) f fd) (F1:Fx P w K mg base "weight_left" ["left"] 1 BY) (F2:Fx P w K mg base "plus" ["a","b"] 3 mJ) (M:∀i,Sk cp i->Mt P w K mg base (C.at_ i) "weigh" ["self"] 6 (kE C i) []) (mr:mg "reversed"=none):ca P w K mg base 7 f fd ["left","things"] (zS C cp):=by
 refine dP F (N:=["left","things","thing"]) (by walk_at "s") (by walk_at "l") λ_ _ _ _ _ _ nd hr=>?_;apply aJ
 ·refine' cV (dG PassesOwn.never rfl (xQ rfl mr ?it) ?tg (cV (dS (lV ?ob (bp (ae ?va (ae (aA F2 (aw.mono hr (by lia)) rfl (ae ?wl (ae (mq (S:=Sk cp) (t:=λi=>kX (C.at_ i) "weigh" (kE C i) [] (iB 2) lU) λi hi=>nG ?me (M i hi) (aw.mono hr (by lia))) ak))) ak)))))))
  case it=>exact(ae (aa 1) ak)
  case tg=>exact(bT 2 nd rfl (.inl rfl))
  case ob=>exact(aa 0)
  case va=>exact(aa 2)
  case wl=>exact(aA F1 (aw.mono hr (by lia)) rfl (ae (aa 0) ak))
  case me=>exact(aa 2)
 ·rintro ws G q e ⟨l,t,as,us,rfl,tl,hl,ht,ha,hn,hq⟩;walk_at "R";refine⟨_,ht,bY (λws τ G'=>∃(todo dn:List (Addr×Row)) (t2:Option W),ws=(refs todo).reverse/\as=todo++dn/\G' l=some (.lst (cH (dn++us)))/\(∀x,x≠l->G' x=G x)/\τ=[some (.ref l),some (.ref t),t2]) ?_ ?_ _ _ _ ⟨as,[],none,rfl,(append_nil _).symm,hl,λ_ _=>rfl,rfl⟩⟩
  ·rintro τ G' ⟨todo,dn,t2,hw,rfl,hl',hk,rfl⟩;have h0:todo=[]:=by simpa using hw.symm
   subst h0;refine⟨(hk t tl).trans ht,?_⟩;exact aC.done (hq G' hl' hk)
  ·rintro w1 ws τ G' k ⟨todo,dn,t2,hw,rfl,hl',hk,rfl⟩ hkk;rcases List.eq_nil_or_concat todo with rfl | ⟨todo',a,rfl⟩
   ·cases hw
   rw[List.concat_eq_append] at hw ha hn ht;rw[List.concat_eq_append];rw[refs,map_append,List.reverse_append] at hw;cases hw;refine⟨(hk t tl).trans ht,?_⟩;have hr0:=ha a (by simp);have lI:cG G G':=cG.but (p:=l) (λx g xl e=>(hk x xl).trans e) (λC' y fs e=>by rw[hl] at e;cases e);have hr1:=hr0.mono lI;obtain⟨fs,f1,f2,_⟩:=hr1.isIns;have hz:Sz a.2:=hn.z a (by simp);have hst:kF cp (dn++us):=by
    have:(todo'++[a]++dn)++us=(todo'++[a])++(dn++us):=by simp
    rw[this] at hn;exact hn.right
   obtain⟨s1,s2,s3⟩:=hst.sum;have x:=a.2.wq hz.nn;have x1:=x.ln;have x2:=zR a.2;have x3:=hz.hb;have hnl:=hn.n;simp only[length_append,length_cons,length_nil] at hnl;walk_at "R";refine⟨⟨_,hl'⟩,l,dn++us,rfl,hl',kd a.2,hn.kd a (by simp),a.1,fs,rfl,f1,f2,a.1,a.2,rfl,hr1,rfl,hz,cm (cJ (dn++us)),a.2.wt,rfl,s1,by lia,ybz x.dp (by decide),by lia,by lia,_,hl',?_,?_⟩
   ·rw[oA,length_append];lia
   ·refine hkk _ _ ⟨todo',a::dn,_,rfl,by simp,af,λx hx=>(ao hx).trans (hk x hx),rfl⟩
theorem Gw {α:Type} (l:List α) (i j:Nat) (a b x y:α):(((l.set i a).set j b).set i x).set j y=(l.set i x).set j y:=by
 by_cases e:i=j
 ·subst e;rw[set_set,set_set,set_set,set_set]
 ·rw[List.set_comm _ _ (λz=>e z),set_set,List.set_comm _ _ (λz=>e z),set_set]
  first | rfl | rw[List.set_comm _ _ (λz=>e z)]
noncomputable def vY:W->Bool
 | .int n=>decide (0<n)
 | _=>false
noncomputable def ip (kvs:List (ax×W)):List (ax×W):=(kvs.filter λp=>vY p.2).foldl (λa p=>bO a p.1 p.2) []
theorem gJ {C:Gp->Prop} {tt:WT} {te:WE} {i j:Nat} {τ0:cO} {G:Gp} {q:List W->Gp->Prop} {pr:ax×W->Bool} {f:ax×W->W} (hC:C G):∀{kvs:List (ax×W)} {acc:List W} {τ:cO},
 (∀p,p∈kvs->∀k:Bool->Gp->Prop,k (pr p) G->tt ((τ0.set i (some (kW p.1))).set j (some p.2)) G k)->(∀p,p∈kvs->∀k:W->Gp->Prop,k (f p) G->te ((τ0.set i (some (kW p.1))).set j (some p.2)) G k)->acc.length+kvs.length<=100000->(∀x y,(τ.set i x).set j y=(τ0.set i x).set j y)->
 q (acc++(kvs.filter pr).map f) G->cq C (pf 2 (ja (cP i) (ja (cP j) o9))) tt te (kvs.map λp=> .tup [kW p.1,p.2]) τ G acc q
 | [],acc,τ,_,_,_,_,hq=>⟨hC,by simpa using hq⟩
 | p::kvs,acc,τ,ht,he,hl,hτ,hq=>by
   refine⟨hC,rfl,?_⟩;show tt ((τ.set i (some (kW p.1))).set j (some p.2)) G _;rw[hτ];rw[length_cons] at hl;refine ht p yaz _ ?_;have ih:=λacc' (h:acc'.length+kvs.length<=100000)=>gJ (acc:=acc') (τ:=(τ0.set i (some (kW p.1))).set j (some p.2)) (q:=q) hC (λu hu=>ht u (yay _ hu)) (λu hu=>he u (yay _ hu)) h λx y=>by rw[Gw]
   cases hp:pr p with
   | true=>
     rw[ycx rfl];refine he p yaz _ ⟨by lia,ih _ (by rw[length_append];simp only[length_cons,length_nil];lia) ?_⟩;simpa[filter_cons,hp] using hq
   | false=>
     rw[ybv (by decide)];refine ih _ (by lia) ?_;simpa[filter_cons,hp] using hq
noncomputable def D4:bQ:=λws G q _=>∃(l d:Addr) (st:List (Addr×Row)) (kvs:List (ax×W)),ws=[.ref l,.ref d]/\G l=some (.lst (cH st))/\G d=some (.dic kvs)/\kg kvs/\kvs.length<=1000/\∀(p:Addr) (G':Gp),aC G G'->G p=none->G' p=some (.dic (ip kvs))->q (.tup [.tup (aq (cm (cJ st))),.ref p]) G'
theorem Gx (F:cz K "told" "told" (aO 35) f fd) (F1:Fx P w K mg base "weight_left" ["left"] 1 BY) (md:mg "dict"=none):ca P w K mg base 2 f fd ["left","boxes"] D4:=by
 refine dP F (N:=["left","boxes"]) (by walk_at "s") (by walk_at "l") λ_ _ _ _ _ _ nd hr=>?_;apply aJ
 ·refine' cV (qX (av ?ex))
  case ex=>exact(bp (ae (aA F1 (aw.mono hr (by lia)) rfl (ae (aa 0) ak)) (ae (bV (vn rfl) rfl md pZ (ae (fK (d7 (by first | rfl | decide+kernel)) rfl (nV 1 rfl (.inl rfl)) (λ_ _ _ _=>(iF rfl (cf (ci 1 (by first | assumption | decide+kernel | rfl) rfl (.inl rfl)) (cf (ci 2 (by first | assumption | decide+kernel | rfl) rfl (.inl rfl)) fH)))) (λ_ _ _ _=>(xw (aL pp (aa 2) ah))) (λ_ _ _ _=>(bp (ae (aa 1) (ae (aa 2) ak))))) ak)) ak)))
 ·rintro ws G q e ⟨l,d,as,kvs,rfl,hl,hd,hi,hn,hq⟩;walk_at "R";refine⟨d,kvs,hd,l,as,rfl,hl,kvs,hd,λo us=>gJ (pr:=λp=>vY p.2) (f:=λp=> .tup [kW p.1,p.2]) (τ0:=[none,none,none]) af (λp hp k hk=>?_) (λp hp k hk=>?_) (by simp only[length_nil];lia) (λ_ _=>rfl) λp1 hp1=>⟨_,.lst af rfl,λp2 hp2=>?_⟩⟩
  ·obtain⟨n,en⟩:=hi p hp;rw[en] at hk ⊢;walk_at "R";exact hk
  ·walk_at "R";exact hk
  ·have n1:p1≠d:=λz=>by rw[z,af] at hp1;cases hp1
   have n2:p2≠p1:=λz=>by rw[z,af] at hp2;cases hp2
   rw[ao n2] at hp2;have n3:p2≠d:=λz=>by rw[z,af] at hp2;cases hp2
   rw[ao n3] at hp2;rw[ao n1] at hp1;refine⟨o,us,kvs,(ao n3.symm).trans ((ao n1.symm).trans af),_,aC.refl _,hq p2 _ (λx g e=>?_) hp2 ((ao n3).trans af)⟩
   by_cases xd:x=d
   ·subst xd;rw[hd] at e;cases e;exact af
   ·exact(ao xd).trans (aP (aP ((ao xd).trans e) ((ao n1).trans hp1)) ((ao n2).trans ((ao n3).trans hp2)))
noncomputable def oC (s:List Row×List (ax×W)) (k:Nat):List Addr->List W
 | []=>[]
 | p::ps=> .tup [.tup (aq (cm (aV s k).1)),.ref p]::oC s (k+1) ps
theorem fb (s:List Row×List (ax×W)):∀(k:Nat) (ps:List Addr),(oC s k ps).length=ps.length
 | _,[]=>rfl
 | k,p::ps=>by rw[oC,length_cons,fb s (k+1) ps];rfl
theorem rE (s:List Row×List (ax×W)):∀(k:Nat) (ps:List Addr) (p:Addr),oC s k (ps++[p])=oC s k ps++[.tup [.tup (aq (cm (aV s (k+ps.length)).1)),.ref p]]
 | k,[],p=>rfl
 | k,x::ps,p=>by
   rw[cons_append,oC,rE s (k+1) ps p,oC,cons_append,length_cons,show k+1+ps.length=k+(ps.length+1) by lia]
theorem mR (s:List Row×List (ax×W)):∀(k:Nat) (ps:List Addr) (j:Nat) (p:Addr),ps[j]?=some p->(oC s k ps)[j]?=some (.tup [.tup (aq (cm (aV s (k+j)).1)),.ref p])
 | _,[],_,_,h=>by cases h
 | k,x::ps,0,p,h=>by cases h;rfl
 | k,x::ps,j+1,p,h=>by
   rw[oC,show k+(j+1)=k+1+j by lia];exact mR s (k+1) ps j p h
theorem sT.stq {cp:Prop} {m l0:Nat} {B:Int} {st:List (Addr×Row)} {kvs:List (ax×W)} (h:sT cp m l0 B i (cJ st,kvs)) (hi:l0+(3*m+2)*i<=20000) (hB:B*2^i<=10^100):kF cp st:=by
 have h1:=ybz h.l hi;have h2:=vX (cJ st);have h1:((cJ st).map Rq.lb).sum<=20000:=h1;refine⟨λp hp=>vT hB _ (h.g p.2 (mem_map.mpr ⟨p,hp,rfl⟩)),λp hp=>vU (h.g p.2 (mem_map.mpr ⟨p,hp,rfl⟩)),h1,?_⟩;rw[length_map] at h2;lia
noncomputable def D5 (C:Cs) (Cf:Addr) (cp:Prop):bQ:=λws G q e=>∃(t b:Addr) (ps:List (Addr×Row)) (kvs:List (ax×W)) (m s0 l0:Nat) (B:Int),ws=[.ref t,.ref b,.int (m:Int)]/\G t=some (.lst (refs ps))/\Rows C G ps/\G b=some (.dic kvs)/\sT cp s0 l0 B 0 (cJ ps,kvs)/\0<=B/\(∀i,i<=m->B*2^i<=10^100)/\(∀i,i<=m->l0+(3*s0+2)*i<=20000)/\m<=60/\
 (∀(G':Gp) (n:Nat),aC G G'->n<m->io (aV (cJ ps,kvs) n)->(∀k,k<n->¬io (aV (cJ ps,kvs) k))->e (.ref Cf) G')/\
 ∀(G':Gp) (F:Addr) (ds:List Addr) (n:Nat),aC G G'->G F=none->G' F=some (.lst (oC (cJ ps,kvs) 0 ds))->ds.length=n+1->n<=m->((aV (cJ ps,kvs) n).1=[]∨n=m)->(∀k,k<n->(aV (cJ ps,kvs) k).1≠[])->(∀k,k<n->¬io (aV (cJ ps,kvs) k))->(∀k p,ds[k]?=some p->G' p=some (.dic (ip (aV (cJ ps,kvs) k).2))/\G p=none)->q (.ref F) G'
structure Ts (C:Cs) (G0 G:Gp) (l d F:Addr) (s:List Row×List (ax×W)) (ds:List Addr) (i:Nat) (st:List (Addr×Row)):Prop where
 le:aC G0 G
 hl:G l=some (.lst (cH st))
 hr:cJ st=(aV s i).1
 ro:Rows C G st
 hd:G d=some (.dic (aV s i).2)
 hF:G F=some (.lst (oC s 0 ds))
 ll:ds.length=i+1
 td:∀k p,ds[k]?=some p->G p=some (.dic (ip (aV s k).2))/\G0 p=none
 dn:∀p,p∈ds->p≠d
 lF:l≠F
 f1:G0 l=none
 f2:G0 d=none
 f3:G0 F=none
 ne:∀k,k<i->(aV s k).1≠[]
 nb:∀k,k<i->¬io (aV s k)
theorem Ts.mono {C:Cs} {G0 G G':Gp} {l d F:Addr} {s:List Row×List (ax×W)} {ds:List Addr} {st:List (Addr×Row)} (h:Ts C G0 G l d F s ds i st) (k:aC G G'):Ts C G0 G' l d F s ds i st:=
 ⟨h.le.trans k,k _ _ h.hl,h.hr,h.ro.mono (aC.ins k),k _ _ h.hd,k _ _ h.hF,h.ll,λn p hp=>⟨k _ _ (h.td n p hp).1,(h.td n p hp).2⟩,h.dn,h.lF,h.f1,h.f2,h.f3,h.ne,h.nb⟩
theorem Ts.next {C:Cs} {G0 G G':Gp} {l d F p:Addr} {s:List Row×List (ax×W)} {ds:List Addr} {st st':List (Addr×Row)} (h:Ts C G0 G l d F s ds i st) (k:∀x g,x≠l->x≠d->x≠F->G x=some g->G' x=some g) (hl:G' l=some (.lst (cH st'))) (hr:cJ st'=(aV s (i+1)).1) (ro:Rows C G' st') (hd:G' d=some (.dic (aV s (i+1)).2)) (hF:G' F=some (.lst (oC s 0 (ds++[p]))))
 (hp:G' p=some (.dic (ip (aV s (i+1)).2))) (fp:G p=none) (pd:p≠d) (hn:(aV s i).1≠[]) (hb:¬io (aV s i)):Ts C G0 G' l d F s (ds++[p]) (i+1) st':=by
 have kd:∀q,q∈ds->∀g,G q=some g->G' q=some g:=λq hq g e=>by
  obtain⟨n,hn⟩:=List.getElem?_of_mem hq;have e1:=(h.td n q hn).1;refine k q g (λz=>?_) (h.dn q hq) (λz=>?_) e
  ·rw[z,h.hl] at e1;cases e1
  ·rw[z,h.hF] at e1;cases e1
 refine⟨λx g e=>k x g (λz=>by rw[z,h.f1] at e;cases e) (λz=>by rw[z,h.f2] at e;cases e) (λz=>by rw[z,h.f3] at e;cases e) (h.le x g e),hl,hr,ro,hd,hF,by rw[length_append,h.ll];rfl,λn q hq=>?_,λq hq=>?_,h.lF,h.f1,h.f2,h.f3,λn hn'=>?_,λn hn'=>?_⟩
 ·by_cases hn:n<ds.length
  ·rw[List.getElem?_append_left hn] at hq;obtain⟨a1,a2⟩:=h.td n q hq;exact⟨kd q (List.mem_of_getElem? hq) _ a1,a2⟩
  ·rw[List.getElem?_append_right (by lia)] at hq;obtain⟨j,hj⟩:∃j,n-ds.length=j:=⟨_,rfl⟩;rw[hj] at hq;cases j with
   | zero=>
     cases hq;have hn2:n=i+1:=by have:=h.ll;lia
     subst hn2;exact⟨hp,bA h.le fp⟩
   | succ j=>cases hq
 ·rcases mem_append.mp hq with hq | hq
  ·exact h.dn q hq
  ·rw[mem_singleton.mp hq];exact pd
 ·rcases lt_or_ge n i with z | z
  ·exact h.ne n z
  ·have:n=i:=by lia
   rw[this];exact hn
 ·rcases lt_or_ge n i with z | z
  ·exact h.nb n z
  ·have:n=i:=by lia
   rw[this];exact hb
theorem scTc:bS ["rows","boxes","most","now","left","found","thing"] ["rows","boxes","most"] (am (aO 32)):=by walk_at "s"
theorem Gy {C:Cs} {Cf:Addr} {cp:Prop} {T:Addr} {dfs:ydw} (F:gv K "trace" "trace" (aO 32) f fd T dfs) (F1:Fx P w K mg base "put_ahead" ["left","things"] 7 (zS C cp)) (F2:Fx P w K mg base "told" ["left","boxes"] 2 D4) (M:∀i,Sk cp i->Dy P w K mg base (C.at_ i) "step" ["self","boxes"] 8 (sK C Cf i) []) (md:mg "dict"=none) (ml:mg "len"=none):xB P w K mg base 9 f fd ["rows","boxes","most"] (D5 C Cf cp):=by
 have nd:=scTc.nd;refine Ds (k:=8) F scTc (λws G q e h=>by obtain⟨_,_,_,_,_,_,_,_,rfl,_⟩:=h;rfl) (λcdv A outer s H E ws G q e hr hsp hE=>?_);apply aJ
 ·refine' ac ?s1 (ac ?s2 (ac ?s3 (ac ?s4 (ac (gY PassesOwn.leaving ?co (ac ?b1 (ac (dS (aA F1 (aw.mono hr (by lia)) rfl (ae ?le (ae (mq (S:=Sk cp) (t:=λi=>uE (C.at_ i) "step" (sK C Cf i) [] (iB 6) (qr (iB 3) lU) e) λi hi=>uF ?me (M i hi) (aw.mono hr (by lia)) hE ?ma) ak)))) ?b3))) ?s6))))
  case s1=>exact(aR 3 nd rfl (.inl rfl) (bV (vn rfl) rfl md pZ (ae (aa 1) ak)))
  case s2=>exact(aR 4 nd rfl (.inl rfl) (bL ak))
  case s3=>exact(dS (aA F1 (aw.mono hr (by lia)) rfl (ae (aa 4) (ae (aa 0) ak))))
  case s4=>exact(aR 5 nd rfl (.inl rfl) (bL (ae (aA F2 (aw.mono hr (by lia)) rfl (ae (aa 4) (ae (aa 3) ak))) ak)))
  case co=>exact(iE (gj (aL (ff hr) (aa 4) (bL ak)) (eO (aL Fc (bU fB rfl ml PySem.boot_len (ae (aa 5) ak)) (aa 2)))))
  case b1=>exact(aR 6 nd rfl (.inl rfl) (aD aE (A2 (aa 4)) ah))
  case le=>exact(aa 4)
  case me=>exact(aa 6)
  case ma=>exact(ae (aa 3) ak)
  case b3=>exact(ac (dS (lV (aa 5) (aA F2 (aw.mono hr (by lia)) rfl (ae (aa 4) (ae (aa 3) ak))))) ag)
  case s6=>exact(ac (av (aa 5)) ag)
 ·obtain⟨t,b,ps,kvs,m,s0,l0,B,rfl,ht,hX,hb,hO,hB0,hBi,hLi,hm,hx,hq⟩:=hsp;walk_at "a0";refine⟨kvs,.dic (.inl hb),λd hd0=>?_⟩;have le1:=aC.new (g:=GO.dic kvs) hd0;have g1:=af (G:=G) (a:=d) (g:=GO.dic kvs);generalize aF G d (.dic kvs)=G1 at le1 g1 ⊢;walk_at "a";intro l hl0;have fl:=bA le1 hl0;have le2:=le1.trans (aC.new (g:=GO.lst []) hl0);have g2d:=aP (g:=GO.lst []) g1 hl0;have g2l:=af (G:=G1) (a:=l) (g:=GO.lst []);generalize aF G1 l (.lst [])=G2 at le2 g2d g2l ⊢;have tl:t≠l:=λz=>by rw[z,fl] at ht;cases ht
  have dl:d≠l:=λz=>by rw[z,g2l] at g2d;cases g2d
  have hst0:kF cp ps:=hO.stq (hLi 0 (by lia)) (hBi 0 (by lia));walk_at "a";refine⟨l,t,ps,[],rfl,tl,g2l,le2 _ _ ht,hX.mono (aC.ins le2),by rw[append_nil];exact hst0,λG3 hl3 hk3=>?_⟩;have le3:aC G G3:=λx g e=>(hk3 x (λz=>by rw[z,fl] at e;cases e)).trans (le2 x g e);have g3d:=(hk3 d dl).trans g2d;rw[append_nil] at hl3;walk_at "a";have hk0:kvs.length<=100+0:=hO.k;refine⟨l,d,ps,kvs,rfl,hl3,g3d,hO.b.int,by lia,λp0 G4 le4 fp0 hp0=>?_⟩;intro F0 hF0;have S0:Ts C G (aF G4 F0 (.lst [.tup [.tup (aq (cm (cJ ps))),.ref p0]])) l d F0 (cJ ps,kvs) [p0] 0 ps:=by
   have k5:aC G4 (aF G4 F0 (.lst [.tup [.tup (aq (cm (cJ ps))),.ref p0]])):=aC.new hF0;refine⟨(le3.trans le4).trans k5,k5 _ _ (le4 _ _ hl3),rfl,hX.mono (aC.ins ((le3.trans le4).trans k5)),k5 _ _ (le4 _ _ g3d),af,rfl,λk p hp=>?_,λp hp=>?_,λz=>?_,fl,hd0,bA (le3.trans le4) hF0,λk hk=>absurd hk (Nat.not_lt_zero _),λk hk=>absurd hk (Nat.not_lt_zero _)⟩
   ·cases k with
    | zero=>
      cases hp;exact⟨k5 _ _ hp0,bA le3 fp0⟩
    | succ k=>cases hp
   ·rw[mem_singleton.mp hp];intro z;rw[z,g3d] at fp0;cases fp0
   ·rw[←z,le4 _ _ hl3] at hF0;cases hF0
  generalize aF G4 F0 (.lst [.tup [.tup (aq (cm (cJ ps))),.ref p0]])=G5 at S0 ⊢;clear hp0 fp0 hF0 le4 g3d hl3 hk3 le3 g2d g2l le2 dl fl hl0 g1 le1 hd0;subst hU;refine aK λU hU=>?_;refine pS (λj τ G'=>∃(i:Nat) (ds:List Addr) (st:List (Addr×Row)) (t6:Option W),Ts C G G' l d F0 (cJ ps,kvs) ds i st/\τ=[some (.ref t),some (.ref b),some (.int (m:Int)),some (.ref d),some (.ref l),some (.ref F0),t6]/\i<=m/\j=m-i) ⟨_,0,[p0],ps,none,S0,rfl,by lia,rfl⟩ ?_;rintro j τ G' ⟨i,ds,st,t6,S,rfl,h50,rfl⟩ B' hB';clear S0;walk_at "R";intro p1 hp1;have S1:=S.mono (aC.new (g:=GO.lst []) hp1);have g1:=af (G:=G') (a:=p1) (g:=GO.lst []);generalize aF G' p1 (.lst [])=G6 at S1 g1 ⊢;clear hp1 S;have fin:(aV (cJ ps,kvs) i).1=[]∨i=m->U { nx:=λx G1=>∃G0,aC G0 G1/\q W.non G0,rt:=λw G1=>∃G0,aC G0 G1/\q w G0 } [some (W.ref t),some (W.ref b),some (W.int (m:Int)),some (W.ref d),some (W.ref l),some (W.ref F0),t6] G6:=λhds=>by
   subst hU;walk_at "R";exact aC.done (hq G6 F0 ds i S1.le S1.f3 S1.hF S1.ll h50 hds S1.ne S1.nb S1.td)
  have hll:=S1.ll;have hOi:=hO.run hB0 i;refine⟨_,.nil S1.hl g1,?_⟩;cases st with
  | nil=>
    rw[show(cH []).isEmpty=true from rfl,ybv (by decide)];exact fin (.inl S1.hr.symm)
  | cons a st=>
    have hrun:aV (cJ ps,kvs) i=(a.2::cJ st,(aV (cJ ps,kvs) i).2):=by rw[Prod.ext_iff];exact⟨S1.hr.symm,rfl⟩
    have hnx:aV (cJ ps,kvs) (i+1)=(dr (aV (cJ ps,kvs) i).2 a.2++cJ st,dY (aV (cJ ps,kvs) i).2 a.2):=by
     show lL (aV (cJ ps,kvs) i)=_;rw[hrun]
     rfl
    rw[show(cH (a::st)).isEmpty=false by simp[cH],ycx rfl];refine⟨_,.lst S1.hF,?_⟩;rw[fb]
    by_cases h5:((ds.length:Nat):Int)<=(m:Int)
    ·rw[ycx h5];refine⟨λτ1 G1=>∃(ds':List Addr) (st':List (Addr×Row)) (t6':Option W),Ts C G G1 l d F0 (cJ ps,kvs) ds' (i+1) st'/\τ1=[some (.ref t),some (.ref b),some (.int (m:Int)),some (.ref d),some (.ref l),some (.ref F0),t6'],?_,?_⟩
     ·rintro τ1 G1 ⟨ds',st',t6',S',rfl⟩;exact⟨m- (i+1),by lia,i+1,ds',st',t6',S',rfl,by lia,rfl⟩
     ·have him:i<=60:=by lia
      have hOn:=hO.run hB0 (i+1);have rh:kf C G6 a.1 a.2:=S1.ro a yaz;have hgr:=hOi.g a.2 (by rw[hrun];exact yaz);have hz:Sz a.2:=vT (hBi i (by assumption)) _ hgr;have hbad:io (aV (cJ ps,kvs) i)=cT (aV (cJ ps,kvs) i).2 a.2:=by rw[hrun];rfl
      obtain⟨fs,f1,_,f3⟩:=rh.isIns;have dl:d≠l:=λz=>by have:=S1.hd;rw[z,S1.hl] at this;cases this
      have dF:d≠F0:=λz=>by have:=S1.hd;rw[z,S1.hF] at this;cases this
      have al:a.1≠l:=λz=>by rw[z,S1.hl] at f1;cases f1
      have hki:=hOi.k;have hkn:=hOn.k;have hid:=hOi.b.int;have hid2:=hOn.b.int;have hp0:(0:Int)<=B*2^i:=Int.mul_nonneg hB0 (Int.le_of_lt (Int.pow_pos (by decide)));generalize hN:(λ(τ1:cO) (G1:Gp)=>∃(ds':List Addr) (st':List (Addr×Row)) (t6':Option W),Ts C G G1 l d F0 (cJ ps,kvs) ds' (i+1) st'/\τ1=[some (W.ref t),some (W.ref b),some (W.int (m:Int)),some (W.ref d),some (W.ref l),some (W.ref F0),t6'])=N;subst hB';refine aK λU1 hU1=>?_;walk_at "R";refine⟨_,_,S1.hl,?_⟩;walk_at "R";have g7l:=af (G:=G6) (a:=l) (g:=GO.lst (cH st));have k7:∀x,x≠l->aF G6 l (.lst (cH st)) x=G6 x:=λx hx=>ao hx;have I7:cG G6 (aF G6 l (.lst (cH st))):=cG.but (p:=l) (λx g xl e=>(k7 x xl).trans e) (λC' y fs e=>by rw[S1.hl] at e;cases e);generalize aF G6 l (.lst (cH st))=G7 at g7l k7 I7 ⊢;walk_at "b";refine⟨kd a.2,vU hgr,a.1,fs,rfl,(k7 _ al).trans f1,f3,a.1,d,a.2,_,rfl,rh.mono I7,rfl,hz,(rB _ hgr).2,(k7 _ dl).trans S1.hd,⟨_,hOi.b,hp0⟩,by lia,λhno=>hx _ i (λx g e=>(k7 x (λz=>by rw[z,S1.f1] at e;cases e)).trans (S1.le x g e)) (by lia) (hbad▸hno) S1.nb,λhno p2 G8 p8 k8 hd8 fp2 hp2 hR8 he8=>?_⟩;have n2l:p2≠l:=λz=>by rw[z,g7l] at fp2;cases fp2
      have I8:cG G7 G8:=cG.but (p:=d) k8 (λC' y fs e=>by rw[k7 _ dl,S1.hd] at e;cases e);have hro:Rows C G8 st:=λx hx=>((S1.ro x (yay _ hx)).mono I7).mono I8;have e8:cJ (p8++st)=(aV (cJ ps,kvs) (i+1)).1:=by rw[hnx];show List.map _ (p8++st)=_;rw[map_append,he8]
      have hst:kF cp (p8++st):=by
       have:sT cp s0 l0 B (i+1) (cJ (p8++st),(aV (cJ ps,kvs) (i+1)).2):=by rw[e8];exact hOn
       exact this.stq (hLi (i+1) (by lia)) (hBi (i+1) (by lia))
      refine⟨l,p2,p8,st,rfl,n2l,k8 l _ dl.symm g7l,hp2,hR8,hst,λG9 hl9 hk9=>?_⟩;have d8:G8 d=some (.dic (aV (cJ ps,kvs) (i+1)).2):=by rw[hnx];exact hd8
      have k9:∀x g,x≠l->x≠d->G6 x=some g->G9 x=some g:=λx g xl xd e=>(hk9 x xl).trans (k8 x g xd ((k7 x xl).trans e));have hd9:G9 d=some (.dic (aV (cJ ps,kvs) (i+1)).2):=(hk9 d dl).trans d8;have hro9:Rows C G9 (p8++st):=λx hx=>by
       have I9:cG G8 G9:=cG.but (p:=l) (λx g xl e=>(hk9 x xl).trans e) (λC' y fs e=>by rw[k8 l _ dl.symm g7l] at e;cases e);rcases mem_append.mp hx with hx | hx
       ·exact(hR8 x hx).mono I9
       ·exact(hro x hx).mono I9
      clear hk9 k8 hd8 d8 hR8 hro I8 hp2 fp2 n2l k7 g7l I7;have hF9:=k9 F0 _ S1.lF.symm dF.symm S1.hF;subst hU1;walk_at "R";refine⟨⟨_,hF9⟩,l,d,p8++st,_,rfl,hl9,hd9,hid2,by lia,λp4 G10 le10 fp4 hp4=>⟨_,le10 _ _ hF9,by rw[fb];lia,?_⟩⟩;have efo:=rE (cJ ps,kvs) 0 ds p4;rw[show 0+ds.length=i+1 by lia,←e8] at efo;rw[←efo];have n4d:p4≠d:=λz=>by rw[z,hd9] at fp4;cases fp4
      have n4l:p4≠l:=λz=>by rw[z,hl9] at fp4;cases fp4
      have n4F:p4≠F0:=λz=>by rw[z,hF9] at fp4;cases fp4
      subst hN;have I11:cG G9 (aF G10 F0 (GO.lst (oC (cJ ps,kvs) 0 (ds++[p4])))):=cG.but (p:=F0) (λx g xF e=>(ao xF).trans (le10 _ _ e)) (λC' y fs e=>by rw[hF9] at e;cases e);refine⟨ds++[p4],p8++st,_,S1.next (λx g xl xd xF e=>(ao xF).trans (le10 _ _ (k9 x g xl xd e))) ((ao S1.lF).trans (le10 _ _ hl9)) e8 (hro9.mono I11) ((ao dF).trans (le10 _ _ hd9)) af ((ao n4F).trans hp4) ?_ n4d (by rw[hrun];exact List.cons_ne_nil _ _) (by rw[hbad];exact hno),rfl⟩;cases e:G6 p4 with
      | none=>rfl
      | some g=>rw[k9 p4 g n4l n4d e] at fp4;cases fp4
    ·rw[ybv h5];exact fin (.inr (by lia))
noncomputable def D6:bQ:=λws G q _=>∃(ns:List Int) (k:Int),ws=[.scr ns,.int k]/\0<=k/\∀v:Int,q (.int v) G
theorem Gz (F:cz K "_law_cell_at" "_law_cell_at" (aO 37) f fd) (ml:mg "len"=none):ca P w K mg base 1 f fd ["_law_script","_law_k"] D6:=by
 refine dP F (N:=["_law_script","_law_k"]) (by walk_at "s") (by walk_at "l") λ_ _ _ _ _ _ nd hr=>?_;apply aJ
 ·exact(ac (bh (aL (kT hr) (aa 1) (bU fB rfl ml PySem.boot_len (ae (aa 0) ak))) (ac (av (aD aE (aa 0) (aa 1))) ag) ag) (ac (av ah) ag))
 ·rintro ws G q e ⟨ns,k,rfl,hk,hq⟩;walk_at "R";split
  ·obtain⟨n,hn⟩:=x9 (ns:=ns) (i:=k) hk (by assumption);exact⟨n,hn,aC.done (hq n)⟩
  ·exact aC.done (hq 0)
noncomputable def BZ:bQ:=λws G q _=>∃c:Int,ws=[.int c]/\∀v:Int,0<=v->v<=10^50->q (.int v) G
theorem GA (F:cz K "_law_amount" "_law_amount" (aO 38) f fd):ca P w K mg base 1 f fd ["_law_cell"] BZ:=by
 refine dP F (N:=["_law_cell"]) (by walk_at "s") (by walk_at "l") λ_ _ _ _ _ _ nd hr=>?_;apply aJ
 ·exact(ac (bh (aL (bG hr) (aS cQ (aa 0) ah) ah) (ac (av (aS cQ (aS cr (aa 0) ah) (aS AX ah ah))) ag) ag) (ac (av (aS cQ (aS cr (aa 0) ah) ah)) ag))
 ·rintro ws G q e ⟨c,rfl,hq⟩;walk_at "R";refine fh (λh=>?_) (λh=>?_)
  ·exact aC.done (hq _ (Int.emod_nonneg _ (by decide)) (Int.le_of_lt (Int.emod_lt_of_pos _ (by decide))))
  ·have h1:=Int.emod_lt_of_pos (c/6) (b:=4) (by decide);exact aC.done (hq _ (Int.emod_nonneg _ (by decide)) (by lia))
noncomputable abbrev sM (ms:List (Int×Str)):List W:=ms.map λm=> .tup [.int m.1,.str m.2]
noncomputable def wG (ms:List (Int×Str)):Prop:=ms.length<=3/\∀m,m∈ms->0<=m.1/\m.1<=4
noncomputable def D7:bQ:=λws G q _=>∃(c:Int) (b:Str) (pn:Addr) (names:List Str),ws=[.int c,.str b,.ref pn]/\G pn=some (.lst (wF names))/\names.length=4/\∀(p:Addr) (G':Gp) (ms:List (Int×Str)),aC G G'->G p=none->G' p=some (.lst (sM ms))->wG ms->q (.ref p) G'
theorem GB (F:cz K "_law_marks" "_law_marks" (aO 40) f fd):ca P w K mg base 1 f fd ["_law_cell","_law_box","_law_names"] D7:=by
 refine dP F (N:=["_law_cell","_law_box","_law_names","_law_marks_here"]) (by walk_at "s") (by walk_at "l") λ_ _ _ _ _ _ nd hr=>?_;apply aJ
 ·exact(ac (aR 3 nd rfl (.inl rfl) (bL (ae (bp (ae (aS cQ (aS cr (aa 0) ah) ah) (ae (aa 1) ak))) ak))) (ac (bh (aL (bG hr) (aS cQ (aa 0) ah) ah) (ac (aR 3 nd rfl (.inl rfl) (bL (ae (bp (ae (aS cQ (aS cr (aa 0) ah) ah) (ae (aD aE (aa 2) (aS cQ (aS cr (aa 0) ah) ah)) ak))) ak))) ag) ag) (ac (bh (aL (bG hr) (aS cQ (aS cr (aa 0) ah) ah) ah) (ac (dS (lV (aa 3) (bp (ae (aS cQ (aS cr (aa 0) ah) ah) (ae (aD aE (aa 2) (aS cQ (aS cr (aa 0) ah) ah)) ak))))) ag) ag) (ac (av (aa 3)) ag))))
 ·rintro ws G q e ⟨c,b,pn,names,rfl,hn,hn1,hq⟩;have hlen:(wF names).length=names.length:=length_map ..;have e4:=iQ (i:=c/4) (j:=5) (by lia);have n4:=iQ (i:=c/20) (j:=4) (by lia);have m4:=iQ (i:=c/160) (j:=4) (by lia);obtain⟨x,hx,_⟩:=mD (L:=names) (i:=c/20%4) n4.1 (by lia);walk_at "a0";intro p hp;have le1:=aC.new (g:=GO.lst [W.tup [.int (c/4%5),.str b]]) hp;have g1:=af (G:=G) (a:=p) (g:=GO.lst [W.tup [.int (c/4%5),.str b]]);generalize aF G p (GO.lst [W.tup [.int (c/4%5),.str b]])=G1 at le1 g1 ⊢;subst hU;refine aK λU hU=>?_;have go:∀(p':Addr) (y:Str) (G2:Gp),aC G G2->G p'=none->G2 p'=some (.lst [.tup [.int (c/4%5),.str y]])->U { nx:=λx G1=>∃G0,aC G0 G1/\q W.non G0,rt:=λw G1=>∃G0,aC G0 G1/\q w G0 } [some (.int c),some (.str b),some (.ref pn),some (.ref p')] G2:=λp' y G2 le2 fp g2=>by
   subst hU;refine aK λU hU=>?_;have fin:∀(ms:List (Int×Str)) (G3:Gp),aC G G3->G3 p'=some (.lst (sM ms))->wG ms->U { nx:=λx G1=>∃G0,aC G0 G1/\q W.non G0,rt:=λw G1=>∃G0,aC G0 G1/\q w G0 } [some (.int c),some (.str b),some (.ref pn),some (.ref p')] G3:=λms G3 le3 g3 hm=>by
    subst hU;walk_at "R";exact aC.done (hq p' G3 ms le3 fp g3 hm)
   walk_at "R";refine fh (λ_=>?_) λ_=>?_
   ·refine⟨⟨_,g2⟩,_,_,le2 _ _ hn,hx,_,g2,by simp only[length_cons,length_nil];lia,?_⟩;refine fin [(c/4%5,y),(c/160%4,x)] _ (λa g e=>?_) ?_ ⟨by show 2<=3;decide,λm hm=>?_⟩
    ·rw[ao (λz=>by rw[z,fp] at e;cases e)];exact le2 _ _ e
    ·rw[af];rfl
    ·rcases mem_cons.mp hm with rfl | hm
     ·exact⟨e4.1,by show c/4%5<=4;lia⟩
     ·rw[mem_singleton.mp hm];exact⟨m4.1,by show c/160%4<=4;lia⟩
   ·refine fin [(c/4%5,y)] _ le2 g2 ⟨by show 1<=3;decide,λm hm=>?_⟩;rw[mem_singleton.mp hm];exact⟨e4.1,by show c/4%5<=4;lia⟩
  walk_at "R";refine fh (λ_=>?_) λ_=>go p b G1 le1 hp g1;refine⟨_,_,le1 _ _ hn,hx,λp2 hp2=>?_⟩;exact go p2 x _ (le1.trans (aC.new hp2)) (bA le1 hp2) af
mutual
inductive Th (G:Gp):W->Row->Prop where
 | set {b o:Str} {n:Int}:Th G (.tup [.str "set",.str b,.str o,.int n]) (.set b n)
 | copy {b o:Str} {n:Int}:Th G (.tup [.str "copy",.str b,.str o,.int n]) (.copy b o)
 | add {b o:Str} {n:Int}:Th G (.tup [.str "add",.str b,.str o,.int n]) (.add b o)
 | less {b o:Str} {n:Int}:Th G (.tup [.str "less",.str b,.str o,.int n]) (.less b)
 | times {b:Str} {l:Addr} {ws:List W} {rs:aT Str} (h:G l=some (.lst ws)) (hs:mS G ws rs):Th G (.tup [.str "times",.str b,.ref l]) (.times b rs)
 | whl {b:Str} {l m:Addr} {ms:List (Int×Str)} {ws:List W} {rs:aT Str} (h:G l=some (.lst ws)) (hm:G m=some (.lst (sM ms))) (ok:wG ms) (hs:mS G ws rs):Th G (.tup [.str "while",.str b,.ref l,.ref m]) (.whl b (eA (dN ms)) rs)
inductive mS (G:Gp):List W->aT Str->Prop where
 | nil:mS G [] .nil
 | cons {w:W} {ws:List W} {r:Row} {rs:aT Str} (h:Th G w r) (hs:mS G ws rs):mS G (w::ws) (.cons r rs)
end
noncomputable def vZ (G G':Gp):Prop:=∀a ws,G a=some (.lst ws)->G' a=some (.lst ws)
theorem aC.ls {G G':Gp} (h:aC G G'):vZ G G':=λ_ _ e=>h _ _ e
mutual
theorem Th.mono {G G':Gp} (l:vZ G G'):∀{w:W} {r:Row},Th G w r->Th G' w r
 | _,_,.set=> .set
 | _,_,.copy=> .copy
 | _,_,.add=> .add
 | _,_,.less=> .less
 | _,_,.times h hs=> .times (l _ _ h) (mS.mono l hs)
 | _,_,.whl h hm ok hs=> .whl (l _ _ h) (l _ _ hm) ok (mS.mono l hs)
theorem mS.mono {G G':Gp} (l:vZ G G'):∀{ws:List W} {rs:aT Str},mS G ws rs->mS G' ws rs
 | _,_,.nil=> .nil
 | _,_,.cons h hs=> .cons (Th.mono l h) (mS.mono l hs)
end
noncomputable abbrev kr (ps:List (W×Row)):List W:=ps.map (·.1)
noncomputable abbrev dj (ps:List (W×Row)):List Row:=ps.map (·.2)
noncomputable def cA (G:Gp) (ps:List (W×Row)):Prop:=∀p,p∈ps->Th G p.1 p.2
theorem cA.mono {G G':Gp} {ps:List (W×Row)} (h:cA G ps) (l:vZ G G'):cA G' ps:=λp hp=>(h p hp).mono l
theorem mS.psq {G:Gp}:∀{ws:List W} {rs:aT Str},mS G ws rs->∃ps,ws=kr ps/\rs.L=dj ps/\cA G ps
 | _,_,.nil=>⟨[],rfl,rfl,λ_ h=>(nomatch h)⟩
 | _,_,.cons (w:=a) (r:=r) h hs=>by
   obtain⟨ps,h1,h2,h3⟩:=mS.psq hs;refine⟨(a,r)::ps,by rw[h1];rfl,by rw[aT.L,h2];rfl,λp hp=>?_⟩;rcases mem_cons.mp hp with rfl | hp
   ·exact h
   ·exact h3 p hp
theorem cA.ths {G:Gp}:∀{ps:List (W×Row)},cA G ps->mS G (kr ps) (aT.of (dj ps))
 | [],_=> .nil
 | p::ps,h=> .cons (h p yaz) (cA.ths λx hx=>h x (yay _ hx))
mutual
noncomputable def sU (B:Int):Row->Prop
 | .set _ n=>0<=n/\n<=B
 | .times _ rs=>iU B rs/\rs.L.length<=4/\rs.L≠[]
 | .whl _ hs rs=>iU B rs/\rs.L.length<=4/\rs.L≠[]/\∃ms,wG ms/\hs=eA (dN ms)
 | .count _ _=>False
 | .bear _ _ _ _=>False
 | _=>True
noncomputable def iU (B:Int):aT Str->Prop
 | .nil=>True
 | .cons r rs=>sU B r/\iU B rs
end
mutual
noncomputable def tz:Row->Nat
 | .times _ rs=>gK rs+1
 | .whl _ _ rs=>gK rs+1
 | _=>1
noncomputable def gK:aT Str->Nat
 | .nil=>0
 | .cons r rs=>gK rs+tz r
end
theorem kj {B:Int}:∀{rs:aT Str},iU B rs->∀r,r∈rs.L->sU B r
 | .nil,_,r,h=>(nomatch h)
 | .cons r0 rs,x,r,h=>by
   rcases mem_cons.mp h with rfl | h
   ·exact x.1
   ·exact kj x.2 r h
theorem mT {B:Int}:∀{rs:List Row},(∀r,r∈rs->sU B r)->iU B (aT.of rs)
 | [],_=>trivial
 | r::rs,h=>⟨h r yaz,mT λx hx=>h x (yay _ hx)⟩
theorem gL:∀{rs:aT Str} {k:Nat},rs.dt<=k->∀r,r∈rs.L->r.dt<=k
 | .nil,_,_,r,h=>(nomatch h)
 | .cons r0 rs,k,x,r,h=>by
   have hx:=max_le.mp (show max r0.dt rs.dt<=k from x);rcases mem_cons.mp h with rfl | h
   ·exact hx.1
   ·exact gL hx.2 r h
theorem tR:∀{rs:List Row} {k:Nat},(∀r,r∈rs->r.dt<=k)->(aT.of rs).dt<=k
 | [],_,_=>zero_le _
 | r::rs,k,h=>max_le.mpr ⟨h r yaz,tR λx hx=>h x (yay _ hx)⟩
theorem v0:∀{rs:aT Str} (r:Row),r∈rs.L->tz r<=gK rs
 | .nil,r,h=>(nomatch h)
 | .cons r0 rs,r,h=>by
   rcases mem_cons.mp h with rfl | h
   ·exact Nat.le_add_left _ _
   ·exact ybz (v0 r h) (Nat.le_add_right _ _)
theorem rF:∀rs:List Row,gK (aT.of rs)=(rs.map tz).sum
 | []=>rfl
 | r::rs=>by
   show gK (aT.of rs)+tz r=tz r+(rs.map tz).sum;rw[rF rs];lia
theorem v5 {ms:List (Int×Str)} (h:wG ms):∀p,p∈eA (dN ms)->∃e:Int,p.1=O.wh e/\0<=e/\e<=10^9:=λp hp=>by
 obtain⟨x,hx,e⟩:=mem_map.mp (xX hp);obtain⟨m,hm,rfl⟩:=mem_map.mp hx;exact⟨m.1,e.symm,(h.2 m hm).1,ydx (h.2 m hm).2 (by decide)⟩
theorem v6 {ms:List (Int×Str)} (h:wG ms):sR 3 (eA (dN ms))/\O.hw (hpw (eA (dN ms)))<=2/\O.mx (hpw (eA (dN ms)))<=10^31:=by
 have hx:=v5 h;refine⟨λp hp=>?_,?_⟩
 ·obtain⟨e,he,e0,e1⟩:=hx p hp;have y:=Wb.wh e0;have:=y.hw;rw[he];exact⟨y.nf,y.dp,by lia⟩
 ·generalize eA (dN ms)=hs at hx;cases hs with
  | nil=>exact⟨by decide,by decide⟩
  | cons p hs=>
    obtain⟨e,he,e0,e1'⟩:=hx p yaz;have y:=Wb.wh e0;have e1:=Wb.wh (n:=1) (by decide);have a1:=O.hw_plus (O.wh e) (O.wh 1);have a2:=O.mx_plus (b:=O.wh 1) y.nf;have a3:=y.hw;have a4:=y.mx;have a5:=e1.hw;have a6:=e1.mx;have a7:((Int.toNat 1:Nat):Int)=1:=rfl;constructor
    ·show O.hw (.c (O.plusO p.1 (O.wh 1)) 1 .z)<=2;rw[he,O.hw_c];show max (0+1) (max (O.hw (O.plusO (O.wh e) (O.wh 1))) 0)<=2;lia
    ·show O.mx (.c (O.plusO p.1 (O.wh 1)) 1 .z)<=10^31;rw[he,O.mx_c];show max 1 (max (O.mx (O.plusO (O.wh e) (O.wh 1))) 0)<=10^31;lia
noncomputable def BB:Nat:=10^32
theorem B1 (k:Nat):1<=BB^k:=Nat.one_le_pow _ _ (by unfold BB;omega)
theorem v7 {t m X d:Nat} (h:m<=4*t*BB^d) (hX:X+2<=BB):(m+3)*(X+1)+1<=4*(t+1)*BB^ (d+1):=by
 have h1:(m+3)*(X+1)<=(4*t*BB^d+3)*(X+1):=Nat.mul_le_mul_right _ (by omega);have h2:(4*t*BB^d+3)*(X+1)=4*t*BB^d*(X+1)+3*(X+1):=Nat.add_mul ..;have h3:4*t*BB^d*(X+1)<=4*t*BB^d*BB:=Nat.mul_le_mul_left _ (by omega);have h4:4*(t+1)*BB^ (d+1)=4*t*BB^d*BB+4*(BB^d*BB):=by
  rw[Nat.pow_succ,Nat.mul_add,Nat.add_mul,Nat.mul_one]
  congr 1
  exact(Nat.mul_assoc ..).symm
 have h5:1*BB<=BB^d*BB:=Nat.mul_le_mul_right _ (B1 d);omega
mutual
theorem D8 {B:Int}:∀r:Row,sU B r->r.nn/\r.hb<=4*tz r/\r.mb<=4*tz r*BB^r.dt/\r.lb<=3*tz r
 | .set _ _,_=>⟨trivial,by show 1<=4*1;decide,by show 1<=4*1*BB^0;decide,by show 1<=3*1;decide⟩
 | .copy _ _,_=>⟨trivial,by show 1<=4*1;decide,by show 1<=4*1*BB^0;decide,by show 1<=3*1;decide⟩
 | .add _ _,_=>⟨trivial,by show 1<=4*1;decide,by show 1<=4*1*BB^0;decide,by show 1<=3*1;decide⟩
 | .less _,_=>⟨trivial,by show 1<=4*1;decide,by show 1<=4*1*BB^0;decide,by show 1<=3*1;decide⟩
 | .times _ rs,h=>by
   obtain⟨h1,h2,h3,h5⟩:=km rs h.1;refine⟨h1,by show rs.hb+2<=4*(gK rs+1);omega,?_,by show 1<=3*(gK rs+1);omega⟩;have h4:=v7 (X:=1) h3 (by unfold BB;omega);show(rs.mb+2)*2<=4*(gK rs+1)*BB^ (rs.dt+1);omega
 | .whl _ hs rs,h=>by
   obtain⟨h1,h2,h3,h5⟩:=km rs h.1;obtain⟨_,_,_,ms,hm,rfl⟩:=h;obtain⟨m1,m2,m3⟩:=v6 hm;refine⟨⟨h1,m1⟩,by show rs.hb+O.hw (hpw (eA (dN ms)))+2<=4*(gK rs+1);omega,?_,?_⟩
   ·exact v7 (X:=(O.mx (hpw (eA (dN ms)))).toNat) h3 (by unfold BB;omega)
   ·generalize eA (dN ms)=hs;cases hs with
    | nil=>show rs.lb+2<=3*(gK rs+1);omega
    | cons p hs=>show 2<=3*(gK rs+1);omega
theorem km {B:Int}:∀rs:aT Str,iU B rs->rs.nn/\rs.hb<=4*gK rs/\rs.mb<=4*gK rs*BB^rs.dt/\rs.lb<=3*gK rs
 | .nil,_=>⟨trivial,zero_le _,zero_le _,zero_le _⟩
 | .cons r rs,h=>by
   obtain⟨a1,a2,a3,a4⟩:=D8 r h.1;obtain⟨b1,b2,b3,b4⟩:=km rs h.2;refine⟨⟨a1,b1⟩,by show rs.hb+r.hb<=4*(gK rs+tz r);omega,?_,by show rs.lb+r.lb<=3*(gK rs+tz r);omega⟩;show rs.mb+r.mb<=4*(gK rs+tz r)*BB^ (max r.dt rs.dt);have p1:BB^r.dt<=BB^ (max r.dt rs.dt):=Nat.pow_le_pow_right (by unfold BB;omega) (le_max_left _ _);have p2:BB^rs.dt<=BB^ (max r.dt rs.dt):=Nat.pow_le_pow_right (by unfold BB;omega) (le_max_right _ _);have q1:=Nat.mul_le_mul_left (4*tz r) p1;have q2:=Nat.mul_le_mul_left (4*gK rs) p2;rw[Nat.mul_add,Nat.add_mul];omega
end
theorem mU {B:Int} {rs:aT Str} (h:iU B rs) (h1:gK rs<=28) (h2:rs.dt<=3):Bd 84 rs/\lD rs:=by
 obtain⟨a1,a2,a3,a4⟩:=km rs h;have p:=Nat.pow_le_pow_right (n:=BB) (by unfold BB;omega) h2;have q:=Nat.mul_le_mul (show 4*gK rs<=112 by omega) p;have e:112*BB^3<=10^100:=by unfold BB;decide+kernel
 have e2:(10:Nat)^100<=10^300:=by decide+kernel
 have hm:=ybz a3 (ybz q e);exact⟨⟨by omega,hm,by omega⟩,⟨a1,by omega,Int.ofNat_le.mpr (ybz hm e2)⟩⟩
theorem oE (o:O):∀l:List O,(insO o l).length<=l.length+1
 | []=>yby _
 | x::l=>by
   have:=oE o l;unfold insO;split
   ·simp only[length_cons];lia
   ·split
    ·simp only[length_cons];lia
    ·simp only[length_cons];lia
theorem lM:∀l:List O,(jf l).length<=l.length
 | []=>yby _
 | x::l=>by
   have:=lM l;have h:=oE x (jf l);show(insO x (jf l)).length<=l.length+1;lia
theorem sN (ms:List (O×Str)) (o:O):(bM ms o).length<=ms.length:=by
 unfold bM;rw[length_map];exact List.length_filter_le _ _
theorem B2 {ms:List (Int×Str)} (h:wG ms):Mk 84 (eA (dN ms)):=by
 obtain⟨m1,m2,m3⟩:=v6 h;have ht:(dN ms).length=ms.length:=length_map ..;have hl:(eA (dN ms)).length<=ms.length:=by
  unfold eA;have:=lM ((dN ms).map (·.1));rw[length_map] at this ⊢;lia
 have h5:=h.1;refine⟨m1,⟨by lia,λp hp=>?_,Bc _⟩,by lia,by lia,ydx m3 (by decide+kernel),λp hp=>?_⟩
 ·obtain⟨o,_,rfl⟩:=mem_map.mp hp;have:=sN (dN ms) o;show(bM (dN ms) o).length<=100;lia
 ·obtain⟨e,he,e0,e1⟩:=v5 h p hp;have:=(Wb.wh e0).mx;rw[he];exact ydx (show O.mx (O.wh e)<=10^9 by lia) (by decide+kernel)
mutual
theorem v9 {B:Int}:∀r:Row,sU B r->tz r<=28->r.dt<=3->gr True 84 B r
 | .set _ _,h,_,_=>h
 | .copy _ _,_,_,_=>trivial
 | .add _ _,_,_,_=>trivial
 | .less _,_,_,_=>trivial
 | .times _ rs,h,h1,h2=>by
   have h1:gK rs+1<=28:=h1;have h2:rs.dt+1<=3:=h2;exact⟨jw rs h.1 (by lia) (by lia),(mU h.1 (by lia) (by lia)).1⟩
 | .whl _ hs rs,h,h1,h2=>by
   have h1:gK rs+1<=28:=h1;have h2:rs.dt+1<=3:=h2;refine⟨⟨jw rs h.1 (by lia) (by lia),(mU h.1 (by lia) (by lia)).1⟩,?_⟩;obtain⟨_,_,_,ms,hm,rfl⟩:=h;exact B2 hm
theorem jw {B:Int}:∀rs:aT Str,iU B rs->gK rs<=28->rs.dt<=3->vR True 84 B rs
 | .nil,_,_,_=>trivial
 | .cons r rs,h,h1,h2=>by
   have h1:gK rs+tz r<=28:=h1;have h2:=max_le.mp (show max r.dt rs.dt<=3 from h2);exact⟨v9 r h.1 (by lia) h2.1,jw rs h.2 (by lia) h2.2⟩
end
noncomputable def yY (d:Nat):bQ:=λws G q _=>∃(x:W) (r:Row) (B:Int),ws=[x]/\Th G x r/\sU B r/\r.dt<d/\q (.int (r.dt:Nat)) G
theorem wa {rs:List Row} {q:Int->Prop} (hq:q ((aT.of rs).dt:Nat)):∀m:Int,m∈(rs.map λr=>((r.dt:Nat):Int))->(∀x,x∈(rs.map λr=>((r.dt:Nat):Int))->x<=m)->q m:=by
 intro m hm hx;obtain⟨r,hr,rfl⟩:=mem_map.mp hm;have h1:(aT.of rs).dt<=r.dt:=tR λx hx'=>Int.ofNat_le.mp (hx _ (mem_map.mpr ⟨x,hx',rfl⟩));have h2:r.dt<=(aT.of rs).dt:=gL (yby _) r (by rw[aT.L_of];exact hr);rw[show(r.dt:Nat)=(aT.of rs).dt from Nat.le_antisymm h2 h1];exact hq
theorem Th.bodyq {G:Gp} {B:Int} {x:W} {r:Row} (h:Th G x r) (hs:sU B r):(∃(k b o:Str) (n:Int),x=.tup [.str k,.str b,.str o,.int n]/\(k="set"∨k="copy"∨k="add"∨k="less")/\r.dt=0)∨∃(k b:Str) (l:Addr) (y:List W) (ps:List (W×Row)),x=.tup (.str k:: .str b:: .ref l::y)/\(k="times"∨k="while")/\G l=some (.lst (kr ps))/\cA G ps/\iU B (aT.of (dj ps))/\ps.length<=4/\ps≠[]/\r.dt=(aT.of (dj ps)).dt+1:=by
 cases h with
 | set=>exact .inl ⟨_,_,_,_,rfl,.inl rfl,rfl⟩
 | copy=>exact .inl ⟨_,_,_,_,rfl,.inr (.inl rfl),rfl⟩
 | add=>exact .inl ⟨_,_,_,_,rfl,.inr (.inr (.inl rfl)),rfl⟩
 | less=>exact .inl ⟨_,_,_,_,rfl,.inr (.inr (.inr rfl)),rfl⟩
 | times h hs'=>
   obtain⟨ps,rfl,hL,hT⟩:=hs'.psq;rename_i b l rs;have e:aT.of (dj ps)=rs:=by rw[←hL,aT.of_L]
   have h1:=hs.2.1;have h2:=hs.2.2;rw[hL] at h1 h2;rw[length_map] at h1;exact .inr ⟨_,_,_,_,ps,rfl,.inl rfl,h,hT,by rw[e];exact hs.1,h1,λz=>h2 (by rw[z];rfl),by rw[e];rfl⟩
 | whl h hm ok hs'=>
   obtain⟨ps,rfl,hL,hT⟩:=hs'.psq;rename_i b l m ms rs;have e:aT.of (dj ps)=rs:=by rw[←hL,aT.of_L]
   have h1:=hs.2.1;have h2:=hs.2.2.1;rw[hL] at h1 h2;rw[length_map] at h1;exact .inr ⟨_,_,_,_,ps,rfl,.inr rfl,h,hT,by rw[e];exact hs.1,h1,λz=>h2 (by rw[z];rfl),by rw[e];rfl⟩
theorem GC {d k:Nat} (F:cz K "_law_deep" "_law_deep" (aO 39) f fd) (F0:Fx P w K mg base "_law_deep" ["_law_thing"] k (yY d)) (mm:mg "max"=none):ca P w K mg base (k+1) f fd ["_law_thing"] (yY (d+1)):=by
 refine dP F (N:=["_law_thing"]) (by walk_at "s") (by walk_at "l") λ_ _ _ _ _ _ nd hr=>?_;apply aJ
 ·exact(ac (bh (iE (gj (aL (ff hr) (aD aE (aa 0) ah) bq) (eO (aL (ff hr) (aD aE (aa 0) ah) bq)))) (ac (av ah) ag) ag) (ac (av (aS bZ ah (bU (lZ rfl) rfl mm qz (ae (fK (d7 (by first | rfl | decide+kernel)) rfl (ck (aD aE (aa 0) ah)) (λ_ _ _ _=>(ci 1 (by first | assumption | decide+kernel | rfl) rfl (.inl rfl))) (λ_ _ _ _=>du) (λ_ _ _ _=>(aA F0 (aw.mono hr (by lia)) rfl (ae (aa 1) ak)))) ak)))) ag))
 ·rintro ws G q e ⟨x,r,B,rfl,hx,hs,hd,hq⟩;rcases hx.bodyq hs with⟨k,b,o,n,rfl,hk,hdt⟩ | ⟨k,b,l,y,ps,rfl,hk,h,hT,hst,hl4,hne,hdt⟩
  ·rw[hdt] at hq;rcases hk with rfl | rfl | rfl | rfl
   ·walk_at "a0";exact aC.done hq
   ·walk_at "a0";exact aC.done hq
   ·walk_at "a0";exact aC.done hq
   ·walk_at "a0";exact aC.done hq
  ·have hd':(aT.of (dj ps)).dt<d:=by lia
   refine aK λU hU=>?_;have key:U { nx:=λx G1=>∃G0,aC G0 G1/\q W.non G0,rt:=λw G1=>∃G0,aC G0 G1/\q w G0 } [some (.tup (.str k:: .str b:: .ref l::y))] G:=by
    subst hU;walk_at "R";refine⟨_,h,fN (i:=1) (λp:W×Row=>p.1) (λp=> .int ((p.2.dt:Nat):Int)) (τ0:=[none,none,none]) h (λp hp k hk=>?_) (by show 0+_<=_;lia) (λ_=>rfl) λp hp=>?_⟩
    ·walk_at "R";have hm:p.2∈dj ps:=mem_map.mpr ⟨p,hp,rfl⟩;exact⟨p.1,p.2,B,rfl,hT p hp,kj hst _ (by rw[aT.L_of];exact hm),Nat.lt_of_le_of_lt (gL (yby _) _ (by rw[aT.L_of];exact hm)) hd',hk⟩
    ·refine⟨(dj ps).map λr=>((r.dt:Nat):Int),?_,λz=>hne (by simpa using z),?_⟩
     ·rw[af,nil_append];simp only[map_map]
      rfl
     ·refine wa (rs:=dj ps) (q:=λm=>∃G0,aC G0 (aF G p (GO.lst ([]++List.map (λp=>W.int ((p.2.dt:Nat):Int)) ps)))/\q (W.int (1+m)) G0) ⟨G,aC.new hp,?_⟩;rw[hdt] at hq;rw[show(1:Int)+(((aT.of (dj ps)).dt:Nat):Int)=(((aT.of (dj ps)).dt+1:Nat):Int) by lia];exact hq
   rcases hk with rfl | rfl
   ·walk_at "R";exact key
   ·walk_at "R";exact key
theorem D9 (T:Txt K mg):∀d:Nat,Fx P w K mg base "_law_deep" ["_law_thing"] d (yY d)
 | 0=>T.d__law_deep.fx λf fd F=>ca.none λws G q e ⟨t,_,_,_,_,_,h,_⟩=>by lia
 | d+1=>T.d__law_deep.fx λf fd F=>GC F (D9 T d) T.z_max
theorem rG (c:Int) (b o:Str) {n:Int} (h0:0<=n) (h1:n<=10^50):∃(k:Str) (r:Row),eI [W.str "set",.str "copy",.str "add",.str "less"] (c%4)=some (.str k)/\(∀G',Th G' (.tup [.str k,.str b,.str o,.int n]) r)/\sU (10^50) r/\r.dt=0/\tz r=1:=by
 have h:c%4=0∨c%4=1∨c%4=2∨c%4=3:=by lia
 rcases h with h | h | h | h<;> rw[h]
 ·exact⟨_,.set b n,rfl,λ_=> .set,⟨h0,h1⟩,rfl,rfl⟩
 ·exact⟨_,.copy b o,rfl,λ_=> .copy,trivial,rfl,rfl⟩
 ·exact⟨_,.add b o,rfl,λ_=> .add,trivial,rfl,rfl⟩
 ·exact⟨_,.less b,rfl,λ_=> .less,trivial,rfl,rfl⟩
theorem wb (c:Int):∃k:Str,eI [W.str "set",.str "copy",.str "add",.str "less"] (c%4)=some (.str k):=by
 obtain⟨k,_,h,_⟩:=rG c "" "" (n:=0) (by decide) (by decide+kernel);exact⟨k,h⟩
noncomputable def fi (ps:List (W×Row)):Nat:=((dj ps).map tz).sum
noncomputable def Ea (ps:List (W×Row)):Prop:=∀x,x∈ps->sU (10^50) x.2/\x.2.dt<=3
theorem wc (ps:List (W×Row)) (m:Nat):fi (ps.take m)+fi (ps.drop m)=fi ps:=by
 unfold fi dj;rw[←sum_append,←map_append,←map_append,List.take_append_drop]
theorem iq (ps:List (W×Row)):gK (aT.of (dj ps))=fi ps:=rF _
noncomputable def Eb:bQ:=λws G q _=>∃(pc pn:Addr) (ns:List Int) (names:List Str),ws=[.ref pc,.ref pn]/\G pc=some (.lst (ns.map W.int))/\G pn=some (.lst (wF names))/\names.length=4/\ns.length<=14/\
 ∀(p:Addr) (ps:List (W×Row)) (G':Gp),aC G G'->G p=none->G' p=some (.lst (kr ps))->cA G' ps->Ea ps->ps.length<=14->fi ps<=28->q (.ref p) G'
theorem GF (F:cz K "_law_rows" "_law_rows" (aO 41) f fd) (F1:Fx P w K mg base "_law_deep" ["_law_thing"] 5 (yY 5)) (F2:Fx P w K mg base "_law_marks" ["_law_cell","_law_box","_law_names"] 1 D7) (F3:Fx P w K mg base "_law_amount" ["_law_cell"] 1 BZ) (ml:mg "len"=none) (mm:mg "max"=none):ca P w K mg base 7 f fd ["_law_cells","_law_names"] Eb:=by
 refine dP F (N:=["_law_cells","_law_names","_law_rows_here","_law_cell","_law_box","_law_many","_law_body","_law_inside","_law_kind"]) (by walk_at "s") (by walk_at "l") λ_ _ _ _ _ _ nd hr=>?_;apply aJ
 ·exact(ac (aR 2 nd rfl (.inl rfl) (bL ak)) (ac (dG PySem.PassesOwn.never rfl (ck (aa 0)) (bT 3 nd rfl (.inl rfl)) (ac (aR 4 nd rfl (.inl rfl) (aD aE (aa 1) (aS cQ (aS cr (aa 3) ah) ah))) (ac (aR 5 nd rfl (.inl rfl) (aS bZ ah (aS cQ (aS cr (aa 3) ah) ah))) (ac (aR 6 nd rfl (.inl rfl) (cv (aa 2) dU (cW (aa 5)))) (ac (aR 7 nd rfl (.inl rfl) (o8 (eN pp (bU fB rfl ml PySem.boot_len (ae (aa 6) ak)) ah) (tT (eN (kT hr) (bU (lZ rfl) rfl mm qz (ae (fK (d7 (by first | rfl | decide+kernel)) rfl (ck (aa 6)) (λ_ _ _ _=>(ci 1 (by first | assumption | decide+kernel | rfl) rfl (.inl rfl))) (λ_ _ _ _=>du) (λ_ _ _ _=>(aA F1 (aw.mono hr (by lia)) rfl (ae (aa 1) ak)))) ak)) ah)))) (ac (bh (iE (gj (aL (bG hr) (aS cQ (aa 3) ah) ah) (eO (cB (aa 7))))) (ac (aR 2 nd rfl (.inl rfl) (aS bZ (bL (ae (bp (ae bq (ae (aa 4) (ae (aa 6) ak)))) ak)) (cv (aa 2) (cW (aa 5)) dU))) ag) (ac (bh (iE (gj (aL (bG hr) (aS cQ (aa 3) ah) ah) (eO (cB (aa 7))))) (ac (bh (aL (ff hr) (aS cQ (aS cr (aa 3) ah) ah) ah) (ac (aR 6 nd rfl (.inl rfl) (aS bZ (bL (ae (bp (ae bq (ae (aa 4) (ae (aa 4) (ae ah ak))))) ak)) (aa 6))) ag) ag) (ac (aR 2 nd rfl (.inl rfl) (aS bZ (bL (ae (bp (ae bq (ae (aa 4) (ae (aa 6) (ae (aA F2 (aw.mono hr (by lia)) rfl (ae (aS cr (aa 3) ah) (ae (aa 4) (ae (aa 1) ak)))) ak))))) ak)) (cv (aa 2) (cW (aa 5)) dU))) ag)) (ac (aR 8 nd rfl (.inl rfl) (aD aE (bL (ae bq (ae bq (ae bq (ae bq ak))))) (aS cQ (aS cr (aa 3) ah) ah))) (ac (aR 2 nd rfl (.inl rfl) (aS bZ (bL (ae (bp (ae (aa 8) (ae (aa 4) (ae (aD aE (aa 1) (aS cQ (aS cr (aa 3) ah) ah)) (ae (aA F3 (aw.mono hr (by lia)) rfl (ae (aS cr (aa 3) ah) ak)) ak))))) ak)) (aa 2))) ag))) ag)) ag)))))) (ac (av (aa 2)) ag)))
 ·rintro ws G q e ⟨pc,pn,ns,names,rfl,hc,hn,hn4,hl,hq⟩;have hlen:(wF names).length=names.length:=length_map ..;walk_at "a0";intro p hp;have le1:=aC.new (g:=GO.lst []) hp;have g1:=af (G:=G) (a:=p) (g:=GO.lst []);generalize aF G p (.lst [])=G1 at le1 g1 ⊢;walk_at "a";refine⟨_,le1 _ _ hc,bY (λws τ G'=>∃(todo:List Int) (ps:List (W×Row)) (p:Addr) (t3 t4 t5 t6 t7 t8:Option W),ws=todo.map W.int/\ps.length+todo.length<=14/\fi ps+2*todo.length<=28/\τ=[some (.ref pc),some (.ref pn),some (.ref p),t3,t4,t5,t6,t7,t8]/\aC G G'/\G p=none/\G' p=some (.lst (kr ps))/\cA G' ps/\Ea ps) ?_ ?_ _ _ _ ⟨ns,[],p,none,none,none,none,none,none,rfl,by simpa using hl,by show 0+_<=_;lia,rfl,le1,hp,g1,(λ_ h=>(nomatch h)),(λ_ h=>(nomatch h))⟩⟩
  ·rintro τ G' ⟨todo,ps,p,t3,t4,t5,t6,t7,t8,hw,hn,hz,rfl,le,fp,g,hT,hS⟩;refine⟨le _ _ hc,?_⟩;subst hU;walk_at "R";exact aC.done (hq p ps G' le fp g hT hS (by lia) (by lia))
  ·rintro w1 ws τ G' k ⟨todo,ps,p,t3,t4,t5,t6,t7,t8,hw,hnl,hz,rfl,le,fp,g,hT,hS⟩ hk;cases todo with
   | nil=>cases hw
   | cons c todo=>
     cases hw;refine⟨le _ _ hc,?_⟩;rw[length_cons] at hnl hz;have gn:=le _ _ hn;refine aK λU1 hU1=>?_;walk_at "R";have bm:=iQ (i:=c/12) (j:=4) (by lia);obtain⟨bx,hbx,_⟩:=mD (L:=names) (i:=c/12%4) bm.1 (by lia);refine⟨_,_,gn,hbx,?_⟩;walk_at "b";obtain⟨mn,hmn,mn1,mn3⟩:∃mn:Nat,1+c/4%3=(mn:Int)/\1<=mn/\mn<=3:=by
      have:=iQ (i:=c/4) (j:=3) (by lia);exact⟨(1+c/4%3).toNat,by lia,by lia,by lia⟩
     rw[hmn];walk_at "b";refine⟨_,g,λpb hpb=>?_⟩;rw[u9,←List.map_take];have le2:=aC.new (g:=GO.lst (kr (ps.take mn))) hpb;have g2:=af (G:=G') (a:=pb) (g:=GO.lst (kr (ps.take mn)));have fpb:=bA le hpb;have hT2:=hT.mono (aC.ls le2);have le3:=le.trans le2;have g2p:=le2 _ _ g;generalize aF G' pb (GO.lst (kr (ps.take mn)))=G2 at le2 g2 hT2 le3 g2p ⊢;clear le2;subst hU1;refine aK λU1 hU1=>?_;have fin:∀(b:Bool) (G8:Gp),aC G2 G8->(b=true->(aT.of (dj (ps.take mn))).dt<3/\ps.take mn≠[])->U1 { nx:=k,rt:=λw G1=>∃G0,aC G0 G1/\q w G0,bk:=U { nx:=λx G1=>∃G0,aC G0 G1/\q W.non G0,rt:=λw G1=>∃G0,aC G0 G1/\q w G0 },ct:=k } [some (.ref pc),some (.ref pn),some (.ref p),some (.int c),some (.str bx),some (.int (mn:Int)),some (.ref pb),some (.bl b),t8] G8:=λb G8 le8 hb=>by
      have le9:=le3.trans le8;have g8:=le8 _ _ g2;have g8p:=le8 _ _ g2p;have hT8:=hT2.mono (aC.ls le8);have gn8:=le9 _ _ hn;clear le3 le8 g2 g2p hT2 hq hp hU;subst hU1;refine aK λU2 hU2=>?_;refine Hg λTT VV DD hTT hVV hDD=>?_;have hs3:(ps.take mn).length<=3:=by rw[length_take];lia
      have hcut:=wc ps mn;have hst:iU (10^50) (aT.of (dj (ps.take mn))):=mT λr hr=>by
       obtain⟨z,hz,rfl⟩:=mem_map.mp hr;exact(hS z (mem_of_mem_take hz)).1
      have hT3:∀G',aC G8 G'->mS G' (kr (ps.take mn)) (aT.of (dj (ps.take mn))):=λG' l=>cA.ths λz hz=>(hT8 z (mem_of_mem_take hz)).mono (aC.ls l);have v7:∀(x:W) (r:Row) (qs:List (W×Row)) (p':Addr) (G':Gp) (t6 t7 t8:Option W),aC G8 G'->G p'=none->G' p'=some (.lst (x::kr qs))->Th G' x r->sU (10^50) r->r.dt<=3->(∀y,y∈qs->y∈ps)->qs.length<=ps.length->tz r+fi qs<=fi ps+2->k [some (.ref pc),some (.ref pn),some (.ref p'),some (.int c),some (.str bx),some (.int (mn:Int)),t6,t7,t8] G':=λx r qs p' G' t6 t7 t8 l f e h1 h2 h3 h4 h5 h6=>by
       refine hk _ _ ⟨todo,(x,r)::qs,p',_,_,_,_,_,_,rfl,by rw[length_cons];lia,?_,rfl,le9.trans l,f,e,λy hy=>?_,λy hy=>?_⟩
       ·show tz r+fi qs+_<=28;lia
       ·rcases mem_cons.mp hy with rfl | hy
        ·exact h1
        ·exact(hT8 y (h4 y hy)).mono (aC.ls l)
       ·rcases mem_cons.mp hy with rfl | hy
        ·exact⟨h2,h3⟩
        ·exact hS y (h4 y hy)
      have hcat:∀(x:W) (r:Row) (G1:Gp) (t6 t7 t8:Option W),aC G8 G1->(∀G',aC G1 G'->Th G' x r)->sU (10^50) r->r.dt<=3->tz r<=fi (ps.take mn)+2->∀p1,G1 p1=none->∃xs,aF G1 p1 (.lst [x]) p=some (.lst xs)/\∀p2,aF G1 p1 (.lst [x]) p2=none->∃xs1 ys,aF (aF G1 p1 (.lst [x])) p2 (.lst (dc xs (some (mn:Int)) none)) p1=some (.lst xs1)/\aF (aF G1 p1 (.lst [x])) p2 (.lst (dc xs (some (mn:Int)) none)) p2=some (.lst ys)/\xs1.length+ys.length<=100000/\∀p3,aF (aF G1 p1 (.lst [x])) p2 (.lst (dc xs (some (mn:Int)) none)) p3=none->k [some (.ref pc),some (.ref pn),some (.ref p3),some (.int c),some (.str bx),some (.int (mn:Int)),t6,t7,t8] (aF (aF (aF G1 p1 (.lst [x])) p2 (.lst (dc xs (some (mn:Int)) none))) p3 (.lst (xs1++ys))):=λx r G1 t6 t7 t8 l h1 h2 h3 h4 p1 hp1=>by
       have l1:=aC.new (g:=GO.lst [x]) hp1;refine⟨_,l1 _ _ (l _ _ g8p),λp2 hp2=>?_⟩;rw[jQ,←List.map_drop];have l2:=l1.trans (aC.new (g:=GO.lst (kr (ps.drop mn))) hp2);refine⟨_,_,aP af hp2,af,by simp only[length_map,length_cons,length_nil,length_drop];lia,λp3 hp3=>?_⟩;have l3:=l2.trans (aC.new (g:=GO.lst ([x]++kr (ps.drop mn))) hp3);exact v7 x r (ps.drop mn) p3 _ t6 t7 t8 (l.trans l3) (bA (le9.trans (l.trans l2)) hp3) af (h1 _ l3) h2 h3 (λy hy=>List.mem_of_mem_drop hy) (by rw[length_drop];lia) (by lia)
      have hV:VV DD [some (.ref pc),some (.ref pn),some (.ref p),some (.int c),some (.str bx),some (.int (mn:Int)),some (.ref pb),some (.bl b),t8] G8:=by
       subst hVV;refine Hg λTT2 VV2 DD2 hTT2 hVV2 hDD2=>?_;have hP:VV2 DD2 [some (.ref pc),some (.ref pn),some (.ref p),some (.int c),some (.str bx),some (.int (mn:Int)),some (.ref pb),some (.bl b),t8] G8:=by
        subst hVV2 hDD2 hDD hU2;refine aK λU3 hU3=>?_;walk_at "R";intro pk hpk;obtain⟨kd',hkd'⟩:=wb (c/4);refine⟨_,_,af,hkd',?_⟩;have l0:=aC.new (g:=GO.lst [W.str "set",.str "copy",.str "add",.str "less"]) hpk;generalize aF G8 pk (GO.lst [W.str "set",.str "copy",.str "add",.str "less"])=G7 at l0 ⊢;subst hU3;walk_at "R";have om:=iQ (i:=c/48) (j:=4) (by lia);obtain⟨o,ho,_⟩:=mD (L:=names) (i:=c/48%4) om.1 (by lia);refine⟨_,_,l0 _ _ gn8,ho,_,rfl,λv h0 h1=>λp2 hp2=>?_⟩;obtain⟨k',r,q1,hx,hs,hd,ht⟩:=rG (c/4) bx o h0 h1;rw[hkd'] at q1;cases q1;have l1:=l0.trans (aC.new (g:=GO.lst [W.tup [.str kd',.str bx,.str o,.int v]]) hp2);refine⟨_,_,af,l1 _ _ g8p,by simp only[length_map,length_cons,length_nil];lia,λp3 hp3=>?_⟩;have l2:=l1.trans (aC.new (g:=GO.lst ([W.tup [.str kd',.str bx,.str o,.int v]]++kr ps)) hp3);exact v7 _ r ps p3 _ _ _ _ l2 (bA (le9.trans l1) hp3) af (hx _) hs (by rw[hd];decide) (λy hy=>hy) (yby _) (by lia)
       have hW:(aT.of (dj (ps.take mn))).dt<3->ps.take mn≠[]->TT2 DD2 [some (.ref pc),some (.ref pn),some (.ref p),some (.int c),some (.str bx),some (.int (mn:Int)),some (.ref pb),some (.bl b),t8] G8:=λhdt hne=>by
        subst hTT2 hDD2 hDD hU2;refine aK λU3 hU3=>?_;have go:∀(pb':Addr) (G9:Gp) (qs:List (W×Row)),aC G8 G9->G9 pb'=some (.lst (kr qs))->cA G9 qs->iU (10^50) (aT.of (dj qs))->qs.length<=4->qs≠[]->(aT.of (dj qs)).dt<3->fi qs<=fi (ps.take mn)+1->U3 { nx:=k,rt:=λw G1=>∃G0,aC G0 G1/\q w G0,bk:=U { nx:=λx G1=>∃G0,aC G0 G1/\q W.non G0,rt:=λw G1=>∃G0,aC G0 G1/\q w G0 },ct:=k } [some (.ref pc),some (.ref pn),some (.ref p),some (.int c),some (.str bx),some (.int (mn:Int)),some (.ref pb'),some (.bl b),t8] G9:=λpb' G9 qs l0 gq hTq hSq hl4 hne hdq hzq=>by
         subst hU3;walk_at "R";refine⟨_,bx,pn,names,rfl,l0 _ _ gn8,hn4,λpm G1 ms l1 fm gm hm=>?_⟩;refine hcat _ (.whl bx (eA (dN ms)) (aT.of (dj qs))) G1 _ _ _ (l0.trans l1) (λG' l=> .whl (l _ _ (l1 _ _ gq)) (l _ _ gm) hm (cA.ths λz hz=>(hTq z hz).mono (aC.ls (l1.trans l)))) ⟨hSq,by rw[aT.L_of,length_map];exact hl4,by rw[aT.L_of];exact λz=>hne (by simpa using z),ms,hm,rfl⟩ (by show(aT.of (dj qs)).dt+1<=3;assumption) (by show gK _+1<=_;rw[iq];lia)
        walk_at "R";refine fh (λ_=>λp1 hp1=>?_) λ_=>go pb G8 (ps.take mn) (aC.refl _) g8 (λz hz=>hT8 z (mem_of_mem_take hz)) hst (by lia) hne hdt (by lia);have l1:=aC.new (g:=GO.lst [W.tup [W.str "less",.str bx,.str bx,.int 0]]) hp1;refine⟨_,_,af,l1 _ _ g8,by simp only[length_map,length_cons,length_nil];lia,λp2 hp2=>?_⟩;have l2:=l1.trans (aC.new (g:=GO.lst ([W.tup [W.str "less",.str bx,.str bx,.int 0]]++kr (ps.take mn))) hp2);refine go p2 _ ((W.tup [.str "less",.str bx,.str bx,.int 0],.less bx)::ps.take mn) l2 af (λz hz=>?_) ⟨trivial,hst⟩ (by rw[length_cons];lia) (λz=>nomatch z) ?_ ?_
        ·rcases mem_cons.mp hz with rfl | hz
         ·exact .less
         ·exact(hT8 z (mem_of_mem_take hz)).mono (aC.ls l2)
        ·show max 0 (aT.of (dj (ps.take mn))).dt<3;assumption
        ·show 1+fi (ps.take mn)<=_;lia
       walk_at "R";exact fh (λh1=>fh (λh2=>hW (hb h2).1 (hb h2).2) λ_=>hP) λ_=>hP
      have hM:(aT.of (dj (ps.take mn))).dt<3->ps.take mn≠[]->TT DD [some (.ref pc),some (.ref pn),some (.ref p),some (.int c),some (.str bx),some (.int (mn:Int)),some (.ref pb),some (.bl b),t8] G8:=λhdt hne=>by
       subst hTT hDD hU2;walk_at "R";exact hcat _ (.times bx (aT.of (dj (ps.take mn)))) G8 _ _ _ (aC.refl _) (λG' l=> .times (l _ _ g8) (hT3 _ l)) ⟨hst,by rw[aT.L_of,length_map];lia,by rw[aT.L_of];exact λz=>hne (by simpa using z)⟩ (by show(aT.of (dj (ps.take mn))).dt+1<=3;assumption) (by show gK _+1<=_;rw[iq];lia)
      walk_at "R";exact fh (λh1=>fh (λh2=>hM (hb h2).1 (hb h2).2) λ_=>hV) λ_=>hV
     walk_at "R";refine⟨_,.lst g2,?_⟩;refine fh (λh0=>?_) λ_=>fin false G2 (aC.refl _) (λz=>nomatch z);have hne:ps.take mn≠[]:=λz=>by rw[z] at h0;exact absurd h0 (by decide)
     refine⟨_,g2,fN (i:=1) (λp:W×Row=>p.1) (λp=> .int ((p.2.dt:Nat):Int)) (τ0:=[none,none,none]) g2 (λp hp k hk=>?_) (by show 0+_<=_;rw[length_take];lia) (λ_=>rfl) λp7 hp7=>?_⟩
     ·walk_at "R";have hm:=mem_of_mem_take hp;have:=hS p hm;exact⟨p.1,p.2,_,rfl,hT2 p hm,this.1,by lia,hk⟩
     ·refine⟨(dj (ps.take mn)).map λr=>((r.dt:Nat):Int),?_,λz=>hne (by simpa using z),?_⟩
      ·rw[af,nil_append];simp only[map_map]
       rfl
      ·have le8:=aC.new (g:=GO.lst ([]++List.map (λp:W×Row=>W.int ((p.2.dt:Nat):Int)) (List.take mn ps))) hp7;generalize aF G2 p7 (GO.lst ([]++List.map (λp:W×Row=>W.int ((p.2.dt:Nat):Int)) (List.take mn ps)))=G8 at le8 ⊢;exact wa (rs:=dj (ps.take mn)) (q:=λm=>U1 { nx:=k,rt:=λw G1=>∃G0,aC G0 G1/\q w G0,bk:=U { nx:=λx G1=>∃G0,aC G0 G1/\q W.non G0,rt:=λw G1=>∃G0,aC G0 G1/\q w G0 },ct:=k } [some (.ref pc),some (.ref pn),some (.ref p),some (.int c),some (.str bx),some (.int (mn:Int)),some (.ref pb),some (.bl (decide (m<3))),t8] G8) (fin _ G8 le8 λh=>⟨by have:=of_decide_eq_true h;lia,hne⟩)
noncomputable def wd (C:Cs) (d:Nat):bQ:=λws G q _=>∃(x:W) (r:Row),ws=[x]/\Th G x r/\sU (10^50) r/\tz r<=28/\r.dt<=3/\r.dt<d/\∀(a:Addr) (G':Gp),aC G G'->G a=none->kf C G' a r->q (.ref a) G'
theorem zT {ps:List (W×Row)} {x:W×Row} (h:x∈ps):tz x.2<=fi ps:=by
 have:=v0 (rs:=aT.of (dj ps)) x.2 (by rw[aT.L_of];exact mem_map.mpr ⟨x,h,rfl⟩);rw[iq] at this;exact this
theorem iV {C:Cs} {d:Nat} {G:Gp} {ps:List (W×Row)} {l:Addr} {Q:List W->Gp->Prop} {τ:cO} {n:Nat} (h:G l=some (.lst (kr ps))) (hT:cA G ps) (hS:Ea ps) (ht:fi ps<=28) (hdd:∀y,y∈ps->y.2.dt<d) (hl:ps.length<=100) (hτ:∀x,τ.set 1 x=(none::none::List.replicate n none).set 1 x) (hQ:∀xs G',aC G G'->Rows C G' xs->cJ xs=dj ps->Q (refs xs) G'):cq (λG=>G l=some (.lst (kr ps))) (cP 1) kS (gZ (wd C d) [] (qr (iB 1) lU)) (kr ps) τ G [] Q:=by
 refine nS (i:=1) (τ0:=none::none::List.replicate n none) (λws acc G'=>∃(todo:List (W×Row)) (xs:List (Addr×Row)),ws=kr todo/\acc=refs xs/\dj ps=cJ xs++dj todo/\(∀y,y∈todo->y∈ps)/\aC G G'/\Rows C G' xs) ?_ ?_ ⟨ps,[],rfl,rfl,rfl,λ_ h=>h,aC.refl _,(λ_ h=>(nomatch h))⟩ (by show 0+_<=_;rw[length_map];lia) hτ
 ·rintro acc G5 ⟨todo,xs,hw,rfl,hts,hin,le5,hX⟩;have h0:todo=[]:=by simpa using hw.symm
  subst h0;have hts:dj ps=cJ xs:=by rw[hts];exact append_nil _
  exact⟨le5 _ _ h,hQ xs G5 le5 hX hts.symm⟩
 ·rintro x ws acc G' k' ⟨todo,xs,hw,rfl,hts,hin,le,hX⟩ hkk;cases todo with
  | nil=>cases hw
  | cons u todo=>
    cases hw;refine⟨le _ _ h,?_⟩;have hxl:xs.length<=100:=by have:=congrArg List.length hts;simp only[length_map,length_append] at this;lia
    have hu:=hin u yaz;have su:=hS u hu;have zu:=zT hu;walk_at "R";refine⟨u.1,u.2,rfl,(hT u hu).mono (aC.ls le),su.1,by lia,su.2,hdd u hu,λa G'' le2 fa ha=>hkk _ _ ⟨todo,xs++[(a,u.2)],rfl,by simp[refs],by rw[hts];simp,λy hy=>hin y (yay _ hy),le.trans le2,λx hx=>?_⟩ (by simp only[length_map];lia)⟩;rcases mem_append.mp hx with hx | hx
    ·exact(hX x hx).mono (aC.ins le2)
    ·rw[mem_singleton.mp hx];exact ha
theorem wf {G:Gp} {ws:List W} {rs:aT Str} {d:Nat} (hs:mS G ws rs) (h1:iU (10^50) rs) (h2:gK rs<=28) (h3:rs.dt<=3) (h4:rs.dt<d):∃ps,ws=kr ps/\cA G ps/\Ea ps/\fi ps<=28/\(∀y,y∈ps->y.2.dt<d)/\lD rs/\rs.L=dj ps/\ED (Sk True) rs:=by
 obtain⟨ps,e,hL,hT⟩:=hs.psq;have er:aT.of (dj ps)=rs:=by rw[←hL,aT.of_L]
 have hm:∀y,y∈ps->y.2∈rs.L:=λy hy=>by rw[hL];exact mem_map.mpr ⟨y,hy,rfl⟩
 exact⟨ps,e,hT,λy hy=>⟨kj h1 _ (hm y hy),gL h3 _ (hm y hy)⟩,by rw[←iq,er];exact h2,λy hy=>Nat.lt_of_le_of_lt (gL (yby _) _ (hm y hy)) h4,(mU h1 h2 h3).2,hL,λr hr=>vU (im (jw rs h1 h2 h3) r hr)⟩
noncomputable def kI:ax->Int
 | .inl n=>n
 | .inr _=>0
theorem qg (ms:List (Int×Str)):[]++(((ms.map λm=>((Sum.inl m.1:ax),W.str m.2)).filter λ_=>true).map λp=>W.tup [.tup (aq (O.wh (kI p.1))),p.2])=ox (dN ms):=by
 rw[List.filter_eq_self.mpr (λ_ _=>rfl),nil_append,map_map,ox,dN,map_map]
 rfl
theorem GG {C:Cs} {d k:Nat} (F:cz K "_law_made" "_law_made" (aO 42) f fd) (F0:Fx P w K mg base "_law_made" ["_law_thing"] k (wd C d)) (F1:Fx P w K mg base "whole" ["n"] 3 kD) (N1:nH P w K mg base "Set" C.s ["self","box","amount"] 1 (jo C 0)) (N2:nH P w K mg base "Copy" C.c ["self","box","other"] 1 (jo C 1)) (N3:nH P w K mg base "Add" C.a ["self","box","other"] 1 (jo C 2)) (N4:nH P w K mg base "Less" C.l ["self","box"] 1 (jo C 3)) (N5:nH P w K mg base "Times" C.t ["self","box","rows"] 8 (BU C (Sk True))) (N6:nH P w K mg base "While" C.w ["self","box","marks","rows"] 8 (BV C (Sk True))) (hk9:9<=k):ca P w K mg base (k+1) f fd ["_law_thing"] (wd C (d+1)):=by
 refine dP F (N:=["_law_thing","_law_inner"]) (by walk_at "s") (by walk_at "l") λ_ _ _ _ _ _ nd hr=>?_;apply aJ
 ·refine' ac ?s1 (ac ?s2 (ac ?s3 (ac ?s4 (ac ?s5 ?s6))))
  case s1=>exact(bh (aL (bG hr) (aD aE (aa 0) ah) bq) (ac (av (eT N1 (aw.mono hr (by lia)) rfl (ae (aD aE (aa 0) ah) (ae (aD aE (aa 0) ah) ak)))) ag) ag)
  case s2=>exact(bh (aL (bG hr) (aD aE (aa 0) ah) bq) (ac (av (eT N2 (aw.mono hr (by lia)) rfl (ae (aD aE (aa 0) ah) (ae (aD aE (aa 0) ah) ak)))) ag) ag)
  case s3=>exact(bh (aL (bG hr) (aD aE (aa 0) ah) bq) (ac (av (eT N3 (aw.mono hr (by lia)) rfl (ae (aD aE (aa 0) ah) (ae (aD aE (aa 0) ah) ak)))) ag) ag)
  case s4=>exact(bh (aL (bG hr) (aD aE (aa 0) ah) bq) (ac (av (eT N4 (aw.mono hr (by lia)) rfl (ae (aD aE (aa 0) ah) ak))) ag) ag)
  case s5=>
   refine' ui 1 (d7 (by first | rfl | decide+kernel)) rfl (by assumption) rfl (by first | exact Or.inl rfl | exact Or.inr rfl) ?it (λ_ _ _ _=>?tg) (λ_ _ _ _=>?tt) (λ_ _ _ _=>?te)
   case it=>exact(ck (aD aE (aa 0) ah))
   case tg=>exact(ci 1 (by first | assumption | decide+kernel | rfl) rfl (.inl rfl))
   case tt=>exact du
   case te=>exact(aA F0 (aw.mono hr (by lia)) rfl (ae (aa 1) ak))
  case s6=>exact(ac (bh (aL (bG hr) (aD aE (aa 0) ah) bq) (ac (av (eT N5 (aw.mono hr hk9) rfl (ae (aD aE (aa 0) ah) (ae (aa 1) ak)))) ag) ag) (ac (av (eT N6 (aw.mono hr hk9) rfl (ae (aD aE (aa 0) ah) (ae (fK (d7 (by first | rfl | decide+kernel)) rfl (ck (aD aE (aa 0) ah)) (λ_ _ _ _=>(iF rfl (cf (ci 1 (by first | assumption | decide+kernel | rfl) rfl (.inl rfl)) (cf (ci 2 (by first | assumption | decide+kernel | rfl) rfl (.inl rfl)) fH)))) (λ_ _ _ _=>du) (λ_ _ _ _=>(bp (ae (aA F1 (aw.mono hr (by lia)) rfl (ae (aa 1) ak)) (ae (aa 2) ak))))) (ae (aa 1) ak))))) ag))
 ·rintro ws G q e ⟨x,r,rfl,hx,hs,hz,h3,hd,hq⟩;have fin:∀(r':Pl) (p:Addr) (G':Gp),r'.row=r->G p=none->G' p=some (.ins (C.at_ r'.kd) r'.fs)->(∀x,x≠p->G' x=aF G p (.ins (C.at_ r'.kd) []) x)->q (.ref p) G':=λr' p G' hk hp h1 h2=>by
   subst hk;refine hq p G' (λx g e=>?_) hp (r'.at h1);have xp:x≠p:=λz=>by rw[z,hp] at e;cases e
   rw[h2 x xp,ao xp];exact e
  cases hx with
  | set=>
    rename_i b o n;walk_at "a0";exact⟨_,rfl,λp hp=>⟨p,.set b n,rfl,rfl,af,λG' h1 h2=>⟨rfl,aC.done (fin (.set b n) p G' rfl hp h1 h2)⟩⟩⟩
  | copy=>
    rename_i b o n;walk_at "k0";refine aK λU hU=>?_
    try walk_at "t0"
    walk_at "R";exact λp hp=>⟨p,.copy b o,rfl,rfl,af,λG' h1 h2=>⟨rfl,aC.done (fin (.copy b o) p G' rfl hp h1 h2)⟩⟩
  | add=>
    rename_i b o n;walk_at "k0";walk_at "k0";refine aK λU hU=>?_
    try walk_at "t0"
    walk_at "R";exact λp hp=>⟨p,.add b o,rfl,rfl,af,λG' h1 h2=>⟨rfl,aC.done (fin (.add b o) p G' rfl hp h1 h2)⟩⟩
  | less=>
    rename_i b o n;walk_at "k0";walk_at "k0";walk_at "k0";refine aK λU hU=>?_
    try walk_at "t0"
    walk_at "R";exact λp hp=>⟨p,.less b,rfl,rfl,af,λG' h1 h2=>⟨rfl,aC.done (fin (.less b) p G' rfl hp h1 h2)⟩⟩
  | times h hs'=>
    rename_i b l ws rs;have z5:gK rs+1<=28:=hz;have d5:rs.dt+1<=3:=h3;have d6:rs.dt+1<d+1:=hd;obtain⟨ps,rfl,hT,hS,ht,hdd,z,hL,hkd⟩:=wf (d:=d) hs' hs.1 (by lia) (by lia) (by lia);have hl3:=hs.2.1;rw[hL,length_map] at hl3;have er:aT.of (dj ps)=rs:=by rw[←hL,aT.of_L]
    walk_at "k0";walk_at "k0";walk_at "k0";walk_at "k0";refine aK λU hU=>?_
    try walk_at "t0"
    walk_at "R";refine⟨_,h,iV (n:=1) h hT hS ht hdd (by lia) (λ_=>rfl) λxs G5 le5 hX hts pm _ hpm=>?_⟩;have gm6:=af (G:=G5) (a:=pm) (g:=GO.lst (refs xs));have le6:=le5.trans (aC.new (g:=GO.lst (refs xs)) hpm);have hX6:Rows C (aF G5 pm (GO.lst (refs xs))) xs:=hX.mono (aC.ins (aC.new hpm));have fpm:=bA le5 hpm;generalize aF G5 pm (GO.lst (refs xs))=G6 at gm6 le6 hX6 ⊢;have ers:aT.of (xs.map (·.2))=rs:=by rw[show xs.map (·.2)=dj ps from hts];exact er
    walk_at "a";intro pt hpt;refine⟨pt,_,pm,xs,rfl,af,aP gm6 hpt,hX6.mono (aC.ins (aC.new hpt)),by rw[ers];exact z,by rw[ers];exact hkd,λG7 g7 k7=>⟨rfl,?_⟩⟩;have le7:aC G6 G7:=λx g e=>(k7 x (λz=>by rw[z,hpt] at e;cases e)).trans (aP e hpt);have hA:=(hX6.mono (aC.ins le7)).ats;rw[ers] at g7 hA;exact aC.done (hq pt _ (le6.trans le7) (bA le6 hpt) (.times g7 hA))
  | whl h hm ok hs'=>
    rename_i b l m ms ws rs;have z5:gK rs+1<=28:=hz;have d5:rs.dt+1<=3:=h3;have d6:rs.dt+1<d+1:=hd;obtain⟨ps,rfl,hT,hS,ht,hdd,z,hL,hkd⟩:=wf (d:=d) hs' hs.1 (by lia) (by lia) (by lia);have hl3:=hs.2.1;rw[hL,length_map] at hl3;have er:aT.of (dj ps)=rs:=by rw[←hL,aT.of_L]
    walk_at "k0";walk_at "k0";walk_at "k0";walk_at "k0";refine aK λU hU=>?_
    try walk_at "t0"
    walk_at "R";refine⟨_,h,iV (n:=1) h hT hS ht hdd (by lia) (λ_=>rfl) λxs G5 le5 hX hts pm _ hpm=>?_⟩;have gm6:=af (G:=G5) (a:=pm) (g:=GO.lst (refs xs));have le6:=le5.trans (aC.new (g:=GO.lst (refs xs)) hpm);have hX6:Rows C (aF G5 pm (GO.lst (refs xs))) xs:=hX.mono (aC.ins (aC.new hpm));have fpm:=bA le5 hpm;generalize aF G5 pm (GO.lst (refs xs))=G6 at gm6 le6 hX6 ⊢;have ers:aT.of (xs.map (·.2))=rs:=by rw[show xs.map (·.2)=dj ps from hts];exact er
    subst hU;walk_at "R";refine⟨_,eL (j:=3) rfl,?_⟩;dsimp only;have hm6:=le6 _ _ hm;refine⟨_,hm6,?_⟩;have ez:sM ms=(ms.map λm=>((Sum.inl m.1:ax),W.str m.2)).map λp=> .tup [kW p.1,p.2]:=by rw[map_map];rfl
    rw[ez] at hm6 ⊢;have h5:=ok.1;refine gJ (pr:=λ_=>true) (f:=λp=> .tup [.tup (aq (O.wh (kI p.1))),p.2]) (τ0:=[none,none,none,none]) hm6 (λp hp k hk=>hk) (λp hp k hk=>?_) (by simp only[length_nil,length_map];lia) (λ_ _=>rfl) ?_
    ·obtain⟨x,hx,rfl⟩:=mem_map.mp hp;walk_at "R";exact⟨x.1,rfl,(ok.2 x hx).1,hk⟩
    rw[qg];intro pk hpk pt hpt;have gk7:=af (G:=G6) (a:=pk) (g:=GO.lst (ox (dN ms)));have l7:=aC.new (g:=GO.lst (ox (dN ms))) hpk;have fpk:=bA le6 hpk;have le7:=le6.trans l7;have gm7:=l7 _ _ gm6;have hX7:=hX6.mono (aC.ins l7);generalize aF G6 pk (GO.lst (ox (dN ms)))=G7 at gk7 l7 le7 gm7 hX7 hpt ⊢;refine⟨pt,b,pk,pm,dN ms,xs,rfl,af,aP gk7 hpt,by rw[dN,length_map];lia,λx hx=>?_,aP gm7 hpt,hX7.mono (aC.ins (aC.new hpt)),by rw[ers];exact z,by rw[ers];exact hkd,λG8 g8 k8=>⟨rfl,?_⟩⟩
    ·obtain⟨y,hy,rfl⟩:=mem_map.mp hx;exact(Wb.wh (ok.2 y hy).1).dp
    have le8:aC G7 G8:=λx g e=>(k8 x (λz=>by rw[z,hpt] at e;cases e)).trans (aP e hpt);have hA:=(hX7.mono (aC.ins le8)).ats;rw[ers] at g8 hA;exact aC.done (hq pt _ (le7.trans le8) (bA le7 hpt) (.whl g8 hA))
theorem Ec {C:Cs} (T:Txt K mg) (F1:Fx P w K mg base "whole" ["n"] 3 kD) (N1:nH P w K mg base "Set" C.s ["self","box","amount"] 1 (jo C 0)) (N2:nH P w K mg base "Copy" C.c ["self","box","other"] 1 (jo C 1)) (N3:nH P w K mg base "Add" C.a ["self","box","other"] 1 (jo C 2)) (N4:nH P w K mg base "Less" C.l ["self","box"] 1 (jo C 3)) (N5:nH P w K mg base "Times" C.t ["self","box","rows"] 8 (BU C (Sk True))) (N6:nH P w K mg base "While" C.w ["self","box","marks","rows"] 8 (BV C (Sk True))):∀d:Nat,Fx P w K mg base "_law_made" ["_law_thing"] (d+9) (wd C d)
 | 0=>T.d__law_made.fx λf fd F=>ca.none λws G q e ⟨t,_,_,_,_,_,_,h,_⟩=>by lia
 | d+1=>T.d__law_made.fx λf fd F=>GG F (Ec T F1 N1 N2 N3 N4 N5 N6 d) F1 N1 N2 N3 N4 N5 N6 (by lia)
noncomputable def yZ:bQ:=λws G q _=>∃(x:W) (r:Row) (d:Addr) (kvs:List (ax×W)),ws=[x,.ref d]/\Th G x r/\kd r<4/\G d=some (.dic kvs)/\kg kvs/\kvs.length<=1000/\q .non (aF G d (.dic (dY kvs r)))
theorem GH (F:cz K "_law_done" "_law_done" (aO 43) f fd) (mm:mg "max"=none):ca P w K mg base 1 f fd ["_law_thing","_law_having"] yZ:=by
 refine dP F (N:=["_law_thing","_law_having","_law_here"]) (by walk_at "s") (by walk_at "l") λ_ _ _ _ _ _ nd hr=>?_;apply aJ
 ·exact(ac (aR 2 nd rfl (.inl rfl) (eY (aa 1) (aD aE (aa 0) ah) ah)) (ac (bh (aL (bG hr) (aD aE (aa 0) ah) bq) (ac (cy (aD aE (aa 0) ah) (aa 1) (aD aE (aa 0) ah)) ag) ag) (ac (bh (aL (bG hr) (aD aE (aa 0) ah) bq) (ac (cy (eY (aa 1) (aD aE (aa 0) ah) ah) (aa 1) (aD aE (aa 0) ah)) ag) ag) (ac (bh (aL (bG hr) (aD aE (aa 0) ah) bq) (ac (cy (aS bZ (aa 2) (eY (aa 1) (aD aE (aa 0) ah) ah)) (aa 1) (aD aE (aa 0) ah)) ag) ag) (ac (bh (aL (bG hr) (aD aE (aa 0) ah) bq) (ac (cy (bU (lZ rfl) rfl mm qz (ae (aS jI (aa 2) ah) (ae ah ak))) (aa 1) (aD aE (aa 0) ah)) ag) ag) ag)))))
 ·rintro ws G q e ⟨x,r,d,kvs,rfl,hx,hk,hd,hi,hl,hq⟩;cases hx with
  | set=>
    rename_i b o n;walk_at "a0";refine⟨⟨_,hd⟩,b,kvs,rfl,hd,?_⟩;rw[hi.get b];subst hU;refine aK λU hU=>?_;walk_at "t0";walk_at "R";refine⟨.int n,rfl,d,b,kvs,rfl,rfl,hd,by lia,?_⟩;subst hU;walk_at "k0";walk_at "k0";walk_at "R";exact aC.done hq
  | copy=>
    rename_i b o n;walk_at "a0";refine⟨⟨_,hd⟩,b,kvs,rfl,hd,?_⟩;rw[hi.get b];subst hU;walk_at "k0";refine aK λU hU=>?_;walk_at "t0";walk_at "R";refine⟨⟨_,hd⟩,o,kvs,rfl,hd,?_⟩;rw[hi.get o];refine⟨d,b,kvs,rfl,rfl,hd,by lia,?_⟩;subst hU;walk_at "k0";walk_at "R";exact aC.done hq
  | add=>
    rename_i b o n;walk_at "a0";refine⟨⟨_,hd⟩,b,kvs,rfl,hd,?_⟩;rw[hi.get b];subst hU;walk_at "k0";walk_at "k0";refine aK λU hU=>?_;walk_at "t0";walk_at "R";refine⟨⟨_,hd⟩,o,kvs,rfl,hd,?_⟩;rw[hi.get o];walk_at "R";refine⟨d,b,kvs,rfl,rfl,hd,by lia,?_⟩;subst hU;walk_at "R";exact aC.done hq
  | less=>
    rename_i b o n;walk_at "a0";refine⟨⟨_,hd⟩,b,kvs,rfl,hd,?_⟩;rw[hi.get b];subst hU;walk_at "k0";walk_at "k0";walk_at "k0";walk_at "R";refine⟨d,b,kvs,rfl,rfl,hd,by lia,?_⟩;exact aC.done hq
  | times h hs=>exact absurd hk (by simp[kd])
  | whl h hm ok hs=>exact absurd hk (by simp[kd])
theorem wg (x:ax):bI [] x=none:=rfl
theorem dC (p:ax×W) (kvs:List (ax×W)) (x:ax):bI (p::kvs) x=if p.1=x then some p.2 else bI kvs x:=by
 unfold bI;rw[List.find?_cons]
 by_cases e:p.1=x
 ·simp[e]
 ·simp[e]
theorem kn {k x:ax} {w:W} (hx:x≠k):∀kvs:List (ax×W),bI (kvs.map λkv=>if kv.1=k then (kv.1,w) else kv) x=bI kvs x
 | []=>rfl
 | p::kvs=>by
   rw[map_cons,dC,dC,kn hx kvs]
   by_cases e:p.1=k
   ·rw[ycx e];have:p.1≠x:=λz=>hx (z.symm.trans e);show(if p.1=x then _ else _)=_;rw[ybv this,ybv this]
   ·rw[ybv e]
theorem ko {k:ax} {w:W}:∀kvs:List (ax×W),(kvs.any λkv=>decide (kv.1=k))=true->bI (kvs.map λkv=>if kv.1=k then (kv.1,w) else kv) k=some w
 | [],h=>by cases h
 | p::kvs,h=>by
   rw[map_cons,dC]
   by_cases e:p.1=k
   ·rw[ycx e];show(if p.1=k then some w else _)=_;rw[ycx e]
   ·rw[ybv e,ybv e];rw[any_cons,ycz e,Bool.false_or] at h;exact ko kvs h
theorem oF (k x:ax) (w:W):∀kvs:List (ax×W),(kvs.any λkv=>decide (kv.1=k))=false->bI (kvs++[(k,w)]) x=if x=k then some w else bI kvs x
 | [],_=>by
   rw[nil_append,dC,wg]
   by_cases e:k=x
   ·rw[ycx e,ycx e.symm]
   ·rw[ybv e,ybv (λz=>e z.symm)]
 | p::kvs,h=>by
   rw[any_cons,Bool.or_eq_false_iff] at h;rw[cons_append,dC,dC,oF k x w kvs h.2];have h1:p.1≠k:=of_decide_eq_false h.1
   by_cases e:p.1=x
   ·rw[ycx e,ycx e,ybv (λz=>h1 (e.trans z))]
   ·rw[ybv e,ybv e]
theorem y0 (kvs:List (ax×W)) (k x:ax) (w:W):bI (bO kvs k w) x=if x=k then some w else bI kvs x:=by
 unfold bO;split
 ·rename_i h
  by_cases e:x=k
  ·rw[ycx e,e];exact ko kvs h
  ·rw[ybv e];exact kn e kvs
 ·rename_i h;exact oF k x w kvs (Bool.eq_false_iff.mpr h)
noncomputable def wj (kvs:List (ax×W)):Prop:=(kvs.map (·.1)).Nodup
noncomputable def Ed (kvs:List (ax×W)):Prop:=∀p,p∈kvs->∃z:Str,p.1=.inr z
theorem wj.put {kvs:List (ax×W)} (h:wj kvs) (k:ax) (w:W):wj (bO kvs k w):=by
 unfold wj bO at*;split
 ·rw[map_map];have:kvs.map ((λx:ax×W=>x.1) ∘ λkv=>if kv.1=k then (kv.1,w) else kv)=kvs.map (·.1):=List.map_congr_left λx _=>by
   show(if x.1=k then (x.1,w) else x).1=x.1;split<;> rfl
  rw[this];exact h
 ·rename_i e;rw[map_append,List.nodup_append];refine⟨h,by simp,λa ha b hb z=>e ?_⟩;obtain⟨x,hx,rfl⟩:=mem_map.mp ha;rw[mem_singleton.mp hb] at z;exact List.any_eq_true.mpr ⟨x,hx,ycw z⟩
theorem Ed.put {kvs:List (ax×W)} (h:Ed kvs) (k:Str) (w:W):Ed (bO kvs (.inr k) w):=by
 unfold bO;split
 ·intro p hp;obtain⟨x,hx,rfl⟩:=mem_map.mp hp;obtain⟨z,hz⟩:=h x hx;refine⟨z,?_⟩;split<;> exact hz
 ·intro p hp;rcases mem_append.mp hp with hp | hp
  ·exact h p hp
  ·rw[mem_singleton.mp hp];exact⟨k,rfl⟩
theorem wj.val {kvs:List (ax×W)} (h:wj kvs) {p:ax×W} (hp:p∈kvs):bI kvs p.1=some p.2:=by
 unfold wj at h
 induction kvs with
 | nil=>cases hp
 | cons x kvs ih=>
   rw[map_cons,nodup_cons] at h;unfold bI;rw[List.find?_cons];rcases mem_cons.mp hp with rfl | hp
   ·rw[ycw rfl];rfl
   ·rw[ycz (λz=>h.1 (by rw[z];exact mem_map.mpr ⟨p,hp,rfl⟩))];exact ih h.2 hp
theorem sO {kvs:List (ax×W)} {k:ax} {w:W} {e:ax×W} (h:e∈bO kvs k w):e∈kvs∨e.1=k:=by
 unfold bO at h;split at h
 ·obtain⟨x,hx,rfl⟩:=mem_map.mp h;split
  ·rename_i z;exact .inr z
  ·exact .inl hx
 ·rcases mem_append.mp h with h | h
  ·exact .inl h
  ·rw[mem_singleton.mp h];exact .inr rfl
structure sV (g:Str->Int) (done:List (Int×Str)) (kv:List (ax×W)):Prop where
 v:∀e:Int,bI kv (.inl e)=if e∈done.map (·.1) then some (.int (di g (bM (dN done) (O.wh e)))) else none
 k:∀p,p∈kv->∃n:Int,p.1=.inl n
 l:kv.length<=done.length
 n:wj kv
theorem sV.put {g:Str->Int} {done:List (Int×Str)} {kv:List (ax×W)} (h:sV g done kv) (h0:∀m,m∈done->0<=m.1) {m:Int×Str} (hm:0<=m.1):sV g (done++[m]) (bO kv (.inl m.1) (.int ((match bI kv (.inl m.1) with | some (.int n)=>n | _=>0)+g m.2))):=by
 have es:dN (done++[m])=dN done++[(O.wh m.1,m.2)]:=by unfold dN;rw[map_append];rfl
 refine⟨λe=>?_,λp hp=>?_,?_,h.n.put _ _⟩
 ·rw[y0,es,gG,nN]
  by_cases e1:e=m.1
  ·subst e1;rw[ycx rfl,ycx (by simp),ycx rfl,h.v]
   by_cases e2:m.1∈done.map (·.1)
   ·rw[ycx e2];simp[di]
   ·rw[ybv e2];have:bM (dN done) (O.wh m.1)=[]:=eX λz=>e2 (by
     obtain⟨x,hx,ex⟩:=mem_map.mp z;obtain⟨y,hy,rfl⟩:=mem_map.mp hx;rw[←mz (h0 y hy) hm ex];exact mem_map.mpr ⟨y,hy,rfl⟩)
    rw[this];simp[di]
  ·rw[ybv (λz=>e1 (Sum.inl.inj z)),h.v]
   by_cases e2:e∈done.map (·.1)
   ·have he:0<=e:=by
     obtain⟨y,hy,rfl⟩:=mem_map.mp e2;exact h0 y hy
    rw[ycx e2,ycx (by simp only[map_append,mem_append];exact .inl e2),ybv (λz=>e1 (mz hm he z).symm)];simp[di]
   ·rw[ybv e2,ybv (by simp only[map_append,mem_append,map_cons,map_nil,mem_singleton];exact λz=>z.elim e2 e1)]
 ·rcases sO hp with hp | hp
  ·exact h.k p hp
  ·exact⟨_,hp⟩
 ·have:=cN kv (.inl m.1) (W.int ((match bI kv (.inl m.1) with | some (.int n)=>n | _=>0)+g m.2));have:=h.l;rw[length_append];show _<=done.length+1;lia
noncomputable def sW (kv:List (ax×W)) (e:Int):Int:=match bI kv (.inl e) with | some (.int n)=>n | _=>0
noncomputable def GI (kv:List (ax×W)):Prop:=∀e:Int,(bI kv (.inl e)).getD (.int 0)=.int (sW kv e)
theorem sV.ok {g:Str->Int} {ms:List (Int×Str)} {kv:List (ax×W)} (h:sV g ms kv):GI kv:=λe=>by
 unfold sW;rw[h.v e];split<;> rfl
theorem sV.at {g:Str->Int} {ms:List (Int×Str)} {kv:List (ax×W)} (h:sV g ms kv) (hm:wG ms) {e:Int} (he:0<=e):sW kv e=sS g ms e:=by
 unfold sW sS;rw[h.v e]
 by_cases h1:e∈ms.map (·.1)
 ·rw[ycx h1]
 ·rw[ybv h1,eX (λz=>?_)]
  ·rfl
  ·obtain⟨x,hx,ex⟩:=mem_map.mp z;obtain⟨y,hy,rfl⟩:=mem_map.mp hx;have e1:y.1=e:=mz (hm.2 y hy).1 he ex;exact h1 (mem_map.mpr ⟨y,hy,e1⟩)
theorem kq {f g f' g':Int->Int}:∀{ks:List Int},(∀e,e∈ks->f e=f' e/\g e=g' e)->iO f g ks=iO f' g' ks
 | [],_=>rfl
 | e::ks,h=>by
   obtain⟨h1,h2⟩:=h e yaz;have ih:=kq (ks:=ks) λx hx=>h x (yay _ hx);unfold iO;rw[h1,h2,ih]
theorem sV.below {g g0:Str->Int} {ms:List (Int×Str)} {kv lv:List (ax×W)} (h:sV g ms kv) (h0:sV g0 ms lv) (hm:wG ms) (hg:∀x,0<=g x) (hg0:∀x,0<=g0 x):iO (sW kv) (sW lv) e4=true↔O.cmp (bH g (eA (dN ms))) (bH g0 (eA (dN ms)))<0:=by
 rw[←xZ hg hg0 (λm hx=>hm.2 m hx)];have hp:∀e,e∈e4->0<=e:=by decide
 rw[kq λe he=>⟨h.at hm (hp e he),h0.at hm (hp e he)⟩]
theorem sP (f g:Int->Int) (e:Int) (ks:List Int):iO f g (e::ks)=if f e≠g e then decide (f e<g e) else iO f g ks:=rfl
noncomputable def B3:bQ:=λws G q _=>∃(a b:Addr) (kv lv:List (ax×W)),ws=[.ref a,.ref b]/\G a=some (.dic kv)/\G b=some (.dic lv)/\GI kv/\GI lv/\q (.bl (iO (sW kv) (sW lv) e4)) G
theorem y6 (i:Nat) (h:i<5):e4.drop i=(4+(i:Int)* -1)::e4.drop (i+1):=by
 have:i=0∨i=1∨i=2∨i=3∨i=4:=by lia
 rcases this with rfl | rfl | rfl | rfl | rfl<;> rfl
theorem GJ (F:cz K "_law_below" "_law_below" (aO 44) f fd) (mr:mg "range"=none):ca P w K mg base 1 f fd ["_law_one","_law_other"] B3:=by
 refine dP F (N:=["_law_one","_law_other","_law_exponent"]) (by walk_at "s") (by walk_at "l") λ_ _ _ _ _ _ nd hr=>?_;apply aJ
 ·refine' ac (dG PassesOwn.never rfl ?it ?tg (cV (bh (aL (ff hr) (show QE _ _ (gH _ _ _) from fC ?a1 ?a2 ?a3) (show QE _ _ (gH _ _ _) from fC ?b1 ?b2 ?b3)) (cV (av (eN (kT hr) (show QE _ _ (gH _ _ _) from fC ?c1 ?c2 ?c3) (show QE _ _ (gH _ _ _) from fC ?d1 ?d2 ?d3)))) ag))) ?s2
  case it=>exact(sj rfl mr (ae ah (ae (eS ah) (ae (eS ah) ak))))
  case tg=>exact(bT 2 nd rfl (.inl rfl))
  case a1=>exact(aa 0)
  case a2=>exact(aa 2)
  case a3=>exact ah
  case b1=>exact(aa 1)
  case b2=>exact(aa 2)
  case b3=>exact ah
  case c1=>exact(aa 0)
  case c2=>exact(aa 2)
  case c3=>exact ah
  case d1=>exact(aa 1)
  case d2=>exact(aa 2)
  case d3=>exact ah
  case s2=>exact(ac (av cK) ag)
 ·rintro ws G q e ⟨a,b,kv,lv,rfl,ha,hb,oka,okb,hq⟩;walk_at "a0";refine⟨.inr (by decide),?_⟩;rw[show(nB 4 (-1) (-1)).toNat=5 by decide];refine vf 4 (-1) 5 (λi τ G'=>G'=G/\∃t2,τ=[some (.ref a),some (.ref b),t2]/\iO (sW kv) (sW lv) e4=iO (sW kv) (sW lv) (e4.drop i)) ⟨rfl,none,rfl,rfl⟩ ?_ ?_
  ·rintro τ G' ⟨rfl,t2,rfl,hc⟩;refine⟨trivial,?_⟩;subst hU;walk_at "R";rw[hc] at hq;exact aC.done hq
  ·rintro i τ G' kk hi ⟨rfl,t2,rfl,hc⟩ hk;refine⟨trivial,?_⟩;rw[y6 i hi] at hc;generalize (4+(i:Int)* -1)=v at hc ⊢;rw[sP] at hc;walk_at "R";simp only[gH];walk_at "R";refine⟨⟨kv,ha⟩,v,kv,rfl,ha,⟨lv,hb⟩,v,lv,rfl,hb,?_⟩;rw[oka v,okb v];walk_at "R";refine fh (λh1=>?_) λh1=>?_
   ·refine⟨⟨kv,ha⟩,v,kv,rfl,ha,⟨lv,hb⟩,v,lv,rfl,hb,?_⟩;rw[oka v,okb v]
    try dsimp only
    walk_at "R";rw[ycx h1] at hc;rw[hc] at hq;exact aC.done hq
   ·rw[ybv h1] at hc;exact hk _ _ ⟨rfl,_,rfl,hc⟩
noncomputable def eF (L:Nat) (o r:Bool):List (ax×W):=[(.inr "left",.int (L:Int)),(.inr "out",.bl o),(.inr "refused",.bl r)]
theorem jx (L:Nat) (o r:Bool):bI (eF L o r) (.inr "left")=some (.int (L:Int)):=by simp[eF,bI]
theorem wk (L:Nat) (o r:Bool):bI (eF L o r) (.inr "out")=some (.bl o):=by
 have h:(("left":Str)="out")=False:=by simp only[eq_iff_iff,iff_false];decide
 simp[eF,bI,List.find?_cons,h]
theorem gM (L:Nat) (o r:Bool):bI (eF L o r) (.inr "refused")=some (.bl r):=by
 have h:(("left":Str)="refused")=False:=by simp only[eq_iff_iff,iff_false];decide
 have h2:(("out":Str)="refused")=False:=by simp only[eq_iff_iff,iff_false];decide
 simp[eF,bI,List.find?_cons,h,h2]
theorem Ef (L L':Nat) (o r:Bool):bO (eF L o r) (.inr "left") (.int (L':Int))=eF L' o r:=by
 have h:(("out":Str)="left")=False:=by simp only[eq_iff_iff,iff_false];decide
 have h2:(("refused":Str)="left")=False:=by simp only[eq_iff_iff,iff_false];decide
 simp[eF,bO,h,h2]
theorem Eg (L:Nat) (o o' r:Bool):bO (eF L o r) (.inr "out") (.bl o')=eF L o' r:=by
 have h:(("left":Str)="out")=False:=by simp only[eq_iff_iff,iff_false];decide
 have h2:(("refused":Str)="out")=False:=by simp only[eq_iff_iff,iff_false];decide
 simp[eF,bO,h,h2]
theorem Eh (L:Nat) (o r r':Bool):bO (eF L o r) (.inr "refused") (.bl r')=eF L o r':=by
 have h:(("left":Str)="refused")=False:=by simp only[eq_iff_iff,iff_false];decide
 have h2:(("out":Str)="refused")=False:=by simp only[eq_iff_iff,iff_false];decide
 simp[eF,bO,h,h2]
noncomputable def wm:bQ:=λws G q _=>∃(r:Addr) (L:Nat),ws=[.ref r]/\G r=some (.dic (eF L false false))/\(L=0->q (.bl false) (aF G r (.dic (eF 0 true false))))/\(∀L',L=L'+1->q (.bl true) (aF G r (.dic (eF L' false false))))
theorem GK (F:cz K "_law_spent" "_law_spent" (aO 45) f fd):ca P w K mg base 1 f fd ["_law_run"] wm:=by
 refine dP F (N:=["_law_run"]) (by walk_at "s") (by walk_at "l") λ_ _ _ _ _ _ nd hr=>?_;apply aJ
 ·exact(ac (bh (aL (bG hr) (aD aE (aa 0) bq) ah) (ac (cy cK (aa 0) bq) (ac (av cK) ag)) ag) (ac (cy (aS jI (aD aE (aa 0) bq) ah) (aa 0) bq) (ac (av cK) ag)))
 ·rintro ws G q e ⟨r,L,rfl,hr,h0,h1⟩;have hlen:(eF L false false).length<=99999:=by show 3<=_;decide
  walk_at "R";refine⟨_,_,.inl hr,jx _ _ _,?_⟩;walk_at "R";refine fh (λhz=>?_) λhz=>?_
  ·have hL:L=0:=by lia
   refine⟨r,_,_,rfl,rfl,hr,hlen,?_⟩;rw[Eg,hL];exact aC.done (h0 hL)
  ·obtain⟨L',rfl⟩:∃L',L=L'+1:=⟨L-1,by lia⟩;refine⟨_,_,.inl hr,jx _ _ _,?_⟩;walk_at "R";refine⟨r,_,_,rfl,rfl,hr,hlen,?_⟩;rw[show((L'+1:Nat):Int)-1=((L':Nat):Int) by lia,Ef];exact aC.done (h1 L' rfl)
noncomputable def eh (s:List Row×List (ax×W)) (n:Nat):Prop:=∀k,k<n->(aV s k).1≠[]/\¬io (aV s k)
theorem eh.succ {s:List Row×List (ax×W)} {n:Nat} (h:eh s n) (h1:(aV s n).1≠[]) (h2:¬io (aV s n)):eh s (n+1):=λk hk=>by
 rcases Nat.lt_succ_iff_lt_or_eq.mp hk with z | z
 ·exact h k z
 ·subst z;exact⟨h1,h2⟩
theorem ir {s:List Row×List (ax×W)} {n:Nat} {r:Row} {st:List Row} {kvs:List (ax×W)} (h:aV s n=(r::st,kvs)):aV s (n+1)=(dr kvs r++st,dY kvs r):=by
 show lL (aV s n)=_;rw[h]
 rfl
theorem fc {s:List Row×List (ax×W)} {n:Nat} {r:Row} {st:List Row} {kvs:List (ax×W)} (h:aV s n=(r::st,kvs)):(aV s n).1≠[]:=by
 rw[h];exact List.cons_ne_nil _ _
theorem iW {s:List Row×List (ax×W)} {n:Nat} {r:Row} {st:List Row} {kvs:List (ax×W)} (h:aV s n=(r::st,kvs)):io (aV s n)=cT kvs r:=by
 rw[h]
 rfl
structure rH (s:List Row×List (ax×W)):Prop where
 bx:∀i,i<=60->∃B:Int,dy B (aV s i).2/\0<=B
 kl:∀i,i<=60->(aV s i).2.length<=200
noncomputable def Kp (b r:Addr) (G G':Gp):Prop:=∀x g,x≠b->x≠r->G x=some g->G' x=some g
theorem Kp.refl (b r:Addr) (G:Gp):Kp b r G G:=λ_ _ _ _ e=>e
theorem Kp.trans {b r:Addr} {G G1 G2:Gp} (h:Kp b r G G1) (k:Kp b r G1 G2):Kp b r G G2:=λx g h1 h2 e=>k x g h1 h2 (h x g h1 h2 e)
theorem Kp.of {b r:Addr} {G G':Gp} (h:aC G G'):Kp b r G G':=λx g _ _ e=>h x g e
theorem Kp.r (b r:Addr) (G:Gp) (g:GO):Kp b r G (aF G r g):=λx g _ h e=>(ao h).trans e
theorem Kp.b (b r:Addr) (G:Gp) (g:GO):Kp b r G (aF G b g):=λx g h _ e=>(ao h).trans e
theorem Kp.at {b r l:Addr} {G G':Gp} {kv kw:List (ax×W)} {ws:List W} (h:Kp b r G G') (hb:G b=some (.dic kv)) (hr:G r=some (.dic kw)) (hl:G l=some (.lst ws)):G' l=some (.lst ws):=
 h l _ (λz=>by rw[z,hb] at hl;cases hl) (λz=>by rw[z,hr] at hl;cases hl) hl
theorem Kp.ls {b r:Addr} {G G':Gp} {kv kw:List (ax×W)} (h:Kp b r G G') (hb:G b=some (.dic kv)) (hr:G r=some (.dic kw)):vZ G G':=λ_ _ e=>h.at hb hr e
structure B4 (s:List Row×List (ax×W)) (bt:List Row) (b r:Addr) (L:Nat) (G:Gp) (q:WK):Prop where
 yes:∀(G':Gp) (kvs:List (ax×W)) (L':Nat),Kp b r G G'->G' b=some (.dic kvs)->G' r=some (.dic (eF L' false false))->L'<=L->aV s (60-L')=(bt,kvs)->eh s (60-L')->q (.bl true) G'
 out:∀(G':Gp) (kvs:List (ax×W)),Kp b r G G'->G' b=some (.dic kvs)->G' r=some (.dic (eF 0 true false))->eh s 60->(aV s 60).1≠[]->q (.bl false) G'
 bad:∀(G':Gp) (kvs:List (ax×W)) (L' n:Nat),Kp b r G G'->G' b=some (.dic kvs)->G' r=some (.dic (eF L' false true))->n<60->eh s n->io (aV s n)->q (.bl false) G'
noncomputable def wo (d:Nat):bQ:=λws G q _=>∃(l b r:Addr) (ps:List (W×Row)) (bt:List Row) (kvs:List (ax×W)) (L:Nat) (s:List Row×List (ax×W)),ws=[.ref l,.ref b,.ref r]/\b≠r/\G l=some (.lst (kr ps))/\cA G ps/\(∀y,y∈ps->y.2.dt<=d)/\G b=some (.dic kvs)/\G r=some (.dic (eF L false false))/\rH s/\L<=60/\aV s (60-L)=(dj ps++bt,kvs)/\eh s (60-L)/\B4 s bt b r L G q
noncomputable def Ei (d:Nat):bQ:=λws G q _=>∃(bx:Str) (l b r:Addr) (us:List W) (rs:aT Str) (bt:List Row) (kvs:List (ax×W)) (L:Nat) (s:List Row×List (ax×W)),ws=[.tup [.str "times",.str bx,.ref l],.ref b,.ref r]/\b≠r/\G l=some (.lst us)/\mS G us rs/\rs.dt+1<=d/\G b=some (.dic kvs)/\G r=some (.dic (eF L false false))/\rH s/\L<=60/\aV s (60-L)=(.count rs (bd kvs bx)::bt,kvs)/\eh s (60-L)/\B4 s bt b r L G q
noncomputable def Ej (d:Nat):bQ:=λws G q _=>∃(bx:Str) (l m b r:Addr) (us:List W) (ms:List (Int×Str)) (rs:aT Str) (bt:List Row) (kvs:List (ax×W)) (L:Nat) (s:List Row×List (ax×W)),ws=[.tup [.str "while",.str bx,.ref l,.ref m],.ref b,.ref r]/\b≠r/\G l=some (.lst us)/\G m=some (.lst (sM ms))/\wG ms/\mS G us rs/\rs.dt+1<=d/\G b=some (.dic kvs)/\G r=some (.dic (eF L false false))/\rH s/\L+1<=60/\aV s (59-L)=(.whl bx (eA (dN ms)) rs::bt,kvs)/\eh s (59-L)/\B4 s bt b r L G q
theorem GL {d k:Nat} (F:cz K "_law_times" "_law_times" (aO 47) f fd) (F1:Fx P w K mg base "_law_spent" ["_law_run"] 1 wm) (F2:Fx P w K mg base "_law_do" ["_law_rows_here","_law_having","_law_run"] k (wo d)) (hk:1<=k):ca P w K mg base (k+1) f fd ["_law_thing","_law_having","_law_run"] (Ei (d+1)):=by
 refine dP F (N:=["_law_thing","_law_having","_law_run","_law_rounds"]) (by walk_at "s") (by walk_at "l") λ_ _ _ _ _ _ nd hr=>?_;apply aJ
 ·exact(ac (aR 3 nd rfl (.inl rfl) (eY (aa 1) (aD aE (aa 0) ah) ah)) (ac (gY PySem.PassesOwn.never (aL pp (aa 3) ah) (ac (bh (iE (kQ (dZ (cB (aA F1 (aw.mono hr hk) rfl (ae (aa 2) ak)))) (iD (dZ (cB (aA F2 (aw.mono hr (by lia)) rfl (ae (aD aE (aa 0) ah) (ae (aa 1) (ae (aa 2) ak))))))))) (ac (av cK) ag) ag) (ac (aR 3 nd rfl (.inl rfl) (aS jI (aa 3) ah)) ag))) (ac (av (aA F1 (aw.mono hr hk) rfl (ae (aa 2) ak))) ag)))
 ·rintro ws G q e ⟨bx,l,b,r,us,rs,bt,kvs0,L0,s,rfl,nbr,hl,hs,hd,hb0,hr0,hR,hL0,hrun0,hf0,hq⟩;obtain⟨ps,rfl,hL,hT⟩:=hs.psq;have hdt:∀y,y∈ps->y.2.dt<=d:=λy hy=>gL (rs:=rs) (show rs.dt<=d by lia) y.2 (by rw[hL];exact mem_map.mpr ⟨y,hy,rfl⟩);obtain⟨B,hB,B0⟩:=hR.bx (60-L0) (by lia);rw[hrun0] at hB;walk_at "a0";refine⟨⟨_,hb0⟩,bx,kvs0,rfl,hb0,?_⟩;rw[hB.int.get bx];have hn0:=(hB.get B0 bx).1;obtain⟨n0,hn0⟩:=Int.eq_ofNat_of_zero_le hn0;rw[hn0] at hrun0 ⊢;subst hU;refine aK λU hU=>?_;refine pS (λj τ G'=>∃(kvs:List (ax×W)) (L n:Nat),j=n/\τ=[some (.tup [.str "times",.str bx,.ref l]),some (.ref b),some (.ref r),some (.int (n:Int))]/\Kp b r G G'/\G' b=some (.dic kvs)/\G' r=some (.dic (eF L false false))/\L<=L0/\aV s (60-L)=(.count rs (n:Int)::bt,kvs)/\eh s (60-L)) ⟨_,kvs0,L0,n0,rfl,rfl,Kp.refl _ _ _,hb0,hr0,yby _,hrun0,hf0⟩ ?_;rintro j τ G' ⟨kvs,L,n,rfl,rfl,kp,hb,hr',hLL,hrun,hf⟩ B' hB';walk_at "R";refine fh (λh0=>?_) λh0=>?_
  ·obtain⟨n,rfl⟩:∃n',j=n'+1:=⟨j-1,by lia⟩;refine⟨λτ1 G1=>∃(kvs:List (ax×W)) (L:Nat),τ1=[some (.tup [.str "times",.str bx,.ref l]),some (.ref b),some (.ref r),some (.int (n:Int))]/\Kp b r G G1/\G1 b=some (.dic kvs)/\G1 r=some (.dic (eF L false false))/\L<=L0/\aV s (60-L)=(.count rs (n:Int)::bt,kvs)/\eh s (60-L),?_,?_⟩
   ·rintro τ1 G1 ⟨kvs,L,h⟩;exact⟨n,by lia,kvs,L,h⟩
   subst hB';refine aK λU1 hU1=>?_;walk_at "R";refine⟨r,L,rfl,hr',λhz=>?_,λL' hz=>?_⟩
   ·subst hz;walk_at "R";exact aC.done (hq.out _ kvs (kp.trans (Kp.r _ _ _ _)) ((ao nbr).trans hb) af hf (fc hrun))
   ·subst hz;walk_at "R";have e1:60-L'=60- (L'+1)+1:=by lia
    have hst:dr kvs (.count rs ((n+1:Nat):Int))=rs.L++[.count rs (n:Int)]:=by
     show(if ((n+1:Nat):Int)=0 then ([]:List Row) else rs.L++[.count rs (((n+1:Nat):Int)-1)])=_;rw[ybv (by lia),show((n+1:Nat):Int)-1=(n:Int) by lia]
    have hrun1:=ir hrun;rw[hst,←e1,append_assoc,hL] at hrun1;have hf1:eh s (60-L'):=by rw[e1];exact hf.succ (fc hrun) (by rw[iW hrun];exact id)
    have kp1:=kp.trans (Kp.r b r G' (.dic (eF L' false false)));refine⟨l,b,r,ps,_,kvs,L',s,rfl,nbr,kp1.at hb0 hr0 hl,hT.mono (kp1.ls hb0 hr0),hdt,(ao nbr).trans hb,af,hR,by lia,hrun1,hf1,⟨λG2 kv2 L2 kp2 hb2 hr2 hl2 hs2 hf2=>?_,λG2 kv2 kp2 hb2 hr2 hf2 he2=>?_,λG2 kv2 L2 n2 kp2 hb2 hr2 hn2 hf2 hbad=>?_⟩⟩
    ·walk_at "R";subst hU1;walk_at "R";refine⟨kv2,L2,?_,kp1.trans kp2,hb2,hr2,by lia,hs2,hf2⟩;rw[show((n+1:Nat):Int)-1=(n:Int) by lia]
    ·walk_at "R";exact aC.done (hq.out _ kv2 (kp1.trans kp2) hb2 hr2 hf2 he2)
    ·walk_at "R";exact aC.done (hq.bad _ kv2 L2 n2 (kp1.trans kp2) hb2 hr2 hn2 hf2 hbad)
  ·have hn:j=0:=by lia
   subst hn;subst hU;walk_at "R";refine⟨r,L,rfl,hr',λhz=>?_,λL' hz=>?_⟩
   ·subst hz;exact aC.done (hq.out _ kvs (kp.trans (Kp.r _ _ _ _)) ((ao nbr).trans hb) af hf (fc hrun))
   ·subst hz;have e1:60-L'=60- (L'+1)+1:=by lia
    have hrun1:=ir hrun;have hst:dr kvs (.count rs ((0:Nat):Int))=[]:=rfl;rw[hst,←e1] at hrun1;exact aC.done (hq.yes _ kvs L' (kp.trans (Kp.r _ _ _ _)) ((ao nbr).trans hb) af (by lia) hrun1 (by rw[e1];exact hf.succ (fc hrun) (by rw[iW hrun];exact id)))
structure Bn (G:Gp) (b r:Addr) (bx:Str) (ms:List (Int×Str)) (rs:aT Str) (bo:W) (X:Row):Prop where
 sp:∀kvs:List (ax×W),dr kvs X=(if bd kvs bx=0 then [] else rs.L++[.bear bx (eA (dN ms)) rs (bH (bd kvs) (eA (dN ms)))])/\dY kvs X=kvs
 nf:∀kvs:List (ax×W),cT kvs X->0<bd kvs bx
 bo:(bo=.non/\∀kvs:List (ax×W),¬cT kvs X)∨∃(y:Addr) (kv:List (ax×W)) (g:Str->Int),bo=.ref y/\X=.bear bx (eA (dN ms)) rs (bH g (eA (dN ms)))/\G y=some (.dic kv)/\sV g ms kv/\(∀x,0<=g x)/\y≠b/\y≠r
noncomputable def GM (G:Gp) (s:List Row×List (ax×W)) (bt:List Row) (b r l m:Addr) (bx:Str) (ms:List (Int×Str)) (rs:aT Str) (j:Nat):cO->Gp->Prop:=λτ1 G1=>∃(kvs:List (ax×W)) (L:Nat) (bo:W) (X:Row) (t4 t5 t6:Option W),L<j/\τ1=[some (.tup [.str "while",.str bx,.ref l,.ref m]),some (.ref b),some (.ref r),some bo,t4,t5,t6]/\Kp b r G G1/\G1 b=some (.dic kvs)/\G1 r=some (.dic (eF L false false))/\aV s (59-L)=(X::bt,kvs)/\eh s (59-L)/\Bn G1 b r bx ms rs bo X
theorem GN {d k:Nat} (F:cz K "_law_while" "_law_while" (aO 46) f fd) (F1:Fx P w K mg base "_law_spent" ["_law_run"] 1 wm) (F2:Fx P w K mg base "_law_do" ["_law_rows_here","_law_having","_law_run"] k (wo d)) (F3:Fx P w K mg base "_law_below" ["_law_one","_law_other"] 1 B3) (hk:1<=k):ca P w K mg base (k+1) f fd ["_law_thing","_law_having","_law_run"] (Ej (d+1)):=by
 refine dP F (N:=["_law_thing","_law_having","_law_run","_law_borne","_law_now","_law_exponent","_law_box"]) (by walk_at "s") (by walk_at "l") λ_ _ _ _ _ _ nd hr=>?_;apply aJ
 ·refine' ac ?s1 (ac (gY PassesOwn.never ?c (ac ?b1 (ac (dG PassesOwn.never rfl ?it ?tg (cV (show QS _ _ (qe _ _ _) from vJ (aS bZ (show QE _ _ (gH _ _ _) from fC ?g1 ?g2 ?g3) ?g4) ?d1 ?d2))) (ac ?b3 (ac ?b4 ?b5))))) ?s3)
  case s1=>exact(aR 3 nd rfl (.inl rfl) o6)
  case c=>exact(aL pp (eY (aa 1) (aD aE (aa 0) ah) ah) ah)
  case b1=>exact(aR 4 nd rfl (.inl rfl) mE)
  case it=>exact(ck (aD aE (aa 0) ah))
  case tg=>exact(iF rfl (cf (bT 5 nd rfl (.inl rfl)) (cf (bT 6 nd rfl (.inl rfl)) fH)))
  case g1=>exact(aa 4)
  case g2=>exact(aa 5)
  case g3=>exact ah
  case g4=>exact(eY (aa 1) (aa 6) ah)
  case d1=>exact(aa 4)
  case d2=>exact(aa 5)
  case b3=>exact(bh (iE (gj (aL AQ (aa 3) o6) (eO (dZ (cB (aA F3 (aw.mono hr hk) rfl (ae (aa 4) (ae (aa 3) ak)))))))) (ac (cy cK (aa 2) bq) (ac (av cK) ag)) ag)
  case b4=>exact(aR 3 nd rfl (.inl rfl) (aa 4))
  case b5=>exact(ac (bh (iE (kQ (dZ (cB (aA F2 (aw.mono hr (by lia)) rfl (ae (aD aE (aa 0) ah) (ae (aa 1) (ae (aa 2) ak)))))) (iD (dZ (cB (aA F1 (aw.mono hr hk) rfl (ae (aa 2) ak))))))) (ac (av cK) ag) ag) ag)
  case s3=>exact(ac (av cK) ag)
 ·rintro ws G q e ⟨bx,l,m,b,r,us,ms,rs,bt,kvs0,L0,s,rfl,nbr,hl,hm,ok,hs,hd,hb0,hr0,hR,hL0,hrun0,hf0,hq⟩;obtain⟨ps,rfl,hL,hT⟩:=hs.psq;have hdt:∀y,y∈ps->y.2.dt<=d:=λy hy=>gL (rs:=rs) (show rs.dt<=d by lia) y.2 (by rw[hL];exact mem_map.mpr ⟨y,hy,rfl⟩);have mb:m≠b:=λz=>by rw[z,hb0] at hm;cases hm
  have mr:m≠r:=λz=>by rw[z,hr0] at hm;cases hm
  walk_at "a0";subst hU;refine aK λU hU=>?_;refine pS (λj τ G'=>∃(kvs:List (ax×W)) (L:Nat) (bo:W) (X:Row) (t4 t5 t6:Option W),j=L/\L<=L0/\τ=[some (.tup [.str "while",.str bx,.ref l,.ref m]),some (.ref b),some (.ref r),some bo,t4,t5,t6]/\Kp b r G G'/\G' b=some (.dic kvs)/\G' r=some (.dic (eF L false false))/\aV s (59-L)=(X::bt,kvs)/\eh s (59-L)/\Bn G' b r bx ms rs bo X) ⟨_,kvs0,L0,.non,_,none,none,none,rfl,yby _,rfl,Kp.refl _ _ _,hb0,hr0,hrun0,hf0,λ_=>⟨rfl,rfl⟩,λ_ z=>z.elim,.inl ⟨rfl,λ_ z=>z⟩⟩ ?_;rintro j τ G' ⟨kvs,L,bo,X,t4,t5,t6,rfl,hLL,rfl,kp,hb,hr',hrun,hf,bn⟩ B' hB';obtain⟨B,hB,B0⟩:=hR.bx (59-j) (by lia);rw[hrun] at hB;have hg:∀x,0<=bd kvs x:=λx=>(hB.get B0 x).1;have e60:60-j=59-j+1:=by lia
  obtain⟨st1,st2⟩:=bn.sp kvs;have hnx:=ir hrun;rw[st1,st2,←e60] at hnx;walk_at "R";refine⟨⟨_,hb⟩,bx,kvs,rfl,hb,?_⟩;rw[hB.int.get bx];walk_at "R";refine fh (λh0=>?_) λh0=>?_;rotate_left 1
  ·have hz:bd kvs bx=0:=by have:=hg bx;have h0:¬0<bd kvs bx:=h0;lia
   rw[ycx hz] at hnx;subst hU;walk_at "R";exact aC.done (hq.yes _ kvs j kp hb hr' hLL hnx (by rw[e60];exact hf.succ (fc hrun) (by rw[iW hrun];exact λz=>h0 (bn.nf kvs z))))
  have h0:0<bd kvs bx:=h0;rw[ybv (by lia)] at hnx;refine⟨GM G s bt b r l m bx ms rs j,?_,?_⟩
  ·rintro τ1 G1 ⟨kvs,L,bo,X,t4,t5,t6,h1,h2⟩;exact⟨L,h1,kvs,L,bo,X,t4,t5,t6,rfl,by lia,h2⟩
  subst hB';refine aK λU1 hU1=>?_;walk_at "R";intro t ht;have le1:=aC.new (g:=GO.dic []) ht;have g1:=af (G:=G') (a:=t) (g:=GO.dic []);have tb:t≠b:=λz=>by rw[z,hb] at ht;cases ht
  have tr:t≠r:=λz=>by rw[z,hr'] at ht;cases ht
  have hm1:=kp.at hb0 hr0 hm;have tm:t≠m:=λz=>by rw[z,hm1] at ht;cases ht
  walk_at "b";refine⟨_,eL (j:=3) rfl,?_⟩;dsimp only;refine⟨_,le1 _ _ hm1,bY (λws τ G1=>∃(done todo:List (Int×Str)) (kv:List (ax×W)) (t5 t6:Option W),ws=sM todo/\τ=[some (.tup [.str "while",.str bx,.ref l,.ref m]),some (.ref b),some (.ref r),some bo,some (.ref t),t5,t6]/\done++todo=ms/\sV (bd kvs) done kv/\G1 t=some (.dic kv)/\∀x,x≠t->G1 x=G' x) ?_ ?_ _ _ _ ⟨[],ms,[],_,_,rfl,rfl,rfl,⟨λ_=>rfl,(λ_ h=>(nomatch h)),yby _,by simp[wj]⟩,g1,λx hx=>ao hx⟩⟩;rotate_left 1
  ·rintro w1 ws τ G1 kk ⟨done,todo,kv,t5,t6,hw,rfl,hp,tg,gt,gk⟩ hk;cases todo with
   | nil=>cases hw
   | cons x todo=>
     cases hw;refine⟨(gk m tm.symm).trans hm1,?_⟩;simp only[pf,ja,o9,cP,set_cons_succ,set_cons_zero];refine⟨rfl,?_⟩;walk_at "R";simp only[qe];walk_at "R";have gd:=(gk b tb.symm).trans hb;have ev:(bI kv (.inl x.1)).getD (.int 0)=.int (match bI kv (.inl x.1) with | some (.int n)=>n | _=>0):=by
      rw[tg.v];split<;> rfl
     have hdl:done.length<=3:=by have:=congrArg List.length hp;rw[length_append] at this;have:=ok.1;lia
     have hkl:=tg.l;refine⟨⟨_,gt⟩,x.1,kv,rfl,gt,⟨_,gd⟩,x.2,kvs,rfl,gd,?_⟩;rw[hB.int.get x.2,ev];walk_at "R";have hin:∀y,y∈done++[x]->0<=y.1:=λy hy=>(ok.2 y (by
      rw[←hp];rcases mem_append.mp hy with hy | hy
      ·exact mem_append_left _ hy
      ·rw[mem_singleton.mp hy];simp)).1
     exact⟨t,x.1,kv,rfl,rfl,gt,by lia,hk _ _ ⟨done++[x],todo,_,_,_,rfl,rfl,by rw[append_assoc];exact hp,tg.put (λy hy=>hin y (mem_append_left _ hy)) (hin x (by simp)),af,λy hy=>(ao hy).trans (gk y hy)⟩⟩
  rintro τ G1 ⟨done,todo,kv,t5',t6',hw,rfl,hp,tg,gt,gk⟩;refine⟨(gk m tm.symm).trans hm1,?_⟩;have hb':todo=[]:=by simpa using hw.symm
  subst hb';rw[append_nil] at hp;subst hp;have le2:aC G' G1:=λx g e=>(gk x (λz=>by rw[z,ht] at e;cases e)).trans e;have kp1:=kp.trans (Kp.of (b:=b) (r:=r) le2);have gb1:=le2 _ _ hb;have gr1:=le2 _ _ hr';subst hU1;dsimp only;refine aK λU1 hU1=>?_;have fin:¬cT kvs X->U1 { nx:=GM G s bt b r l m bx done rs j,rt:=λw G1=>∃G0,aC G0 G1/\q w G0,bk:=U { nx:=λx G1=>∃G0,aC G0 G1/\q W.non G0,rt:=λw G1=>∃G0,aC G0 G1/\q w G0 },ct:=GM G s bt b r l m bx done rs j } [some (.tup [.str "while",.str bx,.ref l,.ref m]),some (.ref b),some (.ref r),some bo,some (.ref t),t5',t6'] G1:=λhnf=>by
   have hf1:eh s (60-j):=by rw[e60];exact hf.succ (fc hrun) (by rw[iW hrun];exact hnf)
   rw[append_assoc,hL] at hnx;walk_at "b";subst hU1;walk_at "R";refine⟨l,b,r,ps,_,kvs,j,s,rfl,nbr,kp1.at hb0 hr0 hl,hT.mono (kp1.ls hb0 hr0),hdt,gb1,gr1,hR,by lia,hnx,hf1,⟨λG2 kv2 L2 kp2 hb2 hr2 hl2 hs2 hf2=>?_,λG2 kv2 kp2 hb2 hr2 hf2 he2=>?_,λG2 kv2 L2 n2 kp2 hb2 hr2 hn2 hf2 hbad=>?_⟩⟩
   ·walk_at "R";refine⟨r,L2,rfl,hr2,λhz=>?_,λL' hz=>?_⟩
    ·subst hz;walk_at "R";exact aC.done (hq.out _ kv2 ((kp1.trans kp2).trans (Kp.r _ _ _ _)) ((ao nbr).trans hb2) af hf2 (fc hs2))
    ·subst hz;walk_at "R";refine⟨kv2,L',.ref t,.bear bx (eA (dN done)) rs (bH (bd kvs) (eA (dN done))),_,_,_,by assumption,rfl,(kp1.trans kp2).trans (Kp.r _ _ _ _),(ao nbr).trans hb2,af,by rw[show 59-L'=60- (L'+1) by lia];exact hs2,by rw[show 59-L'=60- (L'+1) by lia];exact hf2,λ_=>⟨rfl,rfl⟩,λ_ z=>z.1,.inr ⟨t,kv,bd kvs,rfl,rfl,?_,tg,hg,tb,tr⟩⟩;rw[ao tr];exact kp2 t _ tb tr gt
   ·walk_at "R";exact aC.done (hq.out _ kv2 (kp1.trans kp2) hb2 hr2 hf2 he2)
   ·walk_at "R";exact aC.done (hq.bad _ kv2 L2 n2 (kp1.trans kp2) hb2 hr2 hn2 hf2 hbad)
  rcases bn.bo with⟨rfl,hnn⟩ | ⟨y,kvy,g,rfl,hX,gy,ty,hgy,yb,yr⟩
  ·walk_at "R";exact fin (hnn kvs)
  ·walk_at "R";refine⟨t,y,kv,kvy,rfl,gt,le2 _ _ gy,tg.ok,ty.ok,?_⟩;walk_at "R";have hbl:=tg.below ty ok hg hgy;refine fh (λh1=>?_) λh1=>fin ?_
   ·refine⟨r,_,_,rfl,rfl,gr1,by show 3<=_;decide,?_⟩;rw[Eh];exact aC.done (hq.bad _ kvs j (59-j) (kp1.trans (Kp.r _ _ _ _)) ((ao nbr).trans gb1) af (by lia) hf (by rw[iW hrun,hX];exact⟨h0,Int.not_lt.mp λz=>by rw[hbl.mpr z] at h1;cases h1⟩))
   ·rw[hX];rintro⟨_,z⟩;have:=hbl.mp (by simpa using h1);lia
theorem Ek {d k:Nat} (F:cz K "_law_do" "_law_do" (aO 48) f fd) (F1:Fx P w K mg base "_law_spent" ["_law_run"] 1 wm) (F2:Fx P w K mg base "_law_times" ["_law_thing","_law_having","_law_run"] k (Ei d)) (F3:Fx P w K mg base "_law_while" ["_law_thing","_law_having","_law_run"] k (Ej d)) (F4:Fx P w K mg base "_law_done" ["_law_thing","_law_having"] 1 yZ) (hk:1<=k):ca P w K mg base (k+1) f fd ["_law_rows_here","_law_having","_law_run"] (wo d):=by
 refine dP F (N:=["_law_rows_here","_law_having","_law_run","_law_thing"]) (by walk_at "s") (by walk_at "l") λ_ _ _ _ _ _ nd hr=>?_;apply aJ
 ·exact(ac (dG PySem.PassesOwn.never rfl (ck (aa 0)) (bT 3 nd rfl (.inl rfl)) (ac (bh (dZ (cB (aA F1 (aw.mono hr hk) rfl (ae (aa 2) ak)))) (ac (av cK) ag) ag) (ac (bh (aL (bG hr) (aD aE (aa 3) ah) bq) (ac (bh (dZ (cB (aA F2 (aw.mono hr (by lia)) rfl (ae (aa 3) (ae (aa 1) (ae (aa 2) ak)))))) (ac (av cK) ag) ag) ag) (ac (bh (aL (bG hr) (aD aE (aa 3) ah) bq) (ac (bh (dZ (cB (aA F3 (aw.mono hr (by lia)) rfl (ae (aa 3) (ae (aa 1) (ae (aa 2) ak)))))) (ac (av cK) ag) ag) ag) (ac (dS (aA F4 (aw.mono hr hk) rfl (ae (aa 3) (ae (aa 1) ak)))) ag)) ag)) ag))) (ac (av cK) ag))
 ·rintro ws G q e ⟨l,b,r,ps,bt,kvs0,L0,s,rfl,nbr,hl,hT,hdt,hb0,hr0,hR,hL0,hrun0,hf0,hq⟩;walk_at "a0";refine⟨_,hl,bY (λws τ G'=>∃(todo:List (W×Row)) (kvs:List (ax×W)) (L:Nat) (t3:Option W),ws=kr todo/\(∀y,y∈todo->y∈ps)/\τ=[some (.ref l),some (.ref b),some (.ref r),t3]/\Kp b r G G'/\G' b=some (.dic kvs)/\G' r=some (.dic (eF L false false))/\L<=L0/\aV s (60-L)=(dj todo++bt,kvs)/\eh s (60-L)) ?_ ?_ _ _ _ ⟨ps,kvs0,L0,none,rfl,λ_ h=>h,rfl,Kp.refl _ _ _,hb0,hr0,yby _,hrun0,hf0⟩⟩
  ·rintro τ G' ⟨todo,kvs,L,t3,hw,_,rfl,kp,hb,hr',hLL,hrun,hf⟩;have h0:todo=[]:=by simpa using hw.symm
   subst h0;refine⟨kp.at hb0 hr0 hl,?_⟩;subst hU;walk_at "R";exact aC.done (hq.yes _ kvs L kp hb hr' hLL hrun hf)
  ·rintro w1 ws τ G' kk ⟨todo,kvs,L,t3,hw,hin,rfl,kp,hb,hr',hLL,hrun,hf⟩ hkk;cases todo with
   | nil=>cases hw
   | cons p todo=>
     cases hw;refine⟨kp.at hb0 hr0 hl,?_⟩;obtain⟨x,r0⟩:=p;have hp:=hin _ yaz;have hx:=hT _ hp;have hd:=hdt _ hp;have hrun:aV s (60-L)=(r0::(dj todo++bt),kvs):=hrun;obtain⟨B,hB,B0⟩:=hR.bx (60-L) (by lia);have hkl:=hR.kl (60-L) (by lia);rw[hrun] at hB hkl;refine aK λU1 hU1=>?_;walk_at "R";refine⟨r,L,rfl,hr',λhz=>?_,λL' hz=>?_⟩
     ·subst hz;walk_at "R";exact aC.done (hq.out _ kvs (kp.trans (Kp.r _ _ _ _)) ((ao nbr).trans hb) af hf (fc hrun))
     subst hz;walk_at "R";have e1:60-L'=60- (L'+1)+1:=by lia
     have kp1:=kp.trans (Kp.r b r G' (.dic (eF L' false false)));have gb1:=(ao (g:=GO.dic (eF L' false false)) nbr).trans hb;have gr1:=af (G:=G') (a:=r) (g:=GO.dic (eF L' false false));generalize aF G' r (.dic (eF L' false false))=G1 at kp1 gb1 gr1 ⊢;have hnx:=ir hrun;rw[←e1] at hnx;have hf1:¬cT kvs r0->eh s (60-L'):=λz=>by rw[e1];exact hf.succ (fc hrun) (by rw[iW hrun];exact z)
     have hxG:=hx.mono (kp1.ls hb0 hr0);have plain:kd r0<4->dr kvs r0=[]->¬cT kvs r0->yZ [x,.ref b] G1 (λw G2=>kk [some (.ref l),some (.ref b),some (.ref r),some x] G2) (λ_ _=>False):=λh1 h2 h3=>by
      rw[h2] at hnx;refine⟨x,r0,b,kvs,rfl,hxG,h1,gb1,hB.int,by dsimp only at hkl;lia,?_⟩;exact hkk _ _ ⟨todo,_,L',_,rfl,λy hy=>hin y (yay _ hy),rfl,kp1.trans (Kp.b _ _ _ _),af,(ao nbr.symm).trans gr1,by lia,hnx,hf1 h3⟩
     subst hU1;cases hx with
     | set=>walk_at "R";exact plain (by simp[kd]) rfl id
     | copy=>walk_at "R";exact plain (by simp[kd]) rfl id
     | add=>walk_at "R";exact plain (by simp[kd]) rfl id
     | less=>walk_at "R";exact plain (by simp[kd]) rfl id
     | @times bx l' us rs h hs=>
       walk_at "R";refine⟨bx,l',b,r,us,rs,_,kvs,L',s,rfl,nbr,kp1.at hb0 hr0 h,hs.mono (kp1.ls hb0 hr0),hd,gb1,gr1,hR,by lia,hnx,hf1 id,⟨λG2 kv2 L2 kp2 hb2 hr2 hl2 hs2 hf2=>?_,λG2 kv2 kp2 hb2 hr2 hf2 he2=>?_,λG2 kv2 L2 n2 kp2 hb2 hr2 hn2 hf2 hbad=>?_⟩⟩
       ·walk_at "R";exact hkk _ _ ⟨todo,kv2,L2,_,rfl,λy hy=>hin y (yay _ hy),rfl,kp1.trans kp2,hb2,hr2,by lia,hs2,hf2⟩
       ·walk_at "R";exact aC.done (hq.out _ kv2 (kp1.trans kp2) hb2 hr2 hf2 he2)
       ·walk_at "R";exact aC.done (hq.bad _ kv2 L2 n2 (kp1.trans kp2) hb2 hr2 hn2 hf2 hbad)
     | @whl bx l' m ms us rs h hm ok hs=>
       walk_at "R";refine⟨bx,l',m,b,r,us,ms,rs,_,kvs,L',s,rfl,nbr,kp1.at hb0 hr0 h,kp1.at hb0 hr0 hm,ok,hs.mono (kp1.ls hb0 hr0),hd,gb1,gr1,hR,by lia,by rw[show 59-L'=60- (L'+1) by lia];exact hrun,by rw[show 59-L'=60- (L'+1) by lia];exact hf,⟨λG2 kv2 L2 kp2 hb2 hr2 hl2 hs2 hf2=>?_,λG2 kv2 kp2 hb2 hr2 hf2 he2=>?_,λG2 kv2 L2 n2 kp2 hb2 hr2 hn2 hf2 hbad=>?_⟩⟩
       ·walk_at "R";exact hkk _ _ ⟨todo,kv2,L2,_,rfl,λy hy=>hin y (yay _ hy),rfl,kp1.trans kp2,hb2,hr2,by lia,hs2,hf2⟩
       ·walk_at "R";exact aC.done (hq.out _ kv2 (kp1.trans kp2) hb2 hr2 hf2 he2)
       ·walk_at "R";exact aC.done (hq.bad _ kv2 L2 n2 (kp1.trans kp2) hb2 hr2 hn2 hf2 hbad)
theorem B5 (T:Txt K mg) (F1:Fx P w K mg base "_law_spent" ["_law_run"] 1 wm) (F3:Fx P w K mg base "_law_below" ["_law_one","_law_other"] 1 B3) (F4:Fx P w K mg base "_law_done" ["_law_thing","_law_having"] 1 yZ):∀d:Nat,Fx P w K mg base "_law_do" ["_law_rows_here","_law_having","_law_run"] (2*d+2) (wo d)
 | 0=>T.d__law_do.fx λf fd F=>Ek (k:=1) F F1 (T.d__law_times.fx λf fd F=>ca.none λws G q e ⟨_,_,_,_,_,_,_,_,_,_,_,_,_,_,h,_⟩=>by lia) (T.d__law_while.fx λf fd F=>ca.none λws G q e ⟨_,_,_,_,_,_,_,_,_,_,_,_,_,_,_,_,_,_,h,_⟩=>by lia) F4 (by lia)
 | d+1=>T.d__law_do.fx λf fd F=>Ek (k:=2*d+3) F F1 (T.d__law_times.fx λf fd F=>GL F F1 (B5 T F1 F3 F4 d) (by lia)) (T.d__law_while.fx λf fd F=>GN F F1 (B5 T F1 F3 F4 d) F3 (by lia)) F4 (by lia)
structure jp (kvs:List (ax×W)):Prop where
 i:kg kvs
 n:wj kvs
 s:Ed kvs
theorem jp.nil:jp []:=⟨λ_ h=>(nomatch h),by simp[wj],λ_ h=>(nomatch h)⟩
theorem jp.put {kvs:List (ax×W)} (h:jp kvs) (k:Str) (n:Int):jp (bO kvs (.inr k) (.int n)):=⟨h.i.put _ _,h.n.put _ _,h.s.put _ _⟩
theorem jp.step {kvs:List (ax×W)} (h:jp kvs) (r:Row):jp (dY kvs r):=by
 cases r with
 | set b n=>exact h.put _ _
 | copy b n=>exact h.put _ _
 | add b n=>exact h.put _ _
 | less b=>exact h.put _ _
 | times b rs=>exact h
 | count rs n=>exact h
 | whl b hs rs=>exact h
 | bear b hs rs o=>exact h
theorem jp.run {rs:List Row} {kvs:List (ax×W)} (h:jp kvs):∀n,jp (aV (rs,kvs) n).2
 | 0=>h
 | n+1=>by
   have ih:=jp.run (rs:=rs) h n;show jp (lL (aV (rs,kvs) n)).2;generalize aV (rs,kvs) n=s at ih ⊢;obtain⟨st,k⟩:=s;cases st with
   | nil=>exact ih
   | cons r st=>exact jp.step ih r
theorem wu (kvs:List (ax×W)) (p:ax×W):ip (kvs++[p])=if vY p.2=true then bO (ip kvs) p.1 p.2 else ip kvs:=by
 unfold ip;rw[List.filter_append,List.foldl_append,filter_cons];split<;> rfl
theorem jp.posq:∀(kvs:List (ax×W)),jp kvs->jp (ip kvs):=λkvs h=>by
 have:∀(us acc:List (ax×W)),kg us->Ed us->jp acc->jp (us.foldl (λa p=>bO a p.1 p.2) acc):=λus=>by
  induction us with
  | nil=>exact λacc _ _ h=>h
  | cons p us ih=>
    intro acc hi hs ha;obtain⟨n,hn⟩:=hi p yaz;obtain⟨z,hz⟩:=hs p yaz;rw[foldl_cons,hn,hz];exact ih _ (λq hq=>hi q (yay _ hq)) (λq hq=>hs q (yay _ hq)) (ha.put _ _)
 exact this _ [] (λp hp=>h.i p (mem_filter.mp hp).1) (λp hp=>h.s p (mem_filter.mp hp).1) jp.nil
theorem y7 (kvs:List (ax×W)):(ip kvs).length<=kvs.length:=by
 have h:=jV (kvs.filter λp=>vY p.2) [];have h2:=List.length_filter_le (λp:ax×W=>vY p.2) kvs;unfold ip;simp only[length_nil] at h;lia
theorem jp.same {kvs:List (ax×W)} (h:jp kvs) (G:Gp):∀p,p∈kvs->∃w',bI kvs p.1=some w'/\jU G p.2 w':=λp hp=>by
 obtain⟨n,hn⟩:=h.i p hp;refine⟨p.2,h.n.val hp,?_⟩;rw[hn];exact .int n
theorem El:∀{rs:List Row},(∀r,r∈rs->r.nn)->cm rs=.z->rs=[]
 | [],_,_=>rfl
 | r::rs,h,e=>by
   have h1:=(mQ rs λx hx=>h x (yay _ hx)).1;have h2:=Bb r (h r yaz);have x:=r.wq (h r yaz);have h3:O.cmp (cm rs) (O.plusO (cm rs) r.wt)<0:=O.lt_plus h1 x.nf λz=>by rw[z,O.cmp_self] at h2;lia
   have e:O.plusO (cm rs) r.wt=.z:=e;rw[e] at h3;generalize cm rs=o at h3;cases o with
   | z=>exact absurd h3 (by rw[O.cmp_self];decide)
   | c _ _ _=>exact absurd h3 (by simp[O.cmp])
noncomputable def Em:bQ:=λws G q _=>∃(F d p0:Addr) (s:List Row×List (ax×W)) (ds:List Addr) (n:Nat) (kvs:List (ax×W)),ws=[.ref F,.ref d]/\G F=some (.lst (oC s 0 ds))/\ds.length=n+1/\n<=60/\(∀k,k<=n->((cm (aV s k).1=.z)↔k=n)/\(cm (aV s k).1).dp<=4)/\G d=some (.dic kvs)/\jp kvs/\kvs.length<=1000/\ds[n]?=some p0/\G p0=some (.dic (ip kvs))/\q (.bl true) G
theorem GP (F:cz K "_law_ends" "_law_ends" (aO 49) f fd) (ml:mg "len"=none) (mr:mg "range"=none):ca P w K mg base 1 f fd ["_law_found","_law_having"] Em:=by
 refine dP F (N:=["_law_found","_law_having","_law_k","_law_due","_law_box","_law_amount_here"]) (by walk_at "s") (by walk_at "l") λ_ _ _ _ _ _ nd hr=>?_;apply aJ
 ·exact(ac (dG PySem.PassesOwn.never rfl (nw rfl mr (ae (bU fB rfl ml PySem.boot_len (ae (aa 0) ak)) ak)) (bT 2 nd rfl (.inl rfl)) (ac (bh (aL (ff hr) (eN (bG hr) (aD aE (aD aE (aa 0) (aa 2)) ah) (bp ak)) (eN (bG hr) (aa 2) (aS jI (bU fB rfl ml PySem.boot_len (ae (aa 0) ak)) ah))) (ac (av cK) ag) ag) ag)) (ac (aR 3 nd rfl (.inl rfl) mE) (ac (qX (dG PySem.PassesOwn.never rfl (nV 1 rfl (.inl rfl)) (iF rfl (cf (bT 4 nd rfl (.inl rfl)) (cf (bT 5 nd rfl (.inl rfl)) fH))) (ac (bh (aL pp (aa 5) ah) (ac (cy (aa 5) (aa 3) (aa 4)) ag) ag) ag))) (ac (av (eN (bG hr) (aD aE (aD aE (aa 0) (eS ah)) ah) (aa 3))) ag))))
 ·rintro ws G q e ⟨F0,d,p0,s,ds,n,kvs,rfl,hF,hl,hn,hz,hd,ok,hkl,hp0,gp0,hq⟩;walk_at "a0";refine⟨_,.lst hF,?_⟩;rw[fb,hl];refine⟨by lia,by lia,?_⟩;refine qS (n+1) (λi τ G'=>G'=G/\∃t2,τ=[some (.ref F0),some (.ref d),t2,none,none,none]) ⟨rfl,none,rfl⟩ ?_ ?_;rotate_left 1
  ·rintro i τ G' kk hi ⟨rfl,t2,rfl⟩ hk;refine⟨trivial,?_⟩;obtain⟨p,hp⟩:∃p,ds[i]?=some p:=⟨_,ybw (by lia)⟩;have hg:=mR s 0 ds i p hp;rw[Nat.zero_add] at hg;obtain⟨z1,z2⟩:=hz i (by lia);have td:=dw (cm (aV s i).1);walk_at "R";refine⟨_,_,hF,eL hg,?_⟩;walk_at "R";refine⟨cu _,by lia,?_⟩;rw[cC];refine⟨_,.lst hF,rfl,rfl,zero_le _,?_⟩;have e:decide (cm (aV s i).1=O.z)=decide ((i:Int)=(((oC s 0 ds).length:Nat):Int)-1):=by
    rw[fb,hl]
    by_cases h:i=n
    ·rw[ycw (z1.mpr h),ycw (by lia)]
    ·rw[ycz (λz=>h (z1.mp z)),ycz (by lia)]
   rw[e];refine fh (λz=>?_) λ_=>hk _ _ ⟨rfl,_,rfl⟩;cases hb:decide ((i:Int)=(((oC s 0 ds).length:Nat):Int)-1)<;> rw[hb] at z<;> exact absurd z (by decide)
  rintro τ G' ⟨rfl,t2,rfl⟩;refine⟨trivial,?_⟩;subst hU;dsimp only;walk_at "a0";intro p hp;have le1:=aC.new (g:=GO.dic []) hp;have g1:=af (G:=G') (a:=p) (g:=GO.dic []);generalize aF G' p (.dic [])=G1 at le1 g1 ⊢;have pd:p≠d:=λz=>by rw[z,hd] at hp;cases hp
  have pp0:p≠p0:=λz=>by rw[z,gp0] at hp;cases hp
  walk_at "a";refine⟨d,kvs,le1 _ _ hd,kvs,le1 _ _ hd,λo us=>?_⟩;refine bY (λws τ G2=>∃(todo dn:List (ax×W)) (t3 t4:Option W),ws=(todo.map λp=> .tup [kW p.1,p.2])/\kvs=dn++todo/\τ=[some (.ref F0),some (.ref d),t2,some (.ref p),t3,t4]/\G2 p=some (.dic (ip dn))/\∀x,x≠p->G2 x=aF G1 d (.fdc o us kvs) x) ?_ ?_ _ _ _ ⟨kvs,[],none,none,rfl,rfl,rfl,(ao pd).trans g1,λ_ _=>rfl⟩
  ·rintro τ G2 ⟨todo,dn,t3,t4,hw,hk,rfl,gp,gk⟩;have h0:todo=[]:=by simpa using hw.symm
   subst h0;rw[append_nil] at hk;subst hk;have gd:=(gk d pd.symm).trans af;refine⟨gd,o,us,_,gd,?_⟩;have le2:aC G' (aF G2 d (.dic kvs)):=λx g e=>by
    by_cases xd:x=d
    ·rw[xd,hd] at e;cases e;rw[xd];exact af
    ·rw[ao xd,gk x (λz=>by rw[z,hp] at e;cases e),ao xd];exact le1 _ _ e
   have gp2:aF G2 d (.dic kvs) p=some (.dic (ip kvs)):=(ao pd).trans gp;generalize aF G2 d (.dic kvs)=G3 at le2 gp2 ⊢;have hg:=mR s 0 ds n p0 hp0;rw[Nat.zero_add] at hg;subst hU;dsimp only;walk_at "R";refine⟨_,_,le2 _ _ hF,ie (by rw[fb,hl];exact hg),?_⟩;walk_at "R";exact⟨true,.old (.dic (.inl (le2 _ _ gp0)) (.inl gp2) rfl ((ok.posq).same _)),_,le2,hq⟩
  ·rintro w1 ws τ G2 k ⟨todo,dn,t3,t4,hw,hkv,rfl,gp,gk⟩ hk;cases todo with
   | nil=>cases hw
   | cons x todo=>
     cases hw;have hx:x∈kvs:=by rw[hkv];simp
     obtain⟨n,hn⟩:=ok.i x hx;obtain⟨z,hz⟩:=ok.s x hx;refine⟨(gk d pd.symm).trans af,?_⟩;simp only[pf,ja,o9,cP,set_cons_succ,set_cons_zero];refine⟨rfl,?_⟩;rw[hn,hz];have hps:=wu dn x;rw[hn,hz] at hps;have pl:=y7 dn;have dl:dn.length<=1000:=by have:=congrArg List.length hkv;rw[length_append] at this;lia
     walk_at "R"
     by_cases h0:(0:Int)<n
     ·rw[ycx h0];rw[ycx (by show decide (0<n)=true;exact ycw h0)] at hps;refine⟨p,z,_,rfl,rfl,gp,by lia,?_⟩;refine hk _ _ ⟨todo,dn++[x],_,_,rfl,by rw[hkv];simp,rfl,?_,λy hy=>(ao hy).trans (gk y hy)⟩;rw[af,hps]
     ·rw[ybv h0];rw[ybv (by show ¬decide (0<n)=true;rw[decide_eq_true_eq];exact h0)] at hps;refine hk _ _ ⟨todo,dn++[x],_,_,rfl,by rw[hkv];simp,rfl,?_,gk⟩;rw[hps];exact gp
theorem wv (i:Nat) (h:i<=61):(10:Int)^50*2^i<=10^100:=by
 have h1:(2:Int)^i<=2^61:=by exact_mod_cast Nat.pow_le_pow_right (n:=2) (by decide) h
 exact ydx (Int.mul_le_mul_of_nonneg_left h1 (by decide)) (by decide+kernel)
theorem Eo {ps:List (W×Row)} {kvs:List (ax×W)} (h1:Ea ps) (h2:fi ps<=28) (h3:dy (10^50) kvs) (h4:kvs.length<=4):sT True 84 84 (10^50) 0 (dj ps,kvs):=by
 have hs:iU (10^50) (aT.of (dj ps)):=mT λr hr=>by
  obtain⟨z,hz,rfl⟩:=mem_map.mp hr;exact(h1 z hz).1
 refine⟨λr hr=>?_,?_,?_,by show kvs.length<=_;lia⟩
 ·obtain⟨z,hz,rfl⟩:=mem_map.mp hr;have:=zT hz;rw[Int.pow_zero,Int.mul_one];exact v9 _ (h1 z hz).1 (by lia) (h1 z hz).2
 ·rw[Int.pow_zero,Int.mul_one];exact h3
 ·have a:=mP (aT.of (dj ps));rw[aT.L_of] at a;have b:=(km _ hs).2.2.2;rw[iq] at b;show((dj ps).map Rq.lb).sum<=_;lia
theorem oG {s:List Row×List (ax×W)} {n:Nat} (h:(aV s n).1=[]):∀k,(aV s (n+k)).1=[]
 | 0=>h
 | k+1=>by
   have ih:=oG h k;show(lL (aV s (n+k))).1=[];generalize aV s (n+k)=s' at ih ⊢;obtain⟨st,kv⟩:=s';cases (show st=[] from ih)
   rfl
theorem B6 {s:List Row×List (ax×W)} (h:io s):s.1≠[]:=by
 obtain⟨st,kv⟩:=s;cases st with
 | nil=>exact h.elim
 | cons r st=>exact List.cons_ne_nil _ _
theorem rJ {s:List Row×List (ax×W)} {n m j:Nat} (hn:n<m) (hb:io (aV s n)) (he:(aV s j).1=[]∨j=m) (hne:∀k,k<j->¬io (aV s k)):False:=by
 by_cases h:n<j
 ·exact hne n h hb
 ·rcases he with he | he
  ·have:=oG he (n-j);rw[show j+(n-j)=n by lia] at this;exact B6 hb this
  ·lia
theorem ww {s:List Row×List (ax×W)} {m i j:Nat} (hi:i<=m) (hj:j<=m) (ei:(aV s i).1=[]∨i=m) (ej:(aV s j).1=[]∨j=m) (ni:∀k,k<i->(aV s k).1≠[]) (nj:∀k,k<j->(aV s k).1≠[]):i=j:=by
 rcases Nat.lt_trichotomy i j with h | h | h
 ·exact absurd (ei.resolve_right (by lia)) (nj i h)
 ·exact h
 ·exact absurd (ej.resolve_right (by lia)) (ni j h)
noncomputable def GQ (s:List Row×List (ax×W)) (kvs:List (ax×W)) (L:Nat) (o rf:Bool):Prop:=
 (o=false/\rf=false/\L<=60/\aV s (60-L)=([],kvs)/\eh s (60-L))∨(o=true/\rf=false/\L=0/\eh s 60/\(aV s 60).1≠[])∨(o=false/\rf=true/\∃n,n<60/\eh s n/\io (aV s n))
theorem y8:L2.putAll [] [(("left":Str),W.int 60),("out",.bl false),("refused",.bl false)]=eF 60 false false:=by
 have h:(("left":Str)="out")=False:=by simp only[eq_iff_iff,iff_false];decide
 have h2:(("left":Str)="refused")=False:=by simp only[eq_iff_iff,iff_false];decide
 have h3:(("out":Str)="refused")=False:=by simp only[eq_iff_iff,iff_false];decide
 simp[L2.putAll,bO,eF,h,h2,h3]
noncomputable def four:List Str:=["a","b","c","d"]
theorem GR {C:Cs} {Cf:Addr} {bF:ydw} (F:cz K "law" "law" (aO 50) f fd) (F1:Fx P w K mg base "_law_cell_at" ["_law_script","_law_k"] 1 D6) (F3:Fx P w K mg base "_law_amount" ["_law_cell"] 1 BZ) (F4:Fx P w K mg base "_law_rows" ["_law_cells","_law_names"] 7 Eb) (F5:Fx P w K mg base "_law_made" ["_law_thing"] 13 (wd C 4))
 (F6:Fx P w K mg base "_law_do" ["_law_rows_here","_law_having","_law_run"] 8 (wo 3)) (R1:Rx P w K mg base "trace" ["rows","boxes","most"] 9 (D5 C Cf True) []) (F7:Fx P w K mg base "_law_ends" ["_law_found","_law_having"] 1 Em) (mF:mg "NoFall"=some (.ref Cf)) (xF:XC K Cf bF) (md:mg "dict"=none) (mi:mg "isinstance"=none) (mli:mg "list"=none) (mr:mg "range"=none) (ml:mg "len"=none):ca P w K mg base 100 f fd ["_law_script"] iR:=by
 refine dP (k:=99) F (N:=["_law_script","_law_names","_law_boxes","_law_k","_law_cell","_law_rows_here","_law_having","_law_run","_law_found","_law_refused"]) (by walk_at "s") (by walk_at "l") λ_ _ _ _ _ _ nd hr=>?_;apply aJ
 ·refine' ac ?s1 (ac ?s2 (ac ?s3 (ac ?s4 (ac ?s5 (ac (aR 7 nd rfl (Or.inl rfl) (yF (jX ?p1 (jX ?p2 (jX ?p3 yE))))) (ac ?s7 (ac ?s8 (ac ?s9 (ac ?s10 (ac ?s11 (ac ?s12 (ac ?s13 ?s14))))))))))))
  case s1=>exact(aR 1 nd rfl (.inl rfl) (bL (ae bq (ae bq (ae bq (ae bq ak))))))
  case s2=>exact(aR 2 nd rfl (.inl rfl) mE)
  case s3=>exact(dG PySem.PassesOwn.never rfl (nw rfl mr (ae ah ak)) (bT 3 nd rfl (.inl rfl)) (ac (aR 4 nd rfl (.inl rfl) (aA F1 (aw.mono hr (by lia)) rfl (ae (aa 0) (ae (aa 3) ak)))) (ac (bh (aL (ff hr) (aS cQ (aa 4) ah) ah) (ac (cy (aA F3 (aw.mono hr (by lia)) rfl (ae (aS cr (aa 4) ah) ak)) (aa 2) (aD aE (aa 1) (aa 3))) ag) ag) ag)))
  case s4=>exact(aR 5 nd rfl (.inl rfl) (aA F4 (aw.mono hr (by lia)) rfl (ae (cv (aa 0) (cW ah) (cW ah)) (ae (aa 1) ak))))
  case s5=>exact(aR 6 nd rfl (.inl rfl) (bV (vn rfl) rfl md pZ (ae (aa 2) ak)))
  case p1=>exact ah
  case p2=>exact cK
  case p3=>exact cK
  case s7=>exact(dS (aA F6 (aw.mono hr (by lia)) rfl (ae (aa 5) (ae (aa 6) (ae (aa 7) ak)))))
  case s8=>exact(aR 8 nd rfl (.inl rfl) o6)
  case s9=>exact(aR 9 nd rfl (.inl rfl) cK)
  case s10=>
   refine' xK rfl rfl (xJ (AY 8 (λ_ _ z=>z) nd rfl (Or.inl rfl) R1 (aw.mono hr (by lia)) rfl (ae (nz (d7 (by first | rfl | decide+kernel)) rfl ?it (λ_ _ _ _=>?tg) (λ_ _ _ _=>?tt) (λ_ _ _ _=>?te)) ?a))) (uC (xC mF rfl xF xF xF.self λa oe hoe=>?b) xL)
   case it=>exact(ck (aa 5))
   case tg=>exact(ci 1 (by first | assumption | decide+kernel | rfl) rfl (.inl rfl))
   case tt=>exact du
   case te=>exact(aA F5 (aw.mono hr (by lia)) rfl (ae (aa 1) ak))
   case a=>exact(ae (aa 2) (ae ah ak))
   case b=>exact(ac (aR 9 nd rfl (.inl rfl) cK) ag)
  case s11=>exact(bh (iE (kQ (cB (aa 9)) (iD (cB (aD aE (aa 7) bq))))) (ac (av (eN (bG hr) (aa 9) (aD aE (aa 7) bq))) ag) ag)
  case s12=>exact(bh (iE (kQ (dZ (cB (pw (T:="list") (x:="list") (by first | simp[r9] | assumption | decide+kernel) pB mli rfl mi rfl (aa 8)))) (iD (aL (ff hr) (bU fB rfl ml PySem.boot_len (ae (aa 8) ak)) (aS jI ah (aD aE (aa 7) bq)))))) (ac (av cK) ag) ag)
  case s13=>exact(bh (cB (aD aE (aa 7) bq)) (ac (av (eN (ff hr) (aD aE (aD aE (aa 8) (eS ah)) ah) (bp ak))) ag) ag)
  case s14=>exact(ac (av (aA F7 (aw.mono hr (by lia)) rfl (ae (aa 8) (ae (aa 6) ak)))) ag)
 ·rintro ws G q e ⟨ns,rfl,hns,_,hq⟩;walk_at "a0";intro pn hpn;have g1n:aF G pn (.lst [W.str "a",.str "b",.str "c",.str "d"]) pn=some (.lst (wF four)):=af;generalize aF G pn (.lst [W.str "a",.str "b",.str "c",.str "d"])=G1 at g1n ⊢;have hnl:four.length=4:=rfl;generalize four=names at g1n hnl ⊢;have hlen:(wF names).length=names.length:=length_map ..;clear hpn;walk_at "a";intro pb hpb;have g2n:=aP (g:=GO.dic []) g1n hpb;have g2b:=af (G:=G1) (a:=pb) (g:=GO.dic []);generalize aF G1 pb (.dic [])=G2 at g2n g2b ⊢;have nb:pn≠pb:=λz=>by rw[z,g2b] at g2n;cases g2n
  clear g1n hpb;walk_at "a";refine qS 4 (λi τ G'=>∃t3 t4 kvs,τ=[some (.scr ns),some (.ref pn),some (.ref pb),t3,t4,none,none,none,none,none]/\jp kvs/\dy (10^50) kvs/\kvs.length<=i/\G' pb=some (.dic kvs)/\G' pn=some (.lst (wF names))) ⟨none,none,[],rfl,jp.nil,(λ_ h=>(nomatch h)),yby _,g2b,g2n⟩ ?_ ?_;rotate_left 1
  ·rintro i τ G' kk hi ⟨t3,t4,kvs,rfl,ok,bx,hkl,gb,gn⟩ hk;refine⟨trivial,?_⟩;obtain⟨x,hx,_⟩:=mD (L:=names) (i:=(i:Int)) (by lia) (by lia);have pl:=λw=>cN kvs (.inr x) w;refine aK λU1 hU1=>?_;walk_at "R";refine⟨ns,_,rfl,by lia,λc1=>?_⟩;dsimp only;subst hU1;walk_at "R";refine fh (λh5=>?_) (λh5=>?_)
   ·refine⟨_,rfl,λv h0 h1=>?_⟩;walk_at "R";refine⟨_,_,gn,hx,pb,x,kvs,rfl,rfl,gb,by lia,?_⟩;exact hk _ _ ⟨_,_,_,rfl,ok.put _ _,bx.put _ (by lia) (by lia),ybz (pl _) (by lia),af,(ao nb).trans gn⟩
   ·exact hk _ _ ⟨_,_,_,rfl,ok,bx,by lia,gb,gn⟩
  rintro τ G3 ⟨t3,t4,kvs,rfl,ok,bx,hkl,gb,gn⟩;refine⟨trivial,?_⟩;have hk4:kvs.length<=4:=by lia
  clear hkl g2n g2b;subst hU;dsimp only;walk_at "a0";refine⟨by lia,λpc hpc=>?_⟩;obtain⟨a1,a2,ea,ha⟩:=Bu (ns.map W.int) 4 18;have ec:dc (ns.map W.int) (some 4) (some 18)=(((ns.drop a1).take a2)).map W.int:=by
   rw[List.map_take,List.map_drop];exact ea
  rw[ec];have h14:((ns.drop a1).take a2).length<=14:=by rw[length_take];lia
  refine⟨pc,pn,(ns.drop a1).take a2,names,rfl,af,aP gn hpc,hnl,h14,λpr ps G4 le4 fpr gpr hT4 hS hpl htz=>?_⟩;have gb4:=le4 _ _ (aP (g:=GO.lst (((ns.drop a1).take a2).map W.int)) gb hpc);clear le4 fpr hpc ec ha ea h14 gn nb gb G3 hlen;have okm:=Eo hS htz bx hk4;have hLi:∀i,i<=60->84+(3*84+2)*i<=20000:=λi hi=>by lia
  have hR:rH (dj ps,kvs):=⟨λi hi=>⟨_,(okm.run (by decide) i).b,Int.mul_nonneg (by decide) (Int.le_of_lt (Int.pow_pos (by decide)))⟩,λi hi=>by have:=(okm.run (by decide) i).k;lia⟩;have nnr:∀i,i<=60->∀r,r∈(aV (dj ps,kvs) i).1->r.nn:=λi hi r hr=>(vT (wv i (by lia)) r ((okm.run (by decide) i).g r hr)).1;walk_at "a";refine⟨kvs,.dic (.inl gb4),λd hd=>?_⟩;have l5:=aC.new (g:=GO.dic kvs) hd;have g5d:=af (G:=G4) (a:=d) (g:=GO.dic kvs);generalize aF G4 d (.dic kvs)=G5 at l5 g5d ⊢;walk_at "a";simp only[zQ,Hk,Hj];walk_at "R";intro r hr0;refine⟨af,?_⟩;rw[pW,y8];have l6:=aC.new (g:=GO.dic (eF 60 false false)) hr0;have g6r:=af (G:=G5) (a:=r) (g:=GO.dic (eF 60 false false));generalize aF G5 r (.dic (eF 60 false false))=G6 at l6 g6r ⊢;have g6d:=l6 _ _ g5d;have ndr:d≠r:=λz=>by rw[z,hr0] at g5d;cases g5d
  have ndb:pb≠d:=λz=>by rw[z,hd] at gb4;cases gb4
  have l46:=l5.trans l6;have nrb:pb≠r:=λz=>by have:=l5 _ _ gb4;rw[z,hr0] at this;cases this
  have g6b:=l46 _ _ gb4;have g6p:=l46 _ _ gpr;have hT6:=hT4.mono (aC.ls l46);clear hr0 hd g5d l5 l6 l46 gb4 gpr hT4 G5;have h0:eh (dj ps,kvs) (60-60):=λk hk=>absurd hk (Nat.not_lt_zero _);subst hU;refine aK λU hU=>?_;have fin:∀(G7:Gp) (kv:List (ax×W)) (L:Nat) (o rf:Bool),Kp d r G6 G7->G7 d=some (.dic kv)->G7 r=some (.dic (eF L o rf))->GQ (dj ps,kvs) kv L o rf->U { nx:=λx G1=>∃G0,aC G0 G1/\q W.non G0,rt:=λw G1=>∃G0,aC G0 G1/\q w G0 } [some (.scr ns),some (.ref pn),some (.ref pb),t3,t4,some (.ref pr),some (.ref d),some (.ref r),none,none] G7:=λG7 kv L o rf kp g7d g7r hE=>by
   have g7b:=kp pb _ ndb nrb g6b;have g7p:=kp.at g6d g6r g6p;have hT7:=hT6.mono (kp.ls g6d g6r);clear kp g6b g6p hT6 g6d g6r h0;walk_at "a";walk_at "a";walk_at "a";refine⟨_,g7p,iV (n:=1) g7p hT7 hS htz (λy hy=>by have:=(hS y hy).2;lia) (by lia) (λ_=>rfl) λxs G8 le8 hX hts pm _ hpm=>?_⟩;have l9:=aC.new (g:=GO.lst (refs xs)) hpm;have le9:=le8.trans l9;rw[←hts] at okm hE nnr;refine⟨pm,pb,xs,kvs,60,84,84,10^50,rfl,af,hX.mono (aC.ins l9),le9 _ _ g7b,okm,by decide,λi hi=>wv i (by lia),hLi,by lia,λG' n le hn hbad hbefore D hD=>?_,λGa F0 fs n le fF hF hl hn he hne hnb hd=>?_⟩
   ·cases hD;refine⟨_,.head _,?_⟩;walk_at "R";have gr':=(le9.trans le) _ _ g7r;walk_at "a";rcases hE with⟨_,_,h1,h2,h3⟩ | ⟨_,_,_,h3,_⟩ | ⟨rfl,rfl,_⟩
    ·exact(rJ hn hbad (.inl (by rw[h2])) λk hk=>(h3 k hk).2).elim
    ·exact absurd hbad (h3 n hn).2
    ·refine⟨_,_,.inl gr',gM _ _ _,?_⟩;exact⟨rfl,rfl,zero_le _,aC.done (hq _)⟩
   ·have gr':=(le9.trans le) _ _ g7r;have gd':=(le9.trans le) _ _ g7d;have hz:∀k,k<=60->(aV (cJ xs,kvs) k).1≠[]->cm (aV (cJ xs,kvs) k).1≠ .z:=λk hk h z=>h (El (nnr k hk) z);have dps:∀k,k<=60->(cm (aV (cJ xs,kvs) k).1).dp<=4:=λk hk=>(mQ _ (nnr k hk)).2.1;obtain⟨p0,hp0⟩:∃p,fs[n]?=some p:=⟨_,ybw (by lia)⟩;have hg:=mR (cJ xs,kvs) 0 fs n p0 hp0;rw[Nat.zero_add] at hg;have hat:eI (oC (cJ xs,kvs) 0 fs) (-1)=some (.tup [.tup (aq (cm (aV (cJ xs,kvs) n).1)),.ref p0]):=ie (by rw[fb,hl];exact hg);have hty:ue Ga (.ref F0)=some "list":=by simp only[ue,hF]
    walk_at "a";rcases hE with⟨rfl,rfl,h1,h2,h3⟩ | ⟨rfl,rfl,rfl,h3,h4⟩ | ⟨_,_,m,hm,h3,h4⟩
    ·have hnn:n=60-L:=ww hn (by lia) he (.inl (by rw[h2])) hne λk hk=>(h3 k hk).1;subst hnn;refine⟨_,_,.inl gr',gM _ _ _,?_⟩;walk_at "R";walk_at "a";rw[hty];walk_at "R";refine⟨_,.lst hF,_,_,.inl gr',jx _ _ _,?_⟩;rw[fb,hl];walk_at "R";refine fh (λz=>absurd (show(((60-L+1:Nat)):Int)=61- (L:Int) by lia) z) λ_=>?_;walk_at "a";refine⟨_,_,.inl gr',wk _ _ _,?_⟩;walk_at "R";subst hU;walk_at "R";have okn:=ok.run (rs:=cJ xs) (60-L);have gp0:=(hd _ _ hp0).1;have hkn:=(okm.run (by decide) (60-L)).k;rw[h2] at okn gp0 hkn;refine⟨F0,d,p0,(cJ xs,kvs),fs,60-L,kv,rfl,hF,hl,by lia,λk hk=>⟨⟨λz=>?_,λz=>?_⟩,dps k (by lia)⟩,gd',okn,by dsimp only at hkn;lia,hp0,gp0,aC.done (hq _)⟩
     ·rcases lt_or_ge k (60-L) with y | y
      ·exact absurd z (hz k (by lia) (hne k y))
      ·lia
     ·rw[z,h2];rfl
    ·have hnn:n=60:=by
      rcases lt_or_ge n 60 with y | y
      ·rcases he with he | he
       ·exact absurd he (h3 n y).1
       ·exact he
      ·lia
     subst hnn;refine⟨_,_,.inl gr',gM _ _ _,?_⟩;walk_at "R";walk_at "a";rw[hty];walk_at "R";refine⟨_,.lst hF,_,_,.inl gr',jx _ _ _,?_⟩;rw[fb,hl];walk_at "R";refine fh (λz=>absurd (show(((60+1:Nat)):Int)=61- ((0:Nat):Int) by lia) z) λ_=>?_;walk_at "a";refine⟨_,_,.inl gr',wk _ _ _,?_⟩;walk_at "R";refine⟨_,_,hF,hat,?_⟩;have td:=dw (cm (aV (cJ xs,kvs) 60).1);have d4:=dps 60 (yby _);walk_at "R";refine⟨cu _,by lia,?_⟩;rw[cC,ycz (hz 60 (yby _) h4)];exact aC.done (hq _)
    ·exact(rJ hm h4 he hnb).elim
  walk_at "R";refine⟨pr,d,r,ps,[],kvs,60,(dj ps,kvs),rfl,ndr,g6p,hT6,λy hy=>(hS y hy).2,g6d,g6r,hR,yby _,by rw[append_nil];rfl,h0,⟨λG7 kv L kp h1 h2 h3 h4 h5=>fin G7 kv L _ _ kp h1 h2 (.inl ⟨rfl,rfl,h3,h4,h5⟩),λG7 kv kp h1 h2 h3 h4=>fin G7 kv 0 _ _ kp h1 h2 (.inr (.inl ⟨rfl,rfl,rfl,h3,h4⟩)),λG7 kv L n kp h1 h2 h3 h4 h5=>fin G7 kv L _ _ kp h1 h2 (.inr (.inr ⟨rfl,rfl,n,h3,h4,h5⟩))⟩⟩
theorem wz {C:Addr} {m qual:Str} {sp:bQ} (D:Md K C m qual st ps) (c:dq K C) (h:∀(f:Addr) (fd:FuncData),cz K m qual st f fd->xB P w K mg base k f fd ps sp):Dy P w K mg base C m ps k sp []:=by
 obtain⟨f,fd,hm,F,b⟩:=D;exact⟨⟨f,fd,[],[],hm,h f fd F,b,.nil,λ_=> .nil⟩,c⟩
theorem gP {C:Cs} {Cf:Addr} {i j:Nat} {qual:Str} (hi:i≠7) (hj:j<=8) (D:Md K (C.at_ i) "step" qual st ["self","boxes"]) (c:dq K (C.at_ i)) (h:∀(f:Addr) (fd:FuncData),cz K "step" qual st f fd->ca P w K mg base j f fd ["self","boxes"] (mL C i)):Dy P w K mg base (C.at_ i) "step" ["self","boxes"] 8 (sK C Cf i) []:=
 wz D c λf fd F=>((((h f fd F).imp (λ_ _ _ _ z=>yT (Cf:=Cf) hi z)).toR).mono hj)
theorem B7 (T:Txt K mg) (F:cz K "law" "law" (aO 50) f fd):ca P w K mg base 100 f fd ["_law_script"] iR:=by
 obtain⟨x0,x1,x2,⟨m0,e0⟩,⟨mF,e1⟩,_⟩:=T.x_;obtain⟨bF,xF⟩:=XC.of e1;obtain⟨C1,m1,c1,a11,a12,i1,t1,w1,_⟩:=T.k_Set;obtain⟨C2,m2,c2,a21,a22,i2,t2,w2,_⟩:=T.k_Copy;obtain⟨C3,m3,c3,a31,a32,i3,t3,w3,_⟩:=T.k_Add;obtain⟨C4,m4,c4,a41,i4,t4,w4,_⟩:=T.k_Less;obtain⟨C5,m5,c5,a51,a52,a53,i5,w5,t5,_⟩:=T.k_Times;obtain⟨C7,m7,c7,a71,a72,i7,w7,t7,_⟩:=T.k_Count;obtain⟨C6,m6,c6,a61,a62,a63,a64,i6,w6,t6,me6,_⟩:=T.k_While;obtain⟨C8,m8,c8,a81,a82,i8,w8,t8,_⟩:=T.k_Bearing;generalize hC:(⟨C1,C2,C3,C4,C5,C6,C7,C8⟩:Cs)=C;have e1:C.s=C1:=by rw[←hC]
 have e2:C.c=C2:=by rw[←hC]
 have e3:C.a=C3:=by rw[←hC]
 have e4:C.l=C4:=by rw[←hC]
 have e5:C.t=C5:=by rw[←hC]
 have e6:C.w=C6:=by rw[←hC]
 have e7:C.n=C7:=by rw[←hC]
 have e8:C.b=C8:=by rw[←hC]
 clear hC;subst e1 e2 e3 e4 e5 e6 e7 e8;have Wd:=T.d_is_whole.fxd (P:=P) (w:=w) (base:=base) λf fd T' ds F=>FM F T.z_isinstance T.z_int T.z_bool;have Rs:=T.d_raised.fx λf fd T' ds F=>DU F Wd;have Rd:=T.d_raised.fxd λf fd T' ds F=>DU F Wd;have Wl:=T.d_whole.fx λf fd F=>FN F Rs;have En:=T.d_endless.fx λf fd F=>FP F Wl Rd;have Cm:=T.d_compare.fx (P:=P) (w:=w) (base:=base) λf fd F=>FG F;have Pa:=T.d_parts_above.fx λf fd F=>FH F Cm T.z_len;have Ps:=T.d_plus.fx λf fd F=>FI F Pa T.z_len;have Wp:=T.d_whole_part.fx (P:=P) (w:=w) (base:=base) λf fd F=>FJ F;have Ww:=T.d_without_whole.fx λf fd F=>FK F Wp;have Ti:=T.d_times.fx λf fd F=>FL F Wp Ww Ps T.z_tuple;have Tt:=T.d_total.fx λf fd F=>FQ F Ps;have M1:∀i,Sk True i->Mt P w K mg base (C.at_ i) "weigh" ["self"] 6 (kE C i) []:=λi hi=>by
  match i,hi with
  | 0,_=>exact w1.mt c1 λf fd F=>yS (by decide) F Wl
  | 1,_=>exact w2.mt c2 λf fd F=>yS (by decide) F Wl
  | 2,_=>exact w3.mt c3 λf fd F=>yS (by decide) F Wl
  | 3,_=>exact w4.mt c4 λf fd F=>yS (by decide) F Wl
  | 4,_=>exact w5.mt c5 λf fd F=>FS F Ti En c5 a53
  | 5,_=>exact w6.mt c6 λf fd F=>FV F Ti Wl Ps Rd c6 a64 a62
  | 6,_=>exact w7.mt c7 λf fd F=>FT F Ti Wl Ps c5 a53 c7 a71 a72
  | 7,_=>exact w8.mt c8 λf fd F=>FU F Ti Wl Ps c6 a64 c8 a81 a82
  | n+8,h=>exact absurd h.1 (by lia)
 have We:=T.d_weight_of.fx λf fd F=>FR F Tt M1 T.z_reversed;have Be:=T.d_by_exponent.fx (P:=P) (w:=w) (base:=base) λf fd F=>Gk F T.z_tuple T.z_sorted;have N1:=i1.new (P:=P) (w:=w) (base:=base) m1 λf fd F=>Gm F c1 a11 a12;have N2:=i2.new (P:=P) (w:=w) (base:=base) m2 λf fd F=>Go F c2 a21 a22;have N3:=i3.new (P:=P) (w:=w) (base:=base) m3 λf fd F=>Gq F c3 a31 a32;have N4:=i4.new (P:=P) (w:=w) (base:=base) m4 λf fd F=>Gr F c4 a41;have N5:=i5.new m5 λf fd F=>Gs F We Wl Ps T.z_tuple c5 a51 a52 a53;have N6:=i6.new m6 λf fd F=>Gu F Be We Wl Ps T.z_tuple c6 a61 a62 a63 a64;have N7:=i7.new (P:=P) (w:=w) (base:=base) m7 λf fd F=>Ge F c7 a71 a72;have N8:=i8.new (P:=P) (w:=w) (base:=base) m8 λf fd F=>Gi F c8 a81 a82;have He:=T.d_held.fx (P:=P) (w:=w) (base:=base) λf fd F=>FW F;have Ms:=me6.mt (P:=P) (w:=w) (base:=base) c6 λf fd F=>FX F He Rs T.z_sum c6 a62;have Sw:=t6.mt (P:=P) (w:=w) (base:=base) c6 λf fd F=>DZ F He N8 Ms c6 a61 a63 T.z_list;have M2:∀i,Sk True i->Dy P w K mg base (C.at_ i) "step" ["self","boxes"] 8 (sK C x1 i) []:=λi hi=>by
  match i,hi with
  | 0,_=>exact gP (by decide) (by decide) t1 c1 λf fd F=>FY F c1 a11 a12
  | 1,_=>exact gP (by decide) (by decide) t2 c2 λf fd F=>FZ F He c2 a21 a22
  | 2,_=>exact gP (by decide) (by decide) t3 c3 λf fd F=>Gb F He c3 a31 a32
  | 3,_=>exact gP (by decide) (by decide) t4 c4 λf fd F=>Gc F He T.z_max c4 a41
  | 4,_=>exact gP (by decide) (by decide) t5 c5 λf fd F=>Gg F He N7 c5 a51
  | 5,_=>exact gP (by decide) (by decide) t6 c6 λf fd F=>(DZ F He N8 Ms c6 a61 a63 T.z_list).imp λ_ _ _ _ z=>yU z
  | 6,_=>exact gP (by decide) (by decide) t7 c7 λf fd F=>Gh F N7 c5 a52 c7 a71 a72 T.z_list
  | 7,_=>exact wz t8 c8 λf fd F=>Gj F mF xF He Cm Ms Sw c6 a61 c8 a81 a82
  | n+8,h=>exact absurd h.1 (by lia)
 have Wf:=T.d_weight_left.fx (P:=P) (w:=w) (base:=base) λf fd F=>Gv F;have Pt:=T.d_put_ahead.fx λf fd F=>D3 F Wf Ps M1 T.z_reversed;have To:=T.d_told.fx λf fd F=>Gx F Wf T.z_dict;have Tr:=T.d_trace.rx λf fd T' ds F=>Gy F Pt To M2 T.z_dict T.z_len;have Ca:=T.d__law_cell_at.fx (P:=P) (w:=w) (base:=base) λf fd F=>Gz F T.z_len;have Am:=T.d__law_amount.fx (P:=P) (w:=w) (base:=base) λf fd F=>GA F;have Mk:=T.d__law_marks.fx (P:=P) (w:=w) (base:=base) λf fd F=>GB F;have Dp:=D9 (P:=P) (w:=w) (base:=base) T 5;have Ro:=T.d__law_rows.fx λf fd F=>GF F Dp Mk Am T.z_len T.z_max;have Ma:=Ec T Wl N1 N2 N3 N4 N5 N6 4;have Do:=T.d__law_done.fx (P:=P) (w:=w) (base:=base) λf fd F=>GH F T.z_max;have Bl:=T.d__law_below.fx (P:=P) (w:=w) (base:=base) λf fd F=>GJ F T.z_range;have Sn:=T.d__law_spent.fx (P:=P) (w:=w) (base:=base) λf fd F=>GK F;have Dd:=B5 T Sn Bl Do 3;have Ee:=T.d__law_ends.fx (P:=P) (w:=w) (base:=base) λf fd F=>GP F T.z_len T.z_range;exact GR F Ca Am Ro Ma Dd Tr Ee mF xF T.z_dict T.z_isinstance T.z_list T.z_range T.z_len
end
noncomputable abbrev oL (x y:Str) (t:Stmt) (d a b c:Value) (n:Option Addr) (e g:Value) (o:Value) (p:Option Addr) (r:Array (Option Value)):Option Obj:=some ⟨o,p,.func (fnOf x y (au t) (ap t) (am t) d a b c n e g),r⟩
noncomputable abbrev oR (a:Addr):Option (Option Value):=some (some (.ref a))
noncomputable abbrev oB (a:String):Option (Option Value):=some (some (.builtin a))
set_option maxHeartbeats 0 in
theorem all_mk {l:PySem.W.OpenLaw} {h:Heap} {fa f1 f2 f3 f4 f5 f6 f7 f8 f9 gw gx gy gA gB dK gC gD gI gN gO gT gV g0 g1 g2 g3 g4 g5 g6 g7 g8 ho:Addr} (X:K.In h) (G:h.Ns mainGlobals mg) (L6:mg "law"=some (.ref fa))
 {L7 L8 L9 Ma Mb Mc Me Mf Mg Mh Mi Mj Ml Mm Mn Mo Mp Mq w3 w4 w5 w6 w7 w8 xa xd xe xl xp xr xs xF x0 x1 x2 x3 x7 yb yl yr ys y1 y2 y3 y4 y5 za zb zf zi zj zl zp zr zs zu z0 Am Be Bl BT B0 Ca hp:Option Addr} {Mr Ms Mu Mv Mw Mx My Mz MA Cd Cf Cl Cm CX C1 C2 C3 C4 C5 C6 C7 C8 Dd Do Dp DD D0 Ee En Fr F0 Ga:Array (Option Value)} {MB MC MD ME wp MF MG MH MI MJ wq MK ML MM MN MO wr MP MQ MR MS MT ws MU MV MW MX MY wt MZ M0 M3 M4 M5 wx M6 M7 M8 M9 Na wy Nb Nc Nd Nf Ng w0 Nh Ni Nj Nk Nl w2 Nn Gf Gn Gt G0 hq G1 G2 G3 G4 G5 hr G6 G7 G8 G9 He hs Hf H0 H1 H2 H3 ht H4 H5 H6 H7 H8 hu If Iv Ix Iy Iz hv IA IB IC ID IE hx IF IG IH II IJ hy IK IL IM IN IP hz IQ IR IS IT IU hA IV IW IX IY IZ hB I0 I1 I2 I3 I4 hC I5 I6 I7 I8 I9 hD Ja Jb Jc Jd Je hE Jf Jg Jh Ji Jj hF Jk Jl Jm Jn Jo hG Jp Jq Jr Js Jt hH Ju Jv Jw Jx Jy hI Jz JA JB JC JD hK JE JF JG JH JI hL JJ JK JL JM JN hM JO JP JQ JR JS hN JT JU hO hP hQ eG hR:Value} {T1:Addr} {No:Value} {Np:Option Addr} {Nq:Nat} {Nr:Array (Option Value)} {dF:Tok} {T4:Addr} {Nt:Value} {Nu:Option Addr} {Nv:Nat} {Nw:Array (Option Value)} {dI:Tok} {ha:Addr} {JV:Value} {JW:Option Addr} {JX:Nat} {JY:Array (Option Value)} {cx:Tok} {ai:Addr} {bm:Addr} {rx hS:Option Addr} {hT:Array (Option Value)} {hU hV hW hX dO hY:Value} {bn:Addr} {ry hZ:Option Addr} {h0:Array (Option Value)} {h1 h2 h3 h4 dT h5:Value} {as:Addr} {hb eH:Option Addr} {e0:Array (Option Value)} {e2 e3 e5 e6 cD e7:Value} {dh:Addr} {JZ:ClassData} {aj:Addr} {bo:Addr} {r0 h6:Option Addr} {h7:Array (Option Value)} {h8 h9 id ih dV ij:Value} {br:Addr} {r1 is:Option Addr} {it:Array (Option Value)} {iv ix i0 i1 d0 i2:Value} {az:Addr} {hc e8:Option Addr} {fk:Array (Option Value)} {fl fm fn fp cI fr:Value} {dk:Addr} {J0:ClassData} {al:Addr} {bs:Addr} {r2 i3:Option Addr} {i4:Array (Option Value)} {i5 i6 i7 i8 d1 j0:Value} {bx:Addr} {r3 j1:Option Addr} {j2:Array (Option Value)} {j3 j4 j5 ka d2 kb:Value} {a0:Addr} {hd fs:Option Addr} {fv:Array (Option Value)} {fx fz fD fF c0 f0:Value} {dl:Addr} {J1:ClassData} {be:Addr} {bz:Addr} {r4 ki:Option Addr} {kk:Array (Option Value)} {kl kp ks kv d3 kw:Value} {bF:Addr} {r5 k0:Option Addr} {la:Array (Option Value)} {lb ld lf li d4 lk:Value} {bi:Addr} {he ga:Option Addr} {gb:Array (Option Value)} {gc gd ge gg da gi:Value} {ds:Addr} {J2:ClassData} {ad:Addr} {b0:Addr} {r7 ll:Option Addr} {lm:Array (Option Value)} {ln lo ls lt d5 lv:Value} {cb:Addr} {r8 ly:Option Addr} {lF:Array (Option Value)} {lI l0 ma mb d6 mc:Value} {cd:Addr} {sa md:Option Addr} {me:Array (Option Value)} {mi mk ml mm d8 mn:Value} {dt:Addr} {J3:ClassData} {an:Addr} {ce:Addr} {sb mp:Option Addr} {mr:Array (Option Value)} {ms mt mu mA ea mF:Value} {cg:Addr} {sc mN:Option Addr} {m0:Array (Option Value)} {m1 m2 m3 m4 eb m5:Value} {ch:Addr} {sf m6:Option Addr} {m7:Array (Option Value)} {m8 na nb nc ec nd:Value} {dx:Addr} {J4:ClassData} {ab:Addr} {cl:Addr} {sl ne:Option Addr} {nf:Array (Option Value)} {ni nj nm nn ed no:Value} {cn:Addr} {sn np:Option Addr} {ns:Array (Option Value)} {nt nu nv nx ee nL:Value} {co:Addr} {sp nT:Option Addr} {n0:Array (Option Value)} {n1 n2 n3 n4 ei n7:Value} {cp:Addr} {sq oa:Option Addr} {ob:Array (Option Value)} {oc od oe of ej ok:Value} {dA:Addr} {J5:ClassData} {ar:Addr} {cs:Addr} {su on:Option Addr} {op:Array (Option Value)} {or os ov oD ek oT:Value} {ct:Addr} {sv oX:Option Addr} {o1:Array (Option Value)} {o2 o3 o4 pa el pb:Value} {cw:Addr} {sz pc:Option Addr} {pd:Array (Option Value)} {pe pg pi pj em pk:Value} {dB:Addr} {J6:ClassData} {bk:Addr} {J7:ClassData} {bj:Addr} {J8:ClassData} {bl:Addr} {J9:ClassData}
 (a1:nsIn K mainGlobals "is_whole"=oR f1) (l1:K.lookup f1=oL "is_whole" "is_whole" (aO 5) (.ref T1) MC MD ME L8 wp MF MB L7 Mr) (c1:codeIn K wp "is_whole"=true) (k1:keepIn K (.ref f1)=true)
 (a2:nsIn K mainGlobals "whole"=oR f2) (l2:K.lookup f2=oL "whole" "whole" (aO 6) .none MH MI MJ Ma wq MK MG L9 Ms) (c2:codeIn K wq "whole"=true) (k2:keepIn K (.ref f2)=true)
 (a3:nsIn K mainGlobals "endless"=oR f3) (l3:K.lookup f3=oL "endless" "endless" (aO 7) .none MM MN MO Mc wr MP ML Mb Mu) (c3:codeIn K wr "endless"=true) (k3:keepIn K (.ref f3)=true)
 (a4:nsIn K mainGlobals "raised"=oR f4) (l4:K.lookup f4=oL "raised" "raised" (aO 8) (.ref T4) MR MS MT Mf ws MU MQ Me Mv) (c4:codeIn K ws "raised"=true) (k4:keepIn K (.ref f4)=true)
 (a5:nsIn K mainGlobals "compare"=oR f5) (l5:K.lookup f5=oL "compare" "compare" (aO 9) .none MW MX MY Mh wt MZ MV Mg Mw) (c5:codeIn K wt "compare"=true) (k5:keepIn K (.ref f5)=true)
 (a6:nsIn K mainGlobals "whole_part"=oR f6) (l6:K.lookup f6=oL "whole_part" "whole_part" (aO 10) .none M3 M4 M5 Mj wx M6 M0 Mi Mx) (c6:codeIn K wx "whole_part"=true) (k6:keepIn K (.ref f6)=true)
 (a7:nsIn K mainGlobals "without_whole"=oR f7) (l7:K.lookup f7=oL "without_whole" "without_whole" (aO 11) .none M8 M9 Na Mm wy Nb M7 Ml My) (c7:codeIn K wy "without_whole"=true) (k7:keepIn K (.ref f7)=true)
 (a8:nsIn K mainGlobals "plus"=oR f8) (l8:K.lookup f8=oL "plus" "plus" (aO 13) .none Nd Nf Ng Mo w0 Nh Nc Mn Mz) (c8:codeIn K w0 "plus"=true) (k8:keepIn K (.ref f8)=true)
 (a9:nsIn K mainGlobals "parts_above"=oR f9) (l9:K.lookup f9=oL "parts_above" "parts_above" (aO 14) .none Nj Nk Nl Mq w2 Nn Ni Mp MA) (c9:codeIn K w2 "parts_above"=true) (k9:keepIn K (.ref f9)=true)
 (Nx:nsIn K mainGlobals "total"=oR gw) (Ny:K.lookup gw=oL "total" "total" (aO 15) .none Gn Gt G0 w4 hq G1 Gf w3 Cd) (Nz:codeIn K hq "total"=true) (NA:keepIn K (.ref gw)=true)
 (NB:nsIn K mainGlobals "times"=oR gx) (NC:K.lookup gx=oL "times" "times" (aO 17) .none G3 G4 G5 w6 hr G6 G2 w5 Cf) (ND:codeIn K hr "times"=true) (NE:keepIn K (.ref gx)=true)
 (NG:nsIn K mainGlobals "weight_of"=oR gy) (NH:K.lookup gy=oL "weight_of" "weight_of" (aO 19) .none G8 G9 He w8 hs Hf G7 w7 Cl) (NI:codeIn K hs "weight_of"=true) (NJ:keepIn K (.ref gy)=true)
 (NK:nsIn K mainGlobals "held"=oR gA) (NL:K.lookup gA=oL "held" "held" (aO 20) .none H1 H2 H3 xd ht H4 H0 xa Cm) (NM:codeIn K ht "held"=true) (NN:keepIn K (.ref gA)=true)
 (NO:nsIn K mainGlobals "by_exponent"=oR gB) (NP:K.lookup gB=oL "by_exponent" "by_exponent" (aO 30) .none H6 H7 H8 xl hu If H5 xe CX) (NQ:codeIn K hu "by_exponent"=true) (NR:keepIn K (.ref gB)=true)
 (NS:nsIn K mainGlobals "trace"=oR dK) (NT:K.lookup dK=oL "trace" "trace" (aO 32) (.ref ha) Ix Iy Iz xr hv IA Iv xp C1) (NU:codeIn K hv "trace"=true) (NW:keepIn K (.ref dK)=true)
 (NX:nsIn K mainGlobals "put_ahead"=oR gC) (NY:K.lookup gC=oL "put_ahead" "put_ahead" (aO 33) .none IC ID IE xF hx IF IB xs C2) (NZ:codeIn K hx "put_ahead"=true) (N0:keepIn K (.ref gC)=true)
 (N1:nsIn K mainGlobals "weight_left"=oR gD) (N2:K.lookup gD=oL "weight_left" "weight_left" (aO 34) .none IH II IJ x1 hy IK IG x0 C3) (N3:codeIn K hy "weight_left"=true) (N4:keepIn K (.ref gD)=true)
 (N5:nsIn K mainGlobals "told"=oR gI) (N6:K.lookup gI=oL "told" "told" (aO 35) .none IM IN IP x3 hz IQ IL x2 C4) (N7:codeIn K hz "told"=true) (N8:keepIn K (.ref gI)=true)
 (N9:nsIn K mainGlobals "_law_cell_at"=oR gN) (Oa:K.lookup gN=oL "_law_cell_at" "_law_cell_at" (aO 37) .none IS IT IU yb hA IV IR x7 C5) (Ob:codeIn K hA "_law_cell_at"=true) (Oc:keepIn K (.ref gN)=true)
 (Od:nsIn K mainGlobals "_law_amount"=oR gO) (Oe:K.lookup gO=oL "_law_amount" "_law_amount" (aO 38) .none IX IY IZ yr hB I0 IW yl C6) (Of:codeIn K hB "_law_amount"=true) (Og:keepIn K (.ref gO)=true)
 (Oh:nsIn K mainGlobals "_law_deep"=oR gT) (Oi:K.lookup gT=oL "_law_deep" "_law_deep" (aO 39) .none I2 I3 I4 y1 hC I5 I1 ys C7) (Oj:codeIn K hC "_law_deep"=true) (Ok:keepIn K (.ref gT)=true)
 (Ol:nsIn K mainGlobals "_law_marks"=oR gV) (Om:K.lookup gV=oL "_law_marks" "_law_marks" (aO 40) .none I7 I8 I9 y3 hD Ja I6 y2 C8) (On:codeIn K hD "_law_marks"=true) (Oo:keepIn K (.ref gV)=true)
 (Op:nsIn K mainGlobals "_law_rows"=oR g0) (Oq:K.lookup g0=oL "_law_rows" "_law_rows" (aO 41) .none Jc Jd Je y5 hE Jf Jb y4 Dd) (Os:codeIn K hE "_law_rows"=true) (Ot:keepIn K (.ref g0)=true)
 (Ou:nsIn K mainGlobals "_law_made"=oR g1) (Ov:K.lookup g1=oL "_law_made" "_law_made" (aO 42) .none Jh Ji Jj zb hF Jk Jg za Do) (Ow:codeIn K hF "_law_made"=true) (Ox:keepIn K (.ref g1)=true)
 (Oy:nsIn K mainGlobals "_law_done"=oR g2) (Oz:K.lookup g2=oL "_law_done" "_law_done" (aO 43) .none Jm Jn Jo zi hG Jp Jl zf Dp) (OA:codeIn K hG "_law_done"=true) (OB:keepIn K (.ref g2)=true)
 (OC:nsIn K mainGlobals "_law_below"=oR g3) (OD:K.lookup g3=oL "_law_below" "_law_below" (aO 44) .none Jr Js Jt zl hH Ju Jq zj DD) (OE:codeIn K hH "_law_below"=true) (OF:keepIn K (.ref g3)=true)
 (OG:nsIn K mainGlobals "_law_spent"=oR g4) (OH:K.lookup g4=oL "_law_spent" "_law_spent" (aO 45) .none Jw Jx Jy zr hI Jz Jv zp D0) (OI:codeIn K hI "_law_spent"=true) (OJ:keepIn K (.ref g4)=true)
 (OK:nsIn K mainGlobals "_law_while"=oR g5) (OL:K.lookup g5=oL "_law_while" "_law_while" (aO 46) .none JB JC JD zu hK JE JA zs Ee) (OM:codeIn K hK "_law_while"=true) (ON:keepIn K (.ref g5)=true)
 (OO:nsIn K mainGlobals "_law_times"=oR g6) (OP:K.lookup g6=oL "_law_times" "_law_times" (aO 47) .none JG JH JI Am hL JJ JF z0 En) (OQ:codeIn K hL "_law_times"=true) (OR:keepIn K (.ref g6)=true)
 (OS:nsIn K mainGlobals "_law_do"=oR g7) (OT:K.lookup g7=oL "_law_do" "_law_do" (aO 48) .none JL JM JN Bl hM JO JK Be Fr) (OU:codeIn K hM "_law_do"=true) (OV:keepIn K (.ref g7)=true)
 (OW:nsIn K mainGlobals "_law_ends"=oR g8) (OX:K.lookup g8=oL "_law_ends" "_law_ends" (aO 49) .none JQ JR JS B0 hN JT JP BT F0) (OY:codeIn K hN "_law_ends"=true) (OZ:keepIn K (.ref g8)=true)
 (O0:nsIn K mainGlobals "law"=oR ho) (O1:K.lookup ho=oL "law" "law" (aO 50) .none hO hP hQ hp eG hR JU Ca Ga) (O2:codeIn K eG "law"=true) (O3:keepIn K (.ref ho)=true)
 (t1:K.lookup T1=some ⟨No,Np,.seq #[.int 0 dF] Nq,Nr⟩)
 (t4:K.lookup T4=some ⟨Nt,Nu,.seq #[.int 1 dI] Nv,Nw⟩)
 (O4:K.lookup ha=some ⟨JV,JW,.seq #[.int 50 cx] JX,JY⟩)
 (O5:nsIn K mainGlobals "HydraError"=oR bk) (O6:excIn K bk [.type "ValueError",.type "Exception",.type "BaseException",.type "object"] "ValueError.__new__"=true)
 (O7:nsIn K mainGlobals "NoFall"=oR bj) (O8:excIn K bj [.type "ValueError",.type "Exception",.type "BaseException",.type "object"] "ValueError.__new__"=true)
 (O9:nsIn K mainGlobals "NoNumber"=oR bl) (Pa:excIn K bl [.type "ValueError",.type "Exception",.type "BaseException",.type "object"] "ValueError.__new__"=true)
 (sD:mroIn K bj (.ref bk)=some true)
 (s0:mroIn K bj (.ref bl)=some false)
 (Ka:findIn K (.ref bk) "__getattribute__"=oB "BaseException.__getattribute__") (Kb:findIn K (.ref bk) "__getattr__"=some none) (Kc:findIn K (.ref bk) "__class__"=oB "object.__class__") (Kd:clsIn K bk=some J7) (Ke:typeIn K (.ref bk)=some (.type "type")) (Kf:instIn K (.ref bk) (.type "type")=some true)
 (Kg:findIn K (.ref bj) "__getattribute__"=oB "BaseException.__getattribute__") (Kh:findIn K (.ref bj) "__getattr__"=some none) (Ki:findIn K (.ref bj) "__class__"=oB "object.__class__") (Kj:clsIn K bj=some J8) (Kk:typeIn K (.ref bj)=some (.type "type")) (Kl:instIn K (.ref bj) (.type "type")=some true)
 (Km:findIn K (.ref bl) "__getattribute__"=oB "BaseException.__getattribute__") (Kn:findIn K (.ref bl) "__getattr__"=some none) (Ko:findIn K (.ref bl) "__class__"=oB "object.__class__") (Kq:clsIn K bl=some J9) (Kr:typeIn K (.ref bl)=some (.type "type")) (Ks:instIn K (.ref bl) (.type "type")=some true)
 (Pb:nsIn K mainGlobals "Set"=oR ai) (Kt:plainGet K ai Str.empty=true) (Ku:hasDictIn K ai=true) (Kv:plainOver K ai=true) (Kw:findIn K (.ref ai) "__setattr__"=oB "object.__setattr__") (Kx:makesIn K ai=true) (Ky:keepIn K (.ref ai)=true) (s1:findIn K (.ref ai) "box"=some none) (s2:findIn K (.ref ai) "amount"=some none) (s3:findIn K (.ref ai) "__init__"=oR bm) (pl:isFn K (.ref bm)=true) (s4:K.lookup bm=oL "__init__" "Set.__init__" (bb 22 0) .none hV hW hX hS dO hY hU rx hT) (pm:codeIn K dO "Set.__init__"=true) (pn:keepIn K (.ref bm)=true) (s5:findIn K (.ref ai) "step"=oR bn) (po:isFn K (.ref bn)=true) (s6:K.lookup bn=oL "step" "Set.step" (bb 22 1) .none h2 h3 h4 hZ dT h5 h1 ry h0) (pr:codeIn K dT "Set.step"=true) (en:keepIn K (.ref bn)=true) (hf:findIn K (.ref ai) "weigh"=oR as) (gk:isFn K (.ref as)=true) (hg:K.lookup as=oL "weigh" "Row.weigh" (bb 21 0) .none e3 e5 e6 eH cD e7 e2 hb e0) (gm:codeIn K cD "Row.weigh"=true) (db:keepIn K (.ref as)=true) (Kz:nsIn K mainGlobals "Row"=oR dh) (KA:clsIn K dh=some JZ) (KB:typeIn K (.ref dh)=some (.type "type")) (KC:instIn K (.ref dh) (.type "type")=some true) (KD:mroIn K ai (.ref dh)=some true)
 (Pc:nsIn K mainGlobals "Copy"=oR aj) (KE:plainGet K aj Str.empty=true) (KF:hasDictIn K aj=true) (KG:plainOver K aj=true) (KH:findIn K (.ref aj) "__setattr__"=oB "object.__setattr__") (KI:makesIn K aj=true) (KJ:keepIn K (.ref aj)=true) (s7:findIn K (.ref aj) "box"=some none) (s8:findIn K (.ref aj) "other"=some none) (s9:findIn K (.ref aj) "__init__"=oR bo) (pt:isFn K (.ref bo)=true) (ta:K.lookup bo=oL "__init__" "Copy.__init__" (bb 23 0) .none h9 id ih h6 dV ij h8 r0 h7) (pu:codeIn K dV "Copy.__init__"=true) (py:keepIn K (.ref bo)=true) (tb:findIn K (.ref aj) "step"=oR br) (pU:isFn K (.ref br)=true) (tc:K.lookup br=oL "step" "Copy.step" (bb 23 1) .none ix i0 i1 is d0 i2 iv r1 it) (p0:codeIn K d0 "Copy.step"=true) (eo:keepIn K (.ref br)=true) (hh:findIn K (.ref aj) "weigh"=oR az) (gn:isFn K (.ref az)=true) (hi:K.lookup az=oL "weigh" "Row.weigh" (bb 21 0) .none fm fn fp e8 cI fr fl hc fk) (go:codeIn K cI "Row.weigh"=true) (dd:keepIn K (.ref az)=true) (KK:nsIn K mainGlobals "Row"=oR dk) (KL:clsIn K dk=some J0) (KM:typeIn K (.ref dk)=some (.type "type")) (KN:instIn K (.ref dk) (.type "type")=some true) (KO:mroIn K aj (.ref dk)=some true)
 (Pd:nsIn K mainGlobals "Add"=oR al) (KP:plainGet K al Str.empty=true) (KQ:hasDictIn K al=true) (KR:plainOver K al=true) (KS:findIn K (.ref al) "__setattr__"=oB "object.__setattr__") (KU:makesIn K al=true) (KW:keepIn K (.ref al)=true) (td:findIn K (.ref al) "box"=some none) (te:findIn K (.ref al) "other"=some none) (tg:findIn K (.ref al) "__init__"=oR bs) (p1:isFn K (.ref bs)=true) (th:K.lookup bs=oL "__init__" "Add.__init__" (bb 24 0) .none i6 i7 i8 i3 d1 j0 i5 r2 i4) (p2:codeIn K d1 "Add.__init__"=true) (p3:keepIn K (.ref bs)=true) (ti:findIn K (.ref al) "step"=oR bx) (p4:isFn K (.ref bx)=true) (tk:K.lookup bx=oL "step" "Add.step" (bb 24 1) .none j4 j5 ka j1 d2 kb j3 r3 j2) (p7:codeIn K d2 "Add.step"=true) (ep:keepIn K (.ref bx)=true) (hj:findIn K (.ref al) "weigh"=oR a0) (gp:isFn K (.ref a0)=true) (hk:K.lookup a0=oL "weigh" "Row.weigh" (bb 21 0) .none fz fD fF fs c0 f0 fx hd fv) (gq:codeIn K c0 "Row.weigh"=true) (de:keepIn K (.ref a0)=true) (KY:nsIn K mainGlobals "Row"=oR dl) (KZ:clsIn K dl=some J1) (K0:typeIn K (.ref dl)=some (.type "type")) (K1:instIn K (.ref dl) (.type "type")=some true) (K2:mroIn K al (.ref dl)=some true)
 (Pe:nsIn K mainGlobals "Less"=oR be) (K3:plainGet K be Str.empty=true) (K4:hasDictIn K be=true) (K5:plainOver K be=true) (K6:findIn K (.ref be) "__setattr__"=oB "object.__setattr__") (K7:makesIn K be=true) (K8:keepIn K (.ref be)=true) (tm:findIn K (.ref be) "box"=some none) (tn:findIn K (.ref be) "__init__"=oR bz) (p8:isFn K (.ref bz)=true) (to:K.lookup bz=oL "__init__" "Less.__init__" (bb 25 0) .none kp ks kv ki d3 kw kl r4 kk) (qa:codeIn K d3 "Less.__init__"=true) (qb:keepIn K (.ref bz)=true) (tr:findIn K (.ref be) "step"=oR bF) (qn:isFn K (.ref bF)=true) (ts:K.lookup bF=oL "step" "Less.step" (bb 25 1) .none ld lf li k0 d4 lk lb r5 la) (qs:codeIn K d4 "Less.step"=true) (eq:keepIn K (.ref bF)=true) (hm:findIn K (.ref be) "weigh"=oR bi) (gt:isFn K (.ref bi)=true) (hn:K.lookup bi=oL "weigh" "Row.weigh" (bb 21 0) .none gd ge gg ga da gi gc he gb) (gu:codeIn K da "Row.weigh"=true) (df:keepIn K (.ref bi)=true) (K9:nsIn K mainGlobals "Row"=oR ds) (La:clsIn K ds=some J2) (Lb:typeIn K (.ref ds)=some (.type "type")) (Lc:instIn K (.ref ds) (.type "type")=some true) (Ld:mroIn K be (.ref ds)=some true)
 (Pf:nsIn K mainGlobals "Times"=oR ad) (Le:plainGet K ad Str.empty=true) (Lf:hasDictIn K ad=true) (Lg:plainOver K ad=true) (Lh:findIn K (.ref ad) "__setattr__"=oB "object.__setattr__") (Li:makesIn K ad=true) (Lj:keepIn K (.ref ad)=true) (tt:findIn K (.ref ad) "box"=some none) (tv:findIn K (.ref ad) "rows"=some none) (tx:findIn K (.ref ad) "of_round"=some none) (ty:findIn K (.ref ad) "__init__"=oR b0) (qu:isFn K (.ref b0)=true) (tA:K.lookup b0=oL "__init__" "Times.__init__" (bb 26 0) .none lo ls lt ll d5 lv ln r7 lm) (qv:codeIn K d5 "Times.__init__"=true) (qx:keepIn K (.ref b0)=true) (t0:findIn K (.ref ad) "weigh"=oR cb) (q1:isFn K (.ref cb)=true) (t2:K.lookup cb=oL "weigh" "Times.weigh" (bb 26 1) .none l0 ma mb ly d6 mc lI r8 lF) (q2:codeIn K d6 "Times.weigh"=true) (er:keepIn K (.ref cb)=true) (t3:findIn K (.ref ad) "step"=oR cd) (q3:isFn K (.ref cd)=true) (t5:K.lookup cd=oL "step" "Times.step" (bb 26 2) .none mk ml mm md d8 mn mi sa me) (q4:codeIn K d8 "Times.step"=true) (es:keepIn K (.ref cd)=true) (Lk:nsIn K mainGlobals "Row"=oR dt) (Ll:clsIn K dt=some J3) (Lm:typeIn K (.ref dt)=some (.type "type")) (Ln:instIn K (.ref dt) (.type "type")=some true) (Lo:mroIn K ad (.ref dt)=some true)
 (Pg:nsIn K mainGlobals "Count"=oR an) (Lp:plainGet K an Str.empty=true) (Lq:hasDictIn K an=true) (Lr:plainOver K an=true) (Ls:findIn K (.ref an) "__setattr__"=oB "object.__setattr__") (Lu:makesIn K an=true) (Lv:keepIn K (.ref an)=true) (t6:findIn K (.ref an) "loop"=some none) (t7:findIn K (.ref an) "rounds"=some none) (t8:findIn K (.ref an) "__init__"=oR ce) (q5:isFn K (.ref ce)=true) (ua:K.lookup ce=oL "__init__" "Count.__init__" (bb 27 0) .none mt mu mA mp ea mF ms sb mr) (q6:codeIn K ea "Count.__init__"=true) (q7:keepIn K (.ref ce)=true) (ub:findIn K (.ref an) "weigh"=oR cg) (q8:isFn K (.ref cg)=true) (un:K.lookup cg=oL "weigh" "Count.weigh" (bb 27 1) .none m2 m3 m4 mN eb m5 m1 sc m0) (q9:codeIn K eb "Count.weigh"=true) (eu:keepIn K (.ref cg)=true) (up:findIn K (.ref an) "step"=oR ch) (ra:isFn K (.ref ch)=true) (ux:K.lookup ch=oL "step" "Count.step" (bb 27 2) .none na nb nc m6 ec nd m8 sf m7) (rb:codeIn K ec "Count.step"=true) (ev:keepIn K (.ref ch)=true) (Lx:nsIn K mainGlobals "Row"=oR dx) (Ly:clsIn K dx=some J4) (Lz:typeIn K (.ref dx)=some (.type "type")) (LB:instIn K (.ref dx) (.type "type")=some true) (LC:mroIn K an (.ref dx)=some true)
 (Ph:nsIn K mainGlobals "While"=oR ab) (LD:plainGet K ab Str.empty=true) (LF:hasDictIn K ab=true) (LH:plainOver K ab=true) (LJ:findIn K (.ref ab) "__setattr__"=oB "object.__setattr__") (LK:makesIn K ab=true) (LL:keepIn K (.ref ab)=true) (uy:findIn K (.ref ab) "box"=some none) (u1:findIn K (.ref ab) "heights"=some none) (u2:findIn K (.ref ab) "rows"=some none) (u8:findIn K (.ref ab) "of_round"=some none) (va:findIn K (.ref ab) "__init__"=oR cl) (rc:isFn K (.ref cl)=true) (vb:K.lookup cl=oL "__init__" "While.__init__" (bb 28 0) .none nj nm nn ne ed no ni sl nf) (rd:codeIn K ed "While.__init__"=true) (rf:keepIn K (.ref cl)=true) (vc:findIn K (.ref ab) "weigh"=oR cn) (rg:isFn K (.ref cn)=true) (vl:K.lookup cn=oL "weigh" "While.weigh" (bb 28 1) .none nu nv nx np ee nL nt sn ns) (rh:codeIn K ee "While.weigh"=true) (ew:keepIn K (.ref cn)=true) (vr:findIn K (.ref ab) "step"=oR co) (ri:isFn K (.ref co)=true) (vs:K.lookup co=oL "step" "While.step" (bb 28 2) .none n2 n3 n4 nT ei n7 n1 sp n0) (rj:codeIn K ei "While.step"=true) (ex:keepIn K (.ref co)=true) (vu:findIn K (.ref ab) "measure"=oR cp) (rn:isFn K (.ref cp)=true) (v1:K.lookup cp=oL "measure" "While.measure" (bb 28 3) .none od oe of oa ej ok oc sq ob) (ro:codeIn K ej "While.measure"=true) (ey:keepIn K (.ref cp)=true) (LM:nsIn K mainGlobals "Row"=oR dA) (LN:clsIn K dA=some J5) (LP:typeIn K (.ref dA)=some (.type "type")) (LQ:instIn K (.ref dA) (.type "type")=some true) (LU:mroIn K ab (.ref dA)=some true)
 (Pj:nsIn K mainGlobals "Bearing"=oR ar) (LV:plainGet K ar Str.empty=true) (LW:hasDictIn K ar=true) (LX:plainOver K ar=true) (LY:findIn K (.ref ar) "__setattr__"=oB "object.__setattr__") (LZ:makesIn K ar=true) (L0:keepIn K (.ref ar)=true) (v2:findIn K (.ref ar) "loop"=some none) (v3:findIn K (.ref ar) "borne"=some none) (v4:findIn K (.ref ar) "__init__"=oR cs) (rp:isFn K (.ref cs)=true) (v8:K.lookup cs=oL "__init__" "Bearing.__init__" (bb 29 0) .none os ov oD on ek oT or su op) (rq:codeIn K ek "Bearing.__init__"=true) (rr:keepIn K (.ref cs)=true) (we:findIn K (.ref ar) "weigh"=oR ct) (rs:isFn K (.ref ct)=true) (wi:K.lookup ct=oL "weigh" "Bearing.weigh" (bb 29 1) .none o3 o4 pa oX el pb o2 sv o1) (ru:codeIn K el "Bearing.weigh"=true) (ez:keepIn K (.ref ct)=true) (wl:findIn K (.ref ar) "step"=oR cw) (rv:isFn K (.ref cw)=true) (wn:K.lookup cw=oL "step" "Bearing.step" (bb 29 2) .none pg pi pj pc em pk pe sz pd) (rw:codeIn K em "Bearing.step"=true) (eD:keepIn K (.ref cw)=true) (L1:nsIn K mainGlobals "Row"=oR dB) (L2:clsIn K dB=some J6) (L3:typeIn K (.ref dB)=some (.type "type")) (L4:instIn K (.ref dB) (.type "type")=some true) (L5:mroIn K ar (.ref dB)=some true)
 (z1:nsIn K mainGlobals "ValueError"=some none) (z2:nsIn K mainGlobals "bool"=some none) (z3:nsIn K mainGlobals "dict"=some none) (z4:nsIn K mainGlobals "int"=some none) (z5:nsIn K mainGlobals "isinstance"=some none) (z6:nsIn K mainGlobals "len"=some none) (z7:nsIn K mainGlobals "list"=some none) (z8:nsIn K mainGlobals "max"=some none) (z9:nsIn K mainGlobals "range"=some none) (Pk:nsIn K mainGlobals "reversed"=some none) (Pm:nsIn K mainGlobals "sorted"=some none) (Pn:nsIn K mainGlobals "sum"=some none) (Po:nsIn K mainGlobals "tuple"=some none):
 ∃fd:FuncData,(∀(s:Shared) (v:Value),BindsTo s fd ⟨[v],[]⟩ [("_law_script",v)])/\∀base:Heap,K.In base->base.Ns mainGlobals mg->dQ l.prog w K mg base tQ 100 fa fd ["_law_script"] (wB K iR):=by
 have e:=L6.symm.trans (mg_of X G O0);cases e;have F1:gv K "is_whole" "is_whole" (aO 5) f1 _ T1 [.int 0 dF]:=lY l1 c1 k1 t1 rfl;have b1:bJ K _ ["thing","least"] []:=F1.binds λ_ _ _ _ _ _ us hl=>(λ(q:us.length=2)=>by clear hl;revert us;refine bC (λ_=>bC (λ_=>cL ?_));exact⟨_,rfl,rfl⟩) (by simpa using hl);have e1:bJ K _ ["thing","least"] [.int 0 dF]:=F1.binds λ_ _ _ _ _ _ us hl=>(λ(q:us.length=1)=>by clear hl;revert us;refine bC (λ_=>cL ?_);exact⟨_,rfl,rfl⟩) (by simpa using hl);have F2:=aH (st:=aO 6) l2 c2 k2;have b2:=F2.binds (ps:=["n"]) λ_ _ _ _ _ _=>bC (λ_=>cL rfl);have F3:=aH (st:=aO 7) l3 c3 k3;have b3:=F3.binds (ps:=[]) λ_ _ _ _ _ _=>cL rfl;have F4:gv K "raised" "raised" (aO 8) f4 _ T4 [.int 1 dI]:=lY l4 c4 k4 t4 rfl;have b4:bJ K _ ["exponent","times"] []:=F4.binds λ_ _ _ _ _ _ us hl=>(λ(q:us.length=2)=>by clear hl;revert us;refine bC (λ_=>bC (λ_=>cL ?_));exact⟨_,rfl,rfl⟩) (by simpa using hl);have e4:bJ K _ ["exponent","times"] [.int 1 dI]:=F4.binds λ_ _ _ _ _ _ us hl=>(λ(q:us.length=1)=>by clear hl;revert us;refine bC (λ_=>cL ?_);exact⟨_,rfl,rfl⟩) (by simpa using hl);have F5:=aH (st:=aO 9) l5 c5 k5;have b5:=F5.binds (ps:=["a","b"]) λ_ _ _ _ _ _=>bC (λ_=>bC (λ_=>cL rfl));have F6:=aH (st:=aO 10) l6 c6 k6;have b6:=F6.binds (ps:=["a"]) λ_ _ _ _ _ _=>bC (λ_=>cL rfl);have F7:=aH (st:=aO 11) l7 c7 k7;have b7:=F7.binds (ps:=["a"]) λ_ _ _ _ _ _=>bC (λ_=>cL rfl);have F8:=aH (st:=aO 13) l8 c8 k8;have b8:=F8.binds (ps:=["a","b"]) λ_ _ _ _ _ _=>bC (λ_=>bC (λ_=>cL rfl));have F9:=aH (st:=aO 14) l9 c9 k9;have b9:=F9.binds (ps:=["a","exponent"]) λ_ _ _ _ _ _=>bC (λ_=>bC (λ_=>cL rfl));have F10:=aH (st:=aO 15) Ny Nz NA;have b10:=F10.binds (ps:=["some"]) λ_ _ _ _ _ _=>bC (λ_=>cL rfl);have F11:=aH (st:=aO 17) NC ND NE;have b11:=F11.binds (ps:=["a","b"]) λ_ _ _ _ _ _=>bC (λ_=>bC (λ_=>cL rfl));have F12:=aH (st:=aO 19) NH NI NJ;have b12:=F12.binds (ps:=["things"]) λ_ _ _ _ _ _=>bC (λ_=>cL rfl);have F13:=aH (st:=aO 20) NL NM NN;have b13:=F13.binds (ps:=["boxes","box"]) λ_ _ _ _ _ _=>bC (λ_=>bC (λ_=>cL rfl));have F14:=aH (st:=aO 30) NP NQ NR;have b14:=F14.binds (ps:=["marks"]) λ_ _ _ _ _ _=>bC (λ_=>cL rfl);have F15:gv K "trace" "trace" (aO 32) dK _ ha [.int 50 cx]:=lY NT NU NW O4 rfl;have b15:bJ K _ ["rows","boxes","most"] []:=F15.binds λ_ _ _ _ _ _ us hl=>(λ(q:us.length=3)=>by clear hl;revert us;refine bC (λ_=>bC (λ_=>bC (λ_=>cL ?_)));exact⟨_,rfl,rfl⟩) (by simpa using hl);have e15:bJ K _ ["rows","boxes","most"] [.int 50 cx]:=F15.binds λ_ _ _ _ _ _ us hl=>(λ(q:us.length=2)=>by clear hl;revert us;refine bC (λ_=>bC (λ_=>cL ?_));exact⟨_,rfl,rfl⟩) (by simpa using hl);have F16:=aH (st:=aO 33) NY NZ N0;have b16:=F16.binds (ps:=["left","things"]) λ_ _ _ _ _ _=>bC (λ_=>bC (λ_=>cL rfl));have F17:=aH (st:=aO 34) N2 N3 N4;have b17:=F17.binds (ps:=["left"]) λ_ _ _ _ _ _=>bC (λ_=>cL rfl);have F18:=aH (st:=aO 35) N6 N7 N8;have b18:=F18.binds (ps:=["left","boxes"]) λ_ _ _ _ _ _=>bC (λ_=>bC (λ_=>cL rfl));have F19:=aH (st:=aO 37) Oa Ob Oc;have b19:=F19.binds (ps:=["_law_script","_law_k"]) λ_ _ _ _ _ _=>bC (λ_=>bC (λ_=>cL rfl));have F20:=aH (st:=aO 38) Oe Of Og;have b20:=F20.binds (ps:=["_law_cell"]) λ_ _ _ _ _ _=>bC (λ_=>cL rfl);have F21:=aH (st:=aO 39) Oi Oj Ok;have b21:=F21.binds (ps:=["_law_thing"]) λ_ _ _ _ _ _=>bC (λ_=>cL rfl);have F22:=aH (st:=aO 40) Om On Oo;have b22:=F22.binds (ps:=["_law_cell","_law_box","_law_names"]) λ_ _ _ _ _ _=>bC (λ_=>bC (λ_=>bC (λ_=>cL rfl)));have F23:=aH (st:=aO 41) Oq Os Ot;have b23:=F23.binds (ps:=["_law_cells","_law_names"]) λ_ _ _ _ _ _=>bC (λ_=>bC (λ_=>cL rfl));have F24:=aH (st:=aO 42) Ov Ow Ox;have b24:=F24.binds (ps:=["_law_thing"]) λ_ _ _ _ _ _=>bC (λ_=>cL rfl);have F25:=aH (st:=aO 43) Oz OA OB;have b25:=F25.binds (ps:=["_law_thing","_law_having"]) λ_ _ _ _ _ _=>bC (λ_=>bC (λ_=>cL rfl));have F26:=aH (st:=aO 44) OD OE OF;have b26:=F26.binds (ps:=["_law_one","_law_other"]) λ_ _ _ _ _ _=>bC (λ_=>bC (λ_=>cL rfl));have F27:=aH (st:=aO 45) OH OI OJ;have b27:=F27.binds (ps:=["_law_run"]) λ_ _ _ _ _ _=>bC (λ_=>cL rfl);have F28:=aH (st:=aO 46) OL OM ON;have b28:=F28.binds (ps:=["_law_thing","_law_having","_law_run"]) λ_ _ _ _ _ _=>bC (λ_=>bC (λ_=>bC (λ_=>cL rfl)));have F29:=aH (st:=aO 47) OP OQ OR;have b29:=F29.binds (ps:=["_law_thing","_law_having","_law_run"]) λ_ _ _ _ _ _=>bC (λ_=>bC (λ_=>bC (λ_=>cL rfl)));have F30:=aH (st:=aO 48) OT OU OV;have b30:=F30.binds (ps:=["_law_rows_here","_law_having","_law_run"]) λ_ _ _ _ _ _=>bC (λ_=>bC (λ_=>bC (λ_=>cL rfl)));have F31:=aH (st:=aO 49) OX OY OZ;have b31:=F31.binds (ps:=["_law_found","_law_having"]) λ_ _ _ _ _ _=>bC (λ_=>bC (λ_=>cL rfl));have F32:=aH (st:=aO 50) O1 O2 O3;have FM0_0:=aH (st:=bb 22 0) s4 pm pn;have bM0_0:=FM0_0.binds (ps:=["self","box","amount"]) λ_ _ _ _ _ _=>bC (λ_=>bC (λ_=>bC (λ_=>cL rfl)));have FM0_1:=aH (st:=bb 22 1) s6 pr en;have bM0_1:=FM0_1.binds (ps:=["self","boxes"]) λ_ _ _ _ _ _=>bC (λ_=>bC (λ_=>cL rfl));have FM0_100:=aH (st:=bb 21 0) hg gm db;have bM0_100:=FM0_100.binds (ps:=["self"]) λ_ _ _ _ _ _=>bC (λ_=>cL rfl);have FM1_0:=aH (st:=bb 23 0) ta pu py;have bM1_0:=FM1_0.binds (ps:=["self","box","other"]) λ_ _ _ _ _ _=>bC (λ_=>bC (λ_=>bC (λ_=>cL rfl)));have FM1_1:=aH (st:=bb 23 1) tc p0 eo;have bM1_1:=FM1_1.binds (ps:=["self","boxes"]) λ_ _ _ _ _ _=>bC (λ_=>bC (λ_=>cL rfl));have FM1_100:=aH (st:=bb 21 0) hi go dd;have bM1_100:=FM1_100.binds (ps:=["self"]) λ_ _ _ _ _ _=>bC (λ_=>cL rfl);have FM2_0:=aH (st:=bb 24 0) th p2 p3;have bM2_0:=FM2_0.binds (ps:=["self","box","other"]) λ_ _ _ _ _ _=>bC (λ_=>bC (λ_=>bC (λ_=>cL rfl)));have FM2_1:=aH (st:=bb 24 1) tk p7 ep;have bM2_1:=FM2_1.binds (ps:=["self","boxes"]) λ_ _ _ _ _ _=>bC (λ_=>bC (λ_=>cL rfl));have FM2_100:=aH (st:=bb 21 0) hk gq de;have bM2_100:=FM2_100.binds (ps:=["self"]) λ_ _ _ _ _ _=>bC (λ_=>cL rfl);have FM3_0:=aH (st:=bb 25 0) to qa qb;have bM3_0:=FM3_0.binds (ps:=["self","box"]) λ_ _ _ _ _ _=>bC (λ_=>bC (λ_=>cL rfl));have FM3_1:=aH (st:=bb 25 1) ts qs eq;have bM3_1:=FM3_1.binds (ps:=["self","boxes"]) λ_ _ _ _ _ _=>bC (λ_=>bC (λ_=>cL rfl));have FM3_100:=aH (st:=bb 21 0) hn gu df;have bM3_100:=FM3_100.binds (ps:=["self"]) λ_ _ _ _ _ _=>bC (λ_=>cL rfl);have FM4_0:=aH (st:=bb 26 0) tA qv qx;have bM4_0:=FM4_0.binds (ps:=["self","box","rows"]) λ_ _ _ _ _ _=>bC (λ_=>bC (λ_=>bC (λ_=>cL rfl)));have FM4_1:=aH (st:=bb 26 1) t2 q2 er;have bM4_1:=FM4_1.binds (ps:=["self"]) λ_ _ _ _ _ _=>bC (λ_=>cL rfl);have FM4_2:=aH (st:=bb 26 2) t5 q4 es;have bM4_2:=FM4_2.binds (ps:=["self","boxes"]) λ_ _ _ _ _ _=>bC (λ_=>bC (λ_=>cL rfl));have FM5_0:=aH (st:=bb 27 0) ua q6 q7;have bM5_0:=FM5_0.binds (ps:=["self","loop","rounds"]) λ_ _ _ _ _ _=>bC (λ_=>bC (λ_=>bC (λ_=>cL rfl)));have FM5_1:=aH (st:=bb 27 1) un q9 eu;have bM5_1:=FM5_1.binds (ps:=["self"]) λ_ _ _ _ _ _=>bC (λ_=>cL rfl);have FM5_2:=aH (st:=bb 27 2) ux rb ev;have bM5_2:=FM5_2.binds (ps:=["self","boxes"]) λ_ _ _ _ _ _=>bC (λ_=>bC (λ_=>cL rfl));have FM6_0:=aH (st:=bb 28 0) vb rd rf;have bM6_0:=FM6_0.binds (ps:=["self","box","marks","rows"]) λ_ _ _ _ _ _=>bC (λ_=>bC (λ_=>bC (λ_=>bC (λ_=>cL rfl))));have FM6_1:=aH (st:=bb 28 1) vl rh ew;have bM6_1:=FM6_1.binds (ps:=["self"]) λ_ _ _ _ _ _=>bC (λ_=>cL rfl);have FM6_2:=aH (st:=bb 28 2) vs rj ex;have bM6_2:=FM6_2.binds (ps:=["self","boxes"]) λ_ _ _ _ _ _=>bC (λ_=>bC (λ_=>cL rfl));have FM6_3:=aH (st:=bb 28 3) v1 ro ey;have bM6_3:=FM6_3.binds (ps:=["self","boxes"]) λ_ _ _ _ _ _=>bC (λ_=>bC (λ_=>cL rfl));have FM7_0:=aH (st:=bb 29 0) v8 rq rr;have bM7_0:=FM7_0.binds (ps:=["self","loop","borne"]) λ_ _ _ _ _ _=>bC (λ_=>bC (λ_=>bC (λ_=>cL rfl)));have FM7_1:=aH (st:=bb 29 1) wi ru ez;have bM7_1:=FM7_1.binds (ps:=["self"]) λ_ _ _ _ _ _=>bC (λ_=>cL rfl);have FM7_2:=aH (st:=bb 29 2) wn rw eD;have bM7_2:=FM7_2.binds (ps:=["self","boxes"]) λ_ _ _ _ _ _=>bC (λ_=>bC (λ_=>cL rfl));have T:Txt K mg:=⟨⟨f1,_,T1,_,[.int 0],F1,b1,e1,mg_of X G a1,(.cons ⟨_,rfl⟩ .nil),λ_=>(.cons (.int _) .nil)⟩,⟨f2,_,F2,b2,mg_of X G a2⟩,⟨f3,_,F3,b3,mg_of X G a3⟩,⟨f4,_,T4,_,[.int 1],F4,b4,e4,mg_of X G a4,(.cons ⟨_,rfl⟩ .nil),λ_=>(.cons (.int _) .nil)⟩,⟨f5,_,F5,b5,mg_of X G a5⟩,⟨f6,_,F6,b6,mg_of X G a6⟩,⟨f7,_,F7,b7,mg_of X G a7⟩,⟨f8,_,F8,b8,mg_of X G a8⟩,⟨f9,_,F9,b9,mg_of X G a9⟩,⟨gw,_,F10,b10,mg_of X G Nx⟩,⟨gx,_,F11,b11,mg_of X G NB⟩,⟨gy,_,F12,b12,mg_of X G NG⟩,⟨gA,_,F13,b13,mg_of X G NK⟩,⟨gB,_,F14,b14,mg_of X G NO⟩,⟨dK,_,ha,_,[.int 50],F15,b15,e15,mg_of X G NS,(.cons ⟨_,rfl⟩ .nil),λ_=>(.cons (.int _) .nil)⟩,⟨gC,_,F16,b16,mg_of X G NX⟩,⟨gD,_,F17,b17,mg_of X G N1⟩,⟨gI,_,F18,b18,mg_of X G N5⟩,⟨gN,_,F19,b19,mg_of X G N9⟩,⟨gO,_,F20,b20,mg_of X G Od⟩,⟨gT,_,F21,b21,mg_of X G Oh⟩,⟨gV,_,F22,b22,mg_of X G Ol⟩,⟨g0,_,F23,b23,mg_of X G Op⟩,⟨g1,_,F24,b24,mg_of X G Ou⟩,⟨g2,_,F25,b25,mg_of X G Oy⟩,⟨g3,_,F26,b26,mg_of X G OC⟩,⟨g4,_,F27,b27,mg_of X G OG⟩,⟨g5,_,F28,b28,mg_of X G OK⟩,⟨g6,_,F29,b29,mg_of X G OO⟩,⟨g7,_,F30,b30,mg_of X G OS⟩,⟨g8,_,F31,b31,mg_of X G OW⟩,⟨ai,mg_of X G Pb,⟨Kt,Ku,Kv,Kw⟩,s1,s2,⟨bm,_,⟨Kx,s3,pl,Ky⟩,FM0_0,bM0_0⟩,⟨bn,_,⟨s5,po,en⟩,FM0_1,bM0_1⟩,⟨as,_,⟨hf,gk,db⟩,FM0_100,bM0_100⟩,⟨dh,mg_of X G Kz,⟨⟨_,KA⟩,KB,KC⟩,KD⟩⟩,⟨aj,mg_of X G Pc,⟨KE,KF,KG,KH⟩,s7,s8,⟨bo,_,⟨KI,s9,pt,KJ⟩,FM1_0,bM1_0⟩,⟨br,_,⟨tb,pU,eo⟩,FM1_1,bM1_1⟩,⟨az,_,⟨hh,gn,dd⟩,FM1_100,bM1_100⟩,⟨dk,mg_of X G KK,⟨⟨_,KL⟩,KM,KN⟩,KO⟩⟩,⟨al,mg_of X G Pd,⟨KP,KQ,KR,KS⟩,td,te,⟨bs,_,⟨KU,tg,p1,KW⟩,FM2_0,bM2_0⟩,⟨bx,_,⟨ti,p4,ep⟩,FM2_1,bM2_1⟩,⟨a0,_,⟨hj,gp,de⟩,FM2_100,bM2_100⟩,⟨dl,mg_of X G KY,⟨⟨_,KZ⟩,K0,K1⟩,K2⟩⟩,⟨be,mg_of X G Pe,⟨K3,K4,K5,K6⟩,tm,⟨bz,_,⟨K7,tn,p8,K8⟩,FM3_0,bM3_0⟩,⟨bF,_,⟨tr,qn,eq⟩,FM3_1,bM3_1⟩,⟨bi,_,⟨hm,gt,df⟩,FM3_100,bM3_100⟩,⟨ds,mg_of X G K9,⟨⟨_,La⟩,Lb,Lc⟩,Ld⟩⟩,⟨ad,mg_of X G Pf,⟨Le,Lf,Lg,Lh⟩,tt,tv,tx,⟨b0,_,⟨Li,ty,qu,Lj⟩,FM4_0,bM4_0⟩,⟨cb,_,⟨t0,q1,er⟩,FM4_1,bM4_1⟩,⟨cd,_,⟨t3,q3,es⟩,FM4_2,bM4_2⟩,⟨dt,mg_of X G Lk,⟨⟨_,Ll⟩,Lm,Ln⟩,Lo⟩⟩,⟨an,mg_of X G Pg,⟨Lp,Lq,Lr,Ls⟩,t6,t7,⟨ce,_,⟨Lu,t8,q5,Lv⟩,FM5_0,bM5_0⟩,⟨cg,_,⟨ub,q8,eu⟩,FM5_1,bM5_1⟩,⟨ch,_,⟨up,ra,ev⟩,FM5_2,bM5_2⟩,⟨dx,mg_of X G Lx,⟨⟨_,Ly⟩,Lz,LB⟩,LC⟩⟩,⟨ab,mg_of X G Ph,⟨LD,LF,LH,LJ⟩,uy,u1,u2,u8,⟨cl,_,⟨LK,va,rc,LL⟩,FM6_0,bM6_0⟩,⟨cn,_,⟨vc,rg,ew⟩,FM6_1,bM6_1⟩,⟨co,_,⟨vr,ri,ex⟩,FM6_2,bM6_2⟩,⟨cp,_,⟨vu,rn,ey⟩,FM6_3,bM6_3⟩,⟨dA,mg_of X G LM,⟨⟨_,LN⟩,LP,LQ⟩,LU⟩⟩,⟨ar,mg_of X G Pj,⟨LV,LW,LX,LY⟩,v2,v3,⟨cs,_,⟨LZ,v4,rp,L0⟩,FM7_0,bM7_0⟩,⟨ct,_,⟨we,rs,ez⟩,FM7_1,bM7_1⟩,⟨cw,_,⟨wl,rv,eD⟩,FM7_2,bM7_2⟩,⟨dB,mg_of X G L1,⟨⟨_,L2⟩,L3,L4⟩,L5⟩⟩,⟨bk,bj,bl,⟨mg_of X G O5,O6⟩,⟨mg_of X G O7,O8⟩,⟨mg_of X G O9,Pa⟩,sD,s0,⟨⟨Ka,Kb,Kc⟩,⟨⟨_,Kd⟩,Ke,Kf⟩⟩,⟨⟨Kg,Kh,Ki⟩,⟨⟨_,Kj⟩,Kk,Kl⟩⟩,⟨⟨Km,Kn,Ko⟩,⟨⟨_,Kq⟩,Kr,Ks⟩⟩⟩,mg_none_of X G z1,mg_none_of X G z2,mg_none_of X G z3,mg_none_of X G z4,mg_none_of X G z5,mg_none_of X G z6,mg_none_of X G z7,mg_none_of X G z8,mg_none_of X G z9,mg_none_of X G Pk,mg_none_of X G Pm,mg_none_of X G Pn,mg_none_of X G Po⟩;exact⟨fnOf "law" "law" (au (aO 50)) (ap (aO 50)) (am (aO 50)) .none hO hP hQ hp eG hR,λs v=> .of_eq rfl,λbase _ _=>B7 T F32⟩
theorem walk {l:PySem.W.OpenLaw} {q:Program} {loose:List Str} {XP:(Str->Option Value)->Heap->Prop} {YP:World->Heap->Prop} {d:DefRec} {K:Params->yax} (hn:l.most=some 63) (hdf:d.params.defaults=[])
 (hY:∀(w:World) (h:Heap),YP w h->(K w.params).In h)
 (F:∀(w:World) (mg:ydv) (fa:Addr) (h:Heap),(K w.params).In h->h.Ns mainGlobals mg->mg d.name=some (.ref fa)->
   ∃fd:FuncData,(∀(s:Shared) (u:Value),BindsTo s fd ⟨[u],[]⟩ [("_law_script",u)])/\∀base:Heap,(K w.params).In base->base.Ns mainGlobals mg->dQ l.prog w (K w.params) mg base tQ 100 fa fd ["_law_script"] (wB (K w.params) iR)):
 PySem.W.WalkO q loose XP YP l.row.toRowW d [] (λf vs=>PySem.call f vs):=
 L2.walk_ofC (n:=63) (k:=100) (x:="_law_script") (CX:=λ_=>tQ) (sp:=λw=>wB (K w.params) iR) hn (by decide) hdf ⟨rfl,by decide,by decide⟩ hY F (λ_ _ _ _ hl hc hO hS=>pV hO hS hl hc) λ_ _ _ _ _ z=>z
end Lw
namespace PySem.W.Fast
theorem te6449714672325791285:0=0:=rfl
theorem te1533567316211881566:0=0:=rfl
theorem te16934607212888152807:0=0:=rfl
theorem te967484226931760574:0=0:=rfl
theorem te18177409274738285004:0=0:=rfl
theorem te16191275697776430778:0=0:=rfl
theorem te3555537529677368828:0=0:=rfl
theorem te11884269985040511073:0=0:=rfl
theorem te6220270576859877406:0=0:=rfl
theorem te5363456750041188470:0=0:=rfl
theorem te3861641135395771858:0=0:=rfl
theorem te13001032886105348307:0=0:=rfl
theorem te5281346252011917951:0=0:=rfl
theorem te14345282843561163724:0=0:=rfl
theorem te5202110765315065182:0=0:=rfl
theorem te16086293554650205042:0=0:=rfl
theorem te10932713323934267225:0=0:=rfl
theorem te15542690649012403679:0=0:=rfl
theorem te14056961205826732426:0=0:=rfl
theorem te7008962948084552682:0=0:=rfl
theorem te12107954837842456008:0=0:=rfl
theorem te15542226620584398253:0=0:=rfl
theorem te6617044870996043344:0=0:=rfl
theorem te796531463349305235:0=0:=rfl
theorem te3502662776986552101:0=0:=rfl
theorem te1399898616998744111:0=0:=rfl
theorem te9223288227757227328:0=0:=rfl
theorem te12786131592299446358:0=0:=rfl
theorem te14242895365211143454:0=0:=rfl
theorem te16398920897747107894:0=0:=rfl
theorem te11990467725439305896:0=0:=rfl
theorem te13678150750712802570:0=0:=rfl
theorem te2481945566895658818:0=0:=rfl
theorem te11162280123273219673:0=0:=rfl
theorem te5864895983710480646:0=0:=rfl
theorem te4552591141733357237:0=0:=rfl
theorem te469615778572178592:0=0:=rfl
theorem te12075184252571927735:0=0:=rfl
theorem te10942136554123847334:0=0:=rfl
theorem te7874255352546725367:0=0:=rfl
theorem te13109138724082195916:0=0:=rfl
theorem te10560429288021823933:0=0:=rfl
theorem te8282022690826343389:0=0:=rfl
theorem te2350610214887245592:0=0:=rfl
theorem te13275514131713846921:0=0:=rfl
theorem te5280862534199002435:0=0:=rfl
theorem te290572769392533624:0=0:=rfl
theorem te7514544968306369451:0=0:=rfl
theorem te15114341835642800525:0=0:=rfl
theorem te10079873715426107701:0=0:=rfl
theorem te6543879852922373046:0=0:=rfl
theorem te7706852268644625363:0=0:=rfl
theorem te10595233098630481232:0=0:=rfl
theorem te3598790435212137178:0=0:=rfl
theorem te14557612891529845304:0=0:=rfl
theorem te15578097015528161789:0=0:=rfl
theorem te11085476179142105281:0=0:=rfl
theorem te2606477598038768907:0=0:=rfl
theorem te45503993869007061:0=0:=rfl
theorem te17677609217267731346:0=0:=rfl
theorem te3896154478740544500:0=0:=rfl
theorem te12326310401564793526:0=0:=rfl
theorem te1263268117072473633:0=0:=rfl
theorem te13226331020757489843:0=0:=rfl
theorem te13652226142600097246:0=0:=rfl
theorem te6769843558299948690:0=0:=rfl
theorem te3428588563124342535:0=0:=rfl
theorem te3050234099437670369:0=0:=rfl
theorem te4865125224539836728:0=0:=rfl
theorem te8515794359060628463:0=0:=rfl
theorem te13728605753467537446:0=0:=rfl
theorem te4960393421539046189:0=0:=rfl
theorem te16754827610753200042:0=0:=rfl
theorem te2821768945221243099:0=0:=rfl
theorem te14507935356881327037:0=0:=rfl
theorem te12503789988550016060:0=0:=rfl
theorem te261230662038254422:0=0:=rfl
theorem te17380149697263363357:0=0:=rfl
theorem te12235304492595519805:0=0:=rfl
theorem te16145099316224327814:0=0:=rfl
theorem te9537047826330347388:0=0:=rfl
theorem te10419064868824668283:0=0:=rfl
theorem te18434169103948044269:0=0:=rfl
theorem te7349677230979070287:0=0:=rfl
theorem te4286568353427968712:0=0:=rfl
theorem te15704548931707193384:0=0:=rfl
theorem te6704786288200501276:0=0:=rfl
theorem te6732885614902693915:0=0:=rfl
theorem te9165385699762642238:0=0:=rfl
theorem te1047451317447710182:0=0:=rfl
theorem te12601809359707961851:0=0:=rfl
theorem te10254249304007909436:0=0:=rfl
theorem te5416193138640807459:0=0:=rfl
theorem te10018389759487202903:0=0:=rfl
theorem te1145564839966082687:0=0:=rfl
theorem te8771509699764221297:0=0:=rfl
theorem te8659289952897332291:0=0:=rfl
theorem te11238464477442133533:0=0:=rfl
theorem te12717643634593718883:0=0:=rfl
theorem te17581076237870640745:0=0:=rfl
theorem te11271604405289466957:0=0:=rfl
theorem te607425661731853812:0=0:=rfl
theorem te7486933409141731292:0=0:=rfl
theorem te13263356741264461015:0=0:=rfl
theorem te5665893563981977342:0=0:=rfl
theorem te7366299522651022301:0=0:=rfl
theorem te15521272370826701713:0=0:=rfl
theorem te9374679516373820696:0=0:=rfl
theorem te1658768034897427853:0=0:=rfl
theorem te12943099253600175255:0=0:=rfl
theorem te6299342957762658490:0=0:=rfl
theorem te1394986861682375198:0=0:=rfl
theorem te227489495098249009:0=0:=rfl
theorem te589528498289092682:0=0:=rfl
theorem te14170542271376612765:0=0:=rfl
theorem te2680683277304810464:0=0:=rfl
theorem te14103941847007901215:0=0:=rfl
theorem te13605321395335230169:0=0:=rfl
theorem te6297341385947607017:0=0:=rfl
theorem te6188093402240316412:0=0:=rfl
theorem te12072705556264161463:0=0:=rfl
theorem te6964074838587143875:0=0:=rfl
theorem te10466502020327243467:0=0:=rfl
theorem te3886579364544655302:0=0:=rfl
theorem te10508961774308081890:0=0:=rfl
theorem te16328861939216847844:0=0:=rfl
theorem te10998341309738475618:0=0:=rfl
theorem te10027741225979724276:0=0:=rfl
theorem te2121194539020897160:0=0:=rfl
theorem te8467292423532537548:0=0:=rfl
theorem te14576885498686137897:0=0:=rfl
theorem te14481695153961012661:0=0:=rfl
theorem te4301413018417905884:0=0:=rfl
theorem te12789258717812112079:0=0:=rfl
theorem te17365549757417142056:0=0:=rfl
theorem te18254121543304754411:0=0:=rfl
theorem te17320258782574539989:0=0:=rfl
theorem te16865918450171860113:0=0:=rfl
theorem te14718874785981418816:0=0:=rfl
theorem te13359103777228712008:0=0:=rfl
theorem te8503093588087740173:0=0:=rfl
theorem te3504951936924371231:0=0:=rfl
theorem te5762397813273542957:0=0:=rfl
theorem te12661503771237049577:0=0:=rfl
theorem te12296066168815346532:0=0:=rfl
theorem te17109519814926910481:0=0:=rfl
theorem te12812487223608375347:0=0:=rfl
theorem te13251776922248318938:0=0:=rfl
theorem te3644622233011581816:0=0:=rfl
theorem te4005496809089291342:0=0:=rfl
theorem te3728269525395822117:0=0:=rfl
theorem te10925486190086345072:0=0:=rfl
theorem te17454959807120140598:0=0:=rfl
theorem te3643891060807307807:0=0:=rfl
theorem te4581161442903569309:0=0:=rfl
theorem te16852480885145913152:0=0:=rfl
theorem te17759832425431089823:0=0:=rfl
theorem te6758653443102074263:0=0:=rfl
theorem te13303267362060418174:0=0:=rfl
theorem te10915258444390381965:0=0:=rfl
theorem te11124858770086072621:0=0:=rfl
theorem te12834089153008633745:0=0:=rfl
theorem te7752142270766937077:0=0:=rfl
theorem te3895119729069496893:0=0:=rfl
theorem te1771995999696769591:0=0:=rfl
theorem te15689925824559062110:0=0:=rfl
theorem te10194716620589385562:0=0:=rfl
theorem te847587997167135248:0=0:=rfl
theorem te5642520254270530799:0=0:=rfl
theorem te15206921302040188287:0=0:=rfl
theorem te956753648919790087:0=0:=rfl
theorem te3614933682945134205:0=0:=rfl
theorem te3048489360779117939:0=0:=rfl
theorem te3733021548937605185:0=0:=rfl
theorem te7020064880426628477:0=0:=rfl
theorem te4929322823593091470:0=0:=rfl
theorem te12242256507760551450:0=0:=rfl
theorem te11207967997062277355:0=0:=rfl
theorem te14346620759147481204:0=0:=rfl
theorem te16163543848922782802:0=0:=rfl
theorem te10180033358841091509:0=0:=rfl
theorem te7564575904961858861:0=0:=rfl
theorem te5595546799526397870:0=0:=rfl
theorem te3141237128272345775:0=0:=rfl
theorem te14240098800647510800:0=0:=rfl
theorem te540268437276818140:0=0:=rfl
theorem te12613193771284001753:0=0:=rfl
theorem te13942339367799928270:0=0:=rfl
theorem te6935464121078847099:0=0:=rfl
theorem te11861418832327582121:0=0:=rfl
theorem te12246044202927047163:0=0:=rfl
theorem te10716906645396160955:0=0:=rfl
theorem te357897170778248891:0=0:=rfl
theorem te10902640655975730829:0=0:=rfl
theorem te16632089718266799810:0=0:=rfl
theorem te16634122343047386641:0=0:=rfl
theorem te3200424992571959466:0=0:=rfl
theorem te13346767773363128536:0=0:=rfl
theorem te9189590193858122211:0=0:=rfl
theorem te1884921981180972193:0=0:=rfl
theorem te18422949974154415775:0=0:=rfl
theorem te17607575953494054205:0=0:=rfl
theorem te8395272567990359080:0=0:=rfl
theorem te5898490050718303287:0=0:=rfl
theorem te9769859227300246793:0=0:=rfl
theorem te4785547146640762426:0=0:=rfl
theorem te10276962331468365901:0=0:=rfl
theorem te557333014313177904:0=0:=rfl
theorem te11296014692941807611:0=0:=rfl
theorem te6971853913352443381:0=0:=rfl
theorem te1846084632856431179:0=0:=rfl
theorem te7270594948600380823:0=0:=rfl
theorem te13777130887476640980:0=0:=rfl
theorem te8688190385782224316:0=0:=rfl
theorem te4016788379555000448:0=0:=rfl
theorem te4790941583721106442:0=0:=rfl
theorem te17570768236477754922:0=0:=rfl
theorem te7621710743567874150:0=0:=rfl
theorem te9064636205345357874:0=0:=rfl
theorem te2930971803266473591:0=0:=rfl
theorem te14273907064792383215:0=0:=rfl
theorem te8085155315518061064:0=0:=rfl
theorem te6324093023812827720:0=0:=rfl
theorem te10986752860293643364:0=0:=rfl
theorem te10157124664081766312:0=0:=rfl
theorem te6930570590999891342:0=0:=rfl
theorem te10892679314420859488:0=0:=rfl
theorem te11461591781341532241:0=0:=rfl
theorem te10995229547207051373:0=0:=rfl
theorem te4147954164978371495:0=0:=rfl
theorem te4158324360608696304:0=0:=rfl
theorem te3467600248473824667:0=0:=rfl
theorem te8269216402060217757:0=0:=rfl
theorem te11297023735470873699:0=0:=rfl
theorem te10366063199584142585:0=0:=rfl
theorem te18407814576271647658:0=0:=rfl
theorem te11269827473335663696:0=0:=rfl
theorem te4492041427947801018:0=0:=rfl
theorem te13294896878992477478:0=0:=rfl
theorem te13298484770429907223:0=0:=rfl
theorem te12126699851332538906:0=0:=rfl
theorem te4130263630027016544:0=0:=rfl
theorem te17488784619070267393:0=0:=rfl
theorem te11870134731270689967:0=0:=rfl
theorem te8434311589885982732:0=0:=rfl
theorem te2767175139795996682:0=0:=rfl
theorem te17240364681466243888:0=0:=rfl
theorem te12531389272095835928:0=0:=rfl
theorem te16846880377632245356:0=0:=rfl
theorem te16232077333172473126:0=0:=rfl
theorem te12494993547466822448:0=0:=rfl
theorem te2078497420869481689:0=0:=rfl
theorem te13909782856364280306:0=0:=rfl
theorem te11877178091892401828:0=0:=rfl
theorem te11935700614378280672:0=0:=rfl
theorem te801377750906241999:0=0:=rfl
theorem te1565288489276442661:0=0:=rfl
theorem te10051804544300929492:0=0:=rfl
theorem te6144252415031143351:0=0:=rfl
theorem te9619706765938770994:0=0:=rfl
theorem te6108393786622797330:0=0:=rfl
theorem te3707271401438182974:0=0:=rfl
theorem te17243371624041682006:0=0:=rfl
theorem te14926491554354639329:0=0:=rfl
theorem te13634372509045456089:0=0:=rfl
theorem te11357940998033939169:0=0:=rfl
theorem te17347366463752248047:0=0:=rfl
theorem te6454217339626484944:0=0:=rfl
theorem te11706201380782023595:0=0:=rfl
theorem te4630454154907740770:0=0:=rfl
theorem te3783589373951038252:0=0:=rfl
theorem te8426819195238442550:0=0:=rfl
theorem te1666237903486142321:0=0:=rfl
theorem te4456833228877795104:0=0:=rfl
theorem te8307386465443994326:0=0:=rfl
theorem te925259621483084307:0=0:=rfl
theorem te16600819857426768430:0=0:=rfl
theorem te6224921981964163973:0=0:=rfl
theorem te2292536243336388616:0=0:=rfl
theorem te17988808783553669688:0=0:=rfl
theorem te1071433067843879440:0=0:=rfl
theorem te8068383044294156827:0=0:=rfl
theorem te3241935542240673213:0=0:=rfl
theorem te14905015447495249143:0=0:=rfl
noncomputable def tw12526249914952084315:Unit:=()
noncomputable def tw1587192373706400536:Unit:=()
noncomputable def tw3735580574338334895:Unit:=()
noncomputable def tw13411936098429828890:Unit:=()
noncomputable def tw18434540386528586252:Unit:=()
noncomputable def tw15431548439442354701:Unit:=()
noncomputable def tw3687840504783759981:Unit:=()
noncomputable def tw474940305234605556:Unit:=()
noncomputable def tw7471323549665534398:Unit:=()
noncomputable def tw3658123954387457562:Unit:=()
noncomputable def tw9530782530364922049:Unit:=()
noncomputable def tw16899459614022268930:Unit:=()
noncomputable def tw483617896922896578:Unit:=()
noncomputable def tw11643042325065866979:Unit:=()
noncomputable def tw4613878438460408005:Unit:=()
noncomputable def tw2930972974029119333:Unit:=()
noncomputable def tw10078446929405185957:Unit:=()
noncomputable def tw16489732070283259975:Unit:=()
noncomputable def tw9921525653120619401:Unit:=()
noncomputable def tw3160597212109476685:Unit:=()
noncomputable def tw2494658739489134830:Unit:=()
noncomputable def tw1484020920170264594:Unit:=()
noncomputable def tw4484120421397963443:Unit:=()
noncomputable def tw16816173813142247283:Unit:=()
noncomputable def tw8021687232467226549:Unit:=()
noncomputable def tw12786844600426581948:Unit:=()
noncomputable def tw3796555918171567037:Unit:=()
noncomputable def tw3247664271570758238:Unit:=()
noncomputable def tw743125257467099006:Unit:=()
end PySem.W.Fast
open PySem PySem.W PyProof.Rows
set_option maxRecDepth 100000 in
set_option maxHeartbeats 0 in
theorem PySem.Challenge.cw_hydrahouse_k83_whole_run_holds : PySem.Challenge.rw_hydrahouse_k83_whole_run.Holds := by
 w_on;o_law;k_head;(case hw=>w_witness2)
 k_fill
 refine Lw.walk (l:=PySem.Challenge.rw_hydrahouse_k83_whole_run) rfl rfl (λw h Y=>PySem.W.kIn_of Y) ?F
 case F=>
  intro w mg fa h KX G hmg;refine' Lw.all_mk KX G hmg ?a1 ?l1 ?c1 ?k1 ?a2 ?l2 ?c2 ?k2 ?a3 ?l3 ?c3 ?k3 ?a4 ?l4 ?c4 ?k4 ?a5 ?l5 ?c5 ?k5 ?a6 ?l6 ?c6 ?k6 ?a7 ?l7 ?c7 ?k7 ?a8 ?l8 ?c8 ?k8 ?a9 ?l9 ?c9 ?k9 ?Nx ?Ny ?Nz ?NA ?NB ?NC ?ND ?NE ?NG ?NH ?NI ?NJ ?NK ?NL ?NM ?NN ?NO ?NP ?NQ ?NR ?NS ?NT ?NU ?NW ?NX ?NY ?NZ ?N0 ?N1 ?N2 ?N3 ?N4 ?N5 ?N6 ?N7 ?N8 ?N9 ?Oa ?Ob ?Oc ?Od ?Oe ?Of ?Og ?Oh ?Oi ?Oj ?Ok ?Ol ?Om ?On ?Oo ?Op ?Oq ?Os ?Ot ?Ou ?Ov ?Ow ?Ox ?Oy ?Oz ?OA ?OB ?OC ?OD ?OE ?OF ?OG ?OH ?OI ?OJ ?OK ?OL ?OM ?ON ?OO ?OP ?OQ ?OR ?OS ?OT ?OU ?OV ?OW ?OX ?OY ?OZ ?O0 ?O1 ?O2 ?O3 ?t1 ?t4 ?O4 ?O5 ?O6 ?O7 ?O8 ?O9 ?Pa ?sD ?s0 ?Ka ?Kb ?Kc ?Kd ?Ke ?Kf ?Kg ?Kh ?Ki ?Kj ?Kk ?Kl ?Km ?Kn ?Ko ?Kq ?Kr ?Ks ?Pb ?Kt ?Ku ?Kv ?Kw ?Kx ?Ky ?s1 ?s2 ?s3 ?pl ?s4 ?pm ?pn ?s5 ?po ?s6 ?pr ?en ?hf ?gk ?hg ?gm ?db ?Kz ?KA ?KB ?KC ?KD ?Pc ?KE ?KF ?KG ?KH ?KI ?KJ ?s7 ?s8 ?s9 ?pt ?ta ?pu ?py ?tb ?pU ?tc ?p0 ?eo ?hh ?gn ?hi ?go ?dd ?KK ?KL ?KM ?KN ?KO ?Pd ?KP ?KQ ?KR ?KS ?KU ?KW ?td ?te ?tg ?p1 ?th ?p2 ?p3 ?ti ?p4 ?tk ?p7 ?ep ?hj ?gp ?hk ?gq ?de ?KY ?KZ ?K0 ?K1 ?K2 ?Pe ?K3 ?K4 ?K5 ?K6 ?K7 ?K8 ?tm ?tn ?p8 ?to ?qa ?qb ?tr ?qn ?ts ?qs ?eq ?hm ?gt ?hn ?gu ?df ?K9 ?La ?Lb ?Lc ?Ld ?Pf ?Le ?Lf ?Lg ?Lh ?Li ?Lj ?tt ?tv ?tx ?ty ?qu ?tA ?qv ?qx ?t0 ?q1 ?t2 ?q2 ?er ?t3 ?q3 ?t5 ?q4 ?es ?Lk ?Ll ?Lm ?Ln ?Lo ?Pg ?Lp ?Lq ?Lr ?Ls ?Lu ?Lv ?t6 ?t7 ?t8 ?q5 ?ua ?q6 ?q7 ?ub ?q8 ?un ?q9 ?eu ?up ?ra ?ux ?rb ?ev ?Lx ?Ly ?Lz ?LB ?LC ?Ph ?LD ?LF ?LH ?LJ ?LK ?LL ?uy ?u1 ?u2 ?u8 ?va ?rc ?vb ?rd ?rf ?vc ?rg ?vl ?rh ?ew ?vr ?ri ?vs ?rj ?ex ?vu ?rn ?v1 ?ro ?ey ?LM ?LN ?LP ?LQ ?LU ?Pj ?LV ?LW ?LX ?LY ?LZ ?L0 ?v2 ?v3 ?v4 ?rp ?v8 ?rq ?rr ?we ?rs ?wi ?ru ?ez ?wl ?rv ?wn ?rw ?eD ?L1 ?L2 ?L3 ?L4 ?L5 ?z1 ?z2 ?z3 ?z4 ?z5 ?z6 ?z7 ?z8 ?z9 ?Pk ?Pm ?Pn ?Po
  case a1|l1|c1|k1|a2|l2|c2|k2|a3|l3|c3|k3|a4|l4|c4|k4|a5|l5|c5|k5|a6|l6|c6|k6|a7|l7|c7|k7|a8|l8|c8|k8|a9|l9|c9|k9|Nx|Ny|Nz|NA|NB|NC|ND|NE|NG|NH|NI|NJ|NK|NL|NM|NN|NO|NP|NQ|NR|NS|NT|NU|NW|NX|NY|NZ|N0|N1|N2|N3|N4|N5|N6|N7|N8|N9|Oa|Ob|Oc|Od|Oe|Of|Og|Oh|Oi|Oj|Ok|Ol|Om|On|Oo|Op|Oq|Os|Ot|Ou|Ov|Ow|Ox|Oy|Oz|OA|OB|OC|OD|OE|OF|OG|OH|OI|OJ|OK|OL|OM|ON|OO|OP|OQ|OR|OS|OT|OU|OV|OW|OX|OY|OZ|O0|O1|O2|O3|t1|t4|O4|O5=>k_is
  (case O6=>k_exc)
  case O7=>k_is
  (case O8=>k_exc)
  case O9=>k_is
  (case Pa=>k_exc)
  case sD|s0|Ka|Kb|Kc|Kd|Ke|Kf|Kg|Kh|Ki|Kj|Kk|Kl|Km|Kn|Ko|Kq|Kr|Ks|Pb|Kt|Ku|Kv|Kw|Kx|Ky|s1|s2|s3|pl|s4|pm|pn|s5|po|s6|pr|en|hf|gk|hg|gm|db|Kz|KA|KB|KC|KD|Pc|KE|KF|KG|KH|KI|KJ|s7|s8|s9|pt|ta|pu|py|tb|pU|tc|p0|eo|hh|gn|hi|go|dd|KK|KL|KM|KN|KO|Pd|KP|KQ|KR|KS|KU|KW|td|te|tg|p1|th|p2|p3|ti|p4|tk|p7|ep|hj|gp|hk|gq|de|KY|KZ|K0|K1|K2|Pe|K3|K4|K5|K6|K7|K8|tm|tn|p8|to|qa|qb|tr|qn|ts|qs|eq|hm|gt|hn|gu|df|K9|La|Lb|Lc|Ld|Pf|Le|Lf|Lg|Lh|Li|Lj|tt|tv|tx|ty|qu|tA|qv|qx|t0|q1|t2|q2|er|t3|q3|t5|q4|es|Lk|Ll|Lm|Ln|Lo|Pg|Lp|Lq|Lr|Ls|Lu|Lv|t6|t7|t8|q5|ua|q6|q7|ub|q8|un|q9|eu|up|ra|ux|rb|ev|Lx|Ly|Lz|LB|LC|Ph|LD|LF|LH|LJ|LK|LL|uy|u1|u2|u8|va|rc|vb|rd|rf|vc|rg|vl|rh|ew|vr|ri|vs|rj|ex|vu|rn|v1|ro|ey|LM|LN|LP|LQ|LU|Pj|LV|LW|LX|LY|LZ|L0|v2|v3|v4|rp|v8|rq|rr|we|rs|wi|ru|ez|wl|rv|wn|rw|eD|L1|L2|L3|L4|L5|z1|z2|z3|z4|z5|z6|z7|z8|z9|Pk|Pm|Pn|Po=>k_is
