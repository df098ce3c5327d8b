import PyProof.Rows.All
import Wide.All
import OpenK.AllK
import Wide.FinOn
import KE.KEqDict
import KE.KPairComp
import KE.KDictList
import KE.KRevSl
import PyProof.Rows.SetFrom
import KE.KRevIter
import KE.KDictOf
import KE.KSortAsk
import KE.KSortTup
import PyProof.Rows.SortRev
import KE.KDictSum
import PySem.Challenge.RW_hydrahouse_k68_exchanges_fall
set_option bootstrap.genMatcherCode false
-- CHANGE: your row's module here, as the wI of these rows
set_option Elab.async false
set_option linter.all false
set_option maxRecDepth 100000
open PySem.W (Looks clsIn codeIn excIn findIn fnOf hideAll hideAll_get hideAll_none instIn keepIn kia_one kitOne mg_none_of mg_of mroIn nsIn of_hideAll typeIn)
variable {K:PySem.W.Frag} {E:PySem.Value->PySem.Shared->Prop} {s:PySem.Shared} {A:PySem.Around} {w:PySem.World} {P:PySem.Program} {prog:PySem.Program} {π:List (PySem.Addr×PySem.Obj)} {mg:PySem.Str->Option PySem.Value} {pos:PySem.Pos} {us:List PySem.Value} {Q:PySem.Value->PySem.Shared->Prop} {x:PySem.Str} {e:PySem.Expr} {a:PySem.Addr} {k:Nat} {fd:PySem.FuncData} {base:PySem.Heap} {es:List PySem.Expr} {ps:List PySem.Str} {u:PySem.Value} {i:Nat} {st:PySem.Stmt} {bm:List PySem.Value} {scope:PySem.Scope} {body:List PySem.Stmt} {items:Array PySem.Value}
open List (any_cons any_eq_true append_assoc append_nil drop_eq_getElem_cons filterMap_cons flatten_cons length_append length_cons length_drop length_map length_nil length_take lookup_cons map_append map_cons map_map map_nil mem_append mem_append_left mem_append_right mem_cons mem_cons_of_mem mem_cons_self mem_map mem_reverse mem_singleton nil_append nodup_append nodup_cons nodup_nil not_mem_nil pairwise_cons replicate_succ set_cons_succ set_cons_zero set_set size_toArray zip_cons_cons)
abbrev wax:=@PySem.wpAny_bind
abbrev waz:=@PySem.wpAny_pure
open Nat (le_max_left le_max_right le_refl le_trans lt_irrefl lt_of_lt_of_le lt_or_ge max_le ne_of_lt zero_le)
namespace L2
open PySem PySem.Spec PyProof.Rows
noncomputable abbrev aC:=Sum Int Str
noncomputable def gK:aC->Value->Bool
 | .inl k,v=>Value.isInt k v
 | .inr x,v=>Value.isStrOf x v
noncomputable def Ak (w:World):aC->Int
 | .inl k=>hashInt k
 | .inr x=>hashStr w x
theorem bn:∀{k:aC} {v:Value},gK k v=true->(∃i t,k=Sum.inl i/\v=Value.int i t)∨(∃x t,k=Sum.inr x/\v=Value.str x t)
 | .inl i,v,h=>by
   obtain⟨t,e⟩:=Value.isInt_shape (k:=i) (v:=v) h;exact .inl ⟨i,t,rfl,e⟩
 | .inr x,v,h=>by
   obtain⟨t,e⟩:=Value.isStrOf_shape (x:=x) (v:=v) h;exact .inr ⟨x,t,rfl,e⟩
theorem oF (i:Int) (t:Tok):gK (.inl i) (.int i t)=true:=by simp[gK,Value.isInt]
theorem oG (x:Str) (t:Tok):gK (.inr x) (.str x t)=true:=by simp[gK,Value.isStrOf]
theorem vm (a b:Int):decide ((Sum.inl a:aC)=Sum.inl b)=(a==b):=by
 by_cases e:a=b
 ·subst e;simp
 ·have h:¬(Sum.inl a:aC)=Sum.inl b:=λq=>e (Sum.inl.inj q);rw[decide_eq_false h];exact(beq_eq_false_iff_ne.mpr e).symm
theorem vn (a b:Str):decide ((Sum.inr a:aC)=Sum.inr b)=decide (a=b):=by
 by_cases e:a=b
 ·subst e;simp
 ·have h:¬(Sum.inr a:aC)=Sum.inr b:=λq=>e (Sum.inr.inj q);rw[decide_eq_false h,decide_eq_false e]
theorem vo (a:Int) (b:Str):decide ((Sum.inl a:aC)=Sum.inr b)=false:=decide_eq_false (λq=>nomatch q)
theorem vp (a:Str) (b:Int):decide ((Sum.inr a:aC)=Sum.inl b)=false:=decide_eq_false (λq=>nomatch q)
noncomputable def aL (prog:Program) (w:World):PySem.KeyKind prog w aC where
 is:=gK
 hash:=Ak w
 inj:=λv a b ha hb=>by
  rcases bn ha with⟨i,t,rfl,rfl⟩ | ⟨x,t,rfl,rfl⟩
  ·rcases bn hb with⟨j,u,rfl,e⟩ | ⟨y,u,rfl,e⟩
   ·injection e with e1 _;rw[e1]
   ·exact nomatch e
  ·rcases bn hb with⟨j,u,rfl,e⟩ | ⟨y,u,rfl,e⟩
   ·exact nomatch e
   ·injection e with e1 _;rw[e1]
 byValue:=λk v h=>by
  rcases bn h with⟨i,t,rfl,rfl⟩ | ⟨x,t,rfl,rfl⟩<;> rfl
 pyHash:=λhv h=>by
  rcases bn hv with⟨i,t,rfl,rfl⟩ | ⟨x,t,rfl,rfl⟩
  ·exact wpAny_pyHash_int h
  ·exact wpAny_pyHash_str h
 eqBool:=λhu hv h=>by
  rcases bn hu with⟨i,t,rfl,rfl⟩ | ⟨x,t,rfl,rfl⟩
  ·rcases bn hv with⟨j,u,rfl,rfl⟩ | ⟨y,u,rfl,rfl⟩
   ·rw[vm] at h;exact wpAny_eqBool_int h
   ·rw[vo] at h;exact SeqAt.EqAt.int_str i t y u _ _ _ _ h
  ·rcases bn hv with⟨j,u,rfl,rfl⟩ | ⟨y,u,rfl,rfl⟩
   ·rw[vp] at h;exact SeqAt.EqAt.str_int x t j u _ _ _ _ h
   ·rw[vn] at h;exact wpAny_eqBool_str h
 «strs»:=λk x t v h=>by
  rcases bn h with⟨i,u,rfl,e⟩ | ⟨y,u,rfl,e⟩
  ·exact nomatch e
  ·injection e with e1 _
   subst e1;cases v<;> rfl
theorem kB (prog:Program) (w:World) (i:Int) (t:Tok):(aL prog w).is (.inl i) (.int i t)=true:=oF i t
theorem kC (prog:Program) (w:World) (x:Str) (t:Tok):(aL prog w).is (.inr x) (.str x t)=true:=oG x t
inductive V where
 | non | bl (b:Bool) | int (i:Int) | str (x:Str) | byt (b:Array UInt8) | flt (b:UInt64) | ref (a:Addr) | ty (n:String)
 deriving DecidableEq
noncomputable def aS:V->Value->Prop
 | .non,u=>u=Value.none
 | .bl b,u=>u=Value.bool b
 | .int i,u=>∃t,u=Value.int i t
 | .str x,u=>∃t,u=Value.str x t
 | .byt b,u=>∃t,u=Value.bytes b t
 | .flt b,u=>∃t,u=Value.float b t
 | .ref a,u=>u=Value.ref a
 | .ty n,u=>u=Value.type n
noncomputable abbrev aN:List V->List Value->Prop:=Paired aS
theorem aN.length {xs:List V} (r:aN xs us):xs.length=us.length:=Paired.length r
theorem aN.get:∀{xs:List V} {us:List Value} {i:Nat} {x:V},aN xs us->xs[i]?=some x->∃u,us[i]?=some u/\aS x u
 | _,_,_,_,.nil,e=>by simp at e
 | _,_,0,_,.cons r _,e=>by simp at e;subst e;exact⟨_,rfl,r⟩
 | _,_,i+1,x,.cons _ t,e=>by
   obtain⟨u,h1,h2⟩:=aN.get (i:=i) (x:=x) t (by simpa using e);exact⟨u,by simpa using h1,h2⟩
theorem aN.append:∀{xs ys:List V} {us ws:List Value},aN xs us->aN ys ws->aN (xs++ys) (us++ws)
 | _,_,_,_,.nil,s=>s
 | _,_,_,_,.cons r t,s=> .cons r (aN.append t s)
theorem aN.take:∀{xs:List V} {us:List Value} (n:Nat),aN xs us->aN (xs.take n) (us.take n)
 | _,_,0,_=> .nil
 | _,_,_+1,.nil=> .nil
 | _,_,n+1,.cons r t=> .cons r (aN.take n t)
theorem aN.drop:∀{xs:List V} {us:List Value} (n:Nat),aN xs us->aN (xs.drop n) (us.drop n)
 | _,_,0,r=>r
 | _,_,_+1,.nil=> .nil
 | _,_,n+1,.cons _ t=>aN.drop n t
noncomputable def fX:Option V->Option Value->Prop
 | some v,some u=>aS v u
 | none,none=>True
 | _,_=>False
noncomputable def KV {κ:Type}:List (κ×V)->List (κ×Value)->Prop:=Paired λ(p:κ×V) (q:κ×Value)=>p.1=q.1/\aS p.2 q.2
noncomputable def kV:aC->V
 | .inl i=> .int i
 | .inr x=> .str x
inductive HO where
 | lst (xs:List V)
 | tup (xs:List V)
 | dK (kvs:List (aC×V)) | dT (kvs:List (List aC×V))
 | set (S:Int->Bool) (n:Nat)
 | ins (C dx:Addr) (fs:List (Str×V))
 | own (x:Addr)
 | xd (fs:List (Str×V))
 | met (f x:Addr)
 | rng (lo hi:Int)
 | frz (o:Obj) (u:HO)
 | tbl (ps:Array Value)
 | ext (φ:Heap->Prop)
noncomputable abbrev Hp:=Addr->Option HO
noncomputable def upd (H:Hp) (a:Addr) (o:HO):Hp:=λb=>if b=a then some o else H b
theorem aU {H:Hp} {o:HO}:upd H a o a=some o:=by unfold upd;rw[if_pos rfl]
theorem ax {H:Hp} {a b:Addr} {o:HO} (h:b≠a):upd H a o b=H b:=by unfold upd;rw[if_neg h]
theorem jg {H:Hp} {a b:Addr} {o u:HO} (h:H a=some o) (h':H b=some u) (d:o≠u):a≠b:=by
 intro e;subst e;rw[h] at h';exact d (Option.some.inj h')
theorem aV {H:Hp} {a b:Addr} {o:HO} (h:H a=some o) (h':H b=none):a≠b:=by
 intro e;subst e;rw[h] at h';cases h'
section
variable (P:Program) (w:World)
noncomputable def bA (H:Hp) (h:Heap) (a:Addr):HO->Prop
 | .lst xs=>xs.length<=sizeLine/\∃(its:List Value) (n:Nat),aN xs its/\h.get? a=some { cls:= .type "list",data:= .seq its.toArray n }
 | .tup xs=>xs.length<=sizeLine/\∃its:List Value,aN xs its/\IsTup h a its.toArray
 | .dK kvs=>kvs.length<=sizeLine/\(a==sysModules)=false/\∃vs,KV kvs vs/\h.DictOf (aL P w) a vs
 | .dT kvs=>kvs.length<=sizeLine/\(a==sysModules)=false/\∃xs:List (List aC×Addr×Value),
    Paired (λ(p:List aC×V) (q:List aC×Addr×Value)=>p.1=q.1/\H q.2.1=some (.tup (p.1.map kV))/\aS p.2 q.2.2) kvs xs/\
    ∃o es ep,h.get? a=some o/\o.ExactDict/\o.data=.dict es ep/\es.toList=xs.map (entryOfKey (tupleKind (aL P w)))/\(xs.map (·.1)).Nodup
 | .set S n=>h.SetOf (intKind P w) a S n
 | .ins C dx fs=>H dx=some (.own a)/\fs.length<=1000/\dx≠a/\h.get? a=some (PySem.W.instObj C dx)/\
    ∃mA,h.Ns1 dx mA/\(∀f,fX (fs.lookup f) (mA f))/\PySem.Within mA (fs.map (·.1))
 | .own _=>∃o,h.get? a=some o
 | .xd fs=>∃mA,h.Ns1 a mA/\∀f,fX (fs.lookup f) (mA f)
 | .rng lo hi=>∃t u v,h.get? a=some { cls:= .type "range",data:= .fields #[.int lo t,.int hi u,.int 1 v] }
 | .frz o u=>h.get? a=some o/\bA H h a u
 | .tbl ps=>h.get? a=some { cls:= .none,data:= .fields ps }
 | .met f x=>h.get? a=some (PySem.W.methodObj (.ref f) (.ref x))
 | .ext φ=>φ h/\(∃o,h.get? a=some o)/\∀h1 h2:Heap,φ h1->(∀o,h1.get? a=some o->h2.get? a=some o)->φ h2
noncomputable def fu (H:Hp) (h:Heap):Prop:=∀a o,H a=some o->bA P w H h a o
end
section
variable {P:Program} {w:World} {H H':Hp} {h h':Heap} {a:Addr} {o:HO}
theorem bA.lt (x:bA P w H h a o):a<h.objs.size:=by
 cases o with
 | lst xs=>obtain⟨_,_,_,_,e⟩:=x;exact Heap.lt_size e
 | tup xs=>obtain⟨_,_,_,p⟩:=x;exact p.lt
 | dK kvs=>obtain⟨_,_,_,_,o,_,_,e,_⟩:=x;exact Heap.lt_size e
 | dT kvs=>obtain⟨_,_,_,_,o,_,_,e,_⟩:=x;exact Heap.lt_size e
 | set S n=>obtain⟨o,_,_,_,e,_⟩:=x;exact Heap.lt_size e
 | ins C dx fs=>obtain⟨_,_,_,e,_⟩:=x;exact Heap.lt_size e
 | own y=>obtain⟨_,e⟩:=x;exact Heap.lt_size e
 | xd fs=>obtain⟨_,⟨_,_,_,e,_⟩,_⟩:=x;exact Heap.lt_size e
 | rng lo hi=>obtain⟨_,_,_,e⟩:=x;exact Heap.lt_size e
 | frz ob u=>obtain⟨e,_⟩:=x;exact Heap.lt_size e
 | tbl ps=>exact Heap.lt_size (show h.get? a=some _ from x)
 | met f y=>exact Heap.lt_size (show h.get? a=some _ from x)
 | ext φ=>obtain⟨_,⟨_,e⟩,_⟩:=x;exact Heap.lt_size e
theorem Paired.mapP {α β:Type} {F G:α->β->Prop}:∀{l₁:List α} {l₂:List β},Paired F l₁ l₂->(∀a b,F a b->G a b)->Paired G l₁ l₂
 | _,_,.nil,_=> .nil
 | _,_,.cons r t,f=> .cons (f _ _ r) (Paired.mapP t f)
theorem bA.stay (x:bA P w H h a o) (k:∀b u,(b=a∨H b=some (.own a))->h.get? b=some u->h'.get? b=some u)
 (ho:∀b,H b=some (.own a)->H' b=some (.own a)) (ht:∀b xs,H b=some (.tup xs)->H' b=some (.tup xs)):bA P w H' h' a o:=by
 induction o with
 | lst xs=>obtain⟨z,its,n,r,e⟩:=x;exact⟨z,its,n,r,k _ _ (.inl rfl) e⟩
 | tup xs=>obtain⟨z,its,r,ob,e,c⟩:=x;exact⟨z,its,r,ob,k _ _ (.inl rfl) e,c⟩
 | dK kvs=>obtain⟨z,y,vs,r,ob,es,ep,e,c⟩:=x;exact⟨z,y,vs,r,ob,es,ep,k _ _ (.inl rfl) e,c⟩
 | dT kvs=>
   obtain⟨z,y,xs,r,ob,es,ep,e,c⟩:=x;exact⟨z,y,xs,Paired.mapP r λp q z=>⟨z.1,ht _ _ z.2.1,z.2.2⟩,ob,es,ep,k _ _ (.inl rfl) e,c⟩
 | set S n=>obtain⟨ob,es,ep,t,e,c⟩:=x;exact⟨ob,es,ep,t,k _ _ (.inl rfl) e,c⟩
 | ins C dx fs=>
   obtain⟨d,z,ne,e,mA,⟨od,es,ep,e2,c⟩,r⟩:=x;exact⟨ho _ d,z,ne,k _ _ (.inl rfl) e,mA,⟨od,es,ep,k _ _ (.inr d) e2,c⟩,r⟩
 | own y=>obtain⟨ob,e⟩:=x;exact⟨ob,k _ _ (.inl rfl) e⟩
 | xd fs=>obtain⟨mA,⟨od,es,ep,e,c⟩,r⟩:=x;exact⟨mA,⟨od,es,ep,k _ _ (.inl rfl) e,c⟩,r⟩
 | rng lo hi=>obtain⟨t,u,v,e⟩:=x;exact⟨t,u,v,k _ _ (.inl rfl) e⟩
 | frz ob u ih=>obtain⟨e,q⟩:=x;exact⟨k _ _ (.inl rfl) e,ih q⟩
 | tbl ps=>
   have e:h.get? a=some { cls:= .none,data:= .fields ps }:=x;show h'.get? a=some { cls:= .none,data:= .fields ps };exact k a _ (.inl rfl) e
 | met f y=>
   have e:h.get? a=some (PySem.W.methodObj (.ref f) (.ref y)):=x;show h'.get? a=some (PySem.W.methodObj (.ref f) (.ref y));exact k a _ (.inl rfl) e
 | ext φ=>obtain⟨p,⟨o,e⟩,st⟩:=x;exact⟨st _ _ p λo q=>k _ _ (.inl rfl) q,⟨o,k _ _ (.inl rfl) e⟩,st⟩
theorem fu.lt (x:fu P w H h) (e:H a=some o):a<h.objs.size:=(x a o e).lt
theorem fu.fresh (x:fu P w H h) (e:h.objs.size<=a):H a=none:=by
 cases q:H a with
 | none=>rfl
 | some u=>exact absurd (lt_of_lt_of_le (x.lt q) e) (lt_irrefl _)
theorem fu.kept (x:fu P w H h) (k:∀b u,h.get? b=some u->h'.get? b=some u):fu P w H h':=λa o e=>
 (x a o e).stay (λb u _ q=>k b u q) (λ_ q=>q) λ_ _ q=>q
theorem fu.laid (x:fu P w H h) (k:∀b u,h.get? b=some u->h'.get? b=some u) (hp:h.objs.size<=a) (new:bA P w (upd H a o) h' a o):fu P w (upd H a o) h':=λb u e=>by
 have hn:=x.fresh hp
 by_cases hb:b=a
 ·subst hb;rw[aU] at e;cases e;exact new
 ·rw[ax hb] at e;exact(x b u e).stay (λc v _ q=>k c v q) (λc q=>by rw[ax (aV q hn)];exact q) λc xs q=>by rw[ax (aV q hn)];exact q
end
noncomputable def Rd (H:Hp) (a:Addr) (u:HO):Prop:=H a=some u∨∃o,H a=some (.frz o u)
theorem Rd.ok {H:Hp} {h:Heap} {u:HO} (r:Rd H a u) (x:fu P w H h):bA P w H h a u:=by
 rcases r with r | ⟨o,r⟩
 ·exact x a u r
 ·obtain⟨_,q⟩:=x a _ r;exact q
noncomputable def xF:Option HO->Prop
 | some (.lst _)=>True
 | some (.dK _)=>True
 | some (.dT _)=>True
 | some (.set _ _)=>True
 | some (.ins _ _ _)=>True
 | some (.ext _)=>True
 | _=>False
section
variable {P:Program} {w:World} {H:Hp} {h h':Heap} {x e:Addr} {o':HO}
theorem fu.write (ok:fu P w H h) (mu:xF (H x)) (he:e=x∨H e=some (.own x)) (k:∀b u,b≠e->h.get? b=some u->h'.get? b=some u) (heo:∃u,h'.get? e=some u)
 (new:bA P w (upd H x o') h' x o'):fu P w (upd H x o') h':=λb u q=>by
 have nown:∀c y,H c=some (.own y)->c≠x:=λc y r z=>by subst z;rw[r] at mu;exact mu
 have ntup:∀c xs,H c=some (.tup xs)->c≠x:=λc xs r z=>by subst z;rw[r] at mu;exact mu
 by_cases hb:b=x
 ·subst hb;rw[aU] at q;cases q;exact new
 ·rw[ax hb] at q
  by_cases hbe:b=e
  ·have q':H b=some (.own x):=by
    rcases he with z | z
    ·exact absurd (hbe.trans z) hb
    ·rw[hbe];exact z
   rw[q] at q';cases q';obtain⟨v,hv⟩:=heo;exact⟨v,by rw[hbe];exact hv⟩
  ·refine(ok b u q).stay (λc v hc r=>k c v ?_ r) (λc r=>by rw[ax (nown c b r)];exact r) λc xs r=>by rw[ax (ntup c xs r)];exact r
   rcases hc with rfl | hc
   ·exact hbe
   ·rintro rfl;rcases he with z | z
    ·exact nown c b hc z
    ·rw[hc] at z;cases z;exact hb rfl
end
structure Un (fs ex:List Addr) (H H':Hp) (h h':Heap):Prop where
 keep:∀b o,h.get? b=some o->H b=none->b∉fs->b∉ex->h'.get? b=some o
 slot:∀b o,h.get? b=some o->H b=none->b∈fs->b∉ex->∃sl,h'.get? b=some { o with slots:=sl }
 free:∀b o,h.get? b=some o->H b=none->b∉ex->H' b=none
 there:∀b o,h.get? b=some o->b∉ex->∃o',h'.get? b=some o'
 tups:∀b xs,H b=some (.tup xs)->H' b=some (.tup xs)
 frzs:∀b o u,H b=some (.frz o u)->H' b=some (.frz o u)
 tbls:∀b ps,H b=some (.tbl ps)->∃more,H' b=some (.tbl (ps++more))
section
variable {fs fs' ex ex':List Addr} {H H1 H2:Hp} {h h1 h2 h':Heap} {a x e:Addr} {o:HO}
theorem Un.any (u:Un fs ex H H1 h h1) {b:Addr} {ob:Obj} (q:h.get? b=some ob) (n:H b=none) (hx:b∉ex):∃sl,h1.get? b=some { ob with slots:=sl }:=by
 by_cases hb:b∈fs
 ·exact u.slot b ob q n hb hx
 ·exact⟨ob.slots,u.keep b ob q n hb hx⟩
theorem Un.kept (k:∀b u,h.get? b=some u->h'.get? b=some u):Un fs ex H H h h':=
 ⟨λb ob q _ _ _=>k b ob q,λb ob q _ _ _=>⟨ob.slots,k b ob q⟩,λ_ _ _ n _=>n,λb ob q _=>⟨ob,k b ob q⟩,λ_ _ q=>q,λ_ _ _ q=>q,λ_ ps q=>⟨#[],by rw[q];simp⟩⟩
theorem Un.refl:Un fs ex H H h h:=Un.kept λ_ _ q=>q
theorem Un.laid (k:∀b u,h.get? b=some u->h'.get? b=some u) (hp:h.objs.size<=a) (hn:H a=none):Un fs ex H (upd H a o) h h' where
 keep:=λb u q _ _ _=>k b u q
 slot:=λb u q _ _ _=>⟨u.slots,k b u q⟩
 free:=λb u q n _=>by rw[ax (ne_of_lt (lt_of_lt_of_le (Heap.lt_size q) hp))];exact n
 there:=λb u q _=>⟨u,k b u q⟩
 tups:=λb xs q=>by rw[ax (aV q hn)];exact q
 frzs:=λb u xs q=>by rw[ax (aV q hn)];exact q
 tbls:=λb ps q=>⟨#[],by rw[ax (aV q hn),q];simp⟩
theorem Un.write (mu:xF (H x)) (he:e=x∨H e=some (.own x)) (k:∀b u,b≠e->h.get? b=some u->h'.get? b=some u) (heo:∃u,h'.get? e=some u):Un fs ex H (upd H x o) h h':=by
 have hx:∀b,H b=none->b≠x:=λb n z=>by subst z;rw[n] at mu;exact mu
 have hb:∀b,H b=none->b≠e:=λb n z=>by
  subst z;rcases he with r | r
  ·exact hx b n r
  ·rw[n] at r;cases r
 have hm:∀b u,H b=some u->¬xF (some u)->b≠x:=λb u q nm z=>by subst z;rw[q] at mu;exact nm mu
 refine⟨λb u q n _ _=>k b u (hb b n) q,λb u q n _ _=>⟨u.slots,k b u (hb b n) q⟩,λb u q n _=>by rw[ax (hx b n)];exact n,λb u q _=>?_,
  λb xs q=>by rw[ax (hm b _ q λz=>z)];exact q,λb u xs q=>by rw[ax (hm b _ q λz=>z)];exact q,λb ps q=>⟨#[],by rw[ax (hm b _ q λz=>z),q];simp⟩⟩
 by_cases hbe:b=e
 ·subst hbe;exact heo
 ·exact⟨u,k b u hbe q⟩
end
noncomputable def Ab (h:Heap) (H:Hp):List Addr:=(List.range h.objs.size).filter λa=>(H a).isSome
noncomputable def jI (h:Heap) (H:Hp):Heap:=hideAll h (Ab h H)
theorem oH (h:Heap) (H:Hp):(jI h H).objs.size=h.objs.size:=PySem.W.hideAll_size _ _
theorem pL {h:Heap} {H:Hp} {b:Addr} {o:Obj} (e:h.get? b=some o) (n:H b=none):(jI h H).get? b=some o:=
 hideAll_get _ e λhm=>by
  have q:(H b).isSome=true:=(List.mem_filter.mp hm).2;rw[n] at q;simp at q
theorem sk {h:Heap} {H:Hp} {b:Addr} {o:Obj} (e:(jI h H).get? b=some o):h.get? b=some o/\H b=none:=by
 have e':h.get? b=some o:=of_hideAll (Ab h H) e;refine⟨e',?_⟩;cases q:H b with
 | none=>rfl
 | some x=>
   have hm:b∈Ab h H:=List.mem_filter.mpr ⟨List.mem_range.mpr (Heap.lt_size e'),by simp[q]⟩;have z:(jI h H).get? b=none:=hideAll_none (Ab h H) hm;rw[z] at e;cases e
noncomputable def so (g h:Heap) (L:Addr):List (Addr×Obj):=(List.range h.objs.size).filterMap λa=>if a=L∨(g.get? a).isSome=true then none else (h.get? a).map λo=>(a,o)
noncomputable def bJ (g h:Heap) (L d:Addr):List (Addr×Obj):=(so g h L).filter λp=>decide (p.1≠d)
structure Mod (K:PySem.W.Frag) (mg:Str->Option Value) (base:Heap):Prop where
 kin:K.In base
 glob:base.Ns mainGlobals mg
 blt:∃mb,base.Ns builtinsNs mb/\∀x:Str,x≠"__name__"->mb x=bootBuiltins x
 nolimit:base.NoLimit
structure Cx where
 prog:Program
 w:World
 K:PySem.W.Frag
 mg:Str->Option Value
 base:Heap
 A:Around
 N:List Str
 s₀:Shared
 H₀:Hp
 env:Env
 outer:List Env
 stack:List Env
 ex:List Addr
 fn:Str->Bool
 calm:Bool
 pn:List (Addr×Obj)
 xe:Value->Shared->Prop
noncomputable def dS (l:List Env):List Addr:=l.filterMap (·.frame)
noncomputable abbrev Cx.fs (X:Cx):List Addr:=dS X.outer
noncomputable def pE (sc:Scope) (x:Str):Prop:=sc.names.lookup x=some .local∨sc.names.lookup x=some .cell∨sc.names.lookup x=some .free
noncomputable def uJ (sc:Scope) (x:Str):Prop:=sc.names.lookup x=some .local∨sc.names.lookup x=some .cell
noncomputable def An (env:Env) (h:Heap) (m:Str->Option Value) (x:Str) (u:Value):Prop:=
 (env.kindOf x=some .local/\m x=some u)∨((env.kindOf x=some .cell∨env.kindOf x=some .free)/\∃c,env.cells.lookup x=some c/\h.IsCell c (some u))
structure Cx.Ok (X:Cx):Prop where
 mod:Mod X.K X.mg X.base
 kind:X.env.scope.kind=.function
 glob:X.env.globals=mainGlobals
 blt:X.env.builtins=builtinsNs
 above:X.s₀.heap.objs.size<=X.env.locals
 inj:∀x y c,X.env.cells.lookup x=some c->X.env.cells.lookup y=some c->x=y
 has:∀x,(X.env.kindOf x=some .cell∨X.env.kindOf x=some .free)->∃c,X.env.cells.lookup x=some c
 cab:∀x c,X.fn x=true->X.env.cells.lookup x=some c->X.s₀.heap.objs.size<=c
 hd:X.calm=true->X.A.handled=none
 frames:X.A.frames=some X.stack
 stk:X.stack=X.outer∨(X.stack=X.env::X.outer/\X.env.frame=some X.env.locals)
 exf:∀b∈X.ex,b≠X.env.locals/\∀x c,X.env.cells.lookup x=some c->c≠b
 bs:∀b o,X.base.get? b=some o->X.s₀.heap.get? b=some o/\X.H₀ b=none
 bsz:X.base.objs.size<=X.s₀.heap.objs.size
 noex:∀b o,X.base.get? b=some o->b∉X.ex
 exfs:∀b∈X.ex,b∉X.fs
 funs:X.s₀.heap.FunFrames X.base X.outer
 frf:∀b∈X.fs,X.H₀ b=none
structure ay (X:Cx) (π:List (Addr×Obj)) (σ:List (Option V)) (H:Hp) (s:Shared):Prop where
 ok:X.Ok
 os:s.os=X.s₀.os
 bare:AllBare s.gens
 base:Un X.fs X.ex X.H₀ H X.s₀.heap s.heap
 loc:∃m,s.heap.Ns X.env.locals m/\∀(i:Nat) (x:Str) (v:V),X.N[i]?=some x->σ[i]?=some (some v)->pE X.env.scope x->∃u,aS v u/\An X.env s.heap m x u
 cell:∀x c,X.env.cells.lookup x=some c->∃v,s.heap.IsCell c v
 free:H X.env.locals=none
 freeC:∀x c,X.env.cells.lookup x=some c->H c=none
 pin:∀p∈X.pn++π,s.heap.get? p.1=some p.2/\H p.1=none/\p.1≠X.env.locals/\p.1∉X.fs/\∀v,p.2.data≠ .cell v
 hok:fu X.prog X.w H s.heap
 len:σ.length=X.N.length
section
variable {X:Cx} {π:List (Addr×Obj)} {σ:List (Option V)} {H H':Hp} {s:Shared} {h':Heap}
theorem Cx.Ok.nofr (ok:X.Ok) {b:Addr} {o:Obj} (e:X.base.get? b=some o):b∉X.fs:=λhb=>by
 have:=(ok.funs.mem hb).1;rw[e] at this;cases this
theorem ay.bs (I:ay X π σ H s):∀b o,X.base.get? b=some o->s.heap.get? b=some o/\H b=none:=λb o e=>
 ⟨I.base.keep b o (I.ok.bs b o e).1 (I.ok.bs b o e).2 (I.ok.nofr e) (I.ok.noex b o e),I.base.free b o (I.ok.bs b o e).1 (I.ok.bs b o e).2 (I.ok.noex b o e)⟩
theorem ay.bk (I:ay X π σ H s):∀b o,X.base.get? b=some o->s.heap.get? b=some o:=λb o e=>(I.bs b o e).1
theorem ay.mod (I:ay X π σ H s):Mod X.K X.mg X.base:=I.ok.mod
theorem ay.kIn (I:ay X π σ H s):X.K.In s.heap:=I.ok.mod.kin.keeps I.bk
theorem ay.lt (I:ay X π σ H s):X.env.locals<s.heap.objs.size:=let ⟨_,hn,_⟩:=I.loc;hn.lt
theorem ay.sz (I:ay X π σ H s):X.s₀.heap.objs.size<=s.heap.objs.size:=le_trans I.ok.above (Nat.le_of_lt I.lt)
theorem ay.nofs (I:ay X π σ H s) (h:s.heap.objs.size<=a):a∉X.fs:=λhb=>by
 obtain⟨_,o,ho,_⟩:=I.ok.funs.mem hb;exact absurd (lt_of_lt_of_le (Heap.lt_size ho) (le_trans I.sz h)) (lt_irrefl _)
theorem ay.cne (I:ay X π σ H s):∀x c,X.env.cells.lookup x=some c->c≠X.env.locals:=λx c e z=>by
 obtain⟨v,o,ho,hd⟩:=I.cell x c e;obtain⟨m,⟨o',es,ep,ho',hd',_⟩,_⟩:=I.loc;rw[z,ho'] at ho;cases ho;rw[hd'] at hd;cases hd
theorem ay.funs (I:ay X π σ H s):s.heap.FunFrames X.base X.outer:=by
 have all:∀(l:List Env),(∀b∈dS l,b∈X.fs)->X.s₀.heap.FunFrames X.base l->s.heap.FunFrames X.base l:=by
  intro l
  induction l with
  | nil=>intro _ _;trivial
  | cons env r ih=>
    intro hs hl;obtain⟨hk,⟨L,o,hf,hn,ho,hd⟩,hr⟩:=hl;have hL:L∈X.fs:=hs L (by unfold dS;rw[filterMap_cons,hf];exact mem_cons_self);obtain⟨sl,e⟩:=I.base.slot L o ho (I.ok.frf L hL) hL λz=>I.ok.exfs L z hL;exact⟨hk,⟨L,_,hf,hn,e,hd⟩,ih (λb hb=>hs b (by unfold dS;rw[filterMap_cons,hf];exact mem_cons_of_mem _ hb)) hr⟩
 exact all X.outer (λ_ hb=>hb) I.ok.funs
theorem ay.stack (I:ay X π σ H s):s.heap.FunFrames X.base X.stack:=by
 rcases I.ok.stk with e | ⟨e,hf⟩
 ·rw[e];exact I.funs
 ·rw[e];obtain⟨m,hn,_⟩:=I.loc;refine .cons (by rw[I.ok.kind];decide) hf hn ?_ I.funs;exact Heap.get?_none_of_le (le_trans I.ok.bsz I.ok.above)
theorem ay.stkSub (I:ay X π σ H s):∀b∈dS X.stack,b∈X.env.locals::X.fs:=λb hb=>by
 rcases I.ok.stk with e | ⟨e,hf⟩
 ·rw[e] at hb;exact mem_cons_of_mem _ hb
 ·rw[e] at hb;unfold dS at hb;rw[filterMap_cons,hf] at hb;exact hb
theorem ay.stkFree (I:ay X π σ H s):∀b∈dS X.stack,H b=none:=λb hb=>by
 rcases mem_cons.mp (I.stkSub b hb) with e | hb
 ·rw[e];exact I.free
 ·obtain⟨_,o,ho,_⟩:=I.ok.funs.mem hb;exact I.base.free b o ho (I.ok.frf b hb) λz=>I.ok.exfs b z hb
theorem ay.step {g':Array GenState} {t':Nat} {d':Drawn} {ch:List Addr} (I:ay X π σ H s)
 (hch:∀b∈ch,(b∈X.ex∨X.s₀.heap.objs.size<=b)/\b≠X.env.locals/\(∀x c,X.env.cells.lookup x=some c->c≠b)/\∀p∈X.pn++π,p.1≠b)
 (keep:∀b o,b≠X.env.locals->b∉X.fs->b∉ch->s.heap.get? b=some o->H b=none->h'.get? b=some o)
 (slot:∀b o,b≠X.env.locals->b∈X.fs->b∉ch->s.heap.get? b=some o->H b=none->∃sl,h'.get? b=some { o with slots:=sl }) (free:∀b o,b∉ch->s.heap.get? b=some o->H b=none->H' b=none)
 (there:∀b o,b∉ch->s.heap.get? b=some o->∃o',h'.get? b=some o')
 (tups:∀b xs,H b=some (.tup xs)->H' b=some (.tup xs)) (frzs:∀b o u,H b=some (.frz o u)->H' b=some (.frz o u)) (tbls:∀b ps,H b=some (.tbl ps)->∃more,H' b=some (.tbl (ps++more)))
 (ns:∀m,s.heap.Ns X.env.locals m->h'.Ns X.env.locals m) (hok:fu X.prog X.w H' h') (hg:AllBare g'):
 ay X π σ H' { s with heap:=h',gens:=g',drawn:=d',toks:=t' }:=by
 have neL:∀b o,X.s₀.heap.get? b=some o->b≠X.env.locals:=λb o e=>ne_of_lt (lt_of_lt_of_le (Heap.lt_size e) I.ok.above);have neC:∀b o,X.s₀.heap.get? b=some o->b∉X.ex->b∉ch:=λb o e hx hb=>by
  rcases(hch b hb).1 with z | z
  ·exact hx z
  ·exact absurd (lt_of_lt_of_le (Heap.lt_size e) z) (lt_irrefl _)
 have cellK:∀x c,X.env.cells.lookup x=some c->∀v,s.heap.IsCell c v->h'.IsCell c v:=λx c e v ⟨o,ho,hd⟩=>by
  have nch:c∉ch:=λz=>(hch c z).2.2.1 x c e rfl
  by_cases hc:c∈X.fs
  ·obtain⟨sl,q⟩:=slot c o (I.cne x c e) hc nch ho (I.freeC x c e);exact⟨_,q,hd⟩
  ·exact⟨o,keep c o (I.cne x c e) hc nch ho (I.freeC x c e),hd⟩
 refine⟨I.ok,I.os,hg,⟨λb o e n hb hx=>?_,λb o e n hb hx=>?_,λb o e n hx=>?_,λb o e hx=>?_,λb xs e=>tups b xs (I.base.tups b xs e),λb o xs e=>frzs b o xs (I.base.frzs b o xs e),λb ps e=>?_⟩,?_,λx c e=>?_,?_,λx c e=>?_,λp hp=>?_,hok,I.len⟩
 ·exact keep b o (neL b o e) hb (neC b o e hx) (I.base.keep b o e n hb hx) (I.base.free b o e n hx)
 ·obtain⟨sl,e1⟩:=I.base.slot b o e n hb hx;obtain⟨sl',e2⟩:=slot b _ (neL b o e) hb (neC b o e hx) e1 (I.base.free b o e n hx);exact⟨sl',e2⟩
 ·obtain⟨o',e1⟩:=I.base.there b o e hx;exact free b o' (neC b o e hx) e1 (I.base.free b o e n hx)
 ·obtain⟨o',e1⟩:=I.base.there b o e hx;exact there b o' (neC b o e hx) e1
 ·obtain⟨m1,e1⟩:=I.base.tbls b ps e;obtain⟨m2,e2⟩:=tbls b _ e1;exact⟨m1++m2,by rw[e2,Array.append_assoc]⟩
 ·obtain⟨m,hn,hl⟩:=I.loc;refine⟨m,ns m hn,λi x v e1 e2 e3=>?_⟩;obtain⟨u,r,l⟩:=hl i x v e1 e2 e3;refine⟨u,r,?_⟩;rcases l with l | ⟨k,c,e,z⟩
  ·exact .inl l
  ·exact .inr ⟨k,c,e,cellK x c e _ z⟩
 ·obtain⟨v,z⟩:=I.cell x c e;exact⟨v,cellK x c e v z⟩
 ·obtain⟨m,⟨o,_,_,ho,_⟩,_⟩:=I.loc;exact free _ o (λz=>(hch _ z).2.1 rfl) ho I.free
 ·obtain⟨v,o,ho,hd⟩:=I.cell x c e;exact free c o (λz=>(hch c z).2.2.1 x c e rfl) ho (I.freeC x c e)
 ·obtain⟨e,n,ne,nf,d⟩:=I.pin p hp;have nch:p.1∉ch:=λz=>(hch p.1 z).2.2.2 p hp rfl;exact⟨keep p.1 p.2 ne nf nch e n,free p.1 p.2 nch e n,ne,nf,d⟩
theorem ay.un {t':Nat} (I:ay X π σ H s) (u:Un X.fs [] H H' s.heap h') (hok:fu X.prog X.w H' h'):ay X π σ H' { s with heap:=h',toks:=t' }:=by
 obtain⟨m,⟨o,es,ep,ho,r⟩,_⟩:=id I.loc;obtain⟨sl,hL⟩:=u.any ho I.free (by simp);exact I.step (g':=s.gens) (d':=s.drawn) (ch:=[]) (λ_ z=>nomatch z) (λb o _ hb _ e n=>u.keep b o e n hb (by simp)) (λb o _ hb _ e n=>u.slot b o e n hb (by simp)) (λb o _ e n=>u.free b o e n (by simp)) (λb o _ e=>u.there b o e (by simp)) u.tups u.frzs u.tbls (λm' hm=>by
  obtain⟨o',es',ep',ho',r'⟩:=hm;rw[ho] at ho';cases ho';exact⟨_,es',ep',hL,r'⟩) hok I.bare
theorem ay.call {g':Array GenState} {t':Nat} {d':Drawn} {ch:List Addr} (I:ay X π σ H s) (u:Un (dS X.stack) ch H H' s.heap h') (hok:fu X.prog X.w H' h') (hg:AllBare g')
 (hch:∀b∈ch,(b∈X.ex∨X.s₀.heap.objs.size<=b)/\b≠X.env.locals/\(∀x c,X.env.cells.lookup x=some c->c≠b)/\∀p∈X.pn++π,p.1≠b):
 ay X π σ H' { s with heap:=h',gens:=g',drawn:=d',toks:=t' }:=by
 obtain⟨m,⟨o,es,ep,ho,r⟩,_⟩:=id I.loc;obtain⟨sl,hL⟩:=u.any ho I.free λz=>(hch _ z).2.1 rfl;exact I.step (ch:=ch) hch (λb o hL hb hc e n=>u.keep b o e n (λz=>(mem_cons.mp (I.stkSub b z)).elim hL hb) hc) (λb o _ _ hc e n=>u.any e n hc) (λb o hc e n=>u.free b o e n hc) (λb o hc e=>u.there b o e hc) u.tups u.frzs u.tbls (λm' hm=>by
  obtain⟨o',es',ep',ho',r'⟩:=hm;rw[ho] at ho';cases ho';exact⟨_,es',ep',hL,r'⟩) hok hg
theorem ay.turned {t':Nat} {it:Addr} (I:ay X π σ H s) (k:∀b o,b≠it->s.heap.get? b=some o->h'.get? b=some o) (hn:H it=none) (hL:it≠X.env.locals)
 (h1:it∈X.ex∨X.s₀.heap.objs.size<=it) (h2:∀x c,X.env.cells.lookup x=some c->c≠it) (h3:∀p∈X.pn++π,p.1≠it):ay X π σ H { s with heap:=h',toks:=t' }:=by
 have nit:∀b u,H b=some u->b≠it:=λb u e z=>by rw[z,hn] at e;cases e
 refine I.step (g':=s.gens) (d':=s.drawn) (ch:=[it]) (λb hb=>?_) (λb o _ _ hc e _=>k b o (λz=>hc (by simp[z])) e) (λb o _ _ hc e _=>⟨o.slots,k b o (λz=>hc (by simp[z])) e⟩) (λ_ _ _ _ n=>n)
  (λb o hc e=>⟨o,k b o (λz=>hc (by simp[z])) e⟩) (λ_ _ e=>e) (λ_ _ _ e=>e) (λb ps e=>⟨#[],by rw[e];simp⟩) (λm hm=>?_) (λb u e=>?_) I.bare
 ·have e:b=it:=by simpa using hb
  subst e;exact⟨h1,hL,h2,h3⟩
 ·obtain⟨o,es,ep,ho,r⟩:=hm;exact⟨o,es,ep,k _ o (Ne.symm hL) ho,r⟩
 ·refine(I.hok b u e).stay (λc v hc q=>k c v ?_ q) (λ_ q=>q) λ_ _ q=>q;rcases hc with z | z
  ·rw[z];exact nit b u e
  ·exact nit c _ z
theorem ay.tok (I:ay X π σ H s) (t:Nat):ay X π σ H { s with toks:=t }:=I.un (h':=s.heap) (t':=t) Un.refl I.hok
theorem ay.kept {t':Nat} (I:ay X π σ H s) (k:∀b u,s.heap.get? b=some u->h'.get? b=some u):ay X π σ H { s with heap:=h',toks:=t' }:=I.un (Un.kept k) (I.hok.kept k)
theorem ay.laid {o:HO} {t':Nat} (I:ay X π σ H s) (k:∀b u,s.heap.get? b=some u->h'.get? b=some u) (hp:s.heap.objs.size<=a) (new:bA X.prog X.w (upd H a o) h' a o):
 ay X π σ (upd H a o) { s with heap:=h',toks:=t' }:=I.un (Un.laid k hp (I.hok.fresh hp)) (I.hok.laid k hp new)
theorem ay.write {x e:Addr} {o:HO} {t':Nat} (I:ay X π σ H s) (mu:xF (H x)) (he:e=x∨H e=some (.own x)) (k:∀b u,b≠e->s.heap.get? b=some u->h'.get? b=some u) (heo:∃u,h'.get? e=some u)
 (new:bA X.prog X.w (upd H x o) h' x o):ay X π σ (upd H x o) { s with heap:=h',toks:=t' }:=I.un (Un.write mu he k heo) (I.hok.write mu he k heo new)
theorem ay.pins_of {pins':List (Addr×Obj)} (I:ay X π σ H s) (h:∀p∈pins',s.heap.get? p.1=some p.2/\H p.1=none/\p.1≠X.env.locals/\p.1∉X.fs/\∀v,p.2.data≠ .cell v):ay X pins' σ H s:=
 ⟨I.ok,I.os,I.bare,I.base,I.loc,I.cell,I.free,I.freeC,λp hp=>(mem_append.mp hp).elim (λz=>I.pin p (mem_append_left _ z)) (h p),I.hok,I.len⟩
theorem iq {N:List Str} (hN:N.Nodup) {i j:Nat} (a:N[i]?=some x) (b:N[j]?=some x):i=j:=by
 obtain⟨h1,e1⟩:=List.getElem?_eq_some_iff.mp a;obtain⟨h2,e2⟩:=List.getElem?_eq_some_iff.mp b;exact(List.getElem_inj hN).mp (e1.trans e2.symm)
theorem oI {M:Model} {v:V} {Q:Unit->Shared->Prop} (I:ay X π σ H s) (hN:X.N.Nodup) (hi:X.N[i]?=some x) (hx:uJ X.env.scope x) (r:aS v u)
 (h:∀s',ay X π (σ.set i (some v)) H s'->(∃a,Heap.SameBut a s.heap s'.heap/\(a=X.env.locals∨X.env.cells.lookup x=some a))->Q () s') (hf:X.fn x=true∨X.env.scope.names.lookup x=some .local:=by first | exact .inl rfl | exact .inr rfl | assumption):wpAny M A (storeName X.env x u) Q E s:=by
 obtain⟨m,hn,hl⟩:=id I.loc;have hcls:(X.env.scope.kind== .class||(X.env.scope.kind== .module&&X.env.locals !=X.env.globals))=false:=by rw[I.ok.kind];rfl
 have hiσ:i<σ.length:=by rw[I.len];exact(List.getElem?_eq_some_iff.mp hi).1
 have cne:=I.cne;have tracked:∀{a:Addr} {h':Heap},(∃o,s.heap.get? a=some o/\H a=none)->Heap.SameBut a s.heap h'->fu X.prog X.w H h':=λ{a h'} ha hs b ob e=>by
  obtain⟨_,_,hfree⟩:=ha;refine(I.hok b ob e).stay (λc w' hc q=>(hs.2 c ?_).trans q) (λ_ q=>q) λ_ _ q=>q;rintro rfl;rcases hc with rfl | hc
  ·rw[hfree] at e;cases e
  ·rw[hfree] at hc;cases hc
 rcases hx with hk | hk
 ·refine wpAny_storeName_local hk hn (λh' hn' hs=>?_) hcls;obtain⟨oL,_,_,hoL,_⟩:=id hn;refine h _ ⟨I.ok,I.os,I.bare,⟨λb o e n hb hx=>?_,λb o e n hb hx=>?_,I.base.free,λb o e hx=>?_,I.base.tups,I.base.frzs,I.base.tbls⟩,⟨_,hn',λj y v' e1 e2 e3=>?_⟩,λy c e=>?_,I.free,I.freeC,λp hp=>?_,tracked ⟨oL,hoL,I.free⟩ hs,by simpa using I.len⟩ ⟨_,hs,.inl rfl⟩
  ·exact(hs.2 b (ne_of_lt (lt_of_lt_of_le (Heap.lt_size e) I.ok.above))).trans (I.base.keep b o e n hb hx)
  ·obtain⟨sl,e1⟩:=I.base.slot b o e n hb hx;exact⟨sl,(hs.2 b (ne_of_lt (lt_of_lt_of_le (Heap.lt_size e) I.ok.above))).trans e1⟩
  ·obtain⟨o',e1⟩:=I.base.there b o e hx;exact⟨o',(hs.2 b (ne_of_lt (lt_of_lt_of_le (Heap.lt_size e) I.ok.above))).trans e1⟩
  ·by_cases hj:j=i
   ·subst hj;rw[hi] at e1;cases e1;rw[List.getElem?_set_self hiσ] at e2;cases e2;exact⟨u,r,.inl ⟨hk,by simp⟩⟩
   ·rw[List.getElem?_set_ne (Ne.symm hj)] at e2;obtain⟨u',r',q⟩:=hl j y v' e1 e2 e3;refine⟨u',r',?_⟩;rcases q with⟨k,e⟩ | ⟨k,c,e,z⟩
    ·refine .inl ⟨k,?_⟩;have:y≠x:=λe=>hj (iq hN e1 (e▸hi));simp[this,e]
    ·exact .inr ⟨k,c,e,z.sameBut hs (cne y c e)⟩
  ·obtain⟨w',z⟩:=I.cell y c e;exact⟨w',z.sameBut hs (cne y c e)⟩
  ·obtain⟨e,n,ne,nf,d⟩:=I.pin p hp;exact⟨(hs.2 p.1 ne).trans e,n,ne,nf,d⟩
 ·have hfn:X.fn x=true:=by
   rcases hf with z | z
   ·exact z
   ·rw[z] at hk;cases hk
  obtain⟨c,hc⟩:=I.ok.has x (.inl hk);obtain⟨w',z⟩:=I.cell x c hc;refine wpAny_storeName_cell I.ok.kind hk hc z (λh' hc' hs=>?_);obtain⟨oc,hoc,hocd⟩:=id z;refine h { s with heap:=h' } ⟨I.ok,I.os,I.bare,⟨λb o e n hb hx=>?_,λb o e n hb hx=>?_,I.base.free,λb o e hx=>?_,I.base.tups,I.base.frzs,I.base.tbls⟩,⟨m,hn.sameBut hs (Ne.symm (cne x c hc)),λj y v' e1 e2 e3=>?_⟩,λy c' e=>?_,I.free,I.freeC,λp hp=>?_,tracked ⟨oc,hoc,I.freeC x c hc⟩ hs,by simpa using I.len⟩ ⟨c,hs,.inr hc⟩
  ·exact(hs.2 b (ne_of_lt (lt_of_lt_of_le (Heap.lt_size e) (I.ok.cab x c hfn hc)))).trans (I.base.keep b o e n hb hx)
  ·obtain⟨sl,e1⟩:=I.base.slot b o e n hb hx;exact⟨sl,(hs.2 b (ne_of_lt (lt_of_lt_of_le (Heap.lt_size e) (I.ok.cab x c hfn hc)))).trans e1⟩
  ·obtain⟨o',e1⟩:=I.base.there b o e hx;exact⟨o',(hs.2 b (ne_of_lt (lt_of_lt_of_le (Heap.lt_size e) (I.ok.cab x c hfn hc)))).trans e1⟩
  ·by_cases hj:j=i
   ·subst hj;rw[hi] at e1;cases e1;rw[List.getElem?_set_self hiσ] at e2;cases e2;exact⟨u,r,.inr ⟨.inl hk,c,hc,hc'⟩⟩
   ·rw[List.getElem?_set_ne (Ne.symm hj)] at e2;obtain⟨u',r',q⟩:=hl j y v' e1 e2 e3;refine⟨u',r',?_⟩;rcases q with q | ⟨k,c',e,z'⟩
    ·exact .inl q
    ·refine .inr ⟨k,c',e,z'.sameBut hs ?_⟩;rintro rfl;exact hj (iq hN e1 (I.ok.inj _ _ _ e hc▸hi))
  ·by_cases hcc:c'=c
   ·subst hcc;exact⟨_,hc'⟩
   ·obtain⟨w2,z2⟩:=I.cell y c' e;exact⟨w2,z2.sameBut hs hcc⟩
  ·obtain⟨e,n,ne,nf,d⟩:=I.pin p hp;refine⟨(hs.2 p.1 ?_).trans e,n,ne,nf,d⟩;intro q;rw[q,hoc] at e;have q':oc=p.2:=Option.some.inj e;exact d w' (by rw[←q'];exact hocd)
theorem fA {M:Model} {v:V} {Q:Unit->Shared->Prop} (I:ay X π σ H s) (hN:X.N.Nodup) (hi:X.N[i]?=some x) (hx:uJ X.env.scope x) (r:aS v u)
 (h:∀s',ay X π (σ.set i (some v)) H s'->Q () s') (hf:X.fn x=true∨X.env.scope.names.lookup x=some .local:=by first | exact .inl rfl | exact .inr rfl | assumption):wpAny M A (storeName X.env x u) Q E s:=
 oI I hN hi hx r (λs' I' _=>h s' I') hf
theorem ay.call' {s':Shared} {ch:List Addr} (I:ay X π σ H s) (ho:s'.os=s.os) (u:Un (dS X.stack) ch H H' s.heap s'.heap) (hok:fu X.prog X.w H' s'.heap) (hg:AllBare s'.gens)
 (hch:∀b∈ch,(b∈X.ex∨X.s₀.heap.objs.size<=b)/\b≠X.env.locals/\(∀x c,X.env.cells.lookup x=some c->c≠b)/\∀p∈X.pn++π,p.1≠b):ay X π σ H' s':=by
 obtain⟨h',g',d',t',o'⟩:=s';have e:o'=s.os:=ho;subst e;exact I.call (g':=g') (t':=t') (d':=d') u hok hg hch
end
noncomputable abbrev XK:=Value->Option Addr->Hp->Prop
noncomputable abbrev St:=List (Option V)
noncomputable abbrev VK:=V->Hp->Prop
noncomputable abbrev TE:=St->Hp->VK->Prop
noncomputable abbrev TT:=St->Hp->(Bool->Hp->Prop)->Prop
noncomputable abbrev TA:=St->Hp->(List V->Hp->Prop)->Prop
structure dW where
 nx:St->Hp->Prop
 rt:VK
 bk:St->Hp->Prop:=λ_ _=>False
 ct:St->Hp->Prop:=λ_ _=>False
noncomputable abbrev TS:=dW->St->Hp->Prop
noncomputable def EP (X:Cx) (π:List (Addr×Obj)) (σ:St) (Q:VK) (u:Value) (s':Shared):Prop:=∃v H',ay X π σ H' s'/\aS v u/\Q v H'
noncomputable def TP (X:Cx) (π:List (Addr×Obj)) (σ:St) (Q:Bool->Hp->Prop) (b:Bool) (s':Shared):Prop:=∃H',ay X π σ H' s'/\Q b H'
noncomputable def AP (X:Cx) (π:List (Addr×Obj)) (σ:St) (Q:List V->Hp->Prop) (us:List Value) (s':Shared):Prop:=∃vs H',ay X π σ H' s'/\aN vs us/\Q vs H'
noncomputable def SP (X:Cx) (π:List (Addr×Obj)) (D:dW) (f:Flow) (s':Shared):Prop:=
 match f with
 | .next=>∃σ' H',ay X π σ' H' s'/\D.nx σ' H'
 | .brk=>∃σ' H',ay X π σ' H' s'/\D.bk σ' H'
 | .cont=>∃σ' H',ay X π σ' H' s'/\D.ct σ' H'
 | .ret u=>∃v σ' H',ay X π σ' H' s'/\aS v u/\D.rt v H'
noncomputable def PE (X:Cx) (e:Expr) (t:TE):Prop:=
 ∀(π:List (Addr×Obj)) (s:Shared) (σ:St) (H:Hp) (Q:VK),ay X π σ H s->t σ H Q->wpAny (model X.prog X.w) X.A (eval e X.env) (EP X π σ Q) X.xe s
noncomputable def PT (X:Cx) (e:Expr) (t:TT):Prop:=
 ∀(π:List (Addr×Obj)) (s:Shared) (σ:St) (H:Hp) (Q:Bool->Hp->Prop),ay X π σ H s->t σ H Q->wpAny (model X.prog X.w) X.A (isTrue e X.env (eval e X.env)) (TP X π σ Q) X.xe s
noncomputable def PW (X:Cx) (e:Expr) (t:TT):Prop:=
 ∀(whole:Sem Value) (π:List (Addr×Obj)) (s:Shared) (σ:St) (H:Hp) (Q:Bool->Hp->Prop),ay X π σ H s->t σ H Q->wpAny (model X.prog X.w) X.A (isTrue e X.env whole) (TP X π σ Q) X.xe s
theorem PW.pt {X:Cx} {t:TT} (h:PW X e t):PT X e t:=h _
noncomputable def PA (X:Cx) (es:List Expr) (t:TA):Prop:=
 ∀(pos:Pos) (π:List (Addr×Obj)) (s:Shared) (σ:St) (H:Hp) (Q:List V->Hp->Prop),ay X π σ H s->t σ H Q->wpAny (model X.prog X.w) X.A (spliced (backTo pos (starEach es X.env))) (AP X π σ Q) X.xe s
noncomputable def PS (X:Cx) (st:Stmt) (t:TS):Prop:=
 ∀(π:List (Addr×Obj)) (s:Shared) (σ:St) (H:Hp) (D:dW),ay X π σ H s->t D σ H->wpAny (model X.prog X.w) X.A (exec st X.env) (SP X π D) X.xe s
noncomputable def kA (X:Cx) (st:List Stmt) (t:TS):Prop:=
 ∀(π:List (Addr×Obj)) (s:Shared) (σ:St) (H:Hp) (D:dW),ay X π σ H s->t D σ H->wpAny (model X.prog X.w) X.A (execs st X.env) (SP X π D) X.xe s
theorem bN {α:Type} {t:Sem α} {Q Q':α->Shared->Prop} {M:Model} (h:wpAny M A t Q E s) (hQ:∀a s,Q a s->Q' a s):wpAny M A t Q' E s:=wpAny_mono h hQ λ_ _ x=>x
section
variable {X:Cx}
noncomputable def oJ (i:Nat):TE:=λσ H Q=>∃v,σ[i]?=some (some v)/\Q v H
noncomputable def tC (v:V):TE:=λ_ H Q=>Q v H
theorem fc (hN:X.N[i]?=some x) (hv:pE X.env.scope x) (hd:(x==("__debug__":Str))=false:=by decide) (hcd:(x==("__classdict__":Str))=false:=by decide):PE X (.Name x pos) (oJ i):=by
 intro π s σ H Q I h;obtain⟨v,e,h⟩:=h;obtain⟨m,hn,hl⟩:=I.loc;obtain⟨u,r,l⟩:=hl i x v hN e hv;have fin:EP X π σ Q u s:=⟨v,H,I,r,h⟩;rcases l with⟨hk,hm⟩ | ⟨hk,c,hc,hcell⟩
 ·exact wpAny_Name (wpAny_loadName_local I.ok.kind hk hn hm fin) hd
 ·rcases hk with hk | hk
  ·exact wpAny_Name (wpAny_loadName_cell I.ok.kind hk hc hcell fin) hd
  ·exact wpAny_Name (wpAny_loadName_free I.ok.kind hk hc hcell fin hcd) hd
theorem pM {i j pos}:PE X (.Constant (.int i) j pos) (tC (.int i)):=λ_ _ _ H _ I h=>wpAny_Constant_int ⟨.int i,H,I.tok _,⟨_,rfl⟩,h⟩
theorem uK {b j pos}:PE X (.Constant (.bool b) j pos) (tC (.bl b)):=λ_ _ _ H _ I h=>Constant_bool ⟨.bl b,H,I,rfl,h⟩
theorem vq {j pos}:PE X (.Constant .none j pos) (tC .non):=λ_ _ _ H _ I h=>Constant_none ⟨.non,H,I,rfl,h⟩
theorem lO {x j pos}:PE X (.Constant (.str x) j pos) (tC (.str x)):=λ_ _ _ H _ I h=>Calls.Constant_str ⟨.str x,H,I.tok _,⟨_,rfl⟩,h⟩
noncomputable def Gl (X:Cx) (x:Str):Prop:=X.env.kindOf x=some .globalImplicit
theorem cS {σ:St} {H:Hp} (I:ay X π σ H s) (hg:Gl X x) (hm:X.mg x=some u) (h:Q u s)
 (hd:(x==("__debug__":Str))=false:=by decide):wpAny (model X.prog X.w) X.A (eval (.Name x pos) X.env) Q E s:=
 Calls.Name_function_global I.ok.kind hg (Calls.loadGlobal_global (by rw[I.ok.glob];exact I.mod.glob.keeps I.bk) hm h) hd
theorem fe {σ:St} {H:Hp} (I:ay X π σ H s) (hg:Gl X x) (hm:X.mg x=none) (hv:bootBuiltins x=some u) (h:Q u s)
 (hn:x≠"__name__":=by decide) (hd:(x==("__debug__":Str))=false:=by decide):wpAny (model X.prog X.w) X.A (eval (.Name x pos) X.env) Q E s:=by
 obtain⟨mb,h1,h2⟩:=I.mod.blt;exact Calls.Name_function_global I.ok.kind hg (Calls.loadGlobal_builtin (by rw[I.ok.glob];exact I.mod.glob.keeps I.bk) hm (by rw[I.ok.blt];exact h1.keeps I.bk) ((h2 x hn).trans hv) h) hd
theorem nl {v:V} (hg:Gl X x) (hm:X.mg x=some u) (r:aS v u) (hd:(x==("__debug__":Str))=false:=by decide):PE X (.Name x pos) (tC v):=
 λ_ _ _ H _ I h=>cS I hg hm ⟨v,H,I,r,h⟩ hd
theorem jJ {v:V} (hg:Gl X x) (hm:X.mg x=none) (hv:bootBuiltins x=some u) (r:aS v u) (hn:x≠"__name__":=by decide) (hd:(x==("__debug__":Str))=false:=by decide):PE X (.Name x pos) (tC v):=
 λ_ _ _ H _ I h=>fe I hg hm hv ⟨v,H,I,r,h⟩ hn hd
variable {a b:Expr} {ta tb:TE} {pos:Pos}
noncomputable def tB (t:TE):TT:=λσ H Q=>t σ H λx H1=>∃c,x=.bl c/\Q c H1
theorem vt {t:TE} (h:PE X e t) (he:∀whole,isTrue e X.env whole=(do let v ←whole;standAt e.pos;holding [v] (truthy v)):=by intro _;rfl):PT X e (tB t):=by
 intro π s σ H Q I hw;refine isTrue_plain (bN (h π s σ H _ I hw) λv s1 z9=>?_) (he _);obtain⟨x,H1,I1,r1,q1⟩:=z9;obtain⟨d,rfl,q⟩:=q1;cases r1;exact wpAny_truthy_bool ⟨H1,I1,q⟩
variable {tA tB':TT} {bJ:List Expr}
noncomputable def Ao (t u:TT):TT:=λσ H Q=>t σ H λc H1=>if c=true then u σ H1 Q else Q false H1
noncomputable def BX (t u:TT):TT:=λσ H Q=>t σ H λc H1=>if c=true then Q true H1 else u σ H1 Q
noncomputable def Ap (t:TT):TT:=λσ H Q=>t σ H λc H1=>Q (!c) H1
theorem sr (ha:PT X a tA):PW X (.BoolOp .And [a] pos) tA:=by
 intro wh π s σ H Q I h;refine isTrue_and (bN (ha π s σ H Q I h) λc s1 e=>?_);cases c with
 | true=>exact isTrue_and_nil e
 | false=>exact e
theorem vw (ha:PT X a tA):PW X (.BoolOp .Or [a] pos) tA:=by
 intro wh π s σ H Q I h;refine isTrue_or (bN (ha π s σ H Q I h) λc s1 e=>?_);cases c with
 | false=>exact isTrue_or_nil e
 | true=>exact e
theorem vx (ha:PT X a tA) (hb:PW X (.BoolOp .And (b::bJ) pos) tB'):PW X (.BoolOp .And (a::b::bJ) pos) (Ao tA tB'):=by
 intro wh π s σ H Q I h;refine isTrue_and (bN (ha π s σ H _ I h) λc s1 z9=>?_);obtain⟨H1,I1,q1⟩:=z9;cases c with
 | true=>exact hb wh π s1 σ H1 Q I1 q1
 | false=>exact⟨H1,I1,q1⟩
theorem xG (ha:PT X a tA) (hb:PW X (.BoolOp .Or (b::bJ) pos) tB'):PW X (.BoolOp .Or (a::b::bJ) pos) (BX tA tB'):=by
 intro wh π s σ H Q I h;refine isTrue_or (bN (ha π s σ H _ I h) λc s1 z9=>?_);obtain⟨H1,I1,q1⟩:=z9;cases c with
 | true=>exact⟨H1,I1,q1⟩
 | false=>exact hb wh π s1 σ H1 Q I1 q1
theorem vy (ha:PT X a tA):PT X (.UnaryOp .Not a pos) (Ap tA):=by
 intro π s σ H Q I h;exact isTrue_not (ha π s σ H (λc H1=>Q (!c) H1) I h)
noncomputable def xI (ta tb:TE):TE:=λσ H Q=>ta σ H λx H1=>∃c,x=.bl c/\if c=true then tb σ H1 Q else Q (.bl false) H1
noncomputable def xJ (ta:TE):TE:=λσ H Q=>ta σ H λx H1=>∃c,x=.bl c/\Q (.bl (!c)) H1
theorem vz {op} {t:TE} (h:PE X a t):PE X (.BoolOp op [a] pos) t:=λπ s σ H Q I hw=>BoolOp_one (h π s σ H Q I hw)
theorem vA (ha:PE X a ta) (hb:PE X (.BoolOp .And (b::bJ) pos) tb):PE X (.BoolOp .And (a::b::bJ) pos) (xI ta tb):=by
 intro π s σ H Q I h;refine BoolOp_and (bN (ha π s σ H _ I h) λv s1 z9=>?_);obtain⟨x,H1,I1,r1,q1⟩:=z9;obtain⟨c,rfl,q1⟩:=q1;cases r1;refine wpAny_truthy_bool ?_;cases c with
 | true=>exact hb π s1 σ H1 Q I1 q1
 | false=>exact⟨.bl false,H1,I1,rfl,q1⟩
theorem vB (ha:PE X a ta):PE X (.UnaryOp .Not a pos) (xJ ta):=by
 intro π s σ H Q I h;refine UnaryOp_ (bN (ha π s σ H _ I h) λv s1 z9=>?_);obtain⟨x,H1,I1,r1,q1⟩:=z9;obtain⟨c,rfl,q1⟩:=q1;cases r1;exact not_of (wpAny_truthy_bool ⟨.bl (!c),H1,I1,rfl,q1⟩)
noncomputable def BY (t:TT) (ta tb:TE):TE:=λσ H Q=>t σ H λc H1=>if c=true then ta σ H1 Q else tb σ H1 Q
theorem pN {c:Expr} (hc:PT X c tA) (ha:PE X a ta) (hb:PE X b tb):PE X (.IfExp c a b pos) (BY tA ta tb):=by
 intro π s σ H Q I h;refine wpAny_IfExp (bN (hc π s σ H _ I h) λd s1 z9=>?_);obtain⟨H1,I1,q1⟩:=z9;cases d with
 | true=>exact ha π s1 σ H1 Q I1 q1
 | false=>exact hb π s1 σ H1 Q I1 q1
end
noncomputable def cR (K:PySem.W.Frag) (H:Hp) (a:Addr) (xs:List V):Prop:=
 Rd H a (.lst xs)∨
  ∃(o:Obj) (its:Array Value) (n:Nat),K.lookup a=some o/\o.cls=.type "list"/\o.dict=none/\o.data=.seq its n/\its.size<=sizeLine/\aN xs its.toList
noncomputable def du (K:PySem.W.Frag) (H:Hp) (a:Addr) (xs:List V):Prop:=
 Rd H a (.tup xs)∨
  ∃(o:Obj) (its:Array Value) (n:Nat),K.lookup a=some o/\o.cls=.type "tuple"/\o.data=.seq its n/\its.size<=sizeLine/\aN xs its.toList
noncomputable def Aq:Value->Option V
 | .none=>some .non
 | .bool b=>some (.bl b)
 | .int i _=>some (.int i)
 | .str x _=>some (.str x)
 | .bytes b _=>some (.byt b)
 | .float b _=>some (.flt b)
 | .ref a=>some (.ref a)
 | .type n=>some (.ty n)
 | _=>none
theorem aS.abs {x:V} (r:aS x u):Aq u=some x:=by
 cases x with
 | non=>cases r;rfl
 | bl _=>cases r;rfl
 | int _=>obtain⟨t,rfl⟩:=r;rfl
 | str _=>obtain⟨t,rfl⟩:=r;rfl
 | byt _=>obtain⟨t,rfl⟩:=r;rfl
 | flt _=>obtain⟨t,rfl⟩:=r;rfl
 | ref _=>cases r;rfl
 | ty _=>cases r;rfl
theorem aS.inj {x y:V} (r:aS x u) (q:aS y u):x=y:=Option.some.inj (r.abs.symm.trans q.abs)
theorem aN.inj:∀{xs ys:List V} {us:List Value},aN xs us->aN ys us->xs=ys
 | _,_,_,.nil,.nil=>rfl
 | _,_,_,.cons r t,.cons r' t'=>by rw[r.inj r',aN.inj t t']
section
variable {X:Cx} {π:List (Addr×Obj)} {σ:St} {H:Hp} {s:Shared} {a:Addr} {xs ys:List V}
theorem cR.of (h:H a=some (.lst xs)):cR K H a xs:= .inl (.inl h)
theorem du.of (h:H a=some (.tup xs)):du K H a xs:= .inl (.inl h)
theorem ay.list (I:ay X π σ H s) (h:cR X.K H a xs):∃its:List Value,aN xs its/\PlainL s.heap a its.toArray/\xs.length<=sizeLine:=by
 rcases h with h | ⟨o,its,n,hk,hc,hd,hs,hz,r⟩
 ·obtain⟨z,its,n,r,e⟩:=h.ok I.hok;exact⟨its,r,⟨_,n,e,rfl,rfl,rfl⟩,z⟩
 ·refine⟨its.toList,r,⟨o,n,I.kIn a o hk,hc,hd,by simpa using hs⟩,?_⟩;have e:=r.length;simp only[Array.length_toList] at e;lia
theorem ay.tuple (I:ay X π σ H s) (h:du X.K H a xs):∃its:List Value,aN xs its/\IsTup s.heap a its.toArray/\xs.length<=sizeLine:=by
 rcases h with h | ⟨o,its,n,hk,hc,hs,hz,r⟩
 ·obtain⟨z,its,r,p⟩:=h.ok I.hok;exact⟨its,r,p,z⟩
 ·refine⟨its.toList,r,⟨o,I.kIn a o hk,hc,n,by simpa using hs⟩,?_⟩;have e:=r.length;simp only[Array.length_toList] at e;lia
theorem ay.list_inj (I:ay X π σ H s) (h:cR X.K H a xs) (h':cR X.K H a ys):xs=ys:=by
 obtain⟨its,r,⟨o,n,e,_,_,d⟩,_⟩:=I.list h;obtain⟨its',r',⟨o',n',e',_,_,d'⟩,_⟩:=I.list h';rw[e] at e';cases e';rw[d] at d';injection d' with d1 _
 have:its=its':=by simpa using congrArg Array.toList d1
 subst this;exact r.inj r'
theorem ay.tuple_inj (I:ay X π σ H s) (h:du X.K H a xs) (h':du X.K H a ys):xs=ys:=by
 obtain⟨its,r,⟨o,e,_,n,d⟩,_⟩:=I.tuple h;obtain⟨its',r',⟨o',e',_,n',d'⟩,_⟩:=I.tuple h';rw[e] at e';cases e';rw[d] at d';injection d' with d1 _
 have:its=its':=by simpa using congrArg Array.toList d1
 subst this;exact r.inj r'
end
noncomputable abbrev Cx.wish (X:Cx) (E:Value->Shared->Prop):Cx:={ X with xe:=E }
noncomputable abbrev Cx.nox (X:Cx):Cx:=X.wish λ_ _=>False
theorem Cx.Ok.wish {X:Cx} (ok:X.Ok) (E:Value->Shared->Prop):(X.wish E).Ok:=
 ⟨ok.mod,ok.kind,ok.glob,ok.blt,ok.above,ok.inj,ok.has,ok.cab,ok.hd,ok.frames,ok.stk,ok.exf,ok.bs,ok.bsz,ok.noex,ok.exfs,ok.funs,ok.frf⟩
theorem Cx.Ok.unwish {X:Cx} (ok:(X.wish E).Ok):X.Ok:=
 ⟨ok.mod,ok.kind,ok.glob,ok.blt,ok.above,ok.inj,ok.has,ok.cab,ok.hd,ok.frames,ok.stk,ok.exf,ok.bs,ok.bsz,ok.noex,ok.exfs,ok.funs,ok.frf⟩
section
variable {X:Cx} {π:List (Addr×Obj)} {σ:St} {H:Hp} {s:Shared} {E:Value->Shared->Prop}
theorem ay.wish (I:ay X π σ H s) (E:Value->Shared->Prop):ay (X.wish E) π σ H s:=⟨I.ok.wish E,I.os,I.bare,I.base,I.loc,I.cell,I.free,I.freeC,I.pin,I.hok,I.len⟩
theorem ay.unwish (I:ay (X.wish E) π σ H s):ay X π σ H s:=⟨I.ok.unwish,I.os,I.bare,I.base,I.loc,I.cell,I.free,I.freeC,I.pin,I.hok,I.len⟩
theorem SP.unwish {D:dW} {f:Flow} {s':Shared} (h:SP (X.wish E) π D f s'):SP X π D f s':=by
 cases f with
 | next=>obtain⟨σ',H',I,q⟩:=h;exact⟨σ',H',I.unwish,q⟩
 | brk=>obtain⟨σ',H',I,q⟩:=h;exact⟨σ',H',I.unwish,q⟩
 | cont=>obtain⟨σ',H',I,q⟩:=h;exact⟨σ',H',I.unwish,q⟩
 | ret u=>obtain⟨v,σ',H',I,r,q⟩:=h;exact⟨v,σ',H',I.unwish,r,q⟩
theorem kA.nox {st:List Stmt} {t:TS} (h:kA X.nox st t):kA X st t:=λπ s σ H D I hw=>
 wpAny_mono (h π s σ H D (I.wish _) hw) (λ_ _ q=>q.unwish) λ_ _ z=>False.elim z
end
section
variable {X:Cx} {st:Stmt} {bJ:List Stmt} {t u:TS} {e:Expr} {te:TE} {pos:Pos}
noncomputable def xK:TS:=λD σ H=>D.nx σ H
noncomputable def Ar (t u:TS):TS:=λD σ H=>t { D with nx:=u D } σ H
theorem pss_nil:kA X [] xK:=λ_ _ σ H _ I h=>wpAny_execs_nil ⟨σ,H,I,h⟩
theorem pO (h1:PS X st t) (h2:kA X bJ u):kA X (st::bJ) (Ar t u):=by
 intro π s σ H D I h;refine wpAny_execs_cons (bN (h1 π s σ H { D with nx:=u D } I h) λf s1 q=>?_);cases f with
 | next=>
   obtain⟨σ',H',I',q⟩:=q;exact h2 π s1 σ' H' D I' q
 | ret v=>exact q
 | brk=>exact q
 | cont=>exact q
theorem ss (h1:PS X st t):kA X [st] t:=by
 intro π s σ H D I h;refine wpAny_execs_cons (bN (h1 π s σ H D I h) λf s1 q=>?_);cases f with
 | next=>exact wpAny_execs_nil q
 | ret v=>exact q
 | brk=>exact q
 | cont=>exact q
noncomputable def xL:TS:=λD σ H=>D.ct σ H
theorem ps_continue:PS X (.Continue pos) xL:=λ_ _ σ H _ I h=>wpAny_Continue ⟨σ,H,I,h⟩
theorem ay.quiet {σ:St} {H:Hp} (I:ay X π σ H s):interactive X.env=false:=by simp[interactive,I.ok.kind]
noncomputable def xM (te:TE):TS:=λD σ H=>te σ H λ_ H1=>D.nx σ H1
theorem su (he:PE X e te) (hs:swapsWith e none pos.line X.env=pure false:=by rfl):PS X (.Expr e pos) (xM te):=by
 intro π s σ H D I h;exact wpAny_Expr_any (bN (he π s σ H _ I h) λv s1 ⟨x,H1,I1,r1,q1⟩=>⟨σ,H1,I1,q1⟩) I.quiet hs
noncomputable def As (te:TE):TS:=λD σ H=>te σ H D.rt
theorem vC (he:PE X e te):PS X (.Return (some e) pos) (As te):=by
 intro π s σ H D I h;exact wpAny_Return_some (bN (he π s σ H _ I h) λv s1 ⟨x,H1,I1,r1,q1⟩=>⟨x,σ,H1,I1,r1,q1⟩)
noncomputable def At (c:TT) (t u:TS):TS:=λD σ H=>c σ H λb H1=>if b=true then t D σ H1 else u D σ H1
theorem xN {c:Expr} {a b:List Stmt} {tc:TT} (hc:PT X c tc) (ha:kA X a t) (hb:kA X b u):PS X (.If c a b pos) (At tc t u):=by
 intro π s σ H D I h;refine wpAny_If (bN (hc π s σ H _ I h) λd s1 z9=>?_);obtain⟨H1,I1,q1⟩:=z9;cases d with
 | true=>exact ha π s1 σ H1 D I1 q1
 | false=>exact hb π s1 σ H1 D I1 q1
end
noncomputable abbrev TG:=V->St->Hp->(St->Hp->Prop)->Prop
noncomputable abbrev sw:=List V->St->Hp->(St->Hp->Prop)->Prop
noncomputable def PG (X:Cx) (target:Expr) (t:TG):Prop:=
 ∀(π:List (Addr×Obj)) (s:Shared) (σ:St) (H:Hp) (v:V) (u:Value) (Q:St->Hp->Prop),ay X π σ H s->aS v u->t v σ H Q->
  wpAny (model X.prog X.w) X.A (assign target X.env u) (λ_ s'=>∃σ' H',ay X π σ' H' s'/\Q σ' H') X.xe s
noncomputable def uL (X:Cx) (ts:List Expr) (t:sw):Prop:=
 ∀(π:List (Addr×Obj)) (s:Shared) (σ:St) (H:Hp) (vs:List V) (us:List Value) (Q:St->Hp->Prop),ay X π σ H s->aN vs us->t vs σ H Q->
  wpAny (model X.prog X.w) X.A (assignInOrder ((assignEach ts X.env).map (·.2)) us) (λ_ s'=>∃σ' H',ay X π σ' H' s'/\Q σ' H') X.xe s
section
variable {X:Cx} {pos:Pos}
noncomputable def uM (i:Nat):TG:=λv σ H Q=>Q (σ.set i (some v)) H
theorem sx (hN:X.N.Nodup) (hi:X.N[i]?=some x) (hx:uJ X.env.scope x) (hf:X.fn x=true∨X.env.scope.names.lookup x=some .local:=by first | exact .inl rfl | exact .inr rfl | assumption):PG X (.Name x pos) (uM i):=by
 intro π s σ H v u Q I r h;exact wpAny_assign_Name (fA I hN hi hx r (λs' I'=>⟨_,H,I',h⟩) hf)
noncomputable def Au:sw:=λvs σ H Q=>vs=[]/\Q σ H
noncomputable def xO (t:TG) (u:sw):sw:=λvs σ H Q=>∃v r,vs=v::r/\t v σ H λσ' H'=>u r σ' H' Q
theorem pgs_nil:uL X [] Au:=by
 intro π s σ H vs us Q I r h;obtain⟨e,h⟩:=h;subst e;cases r;exact assignInOrder_nil ⟨σ,H,I,h⟩
theorem pP {t:TG} {u:sw} (h1:PG X e t) (h2:uL X es u)
 (hs:(assignEach (e::es) X.env).map (·.2)=assign e X.env::(assignEach es X.env).map (·.2):=by rfl):uL X (e::es) (xO t u):=by
 intro π s σ H vs us Q I r h;obtain⟨v,vr,e1,h⟩:=h;subst e1;cases r with
 | cons r rr=>
   rw[hs];refine assignInOrder_cons (bN (h1 π s σ H _ _ _ I r h) λ_ s1 z9=>?_);obtain⟨σ1,H1,I1,q1⟩:=z9;exact h2 π s1 σ1 H1 _ _ Q I1 rr q1
noncomputable def Av (K:PySem.W.Frag) (n:Nat) (t:sw):TG:=λv σ H Q=>∃a xs,v=.ref a/\du K H a xs/\xs.length=n/\t xs σ H Q
theorem vD {t:sw} {n:Nat} (hc:X.calm=true) (h:uL X es t)
 (hn:(assignEach es X.env).length=n:=by rfl) (hst:(assignEach es X.env).findIdx? (·.1)=none:=by rfl):PG X (.Tuple es k pos) (Av X.K n t):=by
 intro π s σ H v u Q I r hw;obtain⟨a,xs,e1,hq,hl,hw⟩:=hw;subst e1;cases r;obtain⟨its,rv,ht,hz⟩:=I.tuple hq;refine assign_Tuple_tuple (I.ok.hd hc) ht (by simp[hn,←hl,rv.length]) hst λh' hx=>?_;have I1:ay X π σ H { s with heap:=h' }:=I.kept (t':=s.toks) λb o e=>hx b o (ne_of_lt (Heap.lt_size e)) e;exact h π _ σ H xs _ Q I1 (by simpa using rv) hw
noncomputable def Aw (te:TE) (g:TG):TS:=λD σ H=>te σ H λx H1=>g x σ H1 D.nx
theorem vE {te:TE} {pos':Pos} (hN:X.N.Nodup) (hi:X.N[i]?=some x) (hx:uJ X.env.scope x) (he:PE X e te) (hs:swapsWith e (some (.Name x pos')) pos.line X.env=pure false:=by rfl) (hf:X.fn x=true∨X.env.scope.names.lookup x=some .local:=by first | exact .inl rfl | exact .inr rfl | assumption):
 PS X (.Assign [.Name x pos'] e pos) (Aw te (uM i)):=by
 intro π s σ H D I h;refine wpAny_Assign_Name (bN (he π s σ H _ I h) λv s1 z9=>?_) hs;obtain⟨y,H1,I1,r1,q1⟩:=z9;exact fA I1 hN hi hx r1 (λs2 I2=>⟨_,H1,I2,q1⟩) hf
end
section
variable {X:Cx} {pos:Pos}
noncomputable def vF (c:TT) (tb:TS):TS:=λD σ H=>∃W:Nat->St->Hp->Prop,(∃m,W m σ H)/\∀m σ H,W m σ H->
 c σ H λb H1=>if b=true then ∃N:St->Hp->Prop,(∀σ' H',N σ' H'->∃m',m'<m/\W m' σ' H')/\tb { D with nx:=N,ct:=N,bk:=D.nx } σ H1 else D.nx σ H1
theorem pQ {c:Expr} {tc:TT} {tb:TS} (hp:PassesOwn (model X.prog X.w) X.A X.env X.xe) (hc:PT X c tc) (hb:kA X body tb):PS X (.While c body [] pos) (vF tc tb):=by
 intro π s σ H D I h;obtain⟨W,⟨m0,w0⟩,turn⟩:=h;refine wpAny_While (codeAny_whileLoop (λn s'=>∃σ' H',ay X π σ' H' s'/\W n σ' H') ?_ m0 ⟨σ,H,I,w0⟩);rintro n s1 ⟨σ1,H1,I1,w1⟩;refine wpAny_passesOwn hp (bN (hc π s1 σ1 H1 _ I1 (turn n σ1 H1 w1)) λb s2 z9=>?_);obtain⟨H2,I2,q2⟩:=z9;cases b with
 | true=>
   obtain⟨N,hN,q2⟩:=q2;rw[if_pos rfl];refine wpAny_passesOwn hp (bN (hb π s2 σ1 H2 _ I2 q2) λf s3 q3=>?_);cases f with
   | next=>
     obtain⟨σ3,H3,I3,n3⟩:=q3;obtain⟨m',hm,w3⟩:=hN σ3 H3 n3;exact⟨m',hm,σ3,H3,I3,w3⟩
   | cont=>
     obtain⟨σ3,H3,I3,n3⟩:=q3;obtain⟨m',hm,w3⟩:=hN σ3 H3 n3;exact⟨m',hm,σ3,H3,I3,w3⟩
   | brk=>exact q3
   | ret v=>exact q3
 | false=>
   rw[if_neg Bool.false_ne_true];exact wpAny_execs_nil ⟨σ1,H2,I2,q2⟩
end
structure It where
 go:Nat->Hp->Prop
 yld:Nat->Hp->V->Hp->Prop
 stop:Nat->Hp->Prop
noncomputable def i6 (X:Cx) (π:List (Addr×Obj)) (H:Hp) (b:Addr):Prop:=
 H b=none/\b≠X.env.locals/\b∉X.fs/\(b∈X.ex∨X.s₀.heap.objs.size<=b)/\(∀x c,X.env.cells.lookup x=some c->c≠b)/\∀p∈X.pn++π,p.1≠b
theorem ay.fpOk {X:Cx} {σ:St} {H H':Hp} {b:Addr} (I:ay X π σ H s) (hb:s.heap.objs.size<=b) (hn:H' b=none):i6 X π H' b:=by
 refine⟨hn,Nat.ne_of_gt (lt_of_lt_of_le I.lt hb),I.nofs hb,.inr (le_trans I.sz hb),λx c e z=>?_,λp hp z=>?_⟩
 ·obtain⟨v,q⟩:=I.cell x c e;exact absurd (lt_of_lt_of_le q.lt (by rw[z];exact hb)) (lt_irrefl _)
 ·exact absurd (lt_of_lt_of_le (Heap.lt_size (I.pin p hp).1) (by rw[z];exact hb)) (lt_irrefl _)
structure jK (P:Program) (w:World) (K:PySem.W.Frag) (tg:Expr) (J:It) (fp:List Addr) (it:Addr) (tn:Nat->Heap->Prop):Prop where
 mem:it∈fp
 obj:∀i h,tn i h->∀b∈fp,∃o,h.get? b=some o/\∀v,o.data≠ .cell v
 keep:∀i h h',tn i h->(∀b∈fp,∀o,h.get? b=some o->h'.get? b=some o)->tn i h'
 item:∀(X:Cx),X.prog=P->X.w=w->X.K=K->X.calm=true->∀(i:Nat) (π:List (Addr×Obj)) (s:Shared) (σ:St) (H:Hp) (E:Value->Shared->Prop),ay X π σ H s->(∀b∈fp,i6 X π H b)->tn i s.heap->J.go i H->
  wpAny (model P w) X.A (pyNext (.ref it)) (λr s1=>∃u,r=some u/\
   wpAny (model P w) X.A (letOwnedTupleGo tg (.ref it) u) (λ_ s2=>∃x H',ay X π σ H' s2/\aS x u/\J.yld i H x H'/\tn (i+1) s2.heap/\∀b∈fp,H' b=none) E s1) E s
 done:∀(X:Cx),X.prog=P->X.w=w->X.K=K->X.calm=true->∀(i:Nat) (π:List (Addr×Obj)) (s:Shared) (σ:St) (H:Hp) (E:Value->Shared->Prop),ay X π σ H s->(∀b∈fp,i6 X π H b)->tn i s.heap->J.stop i H->
  wpAny (model P w) X.A (pyNext (.ref it)) (λr s1=>r=none/\ay X π σ H s1) E s
 self:∀(A:Around) (i:Nat) (s:Shared) (Q:Value->Shared->Prop) (E:Value->Shared->Prop),tn i s.heap->Q (.ref it) s->wpAny (model P w) A (pyIter (.ref it)) Q E s
noncomputable abbrev TI:=St->Hp->(It->Hp->Prop)->Prop
noncomputable def BK (X:Cx) (π:List (Addr×Obj)) (σ:St) (tg:Expr) (R:It->Hp->Prop) (itv:Value) (s2:Shared):Prop:=
 ∃(it:Addr) (fp:List Addr) (tn:Nat->Heap->Prop) (J:It) (H':Hp),itv=.ref it/\ay X π σ H' s2/\jK X.prog X.w X.K tg J fp it tn/\tn 0 s2.heap/\(∀b∈fp,i6 X π H' b)/\R J H'
noncomputable def PI (X:Cx) (tg iter:Expr) (wi:TI):Prop:=
 ∀(π:List (Addr×Obj)) (s:Shared) (σ:St) (H:Hp) (R:It->Hp->Prop),ay X π σ H s->wi σ H R->
  wpAny (model X.prog X.w) X.A (eval iter X.env) (λv s1=>wpAny (model X.prog X.w) X.A (pyIter v) (BK X π σ tg R) X.xe s1) X.xe s
theorem jh {M:Model} {tg:Expr} {it:Addr} {o:Obj} {n:String} {vs:Array Value} {Q:Unit->Shared->Prop} (ho:s.heap.get? it=some o) (hc:o.cls=.type n) (hd:o.data=.fields vs)
 (hn:["enumerate","zip","dict_itemiterator","dict_reverseitemiterator","odict_iterator","itertools.zip_longest","itertools.pairwise"].contains n=false) (hQ:Q () s):wpAny M A (letOwnedTupleGo tg (.ref it) u) Q E s:=by
 unfold letOwnedTupleGo;cases tg<;> first
  | exact waz hQ
  | (cases u<;> first
      | exact waz hQ
      | (refine wax (wpAny_load ho ?_)
         rw[hc,hd];show wpAny M A (if (["enumerate","zip","dict_itemiterator","dict_reverseitemiterator","odict_iterator","itertools.zip_longest","itertools.pairwise"].contains n&&vs[0]?==some (rawInt _))=true then _ else _) Q E s;rw[if_neg (by intro h;rw[hn,Bool.false_and] at h;cases h)];exact waz hQ))
noncomputable def Ac (K:PySem.W.Frag) (a:Addr):It:=
 ⟨λi H=>∃xs x,cR K H a xs/\xs[i]?=some x,λi H x H'=>H'=H/\∀xs,cR K H a xs->xs[i]?=some x,λi H=>∃xs,cR K H a xs/\xs.length<=i⟩
noncomputable def Ax (K:PySem.W.Frag) (a:Addr):It:=
 ⟨λi H=>∃xs x,du K H a xs/\xs[i]?=some x,λi H x H'=>H'=H/\∀xs,du K H a xs->xs[i]?=some x,λi H=>∃xs,du K H a xs/\xs.length<=i⟩
noncomputable def xy (lo:Int) (n:Nat):It:=⟨λi _=>i<n,λi H x H'=>H'=H/\x=.int (lo+i),λi _=>n<=i⟩
theorem oK {tg:Expr} (a it:Addr):jK P w K tg (Ac K a) [it] it (λi h=>h.IsListIter it a i) where
 mem:=by simp
 obj:=λi h st b hb=>by
  have e:b=it:=by simpa using hb
  subst e;obtain⟨o,e,c,d⟩:=st;exact⟨o,e,λv z=>by rw[d] at z;cases z⟩
 keep:=λi h h' st k=>st.at λo e=>k it (by simp) o e
 item:=by
  intro X hP hw hK hc i π s σ H E I hf st hg;subst hP hw hK;obtain⟨xs,x,hq,hx⟩:=hg;obtain⟨its,rv,p,hz⟩:=I.list hq;obtain⟨u,hu,ru⟩:=rv.get hx;obtain⟨f0,f1,f2,f3,f4,f5⟩:=hf it (by simp);refine wpAny_pyNext_list_item st p.isList (x:=u) (by simpa using hu) λh' st' sb=>?_;have I1:ay X π σ H { s with heap:=h' }:=I.turned (t':=s.toks) (λb o hb e=>(sb.2 b hb).trans e) f0 f1 f3 f4 f5;obtain⟨o,e,c,d⟩:=id st';exact⟨u,rfl,jh (s:={ s with heap:=h' }) e c d (by decide) ⟨x,H,I1,ru,⟨rfl,λys hy=>by rw[I.list_inj hy hq];exact hx⟩,st',λb hb=>(hf b hb).1⟩⟩
 done:=by
  intro X hP hw hK hc i π s σ H E I hf st hg;subst hP hw hK;obtain⟨xs,hq,hx⟩:=hg;obtain⟨its,rv,p,hz⟩:=I.list hq;obtain⟨f0,f1,f2,f3,f4,f5⟩:=hf it (by simp);have hl:=rv.length;exact wpAny_pyNext_list_end (I.ok.hd hc) st p.isList (by simp;(clear hz f3;lia)) λh' eb=>⟨rfl,I.turned (t':=s.toks) (λb o hb e=>eb b o hb e) f0 f1 f3 f4 f5⟩
 self:=λ_ _ _ _ _ st h=>wpAny_pyIter_listiter st h
theorem lP {tg:Expr} (a it:Addr):jK P w K tg (Ax K a) [it] it (λi h=>h.IsTupleIter it a i) where
 mem:=by simp
 obj:=λi h st b hb=>by
  have e:b=it:=by simpa using hb
  subst e;obtain⟨o,e,c,d⟩:=st;exact⟨o,e,λv z=>by rw[d] at z;cases z⟩
 keep:=λi h h' st k=>st.at λo e=>k it (by simp) o e
 item:=by
  intro X hP hw hK hc i π s σ H E I hf st hg;subst hP hw hK;obtain⟨xs,x,hq,hx⟩:=hg;obtain⟨its,rv,p,hz⟩:=I.tuple hq;obtain⟨u,hu,ru⟩:=rv.get hx;obtain⟨f0,f1,f2,f3,f4,f5⟩:=hf it (by simp);refine wpAny_pyNext_tuple_item st (show s.heap.IsTuple a its.toArray from p) (x:=u) (by simpa using hu) λh' st' sb=>?_;have I1:ay X π σ H { s with heap:=h' }:=I.turned (t':=s.toks) (λb o hb e=>(sb.2 b hb).trans e) f0 f1 f3 f4 f5;obtain⟨o,e,c,d⟩:=id st';exact⟨u,rfl,jh (s:={ s with heap:=h' }) e c d (by decide) ⟨x,H,I1,ru,⟨rfl,λys hy=>by rw[I.tuple_inj hy hq];exact hx⟩,st',λb hb=>(hf b hb).1⟩⟩
 done:=by
  intro X hP hw hK hc i π s σ H E I hf st hg;subst hP hw hK;obtain⟨xs,hq,hx⟩:=hg;obtain⟨its,rv,p,hz⟩:=I.tuple hq;obtain⟨f0,f1,f2,f3,f4,f5⟩:=hf it (by simp);have hl:=rv.length;exact wpAny_pyNext_tuple_end (I.ok.hd hc) st (show s.heap.IsTuple a its.toArray from p) (by simp;(clear hz f3;lia)) λh' eb=>⟨rfl,I.turned (t':=s.toks) (λb o hb e=>eb b o hb e) f0 f1 f3 f4 f5⟩
 self:=λ_ _ _ _ _ st h=>wpAny_pyIter_tupleiter st h
theorem lQ {tg:Expr} (it:Addr) (lo:Int) (n:Nat):jK P w K tg (xy lo n) [it] it (λi h=>IsRangeIter h it (lo+(i:Nat)*1) ((n:Int)- (i:Nat)) 1) where
 mem:=by simp
 obj:=λi h st b hb=>by
  have e:b=it:=by simpa using hb
  subst e;exact⟨_,st,λv z=>by
   have z':Data.fields _=Data.cell v:=z;cases z'⟩
 keep:=λi h h' st k=>k it (by simp) _ st
 item:=by
  intro X hP hw hK hc i π s σ H E I hf st hg;subst hP hw hK;obtain⟨f0,f1,f2,f3,f4,f5⟩:=hf it (by simp);have W:=Walks.range (prog:=X.prog) (w:=X.w) (I.ok.hd hc) it lo 1 n;refine W.item i s _ _ hg st λv h' tk hv st' kk=>?_;obtain⟨t,rfl⟩:=hv;have I1:ay X π σ H { s with heap:=h',toks:=tk }:=I.turned (λb o hb e=>kk b o (by simpa using hb) e) f0 f1 f3 f4 f5;refine⟨_,rfl,jh (s:={ s with heap:=h',toks:=tk }) (n:="range_iterator") st' rfl rfl (by decide) ⟨.int (lo+i),H,I1,⟨t,?_⟩,⟨rfl,rfl⟩,st',λb hb=>(hf b hb).1⟩⟩;rw[Int.mul_one]
 done:=by
  intro X hP hw hK hc i π s σ H E I hf st hg;subst hP hw hK;obtain⟨f0,f1,f2,f3,f4,f5⟩:=hf it (by simp);exact wpAny_pyNext_range_end (I.ok.hd hc) st (by have:n<=i:=hg;(clear f3;lia)) λh' eb=>⟨rfl,I.turned (t':=s.toks) (λb o hb e=>eb b o hb e) f0 f1 f3 f4 f5⟩
 self:=λ_ _ _ _ _ st h=>wpAny_pyIter_rangeiter st h
section
variable {X:Cx} {tg:Expr}
theorem kD {σ:St} {H:Hp} {R:It->Hp->Prop} {lo hi:Int} {t u v:Tok} {tk:Nat} (I:ay X π σ H s) (h1: -(2^62)<=lo) (h2:lo<2^62) (h3: -(2^62)<=hi) (h4:hi<2^62)
 (q:R (xy lo (hi-lo).toNat) H):wpAny (model X.prog X.w) X.A (pyIter (.ref s.heap.objs.size)) (BK X π σ tg R) E { s with heap:=s.heap.push { cls:= .type "range",data:= .fields #[.int lo t,.int hi u,.int 1 v] },toks:=tk }:=by
 refine wpAny_pyIter_range (IsRange.new ..) (small_one h1 h2 h3 h4) ?_;have I1:ay X π σ H { s with heap:=s.heap.push { cls:= .type "range",data:= .fields #[.int lo t,.int hi u,.int 1 v] },toks:=tk }:=I.kept λb o e=>Heap.get?_push_of_some _ e;refine⟨(s.heap.push { cls:= .type "range",data:= .fields #[.int lo t,.int hi u,.int 1 v] }).objs.size,[(s.heap.push { cls:= .type "range",data:= .fields #[.int lo t,.int hi u,.int 1 v] }).objs.size],_,_,H,rfl,
  I1.kept (t':=tk) λb o e=>Heap.get?_push_of_some _ e,lQ _ lo (hi-lo).toNat,?_,λb hb=>?_,q⟩
 ·have e1:lo+((0:Nat):Int)*1=lo:=by simp
  have e2:(((hi-lo).toNat:Nat):Int)- ((0:Nat):Int)=Builtin.Range.rangeSize lo hi 1:=by rw[rangeSize_one];split<;> (clear h1 h2 h3 h4 e1;lia)
  show IsRangeIter _ _ (lo+((0:Nat):Int)*1) ((((hi-lo).toNat:Nat):Int)- ((0:Nat):Int)) 1;rw[e1,e2];exact Heap.get?_push_size _ rfl
 ·have e:b=(s.heap.push { cls:= .type "range",data:= .fields #[.int lo t,.int hi u,.int 1 v] }).objs.size:=by simpa using hb
  subst e;exact I1.fpOk (le_refl _) (I1.hok.fresh (le_refl _))
noncomputable def xP (ta:TA):TI:=λσ H R=>ta σ H λvs H1=>∃j:Int,vs=[.int j]/\-(2^62)<=j/\j<2^62/\R (xy 0 j.toNat) H1
noncomputable def xQ (ta:TA):TI:=λσ H R=>ta σ H λvs H1=>∃i j:Int,vs=[.int i,.int j]/\(-(2^62)<=i/\i<2^62/\-(2^62)<=j/\j<2^62)/\R (xy i (j-i).toNat) H1
theorem oM {a:Expr} {ta:TA} {p pos:Pos} (hg:Gl X "range") (hm:X.mg "range"=none) (ha:PA X [a] ta) (hs:starEach [a] X.env=[(false,eval a X.env)]:=by rfl):PI X tg (.Call (.Name "range" p) [a] [] pos) (xP ta):=by
 intro π s σ H R I h;refine Call_ (fe I hg hm boot_range (PyProof.Rows.callWith_type1 (bN (ha pos π s σ H _ I h) λus s1 z9=>?_) hs rfl));obtain⟨vs,H1,I1,r1,q1⟩:=z9;obtain⟨j,e,q1,q2,q⟩:=q1;subst e;cases r1 with
 | cons r rr=>
   cases rr;obtain⟨t,rfl⟩:=r;exact call_range_1 (kD I1 (by (clear q1 q2;lia)) (by (clear q1 q2;lia)) q1 q2 (by simpa using q))
theorem oN {a b:Expr} {ta:TA} {p pos:Pos} (hg:Gl X "range") (hm:X.mg "range"=none) (ha:PA X [a,b] ta) (hs:starEach [a,b] X.env=[(false,eval a X.env),(false,eval b X.env)]:=by rfl) (hs2:starEach [b] X.env=[(false,eval b X.env)]:=by rfl):
 PI X tg (.Call (.Name "range" p) [a,b] [] pos) (xQ ta):=by
 intro π s σ H R I h;refine Call_ (fe I hg hm boot_range (PyProof.Rows.callWith_type1 (bN (ha pos π s σ H _ I h) λus s1 ⟨vs,H1,I1,r1,q1⟩=>?_) (by rw[hs,hs2]) (by rw[hs2];rfl)));obtain⟨i,j,e,⟨q1,q2,q3,q4⟩,q⟩:=q1;subst e;cases r1 with
 | cons r rr=>
   cases rr with
   | cons r' rr=>
     cases rr;obtain⟨t,rfl⟩:=r;obtain⟨t',rfl⟩:=r';exact call_range_2 (kD I1 q1 q2 q3 q4 q)
noncomputable def Ay (wi:TI) (g:TG) (tb:TS):TS:=λD σ H=>wi σ H λJ H1=>∃W:Nat->Nat->St->Hp->Prop,(∃m,W 0 m σ H1)/\∀i m σ H,W i m σ H->
 (J.stop i H/\D.nx σ H)∨(J.go i H/\∃N:St->Hp->Prop,(∀σ' H',N σ' H'->∃m',m'<m/\W (i+1) m' σ' H')/\∀x H',J.yld i H x H'->g x σ H' λσ2 H2=>tb { D with nx:=N,ct:=N,bk:=D.nx } σ2 H2)
noncomputable def ir (fp:List Addr) (h:Heap):List (Addr×Obj):=fp.filterMap λb=>(h.get? b).map λo=>(b,o)
theorem cJ {fp:List Addr} {h:Heap} {b:Addr} {o:Obj} (hb:b∈fp) (e:h.get? b=some o):(b,o)∈ir fp h:=List.mem_filterMap.mpr ⟨b,hb,by rw[e];rfl⟩
theorem oO {fp:List Addr} {h:Heap} {p:Addr×Obj} (hp:p∈ir fp h):p.1∈fp/\h.get? p.1=some p.2:=by
 obtain⟨b,hb,e⟩:=List.mem_filterMap.mp hp;cases q:h.get? b with
 | none=>rw[q] at e;cases e
 | some o=>
   rw[q] at e;have e':(b,o)=p:=Option.some.inj e;subst e';exact⟨hb,q⟩
theorem ay.pinned {σ:St} {H:Hp} {fp:List Addr} (I:ay X π σ H s) (hf:∀b∈fp,i6 X π H b) (ho:∀b∈fp,∃o,s.heap.get? b=some o/\∀v,o.data≠ .cell v):ay X (π++ir fp s.heap) σ H s:=
 I.pins_of λp hp=>(mem_append.mp hp).elim (λz=>I.pin p (mem_append_right _ z)) λz=>by
  obtain⟨hb,e⟩:=oO z;obtain⟨f0,f1,f2,_⟩:=hf p.1 hb;obtain⟨o,e',d⟩:=ho p.1 hb;rw[e] at e';cases e';exact⟨e,f0,f1,f2,d⟩
theorem ay.unpinned {π pl:List (Addr×Obj)} {σ:St} {H:Hp} (I:ay X (π++pl) σ H s):ay X π σ H s:=I.pins_of λp hp=>I.pin p (mem_append_right _ (mem_append_left _ hp))
theorem vG {iter:Expr} {wi:TI} {g:TG} {tb:TS} (hp:PassesOwn (model X.prog X.w) X.A X.env X.xe) (hc:X.calm=true) (hi:PI X tg iter wi) (hg:PG X tg g) (hb:kA X body tb)
 (hs:∀x,foldedSetIterable iter X.env x=pure x:=by intro _;rfl):PS X (.For tg iter body [] pos) (Ay wi g tb):=by
 intro π s σ H D I h;refine wpAny_For (bN (hi π s σ H _ I h) λv s1 h1=>bN h1 λitv s2 h2=>?_) hs;obtain⟨it,fp,tn,J,H2,e,I2,T,st2,f2,W,⟨m0,w0⟩,turn⟩:=h2;subst e
 -- what stays true of the iterator's objects through the loop
 have stat:∀{H':Hp},(∀b∈fp,H' b=none)->∀b∈fp,i6 X π H' b:=λhn b hb=>⟨hn b hb,(f2 b hb).2⟩;refine codeAny_forLoop_any (λn s'=>∃i σ' H',ay X π σ' H' s'/\tn i s'.heap/\(∀b∈fp,H' b=none)/\W i n σ' H') ?_ m0 ⟨0,σ,H2,I2,st2,λb hb=>(f2 b hb).1,w0⟩;rintro n s3 ⟨i,σ3,H3,I3,st3,fr3,w3⟩;rcases turn i n σ3 H3 w3 with⟨stop,qn⟩ | ⟨go,N,hN,step⟩
 ·refine wpAny_passesOwn hp (bN (T.done X rfl rfl rfl hc i π s3 σ3 H3 X.xe I3 (stat fr3) st3 stop) λr s4 z9=>?_);obtain⟨hr,I4⟩:=z9;subst hr;exact wpAny_execs_nil ⟨σ3,H3,I4,qn⟩
 ·refine wpAny_passesOwn hp (bN (T.item X rfl rfl rfl hc i π s3 σ3 H3 X.xe I3 (stat fr3) st3 go) λr s4 z9=>?_);obtain⟨u,hr,h4⟩:=z9;subst hr;refine wpAny_passesOwn hp (bN h4 λ_ s5 z9=>?_);obtain⟨x,H5,I5,r5,y5,st5,fr5⟩:=z9;have I5':=I5.pinned (stat fr5) (T.obj _ _ st5);refine wpAny_passesOwn hp (bN (hg _ s5 σ3 H5 x u _ I5' r5 (step x H5 y5)) λ_ s6 z9=>?_);obtain⟨σ6,H6,I6,q6⟩:=z9;refine wpAny_passesOwn hp (bN (hb _ s6 σ6 H6 _ I6 q6) λf s7 q7=>?_);have again:∀{σ7:St} {H7:Hp},ay X (π++ir fp s5.heap) σ7 H7 s7->N σ7 H7->∃m,m<n/\∃i σ' H',ay X π σ' H' s7/\tn i s7.heap/\(∀b∈fp,H' b=none)/\W i m σ' H':=λ{σ7 H7} I7 n7=>by
   obtain⟨m',hm,w7⟩:=hN σ7 H7 n7;refine⟨m',hm,i+1,σ7,H7,I7.unpinned,T.keep _ _ _ st5 λb hb o e=>(I7.pin (b,o) (mem_append_right _ (mem_append_right _ (cJ hb e)))).1,λb hb=>?_,w7⟩;obtain⟨o,e,d⟩:=T.obj _ _ st5 b hb;exact(I7.pin (b,o) (mem_append_right _ (mem_append_right _ (cJ hb e)))).2.1
  cases f with
  | next=>obtain⟨σ7,H7,I7,n7⟩:=q7;exact again I7 n7
  | cont=>obtain⟨σ7,H7,I7,n7⟩:=q7;exact again I7 n7
  | brk=>obtain⟨σ7,H7,I7,q7⟩:=q7;exact⟨σ7,H7,I7.unpinned,q7⟩
  | ret v=>obtain⟨x7,σ7,H7,I7,r7,q7⟩:=q7;exact⟨x7,σ7,H7,I7.unpinned,r7,q7⟩
end
noncomputable abbrev R2:=V->V->Hp->VK->Prop
noncomputable def hJ (X:Cx) (f:Value->Value->Sem Value) (r:R2):Prop:=
 ∀(π:List (Addr×Obj)) (s:Shared) (σ:St) (H:Hp) (x y:V) (v u:Value) (Q:VK),ay X π σ H s->aS x v->aS y u->r x y H Q->
  wpAny (model X.prog X.w) X.A (f v u) (EP X π σ Q) X.xe s
noncomputable def Az (X:Cx) (f:Value->Sem Value) (r:V->Hp->VK->Prop):Prop:=
 ∀(π:List (Addr×Obj)) (s:Shared) (σ:St) (H:Hp) (x:V) (v:Value) (Q:VK),ay X π σ H s->aS x v->r x H Q->
  wpAny (model X.prog X.w) X.A (f v) (EP X π σ Q) X.xe s
noncomputable def cT (X:Cx) (f:Value) (r:List V->Hp->VK->Prop):Prop:=
 ∀(π:List (Addr×Obj)) (s:Shared) (σ:St) (H:Hp) (xs:List V) (us:List Value) (Q:VK),ay X π σ H s->aN xs us->r xs H Q->
  wpAny (model X.prog X.w) X.A (call f us) (EP X π σ Q) X.xe s
noncomputable def xR (r:R2) (ta tb:TE):TE:=λσ H Q=>ta σ H λx H1=>tb σ H1 λy H2=>r x y H2 Q
noncomputable def BZ (r:V->Hp->VK->Prop) (ta:TE):TE:=λσ H Q=>ta σ H λx H1=>r x H1 Q
noncomputable def rI (C:Int->Int->Prop) (g:Int->Int->V):R2:=λx y H Q=>∃i j,x=.int i/\y=.int j/\C i j/\Q (g i j) H
noncomputable def sy (g:Int->Int->V):R2:=λx y H Q=>∃i j,x=.int i/\y=.int j/\Q (g i j) H
noncomputable def rU (g:Int->V):V->Hp->VK->Prop:=λx H Q=>∃i,x=.int i/\Q (g i) H
section
variable {X:Cx} {a b c:Expr} {ta tb tc:TE} {pos:Pos}
theorem vH (ha:PE X a ta) (hb:PE X b tb) {σ:St} {H:Hp} {R:V->V->Hp->Prop} (I:ay X π σ H s)
 (h:ta σ H λx H1=>tb σ H1 λy H2=>R x y H2) {Q:Value->Shared->Prop} {f:Value->Value->Sem Value}
 (hf:∀v u s2 x y H2,ay X π σ H2 s2->aS x v->aS y u->R x y H2->wpAny (model X.prog X.w) X.A (f v u) Q X.xe s2):
 wpAny (model X.prog X.w) X.A (eval a X.env) (λv s₁=>wpAny (model X.prog X.w) X.A (eval b X.env) (λu s₂=>wpAny (model X.prog X.w) X.A (f v u) Q X.xe s₂) X.xe s₁) X.xe s:=by
 refine bN (ha π s σ H _ I h) λv s1 z9=>?_;obtain⟨x,H1,I1,r1,q1⟩:=z9;refine bN (hb π s1 σ H1 _ I1 q1) λu s2 z9=>?_;obtain⟨y,H2,I2,r2,q2⟩:=z9;exact hf v u s2 x y H2 I2 r1 r2 q2
theorem xS {op:Operator} {r:R2} (ho:hJ X (binaryOp op) r) (ha:PE X a ta) (hb:PE X b tb):PE X (.BinOp a op b pos) (xR r ta tb):=by
 intro π s σ H Q I h;exact wpAny_BinOp (vH ha hb I h λv u s2 x y H2 I2 rx ry q=>ho π s2 σ H2 x y v u Q I2 rx ry q)
theorem xT {op:UnaryOp} {r:V->Hp->VK->Prop} (ho:Az X (unaryOp op) r) (ha:PE X a ta):PE X (.UnaryOp op a pos) (BZ r ta):=by
 intro π s σ H Q I h;exact UnaryOp_ (bN (ha π s σ H _ I h) λv s1 ⟨x,H1,I1,r1,q1⟩=>ho π s1 σ H1 x v Q I1 r1 q1)
theorem Ad {f:Value->Value->Sem Value} {C:Int->Int->Prop} {g:Int->Int->Int}
 (rule:∀(i j:Int) (t u:Tok) (s:Shared) (Q:Value->Shared->Prop) (E:Value->Shared->Prop),C i j->Q (.int (g i j) s.toks) { s with toks:=s.toks+1 }->wpAny (model X.prog X.w) X.A (f (.int i t) (.int j u)) Q E s):
 hJ X f (rI C λi j=> .int (g i j)):=by
 intro π s σ H x y v u Q I rx ry h;obtain⟨i,j,rfl,rfl,hc,q⟩:=h;obtain⟨t,rfl⟩:=rx;obtain⟨t',rfl⟩:=ry;exact rule i j t t' s _ _ hc ⟨.int (g i j),H,I.tok _,⟨_,rfl⟩,q⟩
theorem xU {f:Value->Value->Sem Value} {g:Int->Int->Int}
 (rule:∀(i j:Int) (t u:Tok) (s:Shared) (Q:Value->Shared->Prop) (E:Value->Shared->Prop),Q (.int (g i j) s.toks) { s with toks:=s.toks+1 }->wpAny (model X.prog X.w) X.A (f (.int i t) (.int j u)) Q E s):
 hJ X f (sy λi j=> .int (g i j)):=by
 intro π s σ H x y v u Q I rx ry h;obtain⟨i,j,rfl,rfl,q⟩:=h;obtain⟨t,rfl⟩:=rx;obtain⟨t',rfl⟩:=ry;exact rule i j t t' s _ _ ⟨.int (g i j),H,I.tok _,⟨_,rfl⟩,q⟩
theorem sA {f:Value->Value->Sem Value} {g:Int->Int->Bool}
 (rule:∀(i j:Int) (t u:Tok) (s:Shared) (Q:Value->Shared->Prop) (E:Value->Shared->Prop),Q (.bool (g i j)) s->wpAny (model X.prog X.w) X.A (f (.int i t) (.int j u)) Q E s):
 hJ X f (sy λi j=> .bl (g i j)):=by
 intro π s σ H x y v u Q I rx ry h;obtain⟨i,j,rfl,rfl,q⟩:=h;obtain⟨t,rfl⟩:=rx;obtain⟨t',rfl⟩:=ry;exact rule i j t t' s _ _ ⟨.bl (g i j),H,I,rfl,q⟩
noncomputable def xV (i j:Int):Prop:=0<j/\j<1073741824
noncomputable def vI (i j:Int):Prop:=0<=j/\j<=1000000/\i.natAbs<2^64
noncomputable def sB (i j:Int):Prop:=(-(2^64)<i/\i<2^64)∨(-(2^64)<j/\j<2^64)
theorem sB.ok {i j:Int} (h:sB i j):IntMulOk i j:=by
 rcases h with⟨h1,h2⟩ | ⟨h1,h2⟩
 ·exact .of_left (intBits_le_64 h1 h2)
 ·exact .of_right (intBits_le_64 h1 h2)
theorem vJ:hJ X (binaryOp .Add) (sy λi j=> .int (i+j)):=xU λ_ _ _ _ _ _ _ q=>add_int q
theorem vK:hJ X (binaryOp .Sub) (sy λi j=> .int (i-j)):=xU λ_ _ _ _ _ _ _ q=>sub_int q
theorem vL:hJ X (binaryOp .Mod) (rI (λ_ j=>0<j) λi j=> .int (i%j)):=Ad λi j _ _ _ _ _ hc q=>by
 have h1:(0:Int)<j:=hc;exact mod_int' (by (clear h1;lia)) (by rw[Int.fmod_eq_emod_of_nonneg i (by (clear h1;lia))];exact q)
theorem B2 {f:Value->Sem Value} {g:Int->Int}
 (rule:∀(i:Int) (t:Tok) (s:Shared) (Q:Value->Shared->Prop) (E:Value->Shared->Prop),Q (.int (g i) s.toks) { s with toks:=s.toks+1 }->wpAny (model X.prog X.w) X.A (f (.int i t)) Q E s):
 Az X f (rU λi=> .int (g i)):=by
 intro π s σ H x v Q I rx h;obtain⟨i,rfl,q⟩:=h;obtain⟨t,rfl⟩:=rx;exact rule i t s _ _ ⟨.int (g i),H,I.tok _,⟨_,rfl⟩,q⟩
theorem vM:Az X (unaryOp .USub) (rU λi=> .int (-i)):=B2 λ_ _ _ _ _ q=>neg_int q
end
section
variable {X:Cx} {a b c:Expr} {ta tb tc:TE} {pos:Pos}
theorem vN {σ:St} {H:Hp} {Q:VK} {k k':Bool} (I:ay X π σ H s) (q:Q (.bl k) H) (e:k=k'):EP X π σ Q (.bool k') s:=by
 subst e;exact⟨.bl k,H,I,rfl,q⟩
theorem xW:hJ X (compareOp .Lt) (sy λi j=> .bl (decide (i<j))):=sA λ_ _ _ _ _ _ _ q=>lt_int q
theorem xX:hJ X (compareOp .LtE) (sy λi j=> .bl (decide (i<=j))):=sA λ_ _ _ _ _ _ _ q=>le_int q
theorem xY:hJ X (compareOp .Gt) (sy λi j=> .bl (decide (j<i))):=sA λ_ _ _ _ _ _ _ q=>gt_int q
theorem xZ:hJ X (compareOp .GtE) (sy λi j=> .bl (decide (j<=i))):=sA λ_ _ _ _ _ _ _ q=>ge_int q
theorem sE:hJ X (compareOp .IsNot) (λx y H Q=>y=.non/\Q (.bl (!decide (x=.non))) H):=by
 intro π s σ H x y v u Q I rx ry h;obtain⟨rfl,q⟩:=h;cases ry;refine isnot_none_gen (vN I q ?_);cases x<;> first
  | (cases rx;rfl)
  | (obtain⟨t,rfl⟩:=rx;rfl)
theorem dv (b:Expr) {op:CmpOp} (h:op≠ .In:=by decide) (h2:op≠ .NotIn:=by decide):behindInMarks op b=false:=by
 have e1:(op==CmpOp.In)=false:=by cases op<;> first | rfl | exact absurd rfl h
 have e2:(op==CmpOp.NotIn)=false:=by cases op<;> first | rfl | exact absurd rfl h2
 cases b<;> simp[behindInMarks,e1,e2]
theorem sF {op:CmpOp} {r:R2} (ho:hJ X (compareOp op) r) (ha:PE X a ta) (hb:PE X b tb) (hm:behindInMarks op b=false):PE X (.Compare a [op] [b] pos) (xR r ta tb):=by
 intro π s σ H Q I h;exact wpAny_Compare1 (vH ha hb I h λv u s2 x y H2 I2 rx ry q=>ho π s2 σ H2 x y v u Q I2 rx ry q) hm
noncomputable def uN (t:TE):TT:=λσ H Q=>t σ H λx H'=>∃k,x=.bl k/\Q k H'
theorem sG {op:CmpOp} {r:R2} (ho:hJ X (compareOp op) r) (ha:PE X a ta) (hb:PE X b tb) (hm:behindInMarks op b=false):PT X (.Compare a [op] [b] pos) (uN (xR r ta tb)):=by
 intro π s σ H Q I h;refine wpAny_isTrue_Compare1 (bN (ha π s σ H _ I h) λv s1 ⟨x,H1,I1,r1,q1⟩=>bN (hb π s1 σ H1 _ I1 q1) λu s2 ⟨y,H2,I2,r2,q2⟩=>
  bN (ho π s2 σ H2 x y v u _ I2 r1 r2 q2) λc s3 ⟨z,H3,I3,r3,k,e,q3⟩=>?_) hm
 subst e;cases r3;exact wpAny_truthy_bool ⟨H3,I3,q3⟩
theorem iu:(sizeLine:Nat)<2^63:=by rw[sizeLine_eq];decide
theorem lR:hJ X (binaryOp .Add) (λx y H Q=>∃i j,x=.str i/\y=.str j/\i.length+j.length<=sizeLine/\Q (.str (i++j)) H):=by
 intro π s σ H x y v u Q I rx ry h;obtain⟨i,j,rfl,rfl,hz,q⟩:=h;obtain⟨t,rfl⟩:=rx;obtain⟨t',rfl⟩:=ry;exact add_str (λt' tk=>⟨.str (i++j),H,I.tok _,⟨_,rfl⟩,q⟩) hz
theorem dM {x:V} (r:aN [x] us):∃u,us=[u]/\aS x u:=by
 cases r with
 | cons r1 r2=>cases r2;exact⟨_,rfl,r1⟩
theorem nq {x y:V} (r:aN [x,y] us):∃u w',us=[u,w']/\aS x u/\aS y w':=by
 cases r with
 | cons r1 r2=>
   cases r2 with
   | cons r3 r4=>cases r4;exact⟨_,_,rfl,r1,r3⟩
theorem oP (hc:X.calm=true):cT X (.builtin "min") (λxs H Q=>∃i j,xs=[.int i,.int j]/\Q (.int (if j<i then j else i)) H):=by
 intro π s σ H xs us Q I r h;obtain⟨i,j,rfl,q⟩:=h;obtain⟨u,w',rfl,⟨t,rfl⟩,⟨t',rfl⟩⟩:=nq r;refine min_two_ints (I.ok.hd hc) λh' tk k=>⟨_,H,I.kept k,?_,q⟩
 by_cases hj:j<i
 ·rw[if_pos hj,if_pos hj];exact⟨_,rfl⟩
 ·rw[if_neg hj,if_neg hj];exact⟨_,rfl⟩
theorem ji:cT X (.type "int") (λxs H Q=>(∃i,xs=[.int i]/\Q (.int i) H)∨∃k,xs=[.bl k]/\Q (.int (if k then 1 else 0)) H):=by
 intro π s σ H xs us Q I r h;rcases h with⟨i,rfl,q⟩ | ⟨k,rfl,q⟩
 ·obtain⟨u,rfl,t,rfl⟩:=dM r;exact call_int_int ⟨.int i,H,I,⟨_,rfl⟩,q⟩
 ·obtain⟨u,rfl,r1⟩:=dM r;cases r1;exact call_int_bool ⟨.int (if k then 1 else 0),H,I.tok _,⟨_,rfl⟩,q⟩
end
structure vO (h:Heap) (x dx C:Addr) (mA:Str->Option Value):Prop where
 obj:h.get? x=some (PySem.W.instObj C dx)
 ns:h.Ns1 dx mA
 ne:dx≠x
theorem oQ {h:Heap} {dx:Addr} {mA:Str->Option Value} (n:h.Ns1 dx mA):∃od,h.get? dx=some od/\∀name,PySem.W.lookIn name od=some (mA name):=by
 obtain⟨o,es,ep,ho,hd,hk,_,hm⟩:=n;refine⟨o,ho,λname=>?_⟩;have e:=hm name;unfold nsFind findBy at e;rw[←Array.find?_toList] at e;unfold PySem.W.lookIn;rw[hd];dsimp only;split
 ·rename_i y q;rw[q] at e;exact congrArg some e
 ·rename_i q;rw[q] at e;have a:es.toList.any (·.refKey)=false:=by
   rw[List.any_eq_false];intro y hy;obtain⟨z,t,hkey⟩:=hk y (Array.mem_toList_iff.mp hy);simp[DictEntry.refKey,hkey]
  have a':¬es.toList.any (·.refKey)=true:=by rw[a];exact Bool.false_ne_true
  rw[if_neg a'];exact congrArg some e
theorem vO.look {h:Heap} {x dx C:Addr} {mA:Str->Option Value} (I:vO h x dx C mA):∃od,PySem.W.InstAt h x (PySem.W.instObj C dx) C (some od)/\∀name,PySem.W.lookIn name od=some (mA name):=
 let ⟨od,ho,hl⟩:=oQ I.ns
 ⟨od,⟨I.obj,rfl,rfl,ho⟩,hl⟩
section
variable {prog:Program} {w:World} {A:Around} {E:Value->Shared->Prop} {s:Shared} {K:PySem.W.Frag} {x dx C f:Addr} {mA:Str->Option Value} {name:Str} {v:Value}
end
theorem fX.some_of {v:V} {o:Option Value} (r:fX (some v) o):∃u,o=some u/\aS v u:=by
 cases o with
 | none=>exact(show False from r).elim
 | some u=>exact⟨u,rfl,r⟩
section
variable {P:Program} {w:World} {H H':Hp} {h h':Heap} {a C dx:Addr} {fs fs':List (Str×V)}
theorem sI (hok:fu P w H h) (e:H a=some (.ins C dx fs)):∃mA,vO h a dx C mA/\(∀f,fX (fs.lookup f) (mA f))/\PySem.Within mA (fs.map (·.1))/\fs.length<=1000/\H dx=some (.own a):=by
 obtain⟨d,z,ne,ob,mA,n,r,q⟩:=(show bA P w H h a (.ins C dx fs) from hok a _ e);exact⟨mA,⟨ob,n,ne⟩,r,q,z,d⟩
end
structure ya (K:PySem.W.Frag) (C:Addr):Prop where
 pg:PySem.W.plainGet K C Str.empty=true
 hd:PySem.W.hasDictIn K C=true
 po:PySem.W.plainOver K C=true
 sa:findIn K (.ref C) "__setattr__"=some (some (.builtin "object.__setattr__"))
theorem ya.get {C:Addr} (c:ya K C) (f:Str):PySem.W.plainGet K C f=true:=c.pg
structure Cj (K:PySem.W.Frag) (C:Addr) (f:Str) (v:V) (u:Value):Prop where
 at_:findIn K (.ref C) f=some (some u)
 rel:aS v u
 get:PySem.W.specialIn K u "__get__"=some none
 cp:PySem.W.copiedNames.contains f=false
structure yb (K:PySem.W.Frag) (C:Addr) (m:Str) (f:Addr):Prop where
 at_:findIn K (.ref C) m=some (some (.ref f))
 fn:PySem.W.isFn K (.ref f)=true
 kp:keepIn K (.ref f)=true
section
variable {X:Cx} {π:List (Addr×Obj)} {σ:St} {H:Hp} {s:Shared} {a C dx:Addr} {fs:List (Str×V)} {f:Str} {v:V} {A:Around} {E:Value->Shared->Prop}
end
section
variable {X:Cx} {o e value:Expr} {f:Str} {pos pos' tpos:Pos} {ta tv:TE}
end
section
variable {X:Cx} {π:List (Addr×Obj)} {σ:St} {H:Hp} {s:Shared} {A:Around} {E:Value->Shared->Prop} {Q:Value->Shared->Prop} {c:Value} {b:Bool}
inductive fY (K:PySem.W.Frag) (H:Hp):V->Value->Prop where
 | non:fY K H .non (.type "NoneType")
 | bl (x:Bool):fY K H (.bl x) (.type "bool")
 | int (i:Int):fY K H (.int i) (.type "int")
 | str (x:Str):fY K H (.str x) (.type "str")
 | flt (x:UInt64):fY K H (.flt x) (.type "float")
 | lst {a:Addr} {xs:List V} (e:H a=some (.lst xs)):fY K H (.ref a) (.type "list")
 | frz {a:Addr} {o:Obj} {xs:List V} (e:H a=some (.frz o (.lst xs))):fY K H (.ref a) (.type "list")
 | tup {a:Addr} {xs:List V} (e:H a=some (.tup xs)):fY K H (.ref a) (.type "tuple")
 | dK {a:Addr} {kvs:List (aC×V)} (e:H a=some (.dK kvs)):fY K H (.ref a) (.type "dict")
 | dT {a:Addr} {kvs:List (List aC×V)} (e:H a=some (.dT kvs)):fY K H (.ref a) (.type "dict")
 | ins {a C dx:Addr} {fs:List (Str×V)} (e:H a=some (.ins C dx fs)) (cl:ya K C) (ha:findIn K (.ref C) "__class__"=some (some (.builtin "object.__class__")))
    (hn:PySem.W.specialIn K (.builtin "object.__class__") "__get__"=some (some (.builtin "getset_descriptor.__get__"))) (htk:PySem.W.takesIn K (.builtin "object.__class__")=some true)
    (hm:mroIn K C (.type "object")=some true):fY K H (.ref a) (.ref C)
theorem jj {x:V} {u t:Value} (I:ay X π σ H s) (rx:aS x u) (ty:fY X.K H x t) (e:kitOne X.K t c=some b) (h:∀tk,Q (.bool b) { s with toks:=tk }):
 wpAny (model X.prog X.w) A (call (.builtin "isinstance") [u,c]) Q E s:=by
 cases ty with
 | non=>cases (show u=Value.none from rx);exact kia_one PySem.W.kitx_none I.kIn True.intro e (λz=>nomatch z) h
 | bl y=>cases (show u=Value.bool y from rx);exact kia_one PySem.W.kitx_bool I.kIn True.intro e (λz=>nomatch z) h
 | int i=>obtain⟨t,q⟩:=(show ∃t,u=Value.int i t from rx);cases q;exact kia_one PySem.W.kitx_int I.kIn True.intro e (λz=>nomatch z) h
 | str y=>obtain⟨t,q⟩:=(show ∃t,u=Value.str y t from rx);cases q;exact kia_one PySem.W.kitx_str I.kIn True.intro e (λz=>nomatch z) h
 | flt y=>obtain⟨t,q⟩:=(show ∃t,u=Value.float y t from rx);cases q;exact kia_one PySem.W.kitx_float I.kIn True.intro e (λz=>nomatch z) h
 | @lst a xs ea=>
   cases (show u=Value.ref a from rx);obtain⟨_,_,n,_,h1⟩:=(show bA X.prog X.w H s.heap a (.lst xs) from I.hok a _ ea);exact kia_one PySem.W.kitx_list I.kIn ⟨_,h1,rfl⟩ e (λz=>nomatch z) h
 | @frz a ob xs ea=>
   cases (show u=Value.ref a from rx);obtain⟨_,_,_,n,_,h1⟩:=(show bA X.prog X.w H s.heap a (.frz ob (.lst xs)) from I.hok a _ ea);exact kia_one PySem.W.kitx_list I.kIn ⟨_,h1,rfl⟩ e (λz=>nomatch z) h
 | @tup a xs ea=>
   cases (show u=Value.ref a from rx);obtain⟨_,_,_,p⟩:=(show bA X.prog X.w H s.heap a (.tup xs) from I.hok a _ ea);obtain⟨o,h1,h2,_⟩:=p;exact kia_one PySem.W.kitx_tuple I.kIn ⟨o,h1,h2⟩ e (λz=>nomatch z) h
 | @dK a kvs ea=>
   cases (show u=Value.ref a from rx);obtain⟨_,_,vs,_,p⟩:=(show bA X.prog X.w H s.heap a (.dK kvs) from I.hok a _ ea);obtain⟨o,es,ep,h1,h2,_⟩:=p;exact kia_one PySem.W.kitx_dict I.kIn ⟨o,h1,h2.1⟩ e (λz=>nomatch z) h
 | @dT a kvs ea=>
   cases (show u=Value.ref a from rx);obtain⟨_,_,xs,_,o,es,ep,h1,h2,_⟩:=(show bA X.prog X.w H s.heap a (.dT kvs) from I.hok a _ ea);exact kia_one PySem.W.kitx_dict I.kIn ⟨o,h1,h2.1⟩ e (λz=>nomatch z) h
 | @ins a C dx fs ea cl ha hn htk hm=>
   cases (show u=Value.ref a from rx);obtain⟨mA,O,_⟩:=sI I.hok ea;obtain⟨od,J,_⟩:=O.look;exact kia_one (PySem.W.kitx_own (cl.get _) cl.hd ha hn htk hm) I.kIn J e (λz=>nomatch z) h
end
structure aR (k:Nat) (A:Around):Prop where
 hd:A.handled=none
 dp:A.depth+3*k+5<recursionLimit
 un:A.units+16*k+200<cLine
theorem aR.mono {j k:Nat} (r:aR k A) (h:j<=k):aR j A:=⟨r.hd,by have:=r.dp;lia,by have:=r.un;lia⟩
theorem aR.deeper (r:aR (k+1) A) (env:Env):aR k (A.deeper env):=
 ⟨r.hd,by have:=r.dp;show A.depth+1+3*k+5<_;lia,by have:=r.un;show A.units+3+16*k+200<_;lia⟩
theorem aR.depth (r:aR k A):A.depth<recursionLimit:=by have:=r.dp;lia
noncomputable def pR:TA:=λ_ H Q=>Q [] H
noncomputable def fB (ta:TE) (tr:TA):TA:=λσ H Q=>ta σ H λx H1=>tr σ H1 λxs H2=>Q (x::xs) H2
section
variable {X:Cx} {e:Expr} {es:List Expr} {te:TE} {t:TA} {pos:Pos}
theorem pa_nil:PA X [] pR:=λ_ _ _ _ H Q I h=>Calls.spliced_nil ⟨[],H,I,.nil,h⟩
theorem bu (ha:PE X e te) (hr:PA X es t) (hs:starEach (e::es) X.env=(false,eval e X.env)::starEach es X.env:=by rfl):PA X (e::es) (fB te t):=by
 intro pos π s σ H Q I h;rw[hs];show wpAny _ _ (spliced ((false,eval e X.env)::backTo pos (starEach es X.env))) _ _ s;refine Calls.spliced_cons (bN (ha π s σ H _ I h) λu s1 z9=>?_);obtain⟨x,H1,I1,r1,q1⟩:=z9;exact bN (hr pos π s1 σ H1 _ I1 q1) λus s2 ⟨xs,H2,I2,r2,q2⟩=>⟨x::xs,H2,I2,.cons r1 r2,q2⟩
noncomputable def AA (t:TA):TE:=λσ H Q=>t σ H λxs H1=>xs.length<=sizeLine/\∀p,H1 p=none->Q (.ref p) (upd H1 p (.tup xs))
noncomputable def AB (t:TA):TE:=λσ H Q=>t σ H λxs H1=>xs.length<=sizeLine/\∀p,H1 p=none->Q (.ref p) (upd H1 p (.lst xs))
theorem vP {x1} (h:PA X es t):PE X (.Tuple es x1 pos) (AA t):=by
 intro π s σ H Q I hq;refine wpAny_Tuple_spliced (bN (h pos π s σ H _ I hq) λus s1 ⟨xs,H1,I1,r,z,q⟩=>⟨by rw[←r.length];exact z,?_⟩);have hf:H1 s1.heap.objs.size=none:=I1.hok.fresh (le_refl _);refine⟨.ref s1.heap.objs.size,upd H1 s1.heap.objs.size (.tup xs),I1.laid (t':=s1.toks) (λb u e=>Heap.get?_push_of_some _ e) (le_refl _) ?_,rfl,q _ hf⟩;exact⟨z,us,r,⟨_,Heap.get?_push_size _ rfl,rfl,_,rfl⟩⟩
theorem vQ (h:PA X es t):PE X (.List es pos) (AB t):=by
 intro π s σ H Q I hq;refine wpAny_List_spliced (bN (h pos π s σ H _ I hq) λus s1 ⟨xs,H1,I1,r,z,q⟩=>⟨by rw[←r.length];exact z,?_⟩);have hf:H1 s1.heap.objs.size=none:=I1.hok.fresh (le_refl _);refine⟨.ref s1.heap.objs.size,upd H1 s1.heap.objs.size (.lst xs),I1.laid (t':=s1.toks) (λb u e=>Heap.get?_push_of_some _ e) (le_refl _) ?_,rfl,q _ hf⟩;exact⟨z,us,0,r,Heap.get?_push_size _ rfl⟩
end
noncomputable abbrev Sp:=List V->Hp->VK->XK->Prop
noncomputable abbrev oS:=List Env->Hp->Shared->XK->Value->Shared->Prop
structure pS (P:Program) (w:World) (K:PySem.W.Frag) (mg:Str->Option Value) (base:Heap) (A:Around) (outer:List Env) (s:Shared) (H:Hp):Prop where
 frames:A.frames=some outer
 mod:Mod K mg base
 bs:∀b o,base.get? b=some o->s.heap.get? b=some o/\H b=none
 bsz:base.objs.size<=s.heap.objs.size
 funs:s.heap.FunFrames base outer
 frf:∀b∈dS outer,H b=none
 hok:fu P w H s.heap
 bare:AllBare s.gens
noncomputable def CE (outer:List Env) (P:Program) (w:World) (H:Hp) (s:Shared) (Q:VK) (u:Value) (s':Shared):Prop:=
 ∃v H',s'.os=s.os/\AllBare s'.gens/\Un (dS outer) [] H H' s.heap s'.heap/\fu P w H' s'.heap/\aS v u/\Q v H'
noncomputable def CR (CX:oS) (outer:List Env) (P:Program) (w:World) (H:Hp) (s:Shared) (Q:VK) (E:XK) (r:Result) (s':Shared):Prop:=
 match r with
 | .ok (.ret u)=>CE outer P w H s Q u s'
 | .ok _=>False
 | .error e=>CX outer H s E e s'
structure i7 (P:Program) (w:World) (K:PySem.W.Frag) (mg:Str->Option Value) (base:Heap) (CX:oS) (k:Nat) (f:Addr) (fd:FuncData) (ps:List Str) (sp:Sp):Prop where
 len:∀vs H Q E,sp vs H Q E->vs.length=ps.length
 run:∀(A:Around) (outer:List Env) (s:Shared) (H:Hp) (args:Args) (us:List Value) (vs:List V) (Q:VK) (E:XK),aR k A->pS P w K mg base A outer s H->BindsTo s fd args (ps.zip us)->aN vs us->sp vs H Q E->
  codeAny (model P w) A (.call (.ref f) args) (CR CX outer P w H s Q E) s
section
variable {X:Cx} {π:List (Addr×Obj)} {σ:St} {H:Hp} {s s':Shared}
theorem ay.env0 (I:ay X π σ H s):pS X.prog X.w X.K X.mg X.base X.A X.stack s H:=
 ⟨I.ok.frames,I.ok.mod,I.bs,le_trans I.ok.bsz I.sz,I.stack,I.stkFree,I.hok,I.bare⟩
theorem ay.after {Q:VK} (I:ay X π σ H s) (h:CE X.stack X.prog X.w H s Q u s'):EP X π σ Q u s':=by
 obtain⟨v,H',os,bare,un,hok,r,q⟩:=h;obtain⟨hh,g,d,t,os'⟩:=s';obtain rfl:os'=s.os:=os;exact⟨v,H',I.call (h':=hh) (g':=g) (d':=d) (t':=t) (ch:=[]) un hok bare (λb z=>absurd z (by simp)),r,q⟩
end
noncomputable def uO (sp:Sp) (dvs:List V) (E:XK) (t:TA):TE:=λσ H Q=>t σ H λvs H1=>sp (vs++dvs) H1 Q E
noncomputable def ce (K:PySem.W.Frag) (fd:FuncData) (ps:List Str) (ds:List Value):Prop:=
 ∀(s:Shared) (us:List Value),K.In s.heap->(us++ds).length=ps.length->BindsTo s fd ⟨us,[]⟩ (ps.zip (us++ds))
theorem ce.all (h:∀us:List Value,us.length=ps.length->bindArgs fd ⟨us,[]⟩=pure (ps.zip us)):ce K fd ps []:=λs us _ hl=>by
 rw[append_nil] at hl ⊢;exact .of_eq (h us hl)
noncomputable def lS (CX:oS) (X:Cx) (E:XK):Prop:=∀(π:List (Addr×Obj)) (σ:St) (H:Hp) (s:Shared) (e:Value) (s':Shared),ay X π σ H s->CX X.stack H s E e s'->X.xe e s'
section
variable {X:Cx} {CX:oS} {k:Nat} {f C:Addr} {fd:FuncData} {ps:List Str} {sp:Sp} {dvs:List V} {ds:List Value} {E:XK} {x m:Str} {p pos apos:Pos} {e o:Expr} {es:List Expr} {ta:TE} {t:TA}
theorem vR {σ:St} {H:Hp} {Q:VK} {vs:List V} (F:i7 X.prog X.w X.K X.mg X.base CX k f fd ps sp) (hr:aR k X.A) (hb:ce X.K fd ps ds) (hd:aN dvs ds) (hx:lS CX X E)
 (I:ay X π σ H s) (r:aN vs us) (h:sp (vs++dvs) H Q E):wpAny (model X.prog X.w) X.A (call (.ref f) us) (EP X π σ Q) X.xe s:=by
 have r2:aN (vs++dvs) (us++ds):=r.append hd;have hl:(us++ds).length=ps.length:=by rw[←r2.length];exact F.len _ _ _ _ h
 refine wpAny_call (codeAny_mono (F.run X.A X.stack s H ⟨us,[]⟩ (us++ds) (vs++dvs) Q E hr I.env0 (hb s us I.kIn hl) r2 h) λr s' hq=>?_);cases r with
 | error e=>exact hx π σ H s e s' I hq
 | ok fl=>
   cases fl with
   | ret u=>exact I.after hq
   | next=>exact False.elim hq
   | brk=>exact False.elim hq
   | cont=>exact False.elim hq
theorem nr (F:i7 X.prog X.w X.K X.mg X.base CX k f fd ps sp) (hr:aR k X.A) (hg:Gl X x) (hm:X.mg x=some (.ref f)) (hk:keepIn X.K (.ref f)=true) (hb:ce X.K fd ps ds) (hd:aN dvs ds) (hx:lS CX X E)
 (ha:PA X (e::es) t) (hdb:(x==("__debug__":Str))=false:=by decide) (he:starEach (e::es) X.env=(false,eval e X.env)::starEach es X.env:=by rfl) (hpl:(backTo pos (starEach es X.env)).any (·.1)=false:=by rfl):
 PE X (.Call (.Name x p) (e::es) [] pos) (uO sp dvs E t):=by
 intro π s σ H Q I h;refine wpAny_Call_Name_kw (cS I hg hm ?_ hdb);refine PySem.W.callWith_K (h₀:=X.base) I.ok.mod.kin hk (bN (ha pos π s σ H _ I h) λus s1 ⟨vs,H1,I1,r,q⟩=>⟨I1.kIn,?_⟩) he hpl;exact vR F hr hb hd hx I1 r q
structure Mk (K:PySem.W.Frag) (C f:Addr):Prop where
 makes:PySem.W.makesIn K C=true
 y7:findIn K (.ref C) "__init__"=some (some (.ref f))
 fn:PySem.W.isFn K (.ref f)=true
 kp:keepIn K (.ref C)=true
end
section
variable {X:Cx} {CX:oS} {k:Nat} {f C:Addr} {fd:FuncData} {ps ks:List Str} {sp:Sp} {E:XK} {x m:Str} {p pos apos kpos:Pos} {e o:Expr} {es:List Expr} {kws:List Keyword} {te ta:TE} {t tk:TA} {nm:Option Str}
structure AC (K:PySem.W.Frag) (fd:FuncData) (ps ks:List Str) (g:List Value->List Value->List Value) (gV:List V->List V->List V):Prop where
 to:∀(s:Shared) (us ws:List Value),K.In s.heap->(g us ws).length=ps.length->BindsTo s fd ⟨us,ks.zip ws⟩ (ps.zip (g us ws))
 rel:∀{vs:List V} {us:List Value} {zs:List V} {ws:List Value},aN vs us->aN zs ws->aN (gV vs zs) (g us ws)
variable {g:List Value->List Value->List Value} {gV:List V->List V->List V}
end
structure cf (N P:List Str) (sc:Scope):Prop where
 kind:sc.kind=.function
 co:sc.isCoroutine=false
 gen:sc.isGenerator=false
 nd:N.Nodup
 pre:N.take P.length=P
 par:∀x∈P,sc.names.lookup x=some .local∨sc.names.lookup x=some .cell
 nofree:∀y∈sc.names,y.2≠ .free
theorem jk {kindOf:Str->Option NameKind} {x:Str}:∀{binds:List (Str×Value)} {m:Str->Option Value},(∀v,(x,v)∉binds)->bindL kindOf binds m x=m x
 | [],_,_=>rfl
 | (n,v)::r,m,h=>by
   unfold bindL;rw[jk λw hw=>h w (mem_cons_of_mem _ hw)];split
   ·have:x≠n:=by rintro rfl;exact h v mem_cons_self
    simp[this]
   ·rfl
theorem jl {kindOf:Str->Option NameKind} {x:Str}:∀{binds:List (Str×Value)} {m:Str->Option Value},(∀v,(x,v)∉binds)->bindC kindOf binds m x=m x
 | [],_,_=>rfl
 | (n,v)::r,m,h=>by
   unfold bindC;rw[jl λw hw=>h w (mem_cons_of_mem _ hw)];split
   ·rfl
   ·have:x≠n:=by rintro rfl;exact h v mem_cons_self
    simp[this]
theorem jm {kindOf:Str->Option NameKind} {x:Str} {v:Value}:∀{P:List Str} {vs:List Value} {i:Nat} {m:Str->Option Value},P.Nodup->P[i]?=some x->vs[i]?=some v->kindOf x=some .local->
 bindL kindOf (P.zip vs) m x=some v
 | [],_,_,_,_,h,_,_=>by simp at h
 | _::_,[],_,_,_,_,h,_=>by simp at h
 | p::P,w::vs,0,m,nd,h1,h2,hk=>by
   simp at h1 h2;subst h1;subst h2;show bindL kindOf ((p,w)::P.zip vs) m p=_;unfold bindL;rw[jk λv hv=>(nodup_cons.mp nd).1 (List.of_mem_zip hv).1,if_pos hk];simp
 | p::P,w::vs,i+1,m,nd,h1,h2,hk=>by
   show bindL kindOf ((p,w)::P.zip vs) m x=_;unfold bindL;exact jm (i:=i) (nodup_cons.mp nd).2 (by simpa using h1) (by simpa using h2) hk
theorem jn {kindOf:Str->Option NameKind} {x:Str} {v:Value}:∀{P:List Str} {vs:List Value} {i:Nat} {m:Str->Option Value},P.Nodup->P[i]?=some x->vs[i]?=some v->kindOf x≠some .local->
 bindC kindOf (P.zip vs) m x=some v
 | [],_,_,_,_,h,_,_=>by simp at h
 | _::_,[],_,_,_,_,h,_=>by simp at h
 | p::P,w::vs,0,m,nd,h1,h2,hk=>by
   simp at h1 h2;subst h1;subst h2;show bindC kindOf ((p,w)::P.zip vs) m p=_;unfold bindC;rw[jl λv hv=>(nodup_cons.mp nd).1 (List.of_mem_zip hv).1,if_neg hk];simp
 | p::P,w::vs,i+1,m,nd,h1,h2,hk=>by
   show bindC kindOf ((p,w)::P.zip vs) m x=_;unfold bindC;exact jn (i:=i) (nodup_cons.mp nd).2 (by simpa using h1) (by simpa using h2) hk
noncomputable def start (N:List Str) (vs:List V):St:=vs.map some++List.replicate (N.length-vs.length) none
noncomputable def dw (CX:oS) (P:Program) (w:World) (K:PySem.W.Frag) (mg:Str->Option Value) (base:Heap) (N:List Str) (qual:Str) (scope:Scope) (f:Addr) (cd:Value) (A:Around) (outer:List Env) (s:Shared) (H:Hp) (E:XK):Cx where
 prog:=P
 w:=w
 K:=K
 mg:=mg
 base:=base
 A:=A.deeper (envOfC qual scope s.heap.objs.size f cd)
 N:=N
 s₀:=s
 H₀:=H
 env:=envOfC qual scope s.heap.objs.size f cd
 outer:=outer
 stack:=envOfC qual scope s.heap.objs.size f cd::outer
 ex:=[]
 calm:=true
 fn:=λ_=>true
 pn:=[]
 xe:=λe s'=>wpAny (model P w) (A.deeper (envOfC qual scope s.heap.objs.size f cd)) (leaving (envOfC qual scope s.heap.objs.size f cd) e) (λ_ s''=>CX outer H s E e s'') (λe' s''=>CX outer H s E e' s'') s'
theorem kE {sc:Scope} {n:Nat} (h:sc.names.lookup x=some .cell):∃c,(cellsFrom n sc.names []).lookup x=some c:=by
 have q:=PySem.W.cellsFrom_some sc.names n [] (.inl h);exact Option.isSome_iff_exists.mp q
theorem oU {CX:oS} {N ps:List Str} {qual:Str} {f:Addr} {cd:Value} {outer:List Env} {s s1:Shared} {H:Hp} {E:XK} {vs:List V}
 (S:cf N ps scope) (hd:A.handled=none) (e0:pS P w K mg base A outer s H) (hl:vs.length=ps.length) (r:aN vs us)
 (x:InCallC s s.heap.objs.size (bindL (envOfC qual scope s.heap.objs.size f cd).kindOf (ps.zip us) λ_=>none) (cellsFrom (s.heap.objs.size+1) scope.names []) (bindC (envOfC qual scope s.heap.objs.size f cd).kindOf (ps.zip us) λ_=>none) s1):
 ay (dw CX P w K mg base N qual scope f cd A outer s H E) [] (start N vs) H s1:=by
 have hpl:ps.length<=N.length:=by have:=congrArg List.length S.pre;rw[length_take] at this;(clear hl;lia)
 obtain⟨h1,tk,rfl,hk⟩:=x.done;have noA:∀b:Addr,b∉(dw CX P w K mg base N qual scope f cd A outer s H E).ex:=λb z=>absurd (show b∈([]:List Addr) from z) (by simp);refine⟨⟨e0.mod,S.kind,rfl,rfl,le_refl _,λy z c h1 h2=>?_,λy hy=>?_,λy c _ h=>?_,λ_=>hd,Around.frames_deeper e0.frames,.inr ⟨rfl,rfl⟩,λb z=>absurd z (noA b),e0.bs,e0.bsz,λb _ _=>noA b,λb z=>absurd z (noA b),e0.funs,e0.frf⟩,
  rfl,e0.bare,Un.kept hk,⟨_,x.toInCall.ns,λi y v h1 h2 h3=>?_⟩,λy c h=>⟨_,x.cell y c h⟩,e0.hok.fresh (le_refl _),λy c h=>?_,λp hp=>absurd (show p∈([]:List (Addr×Obj)) from hp) (by simp),e0.hok.kept hk,?_⟩
 ·exact name_of_addr x.apart (PySem.mem_of_lookup h1) (PySem.mem_of_lookup h2)
 ·have hy:scope.names.lookup y=some .cell∨scope.names.lookup y=some .free:=hy;rcases hy with hy | hy
  ·exact kE hy
  ·exact absurd rfl (S.nofree _ (PySem.mem_of_lookup hy))
 ·exact Nat.le_of_lt (x.above y c (PySem.mem_of_lookup h))
 ·have hi:i<vs.length:=by
   unfold start at h2
   by_cases hi:i<vs.length
   ·exact hi
   ·rw[List.getElem?_append_right (by simpa using hi)] at h2;rw[List.getElem?_replicate] at h2;split at h2<;> cases h2
  have ha:vs[i]?=some v:=by
   unfold start at h2;rw[List.getElem?_append_left (by simpa using hi),List.getElem?_map] at h2;cases e:vs[i]? with
   | none=>rw[e] at h2;cases h2
   | some a=>rw[e] at h2;cases h2;rfl
  obtain⟨u,hu,rv⟩:=r.get ha;have hp:ps[i]?=some y:=by
   rw[←S.pre,List.getElem?_take_of_lt (by (clear hpl h1 h2 ha hu;lia))];exact h1
  have ndP:ps.Nodup:=by rw[←S.pre];exact S.nd.sublist (List.take_sublist _ _)
  refine⟨u,rv,?_⟩;rcases S.par y (List.mem_of_getElem? hp) with k | k
  ·exact .inl ⟨k,jm ndP hp hu k⟩
  ·obtain⟨c,e⟩:=kE (n:=s.heap.objs.size+1) k;refine .inr ⟨.inl k,c,e,?_⟩;have q:=x.cell y c e;rw[jn ndP hp hu (by show scope.names.lookup y≠_;rw[k];decide)] at q;exact q
 ·exact e0.hok.fresh (Nat.le_of_lt (x.above y c (PySem.mem_of_lookup h)))
 ·unfold start;show _=N.length;rw[length_append,length_map,List.length_replicate];lia
theorem pU {CX:oS} {f:Addr} {name qual:Str} {params:Arguments} {dV kV doc pm cdv ct oc:Value} {an od:Option Addr}
 {osl:Array (Option Value)} {N ps:List Str} {sp:Sp} (lk:K.lookup f=some ⟨oc,od,.func (fnOf name qual params body scope dV kV doc pm an cdv ct),osl⟩) (hcd:codeIn K cdv qual=true) (S:cf N ps scope)
 (len:∀vs H Q E,sp vs H Q E->vs.length=ps.length)
 (hbody:∀(A:Around) (outer:List Env) (s:Shared) (H:Hp) (vs:List V) (Q:VK) (E:XK),aR k (A.deeper (envOfC qual scope s.heap.objs.size f cdv))->sp vs H Q E->
   ∃t,kA (dw CX P w K mg base N qual scope f cdv A outer s H E) body t/\t { nx:=λ_ H'=>Q .non H',rt:=Q } (start N vs) H):
 i7 P w K mg base CX (k+1) f (fnOf name qual params body scope dV kV doc pm an cdv ct) ps sp:=by
 refine⟨len,λA outer s H args us vs Q E hr e0 hb r hsp=>?_⟩;have hl:=len _ _ _ _ hsp;have KX:K.In s.heap:=e0.mod.kin.keeps λb o e=>(e0.bs b o e).1;have lim:s.heap.NoLimit:=e0.mod.nolimit.keeps λb o e=>(e0.bs b o e).1;have hkind:∀y∈ps.zip us,scope.names.lookup y.1=some .local∨(scope.names.lookup y.1=some .cell/\((cellsFrom (s.heap.objs.size+1) scope.names []).lookup y.1).isSome=true):=λ⟨n,v⟩ hy=>by
  rcases S.par n (List.of_mem_zip hy).1 with q | q
  ·exact .inl q
  ·exact .inr ⟨q,PySem.W.cellsFrom_some _ _ _ (.inl q)⟩
 refine codeAny_call_function hr.depth (KX _ _ lk) rfl S.co S.gen rfl (PySem.W.codeRec_of KX hcd) (hb _ _ _ _ ?_);refine wpAny_newFunctionEnv_cells S.kind hkind λenv he s1 x=>?_;subst he;refine⟨lim.keeps x.toInCall.keep,codeAny_func ?_⟩;obtain⟨t,ht,hq⟩:=hbody A outer s H vs Q E (hr.deeper _) hsp;have I:ay (dw CX P w K mg base N qual scope f cdv A outer s H E) [] (start N vs) H s1:=oU S hr.hd e0 hl r x;refine wpAny_mono (ht [] s1 (start N vs) H _ I hq) (λfl s' hs=>?_) λe s' hs=>hs;have fin:∀{σ':St} {H':Hp} {v:V} {u:Value},ay (dw CX P w K mg base N qual scope f cdv A outer s H E) [] σ' H' s'->aS v u->Q v H'->CE outer P w H s Q u s':=
  λ{σ' H' v u} J rv q=>⟨v,H',J.os,J.bare,J.base,J.hok,rv,q⟩
 cases fl with
 | ret u=>
   obtain⟨v,σ',H',J,rv,q⟩:=hs;exact fin J rv q
 | next=>
   obtain⟨σ',H',J,q⟩:=hs;exact fin (v:=V.non) (u:=Value.none) J rfl q
 | brk=>
   obtain⟨_,_,_,q⟩:=hs;exact False.elim q
 | cont=>
   obtain⟨_,_,_,q⟩:=hs;exact False.elim q
section
variable {X:Cx} {x:Str} {p pos:Pos} {e:Expr} {es:List Expr} {t:TA} {id T:String} {r:List V->Hp->VK->Prop}
noncomputable def AD (r:List V->Hp->VK->Prop) (t:TA):TE:=λσ H Q=>t σ H λvs H1=>r vs H1 Q
theorem dg (hc:cT X (.builtin id) r) (hg:Gl X x) (hm:X.mg x=none) (hv:bootBuiltins x=some (.builtin id)) (ha:PA X (e::es) t) (hn:x≠"__name__":=by decide) (hdb:(x==("__debug__":Str))=false:=by decide)
 (he:starEach (e::es) X.env=(false,eval e X.env)::starEach es X.env:=by rfl) (hpl:(backTo pos (starEach es X.env)).any (·.1)=false:=by rfl):PE X (.Call (.Name x p) (e::es) [] pos) (AD r t):=by
 intro π s σ H Q I h;refine wpAny_Call_Name_kw (fe I hg hm hv ?_ hn hdb);exact PyProof.Rows.callWith_builtin1 (bN (ha pos π s σ H _ I h) λus s1 ⟨vs,H1,I1,r1,q1⟩=>hc π s1 σ H1 vs us Q I1 r1 q1) he hpl
theorem oV (hc:cT X (.type T) r) (hg:Gl X x) (hm:X.mg x=none) (hv:bootBuiltins x=some (.type T)) (ha:PA X (e::es) t) (hn:x≠"__name__":=by decide) (hdb:(x==("__debug__":Str))=false:=by decide)
 (he:starEach (e::es) X.env=(false,eval e X.env)::starEach es X.env:=by rfl) (hpl:(backTo pos (starEach es X.env)).any (·.1)=false:=by rfl):PE X (.Call (.Name x p) (e::es) [] pos) (AD r t):=by
 intro π s σ H Q I h;refine wpAny_Call_Name_kw (fe I hg hm hv ?_ hn hdb);exact PyProof.Rows.callWith_type1 (bN (ha pos π s σ H _ I h) λus s1 ⟨vs,H1,I1,r1,q1⟩=>hc π s1 σ H1 vs us Q I1 r1 q1) he hpl
end
end L2
namespace HT
open PySem PyProof.Rows
theorem rcLt_int (A:Around) (s:Shared) (a:Int) (t:Tok) (c:Int) (u:Tok) (prog:Program) (w:World) (E:Value->Shared->Prop) (Q:Value->Shared->Prop) (h:Q (.bool (decide (a<c))) s):
 wpAny (model prog w) A (richCompare .Lt (.int a t) (.int c u)) Q E s:=
 (PyProof.Rows.lt_int h:wpAny (model prog w) A (compareOp .Lt (.int a t) (.int c u)) Q E s)
section
open PySem.SeqAt
open PySem.AutoSeq1 (wpAny_loadPart')
open PySem.MeetsSeq PySem.MeetsSeq2 PySem.MeetsSeq3
end
section
variable {prog:Program} {w:World} {A:Around} {E:Value->Shared->Prop} {s:Shared}
theorem cat_tup {t b:Addr} {vs ws:List Value} (ht:IsTup s.heap t vs.toArray) (hb:IsTup s.heap b ws.toArray) (hv:vs≠[])
 (h1:ws=[]->Q (.ref t) s) (h2:ws≠[]->Q (.ref s.heap.objs.size) { s with heap:=s.heap.push { cls:= .type "tuple",data:= .seq (vs++ws).toArray } })
 (hsz:vs.length+ws.length<=sizeLine):wpAny (model prog w) A (binaryOp .Add (.ref t) (.ref b)) Q E s:=by
 obtain⟨⟨cls,dd,data,sl⟩,ho,hc,n,hd⟩:=id ht;obtain⟨⟨cls2,dd2,data2,sl2⟩,ho2,hc2,n2,hd2⟩:=id hb;simp only at hc hd hc2 hd2;subst hc hd hc2 hd2;have e:vs.toArray++ws.toArray=(vs++ws).toArray:=by simp
 by_cases hw:ws=[]
 ·exact concat_meets ⟨_,ho,rfl⟩ ⟨_,ho2,rfl⟩ noFill_tuple_add seq_tuple_add PySem.F.slot_tuple_add PySem.F.entry_tuple_add (PySem.F.args_tuple_add_2 _ _)
   (tuple_addW1 t b vs.toArray ws.toArray n n2 dd dd2 sl sl2 (by simpa using hv) (by simp[hw])) ⟨ho,ho2,h1 hw⟩
 ·refine concat_meets ⟨_,ho,rfl⟩ ⟨_,ho2,rfl⟩ noFill_tuple_add seq_tuple_add PySem.F.slot_tuple_add PySem.F.entry_tuple_add (PySem.F.args_tuple_add_2 _ _)
   (tuple_addW2 t b vs.toArray ws.toArray n n2 dd dd2 sl sl2 (by simpa using hv) (by simpa using hw) (by rw[size_toArray,size_toArray];exact hsz)) ⟨ho,ho2,?_⟩
  rw[e];exact h2 hw
noncomputable def sIx (n d:Nat):Option Int->Nat
 | none=>d
 | some v=>if v<0 then (v+(n:Int)).toNat else min v.toNat n
theorem sIx_none (n d:Nat):sIx n d none=d:=rfl
theorem sIx_nat (n d k:Nat):sIx n d (some (k:Int))=min k n:=by
 show(if (k:Int)<0 then ((k:Int)+(n:Int)).toNat else min (k:Int).toNat n)=min k n;rw[if_neg (by lia),Int.toNat_natCast]
theorem vS (n d:Nat) (hd:d<=n) (o:Option Int):sIx n d o<=n:=by
 cases o with
 | none=>exact hd
 | some v=>
   show(if v<0 then (v+(n:Int)).toNat else min v.toNat n)<=n
   by_cases hv:v<0
   ·rw[if_pos hv];lia
   ·rw[if_neg hv];exact Nat.min_le_right _ _
theorem nv (v:Int) (n d:Nat):(if v<0 then max (v+(n:Int)) 0 else min v (n:Int))=((sIx n d (some v):Nat):Int):=by
 show(if v<0 then max (v+(n:Int)) 0 else min v (n:Int))=(((if v<0 then (v+(n:Int)).toNat else min v.toNat n):Nat):Int)
 by_cases hv:v<0
 ·simp only[if_pos hv];(clear hv;lia)
 ·simp only[if_neg hv];lia
theorem lU (lo hi:Option Int) (n:Nat):Builtin.Slice.sliceAdjust lo hi 1 (n:Int)=(((sIx n 0 lo:Nat):Int),((sIx n n hi:Nat):Int)):=by
 have h1:¬((1:Int)<0):=by lia
 unfold Builtin.Slice.sliceAdjust;simp only[h1,if_false];refine Prod.ext ?_ ?_
 ·cases lo with
  | none=>rfl
  | some v=>exact nv v n 0
 ·cases hi with
  | none=>rfl
  | some v=>exact nv v n n
theorem lV (i j:Nat):Builtin.Slice.slicePlaces (i:Int) (j:Int) 1=j-i:=by
 unfold Builtin.Slice.slicePlaces;have h1:(1:Int) > 0:=by lia
 simp only[h1,if_true,Int.ediv_one];split<;> (clear h1;lia)
theorem iw {v:Value} {o:Option Int} {Q:Option Int->Shared->Prop} (p:IsPart v o) (h:Q o s):wpAny (model prog w) A (Builtin.Slice.slicePartIndex v) Q E s:=by
 cases p with
 | none=>exact slicePart_none h
 | int i t=>exact slicePart_int h
theorem sliceApplied_gen {sl:Addr} {vl vu:Value} {lo hi:Option Int} {n:Nat} {Q:Int×Int×Nat->Shared->Prop} (hs:s.heap.IsSliceOf sl vl vu .none) (pl:IsPart vl lo) (pu:IsPart vu hi)
 (h:Q (((sIx n 0 lo:Nat):Int),1,sIx n n hi-sIx n 0 lo) s):wpAny (model prog w) A (Builtin.Slice.sliceApplied (.ref sl) (pure (n:Int))) Q E s:=by
 obtain⟨os,hos,hcs,hds⟩:=id hs;unfold Builtin.Slice.sliceApplied Builtin.Slice.sliceFields;refine wax (wax (wpAny_field hos hds (x:=vl) rfl (wax (wpAny_field hos hds (x:=vu) rfl (wax (wpAny_field hos hds (x:= .none) rfl (waz ?_)))))));refine wax (slicePart_none ?_);show wpAny _ _ (if ((1:Int)==0)=true then _ else _) _ _ s;rw[if_neg (by decide)];refine wax (iw pl (wax (iw pu (wax (waz ?_)))));show wpAny _ _ (match Builtin.Slice.sliceAdjust lo hi 1 (n:Int) with | (lo,hi)=>pure (lo,(1:Int),Builtin.Slice.slicePlaces lo hi 1)) _ _ s;rw[lU lo hi n];show wpAny _ _ (pure (((sIx n 0 lo:Nat):Int),(1:Int),Builtin.Slice.slicePlaces ((sIx n 0 lo:Nat):Int) ((sIx n n hi:Nat):Int) 1)) _ _ s;rw[lV];exact waz h
theorem pV (xs:Array Value) (i k:Nat):((List.range k).filterMap λ(m:Nat)=>xs[((i:Int)+(m:Int)*1).toNat]?).toArray=((xs.toList.drop i).take k).toArray:=by
 have e:(λ(m:Nat)=>xs[((i:Int)+(m:Int)*1).toNat]?)=λm=>xs[i+m]?:=by
  funext m
  have:((i:Int)+(m:Int)*1).toNat=i+m:=by lia
  rw[this]
 rw[e];have:=pick_run xs i k;rw[List.filterMap_map] at this;have e2:((λx=>xs[x]?) ∘ λx=>i+x)=λm=>xs[i+m]?:=rfl;rw[e2] at this;rw[this]
theorem getItem_tuple_cut {t sl:Addr} {vl vu:Value} {lo hi:Option Int} (ht:IsTup s.heap t items) (hs:s.heap.IsSliceOf sl vl vu .none) (pl:IsPart vl lo) (pu:IsPart vu hi)
 (hw:¬(sIx items.size 0 lo=0/\sIx items.size items.size hi=items.size))
 (h:Q (.ref s.heap.objs.size) { s with heap:=s.heap.push { cls:= .type "tuple",data:= .seq ((items.toList.drop (sIx items.size 0 lo)).take (sIx items.size items.size hi-sIx items.size 0 lo)).toArray } })
 (hsz:items.size<=sizeLine):wpAny (model prog w) A (getItem (.ref t) (.ref sl)) Q E s:=by
 have htake:sizeOk (.seq ((items.toList.drop (sIx items.size 0 lo)).take (sIx items.size items.size hi-sIx items.size 0 lo)).toArray):=by
  show((items.toList.drop (sIx items.size 0 lo)).take (sIx items.size items.size hi-sIx items.size 0 lo)).toArray.size<=sizeLine;rw[size_toArray,length_take,length_drop,Array.length_toList]
  (clear hw;lia)
 have hj:sIx items.size items.size hi<=items.size:=vS _ _ (le_refl _) hi;obtain⟨os,hos,hcs,hds⟩:=id hs;have hTs:s.TypeIs (.ref sl) "slice":=⟨os,hos,hcs⟩;unfold getItem
 try with_reducible refine wpAny_holding ?_
 first | refine wax (waz ?_) | skip
 refine wax (wpAny_sequenceKey ht.typeIs (by decide) ?_);refine wax (wpAny_callSpecial?_slot (name:=Str.ofString "__getitem__") ht.typeIs PyProof.Rows.slot_tuple_getitem
  (wpAny_call_entry PyProof.Rows.slot_tuple_getitem ht.typeIs entry_tuple_getitem ?_ (args_tuple_getitem _ _)))
 show wpAny _ _ (Builtin.Tuple.tupleItemsOf (.ref t) >>= _) _ _ s;refine wax (tupleItemsOf_ ht ?_);refine wax (wpAny_typeOf hTs ?_);rw[if_pos (by decide)];refine wax (sliceApplied_gen hs pl pu ?_);have hno:¬((((sIx items.size 0 lo:Nat):Int)==0&&(1:Int)==1&&(sIx items.size items.size hi-sIx items.size 0 lo)==items.size)=true):=by
  intro q;rw[Bool.and_eq_true,Bool.and_eq_true] at q;have q1:((sIx items.size 0 lo:Nat):Int)=0:=eq_of_beq q.1.1;have q2:sIx items.size items.size hi-sIx items.size 0 lo=items.size:=eq_of_beq q.2;exact hw ⟨by (clear hw hsz hj q2;lia),by (clear hw hsz;lia)⟩
 show wpAny _ _ (if (((sIx items.size 0 lo:Nat):Int)==0&&(1:Int)==1&&(sIx items.size items.size hi-sIx items.size 0 lo)==items.size)=true then _ else _) _ _ s;rw[if_neg hno,pV]
 first
  | exact wax (m:=Builtin.Tuple.tupleExact _) (wpAny_newObj_type (waz ⟨_,rfl,waz h⟩) htake)
  | exact wax (m:=Builtin.Tuple.tupleExact _) (wpAny_newObj_type (wax (waz (waz ⟨_,rfl,waz h⟩))) htake)
  | exact wax (wax (m:=Builtin.Tuple.tupleExact _) (wpAny_newObj_type (waz (waz ⟨_,rfl,waz h⟩)) htake))
  | exact wax (wax (m:=Builtin.Tuple.tupleExact _) (wpAny_newObj_type (waz ⟨_,rfl,waz h⟩) htake))
end
end HT
namespace L2
open PySem PySem.Spec PyProof.Rows
noncomputable abbrev TO:=St->Hp->(Option Int->Hp->Prop)->Prop
noncomputable def PO (X:Cx) (e:Option Expr) (t:TO):Prop:=
 ∀(π:List (Addr×Obj)) (s:Shared) (σ:St) (H:Hp) (Q:Option Int->Hp->Prop),ay X π σ H s->t σ H Q->
  wpAny (model X.prog X.w) X.A (evalPart e X.env) (λu s'=>∃o H',ay X π σ H' s'/\IsPart u o/\Q o H') X.xe s
noncomputable def sJ:TO:=λ_ H Q=>Q none H
noncomputable def yc (t:TE):TO:=λσ H Q=>t σ H λx H1=>∃i,x=.int i/\Q (some i) H1
theorem intsAre_of {ns:List Int}:∀{us:List Value},aN (ns.map V.int) us->IntsAre us ns:=by
 induction ns with
 | nil=>intro us r;rw[map_nil] at r;cases r;exact .nil
 | cons n ns ih=>
   intro us r;rw[map_cons] at r;cases r with
   | cons r1 r2=>
     obtain⟨t,e⟩:=r1;subst e;exact .cons n t (ih r2)
section
variable {X:Cx} {e:Expr} {te:TE} {lo hi:Option Expr} {tl th:TO} {pos p2:Pos}
theorem po_none:PO X none sJ:=by
 intro π s σ H Q I h;rw[evalPart_none];exact waz ⟨none,H,I,.none,h⟩
theorem sK (h:PE X e te):PO X (some e) (yc te):=by
 intro π s σ H Q I hw;rw[evalPart_some];refine bN (h π s σ H _ I hw) λu s1 z9=>?_;obtain⟨x,H1,I1,r1,q1⟩:=z9;obtain⟨i,rfl,q⟩:=q1;obtain⟨t,rfl⟩:=r1;exact⟨some i,H1,I1,.int i t,q⟩
noncomputable def yd (X:Cx) (r:V->Option Int->Option Int->Hp->VK->Prop):Prop:=
 ∀(π:List (Addr×Obj)) (s:Shared) (σ:St) (H:Hp) (x:V) (v vl vu:Value) (lo hi:Option Int) (sl:Addr) (Q:VK),ay X π σ H s->aS x v->s.heap.IsSliceOf sl vl vu .none->IsPart vl lo->IsPart vu hi->r x lo hi H Q->
  ∃T id,typeLookup (.type T) "__getitem__"=pure (some (.builtin id))/\s.TypeIs v T/\wpAny (model X.prog X.w) X.A (getItem v (.ref sl)) (EP X π σ Q) X.xe s
noncomputable def B3 (r:V->Option Int->Option Int->Hp->VK->Prop) (te:TE) (tl th:TO):TE:=λσ H Q=>te σ H λx H1=>tl σ H1 λl H2=>th σ H2 λu H3=>r x l u H3 Q
theorem pW {r:V->Option Int->Option Int->Hp->VK->Prop} (hr:yd X r) (he:PE X e te) (hl:PO X lo tl) (hu:PO X hi th):PE X (.Subscript e (.Slice lo hi none p2) pos) (B3 r te tl th):=by
 intro π s σ H Q I h;refine Subscript_ (bN (he π s σ H _ I h) λv s1 z9=>?_);obtain⟨x,H1,I1,r1,q1⟩:=z9;refine wpAny_Slice (bN (hl π s1 σ H1 _ I1 q1) λvl s2 ⟨l,H2,I2,pl,q2⟩=>bN (hu π s2 σ H2 _ I2 q2) λvu s3 z9=>?_);obtain⟨u,H3,I3,pu,q3⟩:=z9;rw[evalPart_none];refine waz ?_;have I4:ay X π σ H3 { s3 with heap:=s3.heap.push { cls:= .type "slice",data:= .fields #[vl,vu,.none] } }:=I3.kept (t':=s3.toks) λb ob q=>Heap.get?_push_of_some _ q;obtain⟨T,id,hT,ht,hg⟩:=hr π { s3 with heap:=s3.heap.push { cls:= .type "slice",data:= .fields #[vl,vu,.none] } } σ H3 x v vl vu l u s3.heap.objs.size Q I4 r1 (Heap.IsSliceOf.new ..) pl pu q3;show wpAny (model X.prog X.w) X.A (subscriptTail e (.Slice lo hi none p2) v (.ref s3.heap.objs.size)) (EP X π σ Q) X.xe { s3 with heap:=s3.heap.push { cls:= .type "slice",data:= .fields #[vl,vu,.none] } };exact tail_any (ops:=[.ref s3.heap.objs.size,v]) ht hT hg (by with_unfolding_all rfl)
noncomputable def kF (xs:List V) (lo hi:Option Int):List V:=(xs.drop (HT.sIx xs.length 0 lo)).take (HT.sIx xs.length xs.length hi-HT.sIx xs.length 0 lo)
theorem gL (xs:List V) (lo hi:Option Int):(kF xs lo hi).length<=xs.length:=by
 unfold kF;rw[length_take,length_drop];lia
noncomputable def AE (K:PySem.W.Frag):V->Option Int->Option Int->Hp->VK->Prop:=λx lo hi H Q=>∃a xs,x=.ref a/\du K H a xs/\
 ¬(HT.sIx xs.length 0 lo=0/\HT.sIx xs.length xs.length hi=xs.length)/\∀p,H p=none->Q (.ref p) (upd H p (.tup (kF xs lo hi)))
theorem vT:yd X (AE X.K):=by
 intro π s σ H x v vl vu lo hi sl Q I rx hs pl pu h;obtain⟨a,xs,rfl,hx,hw,q⟩:=h;cases rx;obtain⟨its,r,ht,hz⟩:=I.tuple hx;have hlen:its.toArray.size=xs.length:=by rw[size_toArray];exact r.length.symm
 refine⟨"tuple",_,PyProof.Rows.slot_tuple_getitem.lookup,ht.typeIs,?_⟩;refine HT.getItem_tuple_cut ht hs pl pu (by rw[hlen];exact hw) ?_ (by rw[hlen];exact hz);rw[hlen];refine⟨.ref s.heap.objs.size,_,I.laid (t':=s.toks) (o:= .tup (kF xs lo hi)) (λb ob q=>Heap.get?_push_of_some _ q) (le_refl _) ?_,rfl,q _ (I.hok.fresh (le_refl _))⟩;exact⟨le_trans (gL xs lo hi) hz,_,(r.drop (HT.sIx xs.length 0 lo)).take (HT.sIx xs.length xs.length hi-HT.sIx xs.length 0 lo),IsTup.new _ _⟩
noncomputable def ye (K:PySem.W.Frag):R2:=λx y H Q=>∃a b xs ys,x=.ref a/\y=.ref b/\du K H a xs/\du K H b ys/\xs≠[]/\xs.length+ys.length<=sizeLine/\
 (ys=[]->Q (.ref a) H)/\(ys≠[]->∀p,H p=none->Q (.ref p) (upd H p (.tup (xs++ys))))
theorem aN.nil_iff {xs:List V} (r:aN xs us):us=[]↔xs=[]:=by
 cases r with
 | nil=>simp
 | cons _ _=>simp
theorem sL:hJ X (binaryOp .Add) (ye X.K):=by
 intro π s σ H x y v u Q I rx ry h;obtain⟨a,b,xs,ys,rfl,rfl,ha,hb,hx,hz,q1,q2⟩:=h;cases rx;cases ry;obtain⟨its,r1,p1,_⟩:=I.tuple ha;obtain⟨its2,r2,p2,_⟩:=I.tuple hb;refine HT.cat_tup p1 p2 (λz=>hx (r1.nil_iff.mp z)) (λz=>⟨.ref a,H,I,rfl,q1 (r2.nil_iff.mp z)⟩) (λz=>?_) (by rw[←r1.length,←r2.length];exact hz);refine⟨.ref s.heap.objs.size,_,I.laid (t':=s.toks) (o:= .tup (xs++ys)) (λb ob q=>Heap.get?_push_of_some _ q) (le_refl _) ?_,rfl,q2 (λw=>z (r2.nil_iff.mpr w)) _ (I.hok.fresh (le_refl _))⟩;exact⟨by rw[length_append];exact hz,_,r1.append r2,IsTup.new _ _⟩
end
noncomputable def pF (n:Nat) (i:Int):Option Nat:=if 0<=i then (if i<n then some i.toNat else none) else if -(n:Int)<=i then some (i+n).toNat else none
noncomputable def fC {α:Type} (xs:List α) (i:Int):Option α:=(pF xs.length i).bind λj=>xs[j]?
theorem sM {n:Nat} {i:Int} {j:Nat} (h:pF n i=some j):seqIndex? i n=some j/\j<n/\-(n:Int)<=i/\i<n:=by
 unfold pF at h
 by_cases h0:0<=i
 ·rw[if_pos h0] at h
  by_cases h1:i<n
  ·rw[if_pos h1] at h;have e:i.toNat=j:=Option.some.inj h;exact⟨by rw[seqIndex_of h0 h1,e],by lia,by (clear h1 e;lia),h1⟩
  ·rw[if_neg h1] at h;cases h
 ·rw[if_neg h0] at h
  by_cases h1: -(n:Int)<=i
  ·rw[if_pos h1] at h;have e:(i+n).toNat=j:=Option.some.inj h;exact⟨by rw[seqIndex_neg (by (clear h1 e;lia)) h1,e],by lia,h1,by (clear e;lia)⟩
  ·rw[if_neg h1] at h;cases h
theorem jL {α:Type} {xs:List α} {i:Int} {v:α} (h:fC xs i=some v):∃j,seqIndex? i xs.length=some j/\xs[j]?=some v/\j<xs.length/\-(xs.length:Int)<=i/\i<xs.length:=by
 unfold fC at h;cases e:pF xs.length i with
 | none=>rw[e] at h;cases h
 | some j=>
   rw[e] at h;obtain⟨h1,h2,h3,h4⟩:=sM e;exact⟨j,h1,h,h2,h3,h4⟩
theorem bK {α:Type} {xs:List α} {j:Nat} {v:α} (h:xs[j]?=some v):fC xs (j:Int)=some v:=by
 have hj:j<xs.length:=(List.getElem?_eq_some_iff.mp h).1;have e:pF xs.length (j:Int)=some j:=by
  unfold pF;rw[if_pos (by (clear h hj;lia)),if_pos (by (clear h;lia))];simp
 unfold fC;rw[e];exact h
theorem kG {α:Type} (xs:List α) (v:α):fC (xs++[v]) (-1)=some v:=by
 have hl:(xs++[v]).length=xs.length+1:=by simp
 have e:pF (xs++[v]).length (-1)=some xs.length:=by
  unfold pF;rw[hl,if_neg (by decide),if_pos (by (clear hl;lia))]
  congr 1
  (clear hl;lia)
 unfold fC;rw[e];show(xs++[v])[xs.length]?=some v;simp
noncomputable def ny (b:Expr):Prop:=∀o i,subscripted b false o i=operate [o,i] (getItem o i)
noncomputable def yi (X:Cx) (r:R2):Prop:=
 ∀(value slice:Expr) (π:List (Addr×Obj)) (s:Shared) (σ:St) (H:Hp) (x y:V) (v u:Value) (Q:VK),ay X π σ H s->aS x v->aS y u->r x y H Q->
  subscripted slice false v u=operate [v,u] (getItem v u)->wpAny (model X.prog X.w) X.A (subscriptTail value slice v u) (EP X π σ Q) X.xe s
noncomputable def Ae (X:Cx) (id:String) (r:V->List V->Hp->VK->Prop):Prop:=
 ∀(π:List (Addr×Obj)) (s:Shared) (σ:St) (H:Hp) (x:V) (xs:List V) (v:Value) (us:List Value) (Q:VK),ay X π σ H s->aS x v->aN xs us->r x xs H Q->
  wpAny (model X.prog X.w) X.A (call (.builtin id) (v::us)) (EP X π σ Q) X.xe s
section
variable {X:Cx} {a b:Expr} {ta tb:TE} {pos:Pos}
theorem yj {r:R2} (hr:yi X r) (ha:PE X a ta) (hb:PE X b tb) (hs:ny b):PE X (.Subscript a b pos) (xR r ta tb):=by
 intro π s σ H Q I h;exact Subscript_ (vH ha hb I h λv u s2 x y H2 I2 rx ry q=>hr a b π s2 σ H2 x y v u Q I2 rx ry q (hs _ _))
noncomputable def AF (K:PySem.W.Frag):R2:=λx y H Q=>∃p xs i v,x=.ref p/\y=.int i/\cR K H p xs/\fC xs i=some v/\Q v H
noncomputable def AG (K:PySem.W.Frag):R2:=λx y H Q=>∃p xs i v,x=.ref p/\y=.int i/\du K H p xs/\fC xs i=some v/\Q v H
noncomputable def AH:R2:=λx y H Q=>∃z i c,x=.str z/\y=.int i/\z.length<=sizeLine/\fC z.cps.toList i=some c/\Q (.str ⟨#[c]⟩) H
theorem nz:yi X (AF X.K):=by
 intro value slice π s σ H x y v u Q I rx ry h hs;obtain⟨p,xs,i,z,rfl,rfl,hq,he,q⟩:=h;cases rx;obtain⟨t,rfl⟩:=ry;obtain⟨its,r,pl,hz⟩:=I.list hq;obtain⟨j,h1,h2,h3,h4,h5⟩:=jL he;obtain⟨w,ew,rw'⟩:=r.get h2;have hl:=r.length;have hn:=iu;have fin:EP X π σ Q w s:=⟨z,H,I,rw',q⟩
 by_cases h0:0<=i
 ·have hj:i.toNat=j:=by
   rw[seqIndex_of h0 h5] at h1;exact Option.some.inj h1
  exact item_listR pl.isList h0 (by (clear h2 h3 h4 ew h0 hj;lia)) (by rw[hj];simpa using ew) fin hs
 ·have hj:(i+(its.toArray.size:Int)).toNat=j:=by
   rw[seqIndex_neg (by (clear hz h2 h3 h4 h5 ew hl hn;lia)) h4] at h1;rw[size_toArray,←hl];exact Option.some.inj h1
  exact subscriptTail_builtinR (x:=w) pl.isList.typeIs slot_list_getitem.lookup
   (wpAny_getItem_list_neg (Q:=λr s'=>r=w/\EP X π σ Q r s') pl.isList (by (clear hz h2 h3 h4 h5 ew hl hn hj;lia)) (by rw[size_toArray]<;> (clear hz h2 h3 h5 ew hn h0 hj;lia)) (by (clear h2 h3 h5 ew h0 hj;lia)) (by rw[hj];simpa using ew) ⟨rfl,fin⟩) hs
theorem vU:yi X (AG X.K):=by
 intro value slice π s σ H x y v u Q I rx ry h hs;obtain⟨p,xs,i,z,rfl,rfl,hq,he,q⟩:=h;cases rx;obtain⟨t,rfl⟩:=ry;obtain⟨its,r,pl,hz⟩:=I.tuple hq;obtain⟨j,h1,h2,h3,h4,h5⟩:=jL he;obtain⟨w,ew,rw'⟩:=r.get h2;have hl:=r.length;have hn:=iu;have fin:EP X π σ Q w s:=⟨z,H,I,rw',q⟩;exact subscriptTail_builtinR (x:=w) pl.typeIs slot_tuple_getitem.lookup
  (getItem_tuple (j:=j) (Q:=λr s'=>r=w/\EP X π σ Q r s') pl (by (clear h2 h5 ew;lia)) (by (clear h2 h4 ew;lia)) (by rw[size_toArray,←hl];exact h1) (by simpa using ew) ⟨rfl,fin⟩) hs
theorem vV:yi X AH:=by
 intro value slice π s σ H x y v u Q I rx ry h hs;obtain⟨z,i,c,rfl,rfl,hz,he,q⟩:=h;obtain⟨t,rfl⟩:=rx;obtain⟨t',rfl⟩:=ry;obtain⟨j,h1,h2,h3,h4,h5⟩:=jL he;have hl:z.cps.toList.length=z.length:=by simp[Str.length]
 rw[hl] at h1 h4 h5;have hn:=iu;exact tail_any (typeIs_str s z t) slot_str_getitem.lookup (getItem_str (c:=c) (by
  have e1:decide (i< -(2^63:Int))=false:=decide_eq_false (by (clear h2 h3 h5;lia));have e2:decide (i≥2^63)=false:=decide_eq_false (by (clear h2 h3 h4 e1;lia));rw[e1,e2,Bool.or_false]) (by rw[h1];simpa using h2) ⟨.str ⟨#[c]⟩,H,I.tok _,⟨_,rfl⟩,q⟩) hs
theorem jM (lo hi:Option Int) (n:Nat):(sliceBounds lo hi none n).1=((HT.sIx n 0 lo:Nat):Int)/\(sliceBounds lo hi none n).2.1=((HT.sIx n n hi:Nat):Int)/\(sliceBounds lo hi none n).2.2=1:=by
 refine⟨?_,?_,rfl⟩
 ·cases lo with
  | none=>simp[sliceBounds,HT.sIx]
  | some i=>
    simp only[sliceBounds,HT.sIx,Option.getD_none,show(1:Int) > 0 by decide,if_true]
    by_cases h:i<0
    ·simp only[h,if_true]<;> lia
    ·simp only[h,if_false]<;> lia
 ·cases hi with
  | none=>simp[sliceBounds,HT.sIx]
  | some i=>
    simp only[sliceBounds,HT.sIx,Option.getD_none,show(1:Int) > 0 by decide,if_true]
    by_cases h:i<0
    ·simp only[h,if_true]<;> lia
    ·simp only[h,if_false]<;> lia
theorem i8 (its:List Value) (lo hi:Option Int):slicePick its.toArray lo hi none=((its.drop (HT.sIx its.length 0 lo)).take (HT.sIx its.length its.length hi-HT.sIx its.length 0 lo)).toArray:=by
 obtain⟨h1,h2,h3⟩:=jM lo hi its.toArray.size;unfold slicePick;rw[h1,h2,h3];simp only[sliceRange_one,pick_run,size_toArray]<;> rfl
noncomputable def AI (K:PySem.W.Frag):V->Option Int->Option Int->Hp->VK->Prop:=λx lo hi H Q=>∃a xs,x=.ref a/\cR K H a xs/\∀p,H p=none->Q (.ref p) (upd H p (.lst (kF xs lo hi)))
theorem nA:yd X (AI X.K):=by
 intro π s σ H x v vl vu lo hi sl Q I rx hs pl pu h;obtain⟨a,xs,rfl,hx,q⟩:=h;cases rx;obtain⟨its,r,ht,hz⟩:=I.list hx;have hlen:=r.length;refine⟨"list",_,slot_list_getitem.lookup,ht.isList.typeIs,?_⟩;refine wpAny_getItem_list_slice ht.isList hs pl pu .none (by simp) ?_ (by rw[size_toArray]<;> lia);rw[i8,←hlen];refine⟨.ref s.heap.objs.size,_,I.laid (t':=s.toks) (o:= .lst (kF xs lo hi)) (λb ob q=>Heap.get?_push_of_some _ q) (le_refl _) ?_,rfl,q _ (I.hok.fresh (le_refl _))⟩;exact⟨le_trans (gL xs lo hi) hz,_,0,(r.drop (HT.sIx xs.length 0 lo)).take (HT.sIx xs.length xs.length hi-HT.sIx xs.length 0 lo),Heap.get?_push_size _ rfl⟩
theorem dA:cT X (.builtin "len") (λxs H Q=>∃p ys,xs=[.ref p]/\(cR X.K H p ys∨du X.K H p ys)/\Q (.int ys.length) H):=by
 intro π s σ H xs us Q I r h;obtain⟨p,ys,rfl,hq,q⟩:=h;obtain⟨u,rfl,rx⟩:=dM r;cases rx;have hn:=iu;rcases hq with hq | hq
 ·obtain⟨its,r',pl,hz⟩:=I.list hq;have hlen:=r'.length;exact Calls.call_len_list pl.isList (by simp only[size_toArray]<;> lia) ⟨.int ys.length,H,I.tok _,⟨s.toks+1,by rw[size_toArray,hlen]⟩,q⟩
 ·obtain⟨its,r',pl,hz⟩:=I.tuple hq;have hlen:=r'.length;exact len_tuple pl (by simp only[size_toArray]<;> lia) ⟨.int ys.length,H,I.tok _,⟨s.toks+1,by rw[size_toArray,hlen]⟩,q⟩
theorem jN:cT X (.builtin "len") (λxs H Q=>∃z,xs=[.str z]/\z.length<=sizeLine/\Q (.int z.length) H):=by
 intro π s σ H xs us Q I r h;obtain⟨z,rfl,hz,q⟩:=h;obtain⟨u,rfl,t,rfl⟩:=dM r;have hn:=iu;exact len_str (by lia) ⟨.int z.length,H,I.tok _,⟨_,rfl⟩,q⟩
theorem fE:cT X (.type "list") (λxs H Q=>∃p ys,xs=[.ref p]/\(cR X.K H p ys∨du X.K H p ys)/\∀l,H l=none->Q (.ref l) (upd H l (.lst ys))):=by
 intro π s σ H xs us Q I r h;obtain⟨p,ys,rfl,hq,q⟩:=h;obtain⟨u,rfl,rx⟩:=dM r;cases rx;have fin:∀(its:List Value),aN ys its->ys.length<=sizeLine->∀(h':Heap) (c':Nat),(∀b o',s.heap.get? b=some o'->h'.get? b=some o')->
  h'.get? s.heap.objs.size=some { cls:= .type "list",dict:=none,data:= .seq its.toArray c',slots:= #[] }->EP X π σ Q (.ref s.heap.objs.size) { s with heap:=h' }:=λits r' hz h' c' kp e=>
  ⟨.ref s.heap.objs.size,_,I.laid (t':=s.toks) kp (le_refl _) (show bA X.prog X.w _ h' _ (.lst ys) from ⟨hz,its,c',r',e⟩),rfl,q _ (I.hok.fresh (le_refl _))⟩
 rcases hq with hq | hq
 ·obtain⟨its,r',pl,hz⟩:=I.list hq;have hlen:=r'.length;obtain⟨o,ho,hc,n,hd⟩:=pl.isList;exact call_list_seq p (.inl rfl) ho hc hd (λh' c' kp e=>fin its r' hz h' c' kp e) (by simp only[size_toArray]<;> lia)
 ·obtain⟨its,r',pl,hz⟩:=I.tuple hq;have hlen:=r'.length;obtain⟨o,ho,hc,n,hd⟩:=pl;exact call_list_seq p (.inr rfl) ho hc hd (λh' c' kp e=>fin its r' hz h' c' kp e) (by simp only[size_toArray]<;> lia)
theorem eV:cT X (.type "tuple") (λxs H Q=>∃p ys,xs=[.ref p]/\((cR X.K H p ys/\∀l,H l=none->Q (.ref l) (upd H l (.tup ys)))∨(du X.K H p ys/\Q (.ref p) H))):=by
 intro π s σ H xs us Q I r h;obtain⟨p,ys,rfl,h⟩:=h;obtain⟨u,rfl,rx⟩:=dM r;cases rx;rcases h with⟨hq,q⟩ | ⟨hq,q⟩
 ·obtain⟨its,r',pl,hz⟩:=I.list hq;have hlen:=r'.length;refine call_tuple_list pl.isList (λh' kp=>?_) (by simp only[size_toArray]<;> lia);have I1:ay X π σ H { s with heap:=h' }:=I.kept (t':=s.toks) kp;have I2:ay X π σ (upd H h'.objs.size (.tup ys)) { s with heap:=h'.push { cls:= .type "tuple",data:= .seq its.toArray } }:=
   I1.laid (t':=s.toks) (λb o e=>Heap.get?_push_of_some _ e) (le_refl _) (show bA X.prog X.w _ _ _ (.tup ys) from ⟨hz,its,r',IsTup.new _ _⟩)
  exact⟨.ref h'.objs.size,_,I2,rfl,q _ (I1.hok.fresh (le_refl _))⟩
 ·obtain⟨its,r',pl,hz⟩:=I.tuple hq;exact call_tuple_same pl ⟨.ref p,H,I,rfl,q⟩
noncomputable def yk (K:PySem.W.Frag) (T:String) (x:V) (H:Hp):Prop:=match x with
 | .str _=>T="str"
 | .int _=>T="int"
 | .ref p=>(T="list"/\∃xs,cR K H p xs)∨(T="tuple"/\∃o,K.lookup p=some o/\o.cls=.type "tuple"/\o.dict=none)∨
    (T="dict"/\((∃kvs,H p=some (.dK kvs))∨∃kvs,H p=some (.dT kvs)))∨(T="set"/\∃S n,H p=some (.set S n))
 | _=>False
theorem jO {σ:St} {H:Hp} {T:String} {x:V} {v:Value} (I:ay X π σ H s) (r:aS x v) (ty:yk X.K T x H):
 s.TypeIs v T/\∀a,v=.ref a->∃ob,s.heap.get? a=some ob/\ob.dict=none:=by
 cases x with
 | str z=>
   obtain⟨t,rfl⟩:=r;cases (show T="str" from ty);exact⟨typeIs_str s z t,λ_ e=>nomatch e⟩
 | int i=>
   obtain⟨t,rfl⟩:=r;cases (show T="int" from ty);exact⟨typeIs_int s i t,λ_ e=>nomatch e⟩
 | ref p=>
   cases r;rcases ty with⟨rfl,xs,hq⟩ | ⟨rfl,o,hk,hc,hd⟩ | ⟨rfl,hk⟩ | ⟨rfl,S,n,hk⟩
   ·obtain⟨its,_,pl,_⟩:=I.list hq;refine⟨pl.isList.typeIs,λa e=>?_⟩;cases e;obtain⟨o,n,e,c,hd,_⟩:=pl;exact⟨o,e,hd⟩
   ·refine⟨⟨o,I.kIn p o hk,hc⟩,λa e=>?_⟩;cases e;exact⟨o,I.kIn _ o hk,hd⟩
   ·have z:∃o,s.heap.get? p=some o/\o.ExactDict:=by
     rcases hk with⟨kvs,hk⟩ | ⟨kvs,hk⟩
     ·obtain⟨_,_,_,_,o,_,_,e,ex,_⟩:=I.hok p _ hk;exact⟨o,e,ex⟩
     ·obtain⟨_,_,_,_,o,_,_,e,ex,_⟩:=I.hok p _ hk;exact⟨o,e,ex⟩
    obtain⟨o,e,ex⟩:=z;refine⟨⟨o,e,ex.1⟩,λa e2=>?_⟩;cases e2;exact⟨o,e,ex.2.1⟩
   ·obtain⟨o,_,_,_,e,ex,_⟩:=I.hok p _ hk;refine⟨⟨o,e,ex.1⟩,λa e2=>?_⟩;cases e2;exact⟨o,e,ex.2.1⟩
 | _=>exact False.elim ty
noncomputable def AJ (K:PySem.W.Frag) (T:String) (r:V->List V->Hp->VK->Prop) (to:TE):TE:=λσ H Q=>to σ H λx H1=>yk K T x H1/\r x [] H1 Q
noncomputable def B4 (K:PySem.W.Frag) (T:String) (r:V->List V->Hp->VK->Prop) (to:TE) (t:TA):TE:=λσ H Q=>to σ H λx H1=>yk K T x H1/\t σ H1 λxs H2=>r x xs H2 Q
variable {o e:Expr} {es:List Expr} {to:TE} {t:TA} {name:Str} {apos cpos:Pos} {T id:String} {r:V->List V->Hp->VK->Prop}
theorem vW (pa:PlainAttrs T) (slot:Slot T name id) (hty:typeOf (.builtin id)=pure (.type "method_descriptor")) (hm:Ae X id r) (ho:PE X o to)
 (hbase:attributeBase o name X.env (eval o X.env)=eval o X.env:=by rfl) (hline:(apos.endLine==cpos.line)=true:=by rfl):PE X (.Call (.Attribute o name apos) [] [] cpos) (AJ X.K T r to):=by
 intro π s σ H Q I h;refine wpAny_Call_method0_late hbase hline (bN (ho π s σ H _ I h) λv s1 z9=>?_);obtain⟨x,H1,I1,r1,ty,q1⟩:=z9;obtain⟨h1,h2⟩:=jO I1 r1 ty;exact⟨T,id,pa,slot,hty,h1,h2,Calls.callWith_builtin rfl (PySem.evalArgs_none (hm π s1 σ H1 x [] v [] Q I1 r1 .nil q1))⟩
theorem pX (pa:PlainAttrs T) (slot:Slot T name id) (hty:typeOf (.builtin id)=pure (.type "method_descriptor")) (hm:Ae X id r) (ho:PE X o to) (ha:PA X (e::es) t)
 (hbase:attributeBase o name X.env (eval o X.env)=eval o X.env:=by rfl)
 (hfew:((backTo cpos (starEach (e::es) X.env)).all (λx=>!x.1)&&(backToKw cpos (keywordEach [] X.env)).all (λx=>x.1.isSome)
   &&decide ((e::es).length+([]:List Keyword).length+(if ([]:List Keyword).isEmpty then 0 else 1)<30))=true:=by rfl)
 (hline:(apos.endLine==cpos.line)=true:=by rfl) (hs:starEach (e::es) X.env=(false,eval e X.env)::starEach es X.env:=by rfl) (hplain:(backTo cpos (starEach es X.env)).any (·.1)=false:=by rfl):
 PE X (.Call (.Attribute o name apos) (e::es) [] cpos) (B4 X.K T r to t):=by
 intro π s σ H Q I h;refine wpAny_Call_method_late hbase hfew hline rfl (bN (ho π s σ H _ I h) λv s1 z9=>?_);obtain⟨x,H1,I1,r1,ty,q1⟩:=z9;obtain⟨h1,h2⟩:=jO I1 r1 ty;refine⟨T,id,pa,slot,hty,h1,h2,?_⟩;have hA:=ha cpos π s1 σ H1 _ I1 q1;rw[hs] at hA ⊢;refine Calls.callWith_builtin (by show(false||(backTo cpos (starEach es X.env)).any (·.1))=false;rw[hplain]<;> rfl) (Calls.evalArgs_plain ?_);exact bN hA λus s2 ⟨vs,H2,I2,r2,q2⟩=>hm π s2 σ H2 x vs v us Q I2 r1 r2 q2
end
noncomputable def BL (X:Cx) (id:String) (r:V->List V->Hp->VK->Prop):Prop:=
 ∀(π:List (Addr×Obj)) (s:Shared) (σ:St) (H:Hp) (x:V) (xs:List V) (v:Value) (us:List Value) (Q:VK),ay X π σ H s->aS x v->aN xs us->r x xs H Q->
  wpAny (model X.prog X.w) X.A (call (.builtin id) (v::us)) (EP X π σ Q) X.xe s
theorem aN.one:∀{x:V} {us:List Value},aN [x] us->∃u,us=[u]/\aS x u
 | _,_,.cons r .nil=>⟨_,rfl,r⟩
theorem aN.zero:∀{us:List Value},aN [] us->us=[]
 | _,.nil=>rfl
theorem aN.dropLast {xs:List V} (h:aN xs us):aN xs.dropLast us.dropLast:=by
 induction h with
 | nil=>exact .nil
 | cons r t ih=>
   cases t with
   | nil=>exact .nil
   | cons q t'=>exact .cons r ih
theorem aN.rep {xs:List V} {us:List Value} (h:aN xs us):∀k:Nat,aN (List.replicate k xs).flatten (List.replicate k us).flatten
 | 0=> .nil
 | k+1=>by
   rw[replicate_succ,replicate_succ,flatten_cons,flatten_cons];exact aN.append h (aN.rep h k)
theorem lW {α:Type} (l:List α):l.eraseIdx (l.length-1)=l.dropLast:=by
 induction l with
 | nil=>rfl
 | cons a r ih=>
   cases r with
   | nil=>rfl
   | cons b r=>
     have e:(a::b::r).length-1=((b::r).length-1)+1:=by
      have h1:(a::b::r).length=r.length+2:=rfl;have h2:(b::r).length=r.length+1:=rfl;assumption
     rw[e,List.eraseIdx_cons_succ,ih]
     all_goals rfl
theorem fZ (its:List Value):∀(k:Nat) (acc:List Value),
 List.foldl (λx1 x2=>x1++x2) acc.toArray (List.replicate k its.toArray)=(acc++(List.replicate k its).flatten).toArray
 | 0,acc=>by simp
 | k+1,acc=>by
   have e:acc.toArray++its.toArray=(acc++its).toArray:=by simp
   have e2:(acc++its)++(List.replicate k its).flatten=acc++(List.replicate (k+1) its).flatten:=by
    rw[replicate_succ,flatten_cons,append_assoc]
   rw[←e2,←fZ its k (acc++its),←e,replicate_succ,List.foldl_cons]
section
variable {X:Cx} {π:List (Addr×Obj)} {σ:St} {H:Hp} {s:Shared} {l b:Addr} {xs ys zs:List V}
theorem ay.lset {its its':List Value} {n:Nat} {f:Array Value->Array Value} {t':Nat} (I:ay X π σ H s) (hH:H l=some (.lst xs))
 (e:s.heap.get? l=some { cls:= .type "list",data:= .seq its.toArray n }) (hf:f its.toArray=its'.toArray) (hv:aN ys its') (hz:ys.length<=sizeLine):
 ay X π σ (upd H l (.lst ys)) { s with heap:=s.heap.update l (Obj.mapSeq f),toks:=t' }:=by
 have q:=PySem.IsL.update e f;rw[hf] at q;refine I.write (x:=l) (e:=l) (by rw[hH];exact trivial) (.inl rfl) (λb' u hb hu=>(Heap.get?_update_other s.heap (Obj.mapSeq f) (Ne.symm hb)).trans hu) ⟨_,q⟩ ?_;exact⟨hz,its',_,hv,q⟩
theorem ay.lnew {its:List Value} {t':Nat} (I:ay X π σ H s) (hv:aN ys its) (hz:ys.length<=sizeLine):
 ay X π σ (upd H s.heap.objs.size (.lst ys)) { s with heap:=s.heap.push { cls:= .type "list",data:= .seq its.toArray },toks:=t' }:=
 I.laid (λ_ _ q=>Heap.get?_push_of_some _ q) (le_refl _) ⟨hz,its,0,hv,Heap.get?_push_size _ rfl⟩
theorem ay.fresh (I:ay X π σ H s):H s.heap.objs.size=none:=I.hok.fresh (le_refl _)
theorem ay.lstM (I:ay X π σ H s) (hH:H l=some (.lst xs)):xs.length<=sizeLine/\∃(its:List Value) (n:Nat),aN xs its/\xs.length=its.length/\s.heap.get? l=some { cls:= .type "list",data:= .seq its.toArray n }:=by
 obtain⟨z,its,n,r,e⟩:=I.hok l _ hH;exact⟨z,its,n,r,r.length,e⟩
theorem pZ {n:Nat} (h:n<=sizeLine):Builtin.List.listTooLong n=false:=by
 unfold Builtin.List.listTooLong;exact decide_eq_false (by lia)
end
section
variable {X:Cx}
noncomputable def sN:V->List V->Hp->VK->Prop:=λx vs H Q=>∃l xs y,x=.ref l/\vs=[y]/\H l=some (.lst xs)/\xs.length<sizeLine/\Q .non (upd H l (.lst (xs++[y])))
theorem oW:BL X "list.append" sN:=by
 intro π s σ H x vs v us Q I rx rv h;obtain⟨l,xs,y,rfl,rfl,hH,hz,q⟩:=h;cases rx;obtain⟨u,rfl,ru⟩:=rv.one;obtain⟨z,its,n,r,hl,e⟩:=I.lstM hH;refine call_meets F.slot_list_append ⟨_,e,rfl⟩ F.entry_list_append (F.args_list_append_2 _ _) (PySem.list_append l its.toArray n u (by rw[size_toArray];(clear z;lia))) ⟨e,?_⟩;refine⟨.non,_,I.lset (its':=its++[u]) hH e (by simp) (r.append (.cons ru .nil)) ?_,rfl,q⟩;rw[length_append,List.length_singleton];assumption
noncomputable def AK:V->List V->Hp->VK->Prop:=λx vs H Q=>∃l xs y,x=.ref l/\vs=[]/\H l=some (.lst xs)/\xs[xs.length-1]?=some y/\Q y (upd H l (.lst xs.dropLast))
theorem vX:BL X "list.pop" AK:=by
 intro π s σ H x vs v us Q I rx rv h;obtain⟨l,xs,y,rfl,rfl,hH,hy,q⟩:=h;cases rx;have hus:=rv.zero;subst hus;obtain⟨z,its,n,r,hl,e⟩:=I.lstM hH;obtain⟨u,hu,ru⟩:=r.get hy;have hy':its.toArray[its.toArray.size-1]?=some u:=by
  show its.toArray[its.length-1]?=some u;rw[←Array.getElem?_toList,←hl];exact hu
 refine call_meets F.slot_list_pop ⟨_,e,rfl⟩ F.entry_list_pop (F.args_list_pop_1 _) (MeetsSeq.list_pop_last l its.toArray n u hy' (by rw[size_toArray];(clear hy hu hy';lia))) ⟨e,?_⟩;refine⟨y,_,I.lset (its':=its.dropLast) hH e ?_ r.dropLast ?_,ru,q⟩
 ·show its.toArray.eraseIdxIfInBounds (its.toArray.size-1)=its.dropLast.toArray;rw[size_toArray,List.eraseIdxIfInBounds_toArray,lW]
 ·rw[List.length_dropLast]
  (clear hy hu hy';lia)
noncomputable def AL:R2:=λx y H Q=>∃l b xs zs,x=.ref l/\y=.ref b/\H l=some (.lst xs)/\H b=some (.lst zs)/\xs.length+zs.length<=sizeLine/\∀p,H p=none->Q (.ref p) (upd H p (.lst (xs++zs)))
theorem vY:hJ X (binaryOp .Add) AL:=by
 intro π s σ H x y v u Q I rx ry h;obtain⟨l,b,xs,zs,rfl,rfl,hH,hB,hz,q⟩:=h;cases rx;cases ry;obtain⟨z,its,n,r,hl,e⟩:=I.lstM hH;obtain⟨z2,its2,n2,r2,hl2,e2⟩:=I.lstM hB;refine PySem.P.add_list e e2 ?_ (by rw[size_toArray,size_toArray];(clear z z2;lia));have ea:its.toArray++its2.toArray=(its++its2).toArray:=by simp
 rw[ea];exact⟨.ref _,_,I.lnew (t':=s.toks) (r.append r2) (by rw[length_append];assumption),rfl,q _ I.fresh⟩
noncomputable def AM:R2:=λx y H Q=>∃l k xs,x=.ref l/\y=.int k/\H l=some (.lst xs)/\-(2^63)<=k/\k<2^63/\xs.length*k.toNat<=sizeLine/\
 ∀p,H p=none->Q (.ref p) (upd H p (.lst (List.replicate k.toNat xs).flatten))
theorem ib {α:Type} (xs:List α) (k:Nat):(List.replicate k xs).flatten.length=k*xs.length:=by
 induction k with
 | zero=>simp
 | succ k ih=>rw[replicate_succ,flatten_cons,length_append,ih,Nat.succ_mul,Nat.add_comm]
theorem vZ:hJ X (binaryOp .Mult) AM:=by
 intro π s σ H x y v u Q I rx ry h;obtain⟨l,k,xs,rfl,rfl,hH,h1,h2,hz,q⟩:=h;cases rx;obtain⟨t,rfl⟩:=ry;obtain⟨z,its,n,r,hl,e⟩:=I.lstM hH;have hlen:its.toArray.size*k.toNat<=sizeLine:=by rw[size_toArray,←hl];exact hz
 have hcap:¬its.toArray.size*k.toNat > (2^63-1)/8:=by
  have:(sizeLine:Nat)<=(2^63-1)/8:=by decide
  (clear h1 h2 hz z hl;lia)
 have hfit:¬(!Builtin.List.listFitsIndex k)=true:=by
  rw[fitsIndex_both h1 h2];exact Bool.false_ne_true
 have hlong:¬Builtin.List.listTooLong (its.toArray.size*k.toNat)=true:=by
  rw[pZ hlen];exact Bool.false_ne_true
 have hnew:List.foldl (λx1 x2=>x1++x2) #[] (List.replicate (if its.toArray.isEmpty=true then 0 else k.toNat) its.toArray)=(List.replicate k.toNat its).flatten.toArray:=by
  have f0:∀m:Nat,List.foldl (λx1 x2=>x1++x2) #[] (List.replicate m its.toArray)=(List.replicate m its).flatten.toArray:=λm=>by
   have:=fZ its m [];rw[nil_append] at this;exact this
  rw[f0];cases its with
  | nil=>simp
  | cons a r'=>rw[if_neg (by simp)]
 refine wpAny_binaryOp_repeat_ref (T:="list") (U:="int") (by decide) ⟨_,e,rfl⟩ (λs'=>typeIs_int s' k t) noFill_list_mul F.fills_int_mul F.slot_int_rmul repeat_list F.slot_int_index.lookup
  (call_meets F.slot_int_rmul (typeIs_int s k t) F.entry_int_rmul (F.args_int_rmul_2 _ _) (int___rmul___int_list k t l its.toArray n)
    ⟨e,rfl,⟨_,e,rfl⟩,call_meets F.slot_list_mul ⟨_,e,rfl⟩ F.entry_list_mul (F.args_list_mul_2 _ _) (AutoListH.list___mul___list_int_3 l its.toArray n k t hfit hcap hlong) ⟨e,?_⟩⟩)
 rw[hnew];exact⟨.ref _,_,I.lnew (t':=s.toks) (r.rep k.toNat) (by rw[ib,Nat.mul_comm];exact hz),rfl,q _ I.fresh⟩
end
section
variable {prog:Program} {w:World} {A:Around} {E:Value->Shared->Prop} {s:Shared}
set_option maxRecDepth 100000 in
end
section
variable {X:Cx}
end
end L2
namespace Att
open PySem PySem.W PySem.Calls PyProof.Rows
theorem hW {P:Params} {h:Heap}:∀(ns:List Int) (vs:List Value),WellAll P h vs (ns.map WData.int)->IntsAre vs ns:=by
 intro ns
 induction ns with
 | nil=>
   intro vs w;rw[map_nil] at w;cases w;exact .nil
 | cons n ns ih=>
   intro vs w;rw[map_cons] at w;cases w with
   | cons a b=>
     cases a;exact .cons _ _ (ih _ b)
theorem script_of {l:OpenLaw} {n:Nat} (hn:l.most=some n) {P:Params} {h:Heap} {args:List WData} {vals:List Value}
 (hpre:l.row.toRowW.claim.pre args=true) (hwl:WellAll P h vals args):
 ∃a vs ns,vals=[Value.ref a]/\args=[WData.list (ns.map WData.int)]/\h.get? a=some { cls:= .type "list",data:= .seq vs.toArray }/\IntsAre vs ns/\ns.length<=n:=by
 have hsh:WShape.hasAll [] args [.list .int]=true:=(pre_splitW hpre).1;have hc:l.pre.holds [] { args:=args }=true:=(pre_splitW hpre).2;obtain⟨d,r,rfl,h1,h2⟩:=hasAllW_cons hsh;obtain rfl:=hasAllW_nil h2;obtain⟨xs,rfl,h3⟩:=hasW_list h1;obtain⟨ns,rfl⟩:=items_int h3;have hlen:ns.length<=n:=by
  unfold OpenLaw.pre at hc;have h4:(WTm.not (.lt (.lit (.int (n:Int))) (.len (.arg 0)))).holds [] { args:=[.list (ns.map .int)] }=true:=by
   have h4:=(holds_andW hc).1;rw[hn] at h4;exact h4
  have h5:=condW_of h4 (w_not (w_lt w_lit (w_len_list (w_arg rfl))));rw[length_map] at h5;refine Nat.le_of_not_lt λq=>?_;have q':(n:Int)<((ns.length:Nat):Int):=by (clear h5;lia)
  first
   | (rw[decide_eq_true q'] at h5;exact absurd h5 (by decide))
   | (simp at h5;lia)
 cases hwl with
 | cons w1 w2=>
   cases w2;cases w1 with
   | list ho hall=>exact⟨_,_,ns,rfl,rfl,ho,hW ns _ hall,hlen⟩
theorem post_true (l:OpenLaw) (args:List WData):l.row.toRowW.claim.post args (.bool true) args=true:=
 postW_of (r:=l.row.toRowW) (X:=(true==true))
  (show WShape.has [] (.bool true) .bool=true by first | rfl | decide | simp[WShape.has,WShape.arms,WShape.armsAll])
  (show(WTm.eq .res (.lit (.bool true))).value [] { args:=args,res:=some (.bool true),after:=args }=some (.bool (true==true)) from w_eq_bool (w_res rfl) w_lit) rfl
section
variable {prog:Program} {w:World} {A:Around} {E:Value->Shared->Prop} {s:Shared} {K:Frag}
end
end Att
namespace L2
open PySem PySem.Spec PyProof.Rows
theorem jo:∀{vs:List Value} {ns:List Int},IntsAre vs ns->aN (ns.map V.int) vs
 | _,_,.nil=> .nil
 | _,_,.cons n t h=> .cons ⟨t,rfl⟩ (jo h)
noncomputable def p6 (H:Hp):Prop:=∀b,H b=none∨∃o xs,H b=some (.frz o (.lst xs))
theorem p7 {mg mb:Str->Option Value} {CX:oS} {fa a:Addr} {sp:Sp} {s₁:Shared} {vs:List Value} {ns:List Int}
 (KX:K.In s₁.heap) (hns:s₁.heap.Ns mainGlobals mg) (hb:s₁.heap.Ns builtinsNs mb) (hbb:∀x:Str,x≠"__name__"->mb x=bootBuiltins x) (hlim:s₁.heap.NoLimit) (hg:s₁.gens= #[])
 (ha:s₁.heap.get? a=some { cls:= .type "list",data:= .seq vs.toArray }) (hi:IntsAre vs ns) (hl:ns.length<=sizeLine) (hr:aR k callerA)
 (F:∀base:Heap,K.In base->base.Ns mainGlobals mg->i7 P w K mg base CX k fa fd [x] sp) (hbind:∀(s:Shared) (u:Value),BindsTo s fd ⟨[u],[]⟩ [(x,u)])
 (hsp:∀H:Hp,p6 H->cR K H a (ns.map V.int)->sp [.ref a] H (λv _=>v=.bl true) λ_ _ _=>False)
 (hCX:∀H e s',CX [] H s₁ (λ_ _ _=>False) e s'->False):
 codeAny (model P w) callerA (.call (.ref fa) ⟨[.ref a],[]⟩) (λr s'=>r=.ok (.ret (.bool true))/\OldK s₁.heap s'.heap/\s'.os=s₁.os/\AllBare s'.gens) s₁:=by
 have rv:=jo hi;have lenV:=hi.length
 -- from an abstract heap in which nothing but the script may be tracked
 have core:∀H:Hp,p6 H->cR K H a (ns.map V.int)->fu P w H s₁.heap->(∀b,H b≠none->b=a)->(H a≠none->K.lookup a=none)->
  codeAny (model P w) callerA (.call (.ref fa) ⟨[.ref a],[]⟩) (λr s'=>r=.ok (.ret (.bool true))/\OldK s₁.heap s'.heap/\s'.os=s₁.os/\AllBare s'.gens) s₁:=by
  intro H hO hS hok hA hK;have base_of:∀{b:Addr} {o:Obj},s₁.heap.get? b=some o->H b=none->(jI s₁.heap H).get? b=some o:=λe n=>pL e n;have noA:∀{b:Addr} {o:Obj} {es:Array DictEntry} {ep:Nat},s₁.heap.get? b=some o->o.data=.dict es ep->H b=none:=λ{b o es ep} e d=>by
   cases q:H b with
   | none=>rfl
   | some u=>
     have e':b=a:=hA b (by rw[q];simp);subst e';rw[ha] at e;cases e;have d':Data.seq vs.toArray _=Data.dict es ep:=d;cases d'
  have nsK:∀{b:Addr} {m:Str->Option Value},s₁.heap.Ns b m->(jI s₁.heap H).Ns b m:=λ{b m} ⟨o,es,ep,e,d,r⟩=>⟨o,es,ep,base_of e (noA e d),d,r⟩;have hKb:K.In (jI s₁.heap H):=λb o e=>base_of (KX b o e) (by
   cases q:H b with
   | none=>rfl
   | some u=>
     have e':b=a:=hA b (by rw[q];simp);subst e';rw[hK (by rw[q];simp)] at e;cases e)
  have hM:Mod K mg (jI s₁.heap H):=⟨hKb,nsK hns,⟨mb,nsK hb,hbb⟩,let ⟨mc,h1,h2⟩:=hlim;⟨mc,nsK h1,h2⟩⟩;have e0:pS P w K mg (jI s₁.heap H) callerA [] s₁ H:=⟨rfl,hM,λb o e=>sk e,Nat.le_of_eq (oH _ _),trivial,λb hb=>absurd (show b∈([]:List Addr) from hb) (by simp),hok,.of_eq hg⟩;refine codeAny_mono ((F _ hKb (nsK hns)).run callerA [] s₁ H ⟨[.ref a],[]⟩ [.ref a] [.ref a] _ _ hr e0 (hbind s₁ (.ref a)) (.cons rfl .nil) (hsp H hO hS)) λr s' h=>?_;cases r with
  | error e=>exact(hCX H e s' h).elim
  | ok fl=>
    cases fl with
    | next=>exact False.elim h
    | brk=>exact False.elim h
    | cont=>exact False.elim h
    | ret u=>
      obtain⟨v,H',os,bare,un,hok',r',q⟩:=h;have q':v=.bl true:=q;subst q';obtain rfl:u=Value.bool true:=r';refine⟨rfl,OldK.of_keep λb o e=>?_,os,bare⟩;cases q:H b with
      | none=>exact un.keep b o e q (by intro z;exact absurd (show b∈([]:List Addr) from z) (by simp)) (by simp)
      | some u=>
        rcases hO b with z | ⟨ob,xs,z⟩
        ·rw[q] at z;cases z
        ·have z2:=un.frzs b ob _ z;obtain⟨e1,_⟩:=hok b _ z;obtain⟨e2,_⟩:=hok' b _ z2;rw[e] at e1;cases e1;exact e2
 cases hk:K.lookup a with
 | some o=>
   -- the script is one of the module's own objects
   have e:=KX a o hk;rw[ha] at e;cases e;refine core (λ_=>none) (λ_=> .inl rfl) (.inr ⟨_,vs.toArray,_,hk,rfl,rfl,rfl,by rw[size_toArray,lenV];exact hl,by simpa using rv⟩) (λb u z=>by have z':(none:Option HO)=some u:=z;cases z') (λb z=>absurd rfl z) λz=>absurd rfl z
 | none=>
   refine core (λb=>if b=a then some (.frz { cls:= .type "list",data:= .seq vs.toArray } (.lst (ns.map V.int))) else none) (λb=>?_) (.inl (.inr ⟨{ cls:= .type "list",data:= .seq vs.toArray },if_pos rfl⟩)) (λb u z=>?_) (λb z=>?_) λ_=>hk
   ·by_cases hb:b=a
    ·exact .inr ⟨_,_,if_pos hb⟩
    ·exact .inl (if_neg hb)
   ·by_cases hb:b=a
    ·have z':=(if_pos hb).symm.trans z;cases z';subst hb;exact⟨ha,by rw[length_map];exact hl,vs,_,rv,ha⟩
    ·have z':=(if_neg hb).symm.trans z;cases z'
   ·by_cases hb:b=a
    ·exact hb
    ·exact absurd (if_neg hb) z
noncomputable def aM (s:Stmt):Arguments:=match s with
 | .FunctionDef _ a _ _ _ _ _ _ _ _=>a
 | _=>{ posonlyargs:=[],args:=[],vararg:=none,kwonlyargs:=[],kw_defaults:=[],kwarg:=none,defaults:=[] }
noncomputable def aF (s:Stmt):List Stmt:=match s with
 | .FunctionDef _ _ b _ _ _ _ _ _ _=>b
 | _=>[]
noncomputable def aw (s:Stmt):Scope:=match s with
 | .FunctionDef _ _ _ _ _ _ sc _ _ _=>sc
 | _=>{ kind:= .function,names:=[],isGenerator:=false,isCoroutine:=false }
noncomputable abbrev p8:oS:=λ_ _ _ _ _ _=>False
noncomputable abbrev E0:XK:=λ_ _ _=>False
theorem uP {X:Cx}:lS p8 X E0:=λ_ _ _ _ _ _ _ h=>h.elim
structure dX (K:PySem.W.Frag) (x qual:Str) (st:Stmt) (f:Addr) (fd:FuncData):Prop where
 ex:∃(oc:Value) (od:Option Addr) (kV doc pm:Value) (an:Option Addr) (cdv ct:Value) (osl:Array (Option Value)),
  fd=fnOf x qual (aM st) (aF st) (aw st) .none kV doc pm an cdv ct/\K.lookup f=some ⟨oc,od,.func fd,osl⟩/\codeIn K cdv qual=true
 kp:keepIn K (.ref f)=true
section
variable {P:Program} {w:World} {K:PySem.W.Frag} {mg:Str->Option Value} {base:Heap}
theorem dX.ok {x qual:Str} {f:Addr} {N ps:List Str} {sp:Sp} (F:dX K x qual st f fd) (S:cf N ps (aw st)) (len:∀vs H Q E,sp vs H Q E->vs.length=ps.length)
 (hbody:∀(cdv:Value) (A:Around) (outer:List Env) (s:Shared) (H:Hp) (vs:List V) (Q:VK) (E:XK),aR k (A.deeper (envOfC qual (aw st) s.heap.objs.size f cdv))->sp vs H Q E->
   ∃t,kA (dw p8 P w K mg base N qual (aw st) f cdv A outer s H E).nox (aF st) t/\t { nx:=λ_ H'=>Q .non H',rt:=Q } (start N vs) H):i7 P w K mg base p8 (k+1) f fd ps sp:=by
 obtain⟨oc,od,kV,doc,pm,an,cdv,ct,osl,rfl,lk,hcd⟩:=F.ex;refine pU lk hcd S len λA outer s H vs Q E hr hsp=>?_;obtain⟨t,h,q⟩:=hbody cdv A outer s H vs Q E hr hsp;exact⟨t,h.nox,q⟩
theorem dX.binds {x qual:Str} {f:Addr} (F:dX K x qual st f fd)
 (h:∀(kV doc pm:Value) (an:Option Addr) (cdv ct:Value) (us:List Value),us.length=ps.length->bindArgs (fnOf x qual (aM st) (aF st) (aw st) .none kV doc pm an cdv ct) ⟨us,[]⟩=pure (ps.zip us)):ce K fd ps []:=by
 obtain⟨oc,od,kV,doc,pm,an,cdv,ct,osl,rfl,lk,hcd⟩:=F.ex;exact .all (h kV doc pm an cdv ct)
theorem bx {x qual:Str} {f:Addr} {oc:Value} {od an:Option Addr} {osl:Array (Option Value)} {kV doc pm cdv ct:Value} (l:K.lookup f=some ⟨oc,od,.func (fnOf x qual (aM st) (aF st) (aw st) .none kV doc pm an cdv ct),osl⟩)
 (c:codeIn K cdv qual=true) (k:keepIn K (.ref f)=true):dX K x qual st f (fnOf x qual (aM st) (aF st) (aw st) .none kV doc pm an cdv ct):=⟨⟨oc,od,kV,doc,pm,an,cdv,ct,osl,rfl,l,c⟩,k⟩
end
section
variable {X:Cx}
theorem pv (i:Nat) (hN:X.N[i]?=some x:=by rfl) (hv:pE X.env.scope x:=by first | exact Or.inl rfl | exact Or.inr (Or.inl rfl) | exact Or.inr (Or.inr rfl)) (hd:(x==("__debug__":Str))=false:=by decide)
 (hcd:(x==("__classdict__":Str))=false:=by decide):PE X (.Name x pos) (oJ i):=fc hN hv hd hcd
end
theorem v5 {A B:Prop} (h:B):if false=true then A else B:=by
 rw[if_neg Bool.false_ne_true];exact h
section
variable {κ:Type} [DecidableEq κ]
noncomputable def i9 (kvs:List (κ×V)) (k:κ):Option V:=(kvs.find? λkv=>decide (kv.1=k)).map (·.2)
noncomputable def dQ (kvs:List (κ×V)) (k:κ) (v:V):List (κ×V):=
 if (kvs.any λkv=>decide (kv.1=k))=true then kvs.map (λkv=>if kv.1=k then (kv.1,v) else kv) else kvs++[(k,v)]
theorem kH {p:κ×V} {r:List (κ×V)} {k:κ} (e:p.1=k):i9 (p::r) k=some p.2:=by simp[i9,List.find?_cons,e]
theorem kI {p:κ×V} {r:List (κ×V)} {k:κ} (e:¬p.1=k):i9 (p::r) k=i9 r k:=by simp[i9,List.find?_cons,e]
theorem gM (kvs:List (κ×V)) (k:κ) (v:V):(dQ kvs k v).length<=kvs.length+1:=by
 unfold dQ;split
 ·rw[length_map];lia
 ·rw[length_append,length_cons,length_nil];lia
theorem fX.isSome_eq {o:Option V} {u:Option Value} (r:fX o u):o.isSome=u.isSome:=by
 cases o with
 | none=>cases u with
   | none=>rfl
   | some _=>exact(show False from r).elim
 | some _=>cases u with
   | none=>exact(show False from r).elim
   | some _=>rfl
theorem fX.getD {o:Option V} {u:Option Value} {d:V} {d':Value} (r:fX o u) (rd:aS d d'):aS (o.getD d) (u.getD d'):=by
 cases o with
 | none=>cases u with
   | none=>exact rd
   | some _=>exact(show False from r).elim
 | some _=>cases u with
   | none=>exact(show False from r).elim
   | some _=>exact r
theorem KV.val {kvs:List (κ×V)} {vs:List (κ×Value)} (r:KV kvs vs) (k:κ):fX (i9 kvs k) (valueAt vs k):=by
 unfold KV at r
 induction r with
 | nil=>exact True.intro
 | @cons p q ps qs h t ih=>
   obtain⟨h1,h2⟩:=h
   by_cases e:p.1=k
   ·have e':q.1=k:=h1.symm.trans e;have b:valueAt (q::qs) k=some q.2:=by simp[valueAt,List.find?_cons,e']
    rw[kH e,b];exact h2
   ·have e':¬q.1=k:=λz=>e (h1.trans z);have b:valueAt (q::qs) k=valueAt qs k:=by simp[valueAt,List.find?_cons,e']
    rw[kI e,b];exact ih
theorem KV.any {kvs:List (κ×V)} {vs:List (κ×Value)} (r:KV kvs vs) (k:κ):(kvs.any λkv=>decide (kv.1=k))=vs.any λkv=>decide (kv.1=k):=by
 unfold KV at r
 induction r with
 | nil=>rfl
 | cons h t ih=>rw[any_cons,any_cons,ih,h.1]
theorem KV.repl {kvs:List (κ×V)} {vs:List (κ×Value)} (r:KV kvs vs) (k:κ) {y:V} (ry:aS y u):
 KV (kvs.map λkv=>if kv.1=k then (kv.1,y) else kv) (vs.map λkv=>if kv.1=k then (kv.1,u) else kv):=by
 unfold KV at r ⊢
 induction r with
 | nil=>exact .nil
 | @cons p q ps qs h t ih=>
   rw[map_cons,map_cons];refine .cons ?_ ih;obtain⟨h1,h2⟩:=h
   by_cases e:p.1=k
   ·rw[if_pos e,if_pos (h1.symm.trans e)];exact⟨h1,ry⟩
   ·rw[if_neg e,if_neg (λz=>e (h1.trans z))];exact⟨h1,h2⟩
theorem KV.put {kvs:List (κ×V)} {vs:List (κ×Value)} (r:KV kvs vs) (k:κ) {y:V} (ry:aS y u):KV (dQ kvs k y) (stored vs k u):=by
 unfold dQ stored;rw[r.any k]
 by_cases e:(vs.any λkv=>decide (kv.1=k))=true
 ·rw[if_pos e,if_pos e];exact r.repl k ry
 ·rw[if_neg e,if_neg e];exact Paired.snoc r ⟨rfl,ry⟩
theorem KV.keys {kvs:List (κ×V)} {vs:List (κ×Value)} (r:KV kvs vs):kvs.map (·.1)=vs.map (·.1):=by
 unfold KV at r
 induction r with
 | nil=>rfl
 | cons h t ih=>rw[map_cons,map_cons,ih,h.1]
theorem KV.length {kvs:List (κ×V)} {vs:List (κ×Value)} (r:KV kvs vs):kvs.length=vs.length:=Paired.length r
end
theorem gP {k:aC} (r:aS (kV k) u):(aL P w).is k u=true:=by
 cases k with
 | inl i=>obtain⟨t,e⟩:=(show ∃t,u=Value.int i t from r);subst e;exact kB P w i t
 | inr x=>obtain⟨t,e⟩:=(show ∃t,u=Value.str x t from r);subst e;exact kC P w x t
section
variable {P:Program} {w:World} {H:Hp} {h:Heap} {a:Addr}
theorem ym {u:HO} (ok:fu P w H h) (e:Rd H a u):bA P w H h a u:=e.ok ok
theorem dh {kvs:List (aC×V)} (ok:fu P w H h) (e:Rd H a (.dK kvs)):kvs.length<=sizeLine/\(a==sysModules)=false/\∃vs,KV kvs vs/\h.DictOf (aL P w) a vs:=
 show bA P w H h a (.dK kvs) from ym ok e
theorem gQ {kvs:List (aC×V)} (ok:fu P w H h) (e:H a=some (.dK kvs)):kvs.length<=sizeLine/\(a==sysModules)=false/\∃vs,KV kvs vs/\h.DictOf (aL P w) a vs:=dh ok (.inl e)
end
section
variable {X:Cx} {π:List (Addr×Obj)} {σ:St} {H:Hp} {s:Shared} {a:Addr} {y v:V} {u r:Value} {o:Option V} {A:Around} {E:Value->Shared->Prop}
theorem ay.bigD (I:ay X π σ H s):sysModules<s.heap.objs.size:=by
 have h:mainGlobals<s.heap.objs.size:=(I.mod.glob.keeps I.bk).lt;exact Nat.lt_trans (by decide) h
theorem nB {h':Heap} {t':Nat} {ob:HO} (I:ay X π σ H s) (mu:xF (H a)) (hs:Heap.SameBut a s.heap h') (he:∃q,h'.get? a=some q) (new:bA X.prog X.w (upd H a ob) h' a ob):
 ay X π σ (upd H a ob) { s with heap:=h',toks:=t' }:=
 I.write (x:=a) (e:=a) mu (.inl rfl) (λb q hb z=>(hs.2 b hb).trans z) he new
theorem p9 {H':Hp} {h':Heap} {kvs:List (aC×V)} {vs:List (aC×Value)} (z:kvs.length<=sizeLine) (hd:(a==sysModules)=false) (rel:KV kvs vs) (dd:h'.DictOf (aL P w) a vs):
 bA P w H' h' a (.dK kvs):=⟨z,hd,vs,rel,dd⟩
end
section
variable {X:Cx} {π:List (Addr×Obj)} {σ:St} {H:Hp} {s:Shared} {a:Addr} {kvs:List (aC×V)} {k:aC} {u:Value} {A:Around} {E:Value->Shared->Prop}
theorem yn (I:ay X π σ H s) (e:Rd H a (.dK kvs)) (h:∀t s',ay X π σ H s'->Q (.int kvs.length t) s'):wpAny (model X.prog X.w) A (call (.builtin "len") [.ref a]) Q E s:=by
 obtain⟨z,hd,vs,rel,dd⟩:=dh I.hok e;refine call_len_dict hd dd (by rw[←rel.length];rw[sizeLine_eq] at z;lia) ?_;rw[←rel.length];exact h _ _ (I.tok _)
end
section
variable {X:Cx} {o i e value:Expr} {pos pos' tpos:Pos} {td ty tv:TE}
end
theorem jp {H:Hp} (h:Heap) (hb:sysModules<h.objs.size):bA P w H (h.push { cls:= .type "dict",data:= .dict #[] }) h.objs.size (.dK []):=
 ⟨zero_le _,beq_eq_false_iff_ne.mpr (Ne.symm (ne_of_lt hb)),[],.nil,Heap.DictOf.new h⟩
noncomputable def v6:TE:=λ_ H Q=>∀p,H p=none->Q (.ref p) (upd H p (.dK []))
section
variable {X:Cx} {pos:Pos}
theorem pe_dnewK:PE X (.Dict [] [] pos) v6:=λπ s σ H Q I h=>
 wpAny_Dict_empty ⟨.ref s.heap.objs.size,_,I.laid (a:=s.heap.objs.size) (o:= .dK []) (t':=s.toks) (λ_ _ q=>Heap.get?_push_of_some _ q) (le_refl _) (jp s.heap I.bigD),rfl,h _ (I.hok.fresh (le_refl _))⟩
end
noncomputable abbrev VV:List (V×V)->List (Value×Value)->Prop:=Paired λp q=>aS p.1 q.1/\aS p.2 q.2
noncomputable def ff (kvs more:List (aC×V)):List (aC×V):=more.foldl (λacc kv=>dQ acc kv.1 kv.2) kvs
theorem KV.merge:∀{more:List (aC×V)} {rs:List (aC×Value)} {kvs:List (aC×V)} {vs:List (aC×Value)},KV more rs->KV kvs vs->KV (ff kvs more) (merged vs rs):=by
 intro more rs kvs vs r;unfold KV at r
 induction r generalizing kvs vs with
 | nil=>intro q;exact q
 | @cons p q ps qs h t ih=>
   intro r0;have e:KV (dQ kvs p.1 p.2) (stored vs q.1 q.2):=by
    have:=r0.put p.1 h.2;rw[←h.1];exact this
   exact ih e
theorem eW:∀(more kvs:List (aC×V)),(ff kvs more).length<=kvs.length+more.length
 | [],kvs=>by show kvs.length<=kvs.length+0;lia
 | p::r,kvs=>by
   have h1:=eW r (dQ kvs p.1 p.2);have h2:=gM kvs p.1 p.2;show(ff (dQ kvs p.1 p.2) r).length<=_;rw[length_cons];lia
theorem iA {P:Program} {w:World}:∀{kvs:List (aC×V)} {ws:List (Value×Value)},VV (kvs.map λkv=>(kV kv.1,kv.2)) ws->∃rs,Carries (aL P w) ws rs/\KV kvs rs
 | [],_,r=>by rw[map_nil] at r;cases r;exact⟨[],True.intro,.nil⟩
 | p::kvs,_,r=>by
   rw[map_cons] at r;cases r with
   | @cons a b as bs h t=>
     obtain⟨rs,c,q⟩:=iA (P:=P) (w:=w) t;obtain⟨b1,b2⟩:=b;exact⟨(p.1,b2)::rs,⟨gP h.1,rfl,c⟩,.cons ⟨rfl,h.2⟩ q⟩
structure M1 (X:Cx) (o:Expr) (m:Str) (apos:Pos) (e:Expr) (cpos:Pos):Prop where
 base:attributeBase o m X.env (eval o X.env)=eval o X.env
 few:((backTo cpos (starEach [e] X.env)).all (λx=>!x.1)&&(backToKw cpos (keywordEach [] X.env)).all (λx=>x.1.isSome)
  &&decide (([e]:List Expr).length+([]:List Keyword).length+(if ([]:List Keyword).isEmpty then 0 else 1)<30))=true
 line:(apos.endLine==cpos.line)=true
 trees:backTo cpos (starEach [e] X.env)=[(false,eval e X.env)]
structure M2 (X:Cx) (o:Expr) (m:Str) (apos:Pos) (e f:Expr) (cpos:Pos):Prop where
 base:attributeBase o m X.env (eval o X.env)=eval o X.env
 few:((backTo cpos (starEach [e,f] X.env)).all (λx=>!x.1)&&(backToKw cpos (keywordEach [] X.env)).all (λx=>x.1.isSome)
  &&decide (([e,f]:List Expr).length+([]:List Keyword).length+(if ([]:List Keyword).isEmpty then 0 else 1)<30))=true
 line:(apos.endLine==cpos.line)=true
 trees:backTo cpos (starEach [e,f] X.env)=[(false,eval e X.env),(false,eval f X.env)]
section
variable {X:Cx} {π:List (Addr×Obj)} {σ:St} {H:Hp} {s:Shared} {a:Addr} {y d:V} {u r:Value} {o:Option V} {A:Around} {E:Value->Shared->Prop}
end
section
variable {X:Cx} {o e f:Expr} {apos cpos:Pos} {td ty tx:TE}
end
section
variable {X:Cx} {π:List (Addr×Obj)} {σ:St} {H:Hp} {s:Shared} {a:Addr} {kvs:List (aC×V)} {A:Around} {E:Value->Shared->Prop}
end
section
variable {X:Cx} {π:List (Addr×Obj)} {σ:St} {H:Hp} {s:Shared} {a:Addr} {y:V} {u:Value} {A:Around} {E:Value->Shared->Prop}
end
inductive W where
 | non | bl (b:Bool) | int (i:Int) | str (x:Str) | ref (a:Addr) | tup (xs:List W) | scr (ns:List Int)
inductive GO where
 | lst (ws:List W)
 | dct
 | exc (C:Addr)
 | dic (kvs:List (aC×W))
 | fdc (o:Obj) (us:List (aC×V)) (kvs:List (aC×W))
 | ins (C:Addr) (fs:List (Str×W))
 | tbl (ps:Array Value)
 | any (P:Hp->Addr->Prop)
noncomputable abbrev Gp:=Addr->Option GO
noncomputable def av (G:Gp) (a:Addr) (g:GO):Gp:=λb=>if b=a then some g else G b
theorem af {G:Gp} {g:GO}:av G a g a=some g:=by unfold av;rw[if_pos rfl]
theorem am {G:Gp} {a b:Addr} {g:GO} (h:b≠a):av G a g b=G b:=by unfold av;rw[if_neg h]
noncomputable def uQ (K:PySem.W.Frag) (H:Hp) (a:Addr) (ns:List Int):Prop:=
 (∃o,H a=some (.frz o (.lst (ns.map V.int))))∨
   ∃(o:Obj) (its:Array Value) (n:Nat),K.lookup a=some o/\o.cls=.type "list"/\o.dict=none/\o.data=.seq its n/\its.size<=sizeLine/\aN (ns.map V.int) its.toList
theorem uQ.sq {H:Hp} {ns:List Int} (h:uQ K H a ns):cR K H a (ns.map V.int):=by
 rcases h with⟨o,h⟩ | h
 ·exact .inl (.inr ⟨o,h⟩)
 ·exact .inr h
structure aH (H H1:Hp):Prop where
 tup:∀a xs,H a=some (.tup xs)->H1 a=some (.tup xs)
 frz:∀a o xs,H a=some (.frz o (.lst xs))->H1 a=some (.frz o (.lst xs))
theorem aH.refl (H:Hp):aH H H:=⟨λ_ _ h=>h,λ_ _ _ h=>h⟩
theorem aH.trans {H H1 H2:Hp} (a:aH H H1) (b:aH H1 H2):aH H H2:=
 ⟨λx xs h=>b.tup x xs (a.tup x xs h),λx o u h=>b.frz x o u (a.frz x o u h)⟩
theorem aH.new {H:Hp} {p:Addr} (hp:H p=none) (o:HO):aH H (upd H p o):=
 ⟨λ_ _ h=>by rw[ax (aV h hp)];exact h,λ_ _ _ h=>by rw[ax (aV h hp)];exact h⟩
theorem aH.lst {H:Hp} {p:Addr} {xs:List V} (hp:H p=some (.lst xs)) (o:HO):aH H (upd H p o):=
 ⟨λ_ _ h=>by rw[ax (jg h hp (by intro z;cases z))];exact h,λ_ _ _ h=>by rw[ax (jg h hp (by intro z;cases z))];exact h⟩
mutual
inductive bI (K:PySem.W.Frag) (H:Hp):W->V->Prop where
 | non:bI K H .non .non
 | bl (b:Bool):bI K H (.bl b) (.bl b)
 | int (i:Int):bI K H (.int i) (.int i)
 | str (x:Str):bI K H (.str x) (.str x)
 | ref (a:Addr):bI K H (.ref a) (.ref a)
 | tup {a:Addr} {ws:List W} {xs:List V} (h:H a=some (.tup xs)) (r:aJ K H ws xs):bI K H (.tup ws) (.ref a)
 | scr {a:Addr} {ns:List Int} (h:uQ K H a ns):bI K H (.scr ns) (.ref a)
inductive aJ (K:PySem.W.Frag) (H:Hp):List W->List V->Prop where
 | nil:aJ K H [] []
 | cons {w:W} {v:V} {ws:List W} {vs:List V} (r:bI K H w v) (rs:aJ K H ws vs):aJ K H (w::ws) (v::vs)
end
section
variable {K:PySem.W.Frag} {H H1:Hp}
theorem uQ.mono {ns:List Int} (t:aH H H1) (h:uQ K H a ns):uQ K H1 a ns:=by
 rcases h with⟨o,h⟩ | h
 ·exact .inl ⟨o,t.frz _ _ _ h⟩
 ·exact .inr h
mutual
theorem bI.mono (t:aH H H1):∀{w:W} {v:V},bI K H w v->bI K H1 w v
 | _,_,.non=> .non
 | _,_,.bl b=> .bl b
 | _,_,.int i=> .int i
 | _,_,.str x=> .str x
 | _,_,.ref a=> .ref a
 | _,_,.tup h r=> .tup (t.tup _ _ h) (aJ.mono t r)
 | _,_,.scr h=> .scr (h.mono t)
theorem aJ.mono (t:aH H H1):∀{ws:List W} {vs:List V},aJ K H ws vs->aJ K H1 ws vs
 | _,_,.nil=> .nil
 | _,_,.cons r rs=> .cons (bI.mono t r) (aJ.mono t rs)
end
theorem aJ.length:∀{ws:List W} {vs:List V},aJ K H ws vs->ws.length=vs.length
 | _,_,.nil=>rfl
 | _,_,.cons _ rs=>congrArg (·+1) rs.length
theorem aJ.append:∀{ws us:List W} {vs xs:List V},aJ K H ws vs->aJ K H us xs->aJ K H (ws++us) (vs++xs)
 | _,_,_,_,.nil,s=>s
 | _,_,_,_,.cons r rs,s=> .cons r (rs.append s)
theorem aJ.take:∀{ws:List W} {vs:List V} (n:Nat),aJ K H ws vs->aJ K H (ws.take n) (vs.take n)
 | _,_,0,_=> .nil
 | _,_,_+1,.nil=> .nil
 | _,_,n+1,.cons r rs=> .cons r (rs.take n)
theorem aJ.drop:∀{ws:List W} {vs:List V} (n:Nat),aJ K H ws vs->aJ K H (ws.drop n) (vs.drop n)
 | _,_,0,r=>r
 | _,_,_+1,.nil=> .nil
 | _,_,n+1,.cons _ rs=>rs.drop n
theorem aJ.get:∀{ws:List W} {vs:List V} {i:Nat} {w:W},aJ K H ws vs->ws[i]?=some w->∃v,vs[i]?=some v/\bI K H w v
 | _,_,_,_,.nil,e=>by simp at e
 | _,_,0,_,.cons r _,e=>by simp at e;subst e;exact⟨_,rfl,r⟩
 | _,_,i+1,w,.cons _ rs,e=>by
   obtain⟨v,h1,h2⟩:=aJ.get (i:=i) (w:=w) rs (by simpa using e);exact⟨v,by simpa using h1,h2⟩
theorem aJ.ints:∀ns:List Int,aJ K H (ns.map W.int) (ns.map V.int)
 | []=> .nil
 | n::ns=> .cons (.int n) (aJ.ints ns)
end
noncomputable abbrev bmV:List Value:=[.type "ValueError",.type "Exception",.type "BaseException",.type "object"]
structure XC (K:PySem.W.Frag) (C:Addr) (bm:List Value):Prop where
 obj:∀h:Heap,K.In h->∃N nm qn bs hdct sn sub ab col dd k0 k1 k2 k3 k5 mN,h.get? C=some (excClassObj nm qn C N bs bm hdct sn sub ab col dd k0 k1 k2 k3 k5 "ValueError.__new__")/\h.Ns N mN/\mN "__init__"=none/\OwnTail h bmV bm
 mro:∀v,mroIn K C v=some ((Value.ref C::bm).contains v)
structure XQ (K:PySem.W.Frag) (C:Addr):Prop where
 ga:findIn K (.ref C) "__getattribute__"=some (some (.builtin "BaseException.__getattribute__"))
 gx:findIn K (.ref C) "__getattr__"=some none
 gc:findIn K (.ref C) "__class__"=some (some (.builtin "object.__class__"))
structure XD (K:PySem.W.Frag) (D:Addr):Prop where
 cls:∃cd,clsIn K D=some cd
 ty:typeIn K (.ref D)=some (.type "type")
 ins:instIn K (.ref D) (.type "type")=some true
structure XO (K:PySem.W.Frag) (C:Addr):Prop where
 c:∃bm,XC K C bm
 q:XQ K C
 d:XD K C
noncomputable def v7 (K:PySem.W.Frag) (H:Hp) (a:Addr):GO->Prop
 | .lst ws=>ws.length<=100000/\∃xs,H a=some (.lst xs)/\aJ K H ws xs
 | .dct=>H a=some (.dK [])
 | .exc C=>XO K C/\H a=some (.ext λh=>∃o,h.get? a=some o/\o.cls=.ref C)
 | .dic kvs=>kvs.length<=100000/\∃kvs',H a=some (.dK kvs')/\kvs'.map (·.1)=kvs.map (·.1)/\aJ K H (kvs.map (·.2)) (kvs'.map (·.2))
 | .fdc o us kvs=>kvs.length<=100000/\H a=some (.frz o (.dK us))/\us.map (·.1)=kvs.map (·.1)/\aJ K H (kvs.map (·.2)) (us.map (·.2))
 | .ins C fs=>fs.length<=100/\∃dx fs',H a=some (.ins C dx fs')/\fs'.map (·.1)=fs.map (·.1)/\aJ K H (fs.map (·.2)) (fs'.map (·.2))
 | .tbl ps=>H a=some (.tbl ps)
 | .any P=>P H a/\(∃o,H a=some o)/\∀H1 H2:Hp,aH H1 H2->H2 a=H1 a->P H1 a->P H2 a
noncomputable def aD (K:PySem.W.Frag) (H:Hp) (G:Gp):Prop:=∀a g,G a=some g->v7 K H a g
section
variable {K:PySem.W.Frag} {H H1:Hp} {G:Gp} {p a:Addr} {g:GO}
theorem v7.has (h:v7 K H a g):∃o,H a=some o:=by
 cases g with
 | lst ws=>obtain⟨_,_,e,_⟩:=h;exact⟨_,e⟩
 | dct=>exact⟨_,h⟩
 | exc C=>exact⟨_,h.2⟩
 | dic kvs=>obtain⟨_,_,e,_⟩:=h;exact⟨_,e⟩
 | fdc o us kvs=>obtain⟨_,e,_⟩:=h;exact⟨_,e⟩
 | ins C fs=>obtain⟨_,_,_,e,_⟩:=h;exact⟨_,e⟩
 | tbl ps=>exact⟨_,h⟩
 | any P=>exact h.2.1
theorem v7.mono (t:aH H H1) (e:H1 a=H a) (h:v7 K H a g):v7 K H1 a g:=by
 cases g with
 | lst ws=>obtain⟨l,xs,e1,r⟩:=h;exact⟨l,xs,e.trans e1,r.mono t⟩
 | dct=>exact e.trans h
 | exc C=>exact⟨h.1,e.trans h.2⟩
 | dic kvs=>obtain⟨l,xs,e1,n,r⟩:=h;exact⟨l,xs,e.trans e1,n,r.mono t⟩
 | fdc o us kvs=>obtain⟨l,e1,n,r⟩:=h;exact⟨l,e.trans e1,n,r.mono t⟩
 | ins C fs=>obtain⟨l,dx,xs,e1,n,r⟩:=h;exact⟨l,dx,xs,e.trans e1,n,r.mono t⟩
 | tbl ps=>exact e.trans h
 | any P=>exact⟨h.2.2 _ _ t e h.1,(let ⟨o,e1⟩:=h.2.1;⟨o,e.trans e1⟩),h.2.2⟩
theorem aD.fresh (h:aD K H G) (hp:H p=none):G p=none:=by
 cases e:G p with
 | none=>rfl
 | some g=>
   obtain⟨o,e1⟩:=(h p _ e).has;rw[hp] at e1;cases e1
theorem aD.upd (h:aD K H G) (t:aH H (upd H p o)) (hG:G p=none):aD K (L2.upd H p o) G:=λa g e=>by
 have hne:a≠p:=λz=>by rw[z,hG] at e;cases e
 exact(h a g e).mono t (ax hne)
theorem aD.keep (h:aD K H G) (hp:H p=none) (o:HO):aD K (L2.upd H p o) G:=h.upd (aH.new hp o) (h.fresh hp)
theorem aD.lay (h:aD K H G) {o:HO} (t:aH H (L2.upd H p o)) (n:v7 K (L2.upd H p o) p g):aD K (L2.upd H p o) (av G p g):=λa g' e=>by
 by_cases hb:a=p
 ·subst hb;rw[af] at e;cases e;exact n
 ·rw[am hb] at e;exact(h a g' e).mono t (ax hb)
theorem aD.put (h:aD K H G) {xs:List V} {ws:List W} (t:aH H (L2.upd H p (.lst xs))) (r:aJ K H ws xs) (hl:ws.length<=100000):aD K (L2.upd H p (.lst xs)) (av G p (.lst ws)):=h.lay t ⟨hl,xs,aU,r.mono t⟩
noncomputable def aZ (G0 G:Gp):Prop:=∀a g,G0 a=some g->G a=some g
theorem aD.le {G0:Gp} (h:aD K H G) (l:aZ G0 G):aD K H G0:=λa g e=>h a g (l a g e)
theorem aZ.refl (G:Gp):aZ G G:=λ_ _ h=>h
theorem aZ.trans {G0 G1 G2:Gp} (a:aZ G0 G1) (b:aZ G1 G2):aZ G0 G2:=λx g h=>b x g (a x g h)
theorem aZ.new {g:GO} (hp:G p=none):aZ G (av G p g):=λa u e=>by
 rw[am (λz=>by rw[z,hp] at e;cases e)];exact e
end
noncomputable abbrev ck:=List (Option W)
noncomputable def aX (K:PySem.W.Frag) (H:Hp) (τ:ck) (σ:St):Prop:=τ.length=σ.length/\∀(i:Nat) (w:W),τ[i]?=some (some w)->∃v,σ[i]?=some (some v)/\bI K H w v
section
variable {K:PySem.W.Frag} {H H1:Hp} {τ:ck} {σ:St}
theorem aX.mono (t:aH H H1) (h:aX K H τ σ):aX K H1 τ σ:=⟨h.1,λi w e=>let ⟨v,e1,r⟩:=h.2 i w e;⟨v,e1,r.mono t⟩⟩
theorem aX.set (h:aX K H τ σ) {w:W} {v:V} (r:bI K H w v) (i:Nat):aX K H (τ.set i (some w)) (σ.set i (some v)):=by
 refine⟨by simpa using h.1,λj u e=>?_⟩
 by_cases hj:i=j
 ·subst hj
  by_cases hl:i<τ.length
  ·rw[List.getElem?_set_self hl] at e;cases e;exact⟨v,List.getElem?_set_self (by rw[←h.1];exact hl),r⟩
  ·rw[List.getElem?_eq_none (by simpa using hl)] at e;cases e
 ·rw[List.getElem?_set_ne hj] at e;obtain⟨u',e1,r1⟩:=h.2 j u e;exact⟨u',by rw[List.getElem?_set_ne hj];exact e1,r1⟩
theorem aX.start {N:List Str} {ws:List W} {vs:List V} (r:aJ K H ws vs):aX K H (ws.map some++List.replicate (N.length-ws.length) none) (L2.start N vs):=by
 unfold L2.start;refine⟨by simp[r.length],λi w e=>?_⟩
 by_cases hi:i<ws.length
 ·rw[List.getElem?_append_left (by simpa using hi),List.getElem?_map] at e;cases e1:ws[i]? with
  | none=>rw[e1] at e;cases e
  | some u=>
    rw[e1] at e;cases e;obtain⟨v,e2,rv⟩:=r.get e1;refine⟨v,?_,rv⟩;rw[List.getElem?_append_left (by simpa[←r.length] using hi),List.getElem?_map,e2]
    rfl
 ·rw[List.getElem?_append_right (by simpa using hi),List.getElem?_replicate] at e;split at e<;> cases e
end
noncomputable abbrev WK:=W->Gp->Prop
noncomputable abbrev WE:=ck->Gp->WK->Prop
noncomputable abbrev WT:=ck->Gp->(Bool->Gp->Prop)->Prop
noncomputable abbrev WA:=ck->Gp->(List W->Gp->Prop)->Prop
structure cx where
 nx:ck->Gp->Prop
 rt:WK
 bk:ck->Gp->Prop:=λ_ _=>False
 ct:ck->Gp->Prop:=λ_ _=>False
noncomputable abbrev WS:=cx->ck->Gp->Prop
noncomputable abbrev WG:=W->ck->Gp->(ck->Gp->Prop)->Prop
noncomputable abbrev uR:=List W->ck->Gp->(ck->Gp->Prop)->Prop
noncomputable def lX (K:PySem.W.Frag) (t:WE):TE:=λσ H Q=>∃τ G q,aX K H τ σ/\aD K H G/\t τ G q/\∀v H1 w G1,aH H H1->bI K H1 w v->aD K H1 G1->q w G1->Q v H1
noncomputable def v9 (K:PySem.W.Frag) (t:WT):TT:=λσ H Q=>∃τ G q,aX K H τ σ/\aD K H G/\t τ G q/\∀b H1 G1,aH H H1->aD K H1 G1->q b G1->Q b H1
noncomputable def LA (K:PySem.W.Frag) (t:WA):TA:=λσ H Q=>∃τ G q,aX K H τ σ/\aD K H G/\t τ G q/\∀vs H1 ws G1,aH H H1->aJ K H1 ws vs->aD K H1 G1->q ws G1->Q vs H1
structure kJ (K:PySem.W.Frag) (H:Hp) (d:cx) (D:dW):Prop where
 nx:∀σ1 H1 τ1 G1,aH H H1->aX K H1 τ1 σ1->aD K H1 G1->d.nx τ1 G1->D.nx σ1 H1
 rt:∀v H1 w G1,aH H H1->bI K H1 w v->aD K H1 G1->d.rt w G1->D.rt v H1
 bk:∀σ1 H1 τ1 G1,aH H H1->aX K H1 τ1 σ1->aD K H1 G1->d.bk τ1 G1->D.bk σ1 H1
 ct:∀σ1 H1 τ1 G1,aH H H1->aX K H1 τ1 σ1->aD K H1 G1->d.ct τ1 G1->D.ct σ1 H1
noncomputable def LS (K:PySem.W.Frag) (t:WS):TS:=λD σ H=>∃τ G d,aX K H τ σ/\aD K H G/\t d τ G/\kJ K H d D
theorem lX.el {t:WE} {σ:St} {H:Hp} {Q:VK} {P:Prop} (h:lX K t σ H Q) (k:∀(τ:ck) (G:Gp) (q:WK),aX K H τ σ->aD K H G->t τ G q->(∀v H1 w G1,aH H H1->bI K H1 w v->aD K H1 G1->q w G1->Q v H1)->P):P:=by
 obtain⟨τ,G,q,a,b,c,d⟩:=h;exact k τ G q a b c d
theorem v9.el {t:WT} {σ:St} {H:Hp} {Q:Bool->Hp->Prop} {P:Prop} (h:v9 K t σ H Q) (k:∀(τ:ck) (G:Gp) (q:Bool->Gp->Prop),aX K H τ σ->aD K H G->t τ G q->(∀b H1 G1,aH H H1->aD K H1 G1->q b G1->Q b H1)->P):P:=by
 obtain⟨τ,G,q,a,b,c,d⟩:=h;exact k τ G q a b c d
theorem LA.el {t:WA} {σ:St} {H:Hp} {Q:List V->Hp->Prop} {P:Prop} (h:LA K t σ H Q) (k:∀(τ:ck) (G:Gp) (q:List W->Gp->Prop),aX K H τ σ->aD K H G->t τ G q->(∀vs H1 ws G1,aH H H1->aJ K H1 ws vs->aD K H1 G1->q ws G1->Q vs H1)->P):P:=by
 obtain⟨τ,G,q,a,b,c,d⟩:=h;exact k τ G q a b c d
theorem LS.el {t:WS} {D:dW} {σ:St} {H:Hp} {P:Prop} (h:LS K t D σ H) (k:∀(τ:ck) (G:Gp) (d:cx),aX K H τ σ->aD K H G->t d τ G->kJ K H d D->P):P:=by
 obtain⟨τ,G,q,a,b,c,d⟩:=h;exact k τ G q a b c d
noncomputable def LG (K:PySem.W.Frag) (t:WG):TG:=λv σ H Q=>∃w τ G q,bI K H w v/\aX K H τ σ/\aD K H G/\t w τ G q/\∀σ1 H1 τ1 G1,aH H H1->aX K H1 τ1 σ1->aD K H1 G1->q τ1 G1->Q σ1 H1
noncomputable def B5 (K:PySem.W.Frag) (t:uR):sw:=λvs σ H Q=>∃ws τ G q,aJ K H ws vs/\aX K H τ σ/\aD K H G/\t ws τ G q/\∀σ1 H1 τ1 G1,aH H H1->aX K H1 τ1 σ1->aD K H1 G1->q τ1 G1->Q σ1 H1
noncomputable def QE (X:Cx) (e:Expr) (t:WE):Prop:=PE X e (lX X.K t)
noncomputable def QT (X:Cx) (e:Expr) (t:WT):Prop:=PT X e (v9 X.K t)
noncomputable def QW (X:Cx) (e:Expr) (t:WT):Prop:=PW X e (v9 X.K t)
noncomputable def QA (X:Cx) (es:List Expr) (t:WA):Prop:=PA X es (LA X.K t)
noncomputable def QS (X:Cx) (st:Stmt) (t:WS):Prop:=PS X st (LS X.K t)
noncomputable def kK (X:Cx) (st:List Stmt) (t:WS):Prop:=kA X st (LS X.K t)
noncomputable def QG (X:Cx) (e:Expr) (t:WG):Prop:=PG X e (LG X.K t)
noncomputable def yo (X:Cx) (es:List Expr) (t:uR):Prop:=uL X es (B5 X.K t)
section
variable {X:Cx}
theorem PE.imp {t t':TE} (h:PE X e t) (f:∀σ H Q,t' σ H Q->t σ H Q):PE X e t':=λπ s σ H Q I q=>h π s σ H Q I (f _ _ _ q)
theorem PT.imp {t t':TT} (h:PT X e t) (f:∀σ H Q,t' σ H Q->t σ H Q):PT X e t':=λπ s σ H Q I q=>h π s σ H Q I (f _ _ _ q)
theorem PW.imp {t t':TT} (h:PW X e t) (f:∀σ H Q,t' σ H Q->t σ H Q):PW X e t':=λwh π s σ H Q I q=>h wh π s σ H Q I (f _ _ _ q)
theorem PA.imp {e:List Expr} {t t':TA} (h:PA X e t) (f:∀σ H Q,t' σ H Q->t σ H Q):PA X e t':=λpos π s σ H Q I q=>h pos π s σ H Q I (f _ _ _ q)
theorem PS.imp {e:Stmt} {t t':TS} (h:PS X e t) (f:∀D σ H,t' D σ H->t D σ H):PS X e t':=λπ s σ H D I q=>h π s σ H D I (f _ _ _ q)
theorem kA.imp {e:List Stmt} {t t':TS} (h:kA X e t) (f:∀D σ H,t' D σ H->t D σ H):kA X e t':=λπ s σ H D I q=>h π s σ H D I (f _ _ _ q)
theorem PG.imp {t t':TG} (h:PG X e t) (f:∀v σ H Q,t' v σ H Q->t v σ H Q):PG X e t':=λπ s σ H v u Q I r q=>h π s σ H v u Q I r (f _ _ _ _ q)
theorem uL.imp {e:List Expr} {t t':sw} (h:uL X e t) (f:∀v σ H Q,t' v σ H Q->t v σ H Q):uL X e t':=λπ s σ H v u Q I r q=>h π s σ H v u Q I r (f _ _ _ _ q)
noncomputable def dc (i:Nat):WE:=λτ G q=>match τ[i]? with | some (some w)=>q w G | _=>False
noncomputable def wC (w:W):WE:=λ_ G q=>q w G
theorem aa (i:Nat) (hN:X.N[i]?=some x:=by exact rfl) (hv:pE X.env.scope x:=by exact .inl rfl) (hd:(x==("__debug__":Str))=false:=by decide) (hcd:(x==("__classdict__":Str))=false:=by decide):QE X (.Name x pos) (dc i):=by
 refine(fc hN hv hd hcd).imp λσ H Q z0=>z0.el λτ G q hs hg ht hQ=>?_;unfold dc at ht;split at ht
 ·rename_i w e;obtain⟨v,e1,r⟩:=hs.2 i w e;exact⟨v,e1,hQ v H w G (aH.refl H) r hg ht⟩
 ·exact ht.elim
theorem dY {v:V} {w:W} (h:PE X e (tC v)) (r:∀H,bI X.K H w v):QE X e (wC w):=
 h.imp λσ H Q z0=>z0.el λτ G q hs hg ht hQ=>hQ v H w G (aH.refl H) (r H) hg ht
theorem ao {i j pos}:QE X (.Constant (.int i) j pos) (wC (.int i)):=dY pM λ_=> .int i
theorem cK {b j pos}:QE X (.Constant (.bool b) j pos) (wC (.bl b)):=dY uK λ_=> .bl b
theorem lY {j pos}:QE X (.Constant .none j pos) (wC .non):=dY vq λ_=> .non
theorem bW {x j pos}:QE X (.Constant (.str x) j pos) (wC (.str x)):=dY lO λ_=> .str x
noncomputable abbrev W2:=W->W->Gp->WK->Prop
noncomputable def LR (K:PySem.W.Frag) (r:W2):R2:=λx y H Q=>∃wx wy G q,bI K H wx x/\bI K H wy y/\aD K H G/\r wx wy G q/\∀v H1 w G1,aH H H1->bI K H1 w v->aD K H1 G1->q w G1->Q v H1
noncomputable def fF (X:Cx) (f:Value->Value->Sem Value) (r:W2):Prop:=hJ X f (LR X.K r)
noncomputable def wa (X:Cx) (r:W2):Prop:=yi X (LR X.K r)
noncomputable def jq (r:W2) (ta tb:WE):WE:=λτ G q=>ta τ G λx G1=>tb τ G1 λy G2=>r x y G2 q
theorem lX.op {r:W2} {ta tb:WE} {σ:St} {H:Hp} {Q:VK} (h:lX K (jq r ta tb) σ H Q):xR (LR K r) (lX K ta) (lX K tb) σ H Q:=by
 obtain⟨τ,G,q,hs,hg,ht,hQ⟩:=h;refine⟨τ,G,_,hs,hg,ht,λv H1 w G1 t1 r1 g1 q1=>?_⟩;refine⟨τ,G1,_,hs.mono t1,g1,q1,λv2 H2 w2 G2 t2 r2 g2 q2=>?_⟩;exact⟨w,w2,G2,q,r1.mono t2,r2,g2,q2,λv3 H3 w3 G3 t3 r3 g3 q3=>hQ v3 H3 w3 G3 ((t1.trans t2).trans t3) r3 g3 q3⟩
theorem aT {op:Operator} {r:W2} {a b:Expr} {ta tb:WE} (ho:fF X (binaryOp op) r) (ha:QE X a ta) (hb:QE X b tb):QE X (.BinOp a op b pos) (jq r ta tb):=
 (xS ho ha hb).imp λ_ _ _ h=>h.op
theorem gf {op:CmpOp} {r:W2} {a b:Expr} {ta tb:WE} (ho:fF X (compareOp op) r) (ha:QE X a ta) (hb:QE X b tb) (hm:behindInMarks op b=false:=by exact dv _):QE X (.Compare a [op] [b] pos) (jq r ta tb):=
 (sF ho ha hb hm).imp λ_ _ _ h=>h.op
theorem aE {r:W2} {a b:Expr} {ta tb:WE} (ho:wa X r) (ha:QE X a ta) (hb:QE X b tb) (hs:ny b:=by exact λ_ _=>rfl):QE X (.Subscript a b pos) (jq r ta tb):=
 (yj ho ha hb hs).imp λ_ _ _ h=>h.op
noncomputable def nC (t:WE):WT:=λτ G q=>t τ G λx G1=>match x with | .bl b=>q b G1 | _=>False
theorem v9.test {t:WE} {σ:St} {H:Hp} {Q:Bool->Hp->Prop} (h:v9 K (nC t) σ H Q):uN (lX K t) σ H Q:=by
 obtain⟨τ,G,q,hs,hg,ht,hQ⟩:=h;refine⟨τ,G,_,hs,hg,ht,λv H1 w G1 t1 r1 g1 q1=>?_⟩;split at q1
 ·rename_i b;cases r1;exact⟨b,rfl,hQ b H1 G1 t1 g1 q1⟩
 ·exact q1.elim
theorem aI {op:CmpOp} {r:W2} {a b:Expr} {ta tb:WE} (ho:fF X (compareOp op) r) (ha:QE X a ta) (hb:QE X b tb) (hm:behindInMarks op b=false:=by exact dv _):QT X (.Compare a [op] [b] pos) (nC (jq r ta tb)):=
 (sG ho ha hb hm).imp λσ H Q h=>by
   obtain⟨τ,G,q,hs,hg,ht,hQ⟩:=h.test;exact lX.op ⟨τ,G,q,hs,hg,ht,hQ⟩
theorem dB {t:WE} (h:QE X e t) (he:∀whole,isTrue e X.env whole=(do let v ←whole;standAt e.pos;holding [v] (truthy v)):=by intro _;rfl):QT X e (nC t):=
 (vt h he).imp λσ H Q h=>h.test
noncomputable def yq (t u:WT):WT:=λτ G q=>t τ G λc G1=>if c=true then u τ G1 q else q false G1
noncomputable def BM (t u:WT):WT:=λτ G q=>t τ G λc G1=>if c=true then q true G1 else u τ G1 q
noncomputable def yr (t:WT):WT:=λτ G q=>t τ G λc G1=>q (!c) G1
theorem fG {a:Expr} {t:WT} (ha:QT X a t):QW X (.BoolOp .And [a] pos) t:=sr ha
theorem iB {a:Expr} {t:WT} (ha:QT X a t):QW X (.BoolOp .Or [a] pos) t:=vw ha
theorem iC {a b:Expr} {bJ:List Expr} {t u:WT} (ha:QT X a t) (hb:QW X (.BoolOp .And (b::bJ) pos) u):QW X (.BoolOp .And (a::b::bJ) pos) (yq t u):=
 (vx ha hb).imp λσ H Q z0=>z0.el λτ G q hs hg ht hQ=>⟨τ,G,_,hs,hg,ht,λc H1 G1 t1 g1 q1=>by
   cases c with
   | true=>rw[if_pos rfl] at q1 ⊢;exact⟨τ,G1,q,hs.mono t1,g1,q1,λb H2 G2 t2 g2 q2=>hQ b H2 G2 (t1.trans t2) g2 q2⟩
   | false=>rw[if_neg Bool.false_ne_true] at q1 ⊢;exact hQ false H1 G1 t1 g1 q1⟩
theorem kL {a b:Expr} {bJ:List Expr} {t u:WT} (ha:QT X a t) (hb:QW X (.BoolOp .Or (b::bJ) pos) u):QW X (.BoolOp .Or (a::b::bJ) pos) (BM t u):=
 (xG ha hb).imp λσ H Q z0=>z0.el λτ G q hs hg ht hQ=>⟨τ,G,_,hs,hg,ht,λc H1 G1 t1 g1 q1=>by
   cases c with
   | true=>rw[if_pos rfl] at q1 ⊢;exact hQ true H1 G1 t1 g1 q1
   | false=>rw[if_neg Bool.false_ne_true] at q1 ⊢;exact⟨τ,G1,q,hs.mono t1,g1,q1,λb H2 G2 t2 g2 q2=>hQ b H2 G2 (t1.trans t2) g2 q2⟩⟩
theorem ja {t:WT} (h:QW X e t):QT X e t:=PW.pt h
theorem fh {a:Expr} {t:WT} (ha:QT X a t):QT X (.UnaryOp .Not a pos) (yr t):=
 (vy ha).imp λσ H Q z0=>z0.el λτ G q hs hg ht hQ=>⟨τ,G,_,hs,hg,ht,λc H1 G1 t1 g1 q1=>hQ (!c) H1 G1 t1 g1 q1⟩
noncomputable def uS (ta tb:WE):WE:=λτ G q=>ta τ G λx G1=>match x with | .bl c=>if c=true then tb τ G1 q else q (.bl false) G1 | _=>False
noncomputable def uT (ta:WE):WE:=λτ G q=>ta τ G λx G1=>match x with | .bl c=>q (.bl (!c)) G1 | _=>False
theorem jP {a:Expr} {op} {t:WE} (h:QE X a t):QE X (.BoolOp op [a] pos) t:=vz h
theorem iD {a b:Expr} {bJ:List Expr} {ta tb:WE} (ha:QE X a ta) (hb:QE X (.BoolOp .And (b::bJ) pos) tb):QE X (.BoolOp .And (a::b::bJ) pos) (uS ta tb):=
 (vA ha hb).imp λσ H Q z0=>z0.el λτ G q hs hg ht hQ=>⟨τ,G,_,hs,hg,ht,λv H1 w G1 t1 r1 g1 q1=>by
   split at q1
   ·rename_i c;cases r1;refine⟨c,rfl,?_⟩;cases c with
    | true=>rw[if_pos rfl] at q1 ⊢;exact⟨τ,G1,q,hs.mono t1,g1,q1,λv2 H2 w2 G2 t2 r2 g2 q2=>hQ v2 H2 w2 G2 (t1.trans t2) r2 g2 q2⟩
    | false=>rw[if_neg Bool.false_ne_true] at q1 ⊢;exact hQ _ H1 _ G1 t1 (.bl false) g1 q1
   ·exact q1.elim⟩
theorem lZ {a:Expr} {ta:WE} (ha:QE X a ta):QE X (.UnaryOp .Not a pos) (uT ta):=
 (vB ha).imp λσ H Q z0=>z0.el λτ G q hs hg ht hQ=>⟨τ,G,_,hs,hg,ht,λv H1 w G1 t1 r1 g1 q1=>by
   split at q1
   ·rename_i c;cases r1;exact⟨c,rfl,hQ _ H1 _ G1 t1 (.bl _) g1 q1⟩
   ·exact q1.elim⟩
noncomputable def yt (c:WT) (ta tb:WE):WE:=λτ G q=>c τ G λb G1=>if b=true then ta τ G1 q else tb τ G1 q
theorem qc {c a b:Expr} {tc:WT} {ta tb:WE} (hc:QT X c tc) (ha:QE X a ta) (hb:QE X b tb):QE X (.IfExp c a b pos) (yt tc ta tb):=
 (pN hc ha hb).imp λσ H Q z0=>z0.el λτ G q hs hg ht hQ=>⟨τ,G,_,hs,hg,ht,λc H1 G1 t1 g1 q1=>by
   cases c with
   | true=>rw[if_pos rfl] at q1 ⊢;exact⟨τ,G1,q,hs.mono t1,g1,q1,λv2 H2 w2 G2 t2 r2 g2 q2=>hQ v2 H2 w2 G2 (t1.trans t2) r2 g2 q2⟩
   | false=>rw[if_neg Bool.false_ne_true] at q1 ⊢;exact⟨τ,G1,q,hs.mono t1,g1,q1,λv2 H2 w2 G2 t2 r2 g2 q2=>hQ v2 H2 w2 G2 (t1.trans t2) r2 g2 q2⟩⟩
noncomputable def qd:WA:=λ_ G q=>q [] G
noncomputable def cL (ta:WE) (tr:WA):WA:=λτ G q=>ta τ G λx G1=>tr τ G1 λxs G2=>q (x::xs) G2
theorem aq:QA X [] qd:=pa_nil.imp λσ H Q z0=>z0.el λτ G q hs hg ht hQ=>hQ [] H [] G (aH.refl H) .nil hg ht
theorem ah {te:WE} {t:WA} (ha:QE X e te) (hr:QA X es t) (hs:starEach (e::es) X.env=(false,eval e X.env)::starEach es X.env:=by rfl):QA X (e::es) (cL te t):=
 (bu ha hr hs).imp λσ H Q z0=>z0.el λτ G q hs hg ht hQ=>⟨τ,G,_,hs,hg,ht,λv H1 w G1 t1 r1 g1 q1=>
   ⟨τ,G1,_,hs.mono t1,g1,q1,λvs H2 ws G2 t2 r2 g2 q2=>hQ (v::vs) H2 (w::ws) G2 (t1.trans t2) (.cons (r1.mono t2) r2) g2 q2⟩⟩
theorem bF {n:Nat} (h:n<=100000):n<=sizeLine:=by rw[sizeLine_eq];lia
noncomputable def sO (t:WA):WE:=λτ G q=>t τ G λws G1=>ws.length<=100000/\q (.tup ws) G1
noncomputable def yu (t:WA):WE:=λτ G q=>t τ G λws G1=>ws.length<=100000/\∀p,G1 p=none->q (.ref p) (av G1 p (.lst ws))
theorem bM {x1} {t:WA} (h:QA X es t):QE X (.Tuple es x1 pos) (sO t):=
 (vP h).imp λσ H Q z0=>z0.el λτ G q hs hg ht hQ=>⟨τ,G,_,hs,hg,ht,λvs H1 ws G1 t1 r1 g1 q1=>
   ⟨by rw[←r1.length];exact bF q1.1,λp hp=>hQ _ _ _ G1 (t1.trans (aH.new hp _)) (.tup aU (r1.mono (aH.new hp _))) (g1.keep hp _) q1.2⟩⟩
theorem cg {t:WA} (h:QA X es t):QE X (.List es pos) (yu t):=
 (vQ h).imp λσ H Q z0=>z0.el λτ G q hs hg ht hQ=>⟨τ,G,_,hs,hg,ht,λvs H1 ws G1 t1 r1 g1 q1=>
   ⟨by rw[←r1.length];exact bF q1.1,λp hp=>hQ _ _ _ _ (t1.trans (aH.new hp _)) (.ref p) (g1.put (aH.new hp _) r1 q1.1) (q1.2 p (g1.fresh hp))⟩⟩
noncomputable def uU:WS:=λd τ G=>d.nx τ G
noncomputable def sP (t u:WS):WS:=λd τ G=>t { d with nx:=u d } τ G
theorem kJ.mono {H H1:Hp} {d:cx} {D:dW} (l:kJ K H d D) (t:aH H H1):kJ K H1 d D:=
 ⟨λσ2 H2 τ2 G2 t2=>l.nx σ2 H2 τ2 G2 (t.trans t2),λv H2 w G2 t2=>l.rt v H2 w G2 (t.trans t2),λσ2 H2 τ2 G2 t2=>l.bk σ2 H2 τ2 G2 (t.trans t2),λσ2 H2 τ2 G2 t2=>l.ct σ2 H2 τ2 G2 (t.trans t2)⟩
theorem ak:kK X [] uU:=pss_nil.imp λD σ H z0=>z0.el λτ G d hs hg ht l=>l.nx σ H τ G (aH.refl H) hs hg ht
theorem ae {bJ:List Stmt} {t u:WS} (h1:QS X st t) (h2:kK X bJ u):kK X (st::bJ) (sP t u):=
 (pO h1 h2).imp λD σ H z0=>z0.el λτ G d hs hg ht l=>⟨τ,G,_,hs,hg,ht,⟨λσ1 H1 τ1 G1 t1 s1 g1 q1=>⟨τ1,G1,d,s1,g1,q1,l.mono t1⟩,l.rt,l.bk,l.ct⟩⟩
theorem ci {t:WS} (h1:QS X st t):kK X [st] t:=ss h1
noncomputable def uV (te:WE):WS:=λd τ G=>te τ G λ_ G1=>d.nx τ G1
theorem cU {te:WE} (he:QE X e te) (hs:swapsWith e none pos.line X.env=pure false:=by rfl):QS X (.Expr e pos) (uV te):=
 (su he hs).imp λD σ H z0=>z0.el λτ G d hs hg ht l=>⟨τ,G,_,hs,hg,ht,λv H1 w G1 t1 r1 g1 q1=>l.nx σ H1 τ G1 t1 (hs.mono t1) g1 q1⟩
noncomputable def yv (te:WE):WS:=λd τ G=>te τ G d.rt
theorem aO {te:WE} (he:QE X e te):QS X (.Return (some e) pos) (yv te):=
 (vC he).imp λD σ H z0=>z0.el λτ G d hs hg ht l=>⟨τ,G,_,hs,hg,ht,λv H1 w G1 t1 r1 g1 q1=>l.rt v H1 w G1 t1 r1 g1 q1⟩
noncomputable def yw (c:WT) (t u:WS):WS:=λd τ G=>c τ G λb G1=>if b=true then t d τ G1 else u d τ G1
theorem bc {c:Expr} {a b:List Stmt} {tc:WT} {t u:WS} (hc:QT X c tc) (ha:kK X a t) (hb:kK X b u):QS X (.If c a b pos) (yw tc t u):=
 (xN hc ha hb).imp λD σ H z0=>z0.el λτ G d hs hg ht l=>⟨τ,G,_,hs,hg,ht,λc H1 G1 t1 g1 q1=>by
   cases c with
   | true=>rw[if_pos rfl] at q1 ⊢;exact⟨τ,G1,d,hs.mono t1,g1,q1,l.mono t1⟩
   | false=>rw[if_neg Bool.false_ne_true] at q1 ⊢;exact⟨τ,G1,d,hs.mono t1,g1,q1,l.mono t1⟩⟩
noncomputable def cV (i:Nat):WG:=λw τ G q=>q (τ.set i (some w)) G
theorem bd (i:Nat) (hN:X.N.Nodup) (hi:X.N[i]?=some x) (hx:uJ X.env.scope x) (hf:X.fn x=true∨X.env.scope.names.lookup x=some .local:=by first | exact .inl rfl | exact .inr rfl | assumption):QG X (.Name x pos) (cV i):=
 (sx hN hi hx hf).imp λv σ H Q ⟨w,τ,G,q,r,hs,hg,ht,hQ⟩=>hQ _ H _ G (aH.refl H) (hs.set r i) hg ht
noncomputable def jQ:uR:=λws τ G q=>match ws with | []=>q τ G | _=>False
noncomputable def eX (t:WG) (u:uR):uR:=λws τ G q=>match ws with | w::r=>t w τ G λτ1 G1=>u r τ1 G1 q | []=>False
theorem eM:yo X [] jQ:=pgs_nil.imp λvs σ H Q ⟨ws,τ,G,q,r,hs,hg,ht,hQ⟩=>by
 unfold jQ at ht;cases r with
 | nil=>exact⟨rfl,hQ σ H τ G (aH.refl H) hs hg ht⟩
 | cons _ _=>exact ht.elim
theorem bL {t:WG} {u:uR} (h1:QG X e t) (h2:yo X es u)
 (hs:(assignEach (e::es) X.env).map (·.2)=assign e X.env::(assignEach es X.env).map (·.2):=by rfl):yo X (e::es) (eX t u):=
 (pP h1 h2 hs).imp λvs σ H Q ⟨ws,τ,G,q,r,hs,hg,ht,hQ⟩=>by
   unfold eX at ht;cases r with
   | nil=>exact ht.elim
   | cons r rs=>
     exact⟨_,_,rfl,_,τ,G,_,r,hs,hg,ht,λσ1 H1 τ1 G1 t1 s1 g1 q1=>⟨_,τ1,G1,q,rs.mono t1,s1,g1,q1,λσ2 H2 τ2 G2 t2=>hQ σ2 H2 τ2 G2 (t1.trans t2)⟩⟩
noncomputable def jR (n:Nat) (t:uR):WG:=λw τ G q=>match w with | .tup ws=>ws.length=n/\t ws τ G q | _=>False
theorem gj {t:uR} (hc:X.calm=true) (h:yo X es t)
 (hn:(assignEach es X.env).length=es.length:=by rfl) (hst:(assignEach es X.env).findIdx? (·.1)=none:=by rfl):QG X (.Tuple es k pos) (jR es.length t):=
 (vD hc h hn hst).imp λv σ H Q ⟨w,τ,G,q,r,hs,hg,ht,hQ⟩=>by
   unfold jR at ht;cases r with
   | tup h r=>exact⟨_,_,rfl,du.of h,by rw[←r.length];exact ht.1,_,τ,G,q,r,hs,hg,ht.2,hQ⟩
   | _=>exact ht.elim
noncomputable def wb (te:WE) (g:WG):WS:=λd τ G=>te τ G λx G1=>g x τ G1 d.nx
theorem aA (i:Nat) {te:WE} {pos' pos:Pos} (hN:X.N.Nodup) (hi:X.N[i]?=some x) (hx:uJ X.env.scope x) (he:QE X e te) (hs:swapsWith e (some (.Name x pos')) pos.line X.env=pure false:=by rfl) (hf:X.fn x=true∨X.env.scope.names.lookup x=some .local:=by first | exact .inl rfl | exact .inr rfl | assumption):
 QS X (.Assign [.Name x pos'] e pos) (wb te (cV i)):=
 (vE hN hi hx he hs hf).imp λD σ H z0=>z0.el λτ G d hs hg ht l=>
   ⟨τ,G,_,hs,hg,ht,λv H1 w G1 t1 r1 g1 q1=>l.nx _ H1 _ G1 t1 ((hs.mono t1).set r1 i) g1 q1⟩
noncomputable def qe (c:WT) (tb:WS):WS:=λd τ G=>∃I:Nat->ck->Gp->Prop,(∃m,I m τ G)/\∀m τ G,I m τ G->
 c τ G λb G1=>if b=true then ∃N:ck->Gp->Prop,(∀τ1 G1,N τ1 G1->∃m1,m1<m/\I m1 τ1 G1)/\tb { d with nx:=N,ct:=N,bk:=d.nx } τ G1 else d.nx τ G1
theorem kM {c:Expr} {tc:WT} {tb:WS} (hp:PassesOwn (model X.prog X.w) X.A X.env X.xe) (hc:QT X c tc) (hb:kK X body tb):QS X (.While c body [] pos) (qe tc tb):=
 (pQ hp hc hb).imp λD σ H ⟨τ,G,d,hs,hg,⟨I,⟨m,i0⟩,turn⟩,l⟩=>by
   refine⟨λm σ1 H1=>∃τ1 G1,aH H H1/\aX X.K H1 τ1 σ1/\aD X.K H1 G1/\I m τ1 G1,⟨m,τ,G,aH.refl H,hs,hg,i0⟩,?_⟩;rintro m1 σ1 H1 ⟨τ1,G1,t1,s1,g1,i1⟩;refine⟨τ1,G1,_,s1,g1,turn m1 τ1 G1 i1,λb H2 G2 t2 g2 q2=>?_⟩;cases b with
   | true=>
     rw[if_pos rfl] at q2 ⊢;obtain⟨N,hN,q2⟩:=q2;refine⟨λσ3 H3=>∃τ3 G3,aH H H3/\aX X.K H3 τ3 σ3/\aD X.K H3 G3/\N τ3 G3,?_,τ1,G2,_,s1.mono t2,g2,q2,?_⟩
     ·rintro σ3 H3 ⟨τ3,G3,t3,s3,g3,n3⟩;obtain⟨m3,hm,i3⟩:=hN τ3 G3 n3;exact⟨m3,hm,τ3,G3,t3,s3,g3,i3⟩
     ·have tt:=t1.trans t2;exact⟨λσ3 H3 τ3 G3 t3 s3 g3 q3=>⟨τ3,G3,tt.trans t3,s3,g3,q3⟩,λv H3 w G3 t3=>l.rt v H3 w G3 (tt.trans t3),λσ3 H3 τ3 G3 t3=>l.nx σ3 H3 τ3 G3 (tt.trans t3),λσ3 H3 τ3 G3 t3 s3 g3 q3=>⟨τ3,G3,tt.trans t3,s3,g3,q3⟩⟩
   | false=>
     rw[if_neg Bool.false_ne_true] at q2 ⊢;exact l.nx σ1 H2 τ1 G2 (t1.trans t2) (s1.mono t2) g2 q2
end
section
variable {X:Cx}
noncomputable abbrev WX:=Value->Gp->Prop
noncomputable abbrev cm:=List W->Gp->WK->WX->Prop
noncomputable def sQ (K:PySem.W.Frag) (sp:cm):Sp:=λvs H Q E=>∃ws G q e,aJ K H ws vs/\aD K H G/\sp ws G q e/\(∀v H1 w G1,aH H H1->bI K H1 w v->aD K H1 G1->q w G1->Q v H1)/\
 ∀c d H1 G1,aH H H1->aD K H1 G1->e c G1->E c d H1
noncomputable abbrev dU (P:Program) (w:World) (K:PySem.W.Frag) (mg:Str->Option Value) (base:Heap) (k:Nat) (f:Addr) (fd:FuncData) (ps:List Str) (sp:cm):Prop:=i7 P w K mg base p8 k f fd ps (sQ K sp)
noncomputable def jr (sp:cm) (dws:List W) (t:WA):WE:=λτ G q=>t τ G λws G1=>sp (ws++dws) G1 q λ_ _=>False
theorem lX.call {sp:cm} {dws:List W} {dvs:List V} {t:WA} {σ:St} {H:Hp} {Q:VK} {E:XK} (hd:∀H,aJ K H dws dvs) (h:lX K (jr sp dws t) σ H Q):uO (sQ K sp) dvs E (LA K t) σ H Q:=by
 obtain⟨τ,G,q,hs,hg,ht,hQ⟩:=h;exact⟨τ,G,_,hs,hg,ht,λvs H1 ws G1 t1 r1 g1 q1=>⟨ws++dws,G1,q,_,r1.append (hd H1),g1,q1,λv H2 w G2 t2=>hQ v H2 w G2 (t1.trans t2),λ_ _ _ _ _ _ z=>z.elim⟩⟩
theorem sR {f:Addr} {sp:cm} {p pos:Pos} {t:WA} (F:dU X.prog X.w X.K X.mg X.base k f fd ps sp) (hr:aR k X.A) (hg:Gl X x) (hm:X.mg x=some (.ref f))
 (hk:keepIn X.K (.ref f)=true) (hb:ce X.K fd ps []) (ha:QA X (e::es) t) (hdb:(x==("__debug__":Str))=false:=by decide)
 (he:starEach (e::es) X.env=(false,eval e X.env)::starEach es X.env:=by rfl) (hpl:(backTo pos (starEach es X.env)).any (·.1)=false:=by rfl):QE X (.Call (.Name x p) (e::es) [] pos) (jr sp [] t):=
 (nr F hr hg hm hk hb .nil uP ha hdb he hpl).imp λ_ _ _ h=>h.call λ_=> .nil
noncomputable def iE (N:List Str) (ws:List W):ck:=ws.map some++List.replicate (N.length-ws.length) none
theorem BN {x qual:Str} {f:Addr} {N ps:List Str} {sp:cm} (F:dX K x qual st f fd) (S:cf N ps (aw st)) (len:∀ws G q e,sp ws G q e->ws.length=ps.length)
 (hbody:∀(cdv:Value) (A:Around) (outer:List Env) (s:Shared) (H:Hp) (E:XK),aR k (A.deeper (envOfC qual (aw st) s.heap.objs.size f cdv))->
   ∃t,kK (dw p8 P w K mg base N qual (aw st) f cdv A outer s H E).nox (aF st) t/\
    ∀(ws:List W) (G:Gp) (q:WK) (e:WX),sp ws G q e->t { nx:=λ_ G1=>∃G0,aZ G0 G1/\q .non G0,rt:=λw G1=>∃G0,aZ G0 G1/\q w G0 } (iE N ws) G):dU P w K mg base (k+1) f fd ps sp:=by
 refine F.ok S (λvs H Q E ⟨ws,G,q,e,r,g,z,_⟩=>by rw[←r.length];exact len _ _ _ _ z) (λcdv A outer s H vs Q E hr ⟨ws,G,q,e,r,g,z,hQ,_⟩=>?_);obtain⟨t,ht,hq⟩:=hbody cdv A outer s H E hr;exact⟨_,ht,_,G,_,aX.start r,g,hq ws G q e z,⟨λσ1 H1 τ1 G1 t1 s1 g1 ⟨G0,l,q1⟩=>hQ .non H1 .non G0 t1 .non (g1.le l) q1,λv H1 w G1 t1 r1 g1 ⟨G0,l,q1⟩=>hQ v H1 w G0 t1 r1 (g1.le l) q1,λ_ _ _ _ _ _ _ z=>z.elim,λ_ _ _ _ _ _ _ z=>z.elim⟩⟩
noncomputable def uW (K:PySem.W.Frag) (r:List W->Gp->WK->Prop):List V->Hp->VK->Prop:=λvs H Q=>∃ws G q,aJ K H ws vs/\aD K H G/\r ws G q/\∀v H1 w G1,aH H H1->bI K H1 w v->aD K H1 G1->q w G1->Q v H1
noncomputable def dN (X:Cx) (f:Value) (r:List W->Gp->WK->Prop):Prop:=cT X f (uW X.K r)
noncomputable def yx (r:List W->Gp->WK->Prop) (t:WA):WE:=λτ G q=>t τ G λws G1=>r ws G1 q
theorem lX.cb {r:List W->Gp->WK->Prop} {t:WA} {σ:St} {H:Hp} {Q:VK} (h:lX K (yx r t) σ H Q):AD (uW K r) (LA K t) σ H Q:=by
 obtain⟨τ,G,q,hs,hg,ht,hQ⟩:=h;exact⟨τ,G,_,hs,hg,ht,λvs H1 ws G1 t1 r1 g1 q1=>⟨ws,G1,q,r1,g1,q1,λv H2 w G2 t2=>hQ v H2 w G2 (t1.trans t2)⟩⟩
theorem bo {id:String} {r:List W->Gp->WK->Prop} {p pos:Pos} {t:WA} (hc:dN X (.builtin id) r) (hg:Gl X x) (hm:X.mg x=none) (hv:bootBuiltins x=some (.builtin id)) (ha:QA X (e::es) t)
 (hn:x≠"__name__":=by decide) (hdb:(x==("__debug__":Str))=false:=by decide)
 (he:starEach (e::es) X.env=(false,eval e X.env)::starEach es X.env:=by rfl) (hpl:(backTo pos (starEach es X.env)).any (·.1)=false:=by rfl):QE X (.Call (.Name x p) (e::es) [] pos) (yx r t):=
 (dg hc hg hm hv ha hn hdb he hpl).imp λ_ _ _ h=>h.cb
theorem bv {T:String} {r:List W->Gp->WK->Prop} {p pos:Pos} {t:WA} (hc:dN X (.type T) r) (hg:Gl X x) (hm:X.mg x=none) (hv:bootBuiltins x=some (.type T)) (ha:QA X (e::es) t)
 (hn:x≠"__name__":=by decide) (hdb:(x==("__debug__":Str))=false:=by decide)
 (he:starEach (e::es) X.env=(false,eval e X.env)::starEach es X.env:=by rfl) (hpl:(backTo pos (starEach es X.env)).any (·.1)=false:=by rfl):QE X (.Call (.Name x p) (e::es) [] pos) (yx r t):=
 (oV hc hg hm hv ha hn hdb he hpl).imp λ_ _ _ h=>h.cb
theorem aJ.one {H:Hp} {w:W} {vs:List V} (r:aJ K H [w] vs):∃v,vs=[v]/\bI K H w v:=by
 cases r with
 | cons r rs=>cases rs;exact⟨_,rfl,r⟩
theorem aJ.two {H:Hp} {w u:W} {vs:List V} (r:aJ K H [w,u] vs):∃v x,vs=[v,x]/\bI K H w v/\bI K H u x:=by
 cases r with
 | cons r rs=>
   obtain⟨x,rfl,r2⟩:=rs.one;exact⟨_,_,rfl,r,r2⟩
noncomputable def wc:List W->Gp->WK->Prop:=λws G q=>match ws with
 | [.tup xs]=>q (.int xs.length) G
 | [.scr ns]=>q (.int ns.length) G
 | [.ref a]=>∃xs,G a=some (.lst xs)/\q (.int xs.length) G
 | _=>False
theorem uX:dN X (.builtin "len") wc:=by
 rintro π s σ H xs us Q I r ⟨ws,G,q,rw',g,h,hQ⟩;cases rw' with
 | nil=>exact False.elim h
 | cons r1 rr'=>
   cases rr' with
   | cons _ _=>cases r1<;> exact False.elim h
   | nil=>
     cases r1 with
     | tup hh rr=>exact dA π s σ H _ us Q I r ⟨_,_,rfl,.inr (du.of hh),hQ _ H _ G (aH.refl H) (by rw[rr.length];exact .int _) g h⟩
     | scr hh=>exact dA π s σ H _ us Q I r ⟨_,_,rfl,.inl hh.sq,hQ _ H _ G (aH.refl H) (by rw[length_map];exact .int _) g h⟩
     | ref a=>
       obtain⟨ys,e,h⟩:=h;obtain⟨_,zs,e1,rr⟩:=g a _ e;exact dA π s σ H _ us Q I r ⟨_,_,rfl,.inl (cR.of e1),hQ _ H _ G (aH.refl H) (by rw[rr.length];exact .int _) g h⟩
     | _=>exact False.elim h
noncomputable def qf:List W->Gp->WK->Prop:=λws G q=>match ws with
 | [.tup xs]=>q (.tup xs) G
 | [.ref a]=>∃xs,G a=some (.lst xs)/\q (.tup xs) G
 | _=>False
theorem nD:dN X (.type "tuple") qf:=by
 rintro π s σ H xs us Q I r ⟨ws,G,q,rw',g,h,hQ⟩;cases rw' with
 | nil=>exact False.elim h
 | cons r1 rr'=>
   cases rr' with
   | cons _ _=>cases r1<;> exact False.elim h
   | nil=>
     cases r1 with
     | tup hh rr=>exact eV π s σ H _ us Q I r ⟨_,_,rfl,.inr ⟨du.of hh,hQ _ H _ G (aH.refl H) (.tup hh rr) g h⟩⟩
     | ref a=>
       obtain⟨ys,e,h⟩:=h;obtain⟨_,zs,e1,rr⟩:=g a _ e;exact eV π s σ H _ us Q I r ⟨_,_,rfl,.inl ⟨cR.of e1,λl hl=>hQ _ _ _ G (aH.new hl _) (.tup aU (rr.mono (aH.new hl _))) (g.keep hl _) h⟩⟩
     | _=>exact False.elim h
noncomputable def nE:List W->Gp->WK->Prop:=λws G q=>match ws with
 | [.tup xs]=>xs.length<=100000/\∀p,G p=none->q (.ref p) (av G p (.lst xs))
 | [.ref a]=>∃xs,G a=some (.lst xs)/\∀p,G p=none->q (.ref p) (av G p (.lst xs))
 | _=>False
theorem qg:dN X (.type "list") nE:=by
 rintro π s σ H xs us Q I r ⟨ws,G,q,rw',g,h,hQ⟩;unfold nE at h;split at h
 ·rename_i ys;obtain⟨v,rfl,r1⟩:=rw'.one;cases r1 with
  | tup hh rr=>exact fE π s σ H _ us Q I r ⟨_,_,rfl,.inr (du.of hh),λl hl=>hQ _ _ _ _ (aH.new hl _) (.ref l) (g.put (aH.new hl _) rr h.1) (h.2 l (g.fresh hl))⟩
 ·rename_i a;obtain⟨ys,e,h⟩:=h;obtain⟨v,rfl,r1⟩:=rw'.one;cases r1;obtain⟨hl,zs,e1,rr⟩:=g a _ e;exact fE π s σ H _ us Q I r ⟨_,_,rfl,.inl (cR.of e1),λl hl'=>hQ _ _ _ _ (aH.new hl' _) (.ref l) (g.put (aH.new hl' _) rr hl) (h l (g.fresh hl'))⟩
 ·exact h.elim
noncomputable def yy:List W->Gp->WK->Prop:=λws G q=>match ws with
 | [.int i]=>q (.int i) G
 | [.bl b]=>q (.int (if b then 1 else 0)) G
 | _=>False
theorem yz:dN X (.type "int") yy:=by
 rintro π s σ H xs us Q I r ⟨ws,G,q,rw',g,h,hQ⟩;cases rw' with
 | nil=>exact False.elim h
 | cons r1 rr'=>
   cases rr' with
   | cons _ _=>cases r1<;> exact False.elim h
   | nil=>
     cases r1 with
     | int i=>exact ji π s σ H _ us Q I r (.inl ⟨_,rfl,hQ _ H _ G (aH.refl H) (.int _) g h⟩)
     | bl b=>exact ji π s σ H _ us Q I r (.inr ⟨_,rfl,hQ _ H _ G (aH.refl H) (.int _) g h⟩)
     | _=>exact False.elim h
noncomputable def wd:W2:=λx y G q=>match x,y with
 | .int i,.int j=>q (.int (i+j)) G
 | .tup xs,.tup ys=>xs.length+ys.length<=100000/\q (.tup (xs++ys)) G
 | .ref a,.ref b=>∃xs ys,G a=some (.lst xs)/\G b=some (.lst ys)/\xs.length+ys.length<=100000/\∀p,G p=none->q (.ref p) (av G p (.lst (xs++ys)))
 | _,_=>False
theorem AN {σ:St} {H:Hp} {a b:Addr} {ys:List V} {Q:VK} (I:ay X π σ H s) (ha:H a=some (.tup [])) (hb:H b=some (.tup ys)) (q:Q (.ref b) H):wpAny (model X.prog X.w) X.A (binaryOp .Add (.ref a) (.ref b)) (EP X π σ Q) X.xe s:=by
 obtain⟨its,r1,p1,_⟩:=I.tuple (du.of ha);obtain⟨its2,r2,p2,_⟩:=I.tuple (du.of hb);cases r1;obtain⟨⟨cls,dd,data,sl⟩,ho,hc,n,hd⟩:=id p1;obtain⟨⟨cls2,dd2,data2,sl2⟩,ho2,hc2,n2,hd2⟩:=id p2;simp only at hc hd hc2 hd2;subst hc hd hc2 hd2;exact concat_meets ⟨_,ho,rfl⟩ ⟨_,ho2,rfl⟩ noFill_tuple_add seq_tuple_add PySem.F.slot_tuple_add PySem.F.entry_tuple_add (PySem.F.args_tuple_add_2 _ _)
  (tuple_addW0 a b #[] its2.toArray n n2 dd dd2 sl sl2 rfl) ⟨ho,ho2,⟨.ref b,H,I,rfl,q⟩⟩
theorem yA:fF X (binaryOp .Add) wd:=by
 rintro π s σ H x y v u Q I rx ry ⟨wx,wy,G,q,r1,r2,g,h,hQ⟩;cases r1 with
 | int i=>
   cases r2 with
   | int j=>exact vJ π s σ H _ _ v u Q I rx ry ⟨_,_,rfl,rfl,hQ _ H _ G (aH.refl H) (.int _) g h⟩
   | _=>exact False.elim h
 | @tup a ws xs ha ra=>
   cases r2 with
   | @tup b us ys hb rb=>
     cases xs with
     | nil=>
       cases ra;cases rx;cases ry;exact AN I ha hb (hQ _ H _ G (aH.refl H) (.tup hb rb) g h.2)
     | cons x0 xr=>
       refine sL π s σ H _ _ v u Q I rx ry ⟨a,b,_,_,rfl,rfl,du.of ha,du.of hb,by simp,by rw[←ra.length,←rb.length];exact bF h.1,λe=>?_,λ_ p hp=>?_⟩
       ·subst e;cases rb;have h2:=h.2;rw[append_nil] at h2;exact hQ _ H _ G (aH.refl H) (.tup ha ra) g h2
       ·exact hQ _ _ _ G (aH.new hp _) (.tup aU ((ra.append rb).mono (aH.new hp _))) (g.keep hp _) h.2
   | _=>exact False.elim h
 | ref a=>
   cases r2 with
   | ref b=>
     obtain⟨xs,ys,ea,eb,hl,h⟩:=h;obtain⟨_,xs',ha,ra⟩:=g _ _ ea;obtain⟨_,ys',hb,rb⟩:=g _ _ eb;refine vY π s σ H _ _ v u Q I rx ry ⟨_,_,_,_,rfl,rfl,ha,hb,by rw[←ra.length,←rb.length];exact bF hl,λp hp=>?_⟩;exact hQ _ _ _ _ (aH.new hp _) (.ref p) (g.put (aH.new hp _) (ra.append rb) (by rw[length_append];exact hl)) (h p (g.fresh hp))
   | _=>exact False.elim h
 | _=>exact False.elim h
noncomputable def vInt (C:Int->Int->Prop) (f:Int->Int->W):W2:=λx y G q=>match x,y with
 | .int i,.int j=>C i j/\q (f i j) G
 | _,_=>False
theorem me {f:Value->Value->Sem Value} {C:Int->Int->Prop} {g:Int->Int->Int} (h:hJ X f (rI C λi j=> .int (g i j))):fF X f (vInt C λi j=> .int (g i j)):=by
 rintro π s σ H x y v u Q I rx ry ⟨wx,wy,G,q,r1,r2,gg,hh,hQ⟩;unfold vInt at hh;split at hh
 ·cases r1;cases r2;exact h π s σ H _ _ v u Q I rx ry ⟨_,_,rfl,rfl,hh.1,hQ _ H _ G (aH.refl H) (.int _) gg hh.2⟩
 ·exact hh.elim
noncomputable def vInt0 (f:Int->Int->W):W2:=λx y G q=>match x,y with
 | .int i,.int j=>q (f i j) G
 | _,_=>False
theorem qh {f:Value->Value->Sem Value} {g:Int->Int->Bool} (h:hJ X f (sy λi j=> .bl (g i j))):fF X f (vInt0 λi j=> .bl (g i j)):=by
 rintro π s σ H x y v u Q I rx ry ⟨wx,wy,G,q,r1,r2,gg,hh,hQ⟩;unfold vInt0 at hh;split at hh
 ·cases r1;cases r2;exact h π s σ H _ _ v u Q I rx ry ⟨_,_,rfl,rfl,hQ _ H _ G (aH.refl H) (.bl _) gg hh⟩
 ·exact hh.elim
noncomputable abbrev AO:W2:=vInt (λ_ j=>0<j) λi j=> .int (i%j)
theorem cM:fF X (binaryOp .Mod) AO:=me vL
noncomputable abbrev B6:W2:=vInt0 λi j=> .bl (decide (i<=j))
noncomputable abbrev B7:W2:=vInt0 λi j=> .bl (decide (j<i))
noncomputable abbrev B8:W2:=vInt0 λi j=> .bl (decide (j<=i))
theorem AQ:fF X (compareOp .LtE) B6:=qh xX
theorem kN:fF X (compareOp .Gt) B7:=qh xY
theorem yB:fF X (compareOp .GtE) B8:=qh xZ
noncomputable def qi:W2:=λx y G q=>match x,y with
 | .tup xs,.int i=>∃w,fC xs i=some w/\q w G
 | .scr ns,.int i=>∃n,fC ns i=some n/\q (.int n) G
 | .ref a,.int i=>∃xs w,G a=some (.lst xs)/\fC xs i=some w/\q w G
 | _,_=>False
theorem aJ.at {H:Hp} {ws:List W} {vs:List V} {i:Int} {w:W} (r:aJ K H ws vs) (e:fC ws i=some w):∃v,fC vs i=some v/\bI K H w v:=by
 unfold fC at e ⊢;rw[r.length] at e;cases h:pF vs.length i with
 | none=>rw[h] at e;cases e
 | some j=>
   rw[h] at e;exact r.get e
theorem sS {α β:Type} (f:α->β) (xs:List α) (i:Int):fC (xs.map f) i=(fC xs i).map f:=by
 unfold fC;rw[length_map];cases pF xs.length i with
 | none=>rfl
 | some j=>simp
theorem AR:wa X qi:=by
 rintro value slice π s σ H x y v u Q I rx ry ⟨wx,wy,G,q,r1,r2,g,h,hQ⟩ hsl;cases r2 with
 | int i=>
   cases r1 with
   | tup hh rr=>
     obtain⟨w,e,h⟩:=h;obtain⟨v',e',r'⟩:=rr.at e;exact vU value slice π s σ H _ _ v u Q I rx ry ⟨_,_,_,v',rfl,rfl,du.of hh,e',hQ _ H _ G (aH.refl H) r' g h⟩ hsl
   | scr hh=>
     obtain⟨n,e,h⟩:=h;exact nz value slice π s σ H _ _ v u Q I rx ry ⟨_,_,_,.int n,rfl,rfl,hh.sq,by rw[sS,e];rfl,hQ _ H _ G (aH.refl H) (.int n) g h⟩ hsl
   | ref a=>
     obtain⟨xs,w,ea,e,h⟩:=h;obtain⟨_,zs,e1,rr⟩:=g _ _ ea;obtain⟨v',e',r'⟩:=rr.at e;exact nz value slice π s σ H _ _ v u Q I rx ry ⟨_,_,_,v',rfl,rfl,cR.of e1,e',hQ _ H _ G (aH.refl H) r' g h⟩ hsl
   | _=>exact False.elim h
 | _=>cases r1<;> exact False.elim h
end
mutual
noncomputable def W.flat:W->Bool
 | .tup xs=>W.flats xs
 | .ref _=>false
 | .scr _=>false
 | _=>true
noncomputable def W.flats:List W->Bool
 | []=>true
 | x::xs=>W.flat x&&W.flats xs
end
mutual
noncomputable def W.dep:W->Nat
 | .tup xs=>W.deps xs+1
 | _=>0
noncomputable def W.deps:List W->Nat
 | []=>0
 | x::xs=>max (W.dep x) (W.deps xs)
end
mutual
noncomputable def W.eq:W->W->Bool
 | .non,.non=>true
 | .bl a,.bl b=>a==b
 | .bl a,.int j=>(if a then 1 else 0)==j
 | .int i,.bl b=>i==(if b then 1 else 0)
 | .int i,.int j=>i==j
 | .str x,.str y=>x==y
 | .tup xs,.tup ys=>W.eqs xs ys
 | _,_=>false
noncomputable def W.eqs:List W->List W->Bool
 | [],[]=>true
 | x::xs,y::ys=>W.eq x y&&W.eqs xs ys
 | _,_=>false
end
theorem cq {P:Prop} (h:false=true):P:=Bool.noConfusion h
theorem W.eq_int (i j:Int):(W.int i).eq (W.int j)=(i==j):=rfl
theorem W.eq_tup (xs ys:List W):(W.tup xs).eq (W.tup ys)=W.eqs xs ys:=rfl
mutual
theorem W.eq_refl:∀w:W,w.flat=true->w.eq w=true
 | .non,_=>rfl
 | .bl b,_=>beq_self_eq_true b
 | .int i,_=>beq_self_eq_true i
 | .str x,_=>beq_self_eq_true x
 | .tup xs,h=>W.eqs_refl xs h
 | .ref _,h=>cq h
 | .scr _,h=>cq h
theorem W.eqs_refl:∀ws:List W,W.flats ws=true->W.eqs ws ws=true
 | [],_=>rfl
 | x::xs,h=>by
   have h':x.flat=true/\W.flats xs=true:=(Bool.and_eq_true _ _).mp h;exact(Bool.and_eq_true _ _).mpr ⟨W.eq_refl x h'.1,W.eqs_refl xs h'.2⟩
end
mutual
theorem bI.inj {K:PySem.W.Frag} {H:Hp}:∀{w u:W} {v:V},w.flat=true->u.flat=true->bI K H w v->bI K H u v->w=u:=by
 intro w u v h1 h2 r1 r2;cases r1 with
 | non=>cases r2;rfl
 | bl _=>cases r2;rfl
 | int _=>cases r2;rfl
 | str _=>cases r2;rfl
 | ref _=>exact cq h1
 | scr _=>exact cq h1
 | tup e1 r1=>
   cases r2 with
   | ref _=>exact cq h2
   | scr _=>exact cq h2
   | tup e2 r2=>
     rw[e1] at e2;cases e2;rw[aJ.inj h1 h2 r1 r2]
theorem aJ.inj {K:PySem.W.Frag} {H:Hp}:∀{ws us:List W} {vs:List V},W.flats ws=true->W.flats us=true->aJ K H ws vs->aJ K H us vs->ws=us:=by
 intro ws us vs h1 h2 r1 r2;cases r1 with
 | nil=>cases r2;rfl
 | cons r1 s1=>
   cases r2 with
   | cons r2 s2=>
     simp only[W.flats,Bool.and_eq_true] at h1 h2;rw[bI.inj h1.1 h2.1 r1 r2,aJ.inj h1.2 h2.2 s1 s2]
end
theorem W.flats_get:∀{ws:List W} {j:Nat} {w:W},W.flats ws=true->ws[j]?=some w->w.flat=true
 | [],_,_,_,e=>by simp at e
 | x::xs,0,w,h,e=>by
   have h':x.flat=true/\W.flats xs=true:=by simpa[W.flats] using h
   simp at e;subst e;exact h'.1
 | x::xs,j+1,w,h,e=>by
   have h':x.flat=true/\W.flats xs=true:=by simpa[W.flats] using h
   exact W.flats_get h'.2 (by simpa using e)
theorem W.deps_get:∀{ws:List W} {j:Nat} {w:W},ws[j]?=some w->w.dep<=W.deps ws
 | [],_,_,e=>by simp at e
 | x::xs,0,w,e=>by simp at e;subst e;simp[W.deps];lia
 | x::xs,j+1,w,e=>by
   have:=W.deps_get (ws:=xs) (j:=j) (w:=w) (by simpa using e);simp only[W.deps];(clear e;lia)
theorem W.eqs_iff:∀(ws us:List W),W.eqs ws us=true↔ws.length=us.length/\∀(j:Nat) (a b:W),ws[j]?=some a->us[j]?=some b->W.eq a b=true
 | [],[]=>by simp[W.eqs]
 | [],_::_=>by simp[W.eqs]
 | _::_,[]=>by simp[W.eqs]
 | x::xs,y::ys=>by
   rw[W.eqs,Bool.and_eq_true,W.eqs_iff xs ys];constructor
   ·rintro⟨h1,h2,h3⟩;refine⟨by simp[h2],λj a b ea eb=>?_⟩;cases j with
    | zero=>simp at ea eb;subst ea eb;exact h1
    | succ j=>exact h3 j a b (by simpa using ea) (by simpa using eb)
   ·rintro⟨h1,h2⟩;exact⟨h2 0 x y rfl rfl,by simpa using h1,λj a b ea eb=>h2 (j+1) a b (by simpa using ea) (by simpa using eb)⟩
noncomputable def iF (ws us:List W) (j:Nat):Bool:=match ws[j]?,us[j]? with | some a,some b=>W.eq a b | _,_=>true
theorem eN (ws us:List W):((List.range (min ws.length us.length)).all (iF ws us)&&(ws.length==us.length))=W.eqs ws us:=by
 rw[Bool.eq_iff_iff,Bool.and_eq_true,W.eqs_iff,List.all_eq_true,beq_iff_eq];constructor
 ·rintro⟨h1,h2⟩;refine⟨h2,λj a b ea eb=>?_⟩;have hj:j<ws.length:=(List.getElem?_eq_some_iff.mp ea).1;have:=h1 j (List.mem_range.mpr (by (clear ea eb;lia)));unfold iF at this;rw[ea,eb] at this;exact this
 ·rintro⟨h1,h2⟩;refine⟨λj _=>?_,h1⟩;unfold iF;split
  ·rename_i a b ea eb;exact h2 j a b ea eb
  ·rfl
section
variable {X:Cx} {π:List (Addr×Obj)} {σ:St} {H:Hp} {s:Shared}
theorem ay.tupH {xs:List V} (I:ay X π σ H s) (h:H a=some (.tup xs)):∃its:List Value,aN xs its/\s.heap.IsTuple a its.toArray/\xs.length<=sizeLine:=I.tuple (du.of h)
theorem fi (I:ay X π σ H s):∀(n:Nat) (A:Around) {w1 w2:W} {v1 v2:V} {u1 u2:Value},w1.dep<n->w1.flat=true->w2.flat=true->A.units+n<cLine->bI X.K H w1 v1->bI X.K H w2 v2->aS v1 u1->aS v2 u2->
 SeqAt.EqAt A s u1 u2 (w1.eq w2)/\SeqAt.RcAt A s u1 u2 (w1.eq w2)/\SeqAt.RcNeAt A s u1 u2 (!(w1.eq w2)):=by
 intro n
 induction n with
 | zero=>intro A w1 w2 v1 v2 u1 u2 h;lia
 | succ n ih=>
   intro A w1 w2 v1 v2 u1 u2 hd f1 f2 hu r1 r2 q1 q2;have hu0:A.units<cLine:=by lia
   have hui:A.in1.units+n<cLine:=by show A.units+1+n<cLine;(clear hd hu0;lia)
   cases r1 with
   | ref a=>exact cq f1
   | scr a=>exact cq f1
   | non=>
     cases (show u1=Value.none from q1);cases r2 with
     | ref a=>exact cq f2
     | scr a=>exact cq f2
     | non=>cases (show u2=Value.none from q2);exact⟨SeqAt.EqAt.same _,SeqAt.RcAt.none_none,SeqAt.RcNeAt.none_none⟩
     | bl b=>cases (show u2=Value.bool b from q2);exact⟨SeqAt.EqAt.none_bool b,SeqAt.RcAt.none_bool b,SeqAt.RcNeAt.none_bool b⟩
     | int b=>obtain⟨t,rfl⟩:=q2;exact⟨SeqAt.EqAt.none_int b t,SeqAt.RcAt.none_int b t,SeqAt.RcNeAt.none_int b t⟩
     | str b=>obtain⟨t,rfl⟩:=q2;exact⟨SeqAt.EqAt.none_str b t,SeqAt.RcAt.none_str b t,SeqAt.RcNeAt.none_str b t⟩
     | tup h r=>
       cases (show u2=Value.ref _ from q2);obtain⟨its,_,p,_⟩:=ay.tupH I h;exact⟨SeqAt.EqAt.none_tuple p hu0,SeqAt.RcAt.none_tuple p hu0,SeqAt.RcNeAt.none_tuple p hu0⟩
   | bl a=>
     cases (show u1=Value.bool a from q1);cases r2 with
     | ref a=>exact cq f2
     | scr a=>exact cq f2
     | non=>cases (show u2=Value.none from q2);exact⟨SeqAt.EqAt.bool_none a,SeqAt.RcAt.bool_none a,SeqAt.RcNeAt.bool_none a⟩
     | bl b=>cases (show u2=Value.bool b from q2);exact⟨SeqAt.EqAt.bool_bool a b,SeqAt.RcAt.bool_bool a b,SeqAt.RcNeAt.bool_bool a b⟩
     | int b=>obtain⟨t,rfl⟩:=q2;exact⟨SeqAt.EqAt.bool_int a b t,SeqAt.RcAt.bool_int a b t,SeqAt.RcNeAt.bool_int a b t⟩
     | str b=>obtain⟨t,rfl⟩:=q2;exact⟨SeqAt.EqAt.bool_str a b t,SeqAt.RcAt.bool_str a b t,SeqAt.RcNeAt.bool_str a b t⟩
     | tup h r=>
       cases (show u2=Value.ref _ from q2);obtain⟨its,_,p,_⟩:=ay.tupH I h;exact⟨SeqAt.EqAt.bool_tuple a p hu0,SeqAt.RcAt.bool_tuple a p hu0,SeqAt.RcNeAt.bool_tuple a p hu0⟩
   | int a=>
     obtain⟨ta,rfl⟩:=q1;cases r2 with
     | ref a=>exact cq f2
     | scr a=>exact cq f2
     | non=>cases (show u2=Value.none from q2);exact⟨SeqAt.EqAt.int_none a ta,SeqAt.RcAt.int_none a ta,SeqAt.RcNeAt.int_none a ta⟩
     | bl b=>cases (show u2=Value.bool b from q2);exact⟨SeqAt.EqAt.int_bool a ta b,SeqAt.RcAt.int_bool a ta b,SeqAt.RcNeAt.int_bool a ta b⟩
     | int b=>obtain⟨t,rfl⟩:=q2;exact⟨SeqAt.EqAt.int_int a ta b t,SeqAt.RcAt.int_int a ta b t,SeqAt.RcNeAt.int_int a ta b t⟩
     | str b=>obtain⟨t,rfl⟩:=q2;exact⟨SeqAt.EqAt.int_str a ta b t,SeqAt.RcAt.int_str a ta b t,SeqAt.RcNeAt.int_str a ta b t⟩
     | tup h r=>
       cases (show u2=Value.ref _ from q2);obtain⟨its,_,p,_⟩:=ay.tupH I h;exact⟨SeqAt.EqAt.int_tuple a ta p hu0,SeqAt.RcAt.int_tuple a ta p hu0,SeqAt.RcNeAt.int_tuple a ta p hu0⟩
   | str a=>
     obtain⟨ta,rfl⟩:=q1;cases r2 with
     | ref a=>exact cq f2
     | scr a=>exact cq f2
     | non=>cases (show u2=Value.none from q2);exact⟨SeqAt.EqAt.str_none a ta,SeqAt.RcAt.str_none a ta,SeqAt.RcNeAt.str_none a ta⟩
     | bl b=>cases (show u2=Value.bool b from q2);exact⟨SeqAt.EqAt.str_bool a ta b,SeqAt.RcAt.str_bool a ta b,SeqAt.RcNeAt.str_bool a ta b⟩
     | int b=>obtain⟨t,rfl⟩:=q2;exact⟨SeqAt.EqAt.str_int a ta b t,SeqAt.RcAt.str_int a ta b t,SeqAt.RcNeAt.str_int a ta b t⟩
     | str b=>obtain⟨t,rfl⟩:=q2;exact⟨SeqAt.EqAt.str_str a ta b t,SeqAt.RcAt.str_str a ta b t,SeqAt.RcNeAt.str_str a ta b t⟩
     | tup h r=>
       cases (show u2=Value.ref _ from q2);obtain⟨its,_,p,_⟩:=ay.tupH I h;exact⟨SeqAt.EqAt.str_tuple a ta p hu0,SeqAt.RcAt.str_tuple a ta p hu0,SeqAt.RcNeAt.str_tuple a ta p hu0⟩
   | @tup a ws xs h r=>
     cases (show u1=Value.ref _ from q1);obtain⟨its,rv,p,_⟩:=ay.tupH I h;cases r2 with
     | ref a=>exact cq f2
     | scr a=>exact cq f2
     | non=>cases (show u2=Value.none from q2);exact⟨SeqAt.EqAt.tuple_none p hu0,SeqAt.RcAt.tuple_none p hu0,SeqAt.RcNeAt.tuple_none p hu0⟩
     | bl b=>cases (show u2=Value.bool b from q2);exact⟨SeqAt.EqAt.tuple_bool b p hu0,SeqAt.RcAt.tuple_bool b p hu0,SeqAt.RcNeAt.tuple_bool b p hu0⟩
     | int b=>obtain⟨t,rfl⟩:=q2;exact⟨SeqAt.EqAt.tuple_int b t p hu0,SeqAt.RcAt.tuple_int b t p hu0,SeqAt.RcNeAt.tuple_int b t p hu0⟩
     | str b=>obtain⟨t,rfl⟩:=q2;exact⟨SeqAt.EqAt.tuple_str b t p hu0,SeqAt.RcAt.tuple_str b t p hu0,SeqAt.RcNeAt.tuple_str b t p hu0⟩
     | @tup b us ys h2 r2=>
       cases (show u2=Value.ref _ from q2);obtain⟨its2,rv2,p2,_⟩:=ay.tupH I h2;have g1:W.flats ws=true:=f1;have g2:W.flats us=true:=f2;have hd':W.deps ws<n:=by simp only[W.dep] at hd;(clear hu hu0 hui;lia)
       have e1:its.length=ws.length:=by rw[←rv.length,r.length]
       have e2:its2.length=us.length:=by rw[←rv2.length,r2.length]
       have he:∀j (h1:j<its.toArray.size) (h2:j<its2.toArray.size),SeqAt.EqAt A.in1 s its.toArray[j] its2.toArray[j] (iF ws us j):=λj j1 j2=>by
        rw[size_toArray] at j1 j2;have ea:ws[j]?=some ws[j]:=List.getElem?_eq_getElem (by (clear hu hu0 hui hd hd' e2 j2;lia));have eb:us[j]?=some us[j]:=List.getElem?_eq_getElem (by lia);obtain⟨va,ea1,ra⟩:=r.get ea;obtain⟨vb,eb1,rb⟩:=r2.get eb;obtain⟨ua,ea2,qa⟩:=rv.get ea1;obtain⟨ub,eb2,qb⟩:=rv2.get eb1;have za:its.toArray[j]=ua:=by
         have:=(List.getElem?_eq_some_iff.mp ea2).2;simpa using this
        have zb:its2.toArray[j]=ub:=by
         have:=(List.getElem?_eq_some_iff.mp eb2).2;simpa using this
        rw[za,zb];have:=(ih A.in1 (w1:=ws[j]) (w2:=us[j]) (Nat.lt_of_le_of_lt (W.deps_get ea) hd') (W.flats_get g1 ea) (W.flats_get g2 eb) hui ra rb qa qb).1;unfold iF;rw[ea,eb];exact this
       have er:=eN ws us;have c1:=SeqAt.RcAt.tuples p p2 hu0 he;have c2:=SeqAt.RcNeAt.tuples p p2 hu0 he;rw[size_toArray,size_toArray,e1,e2,er] at c1 c2;have ee:(W.tup ws).eq (W.tup us)=W.eqs ws us:=rfl;rw[ee];refine⟨?_,c1,c2⟩
       by_cases hab:a=b
       ·subst hab;have z:=bI.inj f1 f2 (bI.tup h r) (bI.tup h2 r2);have t:W.eqs ws us=true:=by
         cases z;exact W.eqs_refl ws g1
        rw[t];exact SeqAt.EqAt.same _
       ·exact SeqAt.EqAt.of_refs hab c1
end
section
variable {X:Cx}
noncomputable def qj:W2:=λx y G q=>x.flat=true/\y.flat=true/\x.dep<=150/\q (.bl (x.eq y)) G
noncomputable def qk:W2:=λx y G q=>x.flat=true/\y.flat=true/\x.dep<=150/\q (.bl (!(x.eq y))) G
theorem wf (hr:aR k X.A):fF X (compareOp .Eq) qj:=by
 rintro π s σ H x y v u Q I rx ry ⟨wx,wy,G,q,r1,r2,g,⟨f1,f2,hd,h⟩,hQ⟩;exact(fi I 151 X.A (by lia) f1 f2 (by have:=hr.un;(clear hd;lia)) r1 r2 rx ry).2.1 X.prog X.w X.xe _ ⟨.bl _,H,I,rfl,hQ _ H _ G (aH.refl H) (.bl _) g h⟩
theorem wg (hr:aR k X.A):fF X (compareOp .NotEq) qk:=by
 rintro π s σ H x y v u Q I rx ry ⟨wx,wy,G,q,r1,r2,g,⟨f1,f2,hd,h⟩,hQ⟩;exact(fi I 151 X.A (by lia) f1 f2 (by have:=hr.un;(clear hd;lia)) r1 r2 rx ry).2.2 X.prog X.w X.xe _ ⟨.bl _,H,I,rfl,hQ _ H _ G (aH.refl H) (.bl _) g h⟩
noncomputable def uY:W2:=λx y G q=>match x,y with
 | .int i,.int j=>q (.int (i-j)) G
 | .bl a,.bl b=>q (.int (b2i a-b2i b)) G
 | _,_=>False
theorem uZ:fF X (binaryOp .Sub) uY:=by
 rintro π s σ H x y v u Q I rx ry ⟨wx,wy,G,q,r1,r2,g,h,hQ⟩;cases r1 with
 | int i=>
   cases r2 with
   | int j=>exact vK π s σ H _ _ v u Q I rx ry ⟨_,_,rfl,rfl,hQ _ H _ G (aH.refl H) (.int _) g h⟩
   | _=>exact False.elim h
 | bl a=>
   cases r2 with
   | bl b=>
     cases rx;cases ry;exact sub_bool ⟨.int _,H,I.tok _,⟨_,rfl⟩,hQ _ H _ G (aH.refl H) (.int _) g h⟩
   | _=>exact False.elim h
 | _=>exact False.elim h
noncomputable def ql:W->Bool
 | .non=>true
 | _=>false
noncomputable def yC (neg:Bool):W2:=λx y G q=>y=.non/\q (.bl (neg ^^ ql x)) G
theorem wj:fF X (compareOp .IsNot) (yC true):=by
 rintro π s σ H x y v u Q I rx ry ⟨wx,wy,G,q,r1,r2,g,⟨e,h⟩,hQ⟩;subst e;cases r2;refine sE π s σ H _ _ v u Q I rx ry ⟨rfl,?_⟩;have z:decide (x=V.non)=ql wx:=by cases r1<;> simp[ql]
 rw[z];exact hQ _ H _ G (aH.refl H) (.bl _) g (by simpa using h)
noncomputable abbrev WO:=ck->Gp->(Option Int->Gp->Prop)->Prop
noncomputable def LO (K:PySem.W.Frag) (t:WO):TO:=λσ H Q=>∃τ G q,aX K H τ σ/\aD K H G/\t τ G q/\∀o H1 G1,aH H H1->aD K H1 G1->q o G1->Q o H1
noncomputable def QO (X:Cx) (e:Option Expr) (t:WO):Prop:=PO X e (LO X.K t)
theorem PO.imp {e:Option Expr} {t t':TO} (h:PO X e t) (f:∀σ H Q,t' σ H Q->t σ H Q):PO X e t':=λπ s σ H Q I q=>h π s σ H Q I (f _ _ _ q)
noncomputable def nF:WO:=λ_ G q=>q none G
noncomputable def u0 (t:WE):WO:=λτ G q=>t τ G λx G1=>match x with | .int i=>q (some i) G1 | _=>False
theorem ic:QO X none nF:=po_none.imp λσ H Q ⟨τ,G,q,hs,hg,ht,hQ⟩=>hQ none H G (aH.refl H) hg ht
theorem eO {te:WE} (h:QE X e te):QO X (some e) (u0 te):=
 (sK h).imp λσ H Q ⟨τ,G,q,hs,hg,ht,hQ⟩=>⟨τ,G,_,hs,hg,ht,λv H1 w G1 t1 r1 g1 q1=>by
   split at q1
   ·cases r1;exact⟨_,rfl,hQ _ H1 G1 t1 g1 q1⟩
   ·exact q1.elim⟩
noncomputable def dZ (xs:List W) (lo hi:Option Int):List W:=(xs.drop (HT.sIx xs.length 0 lo)).take (HT.sIx xs.length xs.length hi-HT.sIx xs.length 0 lo)
theorem aJ.cut {H:Hp} {ws:List W} {vs:List V} (r:aJ K H ws vs) (lo hi:Option Int):aJ K H (dZ ws lo hi) (kF vs lo hi):=by
 unfold dZ kF;rw[r.length];exact(r.drop _).take _
noncomputable abbrev W3:=W->Option Int->Option Int->Gp->WK->Prop
noncomputable def sT:W3:=λx lo hi G q=>match x with
 | .tup xs=>q (.tup (dZ xs lo hi)) G
 | .scr ns=>ns.length<=100000/\∀p,G p=none->q (.ref p) (av G p (.lst (dZ (ns.map W.int) lo hi)))
 | .ref a=>∃xs,G a=some (.lst xs)/\∀p,G p=none->q (.ref p) (av G p (.lst (dZ xs lo hi)))
 | _=>False
theorem gR (xs:List W) (lo hi:Option Int):(dZ xs lo hi).length<=xs.length:=by
 unfold dZ;rw[length_take,length_drop];exact le_trans (Nat.min_le_right _ _) (Nat.sub_le _ _)
theorem mf {xs:List W} {lo hi:Option Int} (h:HT.sIx xs.length 0 lo=0/\HT.sIx xs.length xs.length hi=xs.length):dZ xs lo hi=xs:=by
 unfold dZ;rw[h.1,h.2,List.drop_zero,Nat.sub_zero,List.take_length]
theorem oY {t sl:Addr} {vl vu:Value} {lo hi:Option Int} (ht:IsTup s.heap t items) (hs:s.heap.IsSliceOf sl vl vu .none) (pl:IsPart vl lo) (pu:IsPart vu hi)
 (hw:HT.sIx items.size 0 lo=0/\HT.sIx items.size items.size hi=items.size) (h:Q (.ref t) s):wpAny (model prog w) A (getItem (.ref t) (.ref sl)) Q E s:=by
 obtain⟨os,hos,hcs,hds⟩:=id hs;have hTs:s.TypeIs (.ref sl) "slice":=⟨os,hos,hcs⟩;unfold getItem
 try with_reducible refine wpAny_holding ?_
 first | refine wax (waz ?_) | skip
 refine wax (wpAny_sequenceKey ht.typeIs (by decide) ?_);refine wax (wpAny_callSpecial?_slot (name:=Str.ofString "__getitem__") ht.typeIs PyProof.Rows.slot_tuple_getitem
  (wpAny_call_entry PyProof.Rows.slot_tuple_getitem ht.typeIs entry_tuple_getitem ?_ (args_tuple_getitem _ _)))
 show wpAny _ _ (Builtin.Tuple.tupleItemsOf (.ref t) >>= _) _ _ s;refine wax (tupleItemsOf_ ht ?_);refine wax (wpAny_typeOf hTs ?_);rw[if_pos (by decide)];refine wax (HT.sliceApplied_gen hs pl pu ?_);have hyes:(((HT.sIx items.size 0 lo:Nat):Int)==0&&(1:Int)==1&&(HT.sIx items.size items.size hi-HT.sIx items.size 0 lo)==items.size)=true:=by
  rw[hw.1,hw.2];simp
 show wpAny _ _ (if (((HT.sIx items.size 0 lo:Nat):Int)==0&&(1:Int)==1&&(HT.sIx items.size items.size hi-HT.sIx items.size 0 lo)==items.size)=true then _ else _) _ _ s;rw[if_pos hyes];refine wax ?_;show wpAny _ _ (typeOf (.ref t) >>= _) _ _ s;refine wax (wpAny_typeOf ht.typeIs (waz ?_));rw[if_pos (by simp)];exact wax (wpAny_rule (waz ⟨_,rfl,waz h⟩))
noncomputable def BO (K:PySem.W.Frag) (r:W3):V->Option Int->Option Int->Hp->VK->Prop:=λx lo hi H Q=>∃w G q,bI K H w x/\aD K H G/\r w lo hi G q/\∀v H1 w G1,aH H H1->bI K H1 w v->aD K H1 G1->q w G1->Q v H1
theorem AS:yd X (BO X.K sT):=by
 rintro π s σ H x v vl vu lo hi sl Q I rx hs pl pu ⟨w,G,q,r,g,h,hQ⟩;unfold sT at h;split at h
 ·cases r with
  | @tup a ws xs hh rr=>
    by_cases hw:HT.sIx xs.length 0 lo=0/\HT.sIx xs.length xs.length hi=xs.length
    ·cases rx;obtain⟨its,rv,ht,hz⟩:=I.tuple (du.of hh);have hlen:its.toArray.size=xs.length:=by rw[size_toArray];exact rv.length.symm
     refine⟨"tuple",_,PyProof.Rows.slot_tuple_getitem.lookup,ht.typeIs,?_⟩;refine oY ht hs pl pu (by rw[hlen];exact hw) ⟨.ref a,H,I,rfl,?_⟩;rw[mf (by rw[rr.length];exact hw)] at h;exact hQ _ H _ G (aH.refl H) (.tup hh rr) g h
    ·exact vT π s σ H _ v vl vu lo hi sl Q I rx hs pl pu ⟨a,xs,rfl,du.of hh,hw,λp hp=>hQ _ _ _ G (aH.new hp _) (.tup aU ((rr.cut lo hi).mono (aH.new hp _))) (g.keep hp _) h⟩
 ·rename_i ns;cases r with
  | scr hh=>
    refine nA π s σ H _ v vl vu lo hi sl Q I rx hs pl pu ⟨_,_,rfl,hh.sq,λp hp=>hQ _ _ _ _ (aH.new hp _) (.ref p) (g.put (aH.new hp _) ((aJ.ints ns).cut lo hi) ?_) (h.2 p (g.fresh hp))⟩;exact le_trans (gR _ _ _) (by rw[length_map];exact h.1)
 ·obtain⟨xs,e,h⟩:=h;cases r;obtain⟨hl,zs,e1,rr⟩:=g _ _ e;exact nA π s σ H _ v vl vu lo hi sl Q I rx hs pl pu ⟨_,zs,rfl,cR.of e1,λp hp=>hQ _ _ _ _ (aH.new hp _) (.ref p) (g.put (aH.new hp _) (rr.cut lo hi) (le_trans (gR _ _ _) hl)) (h p (g.fresh hp))⟩
 ·exact h.elim
theorem ef:bootBuiltins "isinstance"=some (.builtin "isinstance"):=by decide+kernel
noncomputable def oZ (G:Gp):W->Option String
 | .non=>some "NoneType"
 | .bl _=>some "bool"
 | .int _=>some "int"
 | .str _=>some "str"
 | .tup _=>some "tuple"
 | .ref a=>match G a with | some (.lst _)=>some "list" | some .dct=>some "dict" | some (.dic _)=>some "dict" | _=>none
 | .scr _=>none
noncomputable def fj:String->String->Bool
 | "int","int"=>true
 | "bool","int"=>true
 | "bool","bool"=>true
 | "tuple","tuple"=>true
 | "list","list"=>true
 | "str","str"=>true
 | _,_=>false
noncomputable def mh (T:String):Prop:=T="int"∨T="bool"∨T="tuple"∨T="list"∨T="str"
theorem wk {t T:String} (ht:t="NoneType"∨t="bool"∨t="int"∨t="str"∨t="tuple"∨t="list"∨t="dict") (hT:mh T):kitOne K (.type t) (.type T)=some (fj t T):=by
 rcases ht with rfl | rfl | rfl | rfl | rfl | rfl | rfl<;> rcases hT with rfl | rfl | rfl | rfl | rfl<;> first | rfl | kernel_rfl | decide+kernel
noncomputable def yD (T:String) (te:WE):WE:=λτ G q=>te τ G λx G1=>match oZ G1 x with | some t=>q (.bl (fj t T)) G1 | none=>False
theorem kO {H:Hp} {G:Gp} {w:W} {v:V} {t:String} (g:aD K H G) (r:bI K H w v) (e:oZ G w=some t):fY K H v (.type t)/\(t="NoneType"∨t="bool"∨t="int"∨t="str"∨t="tuple"∨t="list"∨t="dict"):=by
 unfold oZ at e;cases r with
 | non=>cases e;exact⟨.non,by simp⟩
 | bl b=>cases e;exact⟨.bl b,by simp⟩
 | int i=>cases e;exact⟨.int i,by simp⟩
 | str x=>cases e;exact⟨.str x,by simp⟩
 | tup h _=>cases e;exact⟨.tup h,by simp⟩
 | scr h=>cases e
 | ref a=>
   simp only at e;split at e
   ·rename_i ws e1;cases e;obtain⟨_,xs,e2,_⟩:=g a _ e1;exact⟨.lst e2,by simp⟩
   ·rename_i e1;cases e;exact⟨.dK (g a _ e1),by simp⟩
   ·rename_i kvs e1;cases e;obtain⟨_,kvs',e2,_⟩:=g a _ e1;exact⟨.dK e2,by simp⟩
   ·cases e
theorem yE {T:String} (hT:mh T) {σ:St} {H:Hp} {v:V} {w:W} {G:Gp} {q:WK} {Q:VK} (I:ay X π σ H s) (ru:aS v u) (r:bI X.K H w v) (g:aD X.K H G)
 (h:match oZ G w with | some t=>q (.bl (fj t T)) G | none=>False) (hQ:∀v H1 w G1,aH H H1->bI X.K H1 w v->aD X.K H1 G1->q w G1->Q v H1):
 wpAny (model X.prog X.w) X.A (call (.builtin "isinstance") [u,.type T]) (EP X π σ Q) X.xe s:=by
 split at h
 ·rename_i t e;obtain⟨ty,hk⟩:=kO g r e;exact jj I ru ty (wk hk hT) λtk=>⟨.bl _,H,I.tok tk,rfl,hQ _ H _ G (aH.refl H) (.bl _) g h⟩
 ·exact h.elim
theorem jS {T:String} {te:WE} {p p2 pos:Pos} (hT:mh T) (hv:bootBuiltins x=some (.type T)) (hm:X.mg x=none) (hgx:Gl X x) (hm1:X.mg "isinstance"=none) (hg1:Gl X "isinstance") (he:QE X e te) (hn:x≠"__name__":=by decide) (hd:(x==("__debug__":Str))=false:=by decide)
 (hs1:starEach [e,.Name x p2] X.env=(false,eval e X.env)::starEach [.Name x p2] X.env:=by rfl) (hs2:starEach [.Name x p2] X.env=(false,eval (.Name x p2) X.env)::starEach [] X.env:=by rfl)
 (hpl:(backTo pos (starEach [.Name x p2] X.env)).any (·.1)=false:=by rfl):QE X (.Call (.Name "isinstance" p) [e,.Name x p2] [] pos) (yD T te):=by
 have hb:PE X (.Name x p2) (tC (.ty T)):=jJ hgx hm hv rfl hn hd;have ha:PA X [e,.Name x p2] (fB (lX X.K te) (fB (tC (.ty T)) pR)):=bu he (bu hb pa_nil hs2) hs1;have hc:cT X (.builtin "isinstance") (λvs H Q=>∃(v:V) (w:W) (G:Gp) (q:WK),vs=[v,.ty T]/\bI X.K H w v/\aD X.K H G/\(match oZ G w with | some t=>q (.bl (fj t T)) G | none=>False)/\∀v H1 w G1,aH H H1->bI X.K H1 w v->aD X.K H1 G1->q w G1->Q v H1):=by
  rintro π s σ H xs us Q I r ⟨v,w,G,q,e1,r1,g1,h,hQ⟩;subst e1;obtain⟨u,u2,rfl,ru,ru2⟩:=nq r;cases (show u2=Value.type T from ru2);exact yE hT I ru r1 g1 h hQ
 exact(dg hc hg1 hm1 ef ha (by decide) (by decide) hs1 hpl).imp λσ H Q z0=>z0.el λτ G q hs hg ht hQ=>⟨τ,G,_,hs,hg,ht,λv H1 w G1 t1 r1 g1 q1=>
  ⟨v,w,G1,q,rfl,r1,g1,q1,λv2 H2 w2 G2 t2=>hQ v2 H2 w2 G2 (t1.trans t2)⟩⟩
theorem aJ.ints_of {K:PySem.W.Frag} {H:Hp}:∀{ns:List Int} {vs:List V},aJ K H (ns.map W.int) vs->vs=ns.map V.int
 | [],_,r=>by cases r;rfl
 | n::ns,_,r=>by
   cases r with
   | cons r rs=>
     cases r;rw[aJ.ints_of rs]
     rfl
noncomputable def yF (to te:WE):WE:=λτ G q=>to τ G λx G1=>match x with
 | .ref a=>(∃xs,G1 a=some (.lst xs))/\te τ G1 λy G2=>∃ys,G2 a=some (.lst ys)/\ys.length+1<=100000/\q .non (av G2 a (.lst (ys++[y])))
 | _=>False
theorem fm {o e:Expr} {to te:WE} {apos cpos:Pos} (ho:QE X o to) (he:QE X e te)
 (hbase:attributeBase o "append" X.env (eval o X.env)=eval o X.env:=by rfl)
 (hfew:((backTo cpos (starEach [e] X.env)).all (λx=>!x.1)&&(backToKw cpos (keywordEach [] X.env)).all (λx=>x.1.isSome)
   &&decide (([e]:List Expr).length+([]:List Keyword).length+(if ([]:List Keyword).isEmpty then 0 else 1)<30))=true:=by rfl)
 (hline:(apos.endLine==cpos.line)=true:=by rfl) (hs:starEach [e] X.env=(false,eval e X.env)::starEach [] X.env:=by rfl):
 QE X (.Call (.Attribute o "append" apos) [e] [] cpos) (yF to te):=
 (pX PySem.F.plainAttrs_list PySem.F.slot_list_append PySem.F.type_list_append oW ho (bu he pa_nil hs) hbase hfew hline hs rfl).imp λσ H Q z0=>z0.el λτ G q hs hg ht hQ=>
   ⟨τ,G,_,hs,hg,ht,λv H1 w G1 t1 r1 g1 q1=>by
     split at q1
     ·rename_i a;cases r1;obtain⟨⟨xs,e1⟩,q1⟩:=q1;obtain⟨_,xs',h1,_⟩:=g1 a _ e1;refine⟨.inl ⟨rfl,xs',cR.of h1⟩,τ,G1,_,hs.mono t1,g1,q1,λv2 H2 w2 G2 t2 r2 g2 q2=>?_⟩;obtain⟨ys,e2,hl,q2⟩:=q2;obtain⟨_,ys',h2,rr⟩:=g2 a _ e2;refine⟨a,ys',v2,rfl,rfl,h2,?_,?_⟩
      ·rw[←rr.length];exact bF hl
      ·exact hQ _ _ _ _ ((t1.trans t2).trans (aH.lst h2 _)) .non (g2.put (aH.lst h2 _) (rr.append (.cons r2 .nil)) (by rw[length_append];exact hl)) q2
     ·exact q1.elim⟩
end
structure pG (K:PySem.W.Frag) (J:It) (ws:List W) (C:Gp->Prop) (H0:Hp):Prop where
 stop:∀i H G,aH H0 H->aD K H G->C G->ws.length<=i->J.stop i H
 go:∀i w H G,aH H0 H->aD K H G->C G->ws[i]?=some w->J.go i H/\∀x H',J.yld i H x H'->aH H H'/\bI K H' w x/\aD K H' G
noncomputable abbrev WI:=ck->Gp->(List W->(Gp->Prop)->Gp->Prop)->Prop
noncomputable def LI (K:PySem.W.Frag) (t:WI):TI:=λσ H R=>∃τ G r,aX K H τ σ/\aD K H G/\t τ G r/\∀J H1 ws C G1,aH H H1->aD K H1 G1->pG K J ws C H1->r ws C G1->R J H1
noncomputable def QI (X:Cx) (tg iter:Expr) (t:WI):Prop:=PI X tg iter (LI X.K t)
section
variable {X:Cx} {tg:Expr}
theorem PI.imp {t t':TI} (h:PI X tg e t) (f:∀σ H R,t' σ H R->t σ H R):PI X tg e t':=λπ s σ H R I q=>h π s σ H R I (f _ _ _ q)
theorem sU {ws:List W} {xs:List V} {H:Hp} (h:H a=some (.tup xs)) (r:aJ K H ws xs):pG K (Ax K a) ws (λ_=>True) H where
 stop:=λi H1 G t g _ hl=>⟨xs,du.of (t.tup _ _ h),by rw[←r.length];exact hl⟩
 go:=λi w H1 G t g _ e=>by
  obtain⟨v,e1,rv⟩:=r.get e;refine⟨⟨xs,v,du.of (t.tup _ _ h),e1⟩,λx H' z9=>?_⟩;obtain⟨eH,hy⟩:=z9;subst eH;have e2:=hy xs (du.of (t.tup _ _ h));rw[e1] at e2;cases e2;exact⟨aH.refl _,rv.mono t,g⟩
theorem sV {ws:List W} {H:Hp}:pG K (Ac K a) ws (λG=>G a=some (.lst ws)) H where
 stop:=λi H1 G t g e hl=>by
  obtain⟨_,xs,h1,r⟩:=g a _ e;exact⟨xs,cR.of h1,by rw[←r.length];exact hl⟩
 go:=λi w H1 G t g eG e=>by
  obtain⟨_,xs,h1,r⟩:=g a _ eG;obtain⟨v,e1,rv⟩:=r.get e;refine⟨⟨xs,v,cR.of h1,e1⟩,λx H' z9=>?_⟩;obtain⟨eH,hy⟩:=z9;subst eH;have e2:=hy xs (cR.of h1);rw[e1] at e2;cases e2;exact⟨aH.refl _,rv,g⟩
theorem sW {ns:List Int} {H:Hp} (h:uQ K H a ns):pG K (Ac K a) (ns.map W.int) (λ_=>True) H where
 stop:=λi H1 G t g _ hl=>⟨_,(h.mono t).sq,by simpa using hl⟩
 go:=λi w H1 G t g _ e=>by
  have r:aJ K H1 (ns.map W.int) (ns.map V.int):=aJ.ints ns;obtain⟨v,e1,rv⟩:=r.get e;refine⟨⟨_,v,(h.mono t).sq,e1⟩,λx H' z9=>?_⟩;obtain⟨eH,hy⟩:=z9;subst eH;have e2:=hy _ (h.mono t).sq;rw[e1] at e2;cases e2;exact⟨aH.refl _,rv,g⟩
noncomputable def pH (n:Nat):List W:=(List.range n).map λ(i:Nat)=>W.int (i:Int)
theorem sX {n:Nat} {H:Hp}:pG K (xy 0 n) (pH n) (λ_=>True) H where
 stop:=λi H1 G t g _ hl=>by have h:n<=i:=(by simpa[pH] using hl);exact h
 go:=λi w H1 G t g _ e=>by
  unfold pH at e;rw[List.getElem?_map] at e;have hi:i<n:=by
   cases h:(List.range n)[i]? with
   | none=>rw[h] at e;cases e
   | some k=>
     have:=(List.getElem?_eq_some_iff.mp h).1;simpa using this
  rw[List.getElem?_range hi] at e;cases e;refine⟨hi,λx H' z9=>?_⟩;obtain⟨eH,hy⟩:=z9;subst eH;subst hy;exact⟨aH.refl _,by simpa using bI.int _,g⟩
noncomputable def yG (ta:WA):WI:=λτ G r=>ta τ G λws G1=>match ws with
 | [.int j]=> -(2^62)<=j/\j<2^62/\r (pH j.toNat) (λ_=>True) G1
 | _=>False
theorem fH {a:Expr} {ta:WA} {p pos:Pos} (hg:Gl X "range") (hm:X.mg "range"=none) (ha:QA X [a] ta) (hs:starEach [a] X.env=[(false,eval a X.env)]:=by rfl):QI X tg (.Call (.Name "range" p) [a] [] pos) (yG ta):=
 (oM hg hm ha hs).imp λσ H R ⟨τ,G,r,hs,hg,ht,hR⟩=>⟨τ,G,_,hs,hg,ht,λvs H1 ws G1 t1 r1 g1 q1=>by
   split at q1
   ·obtain⟨v,rfl,r2⟩:=r1.one;cases r2 with
    | int j=>exact⟨_,rfl,q1.1,q1.2.1,hR _ H1 _ _ G1 t1 g1 sX q1.2.2⟩
   ·exact q1.elim⟩
noncomputable def gS (C:Gp->Prop) (g:WG) (tb:WS) (d:cx):List W->ck->Gp->Prop
 | [],τ,G=>C G/\d.nx τ G
 | w::ws,τ,G=>C G/\g w τ G λτ2 G2=>tb { d with nx:=gS C g tb d ws,ct:=gS C g tb d ws,bk:=d.nx } τ2 G2
noncomputable def wm (wi:WI) (g:WG) (tb:WS):WS:=λd τ G=>wi τ G λws C G1=>gS C g tb d ws τ G1
theorem bO {iter:Expr} {wi:WI} {g:WG} {tb:WS} (hp:PassesOwn (model X.prog X.w) X.A X.env X.xe) (hc:X.calm=true) (hi:QI X tg iter wi) (hg:QG X tg g) (hb:kK X body tb)
 (hs:∀x,foldedSetIterable iter X.env x=pure x:=by intro _;rfl):QS X (.For tg iter body [] pos) (wm wi g tb):=
 (vG hp hc hi hg hb hs).imp λD σ H z0=>z0.el λτ G d hs hg ht l=>⟨τ,G,_,hs,hg,ht,λJ H1 ws C G1 t1 g1 it q1=>by
   refine⟨λi m σ2 H2=>∃τ2 G2,m=ws.length-i/\i<=ws.length/\aH H1 H2/\aX X.K H2 τ2 σ2/\aD X.K H2 G2/\gS C g tb d (ws.drop i) τ2 G2,⟨ws.length,τ,G1,by simp,zero_le _,aH.refl _,hs.mono t1,g1,by simpa using q1⟩,?_⟩;rintro i m σ2 H2 ⟨τ2,G2,rfl,hi,t2,s2,g2,q2⟩
   by_cases hlt:i<ws.length
   ·have ed:ws.drop i=ws[i]::ws.drop (i+1):=drop_eq_getElem_cons hlt;rw[ed] at q2;obtain⟨c2,q2⟩:=q2;obtain⟨go,yl⟩:=it.go i ws[i] H2 G2 t2 g2 c2 (List.getElem?_eq_getElem hlt);refine .inr ⟨go,λσ3 H3=>∃τ3 G3,aH H1 H3/\aX X.K H3 τ3 σ3/\aD X.K H3 G3/\gS C g tb d (ws.drop (i+1)) τ3 G3,?_,λx H' hy=>?_⟩
    ·rintro σ3 H3 ⟨τ3,G3,t3,s3,g3,q3⟩;exact⟨ws.length- (i+1),by (clear hi ed;lia),τ3,G3,rfl,hlt,t3,s3,g3,q3⟩
    ·obtain⟨tx,rx,gx⟩:=yl x H' hy;refine⟨ws[i],τ2,G2,_,rx,s2.mono tx,gx,q2,λσ3 H3 τ3 G3 t3 s3 g3 q3=>?_⟩;have tt:=(t2.trans tx).trans t3;have t0:=t1.trans tt;exact⟨τ3,G3,_,s3,g3,q3,⟨λσ4 H4 τ4 G4 t4 s4 g4 q4=>⟨τ4,G4,tt.trans t4,s4,g4,q4⟩,λv H4 w G4 t4=>l.rt v H4 w G4 (t0.trans t4),λσ4 H4 τ4 G4 t4=>l.nx σ4 H4 τ4 G4 (t0.trans t4),λσ4 H4 τ4 G4 t4 s4 g4 q4=>⟨τ4,G4,tt.trans t4,s4,g4,q4⟩⟩⟩
   ·have e:i=ws.length:=by lia
    subst e;rw[List.drop_length] at q2;exact .inl ⟨it.stop _ H2 G2 t2 g2 q2.1 (le_refl _),l.nx σ2 H2 τ2 G2 (t1.trans t2) s2 g2 q2.2⟩⟩
end
section
variable {prog:Program} {w:World} {A:Around} {E:Value->Shared->Prop} {s:Shared}
structure ZA (z p r i j a b:Addr):Prop where
 zp:p≠z
 zr:r≠z
 zi:i≠z
 zj:j≠z
 pr:p≠r
 pi:p≠i
 pj:p≠j
 ri:r≠i
 rj:r≠j
 ij:i≠j
 az:a≠z
 ar:a≠r
 ai:a≠i
 aj:a≠j
 bz:b≠z
 br:b≠r
 bi:b≠i
 bj:b≠j
structure ZT (z p r i j a b:Addr) (n:Nat) (f:Value) (h:Heap):Prop where
 hz:IsZip h z p r f
 hp:IsPair h p (.ref i) (.ref j)
 hr:∃x y,IsPair h r x y
 hi:h.IsTupleIter i a n
 hj:h.IsTupleIter j b n
end
section
variable {prog:Program} {w:World} {A:Around} {R:Result->Shared->Prop} {s:Shared}
noncomputable abbrev nox:Value->Shared->Prop:=λ_ _=>False
noncomputable abbrev u3 (ifs:List Expr) (env:Env):Sem Bool:=forIn ifs true λc r=>if r=true then do let ok ←isTrue c env (eval c env);pure (ForInStep.yield ok) else pure (ForInStep.yield r)
theorem o0 {elt tg iter:Expr} {ifs:List Expr} {it acc:Value} {env:Env} (I:Nat->Shared->Prop)
 (turn:∀n s,I n s->wpAny (model prog w) A (pyNext it) (λr s1=>match r with
   | none=>R (.ok .next) s1
   | some v=>wpAny (model prog w) A (letOwnedTupleGo tg it v) (λ_ s2=>wpAny (model prog w) A (assign tg env v) (λ_ s3=>wpAny (model prog w) A (u3 ifs env) (λok s4=>
      if ok=true then wpAny (model prog w) A (eval elt env) (λx s5=>wpAny (model prog w) A (call (.builtin "list.append") [acc,x]) (λ_ s6=>∃m,m<n/\I m s6) nox s5) nox s4
      else ∃m,m<n/\I m s4) nox s3) nox s2) nox s1) nox s) (n:Nat) (h:I n s):
 codeAny (model prog w) A (.compLoop (.ListComp elt [⟨tg,iter,ifs,0⟩] scope pos) 0 it acc env) R s:=by
 refine codeAny_loop rfl I (λn s hI=>?_) n h;show wpAny _ A ((compTurn (.ListComp elt [⟨tg,iter,ifs,0⟩] scope pos) 0 it acc env).onRaise (λx=>do noteFrame x env;theTreesLotGoes x)) _ _ s;refine wpAny_noted ?_;rw[compTurn_list];refine wax (wpAny_standAt (wax (wpAny_mono (turn n s hI) (λr s1 h1=>?_) λ_ _ z=>z.elim)));cases r with
 | none=>exact waz h1
 | some v=>
   refine wax (wpAny_mono h1 (λ_ s2 h2=>wax (wpAny_mono h2 (λ_ s3 h3=>wax (wpAny_mono h3 (λok s4 h4=>?_) λ_ _ z=>z.elim)) λ_ _ z=>z.elim)) λ_ _ z=>z.elim);cases ok with
   | false=>exact waz ⟨rfl,h4⟩
   | true=>
     refine wax (wax (wpAny_mono h4 (λx s5 h5=>?_) λ_ _ z=>z.elim));exact wax (wpAny_mono h5 (λ_ s6 h6=>waz (waz ⟨rfl,h6⟩)) λ_ _ z=>z.elim)
end
noncomputable def fI (env:Env):List (Str×NameKind)->List (Str×Addr)->List (Str×Addr)
 | [],cs=>cs
 | (n,k)::r,cs=>if k== .free then fI env r ((n,(env.cells.lookup n).getD 0)::cs) else fI env r cs
theorem mj {env:Env} (h:∀y∈scope.names,y.2=.free->∃c,env.cells.lookup y.1=some c):closureFor scope env=pure (fI env scope.names []):=by
 unfold closureFor;have key:∀(l:List (Str×NameKind)) (cs:List (Str×Addr)),(∀y∈l,y.2=.free->∃c,env.cells.lookup y.1=some c)->
  (forIn l cs λ(x:Str×NameKind) (r:List (Str×Addr))=>(if (x.2==NameKind.free)=true then (do let y ←cellOf env x.1;pure (ForInStep.yield ((x.1,y)::r))) else pure (ForInStep.yield r):Sem (ForInStep (List (Str×Addr)))))=(pure (fI env l cs):Sem (List (Str×Addr))):=by
  intro l
  induction l with
  | nil=>intro cs _;rfl
  | cons y r ih=>
    intro cs hl;obtain⟨n,k⟩:=y;rw[List.forIn_cons];unfold fI
    by_cases hk:(k==NameKind.free)=true
    ·have hk':k=.free:=by simpa using hk
     obtain⟨c,hc⟩:=hl (n,k) mem_cons_self hk';simp only[hk,if_true];have e:cellOf env n=pure c:=by unfold cellOf;rw[hc]
     rw[e,hc];simp only[pure_bind,Option.getD_some];exact ih _ λy hy=>hl y (mem_cons_of_mem _ hy)
    ·simp only[hk,if_false,Bool.false_eq_true];simp only[pure_bind];exact ih _ λy hy=>hl y (mem_cons_of_mem _ hy)
 have:=key scope.names [] h;simp only[bind_pure];exact this
theorem cW {env:Env}:∀{l:List (Str×NameKind)} {cs:List (Str×Addr)},(∀y∈l,y.2=.free->∃c,env.cells.lookup y.1=some c)->(∀x c,cs.lookup x=some c->env.cells.lookup x=some c)->∀x c,(fI env l cs).lookup x=some c->env.cells.lookup x=some c
 | [],_,_,hc,x,c,e=>hc x c e
 | (n,k)::r,cs,hl,hc,x,c,e=>by
   unfold fI at e;have hr:∀y∈r,y.2=.free->∃c,env.cells.lookup y.1=some c:=λy hy=>hl y (mem_cons_of_mem _ hy);split at e
   ·rename_i hk;obtain⟨c0,hc0⟩:=hl (n,k) mem_cons_self (by simpa using hk);refine cW hr (λx' c' e'=>?_) x c e;rw[lookup_cons] at e';cases hx:x'==n with
    | true=>
      rw[hx] at e';have:x'=n:=by simpa using hx
      subst this;rw[hc0] at e';simp at e';subst e';exact hc0
    | false=>rw[hx] at e';exact hc x' c' e'
   ·exact cW hr hc x c e
theorem eh {env:Env}:∀{l:List (Str×NameKind)} {cs:List (Str×Addr)} {x:Str},((x,NameKind.free)∈l∨∃c,cs.lookup x=some c)->∃c,(fI env l cs).lookup x=some c
 | [],_,_,h=>by
   rcases h with h | h
   ·simp at h
   ·exact h
 | (n,k)::r,cs,x,h=>by
   unfold fI;have keep:(∃c,cs.lookup x=some c)->∃c,((n,(env.cells.lookup n).getD 0)::cs).lookup x=some c:=λ⟨c,e⟩=>by
    rw[lookup_cons];cases hx:x==n with
    | true=>exact⟨_,rfl⟩
    | false=>exact⟨c,e⟩
   split
   ·rename_i hk;refine eh ?_;rcases h with h | h
    ·rcases mem_cons.mp h with h | h
     ·cases h;exact .inr ⟨(env.cells.lookup n).getD 0,by rw[lookup_cons];simp⟩
     ·exact .inl h
    ·exact .inr (keep h)
   ·rename_i hk;refine eh ?_;rcases h with h | h
    ·rcases mem_cons.mp h with h | h
     ·cases h;exact absurd rfl hk
     ·exact .inl h
    ·exact .inr h
theorem cN {env:Env}:∀{l:List (Str×NameKind)} {x:Str} {k:NameKind},(l.map λ(n,k)=>if (k==NameKind.free&&env.scope.kind== .function&&env.kindOf n==some .cell) then (n,NameKind.cell) else (n,k)).lookup x=some k->(k=.cell∨k=.free)->(∀y∈l,y.2≠ .cell)->(x,NameKind.free)∈l
 | [],_,_,e,_,_=>by simp at e
 | (n,k0)::r,x,k,e,hk,hc=>by
   rw[map_cons,lookup_cons] at e;have hr:∀y∈r,y.2≠ .cell:=λy hy=>hc y (mem_cons_of_mem _ hy);have hn:(if (k0==NameKind.free&&env.scope.kind== .function&&env.kindOf n==some .cell)=true then (n,NameKind.cell) else (n,k0)).1=n:=by split<;> rfl
   rw[hn] at e;cases hx:x==n with
   | false=>rw[hx] at e;exact mem_cons_of_mem _ (cN e hk hr)
   | true=>
     rw[hx] at e;have hxn:x=n:=by simpa using hx
     subst hxn;have e':(if (k0==NameKind.free&&env.scope.kind== .function&&env.kindOf x==some .cell)=true then (x,NameKind.cell) else (x,k0)).2=k:=Option.some.inj e
     by_cases hf:k0=.free
     ·subst hf;exact mem_cons_self
     ·rw[if_neg (by simp[hf])] at e';have e'':k0=k:=e';subst e'';rcases hk with h | h
      ·exact absurd h (hc _ mem_cons_self)
      ·exact absurd h hf
theorem eY {env:Env}:∀{l:List (Str×NameKind)} {x:Str},(l.map λ(n,k)=>if (k==NameKind.free&&env.scope.kind== .function&&env.kindOf n==some .cell) then (n,NameKind.cell) else (n,k)).lookup x=some .local->l.lookup x=some .local
 | [],_,e=>by simp at e
 | (n,k0)::r,x,e=>by
   rw[map_cons,lookup_cons] at e;rw[lookup_cons];have hn:(if (k0==NameKind.free&&env.scope.kind== .function&&env.kindOf n==some .cell)=true then (n,NameKind.cell) else (n,k0)).1=n:=by split<;> rfl
   rw[hn] at e;cases hx:x==n with
   | false=>rw[hx] at e;exact eY e
   | true=>
     rw[hx] at e;have e':(if (k0==NameKind.free&&env.scope.kind== .function&&env.kindOf n==some .cell)=true then (n,NameKind.cell) else (n,k0)).2=NameKind.local:=Option.some.inj e;split at e'
     ·cases e'
     ·exact congrArg some e'
noncomputable def jb (X:Cx) (N:List Str) (scope:Scope) (C:Addr) (fp:List Addr) (s₀:Shared) (H₀:Hp):Cx where
 prog:=X.prog
 w:=X.w
 K:=X.K
 mg:=X.mg
 base:=X.base
 A:=X.A
 N:=N
 s₀:=s₀
 H₀:=H₀
 env:=compEnvC scope (fI X.env scope.names []) C X.env
 outer:=X.stack
 stack:=X.stack
 ex:=fp
 fn:=λ_=>false
 calm:=X.calm
 pn:=[]
 xe:=nox
structure gm (X:Cx) (scope:Scope) (N:List Str) (fv:List (Option Nat)):Prop where
 kind:scope.kind=.function
 nocell:∀y∈scope.names,y.2≠ .cell
 names:∀x∈scope.names,x.2=.local->scope.names.lookup x.1=some .local
 free:∀y∈scope.names,y.2=.free->X.env.scope.names.lookup y.1=some .cell
 fvs:∀(i j:Nat) (x:Str),N[i]?=some x->fv[i]?=some (some j)->X.N[j]?=some x/\X.env.scope.names.lookup x=some .cell/\(x,NameKind.free)∈scope.names
 len:fv.length=N.length
 fvl:∀{x:Str},(x,NameKind.free)∈scope.names->scope.names.lookup x≠some .local
noncomputable def fJ {α:Type} (fv:List (Option Nat)) (σ:List (Option α)):List (Option α):=fv.map λo=>o.bind λj=>(σ[j]?).join
theorem kP {α:Type} {fv:List (Option Nat)} {σ:List (Option α)} {v:α} (h:(fJ fv σ)[i]?=some (some v)):∃j,fv[i]?=some (some j)/\σ[j]?=some (some v):=by
 unfold fJ at h;rw[List.getElem?_map] at h;cases e:fv[i]? with
 | none=>rw[e] at h;cases h
 | some o=>
   rw[e] at h;cases o with
   | none=>cases h
   | some j=>
     have h':(σ[j]?).join=some v:=Option.some.inj h;refine⟨j,rfl,?_⟩;cases e2:σ[j]? with
     | none=>rw[e2] at h';cases h'
     | some o=>rw[e2] at h';exact congrArg some h'
theorem qm {H:Hp} {τ:ck} {σ:St} {fv:List (Option Nat)} (h:aX K H τ σ):aX K H (fJ fv τ) (fJ fv σ):=by
 refine⟨by simp[fJ],λi w e=>?_⟩;obtain⟨j,ej,ew⟩:=kP e;obtain⟨v,ev,r⟩:=h.2 j w ew;refine⟨v,?_,r⟩;unfold fJ;rw[List.getElem?_map,ej];show some ((σ[j]?).join)=_;rw[ev]
 rfl
section
variable {X:Cx} {π:List (Addr×Obj)} {σ:St} {H H2:Hp} {s s2:Shared} {scope:Scope} {N:List Str} {fv:List (Option Nat)} {fp:List Addr} {C D:Addr}
theorem gm.cells (S:gm X scope N fv) (I:ay X π σ H s):∀y∈scope.names,y.2=.free->∃c,X.env.cells.lookup y.1=some c:=λy hy hk=>I.ok.has y.1 (.inl (S.free y hy hk))
theorem o3 {h4:Heap} {t4:Nat} {m:Str->Option Value} (I:ay X π σ H2 s2) (S:gm X scope N fv) (hf:∀b∈fp,i6 X π H2 b) (hfo:∀b∈fp,b<s2.heap.objs.size) (keep:∀b o,s2.heap.get? b=some o->h4.get? b=some o)
 (hC:s2.heap.objs.size<=C) (ns:h4.Ns C m):ay (jb X N scope C fp s2 H2) [] (fJ fv σ) H2 { s2 with heap:=h4,toks:=t4 }:=by
 have look:∀x c,(fI X.env scope.names []).lookup x=some c->X.env.cells.lookup x=some c:=cW (S.cells I) (λx c e=>by simp at e);refine⟨⟨I.ok.mod,S.kind,I.ok.glob,I.ok.blt,hC,λx y c e1 e2=>I.ok.inj x y c (look x c e1) (look y c e2),λx hx=>?_,λx c h=>absurd (show false=true from h) Bool.false_ne_true,I.ok.hd,I.ok.frames,.inl rfl,λb hb=>?_,I.bs,le_trans I.ok.bsz I.sz,λb o e hb=>?_,λb hb hx=>?_,I.stack,I.stkFree⟩,
  rfl,I.bare,Un.kept keep,⟨m,ns,λi x v e1 e2 e3=>?_⟩,λx c e=>?_,I.hok.fresh hC,λx c e=>I.freeC x c (look x c e),λp hp=>absurd (show p∈([]:List (Addr×Obj)) from hp) (by simp),I.hok.kept keep,?_⟩
 ·rcases hx with hx | hx
  ·exact eh (.inl (cN hx (.inl rfl) S.nocell))
  ·exact eh (.inl (cN hx (.inr rfl) S.nocell))
 ·exact⟨ne_of_lt (lt_of_lt_of_le (hfo b hb) hC),λx c e=>(hf b hb).2.2.2.2.1 x c (look x c e)⟩
 ·rcases(hf b hb).2.2.2.1 with z | z
  ·exact I.ok.noex b o e z
  ·exact absurd (lt_of_lt_of_le (Heap.lt_size e) (le_trans I.ok.bsz z)) (lt_irrefl _)
 ·rcases mem_cons.mp (I.stkSub b hx) with z | z
  ·exact(hf b hb).2.1 z
  ·exact(hf b hb).2.2.1 z
 ·obtain⟨j,ej,ev⟩:=kP e2;obtain⟨h1,h2,h3⟩:=S.fvs i j x e1 ej;obtain⟨m0,_,hl⟩:=I.loc;obtain⟨u,r,l⟩:=hl j x v h1 ev (.inr (.inl h2));refine⟨u,r,.inr ?_⟩;rcases l with⟨k,_⟩ | ⟨_,c,ec,o,ho,hd⟩
  ·exact absurd (h2.symm.trans k) (by intro z;cases z)
  ·obtain⟨c',ec'⟩:=eh (env:=X.env) (l:=scope.names) (cs:=[]) (x:=x) (.inl h3);have e':=look x c' ec';rw[ec] at e';cases e';refine⟨?_,c,ec',o,keep _ _ ho,hd⟩;rcases e3 with e3 | e3 | e3
   ·exact absurd (eY e3) λz=>S.fvl h3 z
   ·exact .inl e3
   ·exact .inr e3
 ·obtain⟨v,o,ho,hd⟩:=I.cell x c (look x c e);exact⟨v,o,keep _ _ ho,hd⟩
 ·show(fJ fv σ).length=N.length;unfold fJ;rw[length_map,S.len]
end
noncomputable def cX (C:Gp->Prop) (g:WG) (tt:WT) (te:WE):List W->ck->Gp->List W->(List W->Gp->Prop)->Prop
 | [],_,G,acc,q=>C G/\q acc G
 | w::ws,τ,G,acc,q=>C G/\g w τ G λτ2 G2=>tt τ2 G2 λb G3=>if b=true then te τ2 G3 λv G4=>acc.length+1<=100000/\cX C g tt te ws τ2 G4 (acc++[v]) q else cX C g tt te ws τ2 G3 acc q
noncomputable def yH (X:Cx) (ifs:List Expr) (t:WT):Prop:=
 ∀(π:List (Addr×Obj)) (s:Shared) (σ:St) (H:Hp) (Q:Bool->Hp->Prop),ay X π σ H s->v9 X.K t σ H Q->wpAny (model X.prog X.w) X.A (u3 ifs X.env) (TP X π σ Q) X.xe s
noncomputable def qo:WT:=λ_ G q=>q true G
theorem sY {X:Cx}:yH X [] qo:=λπ s σ H Q I ⟨τ,G,q,hs,hg,ht,hQ⟩=>wpAny_tests_nil ⟨H,I,hQ true H G (aH.refl H) hg ht⟩
theorem nG {X:Cx} {c:Expr} {t:WT} (h:QT X c t):yH X [c] t:=λπ s σ H Q I hw=>wpAny_tests_one (h π s σ H Q I hw)
theorem aD.track {H:Hp} {G:Gp} {p:Addr} {xs:List V} {ws:List W} (h:aD K H G) (e:H p=some (.lst xs)) (r:aJ K H ws xs) (hl:ws.length<=100000):aD K H (av G p (.lst ws)):=λa g ea=>by
 by_cases hb:a=p
 ·subst hb;rw[af] at ea;cases ea;exact⟨hl,xs,e,r⟩
 ·rw[am hb] at ea;exact h a g ea
section
variable {X:Cx} {π:List (Addr×Obj)} {σ:St} {H2:Hp} {s2:Shared} {scope:Scope} {N:List Str} {fv:List (Option Nat)} {fp:List Addr} {tg elt iter:Expr} {ifs:List Expr} {pos:Pos} {J:It} {it:Addr} {tn:Nat->Heap->Prop}
 {g:WG} {tt:WT} {te:WE} {ws:List W} {Cd:Gp->Prop} {τ:ck} {G:Gp} {q:List W->Gp->Prop}
structure sZ (X:Cx) (π:List (Addr×Obj)) (σ:St) (H2:Hp) (s2:Shared) (G:Gp) (q:List W->Gp->Prop) (D C:Addr) (s':Shared):Prop where
 ex:∃(Hf:Hp) (Gf:Gp) (rs:List W),(∃m,s'.heap.Ns C m)/\ay X π σ Hf s'/\Hf C=none/\s2.heap.objs.size<=C/\aH H2 Hf/\aD X.K Hf (av Gf D (.lst rs))/\G D=none/\Gf D=none/\q rs Gf
structure yI (Y:Cx) (fp:List Addr) (tn:Nat->Heap->Prop) (ws:List W) (H2:Hp) (D:Addr) (R:List W->ck->Gp->List W->Prop) (n:Nat) (s:Shared) (i:Nat) (σ1:St) (H1:Hp) (τ1:ck) (G1:Gp) (acc:List W) (vs:List V) (its:List Value):Prop where
 hn:n=ws.length-i
 hi:i<=ws.length
 inv:ay Y [] σ1 H1 s
 st:tn i s.heap
 fr:∀b∈fp,H1 b=none
 hd:H1 D=none
 pl:s.heap.PlainList D its.toArray
 rv:aN vs its
 ra:aJ Y.K H1 acc vs
 tl:aH H2 H1
 rs:aX Y.K H1 τ1 σ1
 rg:aD Y.K H1 G1
 cw:R (ws.drop i) τ1 G1 acc
 hl:acc.length<=100000
theorem mo (I:ay X π σ H2 s2) (S:gm X scope N fv) (hc:X.calm=true) (T:jK X.prog X.w X.K tg J fp it tn) (st:tn 0 s2.heap) (hf:∀b∈fp,i6 X π H2 b)
 (hg:∀C,QG (jb X N scope C fp s2 H2) tg g) (htt:∀C,yH (jb X N scope C fp s2 H2) ifs tt) (hte:∀C,QE (jb X N scope C fp s2 H2) elt te)
 (itn:pG X.K J ws Cd H2) (hs:aX X.K H2 τ σ) (gr:aD X.K H2 G) (hw:cX Cd g tt te ws (fJ fv τ) G [] q) {RR:Value->Addr->Result->Shared->Prop} {E:Value->Shared->Prop}
 (hRR:∀D C s',sZ X π σ H2 s2 G q D C s'->RR (.ref D) C (.ok .next) s'):
 wpAny (model X.prog X.w) X.A (newList []) (λacc s3=>wpAny (model X.prog X.w) X.A (newFunctionEnv scope X.env.globals (fI X.env scope.names []) [] X.env.qual none .none (some X.env)) (λcenv s4=>
  codeAny (model X.prog X.w) X.A (.compStart (.ListComp elt [⟨tg,iter,ifs,0⟩] scope pos) 0 (.ref it) acc { cenv with scope:=relabel scope X.env }) (RR acc cenv.locals) s4) E s3) E s2:=by
 have hfo:∀b∈fp,b<s2.heap.objs.size:=λb hb=>let ⟨o,e,_⟩:=T.obj _ _ st b hb;Heap.lt_size e;refine wpAny_newObj_type (wpAny_newFunctionEnv S.nocell (by intro y hy;simp at hy) (λh1 hns1 hsb1=>?_) S.kind);dsimp only at hns1 hsb1 ⊢;generalize hP:s2.heap.push { cls:= .type "list",dict:=none,data:= .seq ([]:List Value).toArray }=P at hns1 hsb1 ⊢;generalize hD:s2.heap.objs.size=D at*;have hC:P.objs.size=D+1:=by rw[←hP,Heap.size_push,hD]
 generalize hCC:P.objs.size=C at*;have hDC:D≠C:=by rw[hC];exact ne_of_lt (Nat.lt_succ_self _)
 have hDleC:D<=C:=by rw[hC];exact Nat.le_succ _
 have old:∀b o,s2.heap.get? b=some o->h1.get? b=some o:=λb o e=>hsb1.extBut b o (ne_of_lt (lt_of_lt_of_le (Heap.lt_size e) (by rw[hD];exact hDleC))) (Heap.get?_push_of_some _ (hP▸Heap.get?_push_of_some _ e));have hacc:h1.PlainList D #[]:=⟨0,hsb1.extBut _ _ hDC (Heap.get?_push_of_some _ (by rw[←hP,←hD];exact Heap.get?_push_size _ rfl))⟩;have look:∀x c,(fI X.env scope.names []).lookup x=some c->X.env.cells.lookup x=some c:=cW (S.cells I) (λx c e=>by simp at e);have cD:∀x c,(fI X.env scope.names []).lookup x=some c->c≠D:=λx c e z=>by
  obtain⟨v,o,ho,_⟩:=I.cell x c (look x c e);exact absurd (Heap.lt_size ho) (by rw[z,hD];exact lt_irrefl _)
 have sD:D∉dS X.stack:=λhb=>by
  rcases mem_cons.mp (I.stkSub D hb) with z | z
  ·exact absurd I.lt (by rw[←z,hD];exact lt_irrefl _)
  ·exact I.nofs (by rw[hD];exact le_refl _) z
 have fD:D∉fp:=λhb=>absurd (hfo D hb) (lt_irrefl _);have fpX:∀{H1:Hp} {ps:List (Addr×Obj)},(∀b∈fp,H1 b=none)->(∀p∈ps,p.1∉fp)->∀b∈fp,i6 (jb X N scope C fp s2 H2) ps H1 b:=λ{H1 ps} hn hp b hb=>by
  refine⟨hn b hb,ne_of_lt (lt_of_lt_of_le (hfo b hb) hDleC),λhx=>?_,.inl hb,λx c e=>(hf b hb).2.2.2.2.1 x c (look x c e),λp hp' z=>hp p hp' (z▸hb)⟩;rcases mem_cons.mp (I.stkSub b hx) with z | z
  ·exact(hf b hb).2.1 z
  ·exact(hf b hb).2.2.1 z
 have J0:ay (jb X N scope C fp s2 H2) [] (fJ fv σ) H2 { s2 with heap:=h1,toks:=s2.toks+([]:List (Str×Value)).length }:=o3 I S hf (by rw[hD];exact hfo) old (by rw[hD];exact hDleC) hns1;have loop:codeAny (model X.prog X.w) X.A (.compLoop (.ListComp elt [⟨tg,iter,ifs,0⟩] scope pos) 0 (.ref it) (.ref D) (jb X N scope C fp s2 H2).env) (RR (.ref D) C) { s2 with heap:=h1,toks:=s2.toks+([]:List (Str×Value)).length }:=by
  refine o0 (λn s=>∃i σ1 H1 τ1 G1 acc vs its,yI (jb X N scope C fp s2 H2) fp tn ws H2 D (λl τ1 G1 acc=>cX Cd g tt te l τ1 G1 acc q) n s i σ1 H1 τ1 G1 acc vs its) ?_ ws.length
   ⟨0,_,H2,_,G,[],[],[],by simp,zero_le _,J0,T.keep _ _ _ st λb _ o e=>old b o e,λb hb=>(hf b hb).1,I.hok.fresh (by rw[hD];exact le_refl _),hacc,.nil,.nil,aH.refl _,qm hs,gr,by simpa using hw,by simp⟩
  rintro n s ⟨i,σ1,H1,τ1,G1,acc,vs,its,rfl,hi,J1,st1,fr1,d1,pl1,rv1,ra1,t1,s1,g1,q1,hl1⟩;obtain⟨kk,eD⟩:=pl1;have J1p:ay (jb X N scope C fp s2 H2) [(D,{ cls:= .type "list",data:= .seq its.toArray kk })] σ1 H1 s:=J1.pins_of λp hp=>by
   have e:=mem_singleton.mp hp;subst e;exact⟨eD,d1,hDC,sD,λv z=>by cases z⟩
  have pnf:∀p∈[((D,{ cls:= .type "list",data:= .seq its.toArray kk }):Addr×Obj)],p.1∉fp:=λp hp=>by
   have e:=mem_singleton.mp hp;subst e;exact fD
  by_cases hlt:i<ws.length
  ·have ed:ws.drop i=ws[i]::ws.drop (i+1):=drop_eq_getElem_cons hlt;rw[ed] at q1;obtain⟨c1,q1⟩:=q1;obtain⟨go,yl⟩:=itn.go i ws[i] H1 G1 t1 g1 c1 (List.getElem?_eq_getElem hlt);refine bN (T.item (jb X N scope C fp s2 H2) rfl rfl rfl hc i _ s σ1 H1 nox J1p (fpX fr1 pnf) st1 go) λr s4 z9=>?_;obtain⟨u,hr,h4⟩:=z9;subst hr;refine bN h4 λ_ s5 z9=>?_;obtain⟨x,H5,I5,r5,y5,st5,fr5⟩:=z9;obtain⟨tx,rx,gx⟩:=yl x H5 y5;have I5':=I5.pinned (fpX fr5 pnf) (T.obj _ _ st5);refine bN (hg C _ s5 σ1 H5 x u (λσ6 H6=>∃τ6 G6,aH H5 H6/\aX X.K H6 τ6 σ6/\aD X.K H6 G6/\tt τ6 G6 λb G3=>if b=true then te τ6 G3 λv G4=>acc.length+1<=100000/\cX Cd g tt te (ws.drop (i+1)) τ6 G4 (acc++[v]) q else cX Cd g tt te (ws.drop (i+1)) τ6 G3 acc q) I5' r5
    ⟨ws[i],τ1,G1,_,rx,s1.mono tx,gx,q1,λσ6 H6 τ6 G6 t6 s6 g6 q6=>⟨τ6,G6,t6,s6,g6,q6⟩⟩) λ_ s6 ⟨σ6,H6,I6,τ6,G6,t6,rs6,g6,q6⟩=>?_
   refine bN (htt C _ s6 σ6 H6 (λb H7=>∃G7,aH H6 H7/\aD X.K H7 G7/\(if b=true then te τ6 G7 λv G4=>acc.length+1<=100000/\cX Cd g tt te (ws.drop (i+1)) τ6 G4 (acc++[v]) q else cX Cd g tt te (ws.drop (i+1)) τ6 G7 acc q)) I6
    ⟨τ6,G6,_,rs6,g6,q6,λb H7 G7 t7 g7 q7=>⟨G7,t7,g7,q7⟩⟩) λok s7 ⟨H7,I7,G7,t7,g7,q7⟩=>?_
   have t17:aH H1 H7:=(tx.trans t6).trans t7
   -- what the π keep up to a later state
   have keepFp:∀{σ8:St} {H8:Hp} {s8:Shared},ay (jb X N scope C fp s2 H2) ([(D,{ cls:= .type "list",data:= .seq its.toArray kk })]++ir fp s5.heap) σ8 H8 s8->tn (i+1) s8.heap/\(∀b∈fp,H8 b=none)/\H8 D=none/\s8.heap.get? D=some { cls:= .type "list",data:= .seq its.toArray kk }/\∀b∈fp,∃o,s8.heap.get? b=some o:=λ{σ8 H8 s8} I8=>by
    refine⟨T.keep _ _ _ st5 λb hb o e=>(I8.pin (b,o) (mem_append_right _ (mem_append_right _ (cJ hb e)))).1,λb hb=>?_,(I8.pin (D,_) (mem_append_right _ (mem_append_left _ mem_cons_self))).2.1,(I8.pin (D,_) (mem_append_right _ (mem_append_left _ mem_cons_self))).1,λb hb=>?_⟩
    ·obtain⟨o,e,_⟩:=T.obj _ _ st5 b hb;exact(I8.pin (b,o) (mem_append_right _ (mem_append_right _ (cJ hb e)))).2.1
    ·obtain⟨o,e,_⟩:=T.obj _ _ st5 b hb;exact⟨o,(I8.pin (b,o) (mem_append_right _ (mem_append_right _ (cJ hb e)))).1⟩
   cases ok with
   | false=>
     rw[if_neg Bool.false_ne_true] at q7 ⊢;obtain⟨k1,k2,k3,k4,_⟩:=keepFp I7;exact⟨ws.length- (i+1),by (clear hD hCC hC hDC hDleC hi hl1 ed;lia),i+1,σ6,H7,τ6,G7,acc,vs,its,rfl,hlt,I7.pins_of λp hp=>absurd hp (by simp),k1,k2,k3,⟨kk,k4⟩,rv1,ra1.mono t17,t1.trans t17,rs6.mono t7,g7,q7,hl1⟩
   | true=>
     rw[if_pos rfl] at q7 ⊢;refine bN (hte C _ s7 σ6 H7 (λv H8=>∃w8 G8,aH H7 H8/\bI X.K H8 w8 v/\aD X.K H8 G8/\acc.length+1<=100000/\cX Cd g tt te (ws.drop (i+1)) τ6 G8 (acc++[w8]) q) I7
      ⟨τ6,G7,_,rs6.mono t7,g7,q7,λv H8 w8 G8 t8 r8 g8 q8=>⟨w8,G8,t8,r8,g8,q8⟩⟩) λu8 s8 ⟨v8,H8,I8,rv8,w8,G8,t8,r8,g8,hl8,q8⟩=>?_
     obtain⟨k1,k2,k3,k4,k5⟩:=keepFp I8;have t18:aH H1 H8:=t17.trans t8;refine wpAny_list_append_plain ⟨kk,k4⟩ (λh9 pl9 sb9=>?_) (by rw[size_toArray,←rv1.length,←ra1.length];exact bF hl1);have I9:ay (jb X N scope C fp s2 H2) [] σ6 H8 { s8 with heap:=h9 }:=(I8.pins_of (pins':=[]) λp hp=>absurd hp (by simp)).turned (t':=s8.toks) (λb o hb e=>(sb9.2 b hb).trans e) k3 hDC (.inr (by show s2.heap.objs.size<=D;rw[hD];exact le_refl _)) (λx c e=>cD x c e) λp hp=>absurd (show p∈([]:List (Addr×Obj)) from hp) (by simp);refine⟨ws.length- (i+1),by (clear hD hCC hC hDC hDleC hi hl1 ed hl8;lia),i+1,σ6,H8,τ6,G8,acc++[w8],vs++[v8],its++[u8],rfl,hlt,I9,T.keep _ _ _ k1 λb hb o e=>(sb9.2 b (λz=>fD (z▸hb))).trans e,k2,k3,by simpa using pl9,rv1.append (.cons rv8 .nil),(ra1.mono t18).append (.cons r8 .nil),t1.trans t18,(rs6.mono t7).mono t8,g8,q8,by rw[length_append];exact hl8⟩
  ·have e:i=ws.length:=by (clear hD hCC hC hDC hDleC hl1;lia)
   subst e;rw[List.drop_length] at q1;refine bN (T.done (jb X N scope C fp s2 H2) rfl rfl rfl hc _ _ s σ1 H1 nox J1p (fpX fr1 pnf) st1 (itn.stop _ H1 G1 t1 g1 q1.1 (le_refl _))) λr s4 z9=>?_;obtain⟨hr,I4⟩:=z9;subst hr;have eD4:=(I4.pin (D,_) (mem_append_right _ mem_cons_self)).1;have zl:vs.length<=sizeLine:=by rw[←ra1.length];exact bF hl1
   have hb2:∀b o,s2.heap.get? b=some o->b≠D:=λb o e=>by
    have:=Heap.lt_size e;rw[hD] at this;exact ne_of_lt this
   refine hRR D C s4 ⟨upd H1 D (.lst vs),G1,acc,let ⟨m,hn,_⟩:=I4.loc;⟨m,hn⟩,?_,?_,by rw[hD];exact hDleC,t1.trans (aH.new d1 _),?_,gr.fresh (I.hok.fresh (by rw[hD];exact le_refl _)),g1.fresh d1,q1.2⟩
   ·refine I.call' (ch:=fp) I4.os ⟨λb o e n hb hx=>I4.base.keep b o e n hb hx,λb o e n hb hx=>I4.base.slot b o e n hb hx,λb o e n hx=>?_,λb o e hx=>I4.base.there b o e hx,λb xs e=>?_,λb o u e=>?_,λb ps e=>?_⟩ ?_ I4.bare λb hb=>⟨(hf b hb).2.2.2.1,(hf b hb).2.1,λx c e=>(hf b hb).2.2.2.2.1 x c e,λp hp=>(hf b hb).2.2.2.2.2 p hp⟩
    ·rw[ax (hb2 b o e)];exact I4.base.free b o e n hx
    ·rw[ax (aV (I4.base.tups b xs e) d1)];exact I4.base.tups b xs e
    ·rw[ax (aV (I4.base.frzs b o u e) d1)];exact I4.base.frzs b o u e
    ·obtain⟨more,e'⟩:=I4.base.tbls b ps e;exact⟨more,by rw[ax (aV e' d1)];exact e'⟩
    ·intro b u e
     by_cases hbD:b=D
     ·subst hbD;rw[aU] at e;cases e;exact⟨zl,its,kk,rv1,eD4⟩
     ·rw[ax hbD] at e;exact(I4.hok b u e).stay (λc v _ q=>q) (λc q=>by rw[ax (aV q d1)];exact q) λc xs q=>by rw[ax (aV q d1)];exact q
   ·rw[ax (Ne.symm hDC)];exact I4.free
   ·exact(g1.upd (aH.new d1 _) (g1.fresh d1)).track aU (ra1.mono (aH.new d1 _)) hl1
 exact codeAny_compStart_list loop (T.self _ 0 _ _ _ (T.keep _ _ _ st λb _ o e=>old b o e) loop)
noncomputable def u4 (wi:WI) (fv:List (Option Nat)) (g:WG) (tt:WT) (te:WE):WE:=λτ G q=>wi τ G λws Cd G1=>cX Cd g tt te ws (fJ fv τ) G1 [] λrs G2=>∀p,G1 p=none->q (.ref p) (av G2 p (.lst rs))
theorem jT {wi:WI} (S:gm X scope N fv) (hc:X.calm=true) (hi:QI X tg iter wi) (hg:∀C fp s2 H2,QG (jb X N scope C fp s2 H2) tg g) (htt:∀C fp s2 H2,yH (jb X N scope C fp s2 H2) ifs tt) (hte:∀C fp s2 H2,QE (jb X N scope C fp s2 H2) elt te)
 (hs:∀x,foldedSetIterable iter X.env x=pure x:=by intro _;rfl):QE X (.ListComp elt [⟨tg,iter,ifs,0⟩] scope pos) (u4 wi fv g tt te):=by
 rintro π s σ H Q I ⟨τ,G,q,hτ,hG,ht,hQ⟩;rw[eval_ListComp];refine wpAny_comprehension_free (use:=none) rfl hs (mj (S.cells I)) S.kind S.names (bN (hi π s σ H (λJ H1=>∃ws Cd G1,aH H H1/\aD X.K H1 G1/\pG X.K J ws Cd H1/\cX Cd g tt te ws (fJ fv τ) G1 [] λrs G2=>∀p,G1 p=none->q (.ref p) (av G2 p (.lst rs))) I
  ⟨τ,G,_,hτ,hG,ht,λJ H1 ws C G1 t1 g1 it r1=>⟨ws,C,G1,t1,g1,it,r1⟩⟩) λv s1 h1=>bN h1 λitv s2 h2=>?_)
 obtain⟨it,fp,tn,J,H2,e,I2,T,st2,f2,ws,Cd,G1,t1,g1,itn,hw⟩:=h2;subst e;refine mo (RR:=λacc C=>compPost (model X.prog X.w) X.A X.xe none (EP X π σ Q) acc C) I2 S hc T st2 f2 (λC=>hg C fp s2 H2) (λC=>htt C fp s2 H2) (λC=>hte C fp s2 H2) itn (hτ.mono t1) g1 hw λD C s' z9=>?_;obtain⟨Hf,Gf,rs,⟨m,hn⟩,I5,hC,hCs,t5,g5,hD,hD2,q5⟩:=z9;refine⟨m,hn,λh' sb=>?_⟩;have hlt:C≠X.env.locals:=λz=>absurd I2.lt (Nat.not_lt.mpr (z▸hCs));have I6:ay X π σ Hf { s' with heap:=h' }:=I5.turned (t':=s'.toks) (λb o hb e=>(sb.2 b hb).trans e) hC hlt (.inr (le_trans I2.sz hCs)) (λx c e z=>by
  obtain⟨v,o,ho,_⟩:=I2.cell x c e;exact absurd (Heap.lt_size ho) (Nat.not_lt.mpr (z▸hCs))) λp hp z=>absurd (Heap.lt_size (I2.pin p hp).1) (Nat.not_lt.mpr (z▸hCs))
 exact⟨.ref D,Hf,I6,rfl,hQ _ Hf _ _ (t1.trans t5) (.ref D) g5 (q5 D hD)⟩
end
section
variable {P:Program} {w:World} {K:PySem.W.Frag}
end
section
variable {X:Cx}
noncomputable def yJ (te:WE):WE:=λτ G q=>te τ G λx G1=>match x with | .int i=>q (.int (-i)) G1 | _=>False
theorem jU {a:Expr} {ta:WE} (ha:QE X a ta):QE X (.UnaryOp .USub a pos) (yJ ta):=
 (xT vM ha).imp λσ H Q z0=>z0.el λτ G q hs hg ht hQ=>⟨τ,G,_,hs,hg,ht,λv H1 w G1 t1 r1 g1 q1=>by
   split at q1
   ·cases r1;exact⟨_,rfl,hQ _ H1 _ G1 t1 (.int _) g1 q1⟩
   ·exact q1.elim⟩
noncomputable def Fx (P:Program) (w:World) (K:PySem.W.Frag) (mg:Str->Option Value) (base:Heap) (x:Str) (ps:List Str) (k:Nat) (sp:cm):Prop:=
 ∃(f:Addr) (fd:FuncData),dU P w K mg base k f fd ps sp/\mg x=some (.ref f)/\keepIn K (.ref f)=true/\ce K fd ps []
theorem yK {sp:cm} {p pos:Pos} {t:WA} (F:Fx X.prog X.w X.K X.mg X.base x ps k sp) (hr:aR k X.A) (hg:Gl X x) (ha:QA X (e::es) t) (hdb:(x==("__debug__":Str))=false:=by decide)
 (he:starEach (e::es) X.env=(false,eval e X.env)::starEach es X.env:=by rfl) (hpl:(backTo pos (starEach es X.env)).any (·.1)=false:=by rfl):QE X (.Call (.Name x p) (e::es) [] pos) (jr sp [] t):=by
 obtain⟨f,fd,h1,h2,h3,h4⟩:=F;exact sR h1 hr hg h2 h3 h4 ha hdb he hpl
noncomputable def qp (scope:Scope):List Str:=scope.names.map (·.1)
noncomputable def mq (N:List Str) (scope:Scope):List (Option Nat):=scope.names.map λy=>if y.2== .free then N.findIdx? (·==y.1) else none
noncomputable def qq (outer scope:Scope):Bool:=
 scope.kind== .function&&scope.names.all (λy=>y.2 !=.cell)&&scope.names.all (λy=>y.2 !=.local||scope.names.lookup y.1==some .local)&&
  scope.names.all (λy=>y.2 !=.free||(outer.names.lookup y.1==some .cell&&scope.names.lookup y.1 !=some .local))
theorem mw (h:qq X.env.scope scope=true):gm X scope (qp scope) (mq X.N scope):=by
 unfold qq at h;simp only[Bool.and_eq_true,List.all_eq_true,Bool.or_eq_true,bne_iff_ne,beq_iff_eq,ne_eq] at h;obtain⟨⟨⟨h1,h2⟩,h3⟩,h4⟩:=h;refine⟨h1,h2,λx hx hk=>(h3 x hx).resolve_left λz=>z hk,λy hy hk=>((h4 y hy).resolve_left λz=>z hk).1,λi j x e1 e2=>?_,by simp[qp,mq],λ{x} hx=>((h4 _ hx).resolve_left λz=>z rfl).2⟩;unfold qp at e1;unfold mq at e2;rw[List.getElem?_map] at e1 e2;cases e:scope.names[i]? with
 | none=>rw[e] at e1;cases e1
 | some y=>
   rw[e] at e1 e2;have e1':y.1=x:=Option.some.inj e1;have e2':(if (y.2==NameKind.free)=true then X.N.findIdx? (·==y.1) else none)=some j:=Option.some.inj e2;have hm:y∈scope.names:=List.mem_of_getElem? e;split at e2'
   ·rename_i hk;have hk':y.2=.free:=by simpa using hk
    have hy:y=(x,NameKind.free):=by rw[←e1',←hk']
    have:=List.findIdx?_eq_some_iff_getElem.mp e2';obtain⟨hj,hj2,_⟩:=this;refine⟨?_,?_,hy▸hm⟩
    ·rw[List.getElem?_eq_getElem hj];have:X.N[j]=y.1:=by simpa using hj2
     rw[this,e1']
    ·have:=((h4 y hm).resolve_left λz=>z hk').1;rw[e1'] at this;exact this
   ·cases e2'
theorem fK (i:Nat) {N:List Str} {C:Addr} {fp:List Addr} {s2:Shared} {H2:Hp} (hN:N.Nodup) (hi:N[i]?=some x) (hx:uJ (jb X N scope C fp s2 H2).env.scope x) (hf:(jb X N scope C fp s2 H2).fn x=true∨(jb X N scope C fp s2 H2).env.scope.names.lookup x=some .local:=by first | exact .inl rfl | exact .inr rfl):
 QG (jb X N scope C fp s2 H2) (.Name x pos) (cV i):=bd (X:=jb X N scope C fp s2 H2) i hN hi hx hf
theorem nH:bootBuiltins "tuple"=some (.type "tuple"):=by decide+kernel
theorem jV:bootBuiltins "list"=some (.type "list"):=by decide+kernel
theorem yL:bootBuiltins "max"=some (.builtin "max"):=by decide+kernel
theorem bq {R:WS->Prop} {t:WS} (h:kK X body t) (g:R t):∃t,kK X body t/\R t:=⟨t,h,g⟩
end
mutual
noncomputable def W.lt:W->W->Bool
 | .int i,.int j=>decide (i<j)
 | .tup xs,.tup ys=>W.lts xs ys
 | _,_=>false
noncomputable def W.lts:List W->List W->Bool
 | [],[]=>false
 | [],_::_=>true
 | _::_,[]=>false
 | x::xs,y::ys=>if W.eq x y=true then W.lts xs ys else W.lt x y
end
mutual
noncomputable def W.ord:W->W->Bool
 | .int _,.int _=>true
 | .tup xs,.tup ys=>W.ords xs ys
 | _,_=>false
noncomputable def W.ords:List W->List W->Bool
 | x::xs,y::ys=>if W.eq x y=true then W.ords xs ys else W.ord x y
 | _,_=>true
end
noncomputable def o4 (A:Around) (s:Shared) (y x:Value) (b:Bool):Prop:=
 ∀(prog:Program) (w:World) (E:Value->Shared->Prop) (Q:Value->Shared->Prop),Q (.bool b) s->wpAny (model prog w) A (richCompare .Lt y x) Q E s
inductive gq (A:Around) (s:Shared):List Value->List Value->Bool->Prop where
 | nn:gq A s [] [] false
 | nc {y:Value} {ys:List Value}:gq A s [] (y::ys) true
 | cn {x:Value} {xs:List Value}:gq A s (x::xs) [] false
 | eq {x y:Value} {xs ys:List Value} {r:Bool} (h:SeqAt.EqAt A s x y true) (t:gq A s xs ys r):gq A s (x::xs) (y::ys) r
 | ne {x y:Value} {xs ys:List Value} {r:Bool} (h:SeqAt.EqAt A s x y false) (t:o4 A s x y r):gq A s (x::xs) (y::ys) r
section
open PySem.SeqAt
open PySem.AutoSeq1 (wpAny_loadPart')
open PySem.MeetsSeq PySem.MeetsSeq2 PySem.MeetsSeq3
theorem my (l b:Addr) (items items2:Array Value) (n n2:Nat) (dd dd2:Option Addr) (sl sl2:Array (Option Value)) (r:Bool):
 Meets (Builtin.«tuple.__lt__» ⟨[.ref l,.ref b],[]⟩)
  (λA R s=>s.heap.get? l=some { cls:= .type "tuple",dict:=dd,data:= .seq items n,slots:=sl }/\s.heap.get? b=some { cls:= .type "tuple",dict:=dd2,data:= .seq items2 n2,slots:=sl2 }/\
    gq A.in1 s items.toList items2.toList r/\R (.ok (.ret (.bool r))) s):=
 .of_wp λprog w A R s h=>by
  obtain⟨hp,g,d,tk,os⟩:=s;obtain⟨hl,hb,hc,h⟩:=h;have f2:=AutoSeq1.sub_tuple_tuple
  wp_walk using wpAny_loadPart' hl,wpAny_loadPart' hb,wpAny_forIn_list _ (λbJ b s'=>b.1=none/\s'=⟨hp,g,d,tk,os⟩/\∃(vs ws:List Value),bJ=vs.zip ws/\
   gq A.in1 ⟨hp,g,d,tk,os⟩ vs ws r/\vs.length+items2.size=ws.length+items.size) _
  case turn=>
   rintro⟨y,x⟩ bJ b s' ⟨hb',rfl,vs,ws,hz,hC,hlen⟩;cases hC with
   | nn=>rw[List.zip_nil_left] at hz;cases hz
   | nc=>rw[List.zip_nil_left] at hz;cases hz
   | cn=>rw[List.zip_nil_right] at hz;cases hz
   | eq he ht=>
     rw[zip_cons_cons] at hz;injection hz with hyx hrest
     injection hyx with hy hx
     subst hy hx;simp only[length_cons] at hlen;refine wax (he prog w _ _ ?_)
     wp_walk
     exact⟨rfl,rfl,_,_,hrest,ht,by lia⟩
   | ne he ht=>
     rw[zip_cons_cons] at hz;injection hz with hyx hrest
     injection hyx with hy hx
     subst hy hx;refine wax (he prog w _ _ ?_);have hri:=ht prog w
     wp_walk using hri
     exact⟨_,rfl,by simpa using h⟩
  case fin=>
   rintro⟨b1,b2⟩ s' ⟨hb',rfl,vs,ws,hz,hC,hlen⟩;simp only at hb';subst hb';have hv:r=decide (items.size<items2.size):=by
    cases hC with
    | nn=>simp only[length_nil] at hlen;exact(decide_eq_false (by lia)).symm
    | nc=>simp only[length_nil,length_cons] at hlen;exact(decide_eq_true (by lia)).symm
    | cn=>simp only[length_nil,length_cons] at hlen;exact(decide_eq_false (by lia)).symm
    | eq he ht=>rw[zip_cons_cons] at hz;cases hz
    | ne he ht=>rw[zip_cons_cons] at hz;cases hz
   rw[hv] at h
   wp_walk
   exact⟨_,rfl,by simpa[Builtin.Tuple.tupleCompareSizes] using h⟩
  case h=>
   exact⟨rfl,rfl,_,_,rfl,hc,by simp;lia⟩
end
theorem o4.tuples {l b:Addr} {items items2:Array Value} {r:Bool} (hl:s.heap.IsTuple l items) (hb:s.heap.IsTuple b items2) (hu:A.units<cLine)
 (hc:gq A.in1 s items.toList items2.toList r):o4 A s (.ref l) (.ref b) r:=λprog w E Q h=>by
 obtain⟨⟨cls,dd,data,sl⟩,ho,hcl,n,hd⟩:=id hl;obtain⟨⟨cls2,dd2,data2,sl2⟩,ho2,hc2,n2,hd2⟩:=id hb;simp only at hcl hd hc2 hd2;subst hcl hd hc2 hd2;exact richCompare_meets_room (op:= .Lt) ⟨_,ho,rfl⟩ ⟨_,ho2,rfl⟩ PySem.F.slot_tuple_lt PySem.F.entry_tuple_lt (PySem.F.args_tuple_lt_2 _ _) (my l b items items2 n n2 dd dd2 sl sl2 r)
  ⟨ho,ho2,hc,show Value.bool r≠Value.notImplemented/\Q (.bool r) s from ⟨(λx=>nomatch x),h⟩⟩ hu
section
variable {X:Cx} {π:List (Addr×Obj)} {σ:St} {H:Hp} {s:Shared}
theorem tf (I:ay X π σ H s) (n:Nat) (A:Around)
 (ih:∀{w1 w2:W} {v1 v2:V} {u1 u2:Value},w1.dep<n->w1.flat=true->w2.flat=true->W.ord w1 w2=true->bI X.K H w1 v1->bI X.K H w2 v2->aS v1 u1->aS v2 u2->o4 A s u1 u2 (w1.lt w2)) (hu:A.units+n<cLine):
 ∀{ws us:List W} {xs ys:List V} {its its2:List Value},W.deps ws<n->W.flats ws=true->W.flats us=true->W.ords ws us=true->aJ X.K H ws xs->aJ X.K H us ys->aN xs its->aN ys its2->gq A s its its2 (W.lts ws us):=by
 intro ws
 induction ws with
 | nil=>
   intro us xs ys its its2 hd f1 f2 ho r1 r2 q1 q2;cases r1;cases q1;cases r2 with
   | nil=>cases q2;simpa[W.lts] using gq.nn
   | cons _ _=>cases q2;simpa[W.lts] using gq.nc
 | cons x xs IH=>
   intro us vs1 vs2 its its2 hd f1 f2 ho r1 r2 q1 q2;cases r1 with
   | cons r1 s1=>
     cases q1 with
     | cons q1 t1=>
       cases r2 with
       | nil=>cases q2;simpa[W.lts] using gq.cn
       | @cons y ys _ _ r2 s2=>
         cases q2 with
         | cons q2 t2=>
           simp only[W.deps] at hd;simp only[W.flats,Bool.and_eq_true] at f1 f2;have e:=(fi I n A (w1:=x) (w2:=y) (by (clear hu;lia)) f1.1 f2.1 hu r1 r2 q1 q2).1;rw[W.ords] at ho;rw[W.lts];cases he:W.eq x y with
           | true=>
             rw[he] at e ho;rw[if_pos rfl] at ho ⊢;exact .eq e (IH (by (clear hu;lia)) f1.2 f2.2 ho s1 s2 t1 t2)
           | false=>
             rw[he] at e ho;rw[if_neg Bool.false_ne_true] at ho ⊢;exact .ne e (ih (by (clear hu;lia)) f1.1 f2.1 ho r1 r2 q1 q2)
theorem wn (I:ay X π σ H s):∀(n:Nat) (A:Around) {w1 w2:W} {v1 v2:V} {u1 u2:Value},w1.dep<n->w1.flat=true->w2.flat=true->W.ord w1 w2=true->A.units+n<cLine->bI X.K H w1 v1->bI X.K H w2 v2->aS v1 u1->aS v2 u2->
 o4 A s u1 u2 (w1.lt w2):=by
 intro n
 induction n with
 | zero=>intro A w1 w2 v1 v2 u1 u2 h;lia
 | succ n ih=>
   intro A w1 w2 v1 v2 u1 u2 hd f1 f2 ho hu r1 r2 q1 q2;cases r1 with
   | ref a=>simp[W.flat] at f1
   | scr a=>simp[W.flat] at f1
   | non=>simp[W.ord] at ho
   | bl b=>simp[W.ord] at ho
   | str b=>simp[W.ord] at ho
   | int a=>
     cases r2 with
     | int b=>
       obtain⟨t,rfl⟩:=q1;obtain⟨t',rfl⟩:=q2;rw[W.lt];exact λprog w E Q h=>HT.rcLt_int A s a t b t' prog w E Q h
     | _=>simp[W.ord] at ho
   | @tup a ws xs h r=>
     cases r2 with
     | @tup b us ys h2 r2=>
       cases (show u1=Value.ref _ from q1);cases (show u2=Value.ref _ from q2);obtain⟨its,rv,p,_⟩:=ay.tupH I h;obtain⟨its2,rv2,p2,_⟩:=ay.tupH I h2;have g1:W.flats ws=true:=by simpa[W.flat] using f1
       have g2:W.flats us=true:=by simpa[W.flat] using f2
       have ho':W.ords ws us=true:=by simpa[W.ord] using ho
       have hd':W.deps ws<n:=by simp only[W.dep] at hd;(clear hu;lia)
       have hui:A.in1.units+n<cLine:=by show A.units+1+n<cLine;(clear hd hd';lia)
       rw[W.lt];exact o4.tuples p p2 (by (clear hd hd' hui;lia)) (tf I n A.in1 (λh1 h2 h3 h4=>ih A.in1 h1 h2 h3 h4 hui) hui hd' g1 g2 ho' r r2 rv rv2)
     | _=>simp[W.ord] at ho
end
section
variable {X:Cx}
noncomputable def wo:W2:=λx y G q=>match x,y with
 | .int i,.int j=>q (.bl (decide (i<j))) G
 | .tup xs,.tup ys=>W.flats xs=true/\W.flats ys=true/\W.deps xs<=149/\W.ords xs ys=true/\q (.bl (W.lts xs ys)) G
 | _,_=>False
theorem gU (hr:aR k X.A):fF X (compareOp .Lt) wo:=by
 rintro π s σ H x y v u Q I rx ry ⟨wx,wy,G,q,r1,r2,g,h,hQ⟩;unfold wo at h;split at h
 ·cases r1;cases r2;exact xW π s σ H _ _ v u Q I rx ry ⟨_,_,rfl,rfl,hQ _ H _ G (aH.refl H) (.bl _) g h⟩
 ·rename_i xs ys;obtain⟨f1,f2,hd,ho,h⟩:=h;have z:=wn I 151 X.A (w1:= .tup xs) (w2:= .tup ys) (by simp only[W.dep];lia) (by simpa[W.flat] using f1) (by simpa[W.flat] using f2) (by simpa[W.ord] using ho) (by have:=hr.un;(clear hd;lia)) r1 r2 rx ry;rw[W.lt] at z;exact z X.prog X.w X.xe _ ⟨.bl _,H,I,rfl,hQ _ H _ G (aH.refl H) (.bl _) g h⟩
 ·exact h.elim
end
section
variable {X:Cx}
end
section
variable {X:Cx} {π:List (Addr×Obj)} {σ:St} {H:Hp} {s:Shared}
theorem AT (I:ay X π σ H s) {n:Nat} {ws us:List W} {xs ys:List V} {its its2:List Value} (hd:W.deps ws<n) (g1:W.flats ws=true) (g2:W.flats us=true) (hu:A.in1.units+n<cLine) (r:aJ X.K H ws xs) (r2:aJ X.K H us ys) (rv:aN xs its) (rv2:aN ys its2):
 ∀j (h1:j<its.toArray.size) (h2:j<its2.toArray.size),SeqAt.EqAt A.in1 s its.toArray[j] its2.toArray[j] (iF ws us j):=λj j1 j2=>by
 have e1:its.length=ws.length:=by rw[←rv.length,r.length]
 have e2:its2.length=us.length:=by rw[←rv2.length,r2.length]
 rw[size_toArray] at j1 j2;have ea:ws[j]?=some ws[j]:=List.getElem?_eq_getElem (by (clear hd hu j2 e2;lia));have eb:us[j]?=some us[j]:=List.getElem?_eq_getElem (by lia);obtain⟨va,ea1,ra⟩:=r.get ea;obtain⟨vb,eb1,rb⟩:=r2.get eb;obtain⟨ua,ea2,qa⟩:=rv.get ea1;obtain⟨ub,eb2,qb⟩:=rv2.get eb1;have za:its.toArray[j]=ua:=by
  have:=(List.getElem?_eq_some_iff.mp ea2).2;simpa using this
 have zb:its2.toArray[j]=ub:=by
  have:=(List.getElem?_eq_some_iff.mp eb2).2;simpa using this
 rw[za,zb];have:=(fi I n A.in1 (w1:=ws[j]) (w2:=us[j]) (Nat.lt_of_le_of_lt (W.deps_get ea) hd) (W.flats_get g1 ea) (W.flats_get g2 eb) hu ra rb qa qb).1;unfold iF;rw[ea,eb];exact this
theorem jW {ws us:List W} (h:ws.length≠us.length):W.eqs ws us=false:=by
 cases e:W.eqs ws us with
 | false=>rfl
 | true=>exact absurd ((W.eqs_iff ws us).mp e).1 h
end
section
variable {X:Cx}
noncomputable def wq:W2:=λx y G q=>match x,y with
 | .ref a,.ref b=>∃xs ys,G a=some (.lst xs)/\G b=some (.lst ys)/\W.flats xs=true/\W.flats ys=true/\W.deps xs<=149/\q (.bl (W.eqs xs ys)) G
 | x,y=>qj x y G q
noncomputable def wu:W2:=λx y G q=>match x,y with
 | .ref a,.ref b=>∃xs ys,G a=some (.lst xs)/\G b=some (.lst ys)/\W.flats xs=true/\W.flats ys=true/\W.deps xs<=149/\q (.bl (!(W.eqs xs ys))) G
 | x,y=>qk x y G q
theorem yM (hr:aR k X.A):fF X (compareOp .Eq) wq:=by
 rintro π s σ H x y v u Q I rx ry ⟨wx,wy,G,q,r1,r2,g,h,hQ⟩;unfold wq at h;split at h
 ·obtain⟨ws,us,ea,eb,f1,f2,hd,h⟩:=h;cases r1;cases r2;cases rx;cases ry;obtain⟨_,xs,e1,ra⟩:=g _ _ ea;obtain⟨_,ys,e2,rb⟩:=g _ _ eb;obtain⟨its,rv,p,_⟩:=I.list (cR.of e1);obtain⟨its2,rv2,p2,_⟩:=I.list (cR.of e2);have l1:its.length=ws.length:=by rw[←rv.length,ra.length]
  have l2:its2.length=us.length:=by rw[←rv2.length,rb.length]
  have hu:=hr.un;have fin:EP X π σ Q (.bool (W.eqs ws us)) s:=⟨.bl _,H,I,rfl,hQ _ H _ G (aH.refl H) (.bl _) g h⟩
  by_cases hl:ws.length=us.length
  ·have c1:=SeqAt.RcAt.lists p.isList p2.isList (by rw[size_toArray,size_toArray,l1,l2,hl]) (A:=X.A) (by (clear hd l1 l2 hl;lia)) (AT I (n:=150) (by (clear l1 l2 hu hl;lia)) f1 f2 (by show X.A.units+1+150<cLine;(clear hd l1 l2 hl;lia)) ra rb rv rv2);have er:=eN ws us;rw[←hl,Nat.min_self,beq_self_eq_true,Bool.and_true] at er;rw[size_toArray,l1,er] at c1;exact c1 X.prog X.w X.xe _ fin
  ·rw[jW hl] at fin;exact SeqAt.RcAt.lists_lengths p.isList p2.isList (by rw[size_toArray,size_toArray,l1,l2];simpa using hl) (A:=X.A) (by (clear hd l1 l2 hl;lia)) X.prog X.w X.xe _ fin
 ·exact wf hr π s σ H x y v u Q I rx ry ⟨wx,wy,G,q,r1,r2,g,h,hQ⟩
theorem yN (hr:aR k X.A):fF X (compareOp .NotEq) wu:=by
 rintro π s σ H x y v u Q I rx ry ⟨wx,wy,G,q,r1,r2,g,h,hQ⟩;unfold wu at h;split at h
 ·obtain⟨ws,us,ea,eb,f1,f2,hd,h⟩:=h;cases r1;cases r2;cases rx;cases ry;obtain⟨_,xs,e1,ra⟩:=g _ _ ea;obtain⟨_,ys,e2,rb⟩:=g _ _ eb;obtain⟨its,rv,p,_⟩:=I.list (cR.of e1);obtain⟨its2,rv2,p2,_⟩:=I.list (cR.of e2);have l1:its.length=ws.length:=by rw[←rv.length,ra.length]
  have l2:its2.length=us.length:=by rw[←rv2.length,rb.length]
  have hu:=hr.un;have fin:EP X π σ Q (.bool (!(W.eqs ws us))) s:=⟨.bl _,H,I,rfl,hQ _ H _ G (aH.refl H) (.bl _) g h⟩
  by_cases hl:ws.length=us.length
  ·have c1:=SeqAt.RcNeAt.lists p.isList p2.isList (by rw[size_toArray,size_toArray,l1,l2,hl]) (A:=X.A) (by (clear hd l1 l2 hl;lia)) (AT I (n:=150) (by (clear l1 l2 hu hl;lia)) f1 f2 (by show X.A.units+1+150<cLine;(clear hd l1 l2 hl;lia)) ra rb rv rv2);have er:=eN ws us;rw[←hl,Nat.min_self,beq_self_eq_true,Bool.and_true] at er;rw[size_toArray,l1,er] at c1;exact c1 X.prog X.w X.xe _ fin
  ·rw[jW hl] at fin;exact SeqAt.RcNeAt.lists_lengths p.isList p2.isList (by rw[size_toArray,size_toArray,l1,l2];simpa using hl) (A:=X.A) (by (clear hd l1 l2 hl;lia)) X.prog X.w X.xe _ fin
 ·exact wg hr π s σ H x y v u Q I rx ry ⟨wx,wy,G,q,r1,r2,g,h,hQ⟩
end
structure Ck (lo hi c:Int):Prop where
 c0:0<c
 c1:c<1000
 l0: -(2^40)<=lo
 l1:lo<2^40
 h0: -(2^40)<=hi
 h1:hi<2^40
section
variable {X:Cx} {tg:Expr}
noncomputable def pI (lo:Int) (n:Nat):List W:=(List.range n).map λ(i:Nat)=>W.int (lo+(i:Int))
theorem qr {lo:Int} {n:Nat} {H:Hp}:pG K (xy lo n) (pI lo n) (λ_=>True) H where
 stop:=λi H1 G t g _ hl=>by have h:n<=i:=(by simpa[pI] using hl);exact h
 go:=λi w H1 G t g _ e=>by
  unfold pI at e;rw[List.getElem?_map] at e;have hi:i<n:=by
   cases h:(List.range n)[i]? with
   | none=>rw[h] at e;cases e
   | some k=>
     have:=(List.getElem?_eq_some_iff.mp h).1;simpa using this
  rw[List.getElem?_range hi] at e;cases e;refine⟨hi,λx H' z9=>?_⟩;obtain⟨eH,hy⟩:=z9;subst eH;subst hy;exact⟨aH.refl _,.int _,g⟩
noncomputable def u5 (ta:WA):WI:=λτ G r=>ta τ G λws G1=>match ws with
 | [.int i,.int j]=>(-(2^62)<=i/\i<2^62/\-(2^62)<=j/\j<2^62)/\r (pI i (j-i).toNat) (λ_=>True) G1
 | _=>False
theorem wv {ws:List W} {f:Int->Int->Prop} (h:match ws with | [.int i,.int j]=>f i j | _=>False):∃i j,ws=[.int i,.int j]/\f i j:=by
 rcases ws with _ | ⟨a,_ | ⟨b,r⟩⟩
 ·exact h.elim
 ·cases a<;> exact h.elim
 ·cases a with
  | int i=>
    cases b with
    | int j=>cases r with
      | nil=>exact⟨i,j,rfl,h⟩
      | cons _ _=>exact h.elim
    | _=>exact h.elim
  | _=>exact h.elim
theorem o5 {a b:Expr} {ta:WA} {p pos:Pos} (hg:Gl X "range") (hm:X.mg "range"=none) (ha:QA X [a,b] ta) (hs:starEach [a,b] X.env=[(false,eval a X.env),(false,eval b X.env)]:=by rfl) (hs2:starEach [b] X.env=[(false,eval b X.env)]:=by rfl):QI X tg (.Call (.Name "range" p) [a,b] [] pos) (u5 ta):=
 (oN hg hm ha hs hs2).imp λσ H R ⟨τ,G,r,hs,hg,ht,hR⟩=>⟨τ,G,_,hs,hg,ht,λvs H1 ws G1 t1 r1 g1 q1=>by
   obtain⟨i,j,rfl,q1⟩:=wv q1;obtain⟨v,u,rfl,r2,r3⟩:=r1.two;cases r2;cases r3;exact⟨_,_,rfl,q1.1,hR _ H1 _ _ G1 t1 g1 qr q1.2⟩⟩
end
section
variable {X:Cx}
noncomputable def ww:List W->Gp->WK->Prop:=λws G q=>match ws with
 | [.int i,.int j]=>q (.int (if j<i then j else i)) G
 | _=>False
theorem yO (hc:X.calm=true):dN X (.builtin "min") ww:=by
 rintro π s σ H xs us Q I r ⟨ws,G,q,rw',g,h,hQ⟩;unfold ww at h;split at h
 ·obtain⟨v,u,rfl,r1,r2⟩:=rw'.two;cases r1;cases r2;exact oP hc π s σ H _ us Q I r ⟨_,_,rfl,hQ _ H _ G (aH.refl H) (.int _) g h⟩
 ·exact h.elim
theorem yP:bootBuiltins "min"=some (.builtin "min"):=by decide+kernel
noncomputable def AU (i j:Int):Prop:=i.natAbs<2^4000/\j.natAbs<2^4000
noncomputable def AV (j:Int):Prop:=0<j/\j.natAbs<2^4000
noncomputable def nI (i j:Int):Prop:=sB i j∨AU i j
theorem nI.ok {i j:Int} (h:nI i j):IntMulOk i j:=by
 rcases h with h | ⟨h1,h2⟩
 ·exact h.ok
 ·have b1:=PyProof.Rows.intBits_le h1;have b2:=PyProof.Rows.intBits_le h2;unfold IntMulOk Builtin.Int.intTooBig;have:¬(((Builtin.Int.intBits i+Builtin.Int.intBits j:Int)) > bitsLine):=by
   have hb:(8000:Int)<=bitsLine:=by decide
   (clear h1 h2;lia)
  simp[this]
noncomputable def qt (i j:Int):Prop:=xV i j∨AV j
theorem qw:hJ X (binaryOp .FloorDiv) (rI qt λi j=> .int (i/j)):=Ad λi j _ _ _ _ _ hc q=>by
 rcases hc with hc | ⟨h0,h1⟩
 ·have h1:(0:Int)<j:=hc.1;have h2:j<1073741824:=hc.2;exact floordiv_int (by lia) (by rw[Int.fdiv_eq_ediv_of_nonneg i (by lia)];exact q) (.inl (PyProof.noPylong_small (by lia)))
 ·refine floordiv_int (by (clear h1;lia)) (by rw[Int.fdiv_eq_ediv_of_nonneg i (by (clear h1;lia))];exact q) (.inl (PyProof.noPylong_of_log2 ?_));have hne:j.natAbs≠0:=by (clear h1;lia)
  exact lt_of_lt_of_le ((Nat.log2_lt hne).mpr h1) (by decide)
noncomputable abbrev yQ:W2:=vInt qt λi j=> .int (i/j)
theorem df:fF X (binaryOp .FloorDiv) yQ:=me qw
end
section
variable {X:Cx}
end
structure iG (K:PySem.W.Frag) (x qual:Str) (st:Stmt) (f:Addr) (fd:FuncData) (T:Addr) (ds:List Value):Prop where
 ex:∃(oc:Value) (od:Option Addr) (kV doc pm:Value) (an:Option Addr) (cdv ct:Value) (osl:Array (Option Value)) (ot:Obj) (nt:Nat),
  fd=fnOf x qual (aM st) (aF st) (aw st) (.ref T) kV doc pm an cdv ct/\K.lookup f=some ⟨oc,od,.func fd,osl⟩/\codeIn K cdv qual=true/\K.lookup T=some ot/\ot.data=.seq ds.toArray nt
 kp:keepIn K (.ref f)=true
section
variable {P:Program} {w:World} {K:PySem.W.Frag} {mg:Str->Option Value} {base:Heap} {x qual:Str} {st:Stmt} {f T:Addr} {fd:FuncData} {ds:List Value}
theorem nJ {oc:Value} {od an:Option Addr} {osl:Array (Option Value)} {kV doc pm cdv ct:Value} {ot:Obj} {nt:Nat} (l:K.lookup f=some ⟨oc,od,.func (fnOf x qual (aM st) (aF st) (aw st) (.ref T) kV doc pm an cdv ct),osl⟩)
 (c:codeIn K cdv qual=true) (k:keepIn K (.ref f)=true) (t:K.lookup T=some ot) (h:ot.data=.seq ds.toArray nt):iG K x qual st f (fnOf x qual (aM st) (aF st) (aw st) (.ref T) kV doc pm an cdv ct) T ds:=
 ⟨⟨oc,od,kV,doc,pm,an,cdv,ct,osl,ot,nt,rfl,l,c,t,h⟩,k⟩
theorem iG.binds {es:List Value} (F:iG K x qual st f fd T ds)
 (h:∀(kV doc pm:Value) (an:Option Addr) (cdv ct:Value) (us:List Value),(us++es).length=ps.length->∃k,bindArgs (fnOf x qual (aM st) (aF st) (aw st) (.ref T) kV doc pm an cdv ct) ⟨us,[]⟩=seqItems? (.ref T) >>= k/\k (some ds.toArray)=pure (ps.zip (us++es))):ce K fd ps es:=by
 obtain⟨oc,od,kV,doc,pm,an,cdv,ct,osl,ot,nt,rfl,lk,hcd,ht,hd⟩:=F.ex;intro s us KX hl;obtain⟨k,h1,h2⟩:=h kV doc pm an cdv ct us hl;exact BindsTo.of_defaults (T:=T) rfl (KX _ _ ht) hd h1 h2
theorem yS {N ps:List Str} {sp:cm} (F:iG K x qual st f fd T ds) (S:cf N ps (aw st)) (len:∀ws G q e,sp ws G q e->ws.length=ps.length)
 (hbody:∀(cdv:Value) (A:Around) (outer:List Env) (s:Shared) (H:Hp) (E:XK),aR k (A.deeper (envOfC qual (aw st) s.heap.objs.size f cdv))->
   ∃t,kK (dw p8 P w K mg base N qual (aw st) f cdv A outer s H E).nox (aF st) t/\
    ∀(ws:List W) (G:Gp) (q:WK) (e:WX),sp ws G q e->t { nx:=λ_ G1=>∃G0,aZ G0 G1/\q .non G0,rt:=λw G1=>∃G0,aZ G0 G1/\q w G0 } (iE N ws) G):dU P w K mg base (k+1) f fd ps sp:=by
 obtain⟨oc,od,kV,doc,pm,an,cdv,ct,osl,ot,nt,rfl,lk,hcd,ht,hd⟩:=F.ex;refine pU lk hcd S (λvs H Q E ⟨ws,G,q,e,r,g,z,_⟩=>by rw[←r.length];exact len _ _ _ _ z) (λA outer s H vs Q E hr ⟨ws,G,q,e,r,g,z,hQ,_⟩=>?_);obtain⟨t,ht,hq⟩:=hbody cdv A outer s H E hr;have ht':kA (dw p8 P w K mg base N qual (aw st) f cdv A outer s H E).nox (aF st) (LS K t):=ht;exact⟨_,ht'.nox,_,G,_,aX.start r,g,hq ws G q e z,⟨λσ1 H1 τ1 G1 t1 s1 g1 ⟨G0,l,q1⟩=>hQ .non H1 .non G0 t1 .non (g1.le l) q1,λv H1 w G1 t1 r1 g1 ⟨G0,l,q1⟩=>hQ v H1 w G0 t1 r1 (g1.le l) q1,λ_ _ _ _ _ _ _ z=>z.elim,λ_ _ _ _ _ _ _ z=>z.elim⟩⟩
noncomputable def AW (P:Program) (w:World) (K:PySem.W.Frag) (mg:Str->Option Value) (base:Heap) (x:Str) (ps:List Str) (k:Nat) (sp:cm) (dws:List W):Prop:=
 ∃(f:Addr) (fd:FuncData) (ds:List Value) (dvs:List V),dU P w K mg base k f fd ps sp/\mg x=some (.ref f)/\keepIn K (.ref f)=true/\ce K fd ps ds/\aN dvs ds/\∀H,aJ K H dws dvs
noncomputable def xz (K:PySem.W.Frag) (mg:Str->Option Value) (x:Str) (st:Stmt) (ps:List Str) (dws:List W):Prop:=
 ∃(f:Addr) (fd:FuncData) (T:Addr) (ds:List Value) (dvs:List V),iG K x x st f fd T ds/\ce K fd ps []/\ce K fd ps ds/\mg x=some (.ref f)/\aN dvs ds/\∀H,aJ K H dws dvs
theorem xz.fx {sp:cm} {dws:List W} (D:xz K mg x st ps dws) (h:∀(f:Addr) (fd:FuncData) (T:Addr) (ds:List Value),iG K x x st f fd T ds->dU P w K mg base k f fd ps sp):Fx P w K mg base x ps k sp:=by
 obtain⟨f,fd,T,ds,dvs,F,b,b',m,_,_⟩:=D;exact⟨f,fd,h f fd T ds F,m,F.kp,b⟩
theorem xz.fxd {sp:cm} {dws:List W} (D:xz K mg x st ps dws) (h:∀(f:Addr) (fd:FuncData) (T:Addr) (ds:List Value),iG K x x st f fd T ds->dU P w K mg base k f fd ps sp):AW P w K mg base x ps k sp dws:=by
 obtain⟨f,fd,T,ds,dvs,F,b,b',m,v,r⟩:=D;exact⟨f,fd,ds,dvs,h f fd T ds F,m,F.kp,b',v,r⟩
end
section
variable {X:Cx}
theorem ba {sp:cm} {p pos:Pos} {t:WA} (F:Fx X.prog X.w X.K X.mg X.base x ps k sp) (hr:aR k X.A) (hg:Gl X x) (ha:QA X (e::es) t) (_hn:(e::es).length=ps.length:=by rfl) (hdb:(x==("__debug__":Str))=false:=by decide)
 (he:starEach (e::es) X.env=(false,eval e X.env)::starEach es X.env:=by rfl) (hpl:(backTo pos (starEach es X.env)).any (·.1)=false:=by rfl):QE X (.Call (.Name x p) (e::es) [] pos) (jr sp [] t):=yK F hr hg ha hdb he hpl
theorem wz {sp:cm} {dws:List W} {p pos:Pos} {t:WA} (F:AW X.prog X.w X.K X.mg X.base x ps k sp dws) (hr:aR k X.A) (hg:Gl X x) (ha:QA X (e::es) t) (_hn:(e::es).length+dws.length=ps.length:=by rfl) (hdb:(x==("__debug__":Str))=false:=by decide)
 (he:starEach (e::es) X.env=(false,eval e X.env)::starEach es X.env:=by rfl) (hpl:(backTo pos (starEach es X.env)).any (·.1)=false:=by rfl):QE X (.Call (.Name x p) (e::es) [] pos) (jr sp dws t):=by
 obtain⟨f,fd,ds,dvs,h1,h2,h3,h4,h5,h6⟩:=F;exact(nr h1 hr hg h2 h3 h4 h5 uP ha hdb he hpl).imp λ_ _ _ h=>h.call h6
noncomputable def qy:WS:=λ_ _ _=>False
theorem qz:QS X st qy:=λ_ _ _ _ _ _ ⟨_,_,_,_,_,z,_⟩=>z.elim
end
variable {X:Cx}
end L2
namespace L2
open PySem PySem.Spec PyProof.Rows
theorem XC.of {C:Addr} (q:excIn K C bmV "ValueError.__new__"=true):∃bm,XC K C bm:=by
 unfold excIn at q;cases lk:List.lookup C K with
 | none=>rw[lk] at q;exact cq q
 | some o=>
   rw[lk] at q;obtain⟨cls,d1,data,⟨ls⟩⟩:=o;cases cls with
   | type s=>
     by_cases hs:s="type"
     ·subst hs;cases data with
      | cls cl=>
        obtain⟨nm,bs,mro,ns,qn,hd,sn,sb,ab,co,del⟩:=cl;rcases mro with _ | ⟨v,tl⟩
        ·exact cq q
        cases v with
        | ref C2=>
          rcases ls with _ | ⟨j0,_ | ⟨j1,_ | ⟨j2,_ | ⟨j3,_ | ⟨(_ | j4),r⟩⟩⟩⟩⟩
          any_goals first | exact cq q | skip
          cases j4 with
          | builtin id=>
            rcases r with _ | ⟨j5,_ | _⟩
            any_goals first | exact cq q | skip
            replace q:(C2==C&&id=="ValueError.__new__"&&!del&&W.tailIn K bmV tl&&W.nsOkIn K ns&&W.nsIn K ns (Str.ofString "__init__")==some none)=true:=q
            simp only[beq_iff_eq,Bool.not_eq_true',Bool.and_eq_true] at q;obtain⟨⟨⟨⟨⟨e1,e2⟩,e3⟩,e4⟩,e5⟩,e6⟩:=q;subst e1 e2;subst e3;refine⟨tl,λh X=>⟨ns,nm,qn,bs,hd,sn,sb,ab,co,d1,j0,j1,j2,j3,j5,_,X _ _ lk,.of_isNs (PySem.W.isNs_of_in X e5),PySem.W.nsMap_none_of_in X e5 e6,PySem.W.tail_of_in X e4⟩,λv=>?_⟩;unfold mroIn clsIn;rw[lk]
            rfl
          | _=>exact cq q
        | _=>exact cq q
      | _=>exact cq q
     ·delta PySem.W.excIn.match_6 at q
      change (dite (s="type") _ _:Bool)=true at q;rw[dif_neg hs] at q;exact cq q
   | _=>exact cq q
theorem XC.has {C:Addr} (x:XC K C bm) {h:Heap} (X:K.In h) {t:String} {b:Bool} (hb:bmV.contains (.type t)=b):(Value.ref C::bm).contains (.type t)=b:=by
 obtain⟨_,_,_,_,_,_,_,_,_,_,_,_,_,_,_,_,_,_,_,T⟩:=x.obj h X;rw[List.contains_cons,T.hasType hb]
 rfl
section
variable {M:Model} {A:Around} {E:Value->Shared->Prop} {K:PySem.W.Frag} {C D a:Addr} {bm bmD:List Value} {oe:Obj}
theorem js {Q:Bool->Shared->Prop} {b:Bool} (X:K.In s.heap) (hC:XC K C bm) (hD:XC K D bmD) (he:s.heap.get? a=some oe) (hcls:oe.cls=.ref C) (hs:mroIn K C (.ref D)=some b) (hq:Q b s):
 wpAny M A (excMatches (.ref a) (.ref D)) Q E s:=by
 obtain⟨h,g,d,t,os⟩:=s;have hb:=hD.has X (t:="BaseException") (b:=true) rfl;have hcd:(Value.ref C::bm).contains (.ref D)=b:=by
  have:=(hC.mro (.ref D)).symm.trans hs;exact Option.some.inj this
 obtain⟨N1,n1,q1,b1,d1,s1,u1,a1,c1,f1,g0,g1,g2,g3,g5,m1,gC,_,_,_⟩:=hC.obj h X;obtain⟨N2,n2,q2,b2,d2,s2,u2,a2,c2,f2,l0,l1,l2,l3,l5,m2,gD,_,_,_⟩:=hD.obj h X;have nt:=tc_notTuple;unfold excMatches
 repeat (first | (with_reducible refine wpAny_loadPart_at he ?_;rw[hcls]) | with_reducible refine wpAny_loadPart_at gD ?_ | (with_reducible refine wpAny_isSubtype_exc gD ?_;rw[hb]) | (with_reducible refine wpAny_isSubtype_exc gC ?_;rw[hcd]) | wp_step)
 cases b with
 | true=>wp_walk;exact hq
 | false=>wp_walk;exact hq
theorem qA {v t:Value} {T:String} (X:K.In s.heap) (ht:∀M,Looks M s.heap (typeOf v) t) (hk:PySem.W.kitMeta T=true) (hne:(t==Value.type T)=false)
 (e:PySem.W.subIn K t (.type T)=some true) (hx:v≠ .builtin "__main__.__loader__#opaque") (h:Q (.bool true) s):wpAny (model prog w) A (call (.builtin "isinstance") [v,.type T]) Q E s:=by
 refine call_isinstance (S:=λ_ R s=>(K.In s.heap/\∀M,Looks M s.heap (typeOf v) t)/\R (.ok (.ret (.bool true))) s) (λ_ _ _ _ s hs=>isinstance_outer ?_ hx) ⟨⟨X,ht⟩,h⟩;obtain⟨⟨X,ht⟩,hq⟩:=hs;obtain⟨hh,g,d,tt,os⟩:=s;unfold Builtin.«isinstance.nested»;refine wax ((ht _).at ?_);rw[if_neg (by rw[hne];exact Bool.false_ne_true)];refine wax ((PySem.W.Looks.of_pure (PySem.W.kitMeta_of hk)).at ?_);rw[if_pos (by decide)]
 k_delta "plainIsInstance"
 refine wax (wax ((PySem.W.Looks.of_pure (r:=true) rfl).at ?_));simp only[Bool.not_true,if_false,Bool.false_eq_true];have li:∀M,Looks M hh (isInstance v (.type T)) true:=λM=>(ht M).andThen (PySem.W.looks_subIn X e);refine wax ((li _).at ?_);simp only[if_true];exact waz (waz hq)
end
theorem fu.none_of {H:Hp} {h:Heap} (x:fu P w H h) (e:h.get? a=none):H a=none:=by
 cases q:H a with
 | none=>rfl
 | some o=>
   have y:=x a o q;cases o with
   | lst xs=>obtain⟨_,_,_,_,z⟩:=y;rw[e] at z;cases z
   | tup xs=>obtain⟨_,_,_,p,z,_⟩:=y;rw[e] at z;cases z
   | dK kvs=>obtain⟨_,_,_,_,o,_,_,z,_⟩:=y;rw[e] at z;cases z
   | dT kvs=>obtain⟨_,_,_,_,o,_,_,z,_⟩:=y;rw[e] at z;cases z
   | set S n=>obtain⟨o,_,_,_,z,_⟩:=y;rw[e] at z;cases z
   | ins C dx fs=>obtain⟨_,_,_,z,_⟩:=y;rw[e] at z;cases z
   | own y2=>obtain⟨_,z⟩:=y;rw[e] at z;cases z
   | xd fs=>obtain⟨_,⟨_,_,_,z,_⟩,_⟩:=y;rw[e] at z;cases z
   | rng lo hi=>obtain⟨_,_,_,z⟩:=y;rw[e] at z;cases z
   | frz ob u=>obtain⟨z,_⟩:=y;rw[e] at z;cases z
   | tbl ps=>have z:h.get? a=some _:=y;rw[e] at z;cases z
   | met f y2=>have z:h.get? a=some _:=y;rw[e] at z;cases z
   | ext φ=>obtain⟨_,⟨_,z⟩,_⟩:=y;rw[e] at z;cases z
theorem fL {h B:Heap} {m:List Addr}:∀{l:List Env},h.FunFrames B l->(∀b∈dS l,b∈m)->h.FunFrames (hideAll h m) l
 | [],_,_=>trivial
 | env::r,⟨e0,⟨L,o,e1,_,e3,e4⟩,e5⟩,hm=>
   have hl:dS (env::r)=L::dS r:=by unfold dS;rw[filterMap_cons,e1]
   ⟨e0,⟨L,o,e1,hideAll_none m (hm L (by rw[hl];exact .head _)),e3,e4⟩,fL e5 λb hb=>hm b (by rw[hl];exact .tail _ hb)⟩
structure Fl (P:Program) (w:World) (fs:List Addr) (H H':Hp) (h0 h:Heap) (a T:Addr) (c fl:Value):Prop where
 un:Un fs [] H H' h0 h
 hok:fu P w H' h
 na:h0.get? a=none
 nT:h0.get? T=none
 ha:H' a=none
 hT:H' T=none
 tr:∃oe vs oT ts a0,h.get? a=some oe/\(oe.cls=c/\vs[0]?=some a0)/\oe.data=.fields vs/\vs[1]?=some (.ref T)/\T≠a/\h.get? T=some oT/\oT.data=.fields ts/\ts[3]?=some fl
section
variable {P:Program} {w:World} {fs:List Addr} {H H':Hp} {h0 h h':Heap} {a T:Addr} {c fl fl':Value}
theorem Fl.traced (F:Fl P w fs H H' h0 h a T c fl):∃a0,h.TracedAtW (hideAll h (a::T::fs)) a c a0 fl:=by
 obtain⟨oe,vs,oT,ts,a0,e1,e2,e3,e4,e5,e6,e7,e8⟩:=F.tr;exact⟨a0,oe,vs,T,oT,ts,e1,e2,e3,e4,hideAll_none _ (.tail _ (.head _)),e5,e6,e7,e8⟩
theorem Fl.move {a0:Value} (F:Fl P w fs H H' h0 h a T c fl) (hfs:∀b∈fs,H' b=none/\∃o,h.get? b=some o/\∀vs,o.data≠ .fields vs)
 (k1:(hideAll h (a::T::fs)).StaysIn h') (k3:h'.TracedAtW (hideAll h (a::T::fs)) a c a0 fl') (k4:h.UpToSlots h'):∃T',Fl P w fs H H' h0 h' a T' c fl':=by
 have keep:∀b o,b≠a->b≠T->b∉fs->h.get? b=some o->h'.get? b=some o:=λb o n1 n2 n3 e=>k1 b o (hideAll_get _ e (by simp[n1,n2,n3]));have slot:∀b o,b∈fs->h.get? b=some o->∃sl,h'.get? b=some { o with slots:=sl }:=λb o hb e=>by
  obtain⟨_,o2,e2,d2⟩:=hfs b hb;rw[e] at e2;cases e2;exact k4 b o e d2
 obtain⟨oe,vs,T',oT,ts,q1,q2,q3,q4,q5,q6,q7,q8,q9⟩:=k3;have hT':T'=T∨h.get? T'=none:=by
  by_cases z:T'=T
  ·exact .inl z
  ·refine .inr ?_;cases e:h.get? T' with
   | none=>rfl
   | some o=>
     by_cases zf:T'∈fs
     ·obtain⟨_,o2,e2,d2⟩:=hfs T' zf;obtain⟨sl,e3⟩:=k4 T' o2 e2 d2;rw[q7] at e3;cases e3;exact absurd q8 (d2 ts)
     ·rw[hideAll_get _ e (by simp[z,zf,q6])] at q5;cases q5
 have back:∀b,h.get? b=none->h0.get? b=none:=λb e=>by
  cases q:h0.get? b with
  | none=>rfl
  | some o=>
    obtain⟨o',e'⟩:=F.un.there b o q (by simp);rw[e] at e';cases e'
 refine⟨T',⟨⟨λb o q n hb hx=>?_,λb o q n hb hx=>?_,F.un.free,λb o q hx=>?_,F.un.tups,F.un.frzs,F.un.tbls⟩,λb u e=>?_,F.na,?_,F.ha,?_,⟨oe,vs,oT,ts,a0,q1,q2,q3,q4,q6,q7,q8,q9⟩⟩⟩
 ·exact keep b o (λz=>by rw[z,F.na] at q;cases q) (λz=>by rw[z,F.nT] at q;cases q) hb (F.un.keep b o q n hb hx)
 ·obtain⟨sl,e1⟩:=F.un.slot b o q n hb hx;obtain⟨sl2,e2⟩:=slot b _ hb e1;exact⟨sl2,e2⟩
 ·obtain⟨o1,e1⟩:=F.un.there b o q hx
  by_cases hb:b∈fs
  ·obtain⟨sl,e2⟩:=slot b o1 hb e1;exact⟨_,e2⟩
  ·exact⟨o1,keep b o1 (λz=>by rw[z,F.na] at q;cases q) (λz=>by rw[z,F.nT] at q;cases q) hb e1⟩
 ·have nn:∀x v,H' x=some v->x≠a/\x≠T/\x∉fs:=λx v e=>⟨λz=>(by rw[z,F.ha] at e;cases e),λz=>(by rw[z,F.hT] at e;cases e),λz=>(by rw[(hfs x z).1] at e;cases e)⟩;refine(F.hok b u e).stay (λx v hc q=>?_) (λ_ q=>q) λ_ _ q=>q;rcases hc with hc | hc
  ·obtain⟨z1,z2,z3⟩:=nn b u e;rw[hc] at q ⊢;exact keep b v z1 z2 z3 q
  ·obtain⟨z1,z2,z3⟩:=nn x _ hc;exact keep x v z1 z2 z3 q
 ·rcases hT' with z | z
  ·rw[z];exact F.nT
  ·exact back T' z
 ·rcases hT' with z | z
  ·rw[z];exact F.hT
  ·exact F.hok.none_of z
end
noncomputable def si (P:Program) (w:World):oS:=λouter H s E e s'=>∃a T C H',e=.ref a/\s'.os=s.os/\AllBare s'.gens/\Fl P w (dS outer) H H' s.heap s'.heap a T (.ref C) .none/\E (.ref C) none H'
noncomputable abbrev wA (P:Program) (w:World) (K:PySem.W.Frag) (mg:Str->Option Value) (base:Heap) (k:Nat) (f:Addr) (fd:FuncData) (ps:List Str) (sp:cm):Prop:=i7 P w K mg base (si P w) k f fd ps (sQ K sp)
section
variable {P:Program} {w:World} {K:PySem.W.Frag} {mg:Str->Option Value} {base:Heap} {N:List Str} {qual:Str} {scope:Scope} {f:Addr} {cdv:Value} {A:Around} {outer:List Env} {s:Shared} {H:Hp} {E:XK}
theorem qB {σ:St} {H2:Hp} {s2:Shared} {h':Heap} {e C:Addr} {vs:List Value} (I:ay (dw (si P w) P w K mg base N qual scope f cdv A outer s H E) π σ H2 s2)
 (mx:Heap.MadeExcOf s2.heap h' e (.ref C) vs) (hE:E (.ref C) none H2):(dw (si P w) P w K mg base N qual scope f cdv A outer s H E).xe (.ref e) { s2 with heap:=h' }:=by
 have ST:=I.stack;have SF:=I.stkFree;refine wpAny_leaves_madeW (base:=hideAll s2.heap (dS (envOfC qual scope s.heap.objs.size f cdv::outer))) (h:=s2.heap) (L:=s.heap.objs.size) I.ok.frames rfl (λb o q=>of_hideAll _ q) (fL ST λ_ z=>z) mx λh3 t fly _ _ ups=>?_;obtain⟨k1,_,_,k3⟩:=fly;obtain⟨oe,ws,T,oT,ts,q1,q2,q3,q4,q5,q6,q7,q8,q9⟩:=k3;have keep:∀b o,b∉dS (envOfC qual scope s.heap.objs.size f cdv::outer)->s2.heap.get? b=some o->h3.get? b=some o:=λb o hb q=>k1 b o (hideAll_get _ q hb);have slot:∀b o,b∈dS (envOfC qual scope s.heap.objs.size f cdv::outer)->s2.heap.get? b=some o->(∃sl,h3.get? b=some { o with slots:=sl })/\∀vs,o.data≠ .fields vs:=λb o hb q=>by
  obtain⟨_,o2,e2,d2⟩:=ST.mem hb;rw[q] at e2;cases e2;exact⟨ups b o (mx.keeps b o q) d2,d2⟩
 have nL:∀b o,s.heap.get? b=some o->b∉dS outer->b∉dS (envOfC qual scope s.heap.objs.size f cdv::outer):=λb o q hb z=>by
  rcases mem_cons.mp (show b∈s.heap.objs.size::dS outer from z) with z | z
  ·exact absurd (Heap.lt_size q) (by rw[z];exact lt_irrefl _)
  ·exact hb z
 have back:∀b,s2.heap.get? b=none->s.heap.get? b=none:=λb q=>by
  cases z:s.heap.get? b with
  | none=>rfl
  | some o=>
    obtain⟨o',e'⟩:=I.base.there b o z (by intro y;cases y);rw[q] at e';cases e'
 have nT:s2.heap.get? T=none:=by
  cases z:s2.heap.get? T with
  | none=>rfl
  | some o=>
    by_cases zf:T∈dS (envOfC qual scope s.heap.objs.size f cdv::outer)
    ·obtain⟨⟨sl,e3⟩,d2⟩:=slot T o zf z;rw[q7] at e3;cases e3;exact absurd q8 (d2 ts)
    ·rw[hideAll_get _ z zf] at q5;cases q5
 refine⟨e,T,C,H2,rfl,I.os,I.bare,⟨⟨λb o q n hb hx=>?_,λb o q n hb hx=>?_,λb o q n hx=>I.base.free b o q n (by intro y;cases y),λb o q hx=>?_,I.base.tups,I.base.frzs,I.base.tbls⟩,λb u q=>?_,back e mx.new,back T nT,I.hok.none_of mx.new,I.hok.none_of nT,
  ⟨oe,ws,oT,ts,_,q1,q2,q3,q4,q6,q7,q8,q9⟩⟩,hE⟩
 ·exact keep b o (nL b o q hb) (I.base.keep b o q n hb (by intro y;cases y))
 ·obtain⟨sl,e1⟩:=I.base.slot b o q n hb (by intro y;cases y);obtain⟨⟨sl2,e2⟩,_⟩:=slot b _ (mem_cons_of_mem _ hb) e1;exact⟨sl2,e2⟩
 ·obtain⟨o1,e1⟩:=I.base.there b o q (by intro y;cases y)
  by_cases hb:b∈dS (envOfC qual scope s.heap.objs.size f cdv::outer)
  ·obtain⟨⟨sl,e2⟩,_⟩:=slot b o1 hb e1;exact⟨_,e2⟩
  ·exact⟨o1,keep b o1 hb e1⟩
 ·have nn:∀x v,H2 x=some v->x∉dS (envOfC qual scope s.heap.objs.size f cdv::outer):=λx v q z=>by rw[SF x z] at q;cases q
  refine(I.hok b u q).stay (λx v hc q2=>?_) (λ_ q=>q) λ_ _ q=>q;rcases hc with hc | hc
  ·rw[hc] at q2 ⊢;exact keep b v (nn b u q) q2
  ·exact keep x v (nn x _ hc) q2
noncomputable def qC (C:Addr) (e:WX):WS:=λ_ _ G=>e (.ref C) G
theorem qD {x msg:Str} {C:Addr} {e:WX} {np cpos pos p1:Pos} {j} (hm:mg x=some (.ref C)) (hC:XC K C bm) (hE:∀H1 G1,aH H H1->aD K H1 G1->e (.ref C) G1->E (.ref C) none H1)
 (hg:Gl (dw (si P w) P w K mg base N qual scope f cdv A outer s H E) x) (hd:(x==("__debug__":Str))=false:=by decide):
 QS (dw (si P w) P w K mg base N qual scope f cdv A outer s H E) (.Raise (some (.Call (.Name x np) [.Constant (.str msg) j p1] [] cpos)) none pos) (qC C e):=by
 rintro π s2 σ H2 D I ⟨τ,G,d,hs,hgG,ht,l⟩;obtain⟨N1,n1,q1,b1,d1,s1,u1,a1,c1,f1,g0,g1,g2,g3,g5,m1,gC,gN,gi,gT⟩:=hC.obj _ I.ok.mod.kin;refine wpAny_Raise_call_subT (C:=C) (nm:=n1) (q:=q1) (N:=N1) (bs:=b1) (bm:=bm) (hdct:=d1) (sn:=s1) (sub:=u1) (ab:=a1) (col:=c1) (dd:=f1) (k0:=g0) (k1:=g1) (k2:=g2) (k3:=g3) (k5:=g5) PySem.F.excBase_ValueError (mN:=m1) (gT.hasType rfl) (I.ok.hd rfl) rfl gi
  (cS I hg hm ⟨rfl,?_⟩ hd)
 have ha:=(bu (X:=dw (si P w) P w K mg base N qual scope f cdv A outer s H E) (lO (x:=msg) (j:=j) (pos:=p1)) pa_nil) cpos π s2 σ H2 (λvs H'=>vs.length=1/\H'=H2) I ⟨rfl,rfl⟩;refine Calls.evalArgs_plain (wpAny_mono ha (λus s3 h3=>?_) λ_ _ y=>y);obtain⟨vs,H3,I3,rv,hl,rfl⟩:=h3;refine⟨rfl,?_,I3.bk _ _ gC,gN.keeps I3.bk,gT.keeps I3.bk,λh' a mx=>qB I3 mx (hE _ G ⟨I3.base.tups,λb o u q=>I3.base.frzs b o _ q⟩ hgG ht)⟩;show us.length<=sizeLine;rw[←rv.length,hl];decide
end
noncomputable def Rx (P:Program) (w:World) (K:PySem.W.Frag) (mg:Str->Option Value) (base:Heap) (x:Str) (ps:List Str) (k:Nat) (sp:cm) (dws:List W):Prop:=
 ∃(f:Addr) (fd:FuncData) (ds:List Value) (dvs:List V),wA P w K mg base k f fd ps sp/\mg x=some (.ref f)/\keepIn K (.ref f)=true/\ce K fd ps ds/\aN dvs ds/\∀H,aJ K H dws dvs
noncomputable abbrev Cx.xmk (X:Cx) (a:Addr) (oe:Obj):Cx:={ X with A:=X.A.mark (some (.ref a)),calm:=false,xe:=λ_ _=>False,pn:=(a,oe)::X.pn }
section
variable {X:Cx} {π:List (Addr×Obj)} {σ:St} {H:Hp} {s:Shared} {a:Addr} {oe:Obj}
theorem ay.xmk (I:ay X π σ H s) (e:s.heap.get? a=some oe) (n:H a=none) (hl:a≠X.env.locals) (hf:a∉X.fs) (hd:∀v,oe.data≠ .cell v):ay (X.xmk a oe) π σ H s:=
 ⟨⟨I.ok.mod,I.ok.kind,I.ok.glob,I.ok.blt,I.ok.above,I.ok.inj,I.ok.has,I.ok.cab,λz=>(Bool.false_ne_true z).elim,I.ok.frames,I.ok.stk,I.ok.exf,I.ok.bs,I.ok.bsz,I.ok.noex,I.ok.exfs,I.ok.funs,I.ok.frf⟩,I.os,I.bare,I.base,I.loc,I.cell,I.free,I.freeC,
   λp hp=>by
    rcases mem_cons.mp (show p∈(a,oe)::(X.pn++π) from hp) with z | z
    ·rw[z];exact⟨e,n,hl,hf,hd⟩
    ·exact I.pin p z,I.hok,I.len⟩
theorem ay.unx (I:ay (X.xmk a oe) π σ H s) (hh:X.calm=true->X.A.handled=none):ay X π σ H s:=
 ⟨⟨I.ok.mod,I.ok.kind,I.ok.glob,I.ok.blt,I.ok.above,I.ok.inj,I.ok.has,I.ok.cab,hh,I.ok.frames,I.ok.stk,I.ok.exf,I.ok.bs,I.ok.bsz,I.ok.noex,I.ok.exfs,I.ok.funs,I.ok.frf⟩,I.os,I.bare,I.base,I.loc,I.cell,I.free,I.freeC,
   λp hp=>I.pin p (mem_cons_of_mem _ hp),I.hok,I.len⟩
theorem SP.unx {D:dW} {f:Flow} {s':Shared} (h:SP (X.xmk a oe) π D f s') (hh:X.calm=true->X.A.handled=none):SP X π D f s':=by
 cases f with
 | next=>obtain⟨σ',H',I,q⟩:=h;exact⟨σ',H',I.unx hh,q⟩
 | brk=>obtain⟨σ',H',I,q⟩:=h;exact⟨σ',H',I.unx hh,q⟩
 | cont=>obtain⟨σ',H',I,q⟩:=h;exact⟨σ',H',I.unx hh,q⟩
 | ret u=>obtain⟨v,σ',H',I,r,q⟩:=h;exact⟨v,σ',H',I.unx hh,r,q⟩
end
noncomputable def QH (X:Cx) (C:Addr) (hs:List ExceptHandler) (th:WS):Prop:=
 ∀(π:List (Addr×Obj)) (s0:Shared) (σ:St) (H0:Hp) (s:Shared) (H:Hp) (a T:Addr) (D:dW),ay X π σ H0 s0->Fl X.prog X.w (dS X.stack) H0 H s0.heap s.heap a T (.ref C) .none->s.os=s0.os->AllBare s.gens->LS X.K th D σ H->
  wpAny (model X.prog X.w) X.A (handleBy (.ref a) X.env hs) (SP X π D) X.xe s
section
variable {X:Cx} {π:List (Addr×Obj)} {σ:St} {H0 H:Hp} {s0 s:Shared} {a T:Addr} {c fl:Value}
theorem Fl.inv (F:Fl X.prog X.w (dS X.stack) H0 H s0.heap s.heap a T c fl) (I:ay X π σ H0 s0) (os:s.os=s0.os) (bare:AllBare s.gens):ay X π σ H s:=I.call' (ch:=[]) os F.un F.hok bare λb z=>absurd z (by simp)
theorem ay.frmem (I:ay X π σ H s):∀b∈dS X.stack,H b=none/\∃o,s.heap.get? b=some o/\∀vs,o.data≠ .fields vs:=λb hb=>⟨I.stkFree b hb,(I.stack.mem hb).2⟩
theorem Fl.there (F:Fl X.prog X.w (dS X.stack) H0 H s0.heap s.heap a T c fl) (I:ay X π σ H0 s0):∃oe,s.heap.get? a=some oe/\oe.cls=c/\H a=none/\a≠X.env.locals/\a∉X.fs/\∀v,oe.data≠ .cell v:=by
 obtain⟨oe,vs,oT,ts,a0,e1,e2,e3,_⟩:=F.tr;refine⟨oe,e1,e2.1,F.ha,λz=>?_,λz=>?_,λv z=>by rw[e3] at z;cases z⟩
 ·obtain⟨m,⟨o,_,_,ho,_⟩,_⟩:=I.loc;rw[←z,F.na] at ho;cases ho
 ·obtain⟨_,o,ho,_⟩:=I.funs.mem z;rw[F.na] at ho;cases ho
theorem Fl.lands {M:Model} {Q:Unit->Shared->Prop} (F:Fl X.prog X.w (dS X.stack) H0 H s0.heap s.heap a T c fl) (I:ay X π σ H0 s0) (os:s.os=s0.os) (bare:AllBare s.gens)
 (h:∀h' T',Fl X.prog X.w (dS X.stack) H0 H s0.heap h' a T' c .none->Q () { s with heap:=h' }):wpAny M A (setFlight (.ref a) none) Q E s:=by
 have I1:=F.inv I os bare;obtain⟨a0,tr⟩:=F.traced;refine wpAny_setFlight_noneW (base:=hideAll s.heap (a::T::dS X.stack)) (λb o q=>of_hideAll _ q) (fL I1.stack λb z=> .tail _ (.tail _ z)) tr λh' k1 _ k3 k4=>?_;obtain⟨T',F'⟩:=F.move I1.frmem k1 k3 λb o e n=>⟨o.slots,k4 b o e n⟩;exact h h' T' F'
variable {C D:Addr} {bm bmD:List Value} {x:Str} {p pos:Pos} {name:Option Str} {body:List Stmt} {bJ:List ExceptHandler} {b0:Stmt} {th:WS}
theorem tj (hm:X.mg x=some (.ref D)) (hg:Gl X x) (hC:XC X.K C bm) (hD:XC X.K D bmD) (hs:mroIn X.K C (.ref D)=some true) (hb:∀a oe,oe.cls=.ref C->kK (X.xmk a oe) (b0::body) th) (hd:(x==("__debug__":Str))=false:=by decide):
 QH X C (.ExceptHandler (some (.Name x p)) none (b0::body) pos::bJ) th:=by
 intro π s0 σ H0 s H a T D' I0 F os bare hLS;have I:=F.inv I0 os bare;obtain⟨oe,e1,e2,e3,e4,e5,e6⟩:=F.there I0;refine wpAny_handleBy_cons (codeAny_handlers_test (cS (X:=X.xmk a oe) (I.xmk e1 e3 e4 e5 e6) hg hm ?_ hd)) (by intro q;cases q);refine js I.kIn hC hD e1 e2 hs ?_;refine codeAny_handlers_suite (F.lands I0 os bare λh' T' F'=>?_);have I':=Fl.inv (s:={ s with heap:=h' }) F' I0 os bare;obtain⟨oe',q1,q2,q3,q4,q5,q6⟩:=Fl.there (s:={ s with heap:=h' }) F' I0;exact wpAny_mono (hb a oe' q2 π _ σ H D' (I'.xmk q1 q3 q4 q5 q6) hLS) (λf s2 z=>z.unx I0.ok.hd) λ_ _ z=>z.elim
theorem eP {M:Model} {Q:Unit->Shared->Prop} {n:Str} (I:ay X π σ H s) (hN:X.N.Nodup) (hi:X.N[i]?=some n) (hl:X.env.scope.names.lookup n=some .local)
 (h:∀s',ay X π (σ.set i none) H s'->Q () s'):wpAny M A (do bindName X.env n .none;unbindBehindTheSuite X.env n pos) Q E s:=by
 obtain⟨m,hn,hlk⟩:=id I.loc;obtain⟨oL,_,_,hoL,_⟩:=id hn;refine wpAny_nameGoes_keeps hl hn (by rw[I.ok.kind];rfl) λh' v hn' hs=>h _ ?_;have ne0:∀b o,X.s₀.heap.get? b=some o->b≠X.env.locals:=λb o e=>ne_of_lt (lt_of_lt_of_le (Heap.lt_size e) I.ok.above);refine⟨I.ok,I.os,I.bare,⟨λb o e n hb hx=>?_,λb o e n hb hx=>?_,I.base.free,λb o e hx=>?_,I.base.tups,I.base.frzs,I.base.tbls⟩,⟨_,hn',λj y v' e1 e2 e3=>?_⟩,λy c e=>?_,I.free,I.freeC,λp hp=>?_,λb ob e=>?_,by simpa using I.len⟩
 ·exact(hs.2 b (ne0 b o e)).trans (I.base.keep b o e n hb hx)
 ·obtain⟨sl,z⟩:=I.base.slot b o e n hb hx;exact⟨sl,(hs.2 b (ne0 b o e)).trans z⟩
 ·obtain⟨o',z⟩:=I.base.there b o e hx;exact⟨o',(hs.2 b (ne0 b o e)).trans z⟩
 ·have hj:j≠i:=λz=>by
   subst z
   by_cases hjl:j<σ.length
   ·rw[List.getElem?_set_self hjl] at e2;cases e2
   ·rw[List.getElem?_eq_none (by simpa using hjl)] at e2;cases e2
  rw[List.getElem?_set_ne (Ne.symm hj)] at e2;obtain⟨u',r',q⟩:=hlk j y v' e1 e2 e3;refine⟨u',r',?_⟩;rcases q with⟨k,e⟩ | ⟨k,c,e,z⟩
  ·refine .inl ⟨k,?_⟩;have:y≠n:=λe=>hj (iq hN e1 (e▸hi));simp[this,e]
  ·exact .inr ⟨k,c,e,z.sameBut hs (I.cne y c e)⟩
 ·obtain⟨w',z⟩:=I.cell y c e;exact⟨w',z.sameBut hs (I.cne y c e)⟩
 ·obtain⟨e,n,ne,nf,d⟩:=I.pin p hp;exact⟨(hs.2 p.1 ne).trans e,n,ne,nf,d⟩
 ·refine(I.hok b ob e).stay (λx w' hc q=>(hs.2 x ?_).trans q) (λ_ q=>q) λ_ _ q=>q;intro z;rcases hc with hc | hc
  ·rw[←hc,z,I.free] at e;cases e
  ·rw[z,I.free] at hc;cases hc
theorem aX.drop {H:Hp} {τ:ck} {σ:St} (h:aX K H τ σ) (i:Nat):aX K H (τ.set i none) (σ.set i none):=by
 refine⟨by simpa using h.1,λj u e=>?_⟩
 by_cases hj:i=j
 ·subst hj
  by_cases hl:i<τ.length
  ·rw[List.getElem?_set_self hl] at e;cases e
  ·rw[List.getElem?_eq_none (by simpa using hl)] at e;cases e
 ·rw[List.getElem?_set_ne hj] at e;obtain⟨u',e1,r1⟩:=h.2 j u e;exact⟨u',by rw[List.getElem?_set_ne hj];exact e1,r1⟩
end
section
variable {X:Cx} {a:Addr} {oe:Obj} {C D:Addr} {bm bmD:List Value}
theorem gs {x y:V} (r:aN [x,y] us):∃u v,us=[u,v]/\aS x u/\aS y v:=by
 cases r with
 | cons r1 r=>
   cases r with
   | cons r2 r=>cases r;exact⟨_,_,rfl,r1,r2⟩
end
theorem XC.self {C:Addr} (x:XC K C bm):mroIn K C (.ref C)=some true:=by rw[x.mro];simp
theorem AX:PySem.W.kitMeta "ValueError"=true:=by decide+kernel
theorem wB:bootBuiltins "ValueError"=some (.type "ValueError"):=by decide+kernel
section
variable {prog:Program} {w:World} {A:Around} {R:Result->Shared->Prop} {I:Addr} {fp wr:List Addr} {n:Nat} {P:Nat->Value->Prop} {St:Nat->Heap->Prop} {kw:List (Str×Value)}
theorem o6 (a d:Value):argsOk "max" ⟨[a],[("default",d)]⟩:=by unfold argsOk;kernel_rfl
theorem yT (W:Walks prog w A.in1 I fp wr n P St) (bt:Nat->Nat->Bool) (hcmp:CmpOf prog w A.in1 .Gt P bt) (S:Addr) (hSf:S∉fp):
 ∀(k j:Nat) (s:Shared) (vb:Value) (c:Nat),n- (j+1)=k->j+1<=n->St (j+1) s.heap->P (argBest bt j) vb->s.heap.get? S=some { cls:= .type "list",dict:=none,data:= .seq #[vb,vb] c,slots:= #[] }->
  (∀v h' tk,P (argBest bt (n-1)) v->(∀b o,b∉wr->b≠S->s.heap.get? b=some o->h'.get? b=some o)->R (.ok (.ret v)) { s with heap:=h',toks:=tk })->
  codeAny (model prog w) A (.builtin "max.loop" ⟨[.ref I,.none,.ref S],kw⟩) R s:=by
 have nw:S∉wr:=λz=>hSf (W.sub _ z);have nm:(toString "max"++toString ".loop":String)="max.loop":=by decide
 intro k
 induction k with
 | zero=>
   intro j s vb c hk hj hst hb hS hR;have hin:j+1=n:=by lia
   refine(codeAny_builtin F.entry_max_loop ?_);rw[Around.under_plainId F.plain_max_loop _];show wpAny _ A.in1 (seqItems? (Value.ref S) >>= _) _ _ s;refine wax (wpAny_seqItems hS rfl (?_:wpAny _ A.in1 (tryCatch (pyNext (.ref I)) _ >>= _) _ _ s));refine wax (wpAny_tryCatch (W.done s _ _ (hin▸hst) λh1 tk k1=>(?_:wpAny _ A.in1 (updateSeq S (λ_=> #[]) >>= _) _ _ _)));refine wax (wpAny_updateSeq (k1 S _ nw hS) rfl (wax (wpAny_letGo (waz ?_))));exact hR vb _ tk (by rw[←hin];exact hb) λb o n1 n2 e=>(Heap.get?_update_other _ _ (Ne.symm n2)).trans (k1 b o n1 e)
 | succ k ih=>
   intro j s vb c hk hj hst hb hS hR;have hlt:j+1<n:=by lia
   refine(codeAny_builtin F.entry_max_loop ?_);rw[Around.under_plainId F.plain_max_loop _];show wpAny _ A.in1 (seqItems? (Value.ref S) >>= _) _ _ s;refine wax (wpAny_seqItems hS rfl (?_:wpAny _ A.in1 (tryCatch (pyNext (.ref I)) _ >>= _) _ _ s));refine wax (wpAny_tryCatch (W.item (j+1) s _ _ hlt hst λv h1 tk hP hst1 k1=>(?_:wpAny _ A.in1 (tryCatch (holding [v,v] (richCompare .Gt v vb >>= _)) _ >>= _) _ _ _)));have hS1:=k1 S _ nw hS;refine wax (wpAny_tryCatch (wpAny_holding (wax (hcmp (j+1) (argBest bt j) v vb _ _ _ hP hb (wax (wpAny_holding (wpAny_truthy_bool (wax (wpAny_letGo (waz ?_))))))))));cases e0:bt (j+1) (argBest bt j) with
   | true=>
     simp only[if_true];refine wax (wpAny_updateSeq hS1 rfl (wax (wpAny_letGo ?_)));rw[nm];refine waz ⟨plainId_quiet F.plain_max_loop _,ih (j+1) _ v _ (by (clear hj;lia)) hlt (W.frame _ _ _ hst1 λb hf o e=>?_) (by simp only[argBest,e0,if_true];exact hP) (Heap.get?_update_self _ hS1 rfl) λv2 h2 tk2 hP2 k2=>?_⟩
     ·exact(Heap.get?_update_other _ _ (λz:S=b=>hSf (by rw[z];exact hf))).trans e
     ·exact hR v2 h2 tk2 hP2 λb o n1 n2 e=>k2 b o n1 n2 ((Heap.get?_update_other _ _ (Ne.symm n2)).trans (k1 b o n1 e))
   | false=>
     simp only[if_false,Bool.false_eq_true];refine wax (wpAny_letGo ?_);rw[nm];refine waz ⟨plainId_quiet F.plain_max_loop _,ih (j+1) _ vb c (by (clear hj;lia)) hlt hst1 (by simp only[argBest,e0,if_false,Bool.false_eq_true];exact hb) hS1 λv2 h2 tk2 hP2 k2=>?_⟩;exact hR v2 h2 tk2 hP2 λb o n1 n2 e=>k2 b o n1 n2 (k1 b o n1 e)
end
section
variable {prog:Program} {w:World} {A:Around} {E:Value->Shared->Prop} {s:Shared} {l:Addr} {xs:Array (Int×Tok)} {d:Value}
theorem o7 (hh:A.handled=none) (hl:s.heap.IsList l (intItems xs))
 (h0:xs.size=0->∀h' tk,(∀b o,s.heap.get? b=some o->h'.get? b=some o)->Q d { s with heap:=h',toks:=tk })
 (h1:0<xs.size->∀v h' tk,(intItems xs)[argBest (λi j=>decide (numAt xs i > numAt xs j)) (xs.size-1)]?=some v->(∀b o,s.heap.get? b=some o->h'.get? b=some o)->Q v { s with heap:=h',toks:=tk }):
 wpAny (model prog w) A (call (.builtin "max") [.ref l] [("default",d)]) Q E s:=by
 have nm:(toString "max"++toString ".loop":String)="max.loop":=by decide
 have body:wpAny (model prog w) A.in1 (Builtin.«max» ⟨[.ref l],[("default",d)]⟩) (λfin s'=>match fin with
  | .done f=>(match (Except.ok f:Result) with | .ok (.ret v)=>Q v s' | .ok _=>False | .error e=>E e s')
  | .again c'=>c'.quiet=true/\codeAny (model prog w) A c' (λr s'=>match r with | .ok (.ret v)=>Q v s' | .ok _=>False | .error e=>E e s') s') E s:=by
  show wpAny _ A.in1 (Builtin.Builtins.bindParams "max" ["key","default"] 0 ⟨[],[("default",d)]⟩ >>= _) _ _ s;refine wax (wpAny_of_eq (show Builtin.Builtins.bindParams "max" ["key","default"] 0 ⟨[],[("default",d)]⟩=pure [none,some d] from rfl) (wax (waz (wax (iter_intList hl λs2 e st hfp hlI=>?_)))));subst e;have Wk:=Walks.list (prog:=prog) (w:=w) (A:=A.in1) hh s.heap.objs.size l hlI (intItems xs);refine wax (wpAny_newObj_type ?_);rw[nm];have hSf:(s.heap.push { cls:= .type "list_iterator",data:= .fields #[.ref l,.int 0 0] }).objs.size∉[s.heap.objs.size,l]:=λz=>lt_irrefl _ (hfp _ z);have nw:(s.heap.push { cls:= .type "list_iterator",data:= .fields #[.ref l,.int 0 0] }).objs.size∉[s.heap.objs.size]:=λz=>hSf (Wk.sub _ z);have st1:=Wk.frame _ _ _ st λb _ o e=>Heap.get?_push_of_some (h:=s.heap.push { cls:= .type "list_iterator",data:= .fields #[.ref l,.int 0 0] }) { cls:= .type "list",data:= .seq #[] } e;have hS:((s.heap.push { cls:= .type "list_iterator",data:= .fields #[.ref l,.int 0 0] }).push { cls:= .type "list",data:= .seq #[] }).get? (s.heap.push { cls:= .type "list_iterator",data:= .fields #[.ref l,.int 0 0] }).objs.size=some { cls:= .type "list",dict:=none,data:= .seq #[] 0,slots:= #[] }:=Heap.get?_push_size _ rfl;have old:∀b o,s.heap.get? b=some o->b∉[s.heap.objs.size]/\b≠(s.heap.push { cls:= .type "list_iterator",data:= .fields #[.ref l,.int 0 0] }).objs.size/\((s.heap.push { cls:= .type "list_iterator",data:= .fields #[.ref l,.int 0 0] }).push { cls:= .type "list",data:= .seq #[] }).get? b=some o:=λb o e=>by
   have hb:=Heap.lt_size e;refine⟨λz=>?_,λz=>?_,Heap.get?_push_of_some _ (Heap.get?_push_of_some _ e)⟩
   ·rw[mem_singleton.mp z] at hb;exact lt_irrefl _ hb
   ·rw[z,Heap.size_push] at hb;exact absurd hb (Nat.not_lt.mpr (Nat.le_succ _))
  refine waz ⟨plainId_quiet F.plain_max_loop _,?_⟩;refine(codeAny_builtin F.entry_max_loop ?_);rw[Around.under_plainId F.plain_max_loop _];show wpAny _ A.in1 (seqItems? (Value.ref (s.heap.push { cls:= .type "list_iterator",data:= .fields #[.ref l,.int 0 0] }).objs.size) >>= _) _ _ _;refine wax (wpAny_seqItems hS rfl (?_:wpAny _ A.in1 (tryCatch (pyNext (.ref s.heap.objs.size)) _ >>= _) _ _ _));have hsz:(intItems xs).size=xs.size:=by simp[intItems]
  by_cases hz:xs.size=0
  ·refine wax (wpAny_tryCatch (Wk.done _ _ _ ((hsz.trans hz).symm▸st1) λh' tk k1=>?_));refine wax (wpAny_rule (waz ?_));exact h0 hz h' tk λb o e=>k1 b o (old b o e).1 (old b o e).2.2
  ·have hp:0<xs.size:=Nat.pos_of_ne_zero hz;refine wax (wpAny_tryCatch (Wk.item 0 _ _ _ (by rw[hsz];exact hp) st1 λv h' tk hP hst' k1=>(?_:wpAny _ A.in1 (updateSeq (s.heap.push { cls:= .type "list_iterator",data:= .fields #[.ref l,.int 0 0] }).objs.size (λ_=> #[v,v]) >>= _) _ _ _)));have hS1:=k1 _ _ nw hS;refine wax (wpAny_updateSeq hS1 rfl ?_);rw[nm];refine waz ⟨plainId_quiet F.plain_max_loop _,yT Wk _ (CmpOf.ints_gt (numAt xs) λ_ _=>intItems_at) _ hSf _ 0 _ v _ rfl (by rw[hsz];exact hp) (Wk.frame _ _ _ hst' λb hf o e=>?_) hP (Heap.get?_update_self _ hS1 rfl) λv2 h2 tk2 hP2 k2=>?_⟩
   ·exact(Heap.get?_update_other _ _ (λz=>hSf (by rw[z];exact hf))).trans e
   ·refine h1 hp v2 h2 tk2 (by rw[←hsz];exact hP2) λb o e=>k2 b o (old b o e).1 (old b o e).2.1 ((Heap.get?_update_other _ _ (Ne.symm (old b o e).2.1)).trans (k1 b o (old b o e).1 (old b o e).2.2))
 have ha:=o6 (.ref l) d;refine wpAny_call (codeAny_call_builtin F.plain_max F.entry_max ?_);simp only[F.kind_max,checkBuiltinCall];cases sg:Manifest.signature? "max" with
 | none=>exact waz body
 | some sig=>
   simp only[argsOk,sg] at ha;show wpAny _ A.in1 (Bind.checkArgs "max" sig ⟨[.ref l],[("default",d)]⟩) _ _ s;rw[show Bind.checkArgs "max" sig ⟨[.ref l],[("default",d)]⟩=pure () from ha];exact waz body
end
section
variable {X:Cx}
noncomputable def u6 (te:WE) (d:Int):WE:=λτ G q=>te τ G λx G1=>match x with
 | .ref a=>∃ns:List Int,G1 a=some (.lst (ns.map W.int))/\(ns=[]->q (.int d) G1)/\∀m:Int,m∈ns->(∀x,x∈ns->x<=m)->q (.int m) G1
 | _=>False
theorem tm {te:WE} {d:Int} {j} {p pos kp cp:Pos} (hc:X.calm=true) (hg:Gl X "max") (hm:X.mg "max"=none) (he:QE X e te)
 (hs1:starEach [e] X.env=(false,eval e X.env)::starEach [] X.env:=by rfl) (hb1:backTo pos (starEach [e] X.env)=(false,eval e X.env)::backTo pos (starEach [] X.env):=by rfl) (hpl:(backTo pos (starEach [e] X.env)).any (·.1)=false:=by rfl):
 QE X (.Call (.Name "max" p) [e] [⟨some "default",.Constant (.int d) j cp,kp⟩] pos) (u6 te d):=by
 rintro π s σ H Q I ⟨τ,G,q,hs,hgG,ht,hQ⟩;refine wpAny_Call_Name_kw (fe I hg hm yL ?_);have go:=(bu he pa_nil hs1) pos π s σ H (λvs H1=>∃v w G1,vs=[v]/\aH H H1/\bI X.K H1 w v/\aD X.K H1 G1/\(match w with
  | .ref a=>∃ns:List Int,G1 a=some (.lst (ns.map W.int))/\(ns=[]->q (.int d) G1)/\∀m:Int,m∈ns->(∀x,x∈ns->x<=m)->q (.int m) G1
  | _=>False)) I ⟨τ,G,_,hs,hgG,ht,λv H1 w G1 t1 r1 g1 q1=>⟨v,w,G1,rfl,t1,r1,g1,q1⟩⟩
 refine callWith_kw (bN go λus s1 ⟨vs,H1,I1,rv,v,w,G1,ev,t1,rw1,g1,hw⟩=>kws_cons ?_) hb1 hpl rfl rfl;subst ev;refine bN (pM (X:=X) (i:=d) (j:=j) (pos:=cp) π s1 σ H1 (λv H2=>v=.int d/\H2=H1) I1 ⟨rfl,rfl⟩) λu2 s2 ⟨v2,H2,I2,rv2,e1,e2⟩=>kws_nil ?_;subst e1 e2;obtain⟨td,rfl⟩:=rv2;show wpAny _ _ (call (.builtin "max") us [("default",.int d td)]) _ _ s2;split at hw
 ·rename_i a;obtain⟨ns,e,h0,h1⟩:=hw;cases rw1;obtain⟨_,zs,e1,rr⟩:=g1 a _ e;obtain rfl:=rr.ints_of;obtain⟨u,rfl,ru⟩:=dM rv;cases (show u=Value.ref a from ru);obtain⟨its,ri,pl,hz⟩:=I2.list (cR.of e1);have hi:IntsAre its ns:=L2.intsAre_of ri;obtain⟨ys,ey⟩:=hi.allInts.items;have hn:(ys.toList.map (·.1))=ns:=by rw[←nums_intItems,←ey,←hi.numsOf]
  have hl:s2.heap.IsList a (intItems ys):=by rw[←ey];exact pl.isList
  have hsz:ys.size=ns.length:=by rw[←hn];simp
  refine o7 (I2.ok.hd hc) hl (λhz h' tk hk=>⟨.int d,H2,I2.kept hk,⟨_,rfl⟩,hQ _ H2 _ G1 t1 (.int _) g1 (h0 ?_)⟩) λhpos v h' tk hv hk=>?_
  ·exact List.eq_nil_of_length_eq_zero (hsz.symm.trans hz)
  ·have ab:=argBest_gt (numAt ys) (ys.size-1);generalize argBest (λi j=>decide (numAt ys i > numAt ys j)) (ys.size-1)=ix at hv ab;have hix:ix<ys.size:=by (clear hz hv;lia)
   have hna:∀j (hj:j<ys.size),numAt ys j=ns[j]'(by (clear hz hpos hv ab hix;lia)):=λj hj=>by
    unfold numAt;rw[Array.getElem?_eq_getElem hj];simp[←hn]
   have hv2:v=Value.int (ys[ix].1) (ys[ix].2):=by
    unfold intItems at hv;rw[Array.getElem?_map,Array.getElem?_eq_getElem hix] at hv;simpa using hv.symm
   have hm:ys[ix].1=ns[ix]'(by (clear hz hpos hv ab hv2;lia)):=by
    have:=hna ix hix;unfold numAt at this;rw[Array.getElem?_eq_getElem hix] at this;simpa using this
   rw[hm] at hv2;subst hv2;refine⟨.int _,H2,I2.kept hk,⟨_,rfl⟩,hQ _ H2 _ G1 t1 (.int _) g1 (h1 _ (List.getElem_mem _) λx hx=>?_)⟩;obtain⟨j,hj,rfl⟩:=List.mem_iff_getElem.mp hx;have:=ab.2 j (by (clear hz ab hm hv;lia));rw[hna j (by (clear hz hpos ab hm hv this;lia)),hna ix hix] at this;exact this
 ·exact hw.elim
end
section
variable {P:Program} {w:World} {K:PySem.W.Frag} {mg:Str->Option Value} {base:Heap} {N:List Str} {qual:Str} {scope:Scope} {f:Addr} {cdv:Value} {A:Around} {outer:List Env} {s:Shared} {H:Hp} {E:XK}
end
section
variable {X:Cx} {π:List (Addr×Obj)} {σ:St} {H:Hp} {s:Shared}
theorem ay.big (I:ay X π σ H s):sysModules<s.heap.objs.size:=by
 have h:mainGlobals<s.heap.objs.size:=(I.mod.glob.keeps I.bk).lt;exact Nat.lt_trans (by decide) h
end
section
variable {prog:Program} {w:World} {A:Around} {E:Value->Shared->Prop} {s:Shared} {I l:Addr} {items:Array Value}
end
section
variable {X:Cx}
end
section
variable {X:Cx} {tg:Expr}
noncomputable def AY (i j:Int):Prop:=0<=j/\j<=1000/\i.natAbs<2^4000
noncomputable def qE (i j:Int):Prop:=vI i j∨AY i j
noncomputable abbrev yU:W2:=vInt qE λi j=> .int (i^j.toNat)
theorem tq:hJ X (binaryOp .Pow) (rI qE λi j=> .int (i^j.toNat)):=Ad λi j _ _ _ _ _ hc q=>by
 rcases hc with hc | ⟨h0,h1,h2⟩
 ·exact pow_int_small hc.1 hc.2.1 hc.2.2 q
 ·refine pow_int h0 ?_ q;have b1:=PyProof.Rows.intBits_le h2;have b2:(Builtin.Int.intBits i:Int)*j<=4000*1000:=Int.mul_le_mul (by (clear h0 h1 h2;lia)) h1 h0 (by decide);have hb:(4000000:Int)<=bitsLine:=by decide
  first | (clear h0 h1 h2 b1 hb;lia) | (simp[Builtin.Int.intTooBig];lia)
theorem mz:fF X (binaryOp .Pow) yU:=me tq
end
section
variable {X:Cx} {C:Addr} {th:WS} {x:Str} {p pos:Pos}
end
section
variable {X:Cx}
end
theorem gz:fillsNumberSlot (.type "tuple") "mul"=pure false:=
 PySem.fillsNumberSlot_seq (id:="tuple.__mul__") (r:=some (.builtin "tuple.__rmul__")) F.slot_tuple_mul.lookup (by decide+kernel) F.slot_tuple_rmul.lookup (by decide+kernel)
theorem jX:seqRepeat? (.type "tuple")=pure (some (.builtin "tuple.__mul__")):=by
 unfold seqRepeat?;rw[PySem.seqSlot_of (T:="tuple") (name:="__mul__") (id:="tuple.__mul__") F.slot_tuple_mul.lookup (by decide+kernel),PySem.seqSlot_of (T:="tuple") (name:="__rmul__") (id:="tuple.__rmul__") F.slot_tuple_rmul.lookup (by decide+kernel)]
 rfl
theorem iH (a:Int) (t:Tok) (l:Addr) (items:Array Value) (n:Nat) (dd:Option Addr) (sl:Array (Option Value)):
 Meets (Builtin.«int.__rmul__» ⟨[.int a t,.ref l],[]⟩) (λ_ R s=>s.heap.get? l=some { cls:= .type "tuple",dict:=dd,data:= .seq items n,slots:=sl }/\R (.ok (.ret Value.notImplemented)) s):=
 .of_wp λprog w A R s h=>by obtain⟨hp,g,d,tk,os⟩:=s;obtain⟨hl,h⟩:=h;wp_walk;exact⟨_,rfl,h⟩
theorem mB (l:Addr) (items:Array Value) (n:Nat) (dd:Option Addr) (sl:Array (Option Value)) (u:Tok):
 Meets (Builtin.«tuple.__mul__» ⟨[.ref l,.int 1 u],[]⟩) (λ_ R s=>s.heap.get? l=some { cls:= .type "tuple",dict:=dd,data:= .seq items n,slots:=sl }/\R (.ok (.ret (.ref l))) s):=
 .of_wp λprog w A R s h=>by
  obtain⟨hp,g,d,tk,os⟩:=s;obtain⟨hl,h⟩:=h
  wp_walk
  exact⟨_,rfl,h⟩
theorem mD (l:Addr) (items:Array Value) (n:Nat) (dd:Option Addr) (sl:Array (Option Value)) (x:Int) (u:Tok) (h0:items.isEmpty=false) (h1:(x==1)=false) (h2:0<x) (hf:(decide (x< -(2^63))||decide (x≥2^63))=false) (hm:decide ((items.size:Int)*x > (2^63-1)/8)=false) (ht:Builtin.Tuple.tupleTooMany ((items.size:Int)*x)=false) (hsz:((List.replicate x.toNat items).foldl (·++ ·) #[]).size<=sizeLine):
 Meets (Builtin.«tuple.__mul__» ⟨[.ref l,.int x u],[]⟩) (λ_ R s=>s.heap.get? l=some { cls:= .type "tuple",dict:=dd,data:= .seq items n,slots:=sl }/\R (.ok (.ret (.ref s.heap.objs.size))) { s with heap:=s.heap.push { cls:= .type "tuple",data:= .seq ((List.replicate x.toNat items).foldl (·++ ·) #[]) } }):=
 .of_wp λprog w A R s h=>by
  obtain⟨hp,g,d,tk,os⟩:=s;obtain⟨hl,h⟩:=h;have c1:(items.isEmpty||x==1)=false:=by rw[h0,h1];rfl
  have c2:(decide (x<=0)||items.isEmpty)=false:=by rw[h0,decide_eq_false (by (clear hf hm hsz;lia))];rfl
  wp_walk
  refine wpAny_ite_false (by rw[hf];rfl) ?_
  wp_walk
  refine wpAny_ite_false hm ?_
  wp_walk
  exact⟨_,rfl,h⟩
theorem mE (l:Addr) (items:Array Value) (n:Nat) (dd:Option Addr) (sl:Array (Option Value)) (u:Tok) (h0:items.isEmpty=false):
 Meets (Builtin.«tuple.__mul__» ⟨[.ref l,.int 0 u],[]⟩) (λ_ R s=>s.heap.get? l=some { cls:= .type "tuple",dict:=dd,data:= .seq items n,slots:=sl }/\R (.ok (.ret (.ref s.heap.objs.size))) { s with heap:=s.heap.push { cls:= .type "tuple",data:= .seq #[] } }):=
 .of_wp λprog w A R s h=>by
  obtain⟨hp,g,d,tk,os⟩:=s;obtain⟨hl,h⟩:=h;have c1:(items.isEmpty||(0:Int)==1)=false:=by rw[h0];rfl
  wp_walk
  exact⟨_,rfl,h⟩
section
variable {X:Cx}
noncomputable def yV (K:PySem.W.Frag):R2:=λx y H Q=>∃a k xs,x=.ref a/\y=.int k/\du K H a xs/\xs≠[]/\0<=k/\k<=100000/\xs.length*k.toNat<=sizeLine/\
 (k=1->Q (.ref a) H)/\(k≠1->∀p,H p=none->Q (.ref p) (upd H p (.tup (List.replicate k.toNat xs).flatten)))
theorem tu:hJ X (binaryOp .Mult) (yV X.K):=by
 intro π s σ H x y v u Q I rx ry h;obtain⟨a,k,xs,rfl,rfl,ha,hx,h0,h1,hz,q1,q2⟩:=h;cases rx;obtain⟨t,rfl⟩:=ry;obtain⟨its,r1,p1,_⟩:=I.tuple ha;have hl:=r1.length;obtain⟨⟨cls,dd,data,sl⟩,ho,hc,n,hd⟩:=id p1;simp only at hc hd;subst hc hd;have he:its.toArray.isEmpty=false:=by
  cases its with
  | nil=>exact absurd (r1.nil_iff.mp rfl) hx
  | cons _ _=>rfl
 refine wpAny_binaryOp_repeat_ref (T:="tuple") (U:="int") (by decide) ⟨_,ho,rfl⟩ (λs'=>typeIs_int s' k t) gz F.fills_int_mul F.slot_int_rmul jX F.slot_int_index.lookup
  (call_meets F.slot_int_rmul (typeIs_int s k t) F.entry_int_rmul (F.args_int_rmul_2 _ _) (iH k t a its.toArray n dd sl) ⟨ho,rfl,⟨_,ho,rfl⟩,?_⟩)
 by_cases hk1:k=1
 ·subst hk1;exact call_meets F.slot_tuple_mul ⟨_,ho,rfl⟩ F.entry_tuple_mul (F.args_tuple_mul_2 _ _) (mB a its.toArray n dd sl t) ⟨ho,⟨.ref a,H,I,rfl,q1 rfl⟩⟩
 ·by_cases hk0:k=0
  ·subst hk0;refine call_meets F.slot_tuple_mul ⟨_,ho,rfl⟩ F.entry_tuple_mul (F.args_tuple_mul_2 _ _) (mE a its.toArray n dd sl t he) ⟨ho,?_⟩;refine⟨.ref s.heap.objs.size,_,I.laid (t':=s.toks) (o:= .tup []) (λb ob q=>Heap.get?_push_of_some _ q) (le_refl _) ?_,rfl,q2 (by decide) _ (I.hok.fresh (le_refl _))⟩;exact⟨zero_le _,[],.nil,IsTup.new _ _⟩
  ·have hsz:(its.toArray.size:Int)*k<=(sizeLine:Int):=by
    rw[size_toArray,←hl,←Int.toNat_of_nonneg h0]
    exact_mod_cast hz
   have hnew:List.foldl (λx1 x2=>x1++x2) #[] (List.replicate k.toNat its.toArray)=(List.replicate k.toNat its).flatten.toArray:=by
    have:=fZ its k.toNat [];rw[nil_append] at this;exact this
   refine call_meets F.slot_tuple_mul ⟨_,ho,rfl⟩ F.entry_tuple_mul (F.args_tuple_mul_2 _ _) (mD a its.toArray n dd sl k t he (by simpa using hk1) (by (clear hz hl hk1 hsz;lia)) ?_ ?_ ?_ ?_) ⟨ho,?_⟩
   ·rw[decide_eq_false (by (clear hz hl hk1 hk0 hsz;lia)),decide_eq_false (by (clear hz hl hk1 hk0 hsz;lia))];rfl
   ·refine decide_eq_false (Int.not_lt.mpr (Int.le_trans hsz ?_));decide
   ·unfold Builtin.Tuple.tupleTooMany;exact decide_eq_false (Int.not_lt.mpr hsz)
   ·rw[hnew,size_toArray,ib,Nat.mul_comm,←hl];exact hz
   ·rw[hnew];refine⟨.ref s.heap.objs.size,_,I.laid (t':=s.toks) (o:= .tup (List.replicate k.toNat xs).flatten) (λb ob q=>Heap.get?_push_of_some _ q) (le_refl _) ?_,rfl,q2 hk1 _ (I.hok.fresh (le_refl _))⟩;exact⟨by rw[ib,Nat.mul_comm];exact hz,_,r1.rep k.toNat,IsTup.new _ _⟩
end
section
variable {X:Cx}
end
noncomputable abbrev sj:=Addr->ck->Gp->Prop
noncomputable def XP (X:Cx) (π:List (Addr×Obj)) (H:Hp) (ex:sj) (e:Value) (s':Shared):Prop:=
 ∃a T C H0 s0 σ H' τ G,e=.ref a/\ay X π σ H0 s0/\Fl X.prog X.w (dS X.stack) H0 H' s0.heap s'.heap a T (.ref C) .none/\s'.os=s0.os/\AllBare s'.gens/\aH H H'/\aX X.K H' τ σ/\aD X.K H' G/\ex C τ G
noncomputable def QY (X:Cx) (st:Stmt) (t:sj->WS):Prop:=
 ∀(ex:sj) (π:List (Addr×Obj)) (s:Shared) (σ:St) (H:Hp) (D:dW),ay X π σ H s->LS X.K (t ex) D σ H->wpAny (model X.prog X.w) X.A (exec st X.env) (SP X π D) (XP X π H ex) s
noncomputable def BP (X:Cx) (st:List Stmt) (t:sj->WS):Prop:=
 ∀(ex:sj) (π:List (Addr×Obj)) (s:Shared) (σ:St) (H:Hp) (D:dW),ay X π σ H s->LS X.K (t ex) D σ H->wpAny (model X.prog X.w) X.A (execs st X.env) (SP X π D) (XP X π H ex) s
section
variable {X:Cx} {x:Str} {p pos:Pos}
theorem nK {t:sj->WS} (h:QY X st t):BP X [st] t:=by
 intro ex π s σ H D I hl;refine wpAny_execs_cons (bN (h ex π s σ H D I hl) λf s1 q=>?_);cases f with
 | next=>exact wpAny_execs_nil q
 | ret v=>exact q
 | brk=>exact q
 | cont=>exact q
noncomputable def qF (i:Nat) (sp:cm) (dws:List W) (t:WA):sj->WS:=λex d τ G=>t τ G λws G1=>sp (ws++dws) G1 (λv G2=>d.nx (τ.set i (some v)) G2) λc G2=>∀C,c=.ref C->ex C τ G2
theorem wD (i:Nat) {y:Str} {sp:cm} {dws:List W} {t:WA} {cpos epos ypos:Pos} (hnx:∀e s,¬X.xe e s)
 (hN:X.N.Nodup) (hi:X.N[i]?=some y) (hy:uJ X.env.scope y)
 (F:Rx X.prog X.w X.K X.mg X.base x ps k sp dws) (hr:aR k X.A) (hg:Gl X x) (ha:QA X (e::es) t) (hdb:(x==("__debug__":Str))=false:=by decide)
 (he:starEach (e::es) X.env=(false,eval e X.env)::starEach es X.env:=by rfl) (hpl:(backTo cpos (starEach es X.env)).any (·.1)=false:=by rfl) (hsw:swapsWith (.Call (.Name x p) (e::es) [] cpos) (some (.Name y ypos)) epos.line X.env=pure false:=by rfl)
 (hf:X.fn y=true∨X.env.scope.names.lookup y=some .local:=by first | exact .inl rfl | exact .inr rfl | assumption):
 QY X (.Assign [.Name y ypos] (.Call (.Name x p) (e::es) [] cpos) epos) (qF i sp dws t):=by
 rintro ex π s σ H D I ⟨τ,G,d,rs,rg,ht,l⟩;obtain⟨f,fd,ds,dvs,F,hm,hk,hb,hd,hrep⟩:=F;refine wpAny_Assign_Name (wpAny_Call_Name_kw (cS I hg hm ?_ hdb)) hsw;have go:=ha cpos π s σ H (λvs H1=>sQ X.K sp (vs++dvs) H1 (λv H2=>D.nx (σ.set i (some v)) H2) λc _ H2=>∀C,c=.ref C->aH H H2/\∃G2,aX X.K H2 τ σ/\aD X.K H2 G2/\ex C τ G2) I ⟨τ,G,_,rs,rg,ht,λvs H1 ws G1 t1 r1 g1 q1=>
  ⟨ws++dws,G1,_,_,r1.append (hrep H1),g1,q1,λv H2 w G2 t2 r2 g2 q2=>l.nx _ H2 _ G2 (t1.trans t2) ((rs.mono (t1.trans t2)).set r2 i) g2 q2,
    λc dd H2 G2 t2 g2 q2 C ec=>⟨t1.trans t2,G2,rs.mono (t1.trans t2),g2,q2 C ec⟩⟩⟩
 refine PySem.W.callWith_K (h₀:=X.base) I.ok.mod.kin hk (wpAny_mono go (λus s1 h1=>?_) λe s1 z=>(hnx e s1 z).elim) he hpl;obtain⟨vs,H1,I1,r,q⟩:=h1;refine⟨I1.kIn,?_⟩;have r2:aN (vs++dvs) (us++ds):=r.append hd;have hl:(us++ds).length=ps.length:=by rw[←r2.length];exact F.len _ _ _ _ q
 refine wpAny_call (codeAny_mono (F.run X.A X.stack s1 H1 ⟨us,[]⟩ (us++ds) (vs++dvs) _ _ hr I1.env0 (hb s1 us I1.kIn hl) r2 q) λr s' hq=>?_);cases r with
 | ok fl=>
   cases fl with
   | ret u=>
     obtain⟨v,H',I',rv,q'⟩:=I1.after hq;exact fA I' hN hi hy rv (λs2 I2=>⟨_,H',I2,q'⟩) hf
   | next=>exact False.elim hq
   | brk=>exact False.elim hq
   | cont=>exact False.elim hq
 | error e=>
   obtain⟨a,T,C',H',rfl,os,bare,F1,hx⟩:=hq;obtain⟨tl,G2,rs2,rg2,hx⟩:=hx C' rfl;exact⟨a,T,C',H1,s1,σ,H',τ,G2,rfl,I1,F1,os,bare,tl,rs2,rg2,hx⟩
noncomputable def yW (sp:cm) (dws:List W) (t:WA):sj->WS:=λex d τ G=>t τ G λws G1=>sp (ws++dws) G1 (λ_ G2=>d.nx τ G2) λc G2=>∀C,c=.ref C->ex C τ G2
theorem yX {sp:cm} {dws:List W} {t:WA} {cpos epos:Pos} (hnx:∀e s,¬X.xe e s)
 (F:Rx X.prog X.w X.K X.mg X.base x ps k sp dws) (hr:aR k X.A) (hg:Gl X x) (ha:QA X (e::es) t) (hdb:(x==("__debug__":Str))=false:=by decide)
 (he:starEach (e::es) X.env=(false,eval e X.env)::starEach es X.env:=by rfl) (hpl:(backTo cpos (starEach es X.env)).any (·.1)=false:=by rfl) (hsw:swapsWith (.Call (.Name x p) (e::es) [] cpos) none epos.line X.env=pure false:=by rfl):
 QY X (.Expr (.Call (.Name x p) (e::es) [] cpos) epos) (yW sp dws t):=by
 rintro ex π s σ H D I ⟨τ,G,d,rs,rg,ht,l⟩;obtain⟨f,fd,ds,dvs,F,hm,hk,hb,hd,hrep⟩:=F;refine wpAny_Expr_any (wpAny_Call_Name_kw (cS I hg hm ?_ hdb)) I.quiet hsw;have go:=ha cpos π s σ H (λvs H1=>sQ X.K sp (vs++dvs) H1 (λ_ H2=>D.nx σ H2) λc _ H2=>∀C,c=.ref C->aH H H2/\∃G2,aX X.K H2 τ σ/\aD X.K H2 G2/\ex C τ G2) I ⟨τ,G,_,rs,rg,ht,λvs H1 ws G1 t1 r1 g1 q1=>
  ⟨ws++dws,G1,_,_,r1.append (hrep H1),g1,q1,λv H2 w G2 t2 r2 g2 q2=>l.nx σ H2 τ G2 (t1.trans t2) (rs.mono (t1.trans t2)) g2 q2,
    λc dd H2 G2 t2 g2 q2 C ec=>⟨t1.trans t2,G2,rs.mono (t1.trans t2),g2,q2 C ec⟩⟩⟩
 refine PySem.W.callWith_K (h₀:=X.base) I.ok.mod.kin hk (wpAny_mono go (λus s1 h1=>?_) λe s1 z=>(hnx e s1 z).elim) he hpl;obtain⟨vs,H1,I1,r,q⟩:=h1;refine⟨I1.kIn,?_⟩;have r2:aN (vs++dvs) (us++ds):=r.append hd;have hl:(us++ds).length=ps.length:=by rw[←r2.length];exact F.len _ _ _ _ q
 refine wpAny_call (codeAny_mono (F.run X.A X.stack s1 H1 ⟨us,[]⟩ (us++ds) (vs++dvs) _ _ hr I1.env0 (hb s1 us I1.kIn hl) r2 q) λr s' hq=>?_);cases r with
 | ok fl=>
   cases fl with
   | ret u=>
     obtain⟨v,H',I',rv,q'⟩:=I1.after hq;exact⟨σ,H',I',q'⟩
   | next=>exact False.elim hq
   | brk=>exact False.elim hq
   | cont=>exact False.elim hq
 | error e=>
   obtain⟨a,T,C',H',rfl,os,bare,F1,hx⟩:=hq;obtain⟨tl,G2,rs2,rg2,hx⟩:=hx C' rfl;exact⟨a,T,C',H1,s1,σ,H',τ,G2,rfl,I1,F1,os,bare,tl,rs2,rg2,hx⟩
noncomputable def u7 (t:sj->WS) (cs:List (Addr×WS)):WS:=λd τ G=>t (λC τ1 G1=>∃th,(C,th)∈cs/\th d τ1 G1) d τ G
theorem nM {h0:ExceptHandler} {hs:List ExceptHandler} {t:sj->WS} {cs:List (Addr×WS)} (hst:X.stack=X.env::X.outer) (hfr:X.env.frame=some X.env.locals) (hb:BP X body t) (hh:∀c,c∈cs->QH X c.1 (h0::hs) c.2):
 QS X (.Try body (h0::hs) [] [] pos) (u7 t cs):=by
 rintro π s σ H D I ⟨τ,G,d,rs,rg,ht,l⟩;refine wpAny_Try_except (wpAny_mono (hb _ π s σ H D I ⟨τ,G,d,rs,rg,ht,l⟩) (λf s1 q=>?_) λe s' hx=>?_)
 ·cases f with
  | next=>exact wpAny_execs_nil q
  | ret v=>exact q
  | brk=>exact q
  | cont=>exact q
 ·obtain⟨a,T,C,H1,s1,σ1,H',τ1,G1,rfl,I1,F1,os,bare,tl,rs1,rg1,th,hc,hx⟩:=hx;have I':=F1.inv I1 os bare;obtain⟨a0,tr⟩:=F1.traced;refine wpAny_noteFrame_onW (base:=hideAll s'.heap (a::T::dS X.stack)) (outer:=X.outer) (by rw[←hst];exact I'.ok.frames) (by rw[←hst];exact fL I'.stack λb z=> .tail _ (.tail _ z)) hfr tr (λb o q=>of_hideAll _ q) (hideAll_none _ (.head _)) λh2 N2=>?_;obtain⟨k1,_,k3,k4⟩:=N2;obtain⟨T2,F2⟩:=F1.move I'.frmem k1 k3 k4;refine Fl.lands (s:={ s' with heap:=h2 }) F2 I1 os bare λh3 T3 F3=>?_;exact hh _ hc π s1 σ1 H1 { s' with heap:=h3 } H' a T3 D I1 F3 os bare ⟨τ1,G1,d,rs1,rg1,hx,l.mono tl⟩
theorem nN {hs:List ExceptHandler}:∀c:Addr×WS,c∈([]:List (Addr×WS))->QH X c.1 hs c.2:=λ_ h=>nomatch h
theorem kQ {hs:List ExceptHandler} {C:Addr} {th:WS} {cs:List (Addr×WS)} (h1:QH X C hs th) (h2:∀c:Addr×WS,c∈cs->QH X c.1 hs c.2):∀c:Addr×WS,c∈(C,th)::cs->QH X c.1 hs c.2:=λc h=>by
 rcases mem_cons.mp h with z | z
 ·rw[z];exact h1
 ·exact h2 c z
end
section
variable {prog:Program} {w:World} {A:Around} {E:Value->Shared->Prop} {s:Shared}
end
section
variable {prog:Program} {w:World} {A:Around} {E:Value->Shared->Prop} {s:Shared}
end
mutual
noncomputable def W.ge:W->W->Bool
 | .int i,.int j=>decide (i≥j)
 | .tup xs,.tup ys=>W.ges xs ys
 | _,_=>false
noncomputable def W.ges:List W->List W->Bool
 | [],[]=>true
 | [],_::_=>false
 | _::_,[]=>true
 | x::xs,y::ys=>if W.eq x y=true then W.ges xs ys else W.ge x y
end
noncomputable def AZ (A:Around) (s:Shared) (y x:Value) (b:Bool):Prop:=
 ∀(prog:Program) (w:World) (E:Value->Shared->Prop) (Q:Value->Shared->Prop),Q (.bool b) s->wpAny (model prog w) A (richCompare .GtE y x) Q E s
inductive o8 (A:Around) (s:Shared):List Value->List Value->Bool->Prop where
 | nn:o8 A s [] [] true
 | nc {y:Value} {ys:List Value}:o8 A s [] (y::ys) false
 | cn {x:Value} {xs:List Value}:o8 A s (x::xs) [] true
 | eq {x y:Value} {xs ys:List Value} {r:Bool} (h:SeqAt.EqAt A s x y true) (t:o8 A s xs ys r):o8 A s (x::xs) (y::ys) r
 | ne {x y:Value} {xs ys:List Value} {r:Bool} (h:SeqAt.EqAt A s x y false) (t:AZ A s x y r):o8 A s (x::xs) (y::ys) r
section
open PySem.SeqAt
open PySem.AutoSeq1 (wpAny_loadPart')
open PySem.MeetsSeq PySem.MeetsSeq2 PySem.MeetsSeq3
end
section
variable {X:Cx} {π:List (Addr×Obj)} {σ:St} {H:Hp} {s:Shared}
end
section
variable {X:Cx}
end
section
variable {X:Cx}
end
section
variable {prog:Program} {w:World} {A:Around} {E:Value->Shared->Prop} {h:Heap} {g:Array GenState} {d:Drawn} {t:Nat} {os:OsState} {a C:Addr} {o:Obj} {K:PySem.W.Frag} {bm:List Value}
theorem kR {R:Result->Shared->Prop} (X:K.In h) (hC:XC K C bm) (hx:h.get? a=some o) (hc:o.cls=.ref C) (hq:R (.ok (.ret (.ref C))) ⟨h,g,d,t,os⟩):
 codeAny (model prog w) A (.call (.builtin "getset_descriptor.__get__") ⟨[.builtin "object.__class__",.ref a,.ref C],[]⟩) R ⟨h,g,d,t,os⟩:=by
 have hT5:(⟨h,g,d,t,os⟩:Shared).TypeIs (.builtin "object.__class__") "getset_descriptor":=F.typeOf_object_class;have hcB:(Value.ref C::bm).contains (.type (".".intercalate ("object.__class__".cutAt '.').dropLast))=true:=by
  rw[F.owner_object_class];exact hC.has X rfl
 obtain⟨N1,n1,q1,b1,d1,s1,u1,a1,c1,f1,g0,g1,g2,g3,g5,m1,gC,_,_,_⟩:=hC.obj h X;refine codeAny_call_builtin F.slot_gs_get.plain F.entry_gs_get (F.slot_gs_get.check _ _ _ _ _ _ _ _ hT5 (F.args_gs_get _ _ _) ?_)
 repeat (any_goals (first | assumption | (with_reducible refine wpAny_loadPart_at hx ?_;rw[hc]) | (with_reducible refine wpAny_isSubtype_exc gC ?_;rw[hcB]) | wp_step))
 refine⟨Code.quiet_builtin _ (by decide+kernel),codeAny_builtin F.entry_object_class ?_⟩
 repeat (any_goals (first | assumption | (with_reducible refine wpAny_loadPart_at hx ?_;rw[hc]) | wp_step))
theorem jc {tk:Tok} {Q:Fin->Shared->Prop} (X:K.In h) (hC:XC K C bm) (hQ:XQ K C) (hx:h.get? a=some o) (hc:o.cls=.ref C) (hq:Q (.done (.ret (.ref C))) ⟨h,g,d,t,os⟩):
 wpAny (model prog w) A (Builtin.«object.__getattribute__» ⟨[.ref a,.str "__class__" tk],[]⟩) Q E ⟨h,g,d,t,os⟩:=by
 have hT5:(⟨h,g,d,t,os⟩:Shared).TypeIs (.builtin "object.__class__") "getset_descriptor":=F.typeOf_object_class;have f5:=F.typeOf_object_class;have f6:=F.slot_gs_get.lookup;have f7:=F.slot_gs_set.lookup;have L1:=PySem.W.looks_findIn (M:=model prog w) X hQ.gc
 repeat (any_goals (first | assumption | (with_reducible refine wpAny_loadPart_at hx ?_;rw[hc]) | with_reducible refine L1.at ?_ | wp_step))
 refine kR X hC hx hc ?_
 repeat (any_goals (first | assumption | wp_step))
theorem mF {M:Model} {nameV:Value} {Q:Unit->Shared->Prop} (X:K.In h) (hC:XC K C bm) (hx:h.get? a=some o) (hc:o.cls=.ref C) (hq:Q () ⟨h,g,d,t,os⟩):wpAny M A (checkBuiltinCall "BaseException.__getattribute__" ⟨[.ref a,nameV],[]⟩) Q E ⟨h,g,d,t,os⟩:=by
 have hk:builtinKind "BaseException.__getattribute__"=some .slot:=by decide+kernel
 have hsplit:splitId "BaseException.__getattribute__"=some ("BaseException","__getattribute__"):=by decide+kernel
 have hcB:(Value.ref C::bm).contains (.type "BaseException")=true:=hC.has X rfl;have ha:=F.args_bexc_ga (.ref a) nameV;obtain⟨N1,n1,q1,b1,d1,s1,u1,a1,c1,f1,g0,g1,g2,g3,g5,m1,gC,_,_,_⟩:=hC.obj h X;simp only[checkBuiltinCall,hk,hsplit];refine wax ?_
 ·unfold isInstance
  repeat (first | (with_reducible refine wpAny_loadPart_at hx ?_;rw[hc]) | (with_reducible refine wpAny_isSubtype_exc gC ?_;rw[hcB]) | wp_step)
  exact hq
theorem jY {tk:Tok} {R:Result->Shared->Prop} (X:K.In h) (hC:XC K C bm) (hQ:XQ K C) (hx:h.get? a=some o) (hc:o.cls=.ref C) (hq:R (.ok (.ret (.ref C))) ⟨h,g,d,t,os⟩):
 codeAny (model prog w) A (.call (.builtin "BaseException.__getattribute__") ⟨[.ref a,.str "__class__" tk],[]⟩) R ⟨h,g,d,t,os⟩:=
 codeAny_call_builtin F.excAttr_ValueError.ga.plain F.entry_bexc_ga (mF X hC hx hc (jc X hC hQ hx hc hq))
theorem mG {tk:Tok} {fill expr:Bool} (X:K.In h) (hC:XC K C bm) (hQ:XQ K C) (hx:h.get? a=some o) (hc:o.cls=.ref C) (hq:Q (.ref C) ⟨h,g,d,t,os⟩):
 wpAny (model prog w) A (getAttrBy (.ref a) (.str "__class__" tk) fill expr) Q E ⟨h,g,d,t,os⟩:=by
 have f3:=F.excAttr_ValueError.ga.bind (.ref a);have hx0:(expr&&onTheHeap (Value.builtin "BaseException.__getattribute__"))=false:=by cases expr<;> rfl
 have hx2:(Value.builtin "BaseException.__getattribute__"==Value.builtin "object.__getattribute__")=false:=by decide+kernel
 have hx1:(onTheHeap (Value.ref C)&&Value.builtin "BaseException.__getattribute__"==Value.builtin "object.__getattribute__")=false:=by rw[hx2];rfl
 have L1:=PySem.W.looks_findIn (M:=model prog w) X hQ.ga;have L2:=PySem.W.looks_findIn (M:=model prog w) X hQ.gx
 repeat (any_goals (first | assumption | (with_reducible refine wpAny_loadPart_at hx ?_;rw[hc]) | with_reducible refine L1.at ?_ | with_reducible refine L2.at ?_ | wp_step))
 refine jY X hC hQ hx hc ?_
 repeat (any_goals (first | assumption | wp_step))
theorem fM {Q:Option Value->Shared->Prop} (X:K.In h) (hC:XC K C bm) (hQ:XQ K C) (hx:h.get? a=some o) (hc:o.cls=.ref C) (hq:Q (some (.ref C)) ⟨h,g,d,t+1,os⟩):
 wpAny (model prog w) A (getAttr? (.ref a) "__class__") Q E ⟨h,g,d,t,os⟩:=by
 unfold getAttr? getAttrBy?
 repeat (any_goals (first | assumption | with_reducible apply mG X hC hQ hx hc | wp_step))
end
section
variable {prog:Program} {w:World} {A:Around} {E:Value->Shared->Prop} {s:Shared} {a C D:Addr} {o:Obj} {K:PySem.W.Frag} {bm:List Value}
theorem jd {dep:Int} {tk:Tok} {Q:Fin->Shared->Prop} (X:K.In s.heap) (hC:XC K C bm) (hQ:XQ K C) (hE:XD K C) (hD:XD K D) (hs:mroIn K C (.ref D)=some false) (hne:C≠D) (hx:s.heap.get? a=some o) (hc:o.cls=.ref C)
 (h:Q (.done (.ret (.bool false))) { s with toks:=s.toks+1 }):
 wpAny (model prog w) A (Builtin.«isinstance.nested» ⟨[.ref a,.ref D,.int dep tk],[]⟩) Q E s:=by
 obtain⟨hh,g,d,tt,os⟩:=s;have ht:Looks (model prog w) hh (typeOf (.ref a)) (.ref C):=hc▸(PySem.W.Looks.ld hx).andThen .now;unfold Builtin.«isinstance.nested»;refine wax (ht.at ?_);rw[if_neg (λq=>by cases beq_iff_eq.mp q;exact hne rfl)];have L1:=PySem.W.looks_typeIn (M:=model prog w) X hD.ty;have L2:=PySem.W.looks_instIn (M:=model prog w) X hD.ins;have L4:Looks (model prog w) hh (isSubtype (.ref C) (.ref D)) false:=PySem.W.looks_subIn X hs;have L3:Looks (model prog w) hh (isInstance (.ref a) (.ref D)) false:=ht.andThen L4;refine wax (L1.at ?_);rw[if_pos (by decide)]
 k_delta "plainIsInstance"
 obtain⟨cd,e0⟩:=hD.cls;obtain⟨cd',e1⟩:=hE.cls;have L5:=PySem.W.looks_typeIn (M:=model prog w) X hE.ty;have L6:=PySem.W.looks_instIn (M:=model prog w) X hE.ins;unfold isType
 repeat lk
 unfold clsIn at e0 e1;split at e0
 ·rename_i ho;split at e1
  ·rename_i ho1;refine PySem.W.nd_load (X _ _ ho) (PySem.W.nd_pure (waz ?_));simp only[Bool.not_true,Bool.false_eq_true,if_false];refine wax (L3.at ?_);simp only[Bool.false_eq_true,if_false];refine wax (fM X hC hQ hx hc ?_);dsimp only;refine wax ?_;refine PySem.W.nd_load (X _ _ ho1) (PySem.W.nd_pure ?_);simp only[Bool.not_true,Bool.false_eq_true,if_false];refine wax (wpAny_rule ?_);refine L4.at ?_;exact waz h
  ·cases e1
 ·cases e0
theorem kS (X:K.In s.heap) (hC:XC K C bm) (hQ:XQ K C) (hE:XD K C) (hD:XD K D) (hs:mroIn K C (.ref D)=some false) (hne:C≠D) (hx:s.heap.get? a=some o) (hc:o.cls=.ref C)
 (h:Q (.bool false) { s with toks:=s.toks+1 }):wpAny (model prog w) A (call (.builtin "isinstance") [.ref a,.ref D]) Q E s:=
 call_isinstance (S:=λ_ R s=>(K.In s.heap/\s.heap.get? a=some o)/\R (.ok (.ret (.bool false))) { s with toks:=s.toks+1 })
  (λ_ _ _ _ _ hs1=>isinstance_outer (jd hs1.1.1 hC hQ hE hD hs hne hs1.1.2 hc hs1.2) (λz=>nomatch z)) ⟨⟨X,hx⟩,h⟩
end
theorem jt {C D:Addr} (hC:XC K C bm) (hs:mroIn K C (.ref D)=some false):C≠D:=λz=>by
 subst z;rw[hC.self] at hs;cases hs
section
variable {X:Cx} {a:Addr} {oe:Obj} {C D:Addr} {bm:List Value}
end
theorem wA.calm {f:Addr} {sp sp':cm} (F:wA P w K mg base k f fd ps sp) (h:∀ws G q e,sp' ws G q e->sp ws G q λ_ _=>False):dU P w K mg base k f fd ps sp':=by
 refine⟨λvs H Q E ⟨ws,G,q,e,r,g,z,hQ,_⟩=>F.len vs H Q (λ_ _ _=>False) ⟨ws,G,q,λ_ _=>False,r,g,h _ _ _ _ z,hQ,λ_ _ _ _ _ _ z=>z.elim⟩,λA outer s H args us vs Q E hr he hb hv z9=>?_⟩;obtain⟨ws,G,q,e,r,g,z,hQ,_⟩:=z9;refine codeAny_mono (F.run A outer s H args us vs Q (λ_ _ _=>False) hr he hb hv ⟨ws,G,q,λ_ _=>False,r,g,h _ _ _ _ z,hQ,λ_ _ _ _ _ _ z=>z.elim⟩) λr s' hq=>?_;cases r with
 | ok fl=>
   cases fl with
   | ret u=>exact hq
   | next=>exact hq
   | brk=>exact hq
   | cont=>exact hq
 | error e=>
   obtain⟨a,T,C,H',_,_,_,_,z⟩:=hq;exact z.elim
section
variable {prog:Program} {w:World} {A:Around} {E:Value->Shared->Prop} {s:Shared} {I l:Addr} {items:Array Value}
end
section
variable {X:Cx}
end
section
variable {X:Cx}
end
noncomputable abbrev Cx.xmq (X:Cx) (a:Addr):Cx:={ X with A:=X.A.mark (some (.ref a)),calm:=false,xe:=λ_ _=>False }
noncomputable abbrev tw (a C:Addr):HO:= .ext λh=>∃o,h.get? a=some o/\o.cls=.ref C
section
variable {X:Cx} {π:List (Addr×Obj)} {σ:St} {H0 H:Hp} {s0 s:Shared} {a T C D:Addr}
theorem ay.takeX (I0:ay X π σ H0 s0) (F:Fl X.prog X.w (dS X.stack) H0 H s0.heap s.heap a T (.ref C) .none) (os:s.os=s0.os) (bare:AllBare s.gens):
 ay (X.xmq a) π σ (upd H a (tw a C)) s:=by
 have I:=F.inv I0 os bare;obtain⟨oe,e1,e2,e3,e4,e5,e6⟩:=F.there I0;have ne:∀b o,X.s₀.heap.get? b=some o->b∉X.ex->b≠a:=λb o q hx z=>by
  obtain⟨o',e'⟩:=I0.base.there b o q hx;rw[z,F.na] at e';cases e'
 have nh:∀b u,H b=some u->b≠a:=λb u q z=>by rw[z,e3] at q;cases q
 refine⟨⟨I.ok.mod,I.ok.kind,I.ok.glob,I.ok.blt,I.ok.above,I.ok.inj,I.ok.has,I.ok.cab,λz=>(Bool.false_ne_true z).elim,I.ok.frames,I.ok.stk,I.ok.exf,I.ok.bs,I.ok.bsz,I.ok.noex,I.ok.exfs,I.ok.funs,I.ok.frf⟩,I.os,I.bare,
  ⟨I.base.keep,I.base.slot,λb o q n hx=>?_,I.base.there,λb xs q=>?_,λb o u q=>?_,λb ps q=>?_⟩,I.loc,I.cell,?_,λx c q=>?_,λp hp=>?_,λb u q=>?_,I.len⟩
 ·rw[ax (ne b o q hx)];exact I.base.free b o q n hx
 ·have:=I.base.tups b xs q;rw[ax (nh b _ this)];exact this
 ·have:=I.base.frzs b o u q;rw[ax (nh b _ this)];exact this
 ·obtain⟨m,this⟩:=I.base.tbls b ps q;exact⟨m,by rw[ax (nh b _ this)];exact this⟩
 ·rw[ax (Ne.symm e4)];exact I.free
 ·have hc:c≠a:=λz=>by
   obtain⟨v,o,h1,h2⟩:=I.cell x c q;rw[z,e1] at h1;cases h1;exact e6 _ h2
  rw[ax hc];exact I.freeC x c q
 ·obtain⟨p1,p2,p3,p4,p5⟩:=I.pin p hp;have hp0:=(I0.pin p hp).1;have hne:p.1≠a:=λz=>by rw[z,F.na] at hp0;cases hp0
  exact⟨p1,by rw[ax hne];exact p2,p3,p4,p5⟩
 ·by_cases hb:b=a
  ·subst hb;rw[aU] at q;cases q;exact⟨⟨oe,e1,e2⟩,⟨oe,e1⟩,λh1 h2 ⟨o,z1,z2⟩ k=>⟨o,k o z1,z2⟩⟩
  ·rw[ax hb] at q;exact(I.hok b u q).stay (λ_ _ _ z=>z) (λx z=>by rw[ax (nh x _ z)];exact z) λx xs z=>by rw[ax (nh x _ z)];exact z
theorem ay.unq (I:ay (X.xmq a) π σ H s) (hh:X.calm=true->X.A.handled=none):ay X π σ H s:=
 ⟨⟨I.ok.mod,I.ok.kind,I.ok.glob,I.ok.blt,I.ok.above,I.ok.inj,I.ok.has,I.ok.cab,hh,I.ok.frames,I.ok.stk,I.ok.exf,I.ok.bs,I.ok.bsz,I.ok.noex,I.ok.exfs,I.ok.funs,I.ok.frf⟩,I.os,I.bare,I.base,I.loc,I.cell,I.free,I.freeC,I.pin,I.hok,I.len⟩
theorem SP.unq {D:dW} {f:Flow} {s':Shared} (h:SP (X.xmq a) π D f s') (hh:X.calm=true->X.A.handled=none):SP X π D f s':=by
 cases f with
 | next=>obtain⟨σ',H',I,q⟩:=h;exact⟨σ',H',I.unq hh,q⟩
 | brk=>obtain⟨σ',H',I,q⟩:=h;exact⟨σ',H',I.unq hh,q⟩
 | cont=>obtain⟨σ',H',I,q⟩:=h;exact⟨σ',H',I.unq hh,q⟩
 | ret u=>obtain⟨v,σ',H',I,r,q⟩:=h;exact⟨v,σ',H',I.unq hh,r,q⟩
noncomputable def yY (i:Nat) (C:Addr) (ts:WS):WS:=λd τ G=>∀a,G a=none->ts { nx:=λτ1 G1=>d.nx (τ1.set i none) G1,rt:=d.rt,bk:=λτ1 G1=>d.bk (τ1.set i none) G1,ct:=λτ1 G1=>d.ct (τ1.set i none) G1 } (τ.set i (some (.ref a))) (av G a (.exc C))
variable {bm bmD:List Value} {x:Str} {p pos:Pos} {name:Option Str} {body:List Stmt} {bJ:List ExceptHandler} {b0:Stmt} {th:WS}
theorem wE (i:Nat) {n:Str} {ts:WS} (hm:X.mg x=some (.ref D)) (hg:Gl X x) (hO:XO X.K C) (hD:XC X.K D bmD) (hs:mroIn X.K C (.ref D)=some true) (hN:X.N.Nodup) (hi:X.N[i]?=some n) (hl:X.env.scope.names.lookup n=some .local)
 (hb:∀a,kK (X.xmq a) (b0::body) ts) (hd:(x==("__debug__":Str))=false:=by decide):
 QH X C (.ExceptHandler (some (.Name x p)) (some n) (b0::body) pos::bJ) (yY i C ts):=by
 rintro π s0 σ H0 s H a T D' I0 F os bare ⟨τ,G,d,rs,rg,ht,l⟩;have I:=F.inv I0 os bare;obtain⟨bm,hC⟩:=hO.c;obtain⟨oe,e1,e2,e3,e4,e5,e6⟩:=F.there I0;refine wpAny_handleBy_cons (codeAny_handlers_test (cS (X:=X.xmk a oe) (I.xmk e1 e3 e4 e5 e6) hg hm ?_ hd)) (by intro q;cases q);refine js I.kIn hC hD e1 e2 hs ?_;refine codeAny_handlers_suite_as (F.lands I0 os bare λh' T' F'=>?_);obtain⟨oe',q1,q2,q3,q4,q5,q6⟩:=Fl.there (s:={ s with heap:=h' }) F' I0;have J:=ay.takeX (s:={ s with heap:=h' }) I0 F' os bare;have tl:aH H (upd H a (tw a C)):=aH.new q3 _;refine fA (X:=X.xmq a) (v:= .ref a) J hN hi (.inl hl) rfl (λs3 I3=>?_) (.inr hl);have rs':aX X.K (upd H a (tw a C)) (τ.set i (some (.ref a))) (σ.set i (some (.ref a))):=(rs.mono tl).set (.ref a) i;have rg':aD X.K (upd H a (tw a C)) (av G a (.exc C)):=rg.lay tl ⟨hO,aU⟩;refine wpAny_mono (hb a π s3 _ _ { nx:=λσ1 H1=>D'.nx (σ1.set i none) H1,rt:=D'.rt,bk:=λσ1 H1=>D'.bk (σ1.set i none) H1,ct:=λσ1 H1=>D'.ct (σ1.set i none) H1 } I3
  ⟨_,_,_,rs',rg',ht a (rg.fresh q3),⟨λσ1 H1 τ1 G1 t1 r1 g1 z=>l.nx _ H1 _ G1 (tl.trans t1) (r1.drop i) g1 z,λv H1 w G1 t1=>l.rt v H1 w G1 (tl.trans t1),λσ1 H1 τ1 G1 t1 r1 g1 z=>l.bk _ H1 _ G1 (tl.trans t1) (r1.drop i) g1 z,λσ1 H1 τ1 G1 t1 r1 g1 z=>l.ct _ H1 _ G1 (tl.trans t1) (r1.drop i) g1 z⟩⟩) (λf s2 z=>?_) λ_ _ z=>z.elim
 have z2:=z.unq I0.ok.hd;cases f with
 | next=>obtain⟨σ',H',I2,q⟩:=z2;exact eP I2 hN hi hl λs' I4=>⟨_,H',I4,q⟩
 | brk=>obtain⟨σ',H',I2,q⟩:=z2;exact eP I2 hN hi hl λs' I4=>⟨_,H',I4,q⟩
 | cont=>obtain⟨σ',H',I2,q⟩:=z2;exact eP I2 hN hi hl λs' I4=>⟨_,H',I4,q⟩
 | ret u=>obtain⟨v,σ',H',I2,r,q⟩:=z2;exact eP I2 hN hi hl λs' I4=>⟨v,_,H',I4,r,q⟩
theorem ay.excAt (I:ay X π σ H s) (e:H a=some (tw a C)):∃o,s.heap.get? a=some o/\o.cls=.ref C:=(I.hok a _ e).1
theorem ay.excTyG (I:ay X π σ H s) (e:H a=some (tw a C)) (M:Model):Looks M s.heap (typeOf (.ref a)) (.ref C):=by
 obtain⟨o,e,hc⟩:=I.excAt e;exact hc▸(PySem.W.Looks.ld e).andThen .now
noncomputable def wF (K:PySem.W.Frag) (i:Nat) (D:Addr):WE:=λτ G q=>∃a C b,τ[i]?=some (some (.ref a))/\G a=some (.exc C)/\mroIn K C (.ref D)=some b/\q (.bl b) G
theorem tz {C D:Addr} (hD:XD K D) (h:mroIn K C (.ref D)=some true):PySem.W.isIn K (.ref C) D=true:=by
 unfold PySem.W.isIn;obtain⟨cd,e⟩:=hD.cls;have hs:PySem.W.subIn K (.ref C) (.ref D)=some true:=h;rw[e,hD.ty,hD.ins,hs];simp
theorem wG {n y:Str} {p p1 p2 pos:Pos} (hi:X.N[i]?=some n) (hv:pE X.env.scope n) (hym:X.mg y=some (.ref D)) (hD:XD X.K D) (hgy:Gl X y)
 (hm1:X.mg "isinstance"=none) (hg1:Gl X "isinstance") (hdy:(y==("__debug__":Str))=false:=by decide) (hd:(n==("__debug__":Str))=false:=by decide) (hcd:(n==("__classdict__":Str))=false:=by decide)
 (hs1:starEach [.Name n p1,.Name y p2] X.env=(false,eval (.Name n p1) X.env)::starEach [.Name y p2] X.env:=by rfl) (hs2:starEach [.Name y p2] X.env=(false,eval (.Name y p2) X.env)::starEach [] X.env:=by rfl)
 (hpl:(backTo pos (starEach [.Name y p2] X.env)).any (·.1)=false:=by rfl):QE X (.Call (.Name "isinstance" p) [.Name n p1,.Name y p2] [] pos) (wF X.K i D):=by
 have hv1:PE X (.Name n p1) (oJ i):=fc hi hv hd hcd;have ha:PA X [.Name n p1,.Name y p2] (fB (oJ i) (fB (tC (.ref D)) pR)):=bu hv1 (bu (nl hgy hym rfl hdy) pa_nil hs2) hs1;have hCR:cT X (.builtin "isinstance") (λvs H Q=>∃a C b,vs=[.ref a,.ref D]/\XO X.K C/\H a=some (tw a C)/\mroIn X.K C (.ref D)=some b/\Q (.bl b) H):=by
  rintro π s σ H xs us Q I r ⟨a,C,b,e1,hO,hH,hb,q⟩;subst e1;obtain⟨u,u2,rfl,ru,ru2⟩:=gs r;cases (show u=Value.ref a from ru);cases (show u2=Value.ref D from ru2);obtain⟨bm,hC⟩:=hO.c;cases b with
  | true=>exact PySem.W.isi_call I.kIn (I.excTyG hH) (tz hD hb) (λz=>nomatch z) ⟨.bl true,H,I,rfl,q⟩
  | false=>
    obtain⟨o,e,hc⟩:=I.excAt hH;exact kS I.kIn hC hO.q hO.d hD hb (jt hC hb) e hc ⟨.bl false,H,I.tok _,rfl,q⟩
 exact(dg hCR hg1 hm1 ef ha (by decide) (by decide) hs1 hpl).imp λσ H Q ⟨τ,G,q,hs,hg,⟨a,C,b,ht,hG,hb,hq⟩,hQ⟩=>by
  obtain⟨v,e1,r⟩:=hs.2 i _ ht;cases r;obtain⟨hO,hH⟩:=hg a _ hG;exact⟨_,e1,a,C,b,rfl,hO,hH,hb,hQ _ H _ G (aH.refl H) (.bl b) hg hq⟩
noncomputable def yZ (i:Nat):WE:=λτ G q=>∃a C,τ[i]?=some (some (.ref a))/\G a=some (.exc C)/\q (.bl true) G
theorem wH {T:String} {n y:Str} {p p1 p2 pos:Pos} (hi:X.N[i]?=some n) (hv:pE X.env.scope n) (hT:bmV.contains (.type T)=true) (hkm:PySem.W.kitMeta T=true) (hyb:bootBuiltins y=some (.type T)) (hym:X.mg y=none) (hgy:Gl X y)
 (hm1:X.mg "isinstance"=none) (hg1:Gl X "isinstance") (hn:y≠"__name__":=by decide) (hdy:(y==("__debug__":Str))=false:=by decide) (hd:(n==("__debug__":Str))=false:=by decide) (hcd:(n==("__classdict__":Str))=false:=by decide)
 (hs1:starEach [.Name n p1,.Name y p2] X.env=(false,eval (.Name n p1) X.env)::starEach [.Name y p2] X.env:=by rfl) (hs2:starEach [.Name y p2] X.env=(false,eval (.Name y p2) X.env)::starEach [] X.env:=by rfl)
 (hpl:(backTo pos (starEach [.Name y p2] X.env)).any (·.1)=false:=by rfl):QE X (.Call (.Name "isinstance" p) [.Name n p1,.Name y p2] [] pos) (yZ i):=by
 have hv1:PE X (.Name n p1) (oJ i):=fc hi hv hd hcd;have ha:PA X [.Name n p1,.Name y p2] (fB (oJ i) (fB (tC (.ty T)) pR)):=bu hv1 (bu (jJ hgy hym hyb rfl hn hdy) pa_nil hs2) hs1;have hCR:cT X (.builtin "isinstance") (λvs H Q=>∃a C,vs=[.ref a,.ty T]/\XO X.K C/\H a=some (tw a C)/\Q (.bl true) H):=by
  rintro π s σ H xs us Q I r ⟨a,C,e1,hO,hH,q⟩;subst e1;obtain⟨u,u2,rfl,ru,ru2⟩:=gs r;cases (show u=Value.ref a from ru);cases (show u2=Value.type T from ru2);obtain⟨bm,hC⟩:=hO.c;exact qA I.kIn (I.excTyG hH) hkm rfl (by show mroIn X.K C _=_;rw[hC.mro,hC.has I.kIn hT]) (λz=>nomatch z) ⟨.bl true,H,I,rfl,q⟩
 exact(dg hCR hg1 hm1 ef ha (by decide) (by decide) hs1 hpl).imp λσ H Q ⟨τ,G,q,hs,hg,⟨a,C,ht,hG,hq⟩,hQ⟩=>by
  obtain⟨v,e1,r⟩:=hs.2 i _ ht;cases r;obtain⟨hO,hH⟩:=hg a _ hG;exact⟨_,e1,a,C,rfl,hO,hH,hQ _ H _ G (aH.refl H) (.bl true) hg hq⟩
end
structure y3 (k:Nat) (A:Around):Prop where
 dp:A.depth+3*k+5<recursionLimit
 un:A.units+16*k+200<cLine
structure Cn (P:Program) (w:World) (K:PySem.W.Frag) (mg:Str->Option Value) (base:Heap) (CX:oS) (k:Nat) (f:Addr) (fd:FuncData) (ps:List Str) (sp:Sp):Prop where
 len:∀vs H Q E,sp vs H Q E->vs.length=ps.length
 run:∀(A:Around) (outer:List Env) (s:Shared) (H:Hp) (args:Args) (us:List Value) (vs:List V) (Q:VK) (E:XK),y3 k A->pS P w K mg base A outer s H->BindsTo s fd args (ps.zip us)->aN vs us->sp vs H Q E->
  codeAny (model P w) A (.call (.ref f) args) (CR CX outer P w H s Q E) s
section
variable {X:Cx}
end
section
variable {P:Program} {w:World} {K:PySem.W.Frag} {mg:Str->Option Value} {base:Heap} {k:Nat} {f:Addr} {fd:FuncData} {ps:List Str} {sp sp':cm}
end
section
variable {K:PySem.W.Frag} {H:Hp}
end
section
variable {X:Cx}
structure Mt (P:Program) (w:World) (K:PySem.W.Frag) (mg:Str->Option Value) (base:Heap) (C:Addr) (m:Str) (ps:List Str) (k:Nat) (sp:cm) (dws:List W):Prop where
 ex:∃(f:Addr) (fd:FuncData) (ds:List Value) (dvs:List V),yb K C m f/\dU P w K mg base k f fd ps sp/\ce K fd ps ds/\aN dvs ds/\∀H,aJ K H dws dvs
 cl:ya K C
noncomputable def y4 (to:WE):WE:=λτ G q=>to τ G λx G1=>match x with
 | .ref a=>∃ys y,G1 a=some (.lst (ys++[y]))/\q y (av G1 a (.lst ys))
 | _=>False
theorem aJ.snoc {K:PySem.W.Frag} {H:Hp}:∀{ys:List W} {y:W} {xs:List V},aJ K H (ys++[y]) xs->∃v,xs[xs.length-1]?=some v/\bI K H y v/\aJ K H ys xs.dropLast
 | [],y,xs,r=>by
   obtain⟨v,rfl,rv⟩:=r.one;exact⟨v,rfl,rv,.nil⟩
 | w::ys,y,_,.cons (v:=v) (vs:=vs) r rs=>by
   obtain⟨u,h1,h2,h3⟩:=aJ.snoc rs;have hl:=rs.length;cases vs with
   | nil=>simp at hl
   | cons v2 vs2=>
     refine⟨u,?_,h2,?_⟩
     ·simpa using h1
     ·rw[List.dropLast_cons₂];exact .cons r h3
theorem mI {o:Expr} {to:WE} {apos cpos:Pos} (ho:QE X o to)
 (hbase:attributeBase o "pop" X.env (eval o X.env)=eval o X.env:=by rfl) (hline:(apos.endLine==cpos.line)=true:=by rfl):QE X (.Call (.Attribute o "pop" apos) [] [] cpos) (y4 to):=
 (vW PySem.F.plainAttrs_list PySem.F.slot_list_pop PySem.F.type_list_pop vX ho hbase hline).imp λσ H Q z0=>z0.el λτ G q hs hg ht hQ=>
   ⟨τ,G,_,hs,hg,ht,λv H1 w G1 t1 r1 g1 q1=>by
     split at q1
     ·rename_i a;cases r1;obtain⟨ys,y,e1,q1⟩:=q1;obtain⟨hl,xs',h1,rr⟩:=g1 a _ e1;obtain⟨u,hu,ru,rd⟩:=rr.snoc;refine⟨.inl ⟨rfl,xs',cR.of h1⟩,a,xs',u,rfl,rfl,h1,hu,?_⟩;have tl:=aH.lst h1 (.lst xs'.dropLast);exact hQ _ _ _ _ (t1.trans tl) (ru.mono tl) (g1.put tl rd (by simp at hl;lia)) q1
     ·exact q1.elim⟩
section
variable {P:Program} {w:World} {K:PySem.W.Frag} {mg:Str->Option Value} {base:Heap} {C:Addr} {m qual:Str} {st:Stmt} {ps:List Str} {k:Nat} {sp:cm} {dws:List W}
end
noncomputable def y6:WS:=λd τ G=>d.ct τ G
theorem kT:QS X (.Continue pos) y6:=ps_continue.imp λD σ H z0=>z0.el λτ G d rs rg ht l=>l.ct σ H τ G (aH.refl H) rs rg ht
theorem gW {α:Type} {p:List α->Prop} (h:p []) (us:List α) (e:us.length=0):p us:=by
 rw[List.eq_nil_of_length_eq_zero e];exact h
theorem cj {α:Type} {n:Nat} {p:List α->Prop} (h:∀a,∀us:List α,us.length=n->p (a::us)) (us:List α) (e:us.length=n+1):p us:=by
 cases us with
 | nil=>exact absurd e (Nat.succ_ne_zero n).symm
 | cons a us=>exact h a us (Nat.succ.inj e)
end
structure Co (P:Program) (w:World) (K:PySem.W.Frag) (mg:Str->Option Value) (base:Heap) (C:Addr) (m:Str) (ps:List Str) (k:Nat) (sp:cm) (dws:List W):Prop where
 ex:∃(f:Addr) (fd:FuncData) (ds:List Value) (dvs:List V),yb K C m f/\wA P w K mg base k f fd ps sp/\ce K fd ps ds/\aN dvs ds/\∀H,aJ K H dws dvs
 cl:ya K C
section
variable {X:Cx} {x:Str} {p pos:Pos}
theorem bU {D:Addr} {y:Str} {p:Pos} (hg:Gl X y) (hm:X.mg y=some (.ref D)) (hd:(y==("__debug__":Str))=false:=by decide):QE X (.Name y p) (wC (.ref D)):=dY (v:= .ref D) (nl (v:= .ref D) hg hm rfl hd) λ_=> .ref D
theorem qG {a C:Addr} (hC:XC K C bm) (hQ:XQ K C) (hE:XD K C):PySem.W.KitX K (.ref a) (.ref C) (λh=>∃o,h.get? a=some o/\o.cls=.ref C) where
 ty:=λM h X ⟨o,h1,h2⟩=>h2▸(PySem.W.Looks.ld h1).andThen .now
 it:=λM h X _=>by
  obtain⟨cd,e⟩:=hE.cls;unfold clsIn at e;split at e
  ·rename_i ho;intro A' Q' E' s' k q;unfold isType loadHead;exact wax (wpAny_loadPart (k _ _ (X _ _ ho)) (waz q))
  ·cases e
 ne:=λh tp dd its n sl X htp=>by
  obtain⟨cd,e⟩:=hE.cls;refine Bool.eq_false_iff.mpr λq=>?_;have e2:C=tp:=Value.ref.inj (beq_iff_eq.mp q);subst e2;unfold clsIn at e;split at e
  ·rename_i ho;have:=X _ _ ho;rw[htp] at this;cases this
  ·cases e
 ca:=λ{_ _ _ _ _ s} X ⟨o,h1,h2⟩ k=>by
  obtain⟨h,g,d,t,os⟩:=s;exact fM X hC hQ h1 h2 k
theorem ju {K:PySem.W.Frag} {C:Addr} {bm:List Value} (hC:XC K C bm):∀{Ds:List Addr},(∀D,D∈Ds->XD K D/\mroIn K C (.ref D)=some false)->PySem.W.kitAny K (.ref C) (Ds.map Value.ref)=some false
 | [],_=>rfl
 | D::Ds,h=>by
   obtain⟨hD,hs⟩:=h D mem_cons_self;have h1:kitOne K (.ref C) (.ref D)=some false:=by
    unfold kitOne;rw[if_neg (λq=>jt hC hs (Value.ref.inj (beq_iff_eq.mp q)))];unfold PySem.W.kitCls;obtain⟨cd,e⟩:=hD.cls;have h2:((clsIn K D).isSome&&typeIn K (.ref D)==some (.type "type"))=true:=by rw[e,hD.ty];rfl
    show(if ((clsIn K D).isSome&&typeIn K (.ref D)==some (.type "type"))=true then PySem.W.subIn K (.ref C) (.ref D) else none)=some false;rw[if_pos h2];exact hs
   show(match kitOne K (.ref C) (.ref D) with | some true=>some true | some false=>PySem.W.kitAny K (.ref C) (Ds.map Value.ref) | none=>none)=some false;rw[h1];exact ju hC λD hD=>h D (mem_cons_of_mem _ hD)
theorem aJ.refs {K:PySem.W.Frag} {H:Hp}:∀{Ds:List Addr} {vs:List V},aJ K H (Ds.map W.ref) vs->vs=Ds.map V.ref
 | [],_,r=>by cases r;rfl
 | D::Ds,_,r=>by
   cases r with
   | cons r rs=>cases r;rw[aJ.refs rs];rfl
theorem jv:∀{Ds:List Addr} {us:List Value},aN (Ds.map V.ref) us->us=Ds.map Value.ref
 | [],_,r=>by cases r;rfl
 | D::Ds,_,r=>by
   cases r with
   | cons r rs=>rw[jv rs,show _=Value.ref D from r];rfl
noncomputable def tD (K:PySem.W.Frag) (t1 t2:WE):WE:=λτ G q=>t1 τ G λx G1=>t2 τ G1 λy G2=>∃(a C:Addr) (Ds:List Addr),x=.ref a/\y=.tup (Ds.map W.ref)/\G2 a=some (.exc C)/\(∀D,D∈Ds->XD K D/\mroIn K C (.ref D)=some false)/\q (.bl false) G2
theorem qH {e1 e2:Expr} {t1 t2:WE} {p pos:Pos} (h1:QE X e1 t1) (h2:QE X e2 t2) (hm1:X.mg "isinstance"=none) (hg1:Gl X "isinstance")
 (hs1:starEach [e1,e2] X.env=(false,eval e1 X.env)::starEach [e2] X.env:=by rfl) (hs2:starEach [e2] X.env=(false,eval e2 X.env)::starEach [] X.env:=by rfl)
 (hpl:(backTo pos (starEach [e2] X.env)).any (·.1)=false:=by rfl):QE X (.Call (.Name "isinstance" p) [e1,e2] [] pos) (tD X.K t1 t2):=by
 have ha:=bu h1 (bu h2 pa_nil hs2) hs1;have hCR:cT X (.builtin "isinstance") (λvs H Q=>∃(a C tp:Addr) (Ds:List Addr),vs=[.ref a,.ref tp]/\XO X.K C/\H a=some (tw a C)/\H tp=some (.tup (Ds.map V.ref))/\(∀D,D∈Ds->XD X.K D/\mroIn X.K C (.ref D)=some false)/\Q (.bl false) H):=by
  rintro π s σ H xs us Q I r ⟨a,C,tp,Ds,e1,hO,hH,hT,hb,q⟩;subst e1;obtain⟨u,u2,rfl,ru,ru2⟩:=gs r;cases (show u=Value.ref a from ru);cases (show u2=Value.ref tp from ru2);obtain⟨bm,hC⟩:=hO.c;obtain⟨its,rv,⟨⟨cls,dd,data,sl⟩,ho,hcl,n,hdt⟩,hz⟩:=I.tuple (du.of hT);simp only at hcl hdt;subst hcl hdt;have ei:=jv rv;subst ei;exact PySem.W.kia_tup (qG hC hO.q hO.d) I.kIn (I.excAt hH) ho (ju hC hb) (λz=>nomatch z) λtk=>⟨.bl false,H,I.tok tk,rfl,q⟩
 exact(dg hCR hg1 hm1 ef ha (by decide) (by decide) hs1 hpl).imp λσ H Q z0=>z0.el λτ G q hs hg ht hQ=>⟨τ,G,_,hs,hg,ht,λv H1 w G1 t1 r1 g1 q1=>⟨τ,G1,_,hs.mono t1,g1,q1,λv2 H2 w2 G2 t2 r2 g2 q2=>by
  obtain⟨a,C,Ds,rfl,rfl,hG,hb,q2⟩:=q2;cases r1;cases r2 with
  | @tup tp _ xs hT rr=>
    obtain⟨hO,hH⟩:=g2 a _ hG;have ex:=rr.refs;subst ex;exact⟨a,C,tp,Ds,rfl,hO,hH,hT,hb,hQ _ H2 _ G2 (t1.trans t2) (.bl false) g2 q2⟩⟩⟩
end
section
variable {X:Cx} {p pos:Pos}
end
section
variable {X:Cx}
end
section
variable {P:Program} {w:World} {K:PySem.W.Frag} {mg:Str->Option Value} {base:Heap} {N:List Str} {qual:Str} {scope:Scope} {f:Addr} {cdv:Value} {A:Around} {outer:List Env} {s:Shared} {H:Hp} {E:XK}
end
section
variable {X:Cx} {π:List (Addr×Obj)} {σ:St} {H:Hp} {s:Shared} {h':Heap} {ch:List Addr}
theorem ay.pair {x y:V} {ux uy:Value} (I:ay X π σ H s) (hf:∀c,c∈ch->i6 X π H c) (keep:∀c o,c∉ch->s.heap.get? c=some o->h'.get? c=some o) (tn:h'.get? s.heap.objs.size=some { cls:= .type "tuple",data:= .seq #[ux,uy] }) (rx:aS x ux) (ry:aS y uy):ay X π σ (upd H s.heap.objs.size (.tup [x,y])) { s with heap:=h' }:=by
 have hnew:H s.heap.objs.size=none:=I.hok.fresh (le_refl _);have tr:∀c u,H c=some u->c∉ch:=λc u e hc=>by rw[(hf c hc).1] at e;cases e
 refine I.step (g':=s.gens) (d':=s.drawn) (t':=s.toks) (ch:=ch) (λc hc=>?_) (λc o _ _ hc e _=>keep c o hc e) (λc o _ _ hc e _=>⟨o.slots,keep c o hc e⟩) (λc o _ e n=>?_) (λc o hc e=>⟨o,keep c o hc e⟩) (λc xs e=>?_) (λc o u e=>?_) (λc ps e=>⟨#[],?_⟩) (λm hm=>?_) (λc u e=>?_) I.bare
 ·obtain⟨_,f1,_,f3,f4,f5⟩:=hf c hc;exact⟨f3,f1,f4,f5⟩
 ·rw[ax (ne_of_lt (Heap.lt_size e))];exact n
 ·rw[ax (aV e hnew)];exact e
 ·rw[ax (aV e hnew)];exact e
 ·rw[ax (aV e hnew),e];simp
 ·obtain⟨o,es,ep,ho,bJ⟩:=hm;exact⟨o,es,ep,keep _ o (λhc=>(hf _ hc).2.1 rfl) ho,bJ⟩
 ·by_cases hcs:c=s.heap.objs.size
  ·subst hcs;rw[aU] at e;cases e;exact⟨by show 2<=sizeLine;decide,[ux,uy],.cons rx (.cons ry .nil),⟨_,tn,rfl,_,rfl⟩⟩
  ·rw[ax hcs] at e;refine(I.hok c u e).stay (λc' v hc' q=>keep c' v ?_ q) (λc' q=>by rw[ax (aV q hnew)];exact q) λc' xs q=>by rw[ax (aV q hnew)];exact q
   rcases hc' with rfl | hc'
   ·exact tr _ _ e
   ·exact tr _ _ hc'
end
structure ZL (z p r i j a b:Addr) (n:Nat) (f:Value) (h:Heap):Prop where
 hz:IsZip h z p r f
 hp:IsPair h p (.ref i) (.ref j)
 hr:∃x y,IsPair h r x y
 hi:h.IsListIter i a n
 hj:h.IsListIter j b n
section
variable {P:Program} {w:World} {K:PySem.W.Frag}
end
section
variable {X:Cx}
end
end L2
namespace Nm
inductive O where
 | z
 | c (e:O) (n:Int) (r:O)
 deriving DecidableEq
namespace O
noncomputable def cmp:O->O->Int
 | z,z=>0
 | z,c _ _ _=> -1
 | c _ _ _,z=>1
 | c e n r,c e' n' r'=>
   if cmp e e'≠0 then cmp e e' else if n<n' then -1 else if n'<n then 1 else cmp r r'
noncomputable def size:O->Nat
 | z=>0
 | c e _ r=>1+size e+size r
noncomputable def dp:O->Nat
 | z=>0
 | c e _ r=>max (dp e+1) (dp r)
noncomputable def len:O->Nat
 | z=>0
 | c _ _ r=>len r+1
noncomputable def app:O->O->O
 | z,b=>b
 | c e n r,b=>c e n (app r b)
noncomputable def tE (p:O->Int->Bool):O->O
 | z=>z
 | c e n r=>if p e n then c e n (tE p r) else tE p r
noncomputable def same (x:O):O->Int
 | z=>0
 | c e n r=>if e=x then n+same x r else same x r
noncomputable def y7:O->O
 | z=>z
 | c _ _ z=>z
 | c e n r=>c e n (y7 r)
noncomputable def wI:O->O
 | z=>z
 | c e n z=>c e n z
 | c _ _ r=>wI r
theorem cmp_self:∀a:O,cmp a a=0
 | z=>rfl
 | c e n r=>by simp[cmp,cmp_self e,cmp_self r]
theorem cmp_eq:∀a b:O,cmp a b=0->a=b
 | z,z,_=>rfl
 | z,c _ _ _,h=>by simp[cmp] at h
 | c _ _ _,z,h=>by simp[cmp] at h
 | c e n r,c e' n' r',h=>by
   unfold cmp at h
   by_cases he:cmp e e'=0
   ·rw[if_neg (by simpa using he)] at h
    by_cases h1:n<n'
    ·rw[if_pos h1] at h;(clear he h1;lia)
    ·rw[if_neg h1] at h
     by_cases h2:n'<n
     ·rw[if_pos h2] at h;(clear he h1 h2;lia)
     ·rw[if_neg h2] at h;have:=cmp_eq e e' he;have:=cmp_eq r r' h;have:n=n':=by (clear h he;lia)
      subst_vars
      rfl
   ·rw[if_pos he] at h;exact absurd h he
theorem cmp_range:∀a b:O,cmp a b= -1∨cmp a b=0∨cmp a b=1
 | z,z=>by simp[cmp]
 | z,c _ _ _=>by simp[cmp]
 | c _ _ _,z=>by simp[cmp]
 | c e n r,c e' n' r'=>by
   have h1:=cmp_range e e';have h2:=cmp_range r r';unfold cmp;split
   ·exact h1
   ·split
    ·exact .inl rfl
    ·split
     ·exact .inr (.inr rfl)
     ·exact h2
theorem cy:∀a b:O,cmp b a= -cmp a b
 | z,z=>rfl
 | z,c _ _ _=>rfl
 | c _ _ _,z=>rfl
 | c e n r,c e' n' r'=>by
   have h1:=cy e e';have h2:=cy r r';unfold cmp;rw[h1,h2]
   by_cases he:cmp e e'=0
   ·rcases Int.lt_trichotomy n n' with k | k | k
    ·have k':¬n'<n:=by (clear h1 h2 he;lia)
     simp[he,k,k']
    ·subst k;simp[he]
    ·have k':¬n<n':=by (clear h1 h2 he;lia)
     simp[he,k,k']
   ·have he':¬-cmp e e'=0:=by (clear h1 h2;lia)
    simp[he,he']
theorem eQ:∀a b d:O,cmp a b<0->cmp b d<0->cmp a d<0
 | z,z,_,h,_=>by simp[cmp] at h
 | z,c _ _ _,z,_,h=>by simp[cmp] at h
 | z,c _ _ _,c _ _ _,_,_=>by simp[cmp]
 | c _ _ _,z,_,h,_=>by simp[cmp] at h
 | c _ _ _,c _ _ _,z,_,h=>by simp[cmp] at h
 | c e n r,c e' n' r',c f m t,h1,h2=>by
   have ih1:=eQ e e' f;have ih2:=eQ r r' t;have r1:=cmp_range e e';have r2:=cmp_range e' f;unfold cmp at h1 h2 ⊢
   by_cases k1:cmp e e'=0
   ·have e1:=cmp_eq e e' k1;subst e1;rw[if_neg (by (clear r1 r2 h1 h2;lia))] at h1
    by_cases k2:cmp e f=0
    ·rw[if_neg (by (clear r1 r2 h1 h2 k1;lia))] at h2 ⊢
     by_cases a1:n<n'
     ·by_cases a2:n'<m
      ·rw[if_pos (by (clear r1 r2 h1 h2 k1 k2;lia))];(clear r1 r2 h1 h2 k1 k2 a1 a2;lia)
      ·rw[if_neg a2] at h2
       by_cases a3:m<n'
       ·rw[if_pos a3] at h2;(clear r1 r2 h1 k1 k2 a1 a2 a3;lia)
       ·rw[if_pos (by (clear r1 r2 h1 h2 k1 k2;lia))];(clear r1 r2 h1 h2 k1 k2 a1 a2 a3;lia)
     ·rw[if_neg a1] at h1
      by_cases a2:n'<n
      ·rw[if_pos a2] at h1;(clear r1 r2 h2 k1 k2 a1 a2;lia)
      ·rw[if_neg a2] at h1
       by_cases a3:n'<m
       ·rw[if_pos (by (clear r1 r2 h1 h2 k1 k2;lia))];(clear r1 r2 h1 h2 k1 k2 a1 a2 a3;lia)
       ·rw[if_neg a3] at h2
        by_cases a4:m<n'
        ·rw[if_pos a4] at h2;(clear r1 r2 h1 k1 k2 a1 a2 a3 a4;lia)
        ·rw[if_neg a4] at h2;rw[if_neg (by (clear r1 r2 h1 h2 k1 k2;lia)),if_neg (by (clear r1 r2 h1 h2 k1 k2;lia))];exact ih2 h1 h2
    ·rw[if_pos k2] at h2 ⊢;exact h2
   ·rw[if_pos k1] at h1
    by_cases k2:cmp e' f=0
    ·have e2:=cmp_eq e' f k2;subst e2;rw[if_pos k1];exact h1
    ·rw[if_pos k2] at h2;have:=ih1 h1 h2;rw[if_pos (by (clear r1 r2 h1 h2 k1 k2;lia))];exact this
noncomputable def Lt (e:O):O->Prop
 | z=>True
 | c x _ r=>cmp x e<0/\Lt e r
noncomputable def NF:O->Prop
 | z=>True
 | c e n r=>NF e/\1<=n/\Lt e r/\NF r
theorem gX (x:O):∀{a:O},NF a->0<=same x a
 | z,_=>by simp[same]
 | c e n r,h=>by
   have h1:=h.2.1;have h2:=gX x h.2.2.2;unfold same;split<;> lia
end O
namespace O
theorem cz (a:O):¬cmp a a<0:=by rw[cmp_self];lia
theorem dD (x:O):same x z=0:=rfl
theorem nP (e:O) (n:Int) (r:O):same e (c e n r)=n+same e r:=by simp[same]
theorem cE {x e:O} (h:e≠x) (n:Int) (r:O):same x (c e n r)=same x r:=by simp[same,h]
theorem bX {e x:O} (hx:¬cmp x e<0):∀{r:O},Lt e r->same x r=0
 | z,_=>rfl
 | c y n t,h=>by
   have hy:y≠x:=λk=>hx (k▸h.1);rw[cE hy];exact bX hx h.2
theorem bE {e:O} {n:Int} {r:O} (h:Lt e r):same e (c e n r)=n:=by
 rw[nP,bX (cz e) h];lia
theorem bP {x e:O} {n:Int} {r:O} (h:Lt e r) (hx:0<cmp x e):same x (c e n r)=0:=by
 have hne:e≠x:=λk=>by subst k;rw[cmp_self] at hx;lia
 rw[cE hne,bX (by lia) h]
theorem kX:∀{a b:O},NF a->NF b->(∀x,same x a=same x b)->a=b
 | z,z,_,_,_=>rfl
 | z,c e n r,_,hb,h=>by
   have:=h e;rw[bE hb.2.2.1,dD] at this;have:=hb.2.1;lia
 | c e n r,z,ha,_,h=>by
   have:=h e;rw[bE ha.2.2.1,dD] at this;have:=ha.2.1;lia
 | c e n r,c e' n' r',ha,hb,h=>by
   rcases cmp_range e e' with k | k | k
   ·have h1:=h e';rw[bE hb.2.2.1,bP ha.2.2.1 (by have:=cy e e';(clear h1;lia))] at h1;have:=hb.2.1
    (clear k;lia)
   ·have k':=cmp_eq _ _ k;subst k';have h1:=h e;rw[bE ha.2.2.1,bE hb.2.2.1] at h1;subst h1;have hr:r=r':=kX ha.2.2.2 hb.2.2.2 λx=>by
     by_cases hx:e=x
     ·subst hx;rw[bX (cz e) ha.2.2.1,bX (cz e) hb.2.2.1]
     ·have:=h x;rw[cE hx,cE hx] at this;exact this
    rw[hr]
   ·have h1:=h e;rw[bE ha.2.2.1,bP hb.2.2.1 (by (clear h1;lia))] at h1;have:=ha.2.1
    (clear k;lia)
theorem gY {x:O}:∀{a b:O},NF a->NF b->same x a<same x b->(∀y,0<cmp y x->same y a=same y b)->cmp a b<0
 | z,z,_,_,h,_=>by simp[same] at h
 | z,c _ _ _,_,_,_,_=>by simp[cmp]
 | c e n r,z,ha,_,h,_=>by
   have:=gX x ha;rw[dD] at h;lia
 | c e n r,c e' n' r',ha,hb,h,hy=>by
   rcases cmp_range e e' with k | k | k
   ·rw[cmp,if_pos (by (clear h;lia))];(clear h;lia)
   ·have k':=cmp_eq _ _ k;subst k';rw[cmp,if_neg (by (clear h;lia))];rcases cmp_range x e with q | q | q
    ·have hne:e≠x:=λz=>by subst z;rw[cmp_self] at q;(clear k h;lia)
     have h1:=hy e (by have:=cy x e;(clear h k;lia));rw[bE ha.2.2.1,bE hb.2.2.1] at h1;subst h1;rw[if_neg (by (clear k q h;lia)),if_neg (by (clear k q h;lia))];rw[cE hne,cE hne] at h;refine gY ha.2.2.2 hb.2.2.2 h λy hyx=>?_
     by_cases hye:e=y
     ·subst hye;rw[bX (cz e) ha.2.2.1,bX (cz e) hb.2.2.1]
     ·have:=hy y hyx;rw[cE hye,cE hye] at this;exact this
    ·have q':=cmp_eq _ _ q;subst q';rw[bE ha.2.2.1,bE hb.2.2.1] at h;rw[if_pos h];(clear h k q;lia)
    ·rw[bP ha.2.2.1 (by (clear h k;lia)),bP hb.2.2.1 (by (clear h k;lia))] at h
     (clear k q;lia)
   ·have hn:=ha.2.1;rcases cmp_range e x with q | q | q
    ·have qx:0<cmp x e:=by have:=cy e x;(clear h k hn;lia)
     have qx':0<cmp x e':=by
      have:=eQ e' e x (by have:=cy e e';(clear h hn q qx;lia)) (by (clear h k hn qx;lia));have:=cy e' x
      (clear h k hn q qx;lia)
     rw[bP ha.2.2.1 qx,bP hb.2.2.1 qx'] at h
     (clear k hn q qx qx';lia)
    ·have q':=cmp_eq _ _ q;subst q';rw[bE ha.2.2.1,bP hb.2.2.1 (by (clear hn h q;lia))] at h
     (clear k q;lia)
    ·have h1:=hy e (by (clear h k hn;lia));rw[bE ha.2.2.1,bP hb.2.2.1 (by (clear h hn q h1;lia))] at h1
     (clear h k q;lia)
end O
namespace O
noncomputable def mergeO:O->O->O
 | z,b=>b
 | c e n r,z=>c e n r
 | c e n r,c e' n' r'=>if 0<cmp e e' then c e n (mergeO r (c e' n' r')) else if cmp e e'<0 then c e' n' (mergeO (c e n r) r') else c e (n+n') (mergeO r r')
termination_by a b=>a.len+b.len
decreasing_by all_goals (simp only[len];lia)
theorem merge_z (a:O):mergeO a z=a:=by cases a<;> simp[mergeO]
theorem z_merge (a:O):mergeO z a=a:=by simp[mergeO]
theorem merge_c (e:O) (n:Int) (r e':O) (n':Int) (r':O):mergeO (c e n r) (c e' n' r')=if 0<cmp e e' then c e n (mergeO r (c e' n' r')) else if cmp e e'<0 then c e' n' (mergeO (c e n r) r') else c e (n+n') (mergeO r r'):=by rw[mergeO]
theorem dE (x e:O) (n:Int) (r:O):same x (c e n r)=(if e=x then n else 0)+same x r:=by
 by_cases h:e=x
 ·subst h;rw[nP,if_pos rfl]
 ·rw[cE h,if_neg h];lia
theorem dF (x:O):∀(k:Nat) (a b:O),a.len+b.len<=k->same x (mergeO a b)=same x a+same x b
 | _,z,b,_=>by rw[z_merge,dD];lia
 | _,c e n r,z,_=>by rw[merge_z,dD];lia
 | 0,c e n r,c e' n' r',h=>by simp only[len] at h;lia
 | k+1,c e n r,c e' n' r',h=>by
   simp only[len] at h;rw[merge_c]
   by_cases h1:0<cmp e e'
   ·rw[if_pos h1,dE x e,dF x k r (c e' n' r') (by simp only[len];(clear h1;lia)),dE x e n r];(clear h h1;lia)
   ·rw[if_neg h1]
    by_cases h2:cmp e e'<0
    ·rw[if_pos h2,dE x e',dF x k (c e n r) r' (by simp only[len];(clear h1 h2;lia)),dE x e' n' r'];(clear h h1 h2;lia)
    ·have h3:=cmp_eq e e' (by (clear h;lia));subst h3;rw[if_neg h2,dE x e,dF x k r r' (by (clear h1 h2;lia)),dE x e n r,dE x e n' r']
     by_cases h4:e=x
     ·rw[if_pos h4,if_pos h4,if_pos h4];(clear h h1 h2;lia)
     ·rw[if_neg h4,if_neg h4,if_neg h4];(clear h h1 h2;lia)
theorem kY (x a b:O):same x (mergeO a b)=same x a+same x b:=dF x _ a b (le_refl _)
theorem Lt.mono {e f:O} (h:cmp e f<0):∀{r:O},Lt e r->Lt f r
 | z,_=>trivial
 | c _ _ _,k=>⟨eQ _ _ _ k.1 h,Lt.mono h k.2⟩
theorem Lt.merge {g:O}:∀(k:Nat) (a b:O),a.len+b.len<=k->Lt g a->Lt g b->Lt g (mergeO a b)
 | _,z,b,_,_,hb=>by rw[z_merge];exact hb
 | _,c e n r,z,_,ha,_=>by rw[merge_z];exact ha
 | 0,c e n r,c e' n' r',h,_,_=>by simp only[len] at h;lia
 | k+1,c e n r,c e' n' r',h,ha,hb=>by
   simp only[len] at h;rw[merge_c];split
   ·exact⟨ha.1,Lt.merge k r _ (by simp only[len];lia) ha.2 hb⟩
   ·split
    ·exact⟨hb.1,Lt.merge k _ r' (by simp only[len];lia) ha hb.2⟩
    ·exact⟨ha.1,Lt.merge k r r' (by lia) ha.2 hb.2⟩
theorem NF.merge':∀(k:Nat) (a b:O),a.len+b.len<=k->NF a->NF b->NF (mergeO a b)
 | _,z,b,_,_,hb=>by rw[z_merge];exact hb
 | _,c e n r,z,_,ha,_=>by rw[merge_z];exact ha
 | 0,c e n r,c e' n' r',h,_,_=>by simp only[len] at h;lia
 | k+1,c e n r,c e' n' r',h,ha,hb=>by
   simp only[len] at h;rw[merge_c];split
   ·rename_i h1;have hl:cmp e' e<0:=by have:=cy e e';(clear h;lia)
    exact⟨ha.1,ha.2.1,Lt.merge _ _ _ (le_refl _) ha.2.2.1 ⟨hl,hb.2.2.1.mono hl⟩,NF.merge' k r _ (by simp only[len];(clear h1 hl;lia)) ha.2.2.2 hb⟩
   ·split
    ·rename_i h1 h2;exact⟨hb.1,hb.2.1,Lt.merge _ _ _ (le_refl _) ⟨h2,ha.2.2.1.mono h2⟩ hb.2.2.1,NF.merge' k _ r' (by simp only[len];(clear h1 h2;lia)) ha hb.2.2.2⟩
    ·rename_i h1 h2;have h3:=cmp_eq e e' (by (clear h;lia));subst h3;exact⟨ha.1,by have:=ha.2.1;have:=hb.2.1;(clear h h1 h2;lia),Lt.merge _ _ _ (le_refl _) ha.2.2.1 hb.2.2.1,NF.merge' k r r' (by (clear h1 h2;lia)) ha.2.2.2 hb.2.2.2⟩
theorem NF.merge {a b:O} (ha:NF a) (hb:NF b):NF (mergeO a b):=NF.merge' _ a b (le_refl _) ha hb
end O
namespace O
noncomputable def getP:O->Nat->Option (O×Int)
 | z,_=>none
 | c e n _,0=>some (e,n)
 | c _ _ r,i+1=>getP r i
noncomputable def dropO:Nat->O->O
 | 0,a=>a
 | _+1,z=>z
 | i+1,c _ _ r=>dropO i r
theorem jw:∀{a:O} {i:Nat},getP a i=none↔a.len<=i
 | z,i=>by simp[getP,len]
 | c e n r,0=>by simp[getP,len]
 | c e n r,i+1=>by
   have:=jw (a:=r) (i:=i);simp only[getP,len,this];(clear this;lia)
theorem getP_some {a:O} (h:i<a.len):∃e n,getP a i=some (e,n):=by
 cases k:getP a i with
 | none=>rw[jw] at k;lia
 | some p=>exact⟨p.1,p.2,rfl⟩
theorem dropO_get:∀{a:O} {i:Nat} {e:O} {n:Int},getP a i=some (e,n)->dropO i a=c e n (dropO (i+1) a)
 | z,_,_,_,h=>by simp[getP] at h
 | c e n r,0,_,_,h=>by simp[getP] at h;obtain⟨rfl,rfl⟩:=h;simp[dropO]
 | c e n r,i+1,x,m,h=>by
   have:=dropO_get (a:=r) (i:=i) (e:=x) (n:=m) (by simpa[getP] using h);simpa[dropO] using this
theorem dropO_len:∀{a:O} {i:Nat},a.len<=i->dropO i a=z
 | z,0,_=>rfl
 | z,_+1,_=>rfl
 | c e n r,0,h=>by simp only[len] at h;lia
 | c e n r,i+1,h=>by
   simp only[len] at h;exact dropO_len (a:=r) (i:=i) (by lia)
theorem len_dropO:∀(i:Nat) (a:O),(dropO i a).len=a.len-i
 | 0,a=>rfl
 | _+1,z=>by simp[dropO,len]
 | i+1,c e n r=>by
   have:=len_dropO i r;simp only[dropO,len,this];lia
theorem getP_size:∀{a:O} {i:Nat} {e:O} {n:Int},getP a i=some (e,n)->e.size<a.size/\e.dp<a.dp
 | z,_,_,_,h=>by simp[getP] at h
 | c e n r,0,_,_,h=>by simp[getP] at h;obtain⟨rfl,rfl⟩:=h;simp only[size,dp];lia
 | c e n r,i+1,x,m,h=>by
   have:=getP_size (a:=r) (i:=i) (e:=x) (n:=m) (by simpa[getP] using h);simp only[size,dp];lia
noncomputable def stay (e a:O):Nat:=(tE (λx _=>decide (0<cmp x e)) a).len
end O
namespace O
noncomputable def mx:O->Int
 | z=>0
 | c e n r=>max n (max (mx e) (mx r))
theorem eR:∀(k:Nat) (a b:O),a.len+b.len<=k->dp (mergeO a b)<=max (dp a) (dp b)
 | _,z,b,_=>by rw[z_merge];lia
 | _,c e n r,z,_=>by rw[merge_z];lia
 | 0,c e n r,c e' n' r',h=>by simp only[len] at h;lia
 | k+1,c e n r,c e' n' r',h=>by
   simp only[len] at h;rw[merge_c];split
   ·have:=eR k r (c e' n' r') (by simp only[len];lia);have h1:dp r<=dp (c e n r):=le_max_right _ _;have h2:dp e+1<=dp (c e n r):=le_max_left _ _;exact max_le.mpr ⟨le_trans h2 (le_max_left _ _),le_trans this (max_le.mpr ⟨le_trans h1 (le_max_left _ _),le_max_right _ _⟩)⟩
   ·split
    ·have:=eR k (c e n r) r' (by simp only[len];lia);have h1:dp r'<=dp (c e' n' r'):=le_max_right _ _;have h2:dp e'+1<=dp (c e' n' r'):=le_max_left _ _;exact max_le.mpr ⟨le_trans h2 (le_max_right _ _),le_trans this (max_le.mpr ⟨le_max_left _ _,le_trans h1 (le_max_right _ _)⟩)⟩
    ·have:=eR k r r' (by lia);have h1:dp r<=dp (c e n r):=le_max_right _ _;have h2:dp e+1<=dp (c e n r):=le_max_left _ _;have h3:dp r'<=dp (c e' n' r'):=le_max_right _ _;exact max_le.mpr ⟨le_trans h2 (le_max_left _ _),le_trans this (max_le.mpr ⟨le_trans h1 (le_max_left _ _),le_trans h3 (le_max_right _ _)⟩)⟩
theorem dp_merge (a b:O):dp (mergeO a b)<=max (dp a) (dp b):=eR _ a b (le_refl _)
structure B9 (B:Int) (o:O):Prop where
 nf:NF o
 sz:o.size<=24
 mx:O.mx o<=B
end O
namespace O
section
variable {e:O} {n:Int} {r:O}
end
end O
namespace O
section
variable {e:O} {n:Int} {r:O}
end
end O
namespace O
end O
namespace O
noncomputable def hw:O->Nat
 | z=>0
 | c e _ r=>max (len r+1) (max (hw e) (hw r))
end O
namespace O
noncomputable def et:O->O
 | z=>z
 | c e n z=>if n=1 then z else c e (n-1) z
 | c e n (c e' n' r')=>c e n (et (c e' n' r'))
noncomputable def bY:O->O
 | z=>z
 | c e _ z=>e
 | c _ _ (c e' n' r')=>bY (c e' n' r')
noncomputable def BQ (a:O):Prop:=a≠z/\same z a=0
inductive wJ:O->Int->O->Prop where
 | suc {a:O} {n:Int} (h0:a≠z) (h:bY a=z):wJ a n (et a)
 | lim {a:O} {n:Int} {o:O} (h0:a≠z) (h:BQ (bY a)) (k:wJ (bY a) n o):wJ a n (app (et a) (c o 1 z))
 | one {a:O} {n:Int} (h0:a≠z) (h:bY a≠z) (h':¬BQ (bY a)):wJ a n (app (et a) (if n=0 then z else c (et (bY a)) n z))
end O
namespace O
end O
namespace O
structure Rg (a b:O) (n:Int):Prop where
 pos:0<=n
 pass:∀o,wJ a n o->cmp b o<0
 least:0<n->∀o,wJ a (n-1) o->¬cmp b o<0
end O
namespace O
end O
namespace O
end O
namespace O
noncomputable def wh (m:Int):O:=if m=0 then z else c z m z
theorem NF.wh {m:Int} (h:0<=m):NF (wh m):=by
 unfold O.wh;split
 ·exact trivial
 ·exact⟨trivial,by lia,trivial,trivial⟩
theorem wK:wh 0=z:=rfl
theorem mJ {m:Int} (h:0<m):wh m=c z m z:=by unfold wh;rw[if_neg (by lia)]
theorem iI (e:O) (n:Int) (r:O) (n':Int) (r':O):cmp (c e n r) (c e n' r')=if n<n' then -1 else if n'<n then 1 else cmp r r':=by
 rw[cmp,if_neg (by rw[cmp_self];simp)]
end O
namespace O
noncomputable abbrev one:O:=c z 1 z
noncomputable abbrev lim (b:O):O:=tE (λy _=>decide (¬y=z)) b
end O
namespace O
section
variable {x:O} {n m:Int}
end
end O
namespace O
noncomputable abbrev w1:O:=c one 1 z
end O
namespace O
end O
namespace O
noncomputable def ot:O->Int
 | z=>0
 | c _ n r=>max n (ot r)
end O
namespace O
end O
namespace O
noncomputable def val (b:Nat):O->Nat
 | z=>0
 | c e n r=>n.toNat*b^val b e+val b r
structure Wr (b:Nat) (a:O):Prop where
 nf:NF a
 mx:O.mx a<b
end O
namespace O
noncomputable def tp (b:Nat):O->Nat
 | z=>0
 | c e _ _=>val b e+1
end O
namespace O
open Classical in
noncomputable def rep (b s:Nat):O:=if h:∃o,Wr b o/\val b o=s then choose h else z
noncomputable def tl (b:Nat):Nat->O
 | 0=>z
 | s+1=>c (rep b s) ((b:Int)-1) (tl b s)
noncomputable def dn (b:Nat) (a:O):O:=app (et a) (tl b (val b (bY a)))
end O
namespace O
inductive Wy (b:Nat):O->Prop where
 | z:Wy b z
 | c {a:O} (h0:a≠O.z) (nf:NF a) (w:Wr b (et a)) (k:Wy b (bY a)):Wy b a
end O
namespace O
end O
namespace O
noncomputable def xb (b:Nat):Nat:=if b*b<=55 then b else 54/b+1
noncomputable def A2 (b:Nat):O:=if b<56 then c (c z 1 z) (xb b:Int) z else c z 55 z
structure Rw (b k:Nat) (a:O):Prop where
 wr:Wr (b+k) a
 aQ:Lt (A2 b) a
 tp:O.tp (b+k) a<=200
end O
namespace O
structure Hi (b:Nat) (a p e:O) (n:Int):Prop where
 app:a=O.app p (c e n z)
 wp:Wr b p
 we:Wr b e
 n1:1<=n
 n2:n<b
 wI:bY a=e
 div:∃q,val b p=q*b^ (val b e+1)
 lt:p≠z->cmp e (bY p)<0
 dp:p.dp<=a.dp
 de:e.dp<a.dp
 aQ:∀x,Lt x a->Lt x p
end O
namespace O
end O
inductive Tr where
 | z
 | c (b r:Tr)
namespace Tr
noncomputable def pts:Tr->Nat
 | z=>1
 | c b r=>pts b+pts r
noncomputable def dp:Tr->Nat
 | z=>0
 | c b r=>max (dp b+1) (dp r)
noncomputable def len:Tr->Nat
 | z=>0
 | c _ r=>len r+1
noncomputable def sm (f:Nat->Nat):Nat->Nat
 | 0=>0
 | n+1=>sm f n+f n
structure Cb (n M:Nat) (ch:Nat->List Nat) (ds:Nat->Nat):Prop where
 pos:1<=n
 d0:ds 0=0
 in_:∀v,v<n->∀j,j∈ch v->v<j/\j<n/\ds j=ds v+1
 dp:∀v,v<n->ds v<=M
 sum:∀f:Nat->Nat,sm (λv=>((ch v).map f).sum) n+f 0=sm f n
 len:∀v,v<n->(ch v).length<=n
structure BR (n M k:Nat) (ch:Nat->List Nat) (ds:Nat->Nat) (t:Nat->Tr):Prop where
 pts:∀v,k<=v->v<n->Tr.pts (t v)=1+((ch v).map λj=>Tr.pts (t j)).sum
 dp:∀v,k<=v->v<n->Tr.dp (t v)+ds v<=M
end Tr
namespace Tr
open O
noncomputable def nO:Tr->O
 | z=> .z
 | c b r=>mergeO (.c (nO b) 1 .z) (nO r)
noncomputable def app:Tr->Tr->Tr
 | z,u=>u
 | c b r,u=>c b (app r u)
noncomputable def qI:Tr->Nat->Option Tr
 | z,_=>none
 | c b _,0=>some b
 | c _ r,i+1=>qI r i
noncomputable def qJ:Tr->Nat->Tr->Tr
 | z,_,_=>z
 | c _ r,0,u=>app u r
 | c b r,i+1,u=>c b (qJ r i u)
noncomputable def y8 (b:Tr):Nat->Tr
 | 0=>z
 | n+1=>c b (y8 b n)
noncomputable def tF (m:Nat):Tr->List Nat->Tr
 | t,[]=>t
 | t,[i]=>qJ t i z
 | t,[i,j]=>match qI t i with
   | some b=>qJ t i (y8 (qJ b j z) (1+m))
   | none=>t
 | t,i::j::k::w=>match qI t i with
   | some b=>qJ t i (c (tF m b (j::k::w)) z)
   | none=>t
end Tr
namespace Tr
open O
end Tr
namespace Tr
open O
end Tr
namespace Tr
end Tr
namespace Tr
open O
end Tr
namespace Tr
noncomputable def Cc:Tr->Bool
 | z=>true
 | c _ _=>false
noncomputable def bare:Tr->Nat
 | z=>0
 | c b r=>(if Cc b=true then 1 else bare b)+bare r
end Tr
namespace O
inductive Ru (n:Int):O->O->Prop
 | less {a:O}:a≠ .z->bY a=.z->Ru n a (et a)
 | succ {a:O}:a≠ .z->bY a≠ .z->bY (bY a)=.z->Ru n a (O.app (et a) (.c (et (bY a)) n .z))
 | lim {a o:O}:a≠ .z->bY a≠ .z->bY (bY a)≠ .z->Ru n (bY a) o->Ru n a (O.app (et a) (.c o 1 .z))
end O
namespace Tr
open O
noncomputable def tG (t:Tr) (i:Nat) (b:Tr):Prop:=qI t i=some b/\∀j d,qI t j=some d->(j<=i->0<=cmp (nO d) (nO b))/\(i<j->0<cmp (nO d) (nO b))
noncomputable def BS:Tr->List Nat->Prop
 | t,[]=>t=z
 | t,i::w=>∃b,tG t i b/\BS b w
end Tr
namespace O
end O
namespace O
structure Bd (d s:Nat) (m:Int) (o:O):Prop where
 nf:o.NF
 dp:o.dp<=d
 sz:o.size<=s
 mx:O.mx o<=m
end O
namespace O
end O
namespace O
end O
namespace O
end O
namespace O
end O
namespace O
noncomputable def e1:O:=c z 1 z
inductive BU (B k l:Nat):Prop
 | two:B=2->k=16->l<2->BU B k l
 | three:B=3->k=27->l<3->BU B k l
end O
namespace O
end O
namespace O
inductive Dn (f:Nat->Int) (a:O):List O->O->Prop where
 | one:Dn f a [a] a
 | step {os:List O} {b o:O} (h:Dn f a os b) (hb:b≠z) (l:wJ b (f (os.length-1)) o):Dn f a (os++[o]) o
end O
namespace Tr
instance decZ:(t:Tr)->Decidable (t=z)
 | z=> .isTrue rfl
 | c _ _=> .isFalse (λh=>by cases h)
noncomputable def y9:List Tr->Tr
 | []=>z
 | [t]=>t
 | _::u::l=>y9 (u::l)
noncomputable def step (ls:List Tr) (s:Nat):Option (List Tr):=
 if s=40/\y9 ls=z/\ls.length<=41 then some (z::ls)
 else if s=41 then
  match ls with
  | t::u::l=>some (u.app (c t z)::l)
  | _=>none
 else none
structure Bg (ls:List Tr):Prop where
 ne:ls≠[]
 lo:y9 ls=z∨∃b,ls=[c b z]
 len:ls.length<=42
noncomputable def BV:List Nat->Bool->Int->Int->Option (Int×Int)
 | [],_,d,m=>some (d,m)
 | s::cs,f,d,m=>
   if ¬(s=40∨s=41)∨(f=false/\d=0) then none
   else
    let d':=d+1-2*(if s=41 then 1 else 0)
    if d'<0 then none else BV cs false d' (max m d')
noncomputable def rt (l:List Nat):Bool:=match BV l true 0 0 with
 | none=>false
 | some (d,m)=>decide (l≠[])&&decide (d=0)&&decide (l.length<=1200)&&decide (m<=41)
end Tr
namespace Tr
open O
inductive A3 (f:Nat->Nat) (t:Tr):List Tr->Tr->Prop
 | one:A3 f t [t] t
 | step {ts:List Tr} {u:Tr} {w:List Nat} (h:A3 f t ts u) (hz:u≠z) (hw:w≠[]) (hl:BS u w) (hp:pts (tF (f (ts.length-1)) u w)<=60):A3 f t (ts++[tF (f (ts.length-1)) u w]) (tF (f (ts.length-1)) u w)
section
variable {f:Nat->Nat} {t u:Tr} {ts:List Tr}
end
end Tr
section
variable {α:Type} [DecidableEq α] {β:Type}
noncomputable def gT (t:List (α×β)) (k:α):Option β:=(t.find? λp=>decide (p.1=k)).map (·.2)
noncomputable def pT (t:List (α×β)) (k:α) (v:β):List (α×β):=
 if (t.any λp=>decide (p.1=k))=true then t.map (λp=>if p.1=k then (p.1,v) else p) else t++[(k,v)]
theorem qK {k:α}:gT ([]:List (α×β)) k=none:=rfl
theorem bB {p:α×β} {r:List (α×β)} {k:α} (e:p.1=k):gT (p::r) k=some p.2:=by simp[gT,List.find?_cons,e]
theorem bD {p:α×β} {r:List (α×β)} {k:α} (e:¬p.1=k):gT (p::r) k=gT r k:=by simp[gT,List.find?_cons,e]
theorem cB:∀{t:List (α×β)} {k:α} {v:β},gT t k=some v->(k,v)∈t
 | [],_,_,h=>by cases h
 | p::r,k,v,h=>by
   by_cases e:p.1=k
   ·rw[bB e] at h;cases h;rw[←e];exact mem_cons_self
   ·rw[bD e] at h;exact mem_cons_of_mem _ (cB h)
theorem cY:∀{t:List (α×β)} {k:α},k∈t.map (·.1)->∃v,gT t k=some v
 | [],_,h=>by simp at h
 | p::r,k,h=>by
   by_cases e:p.1=k
   ·exact⟨_,bB e⟩
   ·rw[bD e];rw[map_cons] at h;rcases mem_cons.mp h with h | h
    ·exact absurd h.symm e
    ·exact cY h
theorem cr {t:List (α×β)} {k:α} {v:β} (h:gT t k=some v):k∈t.map (·.1):=mem_map.mpr ⟨_,cB h,rfl⟩
theorem fN {t:List (α×β)} {k:α} (h:¬k∈t.map (·.1)):gT t k=none:=by
 cases e:gT t k with
 | none=>rfl
 | some v=>exact absurd (cr e) h
theorem nQ:∀{t:List (α×β)} {k:α} {v:β},(t.map (·.1)).Nodup->(k,v)∈t->gT t k=some v
 | [],_,_,_,h=>by cases h
 | p::r,k,v,hn,h=>by
   rw[map_cons,nodup_cons] at hn;rcases mem_cons.mp h with h | h
   ·rw[←h];exact bB rfl
   ·have:¬p.1=k:=λe=>hn.1 (e▸mem_map.mpr ⟨_,h,rfl⟩);rw[bD this];exact nQ hn.2 h
theorem jZ:∀(t:List (α×β)) (k:α),(t.any λp=>decide (p.1=k))=(gT t k).isSome
 | [],k=>rfl
 | p::r,k=>by
   rw[any_cons]
   by_cases e:p.1=k
   ·rw[bB e,decide_eq_true e];rfl
   ·rw[bD e,decide_eq_false e,Bool.false_or];exact jZ r k
theorem qL (k j:α) (v:β):∀t:List (α×β),gT (t.map λp=>if p.1=k then (p.1,v) else p) j=(gT t j).map λx=>if j=k then v else x
 | []=>rfl
 | p::r=>by
   have ih:=qL k j v r;rw[map_cons]
   by_cases h:p.1=k
   ·rw[if_pos h]
    by_cases e:p.1=j
    ·rw[bB (p:=(p.1,v)) e,bB e,Option.map_some,if_pos (e.symm.trans h)]
    ·rw[bD (p:=(p.1,v)) e,bD e,ih]
   ·rw[if_neg h]
    by_cases e:p.1=j
    ·rw[bB e,bB e,Option.map_some,if_neg (λz=>h (e.trans z))]
    ·rw[bD e,bD e,ih]
theorem nR (k j:α) (v:β):∀t:List (α×β),gT t k=none->gT (t++[(k,v)]) j=if j=k then some v else gT t j
 | [],_=>by
   by_cases e:k=j
   ·rw[if_pos e.symm];exact bB e
   ·rw[if_neg (λz=>e z.symm)];exact bD e
 | p::r,hn=>by
   rw[List.cons_append];have hk:¬p.1=k:=λz=>by rw[bB z] at hn;cases hn
   rw[bD hk] at hn;have ih:=nR k j v r hn
   by_cases e:p.1=j
   ·rw[bB e,bB e,if_neg (λz=>hk (e.trans z))]
   ·rw[bD e,bD e,ih]
theorem cu (t:List (α×β)) (k j:α) (v:β):gT (pT t k v) j=if j=k then some v else gT t j:=by
 unfold pT;rw[jZ];cases h:gT t k with
 | none=>exact nR k j v t h
 | some x=>
   show gT (t.map _) j=_;rw[qL]
   by_cases e:j=k
   ·rw[if_pos e,e,h,Option.map_some,if_pos rfl]
   ·rw[if_neg e];cases gT t j with
    | none=>rfl
    | some y=>rw[Option.map_some,if_neg e]
theorem tH (t:List (α×β)) (k:α) (v:β):(pT t k v).map (·.1)=if (gT t k).isSome=true then t.map (·.1) else t.map (·.1)++[k]:=by
 unfold pT;rw[jZ];split
 ·rw[map_map];apply List.map_congr_left;intro p _;show(if p.1=k then (p.1,v) else p).1=p.1;split<;> rfl
 ·rw[map_append];rfl
theorem eZ {t:List (α×β)} {k:α} {v:β} (h:(t.map (·.1)).Nodup):((pT t k v).map (·.1)).Nodup:=by
 rw[tH];split
 ·exact h
 ·rename_i e;refine nodup_append.mpr ⟨h,by simp,λa ha b hb=>?_⟩;rw[mem_singleton] at hb;rintro rfl;subst hb;obtain⟨x,hx⟩:=cY ha;rw[hx] at e;exact e rfl
theorem pT_key {t:List (α×β)} {k j:α} {v:β}:j∈(pT t k v).map (·.1)↔j=k∨j∈t.map (·.1):=by
 constructor
 ·intro h;obtain⟨x,hx⟩:=cY h;rw[cu] at hx
  by_cases e:j=k
  ·exact .inl e
  ·rw[if_neg e] at hx;exact .inr (cr hx)
 ·intro h;rcases h with rfl | h
  ·exact cr (v:=v) (by rw[cu,if_pos rfl])
  ·by_cases e:j=k
   ·exact cr (v:=v) (by rw[cu,if_pos e])
   ·obtain⟨x,hx⟩:=cY h;exact cr (v:=x) (by rw[cu,if_neg e];exact hx)
theorem dG (t:List (α×β)) (k:α) (v:β):(pT t k v).length<=t.length+1:=by
 unfold pT;split
 ·rw[length_map];lia
 ·rw[length_append];simp
theorem gZ:∀{l m:List α},l.Nodup->(∀x,x∈l->x∈m)->l.length<=m.length
 | [],_,_,_=>zero_le _
 | x::l,m,hn,hs=>by
   rw[nodup_cons] at hn;have hx:=hs x mem_cons_self;have h1:l.length<=(m.erase x).length:=gZ hn.2 λy hy=>by
    have hne:y≠x:=λe=>hn.1 (e▸hy);exact(List.mem_erase_of_ne hne).mpr (hs y (mem_cons_of_mem _ hy))
   have h2:=List.length_erase_of_mem hx;have h3:=List.length_pos_of_mem hx;rw[length_cons];lia
theorem wL {l m:List α} (hl:l.Nodup) (hm:m.Nodup) (h:∀x,x∈l↔x∈m):l.length=m.length:=
 Nat.le_antisymm (gZ hl λx=>(h x).mp) (gZ hm λx=>(h x).mpr)
noncomputable abbrev bQ (α:Type):=List (α×List α)
noncomputable def j6 (T:bQ α) (k:α):List α:=(gT T k).getD []
noncomputable def kZ (R:List (α×Nat)):List α->Option Nat
 | []=>some 0
 | o::l=>match gT R o,kZ R l with
   | some x,some y=>some (max (x+1) y)
   | _,_=>none
noncomputable def Cl (T:bQ α) (R:List (α×Nat)):Prop:=∀k r,gT R k=some r->kZ R (j6 T k)=some r
theorem nS {R:List (α×Nat)}:∀{l:List α},(∀o,o∈l->∃x,gT R o=some x)->∃r,kZ R l=some r
 | [],_=>⟨0,rfl⟩
 | o::l,h=>by
   obtain⟨x,hx⟩:=h o mem_cons_self;obtain⟨y,hy⟩:=nS (l:=l) λo ho=>h o (mem_cons_of_mem _ ho);exact⟨max (x+1) y,by simp only[kZ,hx,hy]⟩
theorem iJ {R:List (α×Nat)} {o:α} {l:List α} {r:Nat} (h:kZ R (o::l)=some r):∃x y,gT R o=some x/\kZ R l=some y/\r=max (x+1) y:=by
 simp only[kZ] at h;cases hx:gT R o with
 | none=>rw[hx] at h;cases h
 | some x=>
   cases hy:kZ R l with
   | none=>rw[hx,hy] at h;cases h
   | some y=>rw[hx,hy] at h;exact⟨x,y,rfl,rfl,(Option.some.inj h).symm⟩
theorem j7 {R:List (α×Nat)}:∀{l:List α} {r:Nat} {o:α},kZ R l=some r->o∈l->∃x,gT R o=some x/\x<r
 | [],_,_,_,h=>by cases h
 | p::l,r,o,h,ho=>by
   obtain⟨x,y,h1,h2,h3⟩:=iJ h;rcases mem_cons.mp ho with rfl | ho
   ·exact⟨x,h1,by lia⟩
   ·obtain⟨z,h4,h5⟩:=j7 h2 ho;exact⟨z,h4,by lia⟩
theorem iK {R S:List (α×Nat)}:∀{l:List α} {r:Nat},(∀o x,o∈l->gT R o=some x->gT S o=some x)->kZ R l=some r->kZ S l=some r
 | [],_,_,h=>h
 | o::l,r,hle,h=>by
   obtain⟨x,y,h1,h2,h3⟩:=iJ h;have e1:=hle o x mem_cons_self h1;have e2:=iK (λo x ho=>hle o x (mem_cons_of_mem _ ho)) h2;simp only[kZ,e1,e2,h3]
theorem Cl.put {T:bQ α} {R:List (α×Nat)} {k:α} {v:Nat} (h:Cl T R) (hv:kZ R (j6 T k)=some v):(∀j x,gT R j=some x->gT (pT R k v) j=some x)/\Cl T (pT R k v):=by
 have mono:∀j x,gT R j=some x->gT (pT R k v) j=some x:=λj x hx=>by
  rw[cu]
  by_cases e:j=k
  ·subst e;have:=h _ _ hx;rw[hv] at this;rw[if_pos rfl,Option.some.inj this]
  ·rw[if_neg e];exact hx
 refine⟨mono,λj r hj=>?_⟩;rw[cu] at hj
 by_cases e:j=k
 ·subst e;rw[if_pos rfl] at hj;cases hj;exact iK (λo x _=>mono o x) hv
 ·rw[if_neg e] at hj;exact iK (λo x _=>mono o x) (h _ _ hj)
noncomputable def mK (T:bQ α) (k:α):Prop:=k∈T.map (·.1)∨∃e,e∈T/\k∈e.2
structure eA (T:bQ α) (R:List (α×Nat)):Prop where
 nd:(R.map (·.1)).Nodup
 cl:Cl T R
 ks:∀k,k∈R.map (·.1)↔mK T k
noncomputable def o9 (T:bQ α) (x y:α):Prop:=∃L,gT T x=some L/\y∈L
noncomputable def Ch (T:bQ α):α->List α->α->Prop
 | x,[],z=>o9 T x z
 | x,y::ys,z=>o9 T x y/\Ch T y ys z
theorem Ch.snoc {T:bQ α}:∀{x:α} {ys:List α} {y z:α},Ch T x ys y->o9 T y z->Ch T x (ys++[y]) z
 | _,[],_,_,h,e=>⟨h,e⟩
 | _,_::_,_,_,h,e=>⟨h.1,Ch.snoc h.2 e⟩
theorem Ch.at {T:bQ α}:∀{x:α} {ys:List α} {z:α},Ch T x ys z->∀(i:Nat) (a b:α),(x::ys)[i]?=some a->(ys++[z])[i]?=some b->o9 T a b
 | x,[],z,h,0,a,b,e1,e2=>by cases e1;cases e2;exact h
 | x,[],z,h,i+1,a,b,e1,e2=>by simp at e1
 | x,y::ys,z,h,0,a,b,e1,e2=>by cases e1;cases e2;exact h.1
 | x,y::ys,z,h,i+1,a,b,e1,e2=>by
   refine Ch.at h.2 i a b ?_ ?_
   ·simpa using e1
   ·simpa using e2
noncomputable def fy (T:bQ α) (R:List (α×Nat)):Option α->List α->List (List α)->Prop
 | _,[],[]=>True
 | c,k::w,l::ls=>∃L,gT T k=some L/\(∀o,o∈L->o∈l∨(∃x,gT R o=some x)∨c=some o)/\(∀o,o∈l->o∈L)/\(∀o,c=some o->o∈L)/\fy T R (some k) w ls
 | _,_,_=>False
theorem fy.mono {T:bQ α} {R S:List (α×Nat)} (hm:∀j x,gT R j=some x->gT S j=some x):∀{c:Option α} {w:List α} {ls:List (List α)},fy T R c w ls->fy T S c w ls
 | _,[],[],_=>trivial
 | _,[],_::_,h=>h.elim
 | _,_::_,[],h=>h.elim
 | _,_::_,_::_,⟨L,h1,h2,h3,h4,h5⟩=>⟨L,h1,λo ho=>by
     rcases h2 o ho with z | ⟨x,z⟩ | z
     ·exact .inl z
     ·exact .inr (.inl ⟨x,hm _ _ z⟩)
     ·exact .inr (.inr z),h3,h4,fy.mono hm h5⟩
theorem fy.came {T:bQ α} {R:List (α×Nat)} {k:α} {r:Nat} (hk:gT R k=some r):∀{w:List α} {ls:List (List α)},fy T R (some k) w ls->fy T R none w ls
 | [],[],_=>trivial
 | [],_::_,h=>h.elim
 | _::_,[],h=>h.elim
 | _::_,_::_,⟨L,h1,h2,h3,h4,h5⟩=>⟨L,h1,λo ho=>by
    rcases h2 o ho with z | z | z
    ·exact .inl z
    ·exact .inr (.inl z)
    ·cases z;exact .inr (.inl ⟨r,hk⟩),h3,(λo z=>by cases z),h5⟩
theorem fy.keys {T:bQ α} {R:List (α×Nat)}:∀{c:Option α} {w:List α} {ls:List (List α)},fy T R c w ls->∀k,k∈w->k∈T.map (·.1)
 | _,[],_,_,_,h=>by cases h
 | _,_::_,[],h,_,_=>h.elim
 | _,k::w,_::_,⟨L,h1,_,_,_,h5⟩,j,hj=>by
   rcases mem_cons.mp hj with rfl | hj
   ·exact cr h1
   ·exact fy.keys h5 j hj
theorem wM {l:List α} (h:l.Nodup):l.reverse.Nodup:=List.pairwise_reverse.mpr (h.imp λh=>Ne.symm h)
theorem fy.pop {T:bQ α} {R:List (α×Nat)} {k:α} {w:List α} {ls:List (List α)} (hR:Cl T R) (h:fy T R none (k::w) ([]::ls)):∃L v,gT T k=some L/\kZ R L=some v/\Cl T (pT R k v)/\(∀j x,gT R j=some x->gT (pT R k v) j=some x)/\fy T (pT R k v) none w ls:=by
 obtain⟨L,h1,h2,_,_,h5⟩:=h;obtain⟨v,hv⟩:=nS (R:=R) (l:=L) λo ho=>by
  rcases h2 o ho with z | z | z
  ·cases z
  ·exact z
  ·cases z
 obtain⟨hm,hc⟩:=hR.put (k:=k) (v:=v) (by unfold j6;rw[h1];exact hv);exact⟨L,v,h1,hv,hc,hm,(h5.mono hm).came (r:=v) (by rw[cu,if_pos rfl])⟩
theorem fy.skip {T:bQ α} {R:List (α×Nat)} {k o:α} {l:List α} {w:List α} {ls:List (List α)} {x:Nat} (h:fy T R none (k::w) ((o::l)::ls)) (ho:gT R o=some x):fy T R none (k::w) (l::ls):=by
 obtain⟨L,h1,h2,h3,h4,h5⟩:=h;refine⟨L,h1,λp hp=>?_,λp hp=>h3 p (mem_cons_of_mem _ hp),h4,h5⟩;rcases h2 p hp with z | z | z
 ·rcases mem_cons.mp z with rfl | z
  ·exact .inr (.inl ⟨x,ho⟩)
  ·exact .inl z
 ·exact .inr (.inl z)
 ·cases z
theorem fy.push {T:bQ α} {R:List (α×Nat)} {k o:α} {l L':List α} {w:List α} {ls:List (List α)} (h:fy T R none (k::w) ((o::l)::ls)) (hL:gT T o=some L') {m:List α} (hm:∀x,x∈m↔x∈L'):fy T R none (o::k::w) (m::l::ls):=by
 obtain⟨L,h1,h2,h3,h4,h5⟩:=h;refine⟨L',hL,λp hp=> .inl ((hm p).mpr hp),λp hp=>(hm p).mp hp,(λp z=>by cases z),L,h1,λp hp=>?_,λp hp=>h3 p (mem_cons_of_mem _ hp),λp z=>?_,h5⟩
 ·rcases h2 p hp with z | z | z
  ·rcases mem_cons.mp z with rfl | z
   ·exact .inr (.inr rfl)
   ·exact .inl z
  ·exact .inr (.inl z)
  ·cases z
 ·cases z;exact h3 o mem_cons_self
theorem fy.edge {T:bQ α} {R:List (α×Nat)} {k o:α} {l:List α} {w:List α} {ls:List (List α)} {c:Option α} (h:fy T R c (k::w) ((o::l)::ls)):o9 T k o:=by
 obtain⟨L,h1,_,h3,_⟩:=h;exact⟨L,h1,h3 o mem_cons_self⟩
theorem fy.ch {T:bQ α} {R:List (α×Nat)} {x:α} {b:List α}:∀{a:List α} {ls:List (List α)} {z:α},fy T R (some z) (a++x::b) ls->Ch T x a.reverse z
 | [],[],_,h=>h.elim
 | [],_::_,_,⟨L,h1,_,_,h4,_⟩=>⟨L,h1,h4 _ rfl⟩
 | _::_,[],_,h=>h.elim
 | y::a,_::_,z,⟨L,h1,_,_,h4,h5⟩=>by
   rw[List.reverse_cons];exact(fy.ch h5).snoc ⟨L,h1,h4 _ rfl⟩
theorem fy.ring {T:bQ α} {R:List (α×Nat)} {o:α} {l:List α} {ls:List (List α)} {a b:List α} (h:fy T R none (a++o::b) ((o::l)::ls)):Ch T o a.reverse o:=by
 cases a with
 | nil=>
   obtain⟨L,h1,_,h3,_⟩:=h;exact⟨L,h1,h3 o mem_cons_self⟩
 | cons k a=>
   have e:=fy.edge h;obtain⟨L,h1,_,_,_,h5⟩:=h;rw[List.reverse_cons];exact(fy.ch h5).snoc e
noncomputable def wt (p:α->Bool):bQ α->Nat
 | []=>0
 | e::T=>(if p e.1=true then e.2.length+2 else 0)+wt p T
theorem j8 {p q:α->Bool} (h:∀x,q x=true->p x=true):∀T:bQ α,wt q T<=wt p T
 | []=>le_refl _
 | e::T=>by
   have:=j8 h T;unfold wt
   by_cases hq:q e.1=true
   ·rw[if_pos hq,if_pos (h _ hq)];lia
   ·rw[if_neg hq];split<;> lia
theorem nU {p q:α->Bool} {k:α} (h:∀x,q x=true->p x=true) (hp:p k=true) (hq:q k=false):∀{T:bQ α} {L:List α},gT T k=some L->wt q T+(L.length+2)<=wt p T
 | [],_,e=>by cases e
 | e::T,L,hL=>by
   by_cases ek:e.1=k
   ·rw[bB ek] at hL;cases hL;have:=j8 h T;unfold wt;rw[ek,if_pos hp,hq,if_neg (by decide)];lia
   ·rw[bD ek] at hL;have ih:=nU h hp hq hL;unfold wt
    by_cases hqe:q e.1=true
    ·rw[if_pos hqe,if_pos (h _ hqe)];lia
    ·rw[if_neg hqe];split<;> lia
noncomputable def lc:List (List α)->Nat
 | []=>0
 | l::ls=>l.length+1+lc ls
noncomputable def cO (R:List (α×Nat)) (w:List α) (k:α):Bool:=!(gT R k).isSome&&!(w.contains k)
noncomputable def je (T:bQ α) (R:List (α×Nat)) (w:List α) (ls:List (List α)):Nat:=wt (cO R w) T+lc ls
theorem qM {T:bQ α} {R:List (α×Nat)} {k:α} {v:Nat} {w:List α} {ls:List (List α)} (hm:∀j x,gT R j=some x->gT (pT R k v) j=some x):je T (pT R k v) w ls<je T R (k::w) ([]::ls):=by
 have:wt (cO (pT R k v) w) T<=wt (cO R (k::w)) T:=j8 (λx hx=>by
  unfold cO at hx ⊢;rw[Bool.and_eq_true] at hx ⊢;obtain⟨h1,h2⟩:=hx;have hne:x≠k:=λe=>by
   rw[e,cu,if_pos rfl] at h1;cases h1
  refine⟨?_,?_⟩
  ·rw[cu,if_neg hne] at h1;exact h1
  ·simp only[List.contains_cons,Bool.not_or,Bool.and_eq_true] at h2 ⊢;exact⟨by simpa using hne,h2⟩) T
 unfold je;show wt (cO (pT R k v) w) T+lc ls<wt (cO R (k::w)) T+(0+1+lc ls);lia
theorem pd {T:bQ α} {R:List (α×Nat)} {o:α} {l:List α} {w:List α} {ls:List (List α)}:je T R w (l::ls)<je T R w ((o::l)::ls):=by
 unfold je;show wt (cO R w) T+(l.length+1+lc ls)<wt (cO R w) T+((o::l).length+1+lc ls);rw[length_cons];lia
theorem pe {T:bQ α} {R:List (α×Nat)} {o:α} {l m L:List α} {w:List α} {ls:List (List α)} (h1:gT R o=none) (h2:¬o∈w) (hL:gT T o=some L) (hm:m.length=L.length):je T R (o::w) (m::l::ls)<je T R w ((o::l)::ls):=by
 have:wt (cO R (o::w)) T+(L.length+2)<=wt (cO R w) T:=nU (k:=o) (λx hx=>by
  unfold cO at hx ⊢;rw[Bool.and_eq_true] at hx ⊢;refine⟨hx.1,?_⟩;have:=hx.2;simp only[List.contains_cons,Bool.not_or,Bool.and_eq_true] at this;exact this.2) (by unfold cO;rw[h1];simpa using h2) (by unfold cO;simp) hL
 unfold je;show wt (cO R (o::w)) T+(m.length+1+(l.length+1+lc ls))<wt (cO R w) T+((o::l).length+1+lc ls);rw[length_cons];lia
end
open O
noncomputable def rk (os:List O) (o:O):Nat:=(os.filter λx=>decide (cmp x o<0)).length
noncomputable def zc (h:O->Int):O->Int
 | z=>0
 | c e n r=>n*h e+zc h r
noncomputable def zd (P:O->Prop):O->Prop
 | z=>True
 | c e _ r=>P e/\zd P r
theorem dH:∀(k:Nat) (a b:O),a.len+b.len<=k->(mergeO a b).len<=a.len+b.len
 | _,z,b,_=>by rw[z_merge];lia
 | _,c e n r,z,_=>by rw[merge_z];lia
 | 0,c e n r,c _ _ _,hk=>by simp[O.len] at hk
 | k+1,c e n r,c e' n' r',hk=>by
   rw[merge_c];simp only[O.len] at hk;have h1:=dH k r (c e' n' r') (by simp only[O.len];lia);have h2:=dH k (c e n r) r' (by simp only[O.len];(clear h1;lia));have h3:=dH k r r' (by (clear h1 h2;lia));simp only[O.len] at h1 h2;split
   ·simp only[O.len];(clear hk h2 h3;lia)
   ·split
    ·simp only[O.len];(clear hk h1 h3;lia)
    ·simp only[O.len];(clear hk h1 h2;lia)
theorem ph (a b:O):(mergeO a b).len<=a.len+b.len:=dH _ a b (le_refl _)
noncomputable def Ce (a:O):Int:=zc (λ_=>1) a
structure Wn (D L H:Nat) (T M:Int) (a:O):Prop where
 nf:NF a
 ln:a.len<=L
 tt:Ce a<=T
 ex:zd (λe=>e.dp<=D/\hw e<=H/\mx e<=M) a
theorem u9 {n:Int} (h:0<=n):NF (wh n):=NF.wh h
section
variable {α:Type}
end
section
variable {α:Type}
end
noncomputable def i4:List (Int×Int)->O
 | []=> .z
 | p::l=> .c (wh p.1) p.2 (i4 l)
theorem iL {a b:Int} (ha:0<=a) (hb:0<=b):cmp (wh a) (wh b)=if a<b then -1 else if b<a then 1 else 0:=by
 by_cases a0:a=0
 ·subst a0;rw[wK]
  by_cases b0:b=0
  ·subst b0;simp[wK,cmp]
  ·rw[mJ (by (clear ha;lia)),if_pos (by (clear ha;lia))];rfl
 ·rw[mJ (by (clear hb;lia))]
  by_cases b0:b=0
  ·subst b0;rw[wK,if_neg (by (clear a0 hb;lia)),if_pos (by (clear hb;lia))];rfl
  ·rw[mJ (by (clear ha a0;lia)),iI]
   rfl
theorem mL {a b:Int} (ha:0<=a) (hb:0<=b) (h:wh a=wh b):a=b:=by
 have e:=iL ha hb;rw[h,cmp_self] at e
 by_cases h1:a<b
 ·rw[if_pos h1] at e;(clear ha hb h1;lia)
 ·rw[if_neg h1] at e
  by_cases h2:b<a
  ·rw[if_pos h2] at e;(clear ha hb h1 h2;lia)
  ·(clear ha hb e;lia)
noncomputable def mM:List (Int×Int)->List (Int×Int)->Bool
 | [],[]=>false
 | [],_::_=>true
 | _::_,[]=>false
 | p::l,q::m=>if p=q then mM l m else decide (p.1<q.1∨p.1=q.1/\p.2<q.2)
theorem nV:∀{l m:List (Int×Int)},(∀p,p∈l->0<=p.1)->(∀p,p∈m->0<=p.1)->(mM l m=true↔cmp (i4 l) (i4 m)<0)
 | [],[],_,_=>by simp[mM,i4,cmp]
 | [],_::_,_,_=>by simp[mM,i4,cmp]
 | _::_,[],_,_=>by simp[mM,i4,cmp]
 | p::l,q::m,h,k=>by
   have ih:=nV (l:=l) (m:=m) (λx hx=>h x (mem_cons_of_mem _ hx)) (λx hx=>k x (mem_cons_of_mem _ hx));have hp:=h p mem_cons_self;have hq:=k q mem_cons_self;unfold mM
   by_cases e:p=q
   ·subst e;rw[if_pos rfl,ih];show _↔cmp (.c (wh p.1) p.2 (i4 l)) (.c (wh p.1) p.2 (i4 m))<0;rw[iI,if_neg (by (clear ih hp hq;lia)),if_neg (by (clear ih hp hq;lia))]
   ·rw[if_neg e,decide_eq_true_eq];show _↔cmp (.c (wh p.1) p.2 (i4 l)) (.c (wh q.1) q.2 (i4 m))<0
    by_cases e1:p.1=q.1
    ·have e2:p.2≠q.2:=λz=>e (Prod.ext e1 z);rw[e1,iI];constructor
     ·rintro(z | z)
      ·(clear ih hp hq e1 e2;lia)
      ·rw[if_pos z.2];decide
     ·intro z
      by_cases z1:p.2<q.2
      ·exact .inr ⟨rfl,z1⟩
      ·rw[if_neg z1,if_pos (by (clear ih hp hq e1 z;lia))] at z;(clear ih hp hq e1 e2 z1;lia)
    ·have c1:=iL hp hq;have hne:cmp (wh p.1) (wh q.1)≠0:=by
      rw[c1]
      by_cases z:p.1<q.1
      ·rw[if_pos z];decide
      ·rw[if_neg z,if_pos (by (clear ih hp hq c1;lia))];decide
     have c2:cmp (.c (wh p.1) p.2 (i4 l)) (.c (wh q.1) q.2 (i4 m))=cmp (wh p.1) (wh q.1):=by
      simp only[cmp];rw[if_pos hne]
     rw[c2,c1];constructor
     ·rintro(z | z)
      ·rw[if_pos z];decide
      ·exact absurd z.1 e1
     ·intro z
      by_cases z1:p.1<q.1
      ·exact .inl z1
      ·rw[if_neg z1,if_pos (by (clear ih hp hq e1 c1 hne c2;lia))] at z;(clear ih hp hq e1 c1 hne c2 z1;lia)
section
variable {α:Type}
end
section
variable {α:Type} [DecidableEq α]
noncomputable def aW (h:List (α×Int)) (k:α):Int:=(gT h k).getD 0
noncomputable def iM (rk:α->Int):List (α×Int)->O->O
 | [],acc=>acc
 | p::h,acc=>iM rk h (mergeO acc (.c (wh (rk p.1)) p.2 .z))
noncomputable def j9 (rk:α->Int) (x:O):List (α×Int)->Int
 | []=>0
 | p::h=>(if wh (rk p.1)=x then p.2 else 0)+j9 rk x h
theorem ie (rk:α->Int) (x:O):∀(h:List (α×Int)) (acc:O),same x (iM rk h acc)=same x acc+j9 rk x h
 | [],acc=>by simp[iM,j9]
 | p::h,acc=>by
   show same x (iM rk h _)=_+((if wh (rk p.1)=x then p.2 else 0)+j9 rk x h);rw[ie rk x h,kY,dE,dD];lia
theorem nW {rk:α->Int} (hr:∀k,0<=rk k):∀{h:List (α×Int)} {acc:O},NF acc->(∀p,p∈h->0<p.2)->NF (iM rk h acc)
 | [],_,ha,_=>ha
 | p::h,acc,ha,hp=>by
   show NF (iM rk h (mergeO acc (.c (wh (rk p.1)) p.2 .z)));have h1:NF (.c (wh (rk p.1)) p.2 .z):=⟨u9 (hr _),hp p mem_cons_self,trivial,trivial⟩;exact nW hr (ha.merge h1) λq hq=>hp q (mem_cons_of_mem _ hq)
noncomputable def cF (f:α->Int):List α->Int
 | []=>0
 | k::U=>f k+cF f U
theorem eS {f:α->Int}:∀{U:List α},(∀k,k∈U->f k=0)->cF f U=0
 | [],_=>rfl
 | k::U,h=>by
   show f k+cF f U=0;rw[h k mem_cons_self,eS λx hx=>h x (mem_cons_of_mem _ hx)]
   rfl
theorem dJ {f g:α->Int}:∀{U:List α},(∀k,k∈U->f k=g k)->cF f U=cF g U
 | [],_=>rfl
 | k::U,h=>by
   show f k+cF f U=g k+cF g U;rw[h k mem_cons_self,dJ λx hx=>h x (mem_cons_of_mem _ hx)]
theorem iN (f g:α->Int):∀U:List α,cF (λk=>f k+g k) U=cF f U+cF g U
 | []=>rfl
 | k::U=>by
   show f k+g k+cF (λk=>f k+g k) U=f k+cF f U+(g k+cF g U);rw[iN f g U];lia
theorem fO {f:α->Int} {a:α}:∀{U:List α},U.Nodup->a∈U->(∀k,k∈U->k≠a->f k=0)->cF f U=f a
 | [],_,h,_=>(nomatch h)
 | k::U,hn,ha,h=>by
   obtain⟨n1,n2⟩:=nodup_cons.mp hn;show f k+cF f U=f a
   by_cases e:k=a
   ·subst e;rw[eS λx hx=>h x (mem_cons_of_mem _ hx) λz=>n1 (z▸hx)];lia
   ·rw[h k mem_cons_self e,fO n2 ((mem_cons.mp ha).resolve_left (Ne.symm e)) λx hx=>h x (mem_cons_of_mem _ hx)];lia
theorem mO {rk:α->Int} {x:O} {U:List α} (hU:U.Nodup):∀{h:List (α×Int)},(h.map (·.1)).Nodup->(∀p,p∈h->p.1∈U)->j9 rk x h=cF (λk=>if wh (rk k)=x then aW h k else 0) U
 | [],_,_=>(eS λk _=>by simp[aW,qK]).symm
 | p::h,hn,hin=>by
   rw[map_cons] at hn;obtain⟨n1,n2⟩:=nodup_cons.mp hn;have ih:=mO (rk:=rk) (x:=x) hU n2 λq hq=>hin q (mem_cons_of_mem _ hq);show(if wh (rk p.1)=x then p.2 else 0)+j9 rk x h=_;have e1:cF (λk=>if wh (rk k)=x then aW (p::h) k else 0) U=cF (λk=>(if k=p.1 then (if wh (rk p.1)=x then p.2 else 0) else 0)+(if wh (rk k)=x then aW h k else 0)) U:=dJ λk _=>by
    by_cases e:p.1=k
    ·have hz:aW h k=0:=by
      unfold aW;rw[fN (λz=>n1 (by rw[e];exact z))]
      rfl
     have h1:aW (p::h) k=p.2:=by unfold aW;rw[bB e];rfl
     rw[h1,hz,if_pos e.symm,e];split<;> simp
    ·have h1:aW (p::h) k=aW h k:=by unfold aW;rw[bD e]
     rw[h1,if_neg (c:=k=p.1) (λz=>e z.symm),Int.zero_add]
   rw[e1,iN,←ih,fO hU (hin p mem_cons_self) λk _ hk=>if_neg hk,if_pos rfl]
theorem mP {rk:α->Int} (hr:∀k,0<=rk k) {U:List α} (hU:U.Nodup) {h g:List (α×Int)} (h1:(h.map (·.1)).Nodup) (g1:(g.map (·.1)).Nodup) (h2:∀p,p∈h->p.1∈U) (g2:∀p,p∈g->p.1∈U) (h3:∀p,p∈h->0<p.2) (g3:∀p,p∈g->0<p.2) {a:α} (ha:a∈U) (hl:aW g a<aW h a) (he:∀k,k∈U->k≠a->rk a<=rk k->aW g k=aW h k):cmp (iM rk g z) (iM rk h z)<0:=by
 have key:∀x,same x (iM rk g z)=cF (λk=>if wh (rk k)=x then aW g k else 0) U:=λx=>by rw[ie,dD,mO hU g1 g2];(clear hl;lia)
 have key2:∀x,same x (iM rk h z)=cF (λk=>if wh (rk k)=x then aW h k else 0) U:=λx=>by rw[ie,dD,mO hU h1 h2];(clear hl;lia)
 refine gY (x:=wh (rk a)) (nW hr trivial g3) (nW hr trivial h3) ?_ λy hy=>?_
 ·rw[key,key2];have e:cF (λk=>if wh (rk k)=wh (rk a) then aW h k else 0) U=cF (λk=>if wh (rk k)=wh (rk a) then aW g k else 0) U+cF (λk=>if k=a then aW h a-aW g a else 0) U:=by
   rw[←iN];refine dJ λk hk=>?_
   by_cases z:k=a
   ·subst z;rw[if_pos rfl,if_pos rfl,if_pos rfl];(clear hl;lia)
   ·rw[if_neg z]
    by_cases y:wh (rk k)=wh (rk a)
    ·rw[if_pos y,if_pos y,he k hk z (Int.le_of_eq (mL (hr k) (hr a) y).symm)];(clear hl;lia)
    ·rw[if_neg y,if_neg y];rfl
  rw[e,fO hU ha λk _ hk=>if_neg hk,if_pos rfl]
  (clear e;lia)
 ·rw[key,key2];refine dJ λk hk=>?_
  by_cases e:wh (rk k)=y
  ·rw[if_pos e,if_pos e];subst e;rw[iL (hr k) (hr a)] at hy
   by_cases z:k=a
   ·subst z;rw[if_neg (by (clear hl hy;lia)),if_neg (by (clear hl hy;lia))] at hy
    (clear hl;lia)
   ·refine he k hk z ?_
    by_cases w:rk k<rk a
    ·rw[if_pos w] at hy;(clear hl w;lia)
    ·(clear hl hy;lia)
  ·rw[if_neg e,if_neg e]
noncomputable def di (rk:α->Int) (r:Int):List (α×Int)->Int
 | []=>0
 | p::h=>(if rk p.1=r then p.2 else 0)+di rk r h
theorem qN (x:O) (v:Int->Int):∀ks:List Int,same x (i4 (ks.map λr=>(r,v r)))=cF (λr=>if wh r=x then v r else 0) ks
 | []=>rfl
 | r::ks=>by
   show same x (.c (wh r) (v r) (i4 (ks.map λr=>(r,v r))))=(if wh r=x then v r else 0)+_;rw[dE,qN x v ks]
theorem qO {rk:α->Int} (hr:∀k,0<=rk k) {r:Int} (h0:0<=r):∀h:List (α×Int),j9 rk (wh r) h=di rk r h
 | []=>rfl
 | p::h=>by
   show(if wh (rk p.1)=wh r then p.2 else 0)+_=(if rk p.1=r then p.2 else 0)+_;rw[qO hr h0 h]
   by_cases e:rk p.1=r
   ·rw[if_pos e,if_pos (by rw[e])]
   ·rw[if_neg e,if_neg (λz=>e (mL (hr _) h0 z))]
theorem nX {rk:α->Int} {x:O}:∀{h:List (α×Int)},(∀p,p∈h->wh (rk p.1)≠x)->j9 rk x h=0
 | [],_=>rfl
 | p::h,hn=>by
   show(if wh (rk p.1)=x then p.2 else 0)+j9 rk x h=0;rw[if_neg (hn p mem_cons_self),nX λq hq=>hn q (mem_cons_of_mem _ hq)]
   rfl
theorem lg {rk:α->Int} {r:Int}:∀{h:List (α×Int)},(∀p,p∈h->0<p.2)->0<=di rk r h/\(r∈h.map (λp=>rk p.1)->0<di rk r h)
 | [],_=>⟨Int.le_refl _,λz=>(nomatch z)⟩
 | p::h,hp=>by
   obtain⟨a,b⟩:=lg (rk:=rk) (r:=r) (h:=h) λq hq=>hp q (mem_cons_of_mem _ hq);have c:=hp p mem_cons_self;show 0<=(if rk p.1=r then p.2 else 0)+di rk r h/\(_->0<(if rk p.1=r then p.2 else 0)+di rk r h)
   by_cases e:rk p.1=r
   ·rw[if_pos e];exact⟨by (clear e;lia),λ_=>by (clear e;lia)⟩
   ·rw[if_neg e];refine⟨by (clear c e;lia),λz=>?_⟩;rw[map_cons] at z;have:=b ((mem_cons.mp z).resolve_left (Ne.symm e))
    (clear a c e;lia)
theorem qP:∀{l:List (Int×Int)},(∀p,p∈l->0<=p.1/\0<p.2)->(l.map (·.1)).Pairwise (λa b=>b<a)->NF (i4 l)
 | [],_,_=>trivial
 | p::l,h,hp=>by
   rw[map_cons] at hp;obtain⟨h1,h2⟩:=pairwise_cons.mp hp;have ih:=qP (λq hq=>h q (mem_cons_of_mem _ hq)) h2;obtain⟨a,b⟩:=h p mem_cons_self;refine⟨u9 a,b,?_,ih⟩;cases l with
   | nil=>trivial
   | cons q l=>
     have hq:=h q (mem_cons_of_mem _ mem_cons_self);have lt:=h1 q.1 (by simp);refine⟨?_,?_⟩
     ·rw[iL hq.1 a,if_pos lt];decide
     ·have:=ih.2.2.1;refine Lt.mono ?_ this;rw[iL hq.1 a,if_pos lt];decide
theorem ze {rk:α->Int} (hr:∀k,0<=rk k) {h:List (α×Int)} (hp:∀p,p∈h->0<p.2) {ks:List Int} (h1:ks.Pairwise λa b=>b<a) (h2:∀r,r∈ks↔r∈h.map (λp=>rk p.1)):iM rk h z=i4 (ks.map λr=>(r,di rk r h)):=by
 have hk:∀r,r∈ks->0<=r:=λr hr'=>by
  obtain⟨p,_,rfl⟩:=mem_map.mp ((h2 r).mp hr');exact hr _
 have nd:ks.Nodup:=h1.imp λ{a b} h e=>by lia
 refine kX (nW hr trivial hp) (qP (λp hp'=>?_) ?_) λx=>?_
 ·obtain⟨r,hr',rfl⟩:=mem_map.mp hp';exact⟨hk r hr',(lg hp).2 ((h2 r).mp hr')⟩
 ·rw[map_map];show(ks.map λr=>r).Pairwise _;rw[List.map_id'];exact h1
 ·rw[ie,dD,qN]
  by_cases e:∃r,r∈ks/\wh r=x
  ·obtain⟨r,hr',rfl⟩:=e;rw[qO hr (hk r hr'),fO nd hr' λk hk' hne=>if_neg (λz=>hne (mL (hk k hk') (hk r hr') z)),if_pos rfl];lia
  ·rw[nX (λp hp' z=>e ⟨rk p.1,(h2 _).mpr (mem_map.mpr ⟨p,hp',rfl⟩),z⟩),eS λk hk'=>if_neg λz=>e ⟨k,hk',z⟩]
   rfl
end
section
variable {α:Type} [DecidableEq α]
theorem kc (h:List (α×Int)) (k j:α) (v:Int):aW (pT h k v) j=if j=k then v else aW h j:=by
 unfold aW;rw[cu];split<;> rfl
theorem eB {h:List (α×Int)} (hp:∀p,p∈h->0<=p.2) (k:α):0<=aW h k:=by
 unfold aW;cases e:gT h k with
 | none=>exact Int.le_refl _
 | some v=>exact hp _ (cB e)
theorem gA {h:List (α×Int)} {k:α} {v:Int} {p:α×Int} (hp:p∈pT h k v):p∈h∨p=(k,v):=by
 unfold pT at hp;split at hp
 ·obtain⟨x,hx,rfl⟩:=mem_map.mp hp;split
  ·rename_i z;exact .inr (by rw[z])
  ·exact .inl hx
 ·rcases mem_append.mp hp with hp | hp
  ·exact .inl hp
  ·exact .inr (mem_singleton.mp hp)
noncomputable def eU (h:List (α×Int)):List (α×Int)->List (α×Int)
 | []=>h
 | p::g=>eU (pT h p.1 (aW h p.1+p.2)) g
theorem lh (p:α×Int):∀(g h:List (α×Int)),eU h (g++[p])=pT (eU h g) p.1 (aW (eU h g) p.1+p.2)
 | [],_=>rfl
 | q::g,h=>lh p g (pT h q.1 (aW h q.1+q.2))
theorem mQ:∀{g h:List (α×Int)},(h.map (·.1)).Nodup->((eU h g).map (·.1)).Nodup
 | [],_,hn=>hn
 | p::g,h,hn=>mQ (g:=g) (eZ hn)
theorem qQ:∀{g h:List (α×Int)},(∀p,p∈h->0<=p.2)->(∀p,p∈g->0<=p.2)->∀p,p∈eU h g->0<=p.2
 | [],_,h1,_=>h1
 | q::g,h,h1,h2=>qQ (g:=g) (h:=pT h q.1 (aW h q.1+q.2)) (λp hp=>by
    rcases gA hp with hp | hp
    ·exact h1 p hp
    ·have a:=eB h1 q.1;have b:=h2 q mem_cons_self;rw[hp];show 0<=aW h q.1+q.2;lia) λp hp=>h2 p (mem_cons_of_mem _ hp)
theorem ig:∀(g h:List (α×Int)),(eU h g).length<=h.length+g.length
 | [],_=>le_refl _
 | p::g,h=>by
   have a:=ig g (pT h p.1 (aW h p.1+p.2));have b:=dG h p.1 (aW h p.1+p.2);show(eU _ g).length<=h.length+(g.length+1);lia
theorem nY:∀{g h:List (α×Int)},(g.map (·.1)).Nodup->∀k,aW (eU h g) k=aW h k+aW g k
 | [],h,_,k=>by show aW h k=aW h k+aW [] k;simp[aW,qK]
 | p::g,h,hn,k=>by
   rw[map_cons] at hn;obtain⟨n1,n2⟩:=nodup_cons.mp hn;show aW (eU (pT h p.1 (aW h p.1+p.2)) g) k=_;rw[nY n2,kc]
   by_cases e:p.1=k
   ·have hz:aW g k=0:=by unfold aW;rw[fN (λz=>n1 (by rw[e];exact z))];rfl
    have h1:aW (p::g) k=p.2:=by unfold aW;rw[bB e];rfl
    rw[if_pos e.symm,hz,h1,e]
    (clear hz h1;lia)
   ·have h1:aW (p::g) k=aW g k:=by unfold aW;rw[bD e]
    rw[if_neg (λz=>e z.symm),h1]
noncomputable def fP (h:List (α×Int)):List (α×Int):=h.filter λp=>decide (0<p.2)
theorem wN {h:List (α×Int)} (hn:(h.map (·.1)).Nodup):((fP h).map (·.1)).Nodup:=List.Nodup.sublist ((List.filter_sublist (l:=h)).map _) hn
theorem tI {h:List (α×Int)} {p:α×Int} (hp:p∈fP h):0<p.2:=of_decide_eq_true (List.mem_filter.mp hp).2
theorem nZ:∀{h:List (α×Int)},(h.map (·.1)).Nodup->(∀p,p∈h->0<=p.2)->∀k,aW (fP h) k=aW h k
 | [],_,_,_=>rfl
 | p::h,hn,hp,k=>by
   rw[map_cons] at hn;obtain⟨n1,n2⟩:=nodup_cons.mp hn;have ih:=nZ n2 (λq hq=>hp q (mem_cons_of_mem _ hq)) k;have c:=hp p mem_cons_self
   by_cases z:0<p.2
   ·have e0:fP (p::h)=p::fP h:=List.filter_cons_of_pos (by simpa using z);rw[e0]
    by_cases e:p.1=k
    ·unfold aW;rw[bB e,bB e]
    ·have a:aW (p::fP h) k=aW (fP h) k:=by unfold aW;rw[bD e]
     have b:aW (p::h) k=aW h k:=by unfold aW;rw[bD e]
     rw[a,b,ih]
   ·have e0:fP (p::h)=fP h:=List.filter_cons_of_neg (by simpa using z);rw[e0,ih]
    by_cases e:p.1=k
    ·have a:aW h k=0:=by unfold aW;rw[fN (λz=>n1 (by rw[e];exact z))];rfl
     have b:aW (p::h) k=p.2:=by unfold aW;rw[bB e];rfl
     rw[a,b];(clear ih a b;lia)
    ·unfold aW;rw[bD e]
noncomputable def hZ (h:List (α×Int)) (k:α) (g:List (α×Int)):List (α×Int):=fP (eU (pT h k (aW h k-1)) g)
theorem qR {h g:List (α×Int)} {k:α} (hn:(h.map (·.1)).Nodup):((hZ h k g).map (·.1)).Nodup:=wN (mQ (eZ hn))
theorem mR {h g:List (α×Int)} {k:α} {p:α×Int} (hp:p∈hZ h k g):0<p.2:=tI hp
theorem wO {h:List (α×Int)} {k:α} (h0:∀p,p∈h->0<=p.2) (hk:0<aW h k):∀p,p∈pT h k (aW h k-1)->0<=p.2:=λp hp=>by
 rcases gA hp with hp | hp
 ·exact h0 p hp
 ·rw[hp];show 0<=aW h k-1;lia
theorem qS {h g:List (α×Int)} {k:α} (hn:(h.map (·.1)).Nodup) (gn:(g.map (·.1)).Nodup) (h0:∀p,p∈h->0<=p.2) (g0:∀p,p∈g->0<=p.2) (hk:0<aW h k) (j:α):aW (hZ h k g) j=aW h j+aW g j- (if j=k then 1 else 0):=by
 unfold hZ;rw[nZ (mQ (eZ hn)) (qQ (wO h0 hk) g0),nY gn,kc]
 by_cases e:j=k
 ·rw[if_pos e,if_pos e,e];(clear hk;lia)
 ·rw[if_neg e,if_neg e];(clear hk;lia)
theorem kd {h:List (α×Int)} {k:α} (hk:0<aW h k):k∈h.map (·.1):=by
 unfold aW at hk;cases e:gT h k with
 | none=>rw[e] at hk;exact absurd hk (Int.lt_irrefl _)
 | some v=>exact cr e
theorem fQ {h:List (α×Int)} (hn:(h.map (·.1)).Nodup) {p:α×Int} (hp:p∈h):aW h p.1=p.2:=by
 unfold aW;rw[nQ (k:=p.1) (v:=p.2) hn hp]
 rfl
end
inductive Cf where
 | num (a:O)
 | nam (l:List Nat)
 | op (c:Nat)
deriving DecidableEq
noncomputable abbrev Rd:=Option (List Cf×List Nat)
end Nm
namespace L2
open PySem PySem.Spec PyProof.Rows Nm
noncomputable def aP:O->List W
 | .z=>[]
 | .c e n r=> .tup [.tup (aP e),.int n]::aP r
noncomputable def oa (o:O):W:= .tup (aP o)
noncomputable def fW (e:O) (n:Int):W:= .tup [oa e,.int n]
theorem qT:aP .z=[]:=rfl
theorem cC (e:O) (n:Int) (r:O):aP (.c e n r)=fW e n::aP r:=rfl
theorem bZ:∀a:O,(aP a).length=a.len
 | .z=>rfl
 | .c e n r=>by rw[cC,length_cons,bZ r];rfl
theorem qU {e:O} {n:Int} (h:W.flats (aP e)=true):(fW e n).flat=true:=by
 simp[fW,oa,W.flat,W.flats,h]
theorem cv:∀a:O,W.flats (aP a)=true
 | .z=>by simp[aP,W.flats]
 | .c e n r=>by
   rw[cC];simp[W.flats,qU (cv e),cv r]
theorem qV (a:O):(oa a).flat=true:=by simp[oa,W.flat,cv a]
theorem fR:∀a:O,W.deps (aP a)<=2*a.dp
 | .z=>by simp[aP,W.deps]
 | .c e n r=>by
   have h1:=fR e;have h2:=fR r;rw[cC];simp only[W.deps,fW,oa,W.dep,O.dp];lia
theorem tJ (a:O):(oa a).dep<=2*a.dp+1:=by
 have:=fR a;simp only[oa,W.dep];lia
theorem kf:∀a b:O,W.eqs (aP a) (aP b)=decide (a=b)
 | .z,.z=>by simp[aP,W.eqs]
 | .z,.c _ _ _=>by simp[aP,W.eqs]
 | .c _ _ _,.z=>by simp[aP,W.eqs]
 | .c e n r,.c e' n' r'=>by
   have h1:=kf e e';have h2:=kf r r';simp only[aP,W.eqs,W.eq_tup,W.eq_int,h1,h2,Bool.and_true];rw[Bool.eq_iff_iff];simp only[Bool.and_eq_true,decide_eq_true_eq,beq_iff_eq,O.c.injEq];constructor
   ·rintro⟨⟨a,b⟩,c⟩;exact⟨a,b,c⟩
   ·rintro⟨a,b,c⟩;exact⟨⟨a,b⟩,c⟩
theorem qW (a b:O):(oa a).eq (oa b)=decide (a=b):=kf a b
theorem wP (e e':O) (n n':Int):(fW e n).eq (fW e' n')=(decide (e=e')&&decide (n=n')):=by
 have:=qW e e';simp only[fW,W.eq_tup,W.eq_int,W.eqs,this,Bool.and_true]
 congr 1
theorem qX (a b:O):(W.tup (aP a)).eq (W.tup (aP b))=decide (a=b):=qW a b
theorem eC (a:O):(W.tup (aP a)).flat=true:=qV a
theorem og (a:O):(W.tup (aP a)).dep<=2*a.dp+1:=tJ a
theorem A4 {α:Type} (x:α) (xs:List α):fC (x::xs) 0=some x:=by
 simp[fC,pF]
theorem A5 {α:Type} (x y:α) (xs:List α):fC (x::y::xs) 1=some y:=by
 have h:(1:Int)<((xs.length:Int)+1+1):=by lia
 simp[fC,pF,h]
theorem qY (i:Int):(W.int i).flat=true:=by simp[W.flat]
theorem tK (i:Int):(W.int i).dep=0:=by simp[W.dep]
theorem mS (i j:Int):(W.int i).eq (W.int j)=(i==j):=rfl
theorem qZ:(W.tup []).flat=true:=by simp[W.flat,W.flats]
theorem tL:(W.tup []).dep=1:=by simp[W.dep,W.deps]
theorem A6 (i j:Int):(i==j)=decide (i=j):=by
 by_cases h:i=j<;> simp[h]
theorem aZ.done {G:Gp} {q:Gp->Prop} (h:q G):∃G0,aZ G0 G/\q G0:=⟨G,aZ.refl G,h⟩
theorem bh {C:Gp->Prop} {g:WG} {tb:WS} {d:cx} (Iv:List W->ck->Gp->Prop) (stop:∀τ G,Iv [] τ G->C G/\d.nx τ G)
 (step:∀w ws τ G (k:ck->Gp->Prop),Iv (w::ws) τ G->(∀τ3 G3,Iv ws τ3 G3->k τ3 G3)->C G/\g w τ G λτ2 G2=>tb { d with nx:=k,ct:=k,bk:=d.nx } τ2 G2):∀ws τ G,Iv ws τ G->gS C g tb d ws τ G
 | [],τ,G,h=>stop τ G h
 | w::ws,τ,G,h=>step w ws τ G _ h λτ3 G3 h3=>bh Iv stop step ws τ3 G3 h3
theorem lj:∀(a:O) (i:Nat),(aP a)[i]?=(a.getP i).map λp=>fW p.1 p.2
 | .z,i=>by simp[aP,O.getP]
 | .c e n r,0=>by rw[cC];rfl
 | .c e n r,i+1=>by
   rw[cC];simpa[O.getP] using lj r i
theorem ii {a:O} {e:O} {n:Int} (h:a.getP i=some (e,n)):fC (aP a) (i:Int)=some (fW e n):=bK (by rw[lj,h];rfl)
theorem gB:∀(i:Nat) (a:O),(aP a).drop i=aP (O.dropO i a)
 | 0,a=>rfl
 | i+1,.z=>by simp[aP,O.dropO]
 | i+1,.c e n r=>by
   rw[cC];simpa[O.dropO] using gB i r
theorem wQ (xs:List W) (k:Nat):dZ xs none (some (k:Int))=xs.take k:=by
 unfold dZ;rw[HT.sIx_none,HT.sIx_nat,List.drop_zero,Nat.sub_zero];rcases Nat.le_total k xs.length with h | h
 ·rw[Nat.min_eq_left h]
 ·rw[Nat.min_eq_right h,List.take_length,List.take_of_length_le h]
theorem iO (xs:List W) (k:Nat):dZ xs (some (k:Int)) none=xs.drop k:=by
 unfold dZ;rw[HT.sIx_none,HT.sIx_nat];rcases Nat.le_total k xs.length with h | h
 ·rw[Nat.min_eq_left h];exact List.take_of_length_le (by rw[length_drop];(clear h;lia))
 ·rw[Nat.min_eq_right h,List.drop_length,List.drop_of_length_le h];simp
theorem iP:∀a b:O,W.ords (aP a) (aP b)=true/\W.lts (aP a) (aP b)=decide (O.cmp a b<0)
 | .z,.z=>by simp[aP,W.ords,W.lts,O.cmp]
 | .z,.c _ _ _=>by simp[aP,W.ords,W.lts,O.cmp]
 | .c _ _ _,.z=>by simp[aP,W.ords,W.lts,O.cmp]
 | .c e n r,.c e' n' r'=>by
   obtain⟨o1,l1⟩:=iP e e';obtain⟨o2,l2⟩:=iP r r';rw[cC,cC,W.ords,W.lts,wP]
   by_cases h:(decide (e=e')&&decide (n=n'))=true
   ·rw[if_pos h,if_pos h];have h':e=e'/\n=n':=by simpa using h
    obtain⟨rfl,rfl⟩:=h';refine⟨o2,?_⟩;rw[l2,O.cmp,if_neg (by rw[O.cmp_self];simp),if_neg (by (clear l2 l1 h;lia)),if_neg (by (clear l2 l1 h;lia))]
   ·rw[if_neg h,if_neg h];have ee:(W.tup (aP e)).eq (W.tup (aP e'))=decide (e=e'):=qX e e';unfold fW oa;rw[W.ord,W.lt,W.ords,W.lts,ee]
    by_cases q:e=e'
    ·subst q;rw[if_pos (by simp),if_pos (by simp),W.ords,W.lts];have hn:¬n=n':=λz=>h (by simp[z]);rw[mS,if_neg (by simpa using hn),if_neg (by simpa using hn),W.ord,W.lt];refine⟨rfl,?_⟩;rw[O.cmp,if_neg (by rw[O.cmp_self];simp)]
     by_cases k:n<n'
     ·rw[if_pos k];simp[k]
     ·rw[if_neg k,if_pos (by (clear l2 l1 h;lia))];simp[k]
    ·rw[if_neg (by simpa using q),if_neg (by simpa using q),W.ord,W.lt];refine⟨o1,?_⟩;rw[l1,O.cmp,if_pos (λz=>q (O.cmp_eq _ _ z))]
theorem jx (a:O) (h:a.dp<=70):W.deps (aP a)<=149:=by
 have:=fR a;lia
noncomputable def Df (K:PySem.W.Frag) (mg:Str->Option Value) (x:Str) (st:Stmt) (ps:List Str):Prop:=∃(f:Addr) (fd:FuncData),dX K x x st f fd/\ce K fd ps []/\mg x=some (.ref f)
theorem Df.fx {sp:cm} (D:Df K mg x st ps) (h:∀(f:Addr) (fd:FuncData),dX K x x st f fd->dU P w K mg base k f fd ps sp):Fx P w K mg base x ps k sp:=by
 obtain⟨f,fd,F,b,m⟩:=D;exact⟨f,fd,h f fd F,m,F.kp,b⟩
theorem wR {H:Hp} {ns:List Int} (hO:p6 H) (hS:cR K H a (ns.map V.int)):uQ K H a ns:=by
 rcases hS with(h | h) | h
 ·rcases hO a with z | ⟨o,xs,z⟩
  ·rw[z] at h;cases h
  ·rw[z] at h;cases h
 ·exact .inl h
 ·exact .inr h
theorem kg {i j:Int} (h:0<j):0<=i%j/\i%j<j:=⟨Int.emod_nonneg _ (by lia),Int.emod_lt_of_pos _ h⟩
theorem tM {ns:List Int} {i:Int} (h0:0<=i) (h1:i<ns.length):∃n,fC ns i=some n:=by
 have hl:i.toNat<ns.length:=by lia
 have e:((i.toNat:Nat):Int)=i:=Int.toNat_of_nonneg h0;have q:=bK (List.getElem?_eq_getElem hl);rw[e] at q;exact⟨_,q⟩
theorem wS (j:Int):vI 10 j=(0<=j/\j<=1000000):=by
 unfold vI;have:(10:Int).natAbs<2^64:=by decide
 simp[this]
theorem aK {t u:WS} {d:cx} {τ:ck} {G:Gp} (h:∀U:WS,U=u->t { d with nx:=U d } τ G):sP t u d τ G:=h u rfl
theorem au {G:Gp} {a b:Addr} {g g':GO} (h:G b=some g') (ha:G a=none):av G a g b=some g':=by
 rw[am (λz=>by rw[z,ha] at h;cases h)];exact h
theorem tN (G:Gp) (i:Int):oZ G (.int i)=some "int":=rfl
theorem wT (G:Gp) (b:Bool):oZ G (.bl b)=some "bool":=rfl
theorem tO (G:Gp) (ws:List W):oZ G (.tup ws)=some "tuple":=rfl
theorem tP (G:Gp):oZ G .non=some "NoneType":=rfl
theorem tQ:fj "int" "int"=true:=by decide
theorem tR:fj "int" "bool"=false:=by decide
theorem tS:fj "int" "tuple"=false:=by decide
theorem tT:fj "bool" "int"=true:=by decide
theorem tU:fj "bool" "bool"=true:=by decide
theorem tV:fj "bool" "tuple"=false:=by decide
theorem tW:fj "tuple" "tuple"=true:=by decide
theorem tX:fj "tuple" "int"=false:=by decide
theorem tY:fj "tuple" "bool"=false:=by decide
theorem tZ:fj "list" "list"=true:=by decide
theorem uc:fj "NoneType" "tuple"=false:=by decide
theorem wU:((0:Nat):Int)=0:=rfl
theorem wV:((1:Nat):Int)=1:=rfl
theorem wW:((2:Nat):Int)=2:=rfl
theorem wX:((3:Nat):Int)=3:=rfl
theorem rc {c:WT} {tb:WS} {d:cx} {τ:ck} {G:Gp} (I:Nat->ck->Gp->Prop) (h0:∃m,I m τ G)
 (h:∀m τ G,I m τ G->∀B:WS,B=tb->c τ G λb G1=>if b=true then ∃N:ck->Gp->Prop,(∀τ1 G1,N τ1 G1->∃m1,m1<m/\I m1 τ1 G1)/\B { d with nx:=N,ct:=N,bk:=d.nx } τ G1 else d.nx τ G1):qe c tb d τ G:=
 ⟨I,h0,λm τ G hI=>h m τ G hI tb rfl⟩
theorem Cg {c:WT} {t u:WS} {d:cx} {τ:ck} {G:Gp} (h:∀T U:WS,T=t->U=u->c τ G λb G1=>if b=true then T d τ G1 else U d τ G1):yw c t u d τ G:=h t u rfl rfl
theorem A7 {α:Type} (x y v:α) (xs:List α):fC (x::y::v::xs) 2=some v:=bK (j:=2) rfl
theorem ll (n i:Nat) (h:i<n):(pH n).drop i=.int (i:Int)::(pH n).drop (i+1):=by
 have hl:i<(pH n).length:=by simp[pH,h]
 rw[drop_eq_getElem_cons hl]
 congr 1
 simp[pH]
theorem ik {C:Gp->Prop} {g:WG} {tb:WS} {d:cx} {τ:ck} {G:Gp} (n:Nat) (Iv:Nat->ck->Gp->Prop) (h0:Iv 0 τ G) (stop:∀τ G,Iv n τ G->C G/\d.nx τ G)
 (step:∀(i:Nat) τ G (k:ck->Gp->Prop),i<n->Iv i τ G->(∀τ3 G3,Iv (i+1) τ3 G3->k τ3 G3)->C G/\g (.int (i:Int)) τ G λτ2 G2=>tb { d with nx:=k,ct:=k,bk:=d.nx } τ2 G2):gS C g tb d (pH n) τ G:=by
 refine bh (λws τ G=>∃i,i<=n/\ws=(pH n).drop i/\Iv i τ G) ?_ ?_ _ _ _ ⟨0,zero_le _,rfl,h0⟩
 ·rintro τ G ⟨i,hi,hw,hI⟩;have:i=n:=by
   rcases lt_or_ge i n with k | k
   ·rw[ll n i k] at hw;cases hw
   ·lia
  subst this;exact stop τ G hI
 ·rintro w ws τ G k ⟨i,hi,hw,hI⟩ hk;have hlt:i<n:=by
   rcases lt_or_ge i n with j | j
   ·exact j
   ·rw[List.drop_of_length_le (by simp[pH];assumption)] at hw;cases hw
  rw[ll n i hlt] at hw;cases hw;exact step i τ G k hlt hI λτ3 G3 h3=>hk τ3 G3 ⟨i+1,hlt,rfl,h3⟩
theorem lm (lo:Int) (n i:Nat) (h:i<n):(pI lo n).drop i=.int (lo+(i:Int))::(pI lo n).drop (i+1):=by
 have hl:i<(pI lo n).length:=by simp[pI,h]
 rw[drop_eq_getElem_cons hl]
 congr 1
 simp[pI]
theorem re {C:Gp->Prop} {g:WG} {tb:WS} {d:cx} {τ:ck} {G:Gp} (lo:Int) (n:Nat) (Iv:Nat->ck->Gp->Prop) (h0:Iv 0 τ G) (stop:∀τ G,Iv n τ G->C G/\d.nx τ G)
 (step:∀(i:Nat) τ G (k:ck->Gp->Prop),i<n->Iv i τ G->(∀τ3 G3,Iv (i+1) τ3 G3->k τ3 G3)->C G/\g (.int (lo+(i:Int))) τ G λτ2 G2=>tb { d with nx:=k,ct:=k,bk:=d.nx } τ2 G2):gS C g tb d (pI lo n) τ G:=by
 refine bh (λws τ G=>∃i,i<=n/\ws=(pI lo n).drop i/\Iv i τ G) ?_ ?_ _ _ _ ⟨0,zero_le _,rfl,h0⟩
 ·rintro τ G ⟨i,hi,hw,hI⟩;have:i=n:=by
   rcases lt_or_ge i n with k | k
   ·rw[lm lo n i k] at hw;cases hw
   ·lia
  subst this;exact stop τ G hI
 ·rintro w ws τ G k ⟨i,hi,hw,hI⟩ hk;have hlt:i<n:=by
   rcases lt_or_ge i n with j | j
   ·exact j
   ·rw[List.drop_of_length_le (by simp[pI];assumption)] at hw;cases hw
  rw[lm lo n i hlt] at hw;cases hw;exact step i τ G k hlt hI λτ3 G3 h3=>hk τ3 G3 ⟨i+1,hlt,rfl,h3⟩
theorem aZ.put {G G1:Gp} {p:Addr} {g:GO} (h:aZ G G1) (hp:G p=none):aZ G (av G1 p g):=λa u e=>by
 have:=h a u e;unfold av;split
 ·rename_i q;subst q;rw[hp] at e;cases e
 ·exact this
theorem aZ.none {G G1:Gp} {p:Addr} (h:aZ G G1) (hp:G1 p=none):G p=none:=by
 cases hh:G p with
 | none=>rfl
 | some g=>have:=h _ _ hh;rw[hp] at this;cases this
end L2
namespace Nm
namespace O
end O
end Nm
namespace L2
open PySem PySem.Spec PyProof.Rows Nm
section
variable {P:Program} {w:World} {K:PySem.W.Frag} {mg:Str->Option Value} {base:Heap} {x:Str} {st:Stmt} {ps:List Str} {k:Nat} {sp:cm}
theorem Df.rx (D:Df K mg x st ps) (h:∀(f:Addr) (fd:FuncData),dX K x x st f fd->wA P w K mg base k f fd ps sp):Rx P w K mg base x ps k sp []:=by
 obtain⟨f,fd,F,b,m⟩:=D;exact⟨f,fd,[],[],h f fd F,m,F.kp,b,.nil,λ_=> .nil⟩
end
open PySem PySem.Spec PyProof.Rows PySem.W
@[irreducible] def mT (i:Int):Prop:=i.natAbs<2^1048576
theorem iQ:∀{ns:List Int} {n:Int},n∈ns->WData.weight (.int n)<=WData.weightAll (ns.map WData.int)
 | m::ns,n,h=>by
   rw[map_cons,WData.weightAll];rcases mem_cons.mp h with rfl | h
   ·lia
   ·have:=iQ h;lia
theorem ud {n:Int} (h:WData.weight (.int n)<=1048576):mT n:=by
 unfold WData.weight at h;unfold mT;generalize 1048576=a at h ⊢
 by_cases h0:n=0
 ·subst h0;exact Nat.two_pow_pos a
 ·rw[if_neg (by simpa using h0)] at h;have:n.natAbs≠0:=by (clear h;lia)
  exact(Nat.log2_lt this).mp (by assumption)
theorem rf {ns:List Int} (h:WData.layableAll [.list (ns.map WData.int)]=true):∀n,n∈ns->mT n:=by
 intro n hn;have h1:WData.layable (.list (ns.map WData.int))=true:=(List.all_eq_true.mp h) _ mem_cons_self;have h2:WData.weight (.list (ns.map WData.int))<=2^20:=by
  have:=(Bool.and_eq_true_iff.mp h1).2;exact of_decide_eq_true this
 have h3:WData.weight (.list (ns.map WData.int))=WData.weightAll (ns.map WData.int):=by rw[WData.weight]
 have:=iQ hn;exact ud (by lia)
@[irreducible] def Wide (i:Int):Prop:=i.natAbs<2^1048577
set_option exponentiation.threshold 500 in
noncomputable def zg (i j:Int):Prop:=(Wide i/\j.natAbs<2^4000)∨(i.natAbs<2^4000/\Wide j)
noncomputable def lp (i j:Int):Prop:=nI i j∨zg i j
theorem lp.ok {i j:Int} (h:lp i j):IntMulOk i j:=by
 have key:∀{x y:Int},Wide x->y.natAbs<2^4000->¬(((Builtin.Int.intBits x+Builtin.Int.intBits y:Int)) > bitsLine):=λ{x y} h1 h2=>by
  unfold Wide at h1;have b1:=PyProof.Rows.intBits_le h1;have b2:=PyProof.Rows.intBits_le h2;have hb:(1053000:Int)<=bitsLine:=by decide
  (clear h1 h2;lia)
 rcases h with h | ⟨h1,h2⟩ | ⟨h1,h2⟩
 ·exact h.ok
 ·have:=key h1 h2;unfold IntMulOk Builtin.Int.intTooBig;simp[this]
 ·have:=key h2 h1;rw[Int.add_comm] at this;unfold IntMulOk Builtin.Int.intTooBig;simp[this]
section
variable {X:Cx}
theorem ue:hJ X (binaryOp .Mult) (rI lp λi j=> .int (i*j)):=Ad λ_ _ _ _ _ _ _ hc q=>mul_int q hc.ok
end
noncomputable def gE:cm:=λws _ q _=>∃ns:List Int,ws=[.scr ns]/\ns.length<=63/\(∀n,n∈ns->mT n)/\∀G',q (.bl true) G'
theorem mU {H:Hp} {ns:List Int} (hO:p6 H) (hS:cR K H a (ns.map V.int)) (hl:ns.length<=63) (hc:∀n,n∈ns->mT n):sQ K gE [.ref a] H (λv _=>v=.bl true) λ_ _ _=>False:=
 ⟨[.scr ns],λ_=>none,λw _=>w=.bl true,λ_ _=>False,.cons (.scr (wR hO hS)) .nil,λ_ _ e=>(by cases e),⟨ns,rfl,hl,hc,λ_=>rfl⟩,λv H1 w G1 _ r _ e=>(by subst e;cases r;rfl),λ_ _ _ _ _ _ z=>z⟩
theorem A8 {l:OpenLaw} {n:Nat} {q:Program} {loose:List Str} {XP:(Str->Option Value)->Heap->Prop} {YP:World->Heap->Prop} {d:DefRec}
 (hn:l.most=some n) (hdf:d.params.defaults=[])
 (call:∀(w:World) (s₀ s₁:Shared) (mg mb:Str->Option Value) (fa:Addr) (a:Addr) (vs:List Value) (ns:List Int),
   Ground q loose [] XP w s₀ mg mb s₁.heap->YP w s₁.heap->mg d.name=some (.ref fa)->
   s₁.heap.get? a=some { cls:= .type "list",data:= .seq vs.toArray }->IntsAre vs ns->ns.length<=n->(∀n,n∈ns->mT n)->s₁.gens= #[]->
   codeAny (model l.prog w) callerA (.call (.ref fa) ⟨[.ref a],[]⟩) (λr s'=>r=.ok (.ret (.bool true))/\OldK s₁.heap s'.heap/\s'.os=s₁.os/\AllBare s'.gens) s₁):
 WalkO q loose XP YP l.row.toRowW d [] (λf vs=>PySem.call f vs):=by
 intro w s₀ s₁ mg mb G Y fa o pm cd doc dV kV ho hd hcd hD hmg hg args vals as hpre hlay hrd hwl hlo;obtain rfl:dV=.none:=Dflts.none hD hdf;obtain rfl:kV=.none:=Dflts.noKw hD;obtain⟨a,vs,ns,ea,rfl,hobj,hints,hlen⟩:=Att.script_of hn hpre hwl;subst ea;refine enter_call (codeAny_mono (call w s₀ s₁ mg mb fa a vs ns G Y hmg hobj hints hlen (rf hlay) hg) λr s' hq=>?_);obtain⟨rfl,h2,h3,h4⟩:=hq;exact⟨.inl ⟨.bool true,.bool true,[],rfl,λ_=>rfl,.bool true,Att.post_true l _,λ_=>⟨List.Pairwise.nil,λ_ hm=>(nomatch hm)⟩⟩,h2,h3,h4⟩
theorem walk_ofC {l:PySem.W.OpenLaw} {n k:Nat} {q:Program} {loose:List Str} {XP:(Str->Option Value)->Heap->Prop} {YP:World->Heap->Prop} {d:DefRec} {K:Params->PySem.W.Frag} {CX:World->oS} {sp:World->Sp}
 (hn:l.most=some n) (hn2:n<=sizeLine) (hdf:d.params.defaults=[]) (hr:aR k callerA)
 (hY:∀(w:World) (h:Heap),YP w h->(K w.params).In h)
 (F:∀(w:World) (mg:Str->Option Value) (fa:Addr) (h:Heap),(K w.params).In h->h.Ns mainGlobals mg->mg d.name=some (.ref fa)->
   ∃fd:FuncData,(∀(s:Shared) (u:Value),BindsTo s fd ⟨[u],[]⟩ [(x,u)])/\
    ∀base:Heap,(K w.params).In base->base.Ns mainGlobals mg->i7 l.prog w (K w.params) mg base (CX w) k fa fd [x] (sp w))
 (hsp:∀(w:World) (H:Hp) (a:Addr) (ns:List Int),ns.length<=n->(∀n,n∈ns->mT n)->p6 H->cR (K w.params) H a (ns.map V.int)->sp w [.ref a] H (λv _=>v=.bl true) λ_ _ _=>False)
 (hCX:∀(w:World) (H:Hp) (s:Shared) (e:Value) (s':Shared),CX w [] H s (λ_ _ _=>False) e s'->False):
 PySem.W.WalkO q loose XP YP l.row.toRowW d [] (λf vs=>PySem.call f vs):=by
 refine A8 hn hdf λw s₀ s₁ mg mb fa a vs ns G Y hmg hobj hints hlen hc hg=>?_;have KX:=hY w _ Y;obtain⟨fd,hb,hF⟩:=F w mg fa _ KX G.T.g hmg;exact p7 KX G.T.g G.T.b G.T.builtins G.T.nolimit hg hobj hints (le_trans hlen hn2) hr hF hb (λH hO hS=>hsp w H a ns hlen hc hO hS) λH e s'=>hCX w H s₁ e s'
open PySem PySem.Spec PyProof.Rows
theorem aJ.rep {K:PySem.W.Frag} {H:Hp} {ws:List W} {vs:List V} (r:aJ K H ws vs):∀k:Nat,aJ K H (List.replicate k ws).flatten (List.replicate k vs).flatten
 | 0=> .nil
 | k+1=>by
   rw[replicate_succ,flatten_cons,replicate_succ,flatten_cons];exact r.append (aJ.rep r k)
section
variable {X:Cx}
noncomputable def rh:W2:=λx y G q=>match x,y with
 | .int i,.int j=>lp i j/\q (.int (i*j)) G
 | .ref a,.int k=>∃xs,G a=some (.lst xs)/\0<=k/\k<=100000/\xs.length*k.toNat<=100000/\∀p,G p=none->q (.ref p) (av G p (.lst (List.replicate k.toNat xs).flatten))
 | .tup xs,.int k=>xs≠[]/\0<=k/\k<=100000/\xs.length*k.toNat<=100000/\q (.tup (List.replicate k.toNat xs).flatten) G
 | _,_=>False
theorem wY:fF X (binaryOp .Mult) rh:=by
 rintro π s σ H x y v u Q I rx ry ⟨wx,wy,G,q,r1,r2,g,h,hQ⟩;cases r2 with
 | int k=>
   cases r1 with
   | int i=>exact ue π s σ H _ _ v u Q I rx ry ⟨_,_,rfl,rfl,h.1,hQ _ H _ G (aH.refl H) (.int _) g h.2⟩
   | ref a=>
     obtain⟨xs,ea,h0,h1,hl,h⟩:=h;obtain⟨_,xs',ha,ra⟩:=g _ _ ea;refine vZ π s σ H _ _ v u Q I rx ry ⟨_,_,_,rfl,rfl,ha,Int.le_trans (by decide) h0,Int.lt_of_le_of_lt h1 (by decide),by rw[←ra.length];exact bF hl,λp hp=>?_⟩;exact hQ _ _ _ _ (aH.new hp _) (.ref p) (g.put (aH.new hp _) (ra.rep _) (by rw[ib,Nat.mul_comm];exact hl)) (h p (g.fresh hp))
   | @tup a ws xs ha ra=>
     obtain⟨hne,h0,h1,hl,h⟩:=h;refine tu π s σ H _ _ v u Q I rx ry ⟨a,_,_,rfl,rfl,du.of ha,λz=>?_,h0,h1,by rw[←ra.length];exact bF hl,λe=>?_,λ_ p hp=>?_⟩
     ·subst z;cases ra;exact hne rfl
     ·subst e;have e1:∀zs:List W,(List.replicate (Int.toNat 1) zs).flatten=zs:=λzs=>by simp
      rw[e1] at h;exact hQ _ H _ G (aH.refl H) (.tup ha ra) g h
     ·exact hQ _ _ _ G (aH.new hp _) (.tup aU ((ra.rep _).mono (aH.new hp _))) (g.keep hp _) h
   | _=>exact False.elim h
 | _=>cases r1<;> exact False.elim h
end
end L2
namespace Nm
namespace O
end O
end Nm
namespace L2
open PySem PySem.Spec PyProof.Rows
section
variable {X:Cx}
noncomputable def oh:W2:=λx y G q=>match x,y with
 | .str a,.str b=>a.length+b.length<=100000/\q (.str (a++b)) G
 | x,y=>wd x y G q
theorem bR:fF X (binaryOp .Add) oh:=by
 rintro π s σ H x y v u Q I rx ry ⟨wx,wy,G,q,r1,r2,g,h,hQ⟩;unfold oh at h;split at h
 ·cases r1;cases r2;exact lR π s σ H _ _ v u Q I rx ry ⟨_,_,rfl,rfl,bF h.1,hQ _ H _ G (aH.refl H) (.str _) g h.2⟩
 ·exact yA π s σ H x y v u Q I rx ry ⟨wx,wy,G,q,r1,r2,g,h,hQ⟩
noncomputable def rl:W2:=λx y G q=>match x,y with
 | .str a,.int k=>0<=k/\k<=100000/\a.length*k.toNat<=100000/\∀z:Str,z.length<=a.length*k.toNat->q (.str z) G
 | x,y=>rh x y G q
theorem jy (a:Array Nat):∀(n:Nat) (b:Array Nat),(List.foldl (λx1 x2=>x1++x2) b (List.replicate n a)).size=b.size+a.size*n
 | 0,b=>by simp
 | n+1,b=>by
   rw[replicate_succ,List.foldl_cons,jy a n,Array.size_append,Nat.mul_succ];lia
theorem uf (x:Str) {n:Int} (h:0<=n):(Txt.mul x n).length<=x.length*n.toNat:=by
 unfold Txt.mul;split
 ·exact zero_le _
 ·split
  ·rename_i h1 h2;have:1<=n.toNat:=by (clear h;lia)
   exact Nat.le_mul_of_pos_right _ this
  ·show Array.size _<=x.cps.size*n.toNat;rw[jy];simp
theorem wZ:fF X (binaryOp .Mult) rl:=by
 rintro π s σ H x y v u Q I rx ry ⟨wx,wy,G,q,r1,r2,g,h,hQ⟩;unfold rl at h;split at h
 ·rename_i a k;obtain⟨h0,h1,hl,h⟩:=h;cases r1;cases r2;obtain⟨t,rfl⟩:=rx;obtain⟨t',rfl⟩:=ry;refine SB.mul ?_ λt' tk=>⟨.str _,H,I.tok _,⟨_,rfl⟩,hQ _ H _ G (aH.refl H) (.str _) g (h _ (uf a h0))⟩;have hk:(k.toNat:Int)=k:=by (clear hl;lia)
  refine⟨?_,λh2 h3=>?_,λh2 h3=>?_⟩
  ·have e1:decide (k< -(2^63:Int))=false:=decide_eq_false (by (clear hl;lia));have e2:decide (k≥2^63)=false:=decide_eq_false (by (clear hl e1;lia));rw[e1,e2,Bool.or_false]
  ·have h4:((a.length*k.toNat:Nat):Int)<=((100000:Nat):Int):=Int.ofNat_le.mpr hl;rw[Int.natCast_mul,hk] at h4;have h5:(a.length:Int)<=(2^63-1)/k:=by
    rw[Int.le_ediv_iff_mul_le (by (clear hl h4;lia))];exact Int.le_trans h4 (by decide)
   exact Int.not_lt.mpr h5
  ·exact decide_eq_false (Nat.not_lt.mpr (bF hl))
 ·exact wY π s σ H x y v u Q I rx ry ⟨wx,wy,G,q,r1,r2,g,h,hQ⟩
noncomputable def jz:W2:=λx y G q=>match x,y with
 | .str z,.int i=>z.length<=100000/\∃c,fC z.cps.toList i=some c/\q (.str ⟨#[c]⟩) G
 | x,y=>qi x y G q
theorem zh:wa X jz:=by
 rintro value slice π s σ H x y v u Q I rx ry ⟨wx,wy,G,q,r1,r2,g,h,hQ⟩ hsl;unfold jz at h;split at h
 ·obtain⟨hz,c,e,h⟩:=h;cases r1;cases r2;exact vV value slice π s σ H _ _ v u Q I rx ry ⟨_,_,c,rfl,rfl,bF hz,e,hQ _ H _ G (aH.refl H) (.str _) g h⟩ hsl
 ·exact AR value slice π s σ H x y v u Q I rx ry ⟨wx,wy,G,q,r1,r2,g,h,hQ⟩ hsl
noncomputable def ug:W3:=λx lo hi G q=>match x with
 | .str z=>z.length<=100000/\∀y:Str,y.length<=z.length->q (.str y) G
 | x=>sT x lo hi G q
theorem oi {vl:Value} {lo:Option Int} (p:IsPart vl lo):∃l:Option (Int×Tok),vl=partValue l:=by
 cases p with
 | none=>exact⟨none,rfl⟩
 | int i t=>exact⟨some (i,t),rfl⟩
theorem zk:yd X (BO X.K ug):=by
 rintro π s σ H x v vl vu lo hi sl Q I rx hs pl pu ⟨w,G,q,r,g,h,hQ⟩;unfold ug at h;split at h
 ·rename_i z;obtain⟨hz,h⟩:=h;cases r;obtain⟨t,rfl⟩:=rx;refine⟨"str",_,slot_str_getitem.lookup,typeIs_str s z t,?_⟩;obtain⟨l,rfl⟩:=oi pl;obtain⟨u,rfl⟩:=oi pu;refine wpAny_getItem_str_slice (l:=l) (u:=u) (st:=none) ?_ rfl ?_
  ·obtain⟨o,e1,e2,e3⟩:=hs;exact⟨o,e1,e2,e3⟩
  ·have hle:=Txt.slice_le z (l.map (·.1)) (u.map (·.1));unfold sliceMade;split
   ·exact⟨.str z,H,I,⟨_,rfl⟩,hQ _ H _ G (aH.refl H) (.str _) g (h _ (le_refl _))⟩
   ·rename_i hn;unfold Txt.slice at hle;split at hle
    ·rename_i hy;exact absurd hy hn
    ·exact⟨le_trans hle (bF hz),.str _,H,I.tok _,⟨_,rfl⟩,hQ _ H _ G (aH.refl H) (.str _) g (h _ hle)⟩
 ·exact AS π s σ H x v vl vu lo hi sl Q I rx hs pl pu ⟨w,G,q,r,g,h,hQ⟩
noncomputable def zm (te:WE) (tl th:WO):WE:=λτ G q=>te τ G λx G1=>tl τ G1 λl G2=>th τ G2 λu G3=>ug x l u G3 q
theorem dj {lo hi:Option Expr} {te:WE} {tl th:WO} {pos p2:Pos} (he:QE X e te) (hl:QO X lo tl) (hu:QO X hi th):QE X (.Subscript e (.Slice lo hi none p2) pos) (zm te tl th):=
 (pW zk he hl hu).imp λσ H Q z0=>z0.el λτ G q hs hg ht hQ=>⟨τ,G,_,hs,hg,ht,λv H1 w G1 t1 r1 g1 q1=>⟨τ,G1,_,hs.mono t1,g1,q1,λl H2 G2 t2 g2 q2=>
   ⟨τ,G2,_,(hs.mono t1).mono t2,g2,q2,λu H3 G3 t3 g3 q3=>⟨w,G3,q,(r1.mono t2).mono t3,g3,q3,λv4 H4 w4 G4 t4=>hQ v4 H4 w4 G4 (((t1.trans t2).trans t3).trans t4)⟩⟩⟩⟩
noncomputable def oj:List W->Gp->WK->Prop:=λws G q=>match ws with
 | [.str z]=>z.length<=100000/\q (.int z.length) G
 | ws=>wc ws G q
theorem w5:dN X (.builtin "len") oj:=by
 rintro π s σ H xs us Q I r ⟨ws,G,q,rw',g,h,hQ⟩;unfold oj at h;split at h
 ·obtain⟨v,rfl,r1⟩:=rw'.one;cases r1;exact jN π s σ H _ us Q I r ⟨_,rfl,bF h.1,hQ _ H _ G (aH.refl H) (.int _) g h.2⟩
 ·exact uX π s σ H xs us Q I r ⟨ws,G,q,rw',g,h,hQ⟩
noncomputable def A9 (x:Str):It:=⟨λi _=>i<x.cps.toList.length,λi H y H'=>H'=H/\∃c,x.cps.toList[i]?=some c/\y=.str ⟨#[c]⟩,λi _=>x.cps.toList.length<=i⟩
theorem jA (hA:A.handled=none) (it:Addr) (x:Str) (t:Tok):Walks P w A it [it] [it] x.cps.size (SignAt x) (λi h=>h.IsStrIter it (strIterType x) x t i):=by
 unfold strIterType;split
 ·exact Walks.strAscii hA it x t
 ·exact Walks.strWide hA it x t
theorem rm {tg:Expr} (it:Addr) (x:Str) (t:Tok):jK P w K tg (A9 x) [it] it (λi h=>i<=x.cps.size/\h.IsStrIter it (strIterType x) x t i) where
 mem:=by simp
 obj:=λi h st b hb=>by
  have e:b=it:=by simpa using hb
  subst e;obtain⟨_,o,e1,e2,e3⟩:=st;exact⟨_,e1,λv z=>by rw[e3] at z;cases z⟩
 keep:=λi h h' st k=>by
  obtain⟨hi,o,e1,e2,e3⟩:=st;exact⟨hi,o,k it (by simp) _ e1,e2,e3⟩
 item:=by
  intro X hP hw hK hc i π s σ H E I hf st hg;subst hP hw hK;obtain⟨f0,f1,f2,f3,f4,f5⟩:=hf it (by simp);have hg':i<x.cps.size:=by
   have h:i<x.cps.toList.length:=hg;simpa using h
  refine(jA (I.ok.hd hc) it x t).item i s _ _ hg' st.2 λv h' tk hv st' kk=>?_;obtain⟨c,u,e,rfl⟩:=hv;have I1:ay X π σ H { s with heap:=h',toks:=tk }:=I.turned (λb o hb e=>kk b o (by simpa using hb) e) f0 f1 f3 f4 f5;obtain⟨o,e1,e2,e3⟩:=id st';refine⟨_,rfl,jh (s:={ s with heap:=h',toks:=tk }) (n:=strIterType x) e1 e2 e3 ?_ ⟨.str ⟨#[c]⟩,H,I1,⟨u,rfl⟩,⟨rfl,c,by simpa using e,rfl⟩,⟨hg',st'⟩,λb hb=>(hf b hb).1⟩⟩;unfold strIterType;split<;> decide
 done:=by
  intro X hP hw hK hc i π s σ H E I hf st hg;subst hP hw hK;obtain⟨f0,f1,f2,f3,f4,f5⟩:=hf it (by simp);have hg':x.cps.size<=i:=by
   have h:x.cps.toList.length<=i:=hg;simpa using h
  have hi:i=x.cps.size:=Nat.le_antisymm st.1 hg';subst hi;exact(jA (I.ok.hd hc) it x t).done s _ _ st.2 λh' tk kk=>⟨rfl,I.turned (t':=tk) (λb o hb e=>kk b o (by simpa using hb) e) f0 f1 f3 f4 f5⟩
 self:=λA i s Q E st h=>by
  obtain⟨_,o,e1,e2,e3⟩:=st;unfold strIterType at e2;split at e2
  ·exact wpAny_pyIter_striter_ascii ⟨o,e1,e2,e3⟩ h
  ·exact wpAny_pyIter_striter_wide ⟨o,e1,e2,e3⟩ h
noncomputable def Af (l:List Nat):List W:=l.map λc=> .str ⟨#[c]⟩
theorem uh {H:Hp}:pG K (A9 x) (Af x.cps.toList) (λ_=>True) H where
 stop:=λi H1 G t g _ hl=>by
  have h:x.cps.toList.length<=i:=by simpa[Af] using hl
  exact h
 go:=λi w H1 G t g _ e=>by
  unfold Af at e;rw[List.getElem?_map] at e;cases h:x.cps.toList[i]? with
  | none=>rw[h] at e;cases e
  | some c=>
    rw[h] at e;cases e;refine⟨(List.getElem?_eq_some_iff.mp h).1,λy H' ⟨eH,c',hc,hy⟩=>?_⟩;subst eH hy;rw[h] at hc;cases hc;exact⟨aH.refl _,.str _,g⟩
variable {tg:Expr}
theorem ui {l:Expr} {tl:TE} (hl:PE X l tl):PI X tg l (λσ H R=>tl σ H λx H1=>(∃z,x=.str z/\R (A9 z) H1)∨∃a,x=.ref a/\(((∃xs,cR X.K H1 a xs)/\R (Ac X.K a) H1)∨((∃xs,du X.K H1 a xs)/\R (Ax X.K a) H1))):=by
 intro π s σ H R I h;refine bN (hl π s σ H _ I h) λv s1 z9=>?_;obtain⟨x,H1,I1,r1,q1⟩:=z9;rcases q1 with⟨z,rfl,q⟩ | ⟨a,e,q1⟩
 ·obtain⟨t,rfl⟩:=r1;refine wpAny_pyIter_strU ?_;refine⟨s1.heap.objs.size,[s1.heap.objs.size],_,_,H1,rfl,I1.kept (t':=s1.toks) λb o e=>Heap.get?_push_of_some _ e,rm _ z t,⟨zero_le _,_,Heap.get?_push_size _ rfl,rfl,rfl⟩,λb hb=>?_,q⟩;have e:b=s1.heap.objs.size:=by simpa using hb
  subst e;exact I1.fpOk (le_refl _) (I1.hok.fresh (le_refl _))
 ·subst e;cases r1;rcases q1 with⟨⟨xs,hq⟩,q⟩ | ⟨⟨xs,hq⟩,q⟩
  ·obtain⟨its,rv,p,hz⟩:=I1.list hq;refine wpAny_pyIter_list p.isList ?_;refine⟨s1.heap.objs.size,[s1.heap.objs.size],_,_,H1,rfl,I1.kept (t':=s1.toks) λb o e=>Heap.get?_push_of_some _ e,oK a _,⟨_,Heap.get?_push_size _ rfl,rfl,rfl⟩,λb hb=>?_,q⟩;have e:b=s1.heap.objs.size:=by simpa using hb
   subst e;exact I1.fpOk (le_refl _) (I1.hok.fresh (le_refl _))
  ·obtain⟨its,rv,p,hz⟩:=I1.tuple hq;refine wpAny_pyIter_tuple (show s1.heap.IsTuple a its.toArray from p) ?_;refine⟨s1.heap.objs.size,[s1.heap.objs.size],_,_,H1,rfl,I1.kept (t':=s1.toks) λb o e=>Heap.get?_push_of_some _ e,lP a _,⟨_,Heap.get?_push_size _ rfl,rfl,rfl⟩,λb hb=>?_,q⟩;have e:b=s1.heap.objs.size:=by simpa using hb
   subst e;exact I1.fpOk (le_refl _) (I1.hok.fresh (le_refl _))
noncomputable def rn (te:WE):WI:=λτ G r=>te τ G λx G1=>match x with
 | .str z=>r (Af z.cps.toList) (λ_=>True) G1
 | .tup ws=>r ws (λ_=>True) G1
 | .scr ns=>r (ns.map W.int) (λ_=>True) G1
 | .ref a=>∃ws,G1 a=some (.lst ws)/\r ws (λG=>G a=some (.lst ws)) G1
 | _=>False
theorem eT {l:Expr} {te:WE} (hl:QE X l te):QI X tg l (rn te):=
 (ui hl).imp λσ H R ⟨τ,G,r,hs,hg,ht,hR⟩=>⟨τ,G,_,hs,hg,ht,λv H1 w G1 t1 r1 g1 q1=>by
   split at q1
   ·cases r1;exact .inl ⟨_,rfl,hR _ H1 _ _ G1 t1 g1 uh q1⟩
   ·cases r1 with
    | tup h rr=>exact .inr ⟨_,rfl,.inr ⟨⟨_,du.of h⟩,hR _ H1 _ _ G1 t1 g1 (sU h rr) q1⟩⟩
   ·cases r1 with
    | scr h=>exact .inr ⟨_,rfl,.inl ⟨⟨_,h.sq⟩,hR _ H1 _ _ G1 t1 g1 (sW h) q1⟩⟩
   ·obtain⟨ws,e,q1⟩:=q1;cases r1;obtain⟨_,xs,h1,_⟩:=g1 _ _ e;exact .inr ⟨_,rfl,.inl ⟨⟨xs,cR.of h1⟩,hR _ H1 _ _ G1 t1 g1 sV q1⟩⟩
   ·exact q1.elim⟩
theorem ig (a b:Str):(a++b).length=a.length+b.length:=by
 show(a.cps++b.cps).size=_;simp[Str.length]
end
open PySem PySem.Spec PyProof.Rows Nm
theorem Ba {c:WT} {t u:WS} {d:cx} {τ:ck} {G:Gp} (h:∀(T V:WS) (D:cx),T=t->V=u->D=d->yw c T V D τ G):yw c t u d τ G:=h t u d rfl rfl rfl
theorem dL {c A B:Prop} {d:Decidable c} (h1:c->A) (h2:¬c->B): @ite Prop c d A B:=by
 cases d with
 | isTrue h=>exact h1 h
 | isFalse h=>exact h2 h
theorem w6 (xs:List W) (a b:Nat):∃x y:Nat,dZ xs (some (a:Int)) (some (b:Int))=(xs.drop x).take y/\y<=b-a:=by
 unfold dZ;rw[HT.sIx_nat,HT.sIx_nat];exact⟨_,_,rfl,by lia⟩
noncomputable abbrev aY (L:List Str):List W:=L.map W.str
theorem gF {L:List Str} {i:Int} (h0:0<=i) (h1:i<L.length):∃x,fC (aY L) i=some (.str x)/\x∈L:=by
 have hl:i.toNat<L.length:=by lia
 have q:=bK (xs:=aY L) (j:=i.toNat) (v:= .str L[i.toNat]) (by unfold aY;rw[List.getElem?_map,List.getElem?_eq_getElem hl];rfl);rw[Int.toNat_of_nonneg h0] at q;exact⟨_,q,List.getElem_mem hl⟩
section
variable {X:Cx} {π:List (Addr×Obj)} {σ:St} {H:Hp} {s:Shared} {a:Addr} {o:Obj} {kvs:List (aC×V)}
theorem ay.swap {u v:HO} (I:ay X π σ H s) (e:H a=some u) (un:Un X.fs X.ex X.H₀ (upd H a v) X.s₀.heap s.heap) (hv:bA X.prog X.w (upd H a v) s.heap a v) (nu:∀xs,u≠ .tup xs) (no:∀x,u≠ .own x):ay X π σ (upd H a v) s:=by
 have ne:∀b,H b=none->b≠a:=λb hb z=>by rw[z,e] at hb;cases hb
 refine⟨I.ok,I.os,I.bare,un,I.loc,I.cell,by rw[ax (ne _ I.free)];exact I.free,λx c hc=>by rw[ax (ne _ (I.freeC x c hc))];exact I.freeC x c hc,λp hp=>?_,λb w hb=>?_,I.len⟩
 ·obtain⟨h1,h2,h3⟩:=I.pin p hp;exact⟨h1,by rw[ax (ne _ h2)];exact h2,h3⟩
 ·by_cases hba:b=a
  ·subst hba;rw[aU] at hb;cases hb;exact hv
  ·rw[ax hba] at hb;refine(I.hok b w hb).stay (λd v _ q=>q) (λd q=>?_) λd xs q=>?_
   ·rw[ax (λz=>by rw[z,e] at q;exact no _ (Option.some.inj q))];exact q
   ·rw[ax (λz=>by rw[z,e] at q;exact nu _ (Option.some.inj q))];exact q
theorem ay.freeze (I:ay X π σ H s) (e:H a=some (.dK kvs)) (ho:s.heap.get? a=some o):ay X π σ (upd H a (.frz o (.dK kvs))) s:=by
 refine I.swap e ?_ ⟨ho,(I.hok a _ e)⟩ (λ_ z=>by cases z) (λ_ z=>by cases z);have U:=I.base;refine⟨U.keep,U.slot,λb ob h1 h2 h3=>?_,U.there,λb xs h1=>?_,λb ob w h1=>?_,λb ps h1=>?_⟩
 ·have h4:=U.free b ob h1 h2 h3;rw[ax (λz=>by rw[z,e] at h4;cases h4)];exact h4
 ·have h4:=U.tups b xs h1;rw[ax (λz=>by rw[z,e] at h4;cases h4)];exact h4
 ·have h4:=U.frzs b ob w h1;rw[ax (λz=>by rw[z,e] at h4;cases h4)];exact h4
 ·obtain⟨m,h4⟩:=U.tbls b ps h1;exact⟨m,by rw[ax (λz=>by rw[z,e] at h4;cases h4)];exact h4⟩
theorem ay.thaw (I:ay X π σ H s) (e:H a=some (.frz o (.dK kvs))) (h0:∀ob w,X.H₀ a≠some (.frz ob w)):ay X π σ (upd H a (.dK kvs)) s:=by
 refine I.swap e ?_ (I.hok a _ e).2 (λ_ z=>by cases z) (λ_ z=>by cases z);have U:=I.base;refine⟨U.keep,U.slot,λb ob h1 h2 h3=>?_,U.there,λb xs h1=>?_,λb ob w h1=>?_,λb ps h1=>?_⟩
 ·have h4:=U.free b ob h1 h2 h3;rw[ax (λz=>by rw[z,e] at h4;cases h4)];exact h4
 ·have h4:=U.tups b xs h1;rw[ax (λz=>by rw[z,e] at h4;cases h4)];exact h4
 ·have h4:=U.frzs b ob w h1;rw[ax (λz=>by rw[z] at h1;exact h0 _ _ h1)];exact h4
 ·obtain⟨m,h4⟩:=U.tbls b ps h1;exact⟨m,by rw[ax (λz=>by rw[z,e] at h4;cases h4)];exact h4⟩
theorem ay.nofrz (I:ay X π σ H s) (e:H a=some (.dK kvs)):∀ob w,X.H₀ a≠some (.frz ob w):=λob w h=>by
 have:=I.base.frzs a ob w h;rw[e] at this;cases this
theorem gG {α β:Type} {F:α->β->Prop}:∀{l1:List α} {l2:List β},Paired F l1 l2->∀{i:Nat} {a:α} {b:β},l1[i]?=some a->l2[i]?=some b->F a b
 | _,_,.nil,_,_,_,h,_=>by cases h
 | _,_,.cons r t,0,_,_,h1,h2=>by cases h1;cases h2;exact r
 | _,_,.cons r t,i+1,_,_,h1,h2=>gG t (i:=i) h1 h2
noncomputable def Bb (d:Addr) (o:Obj) (kvs:List (aC×V)):It:=⟨λi H=>H d=some (.frz o (.dK kvs))/\i<kvs.length,λi H y H'=>H'=H/\∃kv,kvs[i]?=some kv/\y=kV kv.1,λi H=>H d=some (.frz o (.dK kvs))/\kvs.length<=i⟩
noncomputable def w9 (d:Addr) (o:Obj) (kvs:List (aC×V)):It:=⟨λi H=>H d=some (.frz o (.dK kvs))/\i<kvs.length,λi H y H'=>H'=H/\∃kv,kvs[i]?=some kv/\y=kv.2,λi H=>H d=some (.frz o (.dK kvs))/\kvs.length<=i⟩
theorem ay.dictAt {es:Array DictEntry} {ep:Nat} (I:ay X π σ H s) (e:H a=some (.frz o (.dK kvs))) (hd:o.data=.dict es ep):∃vs,KV kvs vs/\s.heap.DictAt (aL X.prog X.w) a vs ep/\(a==sysModules)=false:=by
 obtain⟨h1,_,h2,vs,h3,o2,es2,ep2,h4,h5,h6,h7⟩:=I.hok a _ e;rw[h1] at h4;cases h4;rw[hd] at h6;cases h6;exact⟨vs,h3,⟨o,es,h1,h5,hd,h7⟩,h2⟩
theorem kh {k:aC} {v:Value} (h:gK k v=true):aS (kV k) v:=by
 rcases bn h with⟨i,t,rfl,rfl⟩ | ⟨x,t,rfl,rfl⟩
 ·exact⟨t,rfl⟩
 ·exact⟨t,rfl⟩
theorem pp {tg:Expr} {es:Array DictEntry} {ep:Nat} (it d:Addr) (hne:d≠it) (hd:o.data=.dict es ep):jK P w K tg (Bb d o kvs) [it] it (λi h=>i<=kvs.length/\h.IsKeyIter it d i kvs.length ep) where
 mem:=by simp
 obj:=λi h st b hb=>by
  have e:b=it:=by simpa using hb
  subst e;obtain⟨_,o,e1,e2,e3⟩:=st;exact⟨_,e1,λv z=>by rw[e3] at z;cases z⟩
 keep:=λi h h' st k=>by
  obtain⟨hi,o,e1,e2,e3⟩:=st;exact⟨hi,o,k it (by simp) _ e1,e2,e3⟩
 item:=by
  intro X hP hw hK hc i π s σ H E I hf st hg;subst hP hw hK;obtain⟨f0,f1,f2,f3,f4,f5⟩:=hf it (by simp);obtain⟨hfz,hi⟩:=hg;obtain⟨vs,kv,da,_⟩:=I.dictAt hfz hd;have hl:=kv.length;refine(Walks.dictKeys (knd:=aL X.prog X.w) (I.ok.hd hc) it d hne vs ep).item i s _ _ (by (clear st f3;lia)) ⟨by rw[←hl];exact st.2,da⟩ λv h' tk hv st' kk=>?_;obtain⟨k,x,e1,e2⟩:=hv;have I1:ay X π σ H { s with heap:=h',toks:=tk }:=I.turned (λb o hb e=>kk b o (by simpa using hb) e) f0 f1 f3 f4 f5;obtain⟨⟨o',g1,g2,g3⟩,_⟩:=id st';have hk:∃kv0,kvs[i]?=some kv0/\kv0.1=k:=by
   have h1:=KV.keys kv;have h2:(kvs.map (·.1))[i]?=some k:=by rw[h1,List.getElem?_map,e1];rfl
   rw[List.getElem?_map] at h2;cases h3:kvs[i]? with
   | none=>rw[h3] at h2;cases h2
   | some p=>rw[h3] at h2;exact⟨p,rfl,Option.some.inj h2⟩
  obtain⟨kv0,h3,h4⟩:=hk;refine⟨_,rfl,jh (s:={ s with heap:=h',toks:=tk }) (n:="dict_keyiterator") g1 g2 g3 (by decide) ⟨kV k,H,I1,kh e2,⟨rfl,kv0,h3,by rw[h4]⟩,⟨by assumption,by rw[hl];exact st'.1⟩,λb hb=>(hf b hb).1⟩⟩
 done:=by
  intro X hP hw hK hc i π s σ H E I hf st hg;subst hP hw hK;obtain⟨f0,f1,f2,f3,f4,f5⟩:=hf it (by simp);obtain⟨hfz,hi⟩:=hg;obtain⟨vs,kv,da,_⟩:=I.dictAt hfz hd;have hl:=kv.length;have hi2:i=kvs.length:=Nat.le_antisymm st.1 hi;subst hi2;exact(Walks.dictKeys (knd:=aL X.prog X.w) (I.ok.hd hc) it d hne vs ep).done s _ _ (by rw[←hl];exact⟨st.2,da⟩) λh' tk kk=>⟨rfl,I.turned (t':=tk) (λb o hb e=>kk b o (by simpa using hb) e) f0 f1 f3 f4 f5⟩
 self:=λA i s Q E st h=>wpAny_pyIter_keyiter st.2 h
theorem pq {tg:Expr} {es:Array DictEntry} {ep:Nat} (it d:Addr) (hne:d≠it) (hd:o.data=.dict es ep):jK P w K tg (w9 d o kvs) [it] it (λi h=>i<=kvs.length/\h.IsValIter it d i kvs.length ep) where
 mem:=by simp
 obj:=λi h st b hb=>by
  have e:b=it:=by simpa using hb
  subst e;obtain⟨_,o,e1,e2,e3⟩:=st;exact⟨_,e1,λv z=>by rw[e3] at z;cases z⟩
 keep:=λi h h' st k=>by
  obtain⟨hi,o,e1,e2,e3⟩:=st;exact⟨hi,o,k it (by simp) _ e1,e2,e3⟩
 item:=by
  intro X hP hw hK hc i π s σ H E I hf st hg;subst hP hw hK;obtain⟨f0,f1,f2,f3,f4,f5⟩:=hf it (by simp);obtain⟨hfz,hi⟩:=hg;obtain⟨vs,kv,da,_⟩:=I.dictAt hfz hd;have hl:=kv.length;refine(Walks.dictValues (knd:=aL X.prog X.w) (I.ok.hd hc) it d hne vs ep).item i s _ _ (by (clear st f3;lia)) ⟨by rw[←hl];exact st.2,da⟩ λv h' tk hv st' kk=>?_;obtain⟨k,e1⟩:=hv;have I1:ay X π σ H { s with heap:=h',toks:=tk }:=I.turned (λb o hb e=>kk b o (by simpa using hb) e) f0 f1 f3 f4 f5;obtain⟨⟨o',g1,g2,g3⟩,_⟩:=id st';have hk:∃kv0,kvs[i]?=some kv0/\aS kv0.2 v:=by
   have h3:=List.getElem?_eq_getElem hi;exact⟨_,h3,(gG kv h3 e1).2⟩
  obtain⟨kv0,h3,h4⟩:=hk;refine⟨_,rfl,jh (s:={ s with heap:=h',toks:=tk }) (n:="dict_valueiterator") g1 g2 g3 (by decide) ⟨kv0.2,H,I1,h4,⟨rfl,kv0,h3,rfl⟩,⟨by assumption,by rw[hl];exact st'.1⟩,λb hb=>(hf b hb).1⟩⟩
 done:=by
  intro X hP hw hK hc i π s σ H E I hf st hg;subst hP hw hK;obtain⟨f0,f1,f2,f3,f4,f5⟩:=hf it (by simp);obtain⟨hfz,hi⟩:=hg;obtain⟨vs,kv,da,_⟩:=I.dictAt hfz hd;have hl:=kv.length;have hi2:i=kvs.length:=Nat.le_antisymm st.1 hi;subst hi2;exact(Walks.dictValues (knd:=aL X.prog X.w) (I.ok.hd hc) it d hne vs ep).done s _ _ (by rw[←hl];exact⟨st.2,da⟩) λh' tk kk=>⟨rfl,I.turned (t':=tk) (λb o hb e=>kk b o (by simpa using hb) e) f0 f1 f3 f4 f5⟩
 self:=λA i s Q E st h=>wpAny_pyIter_valiter st.2 h
variable {tg:Expr}
theorem uj {p:Pos} (hN:X.N[i]?=some x) (hv:pE X.env.scope x) (hd:(x==("__debug__":Str))=false:=by decide) (hcd:(x==("__classdict__":Str))=false:=by decide):
 PI X tg (.Name x p) (λσ H R=>∃a kvs,σ[i]?=some (some (.ref a))/\H a=some (.dK kvs)/\∀o,R (Bb a o kvs) (upd H a (.frz o (.dK kvs)))):=by
 rintro π s σ H R I ⟨a,kvs,hi,e,h⟩;refine bN (fc (pos:=p) hN hv hd hcd π s σ H (λv H'=>v=.ref a/\H'=H) I ⟨_,hi,rfl,rfl⟩) λu s1 z9=>?_;obtain⟨v,H1,I1,r,hv1,hH⟩:=z9;subst hv1;subst hH;obtain rfl:u=Value.ref a:=r;obtain⟨_,hm,vs,kv,o,es,ep,h1,h2,h3,h4⟩:=gQ I1.hok e;have J:=I1.freeze e h1;refine wpAny_pyIter_dict (knd:=aL X.prog X.w) hm ⟨o,es,h1,h2,h3,h4⟩ ?_;have hne:a≠s1.heap.objs.size:=ne_of_lt (Heap.lt_size h1);refine⟨s1.heap.objs.size,[s1.heap.objs.size],_,_,_,rfl,J.kept (t':=s1.toks) λb o e=>Heap.get?_push_of_some _ e,pp (o:=o) (kvs:=kvs) (es:=es) (ep:=ep) _ a hne h3,⟨zero_le _,by rw[kv.length];exact⟨_,Heap.get?_push_size _ rfl,rfl,rfl⟩⟩,λb hb=>?_,h o⟩;have e:b=s1.heap.objs.size:=by simpa using hb
 subst e;exact J.fpOk (le_refl _) (J.hok.fresh (le_refl _))
theorem uk {p apos cpos:Pos} (hN:X.N[i]?=some x) (hv:pE X.env.scope x) (hd:(x==("__debug__":Str))=false:=by decide) (hcd:(x==("__classdict__":Str))=false:=by decide)
 (hbase:attributeBase (.Name x p) "values" X.env (eval (.Name x p) X.env)=eval (.Name x p) X.env:=by rfl) (hline:(apos.endLine==cpos.line)=true:=by rfl):
 PI X tg (.Call (.Attribute (.Name x p) "values" apos) [] [] cpos) (λσ H R=>∃a kvs,σ[i]?=some (some (.ref a))/\H a=some (.dK kvs)/\∀o,R (w9 a o kvs) (upd H a (.frz o (.dK kvs)))):=by
 rintro π s σ H R I ⟨a,kvs,hi,e,h⟩;refine wpAny_Call_method0_late hbase hline (bN (fc (pos:=p) hN hv hd hcd π s σ H (λv H'=>v=.ref a/\H'=H) I ⟨_,hi,rfl,rfl⟩) λu s1 z9=>?_);obtain⟨v,H1,I1,r,hv1,hH⟩:=z9;subst hv1;subst hH;obtain rfl:u=Value.ref a:=r;obtain⟨_,hm,vs,kv,o,es,ep,h1,h2,h3,h4⟩:=gQ I1.hok e;have ty:yk X.K "dict" (.ref a) H1:= .inr (.inr (.inl ⟨rfl,.inl ⟨kvs,e⟩⟩));obtain⟨t1,t2⟩:=jO I1 (show aS (V.ref a) (Value.ref a) from rfl) ty;refine⟨"dict",_,PySem.F.plainAttrs_dict,PySem.F.slot_dict_values,PySem.F.type_dict_values,t1,t2,Calls.callWith_builtin rfl (PySem.evalArgs_none ?_)⟩;refine call_meetsIn PySem.F.slot_dict_values t1 PySem.F.entry_dict_values (PySem.F.args_dict_values_1 _) (meets_dict_values (aL X.prog X.w) a hm) ⟨⟨vs,o,es,ep,h1,h2,h3,h4⟩,?_⟩;have I2:ay X π σ H1 { s1 with heap:=s1.heap.push { cls:= .type "dict_values",data:= .fields #[.ref a] } }:=I1.kept (t':=s1.toks) λb o e=>Heap.get?_push_of_some _ e;have h1':(s1.heap.push { cls:= .type "dict_values",data:= .fields #[.ref a] }).get? a=some o:=Heap.get?_push_of_some _ h1;have J:=I2.freeze e h1';refine wpAny_pyIter_values (knd:=aL X.prog X.w) (d:=a) ⟨_,Heap.get?_push_size _ rfl,rfl,rfl⟩ ⟨o,es,h1',h2,h3,h4⟩ ?_;have hne:a≠(s1.heap.push { cls:= .type "dict_values",data:= .fields #[.ref a] }).objs.size:=ne_of_lt (Heap.lt_size h1');refine⟨_,[(s1.heap.push { cls:= .type "dict_values",data:= .fields #[.ref a] }).objs.size],_,_,_,rfl,J.kept (t':=s1.toks) λb o e=>Heap.get?_push_of_some _ e,pq (o:=o) (kvs:=kvs) (es:=es) (ep:=ep) _ a hne h3,⟨zero_le _,by rw[kv.length];exact⟨_,Heap.get?_push_size _ rfl,rfl,rfl⟩⟩,λb hb=>?_,h o⟩;have e:b=(s1.heap.push { cls:= .type "dict_values",data:= .fields #[.ref a] }).objs.size:=by simpa using hb
 subst e;exact J.fpOk (le_refl _) (J.hok.fresh (le_refl _))
end
noncomputable def bf (kvs:List (aC×W)) (k:aC):Option W:=(kvs.find? λkv=>decide (kv.1=k)).map (·.2)
noncomputable def bw (kvs:List (aC×W)) (k:aC) (w:W):List (aC×W):=
 if (kvs.any λkv=>decide (kv.1=k))=true then kvs.map (λkv=>if kv.1=k then (kv.1,w) else kv) else kvs++[(k,w)]
inductive DP (K:PySem.W.Frag) (H:Hp):List (aC×W)->List (aC×V)->Prop where
 | nil:DP K H [] []
 | cons {k:aC} {w:W} {v:V} {kvs:List (aC×W)} {us:List (aC×V)} (r:bI K H w v) (t:DP K H kvs us):DP K H ((k,w)::kvs) ((k,v)::us)
section
variable {K:PySem.W.Frag} {H H1:Hp}
theorem DP.of:∀{kvs:List (aC×W)} {us:List (aC×V)},us.map (·.1)=kvs.map (·.1)->aJ K H (kvs.map (·.2)) (us.map (·.2))->DP K H kvs us
 | [],[],_,_=> .nil
 | [],_::_,h,_=>by simp at h
 | _::_,[],h,_=>by simp at h
 | (k,w)::kvs,(k',v)::us,h,r=>by
   simp only[map_cons,List.cons.injEq] at h;obtain⟨rfl,h⟩:=h;cases r with
   | cons r rs=>exact .cons r (DP.of h rs)
theorem DP.keys {kvs:List (aC×W)} {us:List (aC×V)} (d:DP K H kvs us):us.map (·.1)=kvs.map (·.1):=by
 induction d with
 | nil=>rfl
 | cons r t ih=>rw[map_cons,map_cons,ih]
theorem DP.vals {kvs:List (aC×W)} {us:List (aC×V)} (d:DP K H kvs us):aJ K H (kvs.map (·.2)) (us.map (·.2)):=by
 induction d with
 | nil=>exact .nil
 | cons r t ih=>exact .cons r ih
theorem DP.len {kvs:List (aC×W)} {us:List (aC×V)} (d:DP K H kvs us):us.length=kvs.length:=by
 have:=congrArg List.length d.keys;simpa using this
theorem DP.mono {kvs:List (aC×W)} {us:List (aC×V)} (t:aH H H1) (d:DP K H kvs us):DP K H1 kvs us:=DP.of d.keys (d.vals.mono t)
theorem DP.val {kvs:List (aC×W)} {us:List (aC×V)} (d:DP K H kvs us) (k:aC):(bf kvs k=none/\i9 us k=none)∨∃w v,bf kvs k=some w/\i9 us k=some v/\bI K H w v:=by
 induction d with
 | nil=>exact .inl ⟨rfl,rfl⟩
 | @cons k' w v kvs us r t ih=>
   by_cases e:k'=k
   ·exact .inr ⟨w,v,by simp[bf,List.find?_cons,e],kH e,r⟩
   ·rw[show bf ((k',w)::kvs) k=bf kvs k by simp[bf,List.find?_cons,e],kI (p:=(k',v)) e];exact ih
theorem DP.any {kvs:List (aC×W)} {us:List (aC×V)} (d:DP K H kvs us) (k:aC):(us.any λkv=>decide (kv.1=k))=kvs.any λkv=>decide (kv.1=k):=by
 induction d with
 | nil=>rfl
 | cons r t ih=>rw[any_cons,any_cons,ih]
theorem DP.put {kvs:List (aC×W)} {us:List (aC×V)} (d:DP K H kvs us) (k:aC) {w:W} {v:V} (r:bI K H w v):DP K H (bw kvs k w) (dQ us k v):=by
 unfold bw dQ;rw[d.any k]
 by_cases e:(kvs.any λkv=>decide (kv.1=k))=true
 ·rw[if_pos e,if_pos e];clear e
  induction d with
  | nil=>exact .nil
  | @cons k' w' v' kvs us r' t ih=>
    rw[map_cons,map_cons]
    by_cases e:k'=k
    ·rw[if_pos e,if_pos e];exact .cons r ih
    ·rw[if_neg e,if_neg e];exact .cons r' ih
 ·rw[if_neg e,if_neg e];clear e
  induction d with
  | nil=>exact .cons r .nil
  | cons r' t ih=>exact .cons r' ih
end
theorem eE (kvs:List (aC×W)) (k:aC) (w:W):(bw kvs k w).length<=kvs.length+1:=by
 unfold bw;split
 ·rw[length_map];lia
 ·rw[length_append,length_cons,length_nil];lia
noncomputable def GD (G:Gp) (a:Addr) (kvs:List (aC×W)):Prop:=G a=some (.dic kvs)∨∃o us,G a=some (.fdc o us kvs)
section
variable {K:PySem.W.Frag} {H:Hp} {G:Gp} {a:Addr} {kvs:List (aC×W)}
theorem GD.rd (h:GD G a kvs) (g:aD K H G):kvs.length<=100000/\∃us,Rd H a (.dK us)/\DP K H kvs us:=by
 rcases h with h | ⟨o,us,h⟩
 ·obtain⟨l,us,e,n,r⟩:=g a _ h;exact⟨l,us,.inl e,DP.of n r⟩
 ·obtain⟨l,e,n,r⟩:=g a _ h;exact⟨l,us,.inr ⟨o,e⟩,DP.of n r⟩
theorem aH.dk {us:List (aC×V)} (hp:H a=some (.dK us)) (o:HO):aH H (upd H a o):=
 ⟨λ_ _ h=>by rw[ax (jg h hp (by intro z;cases z))];exact h,λ_ _ _ h=>by rw[ax (jg h hp (by intro z;cases z))];exact h⟩
theorem aH.fz {us:List (aC×V)} {ob:Obj} (hp:H a=some (.frz ob (.dK us))) (o:HO):aH H (upd H a o):=
 ⟨λ_ _ h=>by rw[ax (jg h hp (by intro z;cases z))];exact h,λ_ _ _ h=>by rw[ax (jg h hp (by intro z;cases z))];exact h⟩
end
section
variable {X:Cx} {π:List (Addr×Obj)} {σ:St} {H:Hp} {s:Shared} {A:Around} {E:Value->Shared->Prop}
noncomputable def dR:W2:=λx y G q=>match x,y with
 | .ref a,.str z=>∃kvs w,GD G a kvs/\bf kvs (.inr z)=some w/\q w G
 | x,y=>jz x y G q
theorem aG:wa X dR:=by
 rintro value slice π s σ H x y v u Q I rx ry ⟨wx,wy,G,q,r1,r2,g,h,hQ⟩ hsl;unfold dR at h;split at h
 ·rename_i a z;obtain⟨kvs,w,hd,hv,h⟩:=h;cases r1;cases r2;cases rx;obtain⟨_,us,rd,dp⟩:=hd.rd g;obtain⟨hl,hm,vs,rel,dd⟩:=dh I.hok rd;rcases dp.val (.inr z) with⟨e,_⟩ | ⟨w',v',e,e',r⟩
  ·rw[e] at hv;cases hv
  ·rw[e] at hv;cases hv;obtain⟨u',hw,ru⟩:=fX.some_of (v:=v') (o:=valueAt vs (.inr z)) (by rw[←e'];exact rel.val (.inr z));exact tail_any dd.typeIs PySem.F.slot_dict_getitem.lookup (wpAny_getItem_of (gP (P:=X.prog) (w:=X.w) (k:= .inr z) ry) dd.mapOf hw ⟨v',H,I.tok _,ru,hQ _ H _ G (aH.refl H) r g h⟩) hsl
 ·exact zh value slice π s σ H x y v u Q I rx ry ⟨wx,wy,G,q,r1,r2,g,h,hQ⟩ hsl
structure zn (ws:List W) (x:W):Prop where
 fx:x.flat=true
 fs:W.flats ws=true
 hd:W.deps ws<=149
inductive Ag (G:Gp) (a:Addr):W->Bool->Prop where
 | dic {kvs:List (aC×W)} {z:Str} (h:GD G a kvs):Ag G a (.str z) (bf kvs (.inr z)).isSome
 | lst {ws:List W} {x:W} (h:G a=some (.lst ws)) (l:zn ws x):Ag G a x (ws.any λw=>w.eq x)
noncomputable def xa:W2:=λx y G q=>match y with
 | .ref a=>∃b,Ag G a x b/\q (.bl b) G
 | _=>False
noncomputable def ro:W2:=λx y G q=>match y with
 | .ref a=>∃b,Ag G a x b/\q (.bl (!b)) G
 | _=>False
theorem DP.isSome {kvs:List (aC×W)} {us:List (aC×V)} (d:DP K H kvs us) (k:aC):(i9 us k).isSome=(bf kvs k).isSome:=by
 rcases d.val k with⟨e,e'⟩ | ⟨w',v',e,e',r⟩
 ·rw[e,e'];rfl
 ·rw[e,e'];rfl
open Classical in
theorem mV (hr:aR k X.A) {wx:W} {x:V} {v:Value} {ws:List W} {G:Gp} (I:ay X π σ H s) (rx:aS x v) (r1:bI X.K H wx x) (g:aD X.K H G) (ea:G a=some (.lst ws)) (l:zn ws wx):
 ∃(e:Value->Bool) (its:List Value),s.heap.IsList a its.toArray/\(∀y,y∈its.toArray->SeqAt.EqAt X.A.in1 s y v (e y))/\(its.toArray.any e=ws.any λw=>w.eq wx)/\its.length=ws.length/\∀(i:Nat) (w:W) (z:Value),ws[i]?=some w->its[i]?=some z->e z=w.eq wx:=by
 obtain⟨_,xs,e1,ra⟩:=g _ _ ea;obtain⟨its,rv,p,_⟩:=I.list (cR.of e1);have l1:its.length=ws.length:=by rw[←rv.length,ra.length]
 have hu:=hr.un;have hd:=l.hd;have key:∀(i:Nat) (w:W) (z:Value),ws[i]?=some w->its[i]?=some z->decide (∃w',w'∈ws/\(∃v',bI X.K H w' v'/\aS v' z)/\w'.eq wx=true)=w.eq wx/\SeqAt.EqAt X.A.in1 s z v (w.eq wx):=λi w z ew ez=>by
  obtain⟨va,ea1,rva⟩:=ra.get ew;obtain⟨ua,eua,qa⟩:=rv.get ea1;rw[ez] at eua;cases eua;have fw:=W.flats_get l.fs ew;refine⟨?_,(fi I 150 X.A.in1 (w1:=w) (w2:=wx) (Nat.lt_of_le_of_lt (W.deps_get ew) (by (clear l1 hu ew ez ea1;lia))) fw l.fx (by show X.A.units+1+150<cLine;(clear l1 hd ew ez ea1;lia)) rva r1 qa rx).1⟩
  by_cases hw:w.eq wx=true
  ·rw[hw];exact decide_eq_true ⟨w,List.mem_of_getElem? ew,⟨va,rva,qa⟩,hw⟩
  ·have:¬∃w',w'∈ws/\(∃v',bI X.K H w' v'/\aS v' z)/\w'.eq wx=true:=λ⟨w',hm,⟨v',rv',qv'⟩,he⟩=>by
    obtain⟨j,hj⟩:=List.getElem?_of_mem hm;have hv:=qv'.inj qa;subst hv;have:=bI.inj (W.flats_get l.fs hj) fw rv' rva;subst this;exact hw he
   rw[decide_eq_false this];simpa using hw
 refine⟨λz=>decide (∃w',w'∈ws/\(∃v',bI X.K H w' v'/\aS v' z)/\w'.eq wx=true),its,p.isList,λz hz=>?_,?_,l1,λi w z ew ez=>(key i w z ew ez).1⟩
 ·obtain⟨i,hi⟩:=List.getElem?_of_mem (show z∈its by simpa using hz);have hi2:i<ws.length:=by rw[←l1];exact(List.getElem?_eq_some_iff.mp hi).1
  obtain⟨k1,k2⟩:=key i _ z (List.getElem?_eq_getElem hi2) hi;show SeqAt.EqAt _ s z v (decide _);rw[k1];exact k2
 ·rw[show its.toArray.any (λz=>decide (∃w',w'∈ws/\(∃v',bI X.K H w' v'/\aS v' z)/\w'.eq wx=true))=its.any (λz=>decide (∃w',w'∈ws/\(∃v',bI X.K H w' v'/\aS v' z)/\w'.eq wx=true)) by simp];rw[Bool.eq_iff_iff,any_eq_true,any_eq_true];constructor
  ·rintro⟨z,hz,he⟩;obtain⟨w',hm,_,he'⟩:=of_decide_eq_true he;exact⟨w',hm,he'⟩
  ·rintro⟨w,hm,he⟩;obtain⟨i,hi⟩:=List.getElem?_of_mem hm;have hi2:i<its.length:=by rw[l1];exact(List.getElem?_eq_some_iff.mp hi).1
   have k1:=(key i w its[i] hi (List.getElem?_eq_getElem hi2)).1;exact⟨its[i],List.getElem_mem hi2,k1.trans he⟩
theorem rp (hr:aR k X.A):fF X (compareOp .In) xa:=by
 rintro π s σ H x y v u Q I rx ry ⟨wx,wy,G,q,r1,r2,g,h,hQ⟩;unfold xa at h;split at h
 ·obtain⟨b,hb,h⟩:=h;cases r2;cases ry;cases hb with
  | dic hd=>
    cases r1;obtain⟨_,us,rd,dp⟩:=hd.rd g;obtain⟨hl,hm,vs,rel,dd⟩:=dh I.hok rd;refine wpAny_in_of (gP (P:=X.prog) (w:=X.w) (k:= .inr _) rx) hm dd.mapOf ⟨.bl _,H,I.tok _,rfl,hQ _ H _ G (aH.refl H) ?_ g h⟩;rw[←(rel.val _).isSome_eq,dp.isSome];exact .bl _
  | lst ea l=>
    obtain⟨e,its,p,he,ha,_⟩:=mV hr I rx r1 g ea l;refine SeqAt.in_listAt e p he ?_;rw[ha];exact⟨.bl _,H,I,rfl,hQ _ H _ G (aH.refl H) (.bl _) g h⟩
 ·exact h.elim
theorem cP (hr:aR k X.A):fF X (compareOp .NotIn) ro:=by
 rintro π s σ H x y v u Q I rx ry ⟨wx,wy,G,q,r1,r2,g,h,hQ⟩;unfold ro at h;split at h
 ·obtain⟨b,hb,h⟩:=h;cases r2;cases ry;cases hb with
  | dic hd=>
    cases r1;obtain⟨_,us,rd,dp⟩:=hd.rd g;obtain⟨hl,hm,vs,rel,dd⟩:=dh I.hok rd;refine wpAny_notIn_of (gP (P:=X.prog) (w:=X.w) (k:= .inr _) rx) hm dd.mapOf ⟨.bl _,H,I.tok _,rfl,hQ _ H _ G (aH.refl H) ?_ g h⟩;rw[←(rel.val _).isSome_eq,dp.isSome];exact .bl _
  | lst ea l=>
    obtain⟨e,its,p,he,ha,_⟩:=mV hr I rx r1 g ea l;refine SeqAt.notIn_listAt e p he ?_;rw[ha];exact⟨.bl _,H,I,rfl,hQ _ H _ G (aH.refl H) (.bl _) g h⟩
 ·exact h.elim
noncomputable def vc:WE:=λ_ G q=>∀p,G p=none->q (.ref p) (av G p (.dic []))
theorem cZ:QE X (.Dict [] [] pos) vc:=
 pe_dnewK.imp λσ H Q z0=>z0.el λτ G q hs hg ht hQ p hp=>hQ _ _ _ _ (aH.new hp _) (.ref p) (hg.lay (g:= .dic []) (aH.new hp _) ⟨zero_le _,[],aU,rfl,.nil⟩) (ht p (hg.fresh hp))
noncomputable def kW:aC->W
 | .inl i=> .int i
 | .inr x=> .str x
theorem mW (k:aC):bI K H (kW k) (kV k):=by
 cases k with
 | inl i=>exact .int i
 | inr x=>exact .str x
theorem zo {k:aC} {v:V} (r:bI K H (kW k) v):v=kV k:=by
 cases k<;> cases r<;> rfl
noncomputable def Ah {α:Type} (mk:α->aC) (d:cx) (τ:ck) (w x y:W) (G:Gp):Prop:=∃a z kvs,x=.ref a/\y=kW (mk z)/\G a=some (.dic kvs)/\kvs.length+1<=100000/\d.nx τ (av G a (.dic (bw kvs (mk z) w)))
theorem lq {α:Type} (mk:α->aC) {o i value:Expr} {to ti tv:WE} {pos pos':Pos} (hv:QE X value tv) (ho:QE X o to) (hi:QE X i ti) (hs:swapsWith value (some (.Subscript o i pos')) pos.line X.env=pure false:=by rfl):
 QS X (.Assign [.Subscript o i pos'] value pos) (λd τ G=>tv τ G λw G1=>to τ G1 λx G2=>ti τ G2 λy G3=>Ah mk d τ w x y G3):=by
 intro π s σ H D I h;obtain⟨τ,G,d,hst,hg,ht,l⟩:=h;refine wpAny_Assign_Subscript (bN (hv π s σ H (λv H1=>∃w G1,aH H H1/\bI X.K H1 w v/\aD X.K H1 G1/\to τ G1 λx G2=>ti τ G2 λy G3=>Ah mk d τ w x y G3) I ⟨τ,G,_,hst,hg,ht,λv H1 w G1 t1 r1 g1 q1=>⟨w,G1,t1,r1,g1,q1⟩⟩) λr s1 z9=>?_) hs;obtain⟨v,H1,I1,rv,w,G1,t1,r1,g1,q1⟩:=z9;refine bN (ho π s1 σ H1 (λv2 H2=>∃w2 G2,aH H1 H2/\bI X.K H2 w2 v2/\aD X.K H2 G2/\ti τ G2 λy G3=>Ah mk d τ w w2 y G3) I1 ⟨τ,G1,_,hst.mono t1,g1,q1,λv2 H2 w2 G2 t2 r2 g2 q2=>⟨w2,G2,t2,r2,g2,q2⟩⟩) λu s2 z9=>?_;obtain⟨x,H2,I2,rx,w2,G2,t2,r2,g2,q2⟩:=z9;refine bN (hi π s2 σ H2 (λv3 H3=>∃w3 G3,aH H2 H3/\bI X.K H3 w3 v3/\aD X.K H3 G3/\Ah mk d τ w w2 w3 G3) I2 ⟨τ,G2,_,(hst.mono t1).mono t2,g2,q2,λv3 H3 w3 G3 t3 r3 g3 q3=>⟨w3,G3,t3,r3,g3,q3⟩⟩) λiv s3 z9=>?_;obtain⟨y,H3,I3,ry,w3,G3,t3,r3,g3,a,z,kvs,e1,e2,e3,hl,q3⟩:=z9;subst e1 e2;cases r2;obtain rfl:=zo r3;cases rx;obtain⟨_,us,e4,n4,r4⟩:=g3 a _ e3;have dp:=DP.of n4 r4;obtain⟨zl,hd,vs,rel,dd⟩:=gQ I3.hok e4;have hz:vs.length<=sizeLine:=by rw[←rel.length];exact zl
 have hlen:kvs.length+1<=sizeLine:=bF hl;have hl2:(dQ us (mk z) v).length<=sizeLine:=by have:=gM us (mk z) v;have:=dp.len;(clear hl zl hz;lia)
 refine wpAny_setItem_pairs (hsz:=hz) (gP (P:=X.prog) (w:=X.w) (k:=mk z) ry) dd λh' dd' hs=>?_;have he:∃q,h'.get? a=some q:=let ⟨q,_,_,hq,_⟩:=dd';⟨q,hq⟩;have I4:=nB (t':=s3.toks+1) I3 (by rw[e4];exact True.intro) hs he (p9 hl2 hd (rel.put (mk z) rv) dd');have tt:=(t1.trans t2).trans t3;have t4:=aH.dk e4 (.dK (dQ us (mk z) v));have dp2:=(dp.put (mk z) (r1.mono (t2.trans t3))).mono t4;exact⟨σ,_,I4,l.nx σ _ τ _ (tt.trans t4) (hst.mono (tt.trans t4)) (g3.lay (g:= .dic _) t4 ⟨le_trans (eE _ _ _) hl,_,aU,dp2.keys,dp2.vals⟩) q3⟩
noncomputable def vd (tv to ti:WE):WS:=λd τ G=>tv τ G λw G1=>to τ G1 λx G2=>ti τ G2 λy G3=>∃a z kvs,x=.ref a/\y=.str z/\G3 a=some (.dic kvs)/\kvs.length+1<=100000/\d.nx τ (av G3 a (.dic (bw kvs (.inr z) w)))
theorem bV {o i value:Expr} {to ti tv:WE} {pos pos':Pos} (hv:QE X value tv) (ho:QE X o to) (hi:QE X i ti) (hs:swapsWith value (some (.Subscript o i pos')) pos.line X.env=pure false:=by rfl):QS X (.Assign [.Subscript o i pos'] value pos) (vd tv to ti):=lq Sum.inr hv ho hi hs
noncomputable def cx.th (a:Addr) (d:cx):cx where
 nx:=λτ G=>∃o us kvs,G a=some (.fdc o us kvs)/\d.nx τ (av G a (.dic kvs))
 rt:=λw G=>∃o us kvs,G a=some (.fdc o us kvs)/\d.rt w (av G a (.dic kvs))
 bk:=λτ G=>∃o us kvs,G a=some (.fdc o us kvs)/\d.bk τ (av G a (.dic kvs))
 ct:=λτ G=>∃o us kvs,G a=some (.fdc o us kvs)/\d.ct τ (av G a (.dic kvs))
noncomputable def dW.th (a:Addr) (d:dW):dW where
 nx:=λτ G=>∃o us,G a=some (.frz o (.dK us))/\d.nx τ (upd G a (.dK us))
 rt:=λw G=>∃o us,G a=some (.frz o (.dK us))/\d.rt w (upd G a (.dK us))
 bk:=λτ G=>∃o us,G a=some (.frz o (.dK us))/\d.bk τ (upd G a (.dK us))
 ct:=λτ G=>∃o us,G a=some (.frz o (.dK us))/\d.ct τ (upd G a (.dK us))
theorem ul {t:TS} (h:PS X st t):PS X st (λD σ H=>∃a us,H a=some (.dK us)/\t (dW.th a D) σ H):=by
 rintro π s σ H D I ⟨a,us,e,q⟩;have h0:=I.nofrz e;refine bN (h π s σ H _ I q) λf s1 z=>?_;cases f with
 | next=>obtain⟨σ1,H1,I1,o,us,e,q⟩:=z;exact⟨σ1,_,I1.thaw e h0,q⟩
 | cont=>obtain⟨σ1,H1,I1,o,us,e,q⟩:=z;exact⟨σ1,_,I1.thaw e h0,q⟩
 | brk=>obtain⟨σ1,H1,I1,o,us,e,q⟩:=z;exact⟨σ1,_,I1.thaw e h0,q⟩
 | ret u=>obtain⟨v,σ1,H1,I1,rv,o,us,e,q⟩:=z;exact⟨v,σ1,_,I1.thaw e h0,rv,q⟩
theorem aD.thaw {G:Gp} {o:Obj} {us:List (aC×V)} {kvs:List (aC×W)} (g:aD K H G) (e:G a=some (.fdc o us kvs)):
 H a=some (.frz o (.dK us))/\aH H (L2.upd H a (.dK us))/\aD K (L2.upd H a (.dK us)) (av G a (.dic kvs)):=by
 obtain⟨l,e1,n,r⟩:=g a _ e;have t:=aH.fz e1 (.dK us);exact⟨e1,t,g.lay (g:= .dic _) t ⟨l,us,aU,n,r.mono t⟩⟩
noncomputable def ve (t:WS):WS:=λd τ G=>∃a kvs,G a=some (.dic kvs)/\t (d.th a) τ G
theorem cG {t:WS} (h:QS X st t):QS X st (ve t):=
 (ul h).imp λD σ H z0=>z0.el λτ G d hs hg ⟨a,kvs,ea,ht⟩ l=>by
   obtain⟨_,us,e1,_⟩:=hg a _ ea;refine⟨a,us,e1,τ,G,d.th a,hs,hg,ht,⟨?_,?_,?_,?_⟩⟩
   ·rintro σ1 H1 τ1 G1 t1 s1 g1 ⟨o,us,kvs,e,q⟩;obtain⟨e2,t2,g2⟩:=g1.thaw e;exact⟨o,us,e2,l.nx _ _ _ _ (t1.trans t2) (s1.mono t2) g2 q⟩
   ·rintro v H1 w G1 t1 r1 g1 ⟨o,us,kvs,e,q⟩;obtain⟨e2,t2,g2⟩:=g1.thaw e;exact⟨o,us,e2,l.rt _ _ _ _ (t1.trans t2) (r1.mono t2) g2 q⟩
   ·rintro σ1 H1 τ1 G1 t1 s1 g1 ⟨o,us,kvs,e,q⟩;obtain⟨e2,t2,g2⟩:=g1.thaw e;exact⟨o,us,e2,l.bk _ _ _ _ (t1.trans t2) (s1.mono t2) g2 q⟩
   ·rintro σ1 H1 τ1 G1 t1 s1 g1 ⟨o,us,kvs,e,q⟩;obtain⟨e2,t2,g2⟩:=g1.thaw e;exact⟨o,us,e2,l.ct _ _ _ _ (t1.trans t2) (s1.mono t2) g2 q⟩
theorem aD.freeze {G:Gp} {us:List (aC×V)} {kvs:List (aC×W)} (g:aD K H G) (e:G a=some (.dic kvs)) (e1:H a=some (.dK us)) (o:Obj):
 aH H (L2.upd H a (.frz o (.dK us)))/\aD K (L2.upd H a (.frz o (.dK us))) (av G a (.fdc o us kvs)):=by
 obtain⟨l,us',e2,n,r⟩:=g a _ e;rw[e1] at e2;cases e2;have t:=aH.dk e1 (.frz o (.dK us));exact⟨t,g.lay (g:= .fdc _ _ _) t ⟨l,aU,n,r.mono t⟩⟩
theorem rq {o:Obj} {us:List (aC×V)} {kvs:List (aC×W)}:pG K (Bb a o us) (kvs.map λp=>kW p.1) (λG=>G a=some (.fdc o us kvs)) H where
 stop:=λi H1 G t g e hl=>by
  obtain⟨_,e1,n,r⟩:=g a _ e;have:=(DP.of n r).len;rw[length_map] at hl;exact⟨e1,by lia⟩
 go:=λi w H1 G t g eG e=>by
  obtain⟨_,e1,n,r⟩:=g a _ eG;have hl:=(DP.of n r).len;rw[List.getElem?_map] at e;cases hk:kvs[i]? with
  | none=>rw[hk] at e;cases e
  | some p=>
    rw[hk] at e;cases e;have hi:=(List.getElem?_eq_some_iff.mp hk).1;refine⟨⟨e1,by (clear hk;lia)⟩,λx H' ⟨eH,kv,h1,h2⟩=>?_⟩;subst eH h2;have h3:(us.map (·.1))[i]?=some kv.1:=by rw[List.getElem?_map,h1];rfl
    rw[n,List.getElem?_map,hk] at h3;have h3':p.1=kv.1:=Option.some.inj h3;exact⟨aH.refl _,by show bI K _ (kW p.1) _;rw[h3'];exact mW _,g⟩
theorem rz {o:Obj} {us:List (aC×V)} {kvs:List (aC×W)}:pG K (w9 a o us) (kvs.map (·.2)) (λG=>G a=some (.fdc o us kvs)) H where
 stop:=λi H1 G t g e hl=>by
  obtain⟨_,e1,n,r⟩:=g a _ e;have:=(DP.of n r).len;rw[length_map] at hl;exact⟨e1,by lia⟩
 go:=λi w H1 G t g eG e=>by
  obtain⟨_,e1,n,r⟩:=g a _ eG;have hl:=(DP.of n r).len;obtain⟨v,h3,rv⟩:=r.get e;have hi:=(List.getElem?_eq_some_iff.mp e).1;rw[length_map] at hi;refine⟨⟨e1,by (clear e h3;lia)⟩,λx H' ⟨eH,kv,h1,h2⟩=>?_⟩;subst eH h2;rw[List.getElem?_map,h1] at h3;cases h3;exact⟨aH.refl _,rv,g⟩
variable {tg:Expr}
noncomputable def rA (i:Nat):WI:=λτ G r=>match τ[i]? with
 | some (some (.ref a))=>∃kvs,G a=some (.dic kvs)/\∀o us,r (kvs.map λp=>kW p.1) (λG=>G a=some (.fdc o us kvs)) (av G a (.fdc o us kvs))
 | _=>False
theorem um (i:Nat) {p:Pos} (hN:X.N[i]?=some x) (hv:pE X.env.scope x) (hd:(x==("__debug__":Str))=false:=by decide) (hcd:(x==("__classdict__":Str))=false:=by decide):QI X tg (.Name x p) (rA i):=
 (uj hN hv hd hcd).imp λσ H R ⟨τ,G,r,hs,hg,ht,hR⟩=>by
   unfold rA at ht;split at ht
   ·rename_i a e;obtain⟨kvs,ea,ht⟩:=ht;obtain⟨v,e1,rv⟩:=hs.2 i _ e;cases rv;obtain⟨_,us,e2,_⟩:=hg a _ ea;refine⟨a,us,e1,e2,λo=>?_⟩;obtain⟨t,g⟩:=hg.freeze ea e2 o;exact hR _ _ _ _ _ t g rq (ht o us)
   ·exact ht.elim
noncomputable def rB (i:Nat):WI:=λτ G r=>match τ[i]? with
 | some (some (.ref a))=>∃kvs,G a=some (.dic kvs)/\∀o us,r (kvs.map (·.2)) (λG=>G a=some (.fdc o us kvs)) (av G a (.fdc o us kvs))
 | _=>False
theorem ol (i:Nat) {p apos cpos:Pos} (hN:X.N[i]?=some x) (hv:pE X.env.scope x) (hd:(x==("__debug__":Str))=false:=by decide) (hcd:(x==("__classdict__":Str))=false:=by decide)
 (hbase:attributeBase (.Name x p) "values" X.env (eval (.Name x p) X.env)=eval (.Name x p) X.env:=by rfl) (hline:(apos.endLine==cpos.line)=true:=by rfl):
 QI X tg (.Call (.Attribute (.Name x p) "values" apos) [] [] cpos) (rB i):=
 (uk hN hv hd hcd hbase hline).imp λσ H R ⟨τ,G,r,hs,hg,ht,hR⟩=>by
   unfold rB at ht;split at ht
   ·rename_i a e;obtain⟨kvs,ea,ht⟩:=ht;obtain⟨v,e1,rv⟩:=hs.2 i _ e;cases rv;obtain⟨_,us,e2,_⟩:=hg a _ ea;refine⟨a,us,e1,e2,λo=>?_⟩;obtain⟨t,g⟩:=hg.freeze ea e2 o;exact hR _ _ _ _ _ t g rz (ht o us)
   ·exact ht.elim
end
noncomputable def Bc (d:Addr) (o:Obj) (kvs:List (aC×V)):It:=
 ⟨λi H=>H d=some (.frz o (.dK kvs))/\i<kvs.length,
  λi H y H'=>∃p kv,H p=none/\kvs[i]?=some kv/\y=.ref p/\H'=upd H p (.tup [kV kv.1,kv.2]),
  λi H=>H d=some (.frz o (.dK kvs))/\kvs.length<=i⟩
theorem mX {elts:List Expr} {o:Obj} {kvs:List (aC×V)} {es:Array DictEntry} {ep:Nat} (it d:Addr) (hne:d≠it) (hd:o.data=.dict es ep):
 jK P w K (.Tuple elts k pos) (Bc d o kvs) [it] it (λi h=>i<=kvs.length/\∃ok ov,IsItemIter h it d i kvs.length ep ok ov) where
 mem:=by simp
 obj:=λi h st b hb=>by
  have e:b=it:=by simpa using hb
  subst e;obtain⟨_,ok,ov,e1⟩:=st;exact⟨_,e1,λv z=>by cases z⟩
 keep:=λi h h' st k=>by
  obtain⟨hi,ok,ov,e1⟩:=st;exact⟨hi,ok,ov,k it (by simp) _ e1⟩
 item:=by
  intro X hP hw hK hc i π s σ H E I hf st hg;subst hP hw hK;obtain⟨f0,f1,f2,f3,f4,f5⟩:=hf it (by simp);obtain⟨hfz,hi⟩:=hg;obtain⟨vs,kv,da,_⟩:=I.dictAt hfz hd;have hl:=kv.length;obtain⟨_,ok,ov,hit⟩:=st;have hi2:i<vs.length:=by (clear f3;lia)
  have e0:=List.getElem?_eq_getElem hi;have e1:=List.getElem?_eq_getElem hi2;obtain⟨pk,pv⟩:=gG kv e0 e1;rw[hl] at hit;refine wpAny_pyNext_items_item (knd:=aL X.prog X.w) (k:=vs[i].1) (v:=vs[i].2) hit da e1 λkey h1 hkey ho ht hsz kk=>⟨_,rfl,?_⟩;refine PySem.wpAny_letOwnedTupleGo_items ho λh2 he2 sb2=>?_;have lt:∀{c:Addr} {o:Obj},s.heap.get? c=some o->c≠s.heap.objs.size:=λe=>ne_of_lt (Heap.lt_size e);have hnew:H s.heap.objs.size=none:=I.hok.fresh (le_refl _);have ene:it≠s.heap.objs.size:=lt hit;have keep:∀c o,c≠it->s.heap.get? c=some o->h2.get? c=some o:=λc o c1 q=>sb2.extBut c o c1 (kk c o c1 q);have tn:h2.get? s.heap.objs.size=some { cls:= .type "tuple",data:= .seq #[key,vs[i].2] }:=sb2.extBut _ _ (Ne.symm ene) ht;have rk:aS (kV kvs[i].1) key:=by rw[pk];exact kh hkey
  refine⟨.ref s.heap.objs.size,upd H s.heap.objs.size (.tup [kV kvs[i].1,kvs[i].2]),I.pair (ch:=[it]) hf (λc o hc e=>keep c o (by simpa using hc) e) tn rk pv,rfl,⟨_,_,hnew,e0,rfl,rfl⟩,⟨by assumption,key,vs[i].2,by rw[hl];exact he2⟩,λc hc=>?_⟩
  ·have hc':c=it:=by simpa using hc
   subst hc';rw[ax ene];exact f0
 done:=by
  intro X hP hw hK hc i π s σ H E I hf st hg;subst hP hw hK;obtain⟨f0,f1,f2,f3,f4,f5⟩:=hf it (by simp);obtain⟨hfz,hi⟩:=hg;obtain⟨vs,kv,da,_⟩:=I.dictAt hfz hd;have hl:=kv.length;obtain⟨hi2,ok,ov,hit⟩:=st;rw[hl] at hit;exact wpAny_pyNext_items_end (knd:=aL X.prog X.w) (I.ok.hd hc) hit da (List.getElem?_eq_none (by (clear f3;lia))) λh' kk=>⟨rfl,I.turned (t':=s.toks) (λb o hb e=>kk b o (by simpa using hb) e) f0 f1 f3 f4 f5⟩
 self:=λA i s Q E st h=>let ⟨_,_,_,hit⟩:=st;PySem.W.kcp_self hit h
section
variable {X:Cx} {elts:List Expr} {k:Nat} {tp:Pos}
theorem rC {p apos cpos:Pos} (hN:X.N[i]?=some x) (hv:pE X.env.scope x) (hd:(x==("__debug__":Str))=false:=by decide) (hcd:(x==("__classdict__":Str))=false:=by decide)
 (hbase:attributeBase (.Name x p) "items" X.env (eval (.Name x p) X.env)=eval (.Name x p) X.env:=by rfl) (hline:(apos.endLine==cpos.line)=true:=by rfl):
 PI X (.Tuple elts k tp) (.Call (.Attribute (.Name x p) "items" apos) [] [] cpos) (λσ H R=>∃a kvs,σ[i]?=some (some (.ref a))/\H a=some (.dK kvs)/\∀o,R (Bc a o kvs) (upd H a (.frz o (.dK kvs)))):=by
 rintro π s σ H R I ⟨a,kvs,hi,e,h⟩;refine wpAny_Call_method0_late hbase hline (bN (fc (pos:=p) hN hv hd hcd π s σ H (λv H'=>v=.ref a/\H'=H) I ⟨_,hi,rfl,rfl⟩) λu s1 z9=>?_);obtain⟨v,H1,I1,r,hv1,hH⟩:=z9;subst hv1;subst hH;obtain rfl:u=Value.ref a:=r;obtain⟨_,hm,vs,kv,o,es,ep,h1,h2,h3,h4⟩:=gQ I1.hok e;have ty:yk X.K "dict" (.ref a) H1:= .inr (.inr (.inl ⟨rfl,.inl ⟨kvs,e⟩⟩));obtain⟨t1,t2⟩:=jO I1 (show aS (V.ref a) (Value.ref a) from rfl) ty;refine⟨"dict",_,PySem.F.plainAttrs_dict,PySem.F.slot_dict_items,PySem.F.type_dict_items,t1,t2,Calls.callWith_builtin rfl (PySem.evalArgs_none ?_)⟩;refine call_meetsIn PySem.F.slot_dict_items t1 PySem.F.entry_dict_items (PySem.F.args_dict_items_1 _) (meets_dict_items (aL X.prog X.w) a hm) ⟨⟨vs,o,es,ep,h1,h2,h3,h4⟩,?_⟩;have I2:ay X π σ H1 { s1 with heap:=s1.heap.push { cls:= .type "dict_items",data:= .fields #[.ref a] } }:=I1.kept (t':=s1.toks) λb o e=>Heap.get?_push_of_some _ e;have h1':(s1.heap.push { cls:= .type "dict_items",data:= .fields #[.ref a] }).get? a=some o:=Heap.get?_push_of_some _ h1;have J:=I2.freeze e h1';refine wpAny_pyIter_items (knd:=aL X.prog X.w) (d:=a) ⟨_,Heap.get?_push_size _ rfl,rfl,rfl⟩ ⟨o,es,h1',h2,h3,h4⟩ ?_;have hne:a≠(s1.heap.push { cls:= .type "dict_items",data:= .fields #[.ref a] }).objs.size:=ne_of_lt (Heap.lt_size h1');refine⟨_,[(s1.heap.push { cls:= .type "dict_items",data:= .fields #[.ref a] }).objs.size],_,_,_,rfl,J.kept (t':=s1.toks) λb o e=>Heap.get?_push_of_some _ e,mX (o:=o) (kvs:=kvs) (es:=es) (ep:=ep) _ a hne h3,⟨zero_le _,.none,.none,by rw[kv.length];exact Heap.get?_push_size _ rfl⟩,λb hb=>?_,h o⟩;have e:b=(s1.heap.push { cls:= .type "dict_items",data:= .fields #[.ref a] }).objs.size:=by simpa using hb
 subst e;exact J.fpOk (le_refl _) (J.hok.fresh (le_refl _))
theorem py {H:Hp} {o:Obj} {us:List (aC×V)} {kvs:List (aC×W)}:pG K (Bc a o us) (kvs.map λp=> .tup [kW p.1,p.2]) (λG=>G a=some (.fdc o us kvs)) H where
 stop:=λi H1 G t g e hl=>by
  obtain⟨_,e1,n,r⟩:=g a _ e;have:=(DP.of n r).len;rw[length_map] at hl;exact⟨e1,by lia⟩
 go:=λi w H1 G t g eG e=>by
  obtain⟨_,e1,n,r⟩:=g a _ eG;have hl:=(DP.of n r).len;rw[List.getElem?_map] at e;cases hk:kvs[i]? with
  | none=>rw[hk] at e;cases e
  | some p=>
    rw[hk] at e;cases e;have hi:=(List.getElem?_eq_some_iff.mp hk).1;obtain⟨v,h5,rv⟩:=r.get (i:=i) (w:=p.2) (by rw[List.getElem?_map,hk];rfl);refine⟨⟨e1,by (clear hk h5;lia)⟩,λx H' ⟨q,kv,hq,h1,h2,h3⟩=>?_⟩;subst h2 h3;have h4:(us.map (·.1))[i]?=some kv.1:=by rw[List.getElem?_map,h1];rfl
    rw[n,List.getElem?_map,hk] at h4;have h4':p.1=kv.1:=Option.some.inj h4;rw[List.getElem?_map,h1] at h5;cases h5;have tn:=aH.new hq (HO.tup [kV kv.1,kv.2]);refine⟨tn,.tup aU (.cons ?_ (.cons (rv.mono tn) .nil)),g.keep hq _⟩;rw[h4'];exact mW _
noncomputable def mY (i:Nat):WI:=λτ G r=>match τ[i]? with
 | some (some (.ref a))=>∃kvs,G a=some (.dic kvs)/\∀o us,r (kvs.map λp=> .tup [kW p.1,p.2]) (λG=>G a=some (.fdc o us kvs)) (av G a (.fdc o us kvs))
 | _=>False
theorem dm (i:Nat) {p apos cpos:Pos} (hN:X.N[i]?=some x) (hv:pE X.env.scope x) (hd:(x==("__debug__":Str))=false:=by decide) (hcd:(x==("__classdict__":Str))=false:=by decide)
 (hbase:attributeBase (.Name x p) "items" X.env (eval (.Name x p) X.env)=eval (.Name x p) X.env:=by rfl) (hline:(apos.endLine==cpos.line)=true:=by rfl):
 QI X (.Tuple elts k tp) (.Call (.Attribute (.Name x p) "items" apos) [] [] cpos) (mY i):=
 (rC hN hv hd hcd hbase hline).imp λσ H R ⟨τ,G,r,hs,hg,ht,hR⟩=>by
   unfold mY at ht;split at ht
   ·rename_i a e;obtain⟨kvs,ea,ht⟩:=ht;obtain⟨v,e1,rv⟩:=hs.2 i _ e;cases rv;obtain⟨_,us,e2,_⟩:=hg a _ ea;refine⟨a,us,e1,e2,λo=>?_⟩;obtain⟨t,g⟩:=hg.freeze ea e2 o;exact hR _ _ _ _ _ t g py (ht o us)
   ·exact ht.elim
end
section
variable {X:Cx} {π:List (Addr×Obj)} {σ:St} {H:Hp} {s:Shared}
noncomputable def Ai (t:String):Bool:=t=="dict"
theorem rD {t:String} (ht:t="NoneType"∨t="bool"∨t="int"∨t="str"∨t="tuple"∨t="list"∨t="dict"):kitOne K (.type t) (.type "dict")=some (Ai t):=by
 rcases ht with rfl | rfl | rfl | rfl | rfl | rfl | rfl<;> first | rfl | kernel_rfl | decide+kernel
noncomputable def zq (te:WE):WE:=λτ G q=>te τ G λx G1=>match oZ G1 x with | some t=>q (.bl (Ai t)) G1 | none=>False
theorem fq:bootBuiltins "dict"=some (.type "dict"):=by decide+kernel
theorem uo {te:WE} {p p2 pos:Pos} (hm:X.mg "dict"=none) (hgx:Gl X "dict") (hm1:X.mg "isinstance"=none) (hg1:Gl X "isinstance") (he:QE X e te)
 (hs1:starEach [e,.Name "dict" p2] X.env=(false,eval e X.env)::starEach [.Name "dict" p2] X.env:=by rfl) (hs2:starEach [.Name "dict" p2] X.env=(false,eval (.Name "dict" p2) X.env)::starEach [] X.env:=by rfl)
 (hpl:(backTo pos (starEach [.Name "dict" p2] X.env)).any (·.1)=false:=by rfl):QE X (.Call (.Name "isinstance" p) [e,.Name "dict" p2] [] pos) (zq te):=by
 have hb:PE X (.Name "dict" p2) (tC (.ty "dict")):=jJ hgx hm fq rfl (by decide) (by decide);have ha:PA X [e,.Name "dict" p2] (fB (lX X.K te) (fB (tC (.ty "dict")) pR)):=bu he (bu hb pa_nil hs2) hs1;have hc:cT X (.builtin "isinstance") (λvs H Q=>∃(v:V) (w:W) (G:Gp) (q:WK),vs=[v,.ty "dict"]/\bI X.K H w v/\aD X.K H G/\(match oZ G w with | some t=>q (.bl (Ai t)) G | none=>False)/\∀v H1 w G1,aH H H1->bI X.K H1 w v->aD X.K H1 G1->q w G1->Q v H1):=by
  rintro π s σ H xs us Q I r ⟨v,w,G,q,e1,r1,g1,h,hQ⟩;subst e1;obtain⟨u,u2,rfl,ru,ru2⟩:=nq r;cases (show u2=Value.type "dict" from ru2);split at h
  ·rename_i t e;obtain⟨ty,hk⟩:=kO g1 r1 e;exact jj I ru ty (rD hk) λtk=>⟨.bl _,H,I.tok tk,rfl,hQ _ H _ G (aH.refl H) (.bl _) g1 h⟩
  ·exact h.elim
 exact(dg hc hg1 hm1 ef ha (by decide) (by decide) hs1 hpl).imp λσ H Q z0=>z0.el λτ G q hs hg ht hQ=>⟨τ,G,_,hs,hg,ht,λv H1 w G1 t1 r1 g1 q1=>
  ⟨v,w,G1,q,rfl,r1,g1,q1,λv2 H2 w2 G2 t2=>hQ v2 H2 w2 G2 (t1.trans t2)⟩⟩
inductive xc (G:Gp) (a:Addr):Nat->Prop where
 | lst {ws:List W} (h:G a=some (.lst ws)):xc G a ws.length
 | dic {kvs:List (aC×W)} (h:GD G a kvs):xc G a kvs.length
noncomputable def rE:List W->Gp->WK->Prop:=λws G q=>match ws with
 | [.ref a]=>∃n:Nat,xc G a n/\q (.int n) G
 | ws=>oj ws G q
theorem bT:dN X (.builtin "len") rE:=by
 rintro π s σ H xs us Q I r ⟨ws,G,q,rw',g,h,hQ⟩;unfold rE at h;split at h
 ·obtain⟨n,hn,h⟩:=h;cases hn with
  | lst e=>exact uX π s σ H xs us Q I r ⟨_,G,q,rw',g,⟨_,e,h⟩,hQ⟩
  | dic hd=>
    obtain⟨v,rfl,r1⟩:=rw'.one;cases r1;obtain⟨u,rfl,ru⟩:=dM r;cases ru;obtain⟨_,us,rd,dp⟩:=hd.rd g;refine yn I rd λt s' I'=>⟨.int us.length,H,I',⟨t,rfl⟩,hQ _ H _ G (aH.refl H) ?_ g h⟩;rw[dp.len];exact .int _
 ·exact w5 π s σ H xs us Q I r ⟨ws,G,q,rw',g,h,hQ⟩
inductive rF (G:Gp) (a:Addr):List W->Prop where
 | lst {ws:List W} (h:G a=some (.lst ws)):rF G a ws
 | dic {kvs:List (aC×W)} (h:GD G a kvs):rF G a (kvs.map λp=>kW p.1)
noncomputable def mZ:List W->Gp->WK->Prop:=λws G q=>match ws with
 | [.ref a]=>∃ws,rF G a ws/\∀p,G p=none->q (.ref p) (av G p (.lst ws))
 | ws=>nE ws G q
theorem om {P:Program} {w:World}:∀{us:List (aC×V)} {vs:List (aC×Value)} {its:List Value},KV us vs->its.length=vs.length->(∀(j:Nat) (v:Value),its[j]?=some v->∃(k:aC) (x:Value),vs[j]?=some (k,x)/\(aL P w).is k v=true)->aN (us.map λp=>kV p.1) its
 | [],_,[],.nil,_,_=> .nil
 | [],_,_::_,.nil,h,_=>by simp at h
 | _::_,_,[],.cons _ _,h,_=>by simp at h
 | p::us,_,u::its,.cons r t,h,hv=>by
   obtain⟨k,x,e1,e2⟩:=hv 0 u rfl;cases e1;refine .cons ?_ (om (P:=P) (w:=w) t (by simpa using h) λj v e=>by simpa using hv (j+1) v (by simpa using e));show aS (kV p.1) u;rw[show p.1=k from r.1];exact kh e2
theorem im (hc:X.calm=true):dN X (.type "list") mZ:=by
 rintro π s σ H xs us Q I r ⟨ws,G,q,rw',g,h,hQ⟩;unfold mZ at h;split at h
 ·rename_i a;obtain⟨ws,hw,h⟩:=h;cases hw with
  | lst e=>exact qg π s σ H xs us Q I r ⟨_,G,q,rw',g,⟨_,e,h⟩,hQ⟩
  | dic hd=>
    obtain⟨v,rfl,r1⟩:=rw'.one;cases r1;obtain⟨u,rfl,ru⟩:=dM r;cases ru;obtain⟨hl,us,rd,dp⟩:=hd.rd g;obtain⟨zl,hm,vs,rel,dd⟩:=dh I.hok rd;obtain⟨ep,hat⟩:=dd.dictAt;refine PySem.W.kdl_call (PySem.W.kdl_dict (knd:=aL X.prog X.w) (kvs:=vs) (ep:=ep) hm) (I.ok.hd hc) hat (by rw[←rel.length];exact zl) λh' tk acc' c' kp e hacc=>?_;have rv:aN (us.map λp=>kV p.1) acc'.toList:=om (P:=X.prog) (w:=X.w) rel (by rw[Array.length_toList];exact hacc.1) λj v e=>hacc.2 j v (by rw[←Array.getElem?_toList];exact e);have hsz:(us.map λp=>kV p.1).length<=sizeLine:=by rw[length_map];exact zl
    have hp:=I.hok.fresh (le_refl s.heap.objs.size);have e':h'.get? s.heap.objs.size=some { cls:= .type "list",data:= .seq acc'.toList.toArray c' }:=by simpa using e
    refine⟨.ref s.heap.objs.size,_,I.laid (t':=tk) (λb o q=>kp b o q) (le_refl _) (show bA X.prog X.w _ h' _ (.lst (us.map λp=>kV p.1)) from ⟨hsz,acc'.toList,c',rv,e'⟩),rfl,?_⟩;have rr:∀{kvs:List (aC×W)} {us:List (aC×V)},DP X.K H kvs us->aJ X.K H (kvs.map λp=>kW p.1) (us.map λp=>kV p.1):=by
     intro kvs us d
     induction d with
     | nil=>exact .nil
     | cons r t ih=>exact .cons (mW _) ih
    exact hQ _ _ _ _ (aH.new hp _) (.ref _) (g.put (aH.new hp _) (rr dp) (by rw[length_map];exact hl)) (h _ (g.fresh hp))
 ·exact qg π s σ H xs us Q I r ⟨ws,G,q,rw',g,h,hQ⟩
noncomputable def Bf:V->List V->Hp->VK->Prop:=λx vs H Q=>∃a kvs k d,x=.ref a/\vs=[kV k,d]/\H a=some (.dK kvs)/\Q ((i9 kvs k).getD d) H
theorem xf:Ae X "dict.get" Bf:=by
 rintro π s σ H x vs v us Q I rx rv ⟨a,kvs,k,d,e1,e2,e,q⟩;subst e1 e2;cases rx;obtain⟨u1,u2,rfl,r1,r2⟩:=nq rv;obtain⟨z,hd,vs,rel,dd⟩:=gQ I.hok e;exact call_meetsIn PySem.F.slot_dict_get dd.typeIs PySem.F.entry_dict_get (PySem.F.args_dict_get_3 _ _ _) (meets_dict_get_default (aL X.prog X.w) a (gP r1) hd u2) ⟨_,dd.mapOf,_,H,I.tok _,(rel.val k).getD r2,q⟩
theorem lr {α:Type} (mk:α->aC) {o k e:Expr} {to tk te:WE} {apos cpos:Pos} (ho:QE X o to) (hk:QE X k tk) (he:QE X e te)
 (hbase:attributeBase o "get" X.env (eval o X.env)=eval o X.env:=by rfl)
 (hfew:((backTo cpos (starEach [k,e] X.env)).all (λx=>!x.1)&&(backToKw cpos (keywordEach [] X.env)).all (λx=>x.1.isSome)
   &&decide (([k,e]:List Expr).length+([]:List Keyword).length+(if ([]:List Keyword).isEmpty then 0 else 1)<30))=true:=by rfl)
 (hline:(apos.endLine==cpos.line)=true:=by rfl) (hs:starEach [k,e] X.env=(false,eval k X.env)::starEach [e] X.env:=by rfl) (hs2:starEach [e] X.env=(false,eval e X.env)::starEach [] X.env:=by rfl) (hpl:(backTo cpos (starEach [e] X.env)).any (·.1)=false:=by rfl):
 QE X (.Call (.Attribute o "get" apos) [k,e] [] cpos) (λτ G q=>to τ G λx G1=>match x with
 | .ref a=>(∃kvs,G1 a=some (.dic kvs))/\tk τ G1 λy G2=>te τ G2 λd G3=>∃z kvs,y=kW (mk z)/\G3 a=some (.dic kvs)/\q ((bf kvs (mk z)).getD d) G3
 | _=>False):=
 (pX PySem.F.plainAttrs_dict PySem.F.slot_dict_get PySem.F.type_dict_get xf ho (bu hk (bu he pa_nil hs2) hs) hbase hfew hline hs hpl).imp λσ H Q z0=>z0.el λτ G q hs hg ht hQ=>
   ⟨τ,G,_,hs,hg,ht,λv H1 w G1 t1 r1 g1 q1=>by
     split at q1
     ·rename_i a;cases r1;obtain⟨⟨kvs,e1⟩,q1⟩:=q1;obtain⟨_,us,h1,_⟩:=g1 a _ e1;refine⟨.inr (.inr (.inl ⟨rfl,.inl ⟨us,h1⟩⟩)),τ,G1,_,hs.mono t1,g1,q1,λv2 H2 w2 G2 t2 r2 g2 q2=>?_⟩;refine⟨τ,G2,_,(hs.mono t1).mono t2,g2,q2,λv3 H3 w3 G3 t3 r3 g3 q3=>?_⟩;obtain⟨z,kvs,rfl,e2,q3⟩:=q3;obtain rfl:=zo r2;obtain⟨_,us,h2,n,rr⟩:=g3 a _ e2;refine⟨a,us,mk z,v3,rfl,rfl,h2,hQ _ _ _ _ ((t1.trans t2).trans t3) ?_ g3 q3⟩;rcases(DP.of n rr).val (mk z) with⟨e,e'⟩ | ⟨w',v',e,e',r⟩
      ·rw[e,e'];exact r3
      ·rw[e,e'];exact r
     ·exact q1.elim⟩
noncomputable def vf (to tk td:WE):WE:=λτ G q=>to τ G λx G1=>match x with
 | .ref a=>(∃kvs,G1 a=some (.dic kvs))/\tk τ G1 λy G2=>td τ G2 λd G3=>∃z kvs,y=.str z/\G3 a=some (.dic kvs)/\q ((bf kvs (.inr z)).getD d) G3
 | _=>False
theorem fS {o k e:Expr} {to tk te:WE} {apos cpos:Pos} (ho:QE X o to) (hk:QE X k tk) (he:QE X e te)
 (hbase:attributeBase o "get" X.env (eval o X.env)=eval o X.env:=by rfl)
 (hfew:((backTo cpos (starEach [k,e] X.env)).all (λx=>!x.1)&&(backToKw cpos (keywordEach [] X.env)).all (λx=>x.1.isSome)
   &&decide (([k,e]:List Expr).length+([]:List Keyword).length+(if ([]:List Keyword).isEmpty then 0 else 1)<30))=true:=by rfl)
 (hline:(apos.endLine==cpos.line)=true:=by rfl) (hs:starEach [k,e] X.env=(false,eval k X.env)::starEach [e] X.env:=by rfl) (hs2:starEach [e] X.env=(false,eval e X.env)::starEach [] X.env:=by rfl) (hpl:(backTo cpos (starEach [e] X.env)).any (·.1)=false:=by rfl):
 QE X (.Call (.Attribute o "get" apos) [k,e] [] cpos) (vf to tk te):=
 lr Sum.inr ho hk he hbase hfew hline hs hs2 hpl
inductive iR (G:Gp):W->W->Prop where
 | int (i:Int):iR G (.int i) (.int i)
 | lst {a b:Addr} {ws us:List W} (ea:G a=some (.lst ws)) (eb:G b=some (.lst us)) (f1:W.flats ws=true) (f2:W.flats us=true) (hd:W.deps ws<=8) (he:W.eqs ws us=true):iR G (.ref a) (.ref b)
inductive xA (G:Gp) (a b:Addr):Bool->Prop where
 | lst {ws us:List W} (ea:G a=some (.lst ws)) (eb:G b=some (.lst us)) (f1:W.flats ws=true) (f2:W.flats us=true) (hd:W.deps ws<=149):xA G a b (W.eqs ws us)
 | dic {kvs us:List (aC×W)} (ea:GD G a kvs) (eb:GD G b us) (hl:kvs.length=us.length) (hv:∀p,p∈kvs->∃w',bf us p.1=some w'/\iR G p.2 w'):xA G a b true
noncomputable def xi:W2:=λx y G q=>match x,y with
 | .ref a,.ref b=>∃r,xA G a b r/\q (.bl r) G
 | x,y=>qj x y G q
noncomputable def xj:W2:=λx y G q=>match x,y with
 | .ref a,.ref b=>∃r,xA G a b r/\q (.bl (!r)) G
 | x,y=>qk x y G q
theorem uq (hu:A.units+20<cLine) {G:Gp} {w1 w2:W} {v1 v2:V} {u1 u2:Value} (I:ay X π σ H s) (g:aD X.K H G) (h:iR G w1 w2) (r1:bI X.K H w1 v1) (r2:bI X.K H w2 v2) (q1:aS v1 u1) (q2:aS v2 u2):SeqAt.EqAt A s u1 u2 true:=by
 cases h with
 | int i=>
   cases r1;cases r2;have:=(fi I 10 A (w1:= .int i) (w2:= .int i) (by show 0<10;decide) rfl rfl (by lia) (.int i) (.int i) q1 q2).1;rw[mS] at this;simpa using this
 | @lst a b ws us ea eb f1 f2 hd he=>
   cases r1;cases r2;cases q1;cases q2
   by_cases hne:a=b
   ·subst hne;exact SeqAt.EqAt.same _
   obtain⟨_,xs,e1,ra⟩:=g _ _ ea;obtain⟨_,ys,e2,rb⟩:=g _ _ eb;obtain⟨its,rv,p,_⟩:=I.list (cR.of e1);obtain⟨its2,rv2,p2,_⟩:=I.list (cR.of e2);have l1:its.length=ws.length:=by rw[←rv.length,ra.length]
   have l2:its2.length=us.length:=by rw[←rv2.length,rb.length]
   have hl:ws.length=us.length:=by
    by_cases hl:ws.length=us.length
    ·exact hl
    ·rw[jW hl] at he;cases he
   have c1:=SeqAt.RcAt.lists p.isList p2.isList (by rw[size_toArray,size_toArray,l1,l2,hl]) (A:=A) (by (clear hd l1 l2 hl;lia)) (AT I (n:=10) (by (clear hu l1 l2 hl;lia)) f1 f2 (by show A.units+1+10<cLine;(clear hd l1 l2 hl;lia)) ra rb rv rv2);have er:=eN ws us;rw[←hl,Nat.min_self,beq_self_eq_true,Bool.and_true] at er;rw[size_toArray,l1,er,he] at c1;exact SeqAt.EqAt.of_refs hne c1
theorem kj (hu:A.units+20<cLine) {G:Gp} (I:ay X π σ H s) (g:aD X.K H G) {kb:List (aC×Value)} {us:List (aC×W)} {ub:List (aC×V)} (db:DP X.K H us ub) (rb:KV ub kb):
 ∀{kvs:List (aC×W)} {ua:List (aC×V)} {ka:List (aC×Value)},DP X.K H kvs ua->KV ua ka->(∀p,p∈kvs->∃w',bf us p.1=some w'/\iR G p.2 w')->PySem.W.KeqHits A s kb ka true:=by
 intro kvs ua ka d
 induction d generalizing ka with
 | nil=>
   intro r _;cases r;exact .nil
 | @cons k w v kvs ua rw' t ih=>
   intro r hv;cases r with
   | @cons _ b _ bs r1 rt=>
     obtain⟨b1,b2⟩:=b;obtain⟨e1,r2⟩:=r1;cases (show k=b1 from e1);obtain⟨w',hw,sv⟩:=hv _ mem_cons_self;rcases db.val k with⟨e,_⟩ | ⟨w2,v2,e,e',r3⟩
     ·rw[e] at hw;cases hw
     ·rw[e] at hw;cases hw;obtain⟨y,hy,ry⟩:=fX.some_of (v:=v2) (o:=valueAt kb k) (by rw[←e'];exact rb.val k);exact .hit (e:=true) (b:=true) hy (uq hu I g sv rw' r3 r2 ry) (ih rt λp hp=>hv p (mem_cons_of_mem _ hp))
theorem zt (hr:aR k X.A):fF X (compareOp .Eq) xi:=by
 rintro π s σ H x y v u Q I rx ry ⟨wx,wy,G,q,r1,r2,g,h,hQ⟩;unfold xi at h;split at h
 ·obtain⟨r,he,h⟩:=h;cases he with
  | lst ea eb f1 f2 hd=>exact yM hr π s σ H x y v u Q I rx ry ⟨_,_,G,q,r1,r2,g,⟨_,_,ea,eb,f1,f2,hd,h⟩,hQ⟩
  | dic ea eb hl hv=>
    cases r1;cases r2;cases rx;cases ry;have hu:=hr.un;obtain⟨_,ua,ra,da⟩:=ea.rd g;obtain⟨_,ub,rb,db⟩:=eb.rd g;obtain⟨_,ma,ka,qa,dda⟩:=dh I.hok ra;obtain⟨_,mb,kb,qb,ddb⟩:=dh I.hok rb;have hlen:ka.length=kb.length:=by rw[←qa.length,←qb.length,da.len,db.len,hl]
    refine PySem.W.keq_eq ma mb dda ddb (by (clear hl hlen;lia)) (λ_=>kj (A:=X.A.in1) (by show X.A.units+1+20<cLine;(clear hl hlen;lia)) I g db qb da qa hv) ?_;rw[hlen,beq_self_eq_true,Bool.true_and];exact⟨.bl _,H,I,rfl,hQ _ H _ G (aH.refl H) (.bl _) g h⟩
 ·exact wf hr π s σ H x y v u Q I rx ry ⟨wx,wy,G,q,r1,r2,g,h,hQ⟩
theorem zu (hr:aR k X.A):fF X (compareOp .NotEq) xj:=by
 rintro π s σ H x y v u Q I rx ry ⟨wx,wy,G,q,r1,r2,g,h,hQ⟩;unfold xj at h;split at h
 ·obtain⟨r,he,h⟩:=h;cases he with
  | lst ea eb f1 f2 hd=>exact yN hr π s σ H x y v u Q I rx ry ⟨_,_,G,q,r1,r2,g,⟨_,_,ea,eb,f1,f2,hd,h⟩,hQ⟩
  | dic ea eb hl hv=>
    cases r1;cases r2;cases rx;cases ry;have hu:=hr.un;obtain⟨_,ua,ra,da⟩:=ea.rd g;obtain⟨_,ub,rb,db⟩:=eb.rd g;obtain⟨_,ma,ka,qa,dda⟩:=dh I.hok ra;obtain⟨_,mb,kb,qb,ddb⟩:=dh I.hok rb;have hlen:ka.length=kb.length:=by rw[←qa.length,←qb.length,da.len,db.len,hl]
    refine PySem.W.keq_ne ma mb dda ddb (by (clear hl hlen;lia)) (λ_=>kj (A:=X.A.in1) (by show X.A.units+1+20<cLine;(clear hl hlen;lia)) I g db qb da qa hv) ?_;rw[hlen,beq_self_eq_true,Bool.true_and];exact⟨.bl _,H,I,rfl,hQ _ H _ G (aH.refl H) (.bl _) g h⟩
 ·exact wg hr π s σ H x y v u Q I rx ry ⟨wx,wy,G,q,r1,r2,g,h,hQ⟩
structure Bh (ws:List W) (x:W) (j:Nat):Prop where
 hit:∃w,ws[j]?=some w/\w.eq x=true
 no:∀m w,m<j->ws[m]?=some w->w.eq x=false
noncomputable def Bi (K:PySem.W.Frag):V->List V->Hp->VK->Prop:=λx vs H Q=>∃a y w G ws j,x=.ref a/\vs=[y]/\bI K H w y/\aD K H G/\G a=some (.lst ws)/\zn ws w/\Bh ws w j/\Q (.int (j:Nat)) H
theorem xk (hr:aR k X.A):Ae X "list.index" (Bi X.K):=by
 rintro π s σ H x vs v us Q I rx rv ⟨a,y,w,G,ws,j,e1,e2,rw',g,ea,il,fs,q⟩;subst e1 e2;cases rx;obtain⟨u1,rfl,r1⟩:=dM rv;obtain⟨e,its,p,he,_,hl,hp⟩:=mV hr I r1 rw' g ea il;obtain⟨⟨cls,dd,data,sl⟩,ho,hc,n,hd⟩:=id p;simp only at hc hd;subst hc hd;obtain⟨w',ew,ht⟩:=fs.hit;have hj:j<its.length:=by rw[hl];exact(List.getElem?_eq_some_iff.mp ew).1
 have hz:its.length<=100000:=by
  obtain⟨l,_⟩:=g _ _ ea;rw[hl];exact l
 refine call_meets PySem.F.slot_list_index ⟨_,ho,rfl⟩ PySem.F.entry_list_index (PySem.F.args_list_index_2 _ _)
  (SeqAt.list_indexAt a its.toArray n dd sl u1 e j (by simpa using hj) (by (clear ew;lia)) ?_ ?_) ⟨ho,he,⟨.int j,H,I.tok _,⟨_,rfl⟩,q⟩⟩
 ·show e its[j]=true;rw[hp j w' _ ew (List.getElem?_eq_getElem hj)];exact ht
 ·intro m hm hlt;have hm2:m<its.length:=by simpa using hm
  have hm3:m<ws.length:=by rw[←hl];exact hm2
  show e its[m]=false;rw[hp m _ _ (List.getElem?_eq_getElem hm3) (List.getElem?_eq_getElem hm2)];exact fs.no m _ hlt (List.getElem?_eq_getElem hm3)
noncomputable def zv (to te:WE):WE:=λτ G q=>to τ G λx G1=>match x with
 | .ref a=>(∃ws,G1 a=some (.lst ws))/\te τ G1 λy G2=>∃ws j,G2 a=some (.lst ws)/\zn ws y/\Bh ws y j/\q (.int (j:Nat)) G2
 | _=>False
theorem xl {o e:Expr} {to te:WE} {apos cpos:Pos} (hr:aR k X.A) (ho:QE X o to) (he:QE X e te)
 (hbase:attributeBase o "index" X.env (eval o X.env)=eval o X.env:=by rfl)
 (hfew:((backTo cpos (starEach [e] X.env)).all (λx=>!x.1)&&(backToKw cpos (keywordEach [] X.env)).all (λx=>x.1.isSome)
   &&decide (([e]:List Expr).length+([]:List Keyword).length+(if ([]:List Keyword).isEmpty then 0 else 1)<30))=true:=by rfl)
 (hline:(apos.endLine==cpos.line)=true:=by rfl) (hs:starEach [e] X.env=(false,eval e X.env)::starEach [] X.env:=by rfl) (hpl:(backTo cpos (starEach [] X.env)).any (·.1)=false:=by rfl):
 QE X (.Call (.Attribute o "index" apos) [e] [] cpos) (zv to te):=
 (pX PySem.F.plainAttrs_list PySem.F.slot_list_index PySem.F.type_list_index (xk hr) ho (bu he pa_nil hs) hbase hfew hline hs hpl).imp λσ H Q z0=>z0.el λτ G q hs hg ht hQ=>
   ⟨τ,G,_,hs,hg,ht,λv H1 w G1 t1 r1 g1 q1=>by
     split at q1
     ·rename_i a;cases r1;obtain⟨⟨ws,e1⟩,q1⟩:=q1;obtain⟨_,us,h1,_⟩:=g1 a _ e1;refine⟨.inl ⟨rfl,us,cR.of h1⟩,τ,G1,_,hs.mono t1,g1,q1,λv2 H2 w2 G2 t2 r2 g2 q2=>?_⟩;obtain⟨ws,j,e2,il,fs,q2⟩:=q2;exact⟨a,v2,w2,G2,ws,j,rfl,rfl,r2,g2,e2,il,fs,hQ _ _ _ _ (t1.trans t2) (.int _) g2 q2⟩
     ·exact q1.elim⟩
end
section
variable {prog:Program} {w:World} {A:Around} {R:Result->Shared->Prop} {I:Addr} {fp wr:List Addr} {Gn:Array GenState->Array GenState->Prop} {n:Nat} {P:Nat->Value->Prop} {St:Nat->Shared->Prop}
end
section
variable {prog:Program} {w:World} {A:Around} {E:Value->Shared->Prop} {s:Shared}
set_option maxHeartbeats 3200000 in
end
section
variable {X:Cx}
end
section
variable {X:Cx} {π:List (Addr×Obj)} {σ:St} {H:Hp} {s:Shared}
theorem lu {xs:Array Value} {sl:Array (Option Value)} {h:Heap} {g:_} {d:_} {t:Nat} {os:_} {Q:Option Value->Shared->Prop}
 (hx:h.get? a=some { cls:= .type "list",dict:=none,data:= .seq xs k,slots:=sl }) (hA:A.handled=none)
 (hq:∀(h':Heap) (tk:Nat),(∀(b:Addr) (o:Obj),h.get? b=some o->h'.get? b=some o)->Q none ⟨h',g,d,tk,os⟩):
 wpAny (model prog w) A (getAttr? (.ref a) "keys") Q E ⟨h,g,d,t,os⟩:=by
 unfold getAttr? getAttrBy?;have hT:∀t,(Shared.mk h g d t os).TypeIs (.ref a) "list":=λt=>⟨_,hx,rfl⟩;have f1:=PySem.sub_AttributeError;have f3:=PySem.F.slot_list_getattribute.lookup;have f4:=PySem.F.slot_list_getattribute.bind (Value.ref a);have f5:=PySem.am_list_getattr_none;refine wax ?_;unfold mkText;refine wax (wpAny_fresh' (waz ?_));refine wax (wpAny_attempt ?_);unfold getAttrBy;refine wpAny_holding ?_;refine wax ?_;unfold typeOf;refine wax (wpAny_loadPart' hx (waz ?_));refine wax (wpAny_of_eq f3 ?_);refine wpAny_ite_false (by rfl) ?_;unfold getAttrByItsOwn;refine wax ?_;unfold hookBefore;refine wpAny_ite_false (by rfl) (waz ?_);refine wax (wpAny_attempt ?_);refine wpAny_holding ?_;unfold callGetattribute;refine wpAny_ite_false (by rfl) ?_;refine wax (wpAny_of_eq f4 ?_);refine call_meets PySem.F.slot_list_getattribute (hT _) PySem.am_entry_list_getattribute (PySem.F.args_list_getattribute_2 _ _) (PySem.meets_getattribute_miss_list a xs k sl "keys" t (by rfl) (by decide)) ⟨hx,?_⟩;refine⟨hA,λh' tk e hx'=>?_⟩;have te:(Shared.mk h' g d tk os).TypeIs (.ref e) "AttributeError":=by
  obtain⟨t1,u1,e1⟩:=hx'.there;exact⟨_,e1,rfl⟩
 show wpAny _ _ (getattributeRaised _ _ _ _ _ _ _) _ _ _;unfold getattributeRaised;refine wax (wpAny_isInstance te f1 ?_);refine wpAny_ite_true (by rfl) ?_;unfold hookBehind hookOrError;refine wax (wpAny_ite_false (by rfl) (wpAny_of_eq f5 ?_));show wpAny _ _ (attributeErrorLeaves _ _ _ _ _) _ _ _;unfold attributeErrorLeaves
 repeat (any_goals (first | assumption | wp_step))
 exact hq h' tk hx'.keeps
set_option maxHeartbeats 4000000 in
theorem g9:entryFor table "dict.update.loop"=some Builtin.«dict.update.loop»:=by rfl
theorem lw {prog:Program} {w:World} {A:Around} (hA:A.handled=none) {d it l:Addr} (hdi:d≠it) (hdl:d≠l) (hil:it≠l) {items:Array Value} {R:Result->Shared->Prop}:
 ∀(ps:List (aC×Value)) (i:Nat) (s:Shared) (kvs:List (aC×Value)) (tok:Tok),i+ps.length=items.size->s.heap.IsListIter it l i->s.heap.IsList l items->s.heap.DictOf (aL prog w) d kvs->
 (∀(j:Nat) (p:aC×Value),ps[j]?=some p->∃t k,items[i+j]?=some (.ref t)/\t≠d/\t≠it/\s.heap.IsTuple t #[k,p.2]/\(aL prog w).is p.1 k=true)->
 kvs.length+ps.length<=sizeLine->
 (∀(h':Heap) (tk:Nat),(∀(b:Addr) (o:Obj),b≠d->b≠it->s.heap.get? b=some o->h'.get? b=some o)->h'.DictOf (aL prog w) d (ps.foldl (λkvs p=>stored kvs p.1 p.2) kvs)->R (.ok (.ret .none)) ⟨h',s.gens,s.drawn,tk,s.os⟩)->
 codeAny (model prog w) A (.builtin "dict.update.loop" ⟨[.ref d,.ref it,.int (i:Int) tok,.none],[]⟩) R s
 | [],i,s,kvs,tok,hn,hi,hl,hd,hp,hz,hR=>by
   refine codeAny_builtin g9 ?_;unfold Builtin.«dict.update.loop»;dsimp only;refine wax (wpAny_pyNext_list_end (by exact hA) hi hl (by simp at hn ⊢;(clear hz;lia)) λh' eb=>?_);dsimp only;refine wax ?_;unfold Builtin.Dict.addKeywords;refine wax (waz (waz (waz ?_)));refine hR h' s.toks (λb o _ hb e=>eb b o hb e) ?_;obtain⟨o,es,ep,e,c⟩:=hd;exact⟨o,es,ep,eb d o hdi e,c⟩
 | p::ps,i,s,kvs,tok,hn,hi,hl,hd,hp,hz,hR=>by
   refine codeAny_builtin g9 ?_;unfold Builtin.«dict.update.loop»;dsimp only;obtain⟨t,k,e1,td,ti,e2,e3⟩:=hp 0 p rfl;refine wax (wpAny_pyNext_list_item hi hl e1 λh' hi' sb=>?_);dsimp only;refine wax (wpAny_holding ?_);refine wax ?_;refine wpAny_tryCatch ?_;obtain⟨o,g1,g2,n,g3⟩:=e2;have g1':h'.get? t=some o:=(sb.2 t ti).trans g1;unfold Builtin.Dict.pairItems;refine wax (wpAny_typeOf (T:="tuple") ⟨o,g1',g2⟩ ?_);refine wpAny_ite_true (by rfl) ?_;refine wax (wpAny_seqItems g1' g3 (waz ?_));show wpAny _ _ (holding [k,p.2] (dictSet d k p.2)) _ _ _;have hz':kvs.length+(ps.length+1)<=sizeLine:=hz;refine wpAny_holding (wpAny_dictSet_pairs e3 (hd.sameBut sb hdi) (λh2 hd2 sb2=>waz ⟨PySem.Code.quiet_builtin _ (by decide+kernel),?_⟩) (by (clear hn e1 hz';lia)));have k2:∀b,b≠d->b≠it->h2.get? b=s.heap.get? b:=λb h1 h2=>(sb2.2 b h1).trans (sb.2 b h2);have hn':i+(ps.length+1)=items.size:=hn;refine lw (items:=items) hA hdi hdl hil ps (i+1) ⟨h2,s.gens,s.drawn,s.toks+1,s.os⟩ (stored kvs p.1 p.2) 0 (by (clear hz e1 hz';lia)) ?_ ?_ hd2 (λj q hq=>?_) ?_ λh3 tk kp hd3=>?_
   ·obtain⟨o1,e1,c1⟩:=hi';exact⟨o1,(sb2.2 it hdi.symm).trans e1,c1⟩
   ·obtain⟨o1,e1,c1⟩:=hl;exact⟨o1,(k2 l hdl.symm hil.symm).trans e1,c1⟩
   ·obtain⟨t',k',a1,a2,a3,⟨o1,a4,a5⟩,a6⟩:=hp (j+1) q hq;exact⟨t',k',by rw[show i+1+j=i+(j+1) by (clear hn hz e1 hz' hn' hq a1;lia)];exact a1,a2,a3,⟨o1,(k2 t' a2 a3).trans a4,a5⟩,a6⟩
   ·have:=PySem.stored_length_le kvs p.1 p.2;show(stored kvs p.1 p.2).length+ps.length<=sizeLine
    (clear hn hz e1 hn';lia)
   ·exact hR h3 tk (λb o h1 h2 e=>kp b o h1 h2 ((k2 b h1 h2).trans e)) hd3
theorem m7 (hA:A.handled=none) (hb:sysModules<s.heap.objs.size) {l:Addr} {n:Nat} {sl:Array (Option Value)} {ps:List (aC×Value)}
 (hl:s.heap.get? l=some { cls:= .type "list",dict:=none,data:= .seq items n,slots:=sl }) (hn:ps.length=items.size) (hz:ps.length<=sizeLine)
 (hp:∀(j:Nat) (p:aC×Value),ps[j]?=some p->∃t k,items[j]?=some (.ref t)/\s.heap.IsTuple t #[k,p.2]/\(aL prog w).is p.1 k=true)
 (hQ:∀(h':Heap) (tk:Nat),(∀(b:Addr) (o:Obj),s.heap.get? b=some o->h'.get? b=some o)->h'.DictOf (aL prog w) s.heap.objs.size (ps.foldl (λkvs p=>stored kvs p.1 p.2) [])->Q (.ref s.heap.objs.size) ⟨h',s.gens,s.drawn,tk,s.os⟩):
 wpAny (model prog w) A (call (.type "dict") [.ref l]) Q E s:=by
 refine callType_codes PySem.F.kt_called_dict (PySem.F.kt_typeCall_dict_1 (.ref l)) PySem.F.entry_dict_init (kt_code_dict_new (.ref l) (Q₁:=λobj s₁=>obj=.ref s.heap.objs.size/\s₁={ s with heap:=s.heap.push { cls:= .type "dict",data:= .dict #[] } }) ⟨rfl,rfl⟩) λobj s₁ a=>?_;obtain⟨rfl,rfl⟩:=a;have hnew:=PySem.Heap.DictOf.new (knd:=aL prog w) s.heap;have hpu:∀b o,s.heap.get? b=some o->(s.heap.push { cls:= .type "dict",data:= .dict #[] }).get? b=some o:=λb o e=>Heap.get?_push_of_some _ e;refine⟨PySem.Heap.DictOf.typeIs hnew,PySem.F.args_dict_init_2 _ _,?_⟩;unfold Builtin.«dict.__init__»;refine wax ?_;unfold Builtin.Dict.selfAndRest;refine wax (wpAny_notOrdered_dict (PySem.Heap.DictOf.typeIs hnew) (waz ?_));show wpAny _ _ (Builtin.Dict.updateFrom "dict.__init__" s.heap.objs.size (.ref l) [] .none) _ _ _;unfold Builtin.Dict.updateFrom;refine wax (wpAny_typeOf (T:="list") ⟨_,hpu _ _ hl,rfl⟩ ?_);refine wpAny_ite_true (by rfl) ?_;refine wax (lu (hpu _ _ hl) (by exact hA) λh1 tk k1=>?_);refine wpAny_ite_true (by rfl) ?_;refine wax (wpAny_rule ?_);have hl1:=k1 _ _ (hpu _ _ hl);refine wax (wpAny_pyIter_list (items:=items) ⟨_,hl1,rfl,n,rfl⟩ ?_);obtain⟨od,es,ep,ed,hnew'⟩:=hnew;have ed1:=k1 _ _ ed;have d1:=Heap.lt_size ed1;have l0:=Heap.lt_size hl;have l1:=Heap.lt_size hl1;have kk:∀b o,s.heap.get? b=some o->(h1.push { cls:= .type "list_iterator",data:= .fields #[.ref l,.int 0 0] }).get? b=some o:=λb o e=>Heap.get?_push_of_some _ (k1 _ _ (hpu _ _ e));refine waz ⟨PySem.Code.quiet_builtin _ (by decide+kernel),lw (A:=A.in1) (items:=items) (l:=l) hA (ne_of_lt d1) (Nat.ne_of_gt l0) (Nat.ne_of_gt l1) ps 0 _ [] 0 (by (clear hb hz d1 l0 l1;lia)) ⟨_,Heap.get?_push_size _ rfl,rfl,rfl⟩ ⟨_,kk _ _ hl,rfl,n,rfl⟩ ⟨od,es,ep,Heap.get?_push_of_some _ ed1,hnew'⟩ (λj p hj=>?_) (by simpa using hz) λh' tk' kp hd'=>⟨rfl,hQ h' tk' (λb o e=>kp b o (ne_of_lt (Heap.lt_size e)) (ne_of_lt (Heap.lt_size (k1 _ _ (hpu _ _ e)))) (kk b o e)) hd'⟩⟩;obtain⟨t,k,e1,⟨o,e2,e3⟩,e4⟩:=hp j p hj;exact⟨t,k,by rw[Nat.zero_add];exact e1,ne_of_lt (Heap.lt_size e2),ne_of_lt (Heap.lt_size (k1 _ _ (hpu _ _ e2))),⟨o,kk _ _ e2,e3⟩,e4⟩
inductive xm (G:Gp) (a:Addr) (kvs:List (aC×W)):Prop where
 | dic (h:GD G a kvs):xm G a kvs
 | lst {ps:List (aC×W)} (h:G a=some (.lst (ps.map λp=> .tup [kW p.1,p.2]))) (e:kvs=ps.foldl (λa p=>bw a p.1 p.2) []):xm G a kvs
noncomputable def ur:List W->Gp->WK->Prop:=λws G q=>match ws with
 | [.ref a]=>∃kvs,xm G a kvs/\∀p,G p=none->q (.ref p) (av G p (.dic kvs))
 | _=>False
theorem lx:∀(ps:List (aC×W)) (kvs:List (aC×W)),(ps.foldl (λa p=>bw a p.1 p.2) kvs).length<=kvs.length+ps.length
 | [],kvs=>le_refl _
 | p::ps,kvs=>by
   have h1:=lx ps (bw kvs p.1 p.2);have h2:=eE kvs p.1 p.2;simp only[List.foldl_cons,length_cons];lia
theorem oo:∀{qs:List (aC×V)} {ps:List (aC×Value)},KV qs ps->∀{kvs:List (aC×V)} {vs:List (aC×Value)},KV kvs vs->KV (qs.foldl (λa p=>dQ a p.1 p.2) kvs) (ps.foldl (λa p=>stored a p.1 p.2) vs)
 | _,_,.nil,_,_,h=>h
 | q::qs,p::ps,.cons r t,_,_,h=>oo (qs:=qs) (ps:=ps) t (by show KV (dQ _ q.1 q.2) (stored _ p.1 p.2);rw[show p.1=q.1 from r.1.symm];exact h.put q.1 r.2)
theorem oq {K:PySem.W.Frag}:∀{ps:List (aC×W)} {qs:List (aC×V)},DP K H ps qs->∀{kvs:List (aC×W)} {us:List (aC×V)},DP K H kvs us->DP K H (ps.foldl (λa p=>bw a p.1 p.2) kvs) (qs.foldl (λa p=>dQ a p.1 p.2) us)
 | _,_,.nil,_,_,h=>h
 | _,_,.cons r t,_,_,h=>oq t (h.put _ r)
theorem ut {k:aC} {v:V} (r:bI K H (kW k) v):v=kV k:=by
 cases k with
 | inl i=>cases r;rfl
 | inr z=>cases r;rfl
theorem lA (I:ay X π σ H s):∀{ps:List (aC×W)} {xs:List V} {its:List Value},aJ X.K H (ps.map λp=> .tup [kW p.1,p.2]) xs->aN xs its->
 ∃(qs:List (aC×V)) (vs:List (aC×Value)),DP X.K H ps qs/\KV qs vs/\vs.length=its.length/\∀(j:Nat) (p:aC×Value),vs[j]?=some p->∃t k,its[j]?=some (.ref t)/\s.heap.IsTuple t #[k,p.2]/\(aL X.prog X.w).is p.1 k=true
 | [],_,_,.nil,.nil=>⟨[],[],.nil,.nil,rfl,λj p h=>by cases h⟩
 | (k,w)::ps,_,[],.cons r rs,z=>by cases z
 | (k,w)::ps,_,u::its,.cons r rs,.cons v vs=>by
   obtain⟨qs,ys,h1,h2,h3,h4⟩:=lA I rs vs;cases r with
   | @tup t _ zs hT rr=>
     cases (show u=Value.ref t from v);obtain⟨its2,rv,hp,_⟩:=I.tuple (du.of hT);cases rr with
     | cons r1 rr=>
       cases rr with
       | cons r2 rr=>
         cases rr;obtain⟨u1,u2,rfl,ru1,ru2⟩:=gs rv;rw[ut r1] at ru1;refine⟨_,(k,u2)::ys,.cons r2 h1,.cons ⟨rfl,ru2⟩ h2,by simp[h3],λj p hj=>?_⟩;cases j with
         | zero=>
           cases hj;exact⟨t,u1,rfl,hp,gP (P:=X.prog) (w:=X.w) ru1⟩
         | succ j=>exact h4 j p hj
theorem jB (hc:X.calm=true):dN X (.type "dict") ur:=by
 rintro π s σ H xs us Q I r ⟨ws,G,q,rw',g,h,hQ⟩;unfold ur at h;split at h
 ·rename_i a;obtain⟨kvs,hs,h⟩:=h;obtain⟨v,rfl,r1⟩:=rw'.one;cases r1;obtain⟨u,rfl,ru⟩:=dM r;cases ru;have hp:=I.hok.fresh (le_refl s.heap.objs.size);cases hs with
  | dic hd=>
    obtain⟨hl,us,rd,dp⟩:=hd.rd g;obtain⟨zl,hm,vs,rel,dd⟩:=dh I.hok rd;refine kt_call_dict hm dd (by rw[←rel.length];exact zl) λh' hd' sb=>?_;refine⟨.ref s.heap.objs.size,_,I.laid (t':=s.toks) (λb o q=>(sb.2 b (ne_of_lt (Heap.lt_size q))).trans (Heap.get?_push_of_some _ q)) (le_refl _) (show bA X.prog X.w _ h' _ (.dK us) from ⟨zl,beq_eq_false_iff_ne.mpr (Ne.symm (ne_of_lt I.big)),vs,rel,hd'⟩),rfl,?_⟩;exact hQ _ _ _ _ (aH.new hp _) (.ref _) (g.lay (g:= .dic kvs) (aH.new hp _) ⟨hl,us,aU,dp.keys,(dp.mono (aH.new hp _)).vals⟩) (h _ (g.fresh hp))
  | @lst ps e ek=>
    subst ek;obtain⟨hl,xs,eH,rr⟩:=g a _ e;obtain⟨zl,its,c,rv,eo⟩:=I.hok a _ eH;obtain⟨qs,vs,dp,kv,hn,ht⟩:=lA I rr rv;have hll:ps.length<=100000:=by simpa using hl
    have hqs:=dp.len;have hvs:=kv.length;have fl:=lx ps [];have fd:=oq dp (H:=H) (K:=X.K) .nil;have fk:=oo kv (kvs:=[]) (vs:=[]) .nil;have hz:(qs.foldl (λa p=>dQ a p.1 p.2) []).length<=sizeLine:=by
     rw[fd.len];exact bF (by simp only[length_nil] at fl;(clear hl zl hn hvs;lia))
    refine m7 (I.ok.hd hc) I.big eo (by rw[hn];simp) (bF (by (clear hl zl fl hz;lia))) (λj p hj=>?_) λh' tk kp hd'=>?_
    ·obtain⟨t,k,e1,e2,e3⟩:=ht j p hj;exact⟨t,k,by simpa using e1,e2,e3⟩
    ·refine⟨.ref s.heap.objs.size,_,I.laid (t':=tk) kp (le_refl _) (show bA X.prog X.w _ h' _ (.dK (qs.foldl (λa p=>dQ a p.1 p.2) [])) from ⟨hz,beq_eq_false_iff_ne.mpr (Ne.symm (ne_of_lt I.big)),_,fk,hd'⟩),rfl,?_⟩;exact hQ _ _ _ _ (aH.new hp _) (.ref _) (g.lay (g:= .dic (ps.foldl (λa p=>bw a p.1 p.2) [])) (aH.new hp _) ⟨by simp only[length_nil] at fl;(clear hl zl hn hvs hz;lia),_,aU,fd.keys,(fd.mono (aH.new hp _)).vals⟩) (h _ (g.fresh hp))
 ·exact h.elim
end
section
variable {prog:Program} {w:World} {A:Around} {s:Shared}
noncomputable def iS (prog:Program) (w:World) (A:Around) (s:Shared) (u v:Value):Prop:=∀(E:Value->Shared->Prop) (Q:Bool->Shared->Prop),Q true s->wpAny (model prog w) A (eqBool u v) Q E s
theorem iS.of {u v:Value} (h:SeqAt.EqAt A s u v true):iS prog w A s u v:=λE Q q=>h prog w E Q q
theorem iS.refs {l b:Addr} (h:l≠b->∀(E:Value->Shared->Prop) (Q:Value->Shared->Prop),Q (.bool true) s->wpAny (model prog w) A (richCompare .Eq (.ref l) (.ref b)) Q E s):iS prog w A s (.ref l) (.ref b):=by
 by_cases hne:l=b
 ·subst hne;exact .of (SeqAt.EqAt.same _)
 ·exact λE Q q=>wpAny_holding (wpAny_ite_split (λhab=>absurd (by have:=eq_of_beq hab;injection this) hne) λ_=>wax (h hne E _ (wpAny_truthy_bool q)))
theorem uu {l b:Addr} {x1 x2 y1 y2:Value} (hl:s.heap.IsTuple l #[x1,x2]) (hb:s.heap.IsTuple b #[y1,y2]) (hu:A.units<cLine) (h1:iS prog w A.in1 s x1 y1) (h2:iS prog w A.in1 s x2 y2) (E:Value->Shared->Prop) (Q:Value->Shared->Prop) (q:Q (.bool true) s):
 wpAny (model prog w) A (richCompare .Eq (.ref l) (.ref b)) Q E s:=by
 obtain⟨o1,e1,c1,n1,d1⟩:=id hl;obtain⟨o2,e2,c2,n2,d2⟩:=id hb;refine wpAny_richCompare_same_room (T:="tuple") ⟨o1,e1,c1⟩ ⟨o2,e2,c2⟩ PySem.F.slot_tuple_eq (wpAny_call_entry PySem.F.slot_tuple_eq ⟨o1,e1,c1⟩ PySem.F.entry_tuple_eq ?_ (PySem.F.args_tuple_eq_2 _ _)) hu;unfold Builtin.«tuple.__eq__»
 k_delta "compare"
 refine wax ?_;unfold slotArgs;refine wpAny_ite_false (by rfl) (wpAny_ite_false (by rfl) (waz ?_));dsimp only;refine wax (wpAny_isInstance (T:="tuple") (b:=true) ⟨o2,e2,c2⟩ (by rfl) ?_);refine wpAny_ite_false (by rfl) ?_;refine wax (wpAny_tupleItemsOf e1 d1 ?_);refine wax (wpAny_tupleItemsOf e2 d2 ?_);rw[show(#[x1,x2]:Array Value).toList.zip (#[y1,y2]:Array Value).toList=[(x1,y1),(x2,y2)] from rfl];simp only[List.forIn_cons,List.forIn_nil];refine wax (wax (wax (h1 _ _ ?_)));refine wpAny_ite_false (by rfl) (waz ?_);dsimp only;refine wax (wax (h2 _ _ ?_));refine wpAny_ite_false (by rfl) (waz ?_);refine waz ?_;dsimp only;exact waz ⟨.bool true,rfl,(λz=>nomatch z),q⟩
theorem kl {c:Int} {r:Bool} (hc:(c=2/\r=true)∨(c=3/\r=false)) {l b:Addr} {items items2:Array Value} {o1 o2:Obj} {n1 n2:Nat} (e1:s.heap.get? l=some o1) (d1:o1.data=.seq items n1) (e2:s.heap.get? b=some o2) (d2:o2.data=.seq items2 n2) (hz:items.size=items2.size) {R:Result->Shared->Prop}
 (he:∀(j:Nat) (u v:Value),items[j]?=some u->items2[j]?=some v->iS prog w A.in1 s u v) (hR:R (.ok (.ret (.bool r))) s):
 ∀(m i:Nat) (t t':Tok),i+m=items.size->codeAny (model prog w) A (.builtin "list.__eq__.loop" ⟨[.ref l,.ref b,.int (i:Int) t,.int c t'],[]⟩) R s
 | 0,i,t,t',hi=>by
   refine codeAny_builtin PySem.MeetsSeq3.entry_eq_loop ?_;have n1:items[i]?=none:=by simp;(clear hc;lia)
   unfold Builtin.«list.__eq__.loop»
   k_delta "cmpOps"
   rcases hc with⟨rfl,rfl⟩ | ⟨rfl,rfl⟩
   ·dsimp only;rw[show(([CmpOp.Lt,CmpOp.LtE,CmpOp.Eq,CmpOp.NotEq,CmpOp.Gt,CmpOp.GtE]:List CmpOp)[Int.toNat 2]?)=some CmpOp.Eq from rfl];refine wax (wpAny_listItems e1 d1 (wax (wpAny_listItems e2 d2 ?_)));rw[Int.toNat_natCast,n1];refine wax (wpAny_listItems e1 d1 (wax (wpAny_listItems e2 d2 ?_)));refine waz ?_;show R (Except.ok (Flow.ret (Value.bool (items.size==items2.size)))) s;rw[hz,beq_self_eq_true];exact hR
   ·dsimp only;rw[show(([CmpOp.Lt,CmpOp.LtE,CmpOp.Eq,CmpOp.NotEq,CmpOp.Gt,CmpOp.GtE]:List CmpOp)[Int.toNat 3]?)=some CmpOp.NotEq from rfl];refine wax (wpAny_listItems e1 d1 (wax (wpAny_listItems e2 d2 ?_)));rw[Int.toNat_natCast,n1];refine wax (wpAny_listItems e1 d1 (wax (wpAny_listItems e2 d2 ?_)));refine waz ?_;show R (Except.ok (Flow.ret (Value.bool (items.size !=items2.size)))) s;rw[hz,bne_self_eq_false];exact hR
 | m+1,i,t,t',hi=>by
   have ih:=kl hc e1 d1 e2 d2 hz he hR m (i+1) 0 0 (by (clear hc;lia));refine codeAny_builtin PySem.MeetsSeq3.entry_eq_loop ?_;have l1:i<items.size:=by (clear hc;lia)
   have n1:items[i]?=some items[i]:=by simp
   have n2:items2[i]?=some (items2[i]'(by (clear hc l1 n1;lia))):=by simp
   unfold Builtin.«list.__eq__.loop»
   k_delta "cmpOps"
   rcases hc with⟨rfl,rfl⟩ | ⟨rfl,rfl⟩
   ·dsimp only;rw[show(([CmpOp.Lt,CmpOp.LtE,CmpOp.Eq,CmpOp.NotEq,CmpOp.Gt,CmpOp.GtE]:List CmpOp)[Int.toNat 2]?)=some CmpOp.Eq from rfl];refine wax (wpAny_listItems e1 d1 (wax (wpAny_listItems e2 d2 ?_)));rw[Int.toNat_natCast,n1,n2];refine wax (he i _ _ n1 n2 _ _ ?_);refine wpAny_ite_true (by rfl) ?_;exact waz ⟨PySem.plainId_quiet PySem.MeetsSeq3.plain_eq_loop _,ih⟩
   ·dsimp only;rw[show(([CmpOp.Lt,CmpOp.LtE,CmpOp.Eq,CmpOp.NotEq,CmpOp.Gt,CmpOp.GtE]:List CmpOp)[Int.toNat 3]?)=some CmpOp.NotEq from rfl];refine wax (wpAny_listItems e1 d1 (wax (wpAny_listItems e2 d2 ?_)));rw[Int.toNat_natCast,n1,n2];refine wax (he i _ _ n1 n2 _ _ ?_);refine wpAny_ite_true (by rfl) ?_;exact waz ⟨PySem.plainId_quiet PySem.MeetsSeq3.plain_eq_loop _,ih⟩
theorem uv {op:CmpOp} {r:Bool} (hop:(op=.Eq/\r=true)∨(op=.NotEq/\r=false)) {l b:Addr} {items items2:Array Value} (hl:s.heap.IsList l items) (hb:s.heap.IsList b items2) (hz:items.size=items2.size) (hu:A.units<cLine)
 (he:∀(j:Nat) (u v:Value),items[j]?=some u->items2[j]?=some v->iS prog w A.in1 s u v) (E:Value->Shared->Prop) (Q:Value->Shared->Prop) (q:Q (.bool r) s):
 wpAny (model prog w) A (richCompare op (.ref l) (.ref b)) Q E s:=by
 obtain⟨o1,e1,c1,n1,d1⟩:=id hl;obtain⟨o2,e2,c2,n2,d2⟩:=id hb;rcases hop with⟨rfl,rfl⟩ | ⟨rfl,rfl⟩
 ·refine wpAny_richCompare_same_room (T:="list") ⟨o1,e1,c1⟩ ⟨o2,e2,c2⟩ PySem.F.slot_list_eq (call_meetsIn PySem.F.slot_list_eq ⟨o1,e1,c1⟩ PySem.F.entry_list_eq (PySem.F.args_list_eq_2 _ _) (S:=λA' R s'=>A'=A/\s'=s/\R (.ok (.ret (.bool true))) s) ?_ ⟨rfl,rfl,(λz=>nomatch z),q⟩) hu;rintro A' R s' ⟨rfl,rfl,hR⟩;unfold Builtin.«list.__eq__»
  k_delta "listCompare"
  refine wax ?_;unfold slotArgs;refine wpAny_ite_false (by rfl) (wpAny_ite_false (by rfl) (waz ?_));dsimp only;refine wax (wpAny_isInstance (T:="list") (b:=true) ⟨o2,e2,c2⟩ PySem.AutoSeq1.sub_list_list ?_);refine wpAny_ite_false (by rfl) ?_;refine wpAny_ite_true (by rfl) ?_;refine wax (wpAny_listItems e1 d1 (wax (wpAny_listItems e2 d2 ?_)));refine wpAny_ite_false (by rw[hz,bne_self_eq_false];rfl) ?_;exact waz ⟨PySem.plainId_quiet PySem.MeetsSeq3.plain_eq_loop _,kl (.inl ⟨rfl,rfl⟩) e1 d1 e2 d2 hz he hR items.size 0 0 0 (by (clear hz hu;lia))⟩
 ·refine wpAny_richCompare_same_room (T:="list") ⟨o1,e1,c1⟩ ⟨o2,e2,c2⟩ PySem.F.slot_list_ne (call_meetsIn PySem.F.slot_list_ne ⟨o1,e1,c1⟩ PySem.F.entry_list_ne (PySem.F.args_list_ne_2 _ _) (S:=λA' R s'=>A'=A/\s'=s/\R (.ok (.ret (.bool false))) s) ?_ ⟨rfl,rfl,(λz=>nomatch z),q⟩) hu;rintro A' R s' ⟨rfl,rfl,hR⟩;unfold Builtin.«list.__ne__»
  k_delta "listCompare"
  refine wax ?_;unfold slotArgs;refine wpAny_ite_false (by rfl) (wpAny_ite_false (by rfl) (waz ?_));dsimp only;refine wax (wpAny_isInstance (T:="list") (b:=true) ⟨o2,e2,c2⟩ PySem.AutoSeq1.sub_list_list ?_);refine wpAny_ite_false (by rfl) ?_;refine wpAny_ite_true (by rfl) ?_;refine wax (wpAny_listItems e1 d1 (wax (wpAny_listItems e2 d2 ?_)));refine wpAny_ite_false (by rw[hz,bne_self_eq_false];rfl) ?_;exact waz ⟨PySem.plainId_quiet PySem.MeetsSeq3.plain_eq_loop _,kl (.inr ⟨rfl,rfl⟩) e1 d1 e2 d2 hz he hR items.size 0 0 0 (by (clear hz hu;lia))⟩
end
section
variable {X:Cx} {π:List (Addr×Obj)} {σ:St} {H:Hp} {s:Shared}
inductive fT (G:Gp):Nat->W->W->Prop where
 | flat {n:Nat} {x y:W} (f1:x.flat=true) (f2:y.flat=true) (hd:x.dep<=140) (he:x.eq y=true):fT G n x y
 | same {n:Nat} {a:Addr}:fT G n (.ref a) (.ref a)
 | dic {n:Nat} {a b:Addr} {kvs us:List (aC×W)} (ea:GD G a kvs) (eb:GD G b us) (hl:kvs.length=us.length) (hv:∀p,p∈kvs->∃w',bf us p.1=some w'/\iR G p.2 w'):fT G n (.ref a) (.ref b)
 | pair {n:Nat} {x1 x2 y1 y2:W} (h1:fT G n x1 y1) (h2:fT G n x2 y2):fT G (n+1) (.tup [x1,x2]) (.tup [y1,y2])
theorem pz {G:Gp} (I:ay X π σ H s) (g:aD X.K H G) {n:Nat} {w1 w2:W} (h:fT G n w1 w2):∀{A:Around} {v1 v2:V} {u1 u2:Value},A.units+n+160<cLine->bI X.K H w1 v1->bI X.K H w2 v2->aS v1 u1->aS v2 u2->iS X.prog X.w A s u1 u2:=by
 induction h with
 | @flat n x y f1 f2 hd he=>
   intro A v1 v2 u1 u2 hu r1 r2 q1 q2;have:=(fi I 150 A (w1:=x) (w2:=y) (by (clear hu;lia)) f1 f2 (by (clear hd;lia)) r1 r2 q1 q2).1;rw[he] at this;exact .of this
 | same=>
   intro A v1 v2 u1 u2 hu r1 r2 q1 q2;cases r1;cases r2;cases q1;cases q2;exact .of (SeqAt.EqAt.same _)
 | @dic n a b kvs us ea eb hl hv=>
   intro A v1 v2 u1 u2 hu r1 r2 q1 q2;cases r1;cases r2;cases q1;cases q2;obtain⟨_,ua,ra,da⟩:=ea.rd g;obtain⟨_,ub,rb,db⟩:=eb.rd g;obtain⟨_,ma,ka,qa,dda⟩:=dh I.hok ra;obtain⟨_,mb,kb,qb,ddb⟩:=dh I.hok rb;have hlen:ka.length=kb.length:=by rw[←qa.length,←qb.length,da.len,db.len,hl]
   refine iS.refs λhne E Q q=>?_;refine PySem.W.keq_eq ma mb dda ddb (by (clear hl hlen;lia)) (λ_=>kj (A:=A.in1) (by show A.units+1+20<cLine;(clear hl hlen;lia)) I g db qb da qa hv) ?_;rw[hlen,beq_self_eq_true,Bool.true_and];exact q
 | @pair n x1 x2 y1 y2 h1 h2 ih1 ih2=>
   intro A v1 v2 u1 u2 hu r1 r2 q1 q2;cases r1 with
   | @tup a _ xs hT rr=>
     cases r2 with
     | @tup b _ ys hT2 rr2=>
       cases (show u1=Value.ref a from q1);cases (show u2=Value.ref b from q2);obtain⟨its,rv,hp,_⟩:=I.tuple (du.of hT);obtain⟨its2,rv2,hp2,_⟩:=I.tuple (du.of hT2);cases rr with
       | cons a1 rr=>
         cases rr with
         | cons a2 rr=>
           cases rr;cases rr2 with
           | cons b1 rr2=>
             cases rr2 with
             | cons b2 rr2=>
               cases rr2;obtain⟨p1,p2,rfl,c1,c2⟩:=gs rv;obtain⟨t1,t2,rfl,d1,d2⟩:=gs rv2;exact iS.refs λhne E Q q=>uu hp hp2 (by lia) (ih1 (A:=A.in1) (by show A.units+1+n+160<cLine;lia) a1 b1 c1 d1) (ih2 (A:=A.in1) (by show A.units+1+n+160<cLine;lia) a2 b2 c2 d2) E Q q
inductive xB (G:Gp) (a b:Addr):Bool->Prop where
 | old {r:Bool} (h:xA G a b r):xB G a b r
 | nil {ws:List W} (ea:G a=some (.lst ws)) (eb:G b=some (.lst [])):xB G a b ws.isEmpty
 | deep {ws us:List W} (ea:G a=some (.lst ws)) (eb:G b=some (.lst us)) (hl:ws.length=us.length) (he:∀(j:Nat) (x y:W),ws[j]?=some x->us[j]?=some y->fT G 9 x y):xB G a b true
noncomputable def xn:W2:=λx y G q=>match x,y with
 | .ref a,.ref b=>∃r,xB G a b r/\q (.bl r) G
 | x,y=>qj x y G q
noncomputable def xo:W2:=λx y G q=>match x,y with
 | .ref a,.ref b=>∃r,xB G a b r/\q (.bl (!r)) G
 | x,y=>qk x y G q
theorem io (hr:aR k X.A) {op:CmpOp} {r:Bool} (hop:(op=.Eq/\r=true)∨(op=.NotEq/\r=false)) {G:Gp} (I:ay X π σ H s) (g:aD X.K H G) {a b:Addr} {ws us:List W} (ea:G a=some (.lst ws)) (eb:G b=some (.lst us)) (hl:ws.length=us.length)
 (he:∀(j:Nat) (x y:W),ws[j]?=some x->us[j]?=some y->fT G 9 x y) (E:Value->Shared->Prop) (Q:Value->Shared->Prop) (q:Q (.bool r) s):wpAny (model X.prog X.w) X.A (richCompare op (.ref a) (.ref b)) Q E s:=by
 have hu:=hr.un;obtain⟨_,xs,e1,ra⟩:=g _ _ ea;obtain⟨_,ys,e2,rb⟩:=g _ _ eb;obtain⟨its,rv,p,_⟩:=I.list (cR.of e1);obtain⟨its2,rv2,p2,_⟩:=I.list (cR.of e2);have l1:its.length=ws.length:=by rw[←rv.length,ra.length]
 have l2:its2.length=us.length:=by rw[←rv2.length,rb.length]
 refine uv hop p.isList p2.isList (by rw[size_toArray,size_toArray,l1,l2,hl]) (by (clear hl l1 l2;lia)) (λj u v hj hv=>?_) E Q q;rw[List.getElem?_toArray] at hj hv;have j1:j<ws.length:=by
  rw[←l1];exact(List.getElem?_eq_some_iff.mp hj).1
 have gw:=List.getElem?_eq_getElem j1;have gu:=List.getElem?_eq_getElem (show j<us.length by (clear hu hj hv gw;lia));obtain⟨x,hx,rx⟩:=ra.get gw;obtain⟨y,hy,ry⟩:=rb.get gu;obtain⟨u',hu',qu⟩:=rv.get hx;obtain⟨v',hv',qv⟩:=rv2.get hy;rw[hj] at hu';rw[hv] at hv';cases hu';cases hv';exact pz I g (he j _ _ gw gu) (A:=X.A.in1) (by show X.A.units+1+9+160<cLine;lia) rx ry qu qv
theorem rG (hr:aR k X.A) {G:Gp} (I:ay X π σ H s) (g:aD X.K H G) {a b:Addr} {x:W} {ws:List W} (ea:G a=some (.lst (x::ws))) (eb:G b=some (.lst [])) (E:Value->Shared->Prop) (Q:Value->Shared->Prop):
 (Q (.bool false) s->wpAny (model X.prog X.w) X.A (richCompare .Eq (.ref a) (.ref b)) Q E s)/\(Q (.bool true) s->wpAny (model X.prog X.w) X.A (richCompare .NotEq (.ref a) (.ref b)) Q E s):=by
 have hu:=hr.un;obtain⟨_,xs,e1,ra⟩:=g _ _ ea;obtain⟨_,ys,e2,rb⟩:=g _ _ eb;obtain⟨its,rv,p,_⟩:=I.list (cR.of e1);obtain⟨its2,rv2,p2,_⟩:=I.list (cR.of e2);have l1:its.length=(x::ws).length:=by rw[←rv.length,ra.length]
 have l2:its2.length=([]:List W).length:=by rw[←rv2.length,rb.length]
 have ne:(its.toArray.size !=its2.toArray.size)=true:=by rw[size_toArray,size_toArray,l1,l2];simp
 exact⟨λq=>SeqAt.RcAt.lists_lengths p.isList p2.isList (by simpa using ne) (A:=X.A) (by (clear l1 l2;lia)) X.prog X.w E Q q,λq=>SeqAt.RcNeAt.lists_lengths p.isList p2.isList (by simpa using ne) (A:=X.A) (by (clear l1 l2;lia)) X.prog X.w E Q q⟩
theorem dP (hr:aR k X.A):fF X (compareOp .Eq) xn:=by
 rintro π s σ H x y v u Q I rx ry ⟨wx,wy,G,q,r1,r2,g,h,hQ⟩;unfold xn at h;split at h
 ·rename_i a b;obtain⟨r,he,h⟩:=h;have fin:EP X π σ Q (.bool r) s:=⟨.bl _,H,I,rfl,hQ _ H _ G (aH.refl H) (.bl _) g h⟩;cases he with
  | old he=>exact zt hr π s σ H x y v u Q I rx ry ⟨_,_,G,q,r1,r2,g,⟨r,he,h⟩,hQ⟩
  | @nil ws ea eb=>
    cases r1;cases r2;cases rx;cases ry;cases ws with
    | nil=>exact io hr (.inl ⟨rfl,rfl⟩) I g ea eb rfl (λj x y z=>by cases z) X.xe _ fin
    | cons x ws=>exact(rG hr I g ea eb X.xe _).1 fin
  | deep ea eb hl he=>
    cases r1;cases r2;cases rx;cases ry;exact io hr (.inl ⟨rfl,rfl⟩) I g ea eb hl he X.xe _ fin
 ·exact wf hr π s σ H x y v u Q I rx ry ⟨wx,wy,G,q,r1,r2,g,h,hQ⟩
theorem eF (hr:aR k X.A):fF X (compareOp .NotEq) xo:=by
 rintro π s σ H x y v u Q I rx ry ⟨wx,wy,G,q,r1,r2,g,h,hQ⟩;unfold xo at h;split at h
 ·rename_i a b;obtain⟨r,he,h⟩:=h;have fin:EP X π σ Q (.bool (!r)) s:=⟨.bl _,H,I,rfl,hQ _ H _ G (aH.refl H) (.bl _) g h⟩;cases he with
  | old he=>exact zu hr π s σ H x y v u Q I rx ry ⟨_,_,G,q,r1,r2,g,⟨r,he,h⟩,hQ⟩
  | @nil ws ea eb=>
    cases r1;cases r2;cases rx;cases ry;cases ws with
    | nil=>exact io hr (.inr ⟨rfl,rfl⟩) I g ea eb rfl (λj x y z=>by cases z) X.xe _ fin
    | cons x ws=>exact(rG hr I g ea eb X.xe _).2 fin
  | deep ea eb hl he=>
    cases r1;cases r2;cases rx;cases ry;exact io hr (.inr ⟨rfl,rfl⟩) I g ea eb hl he X.xe _ fin
 ·exact wg hr π s σ H x y v u Q I rx ry ⟨wx,wy,G,q,r1,r2,g,h,hQ⟩
end
section
variable {X:Cx} {pos:Pos}
noncomputable abbrev vg:=ck->Gp->(List (Str×W)->Gp->Prop)->Prop
noncomputable def Ci (K:PySem.W.Frag) (t:vg) (σ:St) (H:Hp) (Q:List (V×V)->Hp->Prop):Prop:=
 ∃τ G q,aX K H τ σ/\aD K H G/\t τ G q/\∀(kvs:List (Str×V)) (H1:Hp) (kws:List (Str×W)) (G1:Gp),aH H H1->kvs.map (·.1)=kws.map (·.1)->aJ K H1 (kws.map (·.2)) (kvs.map (·.2))->aD K H1 G1->q kws G1->Q (kvs.map λp=>(.str p.1,p.2)) H1
noncomputable def Aj (X:Cx) (pos:Pos) (keys:List (Option Expr)) (values:List Expr) (t:vg):Prop:=
 ∀(π:List (Addr×Obj)) (s:Shared) (σ:St) (H:Hp) (Q:List (V×V)->Hp->Prop),ay X π σ H s->Ci X.K t σ H Q->
  wpAny (model X.prog X.w) X.A (evalPairs (pairTrees keys values X.env pos)) (λvs s'=>∃ps H',ay X π σ H' s'/\VV ps vs/\Q ps H') X.xe s
noncomputable def BW:vg:=λ_ G q=>q [] G
theorem uw:Aj X pos [] [] BW:=λπ s σ H Q I ⟨τ,G,q,hs,hg,ht,hQ⟩=>pairTrees_nil_walk ⟨[],H,I,.nil,hQ [] H [] G (aH.refl H) rfl .nil hg ht⟩
noncomputable def putAll (a:List (aC×W)) (kws:List (Str×W)):List (aC×W):=kws.foldl (λa p=>bw a (.inr p.1) p.2) a
theorem rH {K:PySem.W.Frag} {H:Hp}:∀{kws:List (Str×W)} {kvs:List (Str×V)} {a:List (aC×W)} {b:List (aC×V)},DP K H a b->kvs.map (·.1)=kws.map (·.1)->aJ K H (kws.map (·.2)) (kvs.map (·.2))->DP K H (putAll a kws) (ff b (kvs.map λp=>(.inr p.1,p.2)))
 | [],[],_,_,d,_,_=>d
 | [],_::_,_,_,_,e,_=>by cases e
 | _::_,[],_,_,_,e,_=>by cases e
 | p::kws,r::kvs,a,b,d,e,rr=>by
   rw[map_cons,map_cons] at e rr;obtain⟨e1,e2⟩:=List.cons.inj e;cases rr with
   | cons r1 r2=>
     have:=rH (d.put (.inr p.1) r1) e2 r2;show DP K H (putAll (bw a (.inr p.1) p.2) kws) (ff (dQ b (.inr r.1) r.2) _);rw[e1];exact this
theorem iT:∀(kws:List (Str×W)) (a:List (aC×W)),(putAll a kws).length<=a.length+kws.length
 | [],a=>le_refl _
 | p::kws,a=>by
   have h1:=iT kws (bw a (.inr p.1) p.2);have h2:=eE a (.inr p.1) p.2;show(putAll (bw a (.inr p.1) p.2) kws).length<=_;rw[length_cons];lia
noncomputable def vh (t:vg):WE:=λτ G q=>∀p,G p=none->t τ (av G p (.dic [])) λkws G2=>G2 p=some (.dic [])/\kws.length<=15/\q (.ref p) (av G2 p (.dic (putAll [] kws)))
theorem uz {keys:List (Option Expr)} {values:List Expr} {t:vg} (h:Aj X pos keys values t) (hall:keys.all (·.isSome)=true:=by rfl) (hl:keys.length=values.length:=by rfl) (h0:keys≠[]:=by exact λz=>nomatch z)
 (h15:keys.length<=15:=by decide):QE X (.Dict keys values pos) (vh t):=by
 rintro π s σ H Q I ⟨τ,G,q,hs,hg,ht,hQ⟩;have hn:=I.hok.fresh (le_refl s.heap.objs.size);have I1:=I.laid (a:=s.heap.objs.size) (o:= .dK []) (h':=s.heap.push { cls:= .type "dict",data:= .dict #[] }) (t':=s.toks) (λ_ _ q=>Heap.get?_push_of_some _ q) (le_refl _) (jp s.heap I.bigD);have t1:aH H (upd H s.heap.objs.size (.dK [])):=aH.new hn _;have g1:aD X.K (upd H s.heap.objs.size (.dK [])) (av G s.heap.objs.size (.dic [])):=hg.lay (g:= .dic []) t1 ⟨zero_le _,[],aU,rfl,.nil⟩;refine wpAny_Dict_walk (knd:=aL X.prog X.w) hall hl h0 h15 (bN (h π _ σ _ (λps H2=>∃(kvs:List (Str×V)) (kws:List (Str×W)) (G2:Gp),ps=kvs.map (λp=>(.str p.1,p.2))/\aH (upd H s.heap.objs.size (.dK [])) H2/\kvs.map (·.1)=kws.map (·.1)/\aJ X.K H2 (kws.map (·.2)) (kvs.map (·.2))/\aD X.K H2 G2/\G2 s.heap.objs.size=some (.dic [])/\kws.length<=15/\q (.ref s.heap.objs.size) (av G2 s.heap.objs.size (.dic (putAll [] kws)))) I1 ⟨τ,_,_,hs.mono t1,g1,ht _ (hg.fresh hn),λkvs H2 kws G2 t2 e2 r2 g2 q2=>⟨kvs,kws,G2,rfl,t2,e2,r2,g2,q2⟩⟩) λws s2 z9=>?_);obtain⟨ps,H2,I2,rel,kvs,kws,G2,ep,t2,e2,r2,g2,gp,lk,q2⟩:=z9;subst ep;have lv:kvs.length=kws.length:=by have:=congrArg List.length e2;rwa [length_map,length_map] at this
 have em:(kvs.map λp=>((.str p.1:V),p.2))=(kvs.map λp=>((.inr p.1:aC),p.2)).map (λkv=>(kV kv.1,kv.2)):=by rw[map_map];rfl
 rw[em] at rel;obtain⟨rs,c,rk⟩:=iA (P:=X.prog) (w:=X.w) rel;obtain⟨_,us,e,n4,_⟩:=g2 _ _ gp;have eu:us=[]:=List.map_eq_nil_iff.mp n4;subst eu;obtain⟨z,hd,vs0,r0,dd⟩:=gQ I2.hok e;cases r0;have t3:=aH.dk e (.dK (ff [] (kvs.map λp=>((.inr p.1:aC),p.2))));have dp:=(rH (K:=X.K) (H:=H2) (a:=[]) (b:=[]) (DP.of rfl .nil) e2 r2).mono t3;refine⟨rs,c,dd,λh' dd' hs'=>⟨.ref s.heap.objs.size,_,?_,rfl,hQ _ _ _ _ ((t1.trans t2).trans t3) (.ref _) (g2.lay (g:= .dic _) t3 ⟨?_,_,aU,dp.keys,dp.vals⟩) q2⟩⟩
 ·have hz:(ff [] (kvs.map λp=>((.inr p.1:aC),p.2))).length<=sizeLine:=by
   have h1:=eW (kvs.map λp=>((.inr p.1:aC),p.2)) [];rw[length_nil,length_map] at h1;rw[sizeLine_eq];(clear hl h15 z;lia)
  have he:∃q,h'.get? s.heap.objs.size=some q:=let ⟨q,_,_,hq,_⟩:=dd';⟨q,hq⟩;exact nB I2 (by rw[e];exact True.intro) hs' he (p9 hz hd (rk.merge .nil) dd')
 ·have:=iT kws [];rw[length_nil] at this
  (clear hl h15 z;lia)
end
section
variable {X:Cx} {tg:Expr}
end
section
variable {P:Program} {w:World} {K:PySem.W.Frag} {mg:Str->Option Value} {base:Heap} {N:List Str} {qual:Str} {scope:Scope} {f:Addr} {cdv:Value} {A:Around} {outer:List Env} {s:Shared} {H:Hp} {E:XK}
noncomputable def uA (C a:Addr) (e:WX):WS:=λ_ _ G=>∃o us kvs,G a=some (.fdc o us kvs)/\e (.ref C) (av G a (.dic kvs))
theorem pA {x msg:Str} {C a:Addr} {e:WX} {np cpos pos p1:Pos} {j} {G0:Gp} {kv0:List (aC×W)} (g0:aD K H G0) (a0:G0 a=some (.dic kv0)) (hm:mg x=some (.ref C)) (hC:XC K C bm) (hE:∀H1 G1,aH H H1->aD K H1 G1->e (.ref C) G1->E (.ref C) none H1)
 (hg:Gl (dw (si P w) P w K mg base N qual scope f cdv A outer s H E) x) (hd:(x==("__debug__":Str))=false:=by decide):
 QS (dw (si P w) P w K mg base N qual scope f cdv A outer s H E) (.Raise (some (.Call (.Name x np) [.Constant (.str msg) j p1] [] cpos)) none pos) (uA C a e):=by
 rintro π s2 σ H2 D I ⟨τ,G,d,hs,hgG,ht,l⟩;obtain⟨N1,n1,q1,b1,d1,s1,u1,a1,c1,f1,k0,g1,g2,g3,g5,m1,gC,gN,gi,gT⟩:=hC.obj _ I.ok.mod.kin;refine wpAny_Raise_call_subT (C:=C) (nm:=n1) (q:=q1) (N:=N1) (bs:=b1) (bm:=bm) (hdct:=d1) (sn:=s1) (sub:=u1) (ab:=a1) (col:=c1) (dd:=f1) (k0:=k0) (k1:=g1) (k2:=g2) (k3:=g3) (k5:=g5) PySem.F.excBase_ValueError (mN:=m1) (gT.hasType rfl) (I.ok.hd rfl) rfl gi
  (cS I hg hm ⟨rfl,?_⟩ hd)
 have ha:=(bu (X:=dw (si P w) P w K mg base N qual scope f cdv A outer s H E) (lO (x:=msg) (j:=j) (pos:=p1)) pa_nil) cpos π s2 σ H2 (λvs H'=>vs.length=1/\H'=H2) I ⟨rfl,rfl⟩;refine Calls.evalArgs_plain (wpAny_mono ha (λus s3 h3=>?_) λ_ _ y=>y);obtain⟨vs,H3,I3,rv,hl,rfl⟩:=h3;obtain⟨o,us',kvs,eG,ht⟩:=ht;obtain⟨e1,t2,gg⟩:=hgG.thaw eG;have h0:∀ob w,H a≠some (.frz ob w):=λob w z=>by
  obtain⟨_,us,e2,_⟩:=g0 a _ a0;rw[e2] at z;cases z
 refine⟨rfl,?_,I3.bk _ _ gC,gN.keeps I3.bk,gT.keeps I3.bk,λh' a mx=>qB (I3.thaw e1 h0) mx (hE _ _ (aH.trans ⟨I3.base.tups,λb o u q=>I3.base.frzs b o _ q⟩ t2) gg ht)⟩;show us.length<=sizeLine;rw[←rv.length,hl];decide
end
theorem zw {x qual:Str} {f:Addr} {N ps:List Str} {sp:cm} (F:dX K x qual st f fd) (S:cf N ps (aw st)) (len:∀ws G q e,sp ws G q e->ws.length=ps.length)
 (hbody:∀(cdv:Value) (A:Around) (outer:List Env) (s:Shared) (H:Hp) (E:XK) (ws:List W) (G:Gp) (q:WK) (e:WX),aR k (A.deeper (envOfC qual (aw st) s.heap.objs.size f cdv))->aD K H G->sp ws G q e->(∀c H1 G1,aH H H1->aD K H1 G1->e c G1->E c none H1)->
   ∃t,kK (dw (si P w) P w K mg base N qual (aw st) f cdv A outer s H E) (aF st) t/\t { nx:=λ_ G1=>∃G0,aZ G0 G1/\q .non G0,rt:=λw G1=>∃G0,aZ G0 G1/\q w G0 } (iE N ws) G):wA P w K mg base (k+1) f fd ps sp:=by
 obtain⟨oc,od,kV,doc,pm,an,cdv,ct,osl,rfl,lk,hcd⟩:=F.ex;refine pU lk hcd S (λvs H Q E ⟨ws,G,q,e,r,g,z,_⟩=>by rw[←r.length];exact len _ _ _ _ z) (λA outer s H vs Q E hr ⟨ws,G,q,e,r,g,z,hQ,hX⟩=>?_);obtain⟨t,ht,hq⟩:=hbody cdv A outer s H E ws G q e hr g z λc H1 G1 t1 g1 z1=>hX c none H1 G1 t1 g1 z1;exact⟨_,ht,_,G,_,aX.start r,g,hq,⟨λσ1 H1 τ1 G1 t1 s1 g1 ⟨G0,l,q1⟩=>hQ .non H1 .non G0 t1 .non (g1.le l) q1,λv H1 w G1 t1 r1 g1 ⟨G0,l,q1⟩=>hQ v H1 w G0 t1 r1 (g1.le l) q1,λ_ _ _ _ _ _ _ z=>z.elim,λ_ _ _ _ _ _ _ z=>z.elim⟩⟩
section
variable {X:Cx} {pos:Pos}
noncomputable def zx (tk tv:WE) (tr:vg):vg:=λτ G q=>tk τ G λkw G1=>∃z,kw=.str z/\tv τ G1 λw G2=>tr τ G2 λkws G3=>q ((z,w)::kws) G3
theorem pB {ke v:Expr} {ks:List (Option Expr)} {vs:List Expr} {tk tv:WE} {tr:vg} (hk:QE X ke tk) (hv:QE X v tv) (hr:Aj X pos ks vs tr):Aj X pos (some ke::ks) (v::vs) (zx tk tv tr):=
 λπ s σ H Q I ⟨τ,G,q,hs,hg,ht,hQ⟩=>
  pairTrees_cons_walk (bN (hk π s σ H (λv H1=>∃z G1,v=.str z/\aH H H1/\aD X.K H1 G1/\tv τ G1 λw G2=>tr τ G2 λkws G3=>q ((z,w)::kws) G3) I ⟨τ,G,_,hs,hg,ht,λv H1 w G1 t1 r1 g1 q1=>by
   obtain⟨z,ez,q1⟩:=q1;subst ez;cases r1;exact⟨z,G1,rfl,t1,g1,q1⟩⟩) λu s1 ⟨x,H1,I1,rx,z,G1,e1,t0,g0,q0⟩=>by
   subst e1;refine bN (hv π s1 σ H1 (λv H2=>∃w G2,aH H1 H2/\bI X.K H2 w v/\aD X.K H2 G2/\tr τ G2 λkws G3=>q ((z,w)::kws) G3) I1 ⟨τ,G1,_,hs.mono t0,g0,q0,λv H2 w G2 t2 r2 g2 q2=>⟨w,G2,t2,r2,g2,q2⟩⟩) λw2 s2 z9=>?_;obtain⟨y,H2,I2,ry,w,G2,t2,r2,g2,q2⟩:=z9;refine bN (hr π s2 σ H2 (λps H3=>Q ((.str z,y)::ps) H3) I2 ⟨τ,G2,_,(hs.mono t0).mono t2,g2,q2,λkvs H3 kws G3 t3 e3 r3 g3 q3=>?_⟩) λws s3 ⟨ps,H3,I3,rel,q3⟩=>⟨_,H3,I3,.cons ⟨rx,ry⟩ rel,q3⟩;exact hQ ((z,y)::kvs) H3 ((z,w)::kws) G3 (t0.trans (t2.trans t3)) (by rw[map_cons,map_cons,e3]) (.cons (r2.mono t3) r3) g3 q3)
end
mutual
inductive rJ (h:Heap):Nat->W->Value->Prop where
 | int {d:Nat} (n:Int) (t:Tok):rJ h d (.int n) (.int n t)
 | tup {d:Nat} {a:Addr} {o:Obj} {items:Array Value} {n:Nat} {ws:List W} (gO:h.get? a=some o) (hc:o.cls=.type "tuple") (dO:o.data=.seq items n) (hs:fU h d ws items.toList):rJ h (d+1) (.tup ws) (.ref a)
inductive fU (h:Heap):Nat->List W->List Value->Prop where
 | nil {d:Nat}:fU h d [] []
 | cons {d:Nat} {w:W} {v:Value} {ws:List W} {vs:List Value} (r:rJ h d w v) (rs:fU h d ws vs):fU h d (w::ws) (v::vs)
end
section
variable {h h':Heap}
mutual
theorem rJ.inj:∀{d d':Nat} {w w':W} {v:Value},rJ h d w v->rJ h d' w' v->w=w'
 | _,_,_,_,_,.int n t,.int _ _=>rfl
 | _,_,_,_,_,.tup gO hc dO hs,.tup gO' hc' dO' hs'=>by
   cases gO.symm.trans gO';rw[dO] at dO';injection dO' with e1 _
   subst e1;rw[fU.inj hs hs']
theorem fU.inj:∀{d d':Nat} {ws ws':List W} {vs:List Value},fU h d ws vs->fU h d' ws' vs->ws=ws'
 | _,_,_,_,_,.nil,.nil=>rfl
 | _,_,_,_,_,.cons r rs,.cons r' rs'=>by rw[rJ.inj r r',fU.inj rs rs']
end
mutual
theorem rJ.keeps (k:∀a o items n,h.get? a=some o->o.data=.seq items n->h'.get? a=some o):∀{d:Nat} {w:W} {v:Value},rJ h d w v->rJ h' d w v
 | _,_,_,.int n t=> .int n t
 | _,_,_,.tup gO hc dO hs=> .tup (k _ _ _ _ gO dO) hc dO (fU.keeps k hs)
theorem fU.keeps (k:∀a o items n,h.get? a=some o->o.data=.seq items n->h'.get? a=some o):∀{d:Nat} {ws:List W} {vs:List Value},fU h d ws vs->fU h' d ws vs
 | _,_,_,.nil=> .nil
 | _,_,_,.cons r rs=> .cons (rJ.keeps k r) (fU.keeps k rs)
end
end
section
variable (P:Program) (w:World)
mutual
noncomputable def zy:W->Int
 | .int n=>(aL P w).hash (.inl n)
 | .tup ws=>reduceHash (Builtin.Tuple.tupleHashOf (rK ws))
 | _=>0
noncomputable def rK:List W->List Int
 | []=>[]
 | x::xs=>zy x::rK xs
end
mutual
noncomputable def Bj:W->Nat
 | .int _=>1
 | .tup ws=>vi ws+1
 | _=>0
noncomputable def vi:List W->Nat
 | []=>0
 | x::xs=>Bj x+vi xs
end
end
section
variable {prog:Program} {w:World}
inductive Sh:W->W->Prop where
 | int (n m:Int):Sh (.int n) (.int m)
 | tup {xs ys:List W} (h:∀p,p∈xs.zip ys->Sh p.1 p.2):Sh (.tup xs) (.tup ys)
end
section
variable {X:Cx} {π:List (Addr×Obj)} {σ:St} {H:Hp} {s:Shared}
end
inductive Bk (K:PySem.W.Frag) (H:Hp):List (O×W)->List (O×Addr×Value)->Prop where
 | nil:Bk K H [] []
 | cons {k:O} {a:Addr} {w:W} {v:V} {u:Value} {kvs:List (O×W)} {xs:List (O×Addr×Value)} (rk:bI K H (.tup (aP k)) (.ref a)) (rv:bI K H w v) (ru:aS v u) (t:Bk K H kvs xs):Bk K H ((k,w)::kvs) ((k,a,u)::xs)
section
variable {X:Cx} {π:List (Addr×Obj)} {σ:St} {H:Hp} {s:Shared}
end
open PySem PySem.Spec PyProof.Rows Nm PySem.W
section
variable {X:Cx} {π:List (Addr×Obj)} {σ:St} {H:Hp} {s:Shared}
end
noncomputable def e9 (h:Heap) (d:Addr) (es:Array DictEntry) (ep:Nat):Prop:=∃o,h.get? d=some o/\o.ExactDict/\o.data=.dict es ep
theorem e9.at {h h':Heap} {d:Addr} {es:Array DictEntry} {ep:Nat} (x:e9 h d es ep) (k:∀o,h.get? d=some o->h'.get? d=some o):e9 h' d es ep:=let ⟨o,e,r⟩:=x;⟨o,k o e,r⟩
theorem e9.ty {d:Addr} {es:Array DictEntry} {ep:Nat} (x:e9 s.heap d es ep):s.TypeIs (.ref d) "dict":=let ⟨o,e,c,_⟩:=x;⟨o,e,c.1⟩
section
variable {prog:Program} {w:World} {A:Around} {E:Value->Shared->Prop} {s:Shared} {it d:Addr} {i ep:Nat} {es:Array DictEntry}
theorem rL (lo:(d==sysModules)=false) (x:e9 s.heap d es ep)
 (q:Q (.ref s.heap.objs.size) { s with heap:=s.heap.push { cls:= .type "dict_keyiterator",data:= .fields #[.ref d,.int 0 0,.int es.size 0,.int ep 0] } }):wpAny (model prog w) A (pyIter (.ref d)) Q E s:=by
 have ty:=x.ty;obtain⟨o,gO,_,dO⟩:=x;refine wpAny_pyIter_slot ty F.slot_dict_iter (wpAny_call_entry F.slot_dict_iter ty F.entry_dict_iter ?tree (F.args_dict_iter_1 _))
 case tree=>
  unfold Builtin.«dict.__iter__» Builtin.Dict.dictSlotNone;refine wax (wax (wpAny_notOrdered_dict ty (waz (a:=Value.ref d) ?_)));show wpAny _ _ (Builtin.Dict.showsAll d >>= _) _ _ s;unfold Builtin.Dict.showsAll;rw[lo,if_neg Bool.false_ne_true];refine wax (waz (wax (wpAny_dictEntries gO dO (wax (wpAny_dictEpoch gO dO ?_)))));refine wax (wpAny_newObj_type (waz ⟨_,rfl,"dict_keyiterator",_,⟨_,Heap.get?_push_size _ rfl,rfl⟩,F.slot_dict_keyiterator_next.lookup,?_⟩));simpa[rawInt] using q
theorem rM {Q:Option Value->Shared->Prop} (ki:s.heap.IsKeyIter it d i es.size ep) (x:e9 s.heap d es ep) (hi:i<es.size)
 (q:∀h',h'.IsKeyIter it d (i+1) es.size ep->Heap.SameBut it s.heap h'->Q (some es[i].key) { s with heap:=h' }):wpAny (model prog w) A (pyNext (.ref it)) Q E s:=by
 have tk:=ki.typeIs;obtain⟨o,gI,cI,dI⟩:=id ki;obtain⟨od,gO,_,dO⟩:=x;unfold pyNext;refine wax (wpAny_attempt (wpAny_callSpecial?_slot (name:=Str.ofString "__next__") tk F.slot_dict_keyiterator_next (wpAny_call_entry F.slot_dict_keyiterator_next tk F.entry_dict_keyiterator_next ?tree (F.args_dict_keyiterator_next_1 _))))
 case tree=>
  refine wax (waz (wax (wax ?_)))
  first | refine wax (wpAny_typeNameOfWhole_keyiter tk (waz (wax (wpAny_fieldsOf gI dI ?_)))) | refine wax (wpAny_typeNameOf_keyiter tk (waz (wax (wpAny_fieldsOf gI dI ?_))))
  simp only[show Builtin.Dict_items.ownsTuple "dict_keyiterator"=false from by decide,Bool.false_eq_true,if_false];show wpAny _ _ (if (Value.ref d==Value.none)=true then _ else _) _ _ s;rw[show(Value.ref d==Value.none)=false from rfl,if_neg Bool.false_ne_true];refine wax (waz (wax (wpAny_dictEntries gO dO ?_)));rw[if_neg (by simp)];refine wax (waz (wax (wpAny_dictEpoch gO dO ?_)));rw[if_neg (by simp)];refine waz ?_;simp only[show ¬((i:Int)<0) from by lia,if_false,Int.toNat_natCast,Array.getElem?_eq_getElem hi];refine wax ?_
  first | refine wax (wpAny_typeNameOfWhole_keyiter tk (waz (wax (wpAny_isOneOf_keyiter tk ?_)))) | refine wax (wpAny_typeNameOf_keyiter tk (waz (wax (wpAny_isOneOf_keyiter tk ?_))))
  show wpAny _ _ (setField (.ref it) 1 (rawInt ((i:Int)+1)) >>= _) _ _ s;refine wax (wpAny_setField gI dI (by simp) ?_);have ki':(s.heap.update it (Obj.mapFields (·.setIfInBounds 1 (rawInt ((i:Int)+1))))).IsKeyIter it d (i+1) es.size ep:=
   ⟨_,Heap.get?_update_self _ gI (Obj.isFreed_of_fields (Obj.data_mapFields dI _)),(Obj.cls_mapFields ..).trans cI,by rw[Obj.data_mapFields dI];simp[rawInt]⟩
  refine wax (wpAny_holding (wax (wpAny_isOneOf_keyiter (s:={ s with heap:=s.heap.update it (Obj.mapFields (·.setIfInBounds 1 (rawInt ((i:Int)+1)))) }) ki'.typeIs ?_)));exact waz (a:=es[i].key) (waz ⟨_,rfl,waz (q _ ki' (Heap.SameBut.update ..))⟩)
theorem uB {Q:Option Value->Shared->Prop} (hh:A.handled=none) (ki:s.heap.IsKeyIter it d i es.size ep) (x:e9 s.heap d es ep) (hi:es.size<=i)
 (q:∀h',Heap.ExtBut it s.heap h'->Q none { s with heap:=h' }):wpAny (model prog w) A (pyNext (.ref it)) Q E s:=by
 have tk:=ki.typeIs;obtain⟨o,gI,cI,dI⟩:=id ki;obtain⟨od,gO,_,dO⟩:=x;unfold pyNext;refine wax (wpAny_attempt (wpAny_callSpecial?_slot (name:=Str.ofString "__next__") tk F.slot_dict_keyiterator_next (wpAny_call_entry F.slot_dict_keyiterator_next tk F.entry_dict_keyiterator_next ?tree (F.args_dict_keyiterator_next_1 _))))
 case tree=>
  refine wax (waz (wax (wax ?_)))
  first | refine wax (wpAny_typeNameOfWhole_keyiter tk (waz (wax (wpAny_fieldsOf gI dI ?_)))) | refine wax (wpAny_typeNameOf_keyiter tk (waz (wax (wpAny_fieldsOf gI dI ?_))))
  simp only[show Builtin.Dict_items.ownsTuple "dict_keyiterator"=false from by decide,Bool.false_eq_true,if_false];show wpAny _ _ (if (Value.ref d==Value.none)=true then _ else _) _ _ s;rw[show(Value.ref d==Value.none)=false from rfl,if_neg Bool.false_ne_true];refine wax (waz (wax (wpAny_dictEntries gO dO ?_)));rw[if_neg (by simp)];refine wax (waz (wax (wpAny_dictEpoch gO dO ?_)));rw[if_neg (by simp)];refine waz ?_;simp only[show ¬((i:Int)<0) from by lia,if_false,Int.toNat_natCast,Array.getElem?_eq_none hi];refine wax ?_
  first | refine wax (wpAny_typeNameOfWhole_keyiter tk (waz ?_)) | refine wax (wpAny_typeNameOf_keyiter tk (waz ?_))
  show wpAny _ _ (setField (.ref it) 0 .none >>= _) _ _ s;refine wax (wpAny_setField gI dI (by simp) ?_);show wpAny _ _ (newExc (.type "StopIteration") [] >>= _) _ _ _;refine wax ?_;simp only[newExc,newTuple];refine wax (wpAny_newObj_type (wax (m:=firstArgMember _ _) (wpAny_of_eq (a:=Value.none) (by first | rfl | (simp only[firstArgMember];rfl)) (wpAny_newObj_type ?_ (by size_fits)))) (by size_fits));simp only[raiseNew];refine wax (wpAny_handled ?_);rw[show A.in1.handled=none from hh];refine wax (waz (wpAny_throw ?_));refine wax (wpAny_isInstance (T:="StopIteration") (b:=true) ⟨_,Heap.get?_push_size _ rfl,rfl⟩ isSubtype_stop ?_);exact waz (q _ (((Heap.SameBut.update ..).extBut.push _).push _))
theorem pC (hh:A.handled=none) (I:Addr) (hne:d≠I):Walks prog w A I [I,d] [I] es.size (λi v=>∃e,es[i]?=some e/\v=e.key) (λi h=>h.IsKeyIter I d i es.size ep/\e9 h d es ep) where
 sub:=λb hb=>by simp at hb;simp[hb]
 frame:=λ_ _ _ st hk=>⟨st.1.at λo e=>hk I (by simp) o e,st.2.at λo e=>hk d (by simp) o e⟩
 item:=λi s Q E hi st hQ=>rM st.1 st.2 hi λh' ki' sb=>hQ _ h' s.toks ⟨_,Array.getElem?_eq_getElem hi,rfl⟩ ⟨ki',st.2.at λo e=>(sb.2 d hne).trans e⟩ λb o hb e=>(sb.2 b (λz=>hb (by simp[z]))).trans e
 done:=λs Q E st hQ=>uB hh st.1 st.2 (le_refl _) λh' eb=>hQ h' s.toks λb o hb e=>eb b o (λz=>hb (by simp[z])) e
 self:=λ_ _ _ _ st hQ=>wpAny_pyIter_keyiter st.1 hQ
theorem uC (lo:(d==sysModules)=false):KdlSrc prog w "dict" d d es.size (λi v=>∃e,es[i]?=some e/\v=e.key) (λh=>e9 h d es ep) where
 type:=λ_ x=>x.ty
 there:=λ_ x=>let ⟨_,e,_⟩:=x;⟨Heap.lt_size e,Heap.lt_size e⟩
 keep:=λ_ _ x hk=>x.at λo e=>hk d (.inl rfl) o e
 notList:=by decide
 notTuple:=by decide
 hint:=λ_ _ _ _ x hq=>kdl_hint_dict x.ty hq
 iter:=λ_ _ hh x=>⟨_,_,(λ_ _ hq=>rL lo x hq),pC hh _ (let ⟨_,e,_⟩:=x;ne_of_lt (Heap.lt_size e)),⟨⟨_,Heap.get?_push_size _ rfl,rfl,rfl⟩,x.at λo e=>Heap.get?_push_of_some _ e⟩⟩
end
end L2
set_option maxHeartbeats 1000000
namespace L2
open PySem PySem.Spec PyProof.Rows Nm PySem.W
inductive NV (K:PySem.W.Frag) (H:Hp):List O->List Value->Prop where
 | nil:NV K H [] []
 | cons {o:O} {a:Addr} {os:List O} {us:List Value} (r:bI K H (.tup (aP o)) (.ref a)) (hd:o.dp<=3) (t:NV K H os us):NV K H (o::os) (.ref a::us)
section
variable {X:Cx} {π:List (Addr×Obj)} {σ:St} {H:Hp} {s:Shared}
end
section
variable {X:Cx} {π:List (Addr×Obj)} {σ:St} {H:Hp} {s:Shared}
theorem lB:bootBuiltins "sorted"=some (.builtin "sorted"):=by decide+kernel
end
section
variable {n:Nat} {σ:Nat->Nat}
structure Gd (n:Nat) (σ:Nat->Nat) (p:Array Nat):Prop where
 sz:p.size=n
 lt:∀k,k<n->p.getD k 0<n
 inj:∀j k,j<n->k<n->σ (p.getD j 0)=σ (p.getD k 0)->j=k
 pm:p.Perm (List.range n).toArray
noncomputable def vv (σ:Nat->Nat) (p:Array Nat) (k:Nat):Nat:=σ (p.getD k 0)
end
section
variable {X:Cx} {π:List (Addr×Obj)} {σ:St} {H:Hp} {s:Shared}
end
section
variable {X:Cx} {π:List (Addr×Obj)} {σ:St} {H:Hp} {s:Shared}
noncomputable def m8 (tv to ti:WE):WS:=λd τ G=>tv τ G λw G1=>to τ G1 λx G2=>ti τ G2 λy G3=>∃a z kvs,x=.ref a/\y=.int z/\G3 a=some (.dic kvs)/\kvs.length+1<=100000/\d.nx τ (av G3 a (.dic (bw kvs (.inl z) w)))
theorem rN {o i value:Expr} {to ti tv:WE} {pos pos':Pos} (hv:QE X value tv) (ho:QE X o to) (hi:QE X i ti) (hs:swapsWith value (some (.Subscript o i pos')) pos.line X.env=pure false:=by rfl):QS X (.Assign [.Subscript o i pos'] value pos) (m8 tv to ti):=lq Sum.inl hv ho hi hs
noncomputable def m9 (to tk td:WE):WE:=λτ G q=>to τ G λx G1=>match x with
 | .ref a=>(∃kvs,G1 a=some (.dic kvs))/\tk τ G1 λy G2=>td τ G2 λd G3=>∃z kvs,y=.int z/\G3 a=some (.dic kvs)/\q ((bf kvs (.inl z)).getD d) G3
 | _=>False
theorem rO {o k e:Expr} {to tk te:WE} {apos cpos:Pos} (ho:QE X o to) (hk:QE X k tk) (he:QE X e te)
 (hbase:attributeBase o "get" X.env (eval o X.env)=eval o X.env:=by rfl)
 (hfew:((backTo cpos (starEach [k,e] X.env)).all (λx=>!x.1)&&(backToKw cpos (keywordEach [] X.env)).all (λx=>x.1.isSome)
   &&decide (([k,e]:List Expr).length+([]:List Keyword).length+(if ([]:List Keyword).isEmpty then 0 else 1)<30))=true:=by rfl)
 (hline:(apos.endLine==cpos.line)=true:=by rfl) (hs:starEach [k,e] X.env=(false,eval k X.env)::starEach [e] X.env:=by rfl) (hs2:starEach [e] X.env=(false,eval e X.env)::starEach [] X.env:=by rfl) (hpl:(backTo cpos (starEach [e] X.env)).any (·.1)=false:=by rfl):
 QE X (.Call (.Attribute o "get" apos) [k,e] [] cpos) (m9 to tk te):=
 lr Sum.inl ho hk he hbase hfew hline hs hs2 hpl
noncomputable def rP:W2:=λx y G q=>match x,y with
 | .ref a,.int z=>∃kvs w,G a=some (.dic kvs)/\bf kvs (.inl z)=some w/\q w G
 | _,_=>False
theorem zA:wa X rP:=by
 rintro value slice π s σ H x y v u Q I rx ry ⟨wx,wy,G,q,r1,r2,g,h,hQ⟩ hsl;unfold rP at h;split at h
 ·rename_i a z;obtain⟨kvs,w,hd,hv,h⟩:=h;cases r1;cases r2;cases rx;obtain⟨_,us,h2,n,rr⟩:=g a _ hd;have dp:=DP.of n rr;obtain⟨hl,hm,vs,rel,dd⟩:=gQ I.hok h2;rcases dp.val (.inl z) with⟨e,_⟩ | ⟨w',v',e,e',r⟩
  ·rw[e] at hv;cases hv
  ·rw[e] at hv;cases hv;obtain⟨u',hw,ru⟩:=fX.some_of (v:=v') (o:=valueAt vs (.inl z)) (by rw[←e'];exact rel.val (.inl z));exact tail_any dd.typeIs PySem.F.slot_dict_getitem.lookup (wpAny_getItem_of (gP (P:=X.prog) (w:=X.w) (k:= .inl z) ry) dd.mapOf hw ⟨v',H,I.tok _,ru,hQ _ H _ G (aH.refl H) r g h⟩) hsl
 ·exact h.elim
noncomputable def eI:aC->Int
 | .inl n=>n
 | .inr _=>0
theorem iU {P:Program} {w:World}:∀{es:List DictEntry} {vs:List (aC×Value)},Pairs (aL P w) es vs->(∀p,p∈vs->∃n,p.1=.inl n)->IntsAre (es.map (·.key)) (vs.map λp=>eI p.1)
 | _,_,.nil,_=> .nil
 | _,_,.cons (e:=e) (kv:=kv) h1 h2 t,hk=>by
   obtain⟨n,hn⟩:=hk kv mem_cons_self;have h1:gK kv.1 e.key=true:=h1;rcases bn h1 with⟨i,tk,e1,e2⟩ | ⟨x,tk,e1,e2⟩
   ·rw[map_cons,map_cons,e2,e1];exact .cons i tk (iU t λp hp=>hk p (mem_cons_of_mem _ hp))
   ·rw[hn] at e1;cases e1
theorem ng (hc:X.calm=true) (I:ay X π σ H s) {d:Addr} {us:List (aC×V)} (hD:H d=some (.dK us)) (hk:∀p,p∈us->∃n,p.1=.inl n) (h5:us.length<=60)
 (h:∀(h1:Heap) (ns:List Int) (out:List Value) (h':Heap) (tk e:Nat),ay X π σ H { s with heap:=h1,toks:=tk }->(∀b o,h1.get? b=some o->h'.get? b=some o)->h'.get? h1.objs.size=some (seqObj "list" out.toArray e)->IntsAre out ns->ns.Pairwise (·≥ ·)->ns.Perm (us.map λp=>eI p.1)->Q (.ref h1.objs.size) { s with heap:=h',toks:=tk }):
 wpAny (model X.prog X.w) X.A (call (.builtin "sorted") [.ref d] [(Str.ofString "reverse",.bool true)]) Q E s:=by
 obtain⟨hz,hsm,vs,rel,ob,es,ep,m1,m2,m3,m4,m5,m6⟩:=gQ I.hok hD;have hkeys:vs.map (·.1)=us.map (·.1):=rel.keys.symm;have hsz:es.size=us.length:=by
  have h1:=m5.length;have h2:=congrArg List.length hkeys;simp only[length_map] at h2;rw[←h2,←h1,Array.length_toList]
 refine call_function_entry_kw kind_sorted plain_sorted entry_sorted (args_sorted_rev _ _) ?_;unfold Builtin.«sorted»;refine wax (m:=checkCount "sorted" 1 1 _) (waz ?_);refine wax (kdu_collect (A:=X.A.in1) (uC (es:=es) (ep:=ep) hsm) (I.ok.hd hc) ⟨ob,m1,m2,m3⟩ (by rw[hsz,sizeLine_eq];assumption) λh1 tk acc k1 hacc=>?_);have hal:acc.toList=es.toList.map (·.key):=by
  apply List.ext_getElem?;intro i;rw[List.getElem?_map]
  by_cases hi:i<es.size
  ·have hi2:i<acc.size:=by rw[hacc.1];exact hi
   obtain⟨e,e1,e2⟩:=hacc.2 i acc[i] (Array.getElem?_eq_getElem hi2);rw[Array.getElem?_toList,Array.getElem?_toList,e1,Array.getElem?_eq_getElem hi2,e2]
   rfl
  ·rw[Array.getElem?_toList,Array.getElem?_toList,Array.getElem?_eq_none (by rw[hacc.1];(clear h5 hz hsz;lia)),Array.getElem?_eq_none (by (clear h5 hz hsz;lia))]
   rfl
 have hkv:∀p,p∈vs->∃n,p.1=.inl n:=λp hp=>by
  have:p.1∈us.map (·.1):=by rw[←hkeys];exact mem_map.mpr ⟨p,hp,rfl⟩
  obtain⟨q,hq,e⟩:=mem_map.mp this;rw[←e];exact hk q hq
 have hints:IntsAre acc.toList (us.map λp=>eI p.1):=by
  have:=iU m5 hkv;rw[←hal] at this;have e:(vs.map λp=>eI p.1)=us.map λp=>eI p.1:=by
   have:(vs.map (·.1)).map eI=(us.map (·.1)).map eI:=by rw[hkeys]
   rw[map_map,map_map] at this;exact this
  rw[e] at this;exact this
 have hlen:acc.toList.length<64:=by rw[hal,length_map,Array.length_toList,hsz];(clear hz;lia)
 refine wax (wpAny_newList ?_ (by rw[sizeLine_eq];(clear h5 hz hsz;lia)));have I1:ay X π σ H { s with heap:=h1,toks:=tk }:=I.kept k1;refine wax (wpAny_holding (wpAny_call_entry_kw slot_list_sort ⟨_,Heap.get?_push_size _ rfl,rfl⟩ entry_list_sort (list_sort_tree_rev (s:={ s with heap:=h1.push (seqObj "list" acc.toList.toArray 0),toks:=tk }) (Heap.get?_push_size _ rfl) hints hlen λout ns a1 a2 a3=>⟨_,rfl,?_⟩) (args_list_sort_rev _ _)));have a3:ns.Pairwise (·≥ ·):=a3;have ho:=Heap.get?_push_size (h:=h1) (o:=seqObj "list" acc.toList.toArray 0) rfl;have s1:=Heap.SameBut.update (h1.push (seqObj "list" acc.toList.toArray 0)) h1.objs.size (Obj.mapSeq λ_=>(#[]:Array Value));obtain⟨e1,ho1⟩:∃e1,((h1.push (seqObj "list" acc.toList.toArray 0)).update h1.objs.size (Obj.mapSeq λ_=>(#[]:Array Value))).get? h1.objs.size=some (seqObj "list" #[] e1):=⟨_,get?_update_seq ho λ_=> #[]⟩;have ho2:=Heap.get?_push_of_some (seqObj "list" #[] 0) (Heap.get?_push_of_some (seqObj "tuple" acc.toList.toArray 0) ho1);have s2:=Heap.SameBut.update ((((h1.push (seqObj "list" acc.toList.toArray 0)).update h1.objs.size (Obj.mapSeq λ_=>(#[]:Array Value))).push (seqObj "tuple" acc.toList.toArray 0)).push (seqObj "list" #[] 0)) h1.objs.size (Obj.mapSeq λ_=>out);obtain⟨e3,ho3⟩:∃e3,(((((h1.push (seqObj "list" acc.toList.toArray 0)).update h1.objs.size (Obj.mapSeq λ_=>(#[]:Array Value))).push (seqObj "tuple" acc.toList.toArray 0)).push (seqObj "list" #[] 0)).update h1.objs.size (Obj.mapSeq λ_=>out)).get? h1.objs.size=some (seqObj "list" out e3):=⟨_,get?_update_seq ho2 λ_=>out⟩;refine waz ⟨_,rfl,h h1 ns out.toList _ tk e3 I1 (λb o e=>?_) ?_ a1 a3 a2⟩
 ·have hb:b≠h1.objs.size:=ne_of_lt (Heap.lt_size e);exact(s2.2 b hb).trans (Heap.get?_push_of_some _ (Heap.get?_push_of_some _ ((s1.2 b hb).trans (Heap.get?_push_of_some _ e))))
 ·rw[Array.toArray_toList];exact ho3
theorem jC {K:PySem.W.Frag}:∀{us:List Value} {ns:List Int},IntsAre us ns->∃vs:List V,aJ K H (ns.map W.int) vs/\aN vs us
 | _,_,.nil=>⟨[],.nil,.nil⟩
 | _,_,.cons n t h=>by
   obtain⟨vs,h1,h2⟩:=jC h;exact⟨.int n::vs,.cons (.int n) h1,.cons ⟨t,rfl⟩ h2⟩
noncomputable def ni (te:WE):WE:=λτ G q=>te τ G λx G1=>match x with
 | .ref a=>∃kvs,G1 a=some (.dic kvs)/\kvs.length<=60/\(∀p,p∈kvs->∃n,p.1=.inl n)/\∀(p:Addr) (ns:List Int),G1 p=none->ns.Pairwise (·≥ ·)->ns.Perm (kvs.map λp=>eI p.1)->q (.ref p) (av G1 p (.lst (ns.map W.int)))
 | _=>False
theorem rQ {te:WE} {j} {p pos kp cp:Pos} (hc:X.calm=true) (hg:Gl X "sorted") (hm:X.mg "sorted"=none) (he:QE X e te)
 (hs1:starEach [e] X.env=(false,eval e X.env)::starEach [] X.env:=by rfl) (hb1:backTo pos (starEach [e] X.env)=(false,eval e X.env)::backTo pos (starEach [] X.env):=by rfl) (hpl:(backTo pos (starEach [e] X.env)).any (·.1)=false:=by rfl):
 QE X (.Call (.Name "sorted" p) [e] [⟨some "reverse",.Constant (.bool true) j cp,kp⟩] pos) (ni te):=by
 rintro π s σ H Q I ⟨τ,G,q,hs,hgG,ht,hQ⟩;refine wpAny_Call_Name_kw (fe I hg hm lB ?_);have go:=(bu he pa_nil hs1) pos π s σ H (λvs H1=>∃v w G1,vs=[v]/\aH H H1/\bI X.K H1 w v/\aD X.K H1 G1/\(match w with
  | .ref a=>∃kvs,G1 a=some (.dic kvs)/\kvs.length<=60/\(∀p,p∈kvs->∃n,p.1=.inl n)/\∀(p:Addr) (ns:List Int),G1 p=none->ns.Pairwise (·≥ ·)->ns.Perm (kvs.map λp=>eI p.1)->q (.ref p) (av G1 p (.lst (ns.map W.int)))
  | _=>False)) I ⟨τ,G,_,hs,hgG,ht,λv H1 w G1 t1 r1 g1 q1=>⟨v,w,G1,rfl,t1,r1,g1,q1⟩⟩
 refine callWith_kw (bN go λus s1 ⟨vs,H1,I1,rv,v,w,G1,ev,t1,rw1,g1,hw⟩=>kws_cons ?_) hb1 hpl rfl rfl;subst ev;refine bN (uK (X:=X) (b:=true) (j:=j) (pos:=cp) π s1 σ H1 (λv H2=>v=.bl true/\H2=H1) I1 ⟨rfl,rfl⟩) λu2 s2 ⟨v2,H2,I2,rv2,e1,e2⟩=>kws_nil ?_;subst e1 e2;cases (show u2=Value.bool true from rv2);show wpAny _ _ (call (.builtin "sorted") us [("reverse",.bool true)]) _ _ s2;split at hw
 ·rename_i a;obtain⟨kvs,e,h5,hk,h⟩:=hw;cases rw1;obtain⟨u,rfl,ru⟩:=dM rv;cases (show u=Value.ref a from ru);obtain⟨_,us,h2,n,rr⟩:=g1 a _ e;have hul:us.length=kvs.length:=by have:=congrArg List.length n;simpa using this
  have hk':∀p,p∈us->∃n,p.1=.inl n:=λp hp=>by
   have:p.1∈kvs.map (·.1):=by rw[←n];exact mem_map.mpr ⟨p,hp,rfl⟩
   obtain⟨q,hq,e⟩:=mem_map.mp this;rw[←e];exact hk q hq
  have ek:(us.map λp=>eI p.1)=kvs.map λp=>eI p.1:=by
   have:(us.map (·.1)).map eI=(kvs.map (·.1)).map eI:=by rw[n]
   rw[map_map,map_map] at this;exact this
  refine ng hc I2 h2 hk' (by lia) λh1 ns out h' tk ee I3 k3 g3 hints ds pm=>?_;obtain⟨vs,r1,r2⟩:=jC (K:=X.K) (H:=H2) hints;have hl:ns.length<=60:=by have:=pm.length_eq;rw[length_map] at this;lia
  have hp:=I3.hok.fresh (le_refl h1.objs.size);have hvl:vs.length<=sizeLine:=by rw[←r1.length,length_map,sizeLine_eq];lia
  refine⟨.ref h1.objs.size,_,I3.laid (t':=tk) k3 (le_refl _) (show bA X.prog X.w _ h' _ (.lst vs) from ⟨hvl,out,ee,r2,g3⟩),rfl,?_⟩;rw[ek] at pm;exact hQ _ _ _ _ (t1.trans (aH.new hp _)) (.ref _) (g1.put (aH.new hp _) r1 (by rw[length_map];lia)) (h _ ns (g1.fresh hp) ds pm)
 ·exact hw.elim
end
open PySem PySem.Spec PyProof.Rows
theorem jf {x qual:Str} {f:Addr} {N ps:List Str} {sp:cm} (F:dX K x qual st f fd) (S:cf N ps (aw st)) (len:∀ws G q e,sp ws G q e->ws.length=ps.length) (hb:∀(cdv:Value) (A:Around) (outer:List Env) (s:Shared) (H:Hp) (E:XK),N.Nodup->aR k (A.deeper (envOfC qual (aw st) s.heap.objs.size f cdv))->∃t,kK (dw p8 P w K mg base N qual (aw st) f cdv A outer s H E).nox (aF st) t/\∀(ws:List W) (G:Gp) (q:WK) (e:WX),sp ws G q e->t { nx:=λ_ G1=>∃G0,aZ G0 G1/\q .non G0,rt:=λw G1=>∃G0,aZ G0 G1/\q w G0 } (iE N ws) G):dU P w K mg base (k+1) f fd ps sp:=BN F S len λ_ _ _ _ _ _ hr=>hb _ _ _ _ _ _ S.nd hr
end L2
open PySem PySem.Spec PyProof.Rows L2 Nm
seal QE QT QW QA QS kK QG yo QI QO yH fF wa dN
seal PySem.compareOp PySem.binaryOp PySem.unaryOp
set_option bootstrap.genMatcherCode true
set_option compiler.extract_closed false
local macro_rules | `(tactic| walk_at "s") => `(tactic| exact ⟨rfl, rfl, rfl, by decide +kernel, rfl, by decide +kernel, by decide +kernel⟩)
local macro_rules | `(tactic| walk_at "l") => `(tactic| (intro ws G q e h; repeat (first | (obtain ⟨h1, _⟩ := h; subst h1; rfl) | obtain ⟨_, h⟩ := h)))
local macro_rules | `(tactic| walk_at "R") => `(tactic| simp (config := { failIfUnchanged := false, maxSteps := 2000000 }) only [ur, xn, xo, tD, dR, xa, ro, vc, vd, ve, rA, rB, mY, zq, rE, mZ, vf, xi, xj, zv, y6, oh, rl, rh, jz, zm, ug, oj, rn, y4, wF, yZ, yY, iE, sP, yw, nC, jq, dc, wC, yJ, yv, uU, wb, qy, qC, u7, qF, yW, u6, qE, cV, jr, yx, cL, qd, sO, yu, yD, yq, BM, yr, uS, uT, yt, uV, u0, nF, wm, yG, u5, u4, yF, qo, jR, eX, jQ, wd, uY, L2.vInt, L2.vInt0, wq, wu, qj, qk, wo, yC, qi, sT, wc, qf, nE, yy, ww, List.map_cons, List.map_nil, List.length_cons, List.length_nil, List.replicate_succ, List.replicate_zero, List.cons_append, List.nil_append, List.append_nil, List.getElem?_cons_zero, List.getElem?_cons_succ, List.set_cons_zero, List.set_cons_succ, Nat.reduceAdd, Nat.reduceSub, Nat.zero_add, Nat.add_zero, Nat.sub_self, Nat.sub_zero, A4, A5, A7, Option.some.injEq, exists_eq_left', qY, tK, mS, qZ, tL, A6, decide_eq_true_eq, Bool.not_eq_true', decide_eq_false_iff_not, true_and, Nat.zero_le, wS, lp, nI, qt, sB, xV, Int.reduceLE, Int.reduceLT, Nat.reducePow, Nat.reduceLT, Nat.reduceLeDiff, Int.reduceToNat, Int.reducePow, Int.reduceNeg, and_true, or_true, true_or, and_self, tN, wT, tO, tP, tQ, tR, tS, tT, tU, tV, tW, tX, tY, tZ, uc, Int.toNat_natCast, if_true, if_false, Bool.false_eq_true, Bool.true_eq_false, Bool.not_true, Bool.not_false, eq_self, not_true_eq_false, not_false_eq_true, wU, wV, wW, wX])
namespace Lw
open PySem PySem.Spec PyProof.Rows L2 Nm
set_option hygiene false
local macro_rules | `(tactic| walk_at "a") => `(tactic| (subst hU; refine aK fun U hU => ?_; walk_at "R"))
local macro_rules | `(tactic| walk_at "a0") => `(tactic| (refine aK fun U hU => ?_; walk_at "R"))
local macro_rules | `(tactic| walk_at "b") => `(tactic| (subst hU1; refine aK fun U1 hU1 => ?_; walk_at "R"))
local macro_rules | `(tactic| walk_at "c") => `(tactic| (subst hU2; refine aK fun U2 hU2 => ?_; walk_at "R"))
local macro_rules | `(tactic| walk_at "c0") => `(tactic| (refine aK fun U2 hU2 => ?_; walk_at "R"))
set_option hygiene true
noncomputable def aQ (i:Nat):Stmt:=PySem.Challenge.pw_hydrahouse_k68_exchanges_fall.main.body.getD i (.Pass ⟨0,0,0,0⟩)
structure Txt (K:PySem.W.Frag) (mg:Str->Option Value):Prop where
 d_is_whole:xz K mg "is_whole" (aQ 16) ["thing","least"] [.int 0]
 d_whole:Df K mg "whole" (aQ 17) ["n"]
 d_raised:xz K mg "raised" (aQ 18) ["exponent","times"] [.int 1]
 d_compare:Df K mg "compare" (aQ 19) ["a","b"]
 d_merged:Df K mg "merged" (aQ 21) ["a","b"]
 d_ranks:Df K mg "ranks" (aQ 23) ["rules"]
 d_ring_met:Df K mg "ring_met" (aQ 24) ["rules","first","ranking"]
 d_rank_above:Df K mg "rank_above" (aQ 25) ["kinds","ranking"]
 d_heap_number:Df K mg "heap_number" (aQ 26) ["ranking","heap"]
 d_exchange:Df K mg "exchange" (aQ 27) ["rules","heap","kind","given"]
 d__law_cell_at:Df K mg "_law_cell_at" (aQ 29) ["_law_script","_law_k"]
 d__law_whole:Df K mg "_law_whole" (aQ 30) ["_law_found"]
 d__law_amount:Df K mg "_law_amount" (aQ 31) ["_law_cell"]
 d__law_rules:Df K mg "_law_rules" (aQ 32) ["_law_script","_law_kinds"]
 d__law_heap:Df K mg "_law_heap" (aQ 33) ["_law_script","_law_kinds"]
 d__law_ranked:Df K mg "_law_ranked" (aQ 34) ["_law_heap_here","_law_ranking"]
 d__law_given:Df K mg "_law_given" (aQ 35) ["_law_cell","_law_kind","_law_rules_here","_law_kinds"]
 d__law_allowed:Df K mg "_law_allowed" (aQ 36) ["_law_rules_here","_law_heap_here","_law_kind","_law_given_here"]
 d__law_behind:Df K mg "_law_behind" (aQ 37) ["_law_heap_here","_law_kind","_law_given_here"]
 d__law_number:Df K mg "_law_number" (aQ 38) ["_law_told","_law_heap_here"]
 d__law_less:Df K mg "_law_less" (aQ 39) ["_law_one","_law_other"]
 d__law_exchanged:Df K mg "_law_exchanged" (aQ 40) ["_law_rules_here","_law_heap_here","_law_kind","_law_given_here"]
 d__law_refused_so:Df K mg "_law_refused_so" (aQ 41) ["_law_rules_here","_law_heap_here","_law_kind","_law_given_here"]
 d__law_round:Df K mg "_law_round" (aQ 42) ["_law_rules_here","_law_ring","_law_many"]
 x_:∃c0 c1 c2 c3 c4 c5 c6 c7 c8 c9 c10 c11 c12 c13:Addr,(mg "HydraError"=some (.ref c0)/\excIn K c0 [.type "ValueError",.type "Exception",.type "BaseException",.type "object"] "ValueError.__new__"=true)/\(mg "NoChore"=some (.ref c1)/\excIn K c1 [.type "ValueError",.type "Exception",.type "BaseException",.type "object"] "ValueError.__new__"=true)/\(mg "NoNumber"=some (.ref c2)/\excIn K c2 [.type "ValueError",.type "Exception",.type "BaseException",.type "object"] "ValueError.__new__"=true)/\(mg "Nought"=some (.ref c3)/\excIn K c3 [.type "ValueError",.type "Exception",.type "BaseException",.type "object"] "ValueError.__new__"=true)/\(mg "TooHigh"=some (.ref c4)/\excIn K c4 [.type "ValueError",.type "Exception",.type "BaseException",.type "object"] "ValueError.__new__"=true)/\(mg "NoLimit"=some (.ref c5)/\excIn K c5 [.type "ValueError",.type "Exception",.type "BaseException",.type "object"] "ValueError.__new__"=true)/\(mg "NoHead"=some (.ref c6)/\excIn K c6 [.type "ValueError",.type "Exception",.type "BaseException",.type "object"] "ValueError.__new__"=true)/\(mg "NoStep"=some (.ref c7)/\excIn K c7 [.type "ValueError",.type "Exception",.type "BaseException",.type "object"] "ValueError.__new__"=true)/\(mg "NoFit"=some (.ref c8)/\excIn K c8 [.type "ValueError",.type "Exception",.type "BaseException",.type "object"] "ValueError.__new__"=true)/\(mg "TooGreat"=some (.ref c9)/\excIn K c9 [.type "ValueError",.type "Exception",.type "BaseException",.type "object"] "ValueError.__new__"=true)/\(mg "NoFall"=some (.ref c10)/\excIn K c10 [.type "ValueError",.type "Exception",.type "BaseException",.type "object"] "ValueError.__new__"=true)/\(mg "NoText"=some (.ref c11)/\excIn K c11 [.type "ValueError",.type "Exception",.type "BaseException",.type "object"] "ValueError.__new__"=true)/\(mg "NoName"=some (.ref c12)/\excIn K c12 [.type "ValueError",.type "Exception",.type "BaseException",.type "object"] "ValueError.__new__"=true)/\(mg "NoRow"=some (.ref c13)/\excIn K c13 [.type "ValueError",.type "Exception",.type "BaseException",.type "object"] "ValueError.__new__"=true)/\mroIn K c1 (.ref c0)=some true/\mroIn K c1 (.ref c2)=some false/\mroIn K c1 (.ref c3)=some false/\mroIn K c1 (.ref c4)=some false/\mroIn K c1 (.ref c5)=some false/\mroIn K c1 (.ref c6)=some false/\mroIn K c1 (.ref c7)=some false/\mroIn K c1 (.ref c8)=some false/\mroIn K c1 (.ref c9)=some false/\mroIn K c1 (.ref c10)=some false/\mroIn K c1 (.ref c11)=some false/\mroIn K c1 (.ref c12)=some false/\mroIn K c1 (.ref c13)=some false/\(XQ K c0/\XD K c0)/\(XQ K c1/\XD K c1)/\(XQ K c2/\XD K c2)/\(XQ K c3/\XD K c3)/\(XQ K c4/\XD K c4)/\(XQ K c5/\XD K c5)/\(XQ K c6/\XD K c6)/\(XQ K c7/\XD K c7)/\(XQ K c8/\XD K c8)/\(XQ K c9/\XD K c9)/\(XQ K c10/\XD K c10)/\(XQ K c11/\XD K c11)/\(XQ K c12/\XD K c12)/\(XQ K c13/\XD K c13)
 z_ValueError:mg "ValueError"=none
 z_bool:mg "bool"=none
 z_dict:mg "dict"=none
 z_int:mg "int"=none
 z_isinstance:mg "isinstance"=none
 z_len:mg "len"=none
 z_list:mg "list"=none
 z_max:mg "max"=none
 z_min:mg "min"=none
 z_range:mg "range"=none
 z_sorted:mg "sorted"=none
 z_tuple:mg "tuple"=none
section
variable {P:Program} {w:World} {K:PySem.W.Frag} {mg:Str->Option Value} {base:Heap} {f:Addr} {fd:FuncData}
set_option maxHeartbeats 0
noncomputable def zB:cm:=λws G q _=>∃a b:O,ws=[.tup (aP a),.tup (aP b)]/\a.dp<=60/\q (.int (O.cmp a b)) G
theorem Bl (F:dX K "compare" "compare" (aQ 19) f fd):dU P w K mg base 1 f fd ["a","b"] zB:=by
 refine jf F (N:=["a","b"]) (by walk_at "s") (by walk_at "l") λ_ _ _ _ _ _ nd hr=>?_;apply bq
 ·exact(ae (bc (aI (dP hr) (aa 0) (aa 1)) (ae (aO ao) ak) ak) (ae (aO (qc (aI (gU hr) (aa 0) (aa 1)) (jU ao) ao)) ak))
 ·rintro ws G q e ⟨a,b,rfl,hx,hq⟩;walk_at "R";have h1:=iP a b;have hd:=og a;rw[qX,h1.2];refine⟨eC a,eC b,by (clear h1;lia),?_⟩;rcases O.cmp_range a b with k | k | k
  ·rw[if_neg (by simp;intro z;rw[z,O.cmp_self] at k;(clear hx h1 hd;lia)),if_pos (by simp;(clear hx h1 hd;lia))];exact⟨cv a,cv b,jx a (by lia),h1.1,aZ.done (by rw[k] at hq;exact hq)⟩
  ·rw[if_pos (by simpa using O.cmp_eq _ _ k)];exact aZ.done (by rw[k] at hq;exact hq)
  ·rw[if_neg (by simp;intro z;rw[z,O.cmp_self] at k;(clear hx h1 hd;lia)),if_neg (by simp;(clear hx h1 hd;lia))];exact⟨cv a,cv b,jx a (by lia),h1.1,aZ.done (by rw[k] at hq;exact hq)⟩
noncomputable def zC:cm:=λws G q _=>∃n k:Int,ws=[.int n,.int k]/\q (.bl (decide (k<=n))) G
theorem scWh:cf ["thing","least"] ["thing","least"] (aw (aQ 16)):=⟨rfl,rfl,rfl,by decide+kernel,rfl,by decide+kernel,by decide+kernel⟩
theorem Bm {T:Addr} {ds:List Value} (F:iG K "is_whole" "is_whole" (aQ 16) f fd T ds) (mi:mg "isinstance"=none) (mn:mg "int"=none) (mb:mg "bool"=none):dU P w K mg base 1 f fd ["thing","least"] zC:=by
 have nd:=scWh.nd;refine yS F scWh (λws G q e h=>by obtain⟨_,_,rfl,_⟩:=h;rfl) (λcdv A outer s H E hr=>?_);apply bq
 ·exact(ae (aO (iD (jS (T:="int") (x:="int") (by first | simp[mh] | assumption | decide+kernel) PyProof.Rows.boot_int mn rfl mi rfl (aa 0)) (iD (lZ (jS (T:="bool") (x:="bool") (by first | simp[mh] | assumption | decide+kernel) PyProof.Rows.boot_bool mb rfl mi rfl (aa 0))) (jP (gf yB (aa 0) (aa 1)))))) ak)
 ·rintro ws G q e ⟨n,k,rfl,hq⟩;walk_at "R";exact aZ.done hq
noncomputable def xq:cm:=λws G q _=>∃(x:O) (n:Int),ws=[.tup (aP x),.int n]/\0<=n/\q (.tup (aP (if n=0 then .z else .c x n .z))) G
theorem scRs:cf ["exponent","times"] ["exponent","times"] (aw (aQ 18)):=⟨rfl,rfl,rfl,by decide+kernel,rfl,by decide+kernel,by decide+kernel⟩
theorem Bn {T:Addr} {ds:List Value} (F:iG K "raised" "raised" (aQ 18) f fd T ds) (F1:AW P w K mg base "is_whole" ["thing","least"] 1 zC [.int 0]):dU P w K mg base 2 f fd ["exponent","times"] xq:=by
 have nd:=scRs.nd;refine yS F scRs (λws G q e h=>by obtain⟨_,_,rfl,_⟩:=h;rfl) (λcdv A outer s H E hr=>?_);apply bq
 ·exact(ae (bc (fh (dB (wz F1 (aR.mono hr (by lia)) rfl (ah (aa 1) aq)))) (ae qz ak) ak) (ae (bc (aI (dP hr) (aa 1) ao) (ae (aO (bM aq)) ak) ak) (ae (aO (bM (ah (bM (ah (aa 0) (ah (aa 1) aq))) aq))) ak)))
 ·rintro ws G q e ⟨x,n,rfl,hn,hq⟩;walk_at "R";refine⟨n,0,rfl,?_⟩;walk_at "R";rw[if_neg (by lia)];split
  ·rename_i h;rw[if_pos h] at hq;exact aZ.done hq
  ·rename_i h;rw[if_neg h,cC] at hq;exact aZ.done hq
noncomputable def zD:cm:=λws G q _=>∃n:Int,ws=[.int n]/\0<=n/\q (.tup (aP (O.wh n))) G
theorem Bo (F:dX K "whole" "whole" (aQ 17) f fd) (F1:Fx P w K mg base "raised" ["exponent","times"] 2 xq):dU P w K mg base 3 f fd ["n"] zD:=by
 refine jf F (N:=["n"]) (by walk_at "s") (by walk_at "l") λ_ _ _ _ _ _ nd hr=>?_;apply bq
 ·exact(ae (aO (ba F1 (aR.mono hr (by lia)) rfl (ah (bM aq) (ah (aa 0) aq)))) ak)
 ·rintro ws G q e ⟨n,rfl,hn,hq⟩;walk_at "R";exact⟨.z,n,rfl,hn,aZ.done hq⟩
noncomputable def bG (R:List (Str×Nat)):List (aC×W):=R.map λp=>(.inr p.1,.int (p.2:Int))
theorem rR {k:aC}:bf [] k=none:=rfl
theorem iV {p:aC×W} {r:List (aC×W)} {k:aC} (e:p.1=k):bf (p::r) k=some p.2:=by simp[bf,List.find?_cons,e]
theorem iW {p:aC×W} {r:List (aC×W)} {k:aC} (e:¬p.1=k):bf (p::r) k=bf r k:=by simp[bf,List.find?_cons,e]
theorem inr_iff {x y:Str}:(Sum.inr x:aC)=.inr y↔x=y:=⟨λh=>Sum.inr.inj h,λh=>by rw[h]⟩
theorem dq (k:Str):∀R:List (Str×Nat),bf (bG R) (.inr k)=(gT R k).map λx=> .int (x:Int)
 | []=>rfl
 | p::R=>by
   show bf ((.inr p.1,.int (p.2:Int))::bG R) (.inr k)=_
   by_cases e:p.1=k
   ·rw[iV (by show(Sum.inr p.1:aC)=_;rw[e]),bB e];rfl
   ·rw[iW (λz=>e (inr_iff.mp z)),bD e];exact dq k R
theorem lC (k:Str):∀R:List (Str×Nat),((bG R).any λkv=>decide (kv.1=.inr k))=R.any λp=>decide (p.1=k)
 | []=>rfl
 | p::R=>by
   show((((.inr p.1,.int (p.2:Int)):aC×W)::bG R).any λkv=>decide (kv.1=.inr k))=_;rw[any_cons,any_cons,lC k R]
   congr 1
   exact decide_eq_decide.mpr inr_iff
theorem lD (R:List (Str×Nat)) (k:Str) (v:Nat):bw (bG R) (.inr k) (.int (v:Int))=bG (pT R k v):=by
 unfold bw pT;rw[lC];split
 ·unfold bG;rw[map_map,map_map];apply List.map_congr_left;intro p _;show(if (Sum.inr p.1:aC)=.inr k then _ else _)=_
  by_cases e:p.1=k
  ·rw[if_pos (inr_iff.mpr e)];show _=((.inr (if p.1=k then (p.1,v) else p).1,.int ((if p.1=k then (p.1,v) else p).2:Int)):aC×W);rw[if_pos e]
  ·rw[if_neg (λz=>e (inr_iff.mp z))];show _=((.inr (if p.1=k then (p.1,v) else p).1,.int ((if p.1=k then (p.1,v) else p).2:Int)):aC×W);rw[if_neg e]
 ·unfold bG;rw[map_append]
  rfl
theorem lE (R:List (Str×Nat)):(bG R).length=R.length:=length_map ..
noncomputable abbrev aY (L:List Str):List W:=L.map W.str
inductive eJ (G:Gp):List (aC×W)->bQ Str->Prop where
 | nil:eJ G [] []
 | cons {k:Str} {b:Addr} {L:List Str} {kvs:List (aC×W)} {T:bQ Str} (h:G b=some (.lst (aY L))) (t:eJ G kvs T):eJ G ((.inr k,.ref b)::kvs) ((k,L)::T)
theorem eJ.mono {G G':Gp} (hm:∀b ws,G b=some (.lst ws)->G' b=some (.lst ws)) {kvs:List (aC×W)} {T:bQ Str} (h:eJ G kvs T):eJ G' kvs T:=by
 induction h with
 | nil=>exact .nil
 | cons h t ih=>exact .cons (hm _ _ h) ih
theorem eJ.val {G:Gp} {kvs:List (aC×W)} {T:bQ Str} (h:eJ G kvs T) (k:Str):(gT T k=none/\bf kvs (.inr k)=none)∨∃L b,gT T k=some L/\bf kvs (.inr k)=some (.ref b)/\G b=some (.lst (aY L)):=by
 induction h with
 | nil=>exact .inl ⟨rfl,rfl⟩
 | @cons k' b L kvs T hb t ih=>
   by_cases e:k'=k
   ·exact .inr ⟨L,b,bB e,iV (by show(Sum.inr k':aC)=_;rw[e]),hb⟩
   ·rw[bD (p:=(k',L)) e,iW (p:=(Sum.inr k',W.ref b)) (λz=>e (inr_iff.mp z))];exact ih
theorem eJ.has {G:Gp} {kvs:List (aC×W)} {T:bQ Str} (h:eJ G kvs T) (k:Str):(bf kvs (.inr k)).isSome=(gT T k).isSome:=by
 rcases h.val k with⟨e1,e2⟩ | ⟨L,b,e1,e2,_⟩
 ·rw[e1,e2];rfl
 ·rw[e1,e2];rfl
theorem eJ.at {G:Gp} {kvs:List (aC×W)} {T:bQ Str} (h:eJ G kvs T) {k:Str} {L:List Str} (e:gT T k=some L):∃b,bf kvs (.inr k)=some (.ref b)/\G b=some (.lst (aY L)):=by
 rcases h.val k with⟨e1,_⟩ | ⟨L',b,e1,e2,e3⟩
 ·rw[e] at e1;cases e1
 ·rw[e] at e1;cases e1;exact⟨b,e2,e3⟩
theorem eJ.keys {G:Gp} {kvs:List (aC×W)} {T:bQ Str} (h:eJ G kvs T):(kvs.map λp=>kW p.1)=aY (T.map (·.1)):=by
 induction h with
 | nil=>rfl
 | @cons k b L kvs T hb t ih=>
   show W.str k::(kvs.map λp=>kW p.1)=W.str k::aY (T.map (·.1));rw[ih]
theorem eJ.len {G:Gp} {kvs:List (aC×W)} {T:bQ Str} (h:eJ G kvs T):kvs.length=T.length:=by
 induction h with
 | nil=>rfl
 | cons hb t ih=>rw[length_cons,length_cons,ih]
theorem dr:∀L:List Str,W.flats (aY L)=true
 | []=>rfl
 | x::L=>by
   have:=dr L;show(W.flat (.str x)&&W.flats (aY L))=true;rw[this];rfl
theorem eK:∀L:List Str,W.deps (aY L)=0
 | []=>rfl
 | x::L=>by
   have:=eK L;show max (W.dep (.str x)) (W.deps (aY L))=0;rw[this];rfl
theorem cQ (x y:Str):(W.str x).eq (.str y)=decide (x=y):=by
 simp only[W.eq];rw[Bool.eq_iff_iff,beq_iff_eq,decide_eq_true_eq]
theorem km (L:List Str) (x:Str):((aY L).any λw=>w.eq (.str x))=decide (x∈L):=by
 rw[Bool.eq_iff_iff,any_eq_true,decide_eq_true_eq];constructor
 ·rintro⟨w,hw,he⟩;obtain⟨y,hy,rfl⟩:=mem_map.mp hw;rw[cQ,decide_eq_true_eq] at he;rw[←he];exact hy
 ·intro h;exact⟨_,mem_map.mpr ⟨x,h,rfl⟩,by rw[cQ];exact decide_eq_true rfl⟩
theorem kn (L:List Str):W.eqs (aY L) []=decide (L=[]):=by
 cases L with
 | nil=>rfl
 | cons x L=>rfl
theorem ip (L:List Str) (x:Str):zn (aY L) (.str x):=⟨rfl,dr L,by rw[eK];lia⟩
theorem lF {C:Gp->Prop} {te:WE} {i:Nat} {τ0:ck} {G:Gp} {q:List W->Gp->Prop} (fn:Str->Int) (hC:C G):∀{L:List Str} {acc:List W} {τ:ck},
 (∀x,x∈L->∀k:W->Gp->Prop,k (.int (fn x)) G->te (τ0.set i (some (.str x))) G k)->acc.length+L.length<=100000->(∀x,τ.set i x=τ0.set i x)->q (acc++L.map λx=> .int (fn x)) G->cX C (cV i) qo te (aY L) τ G acc q
 | [],acc,τ,_,_,_,hq=>⟨hC,by simpa using hq⟩
 | x::L,acc,τ,ht,hl,hτ,hq=>by
   refine⟨hC,?_⟩;show te (τ.set i (some (.str x))) G _;rw[hτ];simp only[length_cons] at hl;refine ht x mem_cons_self _ ⟨by lia,?_⟩;exact lF fn hC (λu hu=>ht u (mem_cons_of_mem _ hu)) (by simp;lia) (λx=>set_set ..) (by simpa using hq)
theorem ou {R:List (Str×Nat)}:∀{L:List Str} {r:Nat},kZ R L=some r->(∀x,x∈L->∃y,gT R x=some y/\y+1<=r)/\(L≠[]->∃x y,x∈L/\gT R x=some y/\y+1=r)/\(L=[]->r=0)
 | [],r,h=>by
   cases h;exact⟨λx hx=>(by cases hx),λh=>absurd rfl h,λ_=>rfl⟩
 | o::L,r,h=>by
   obtain⟨x,y,h1,h2,h3⟩:=iJ h;obtain⟨a1,a2,a3⟩:=ou h2;refine⟨λz hz=>?_,λ_=>?_,λz=>by cases z⟩
   ·rcases mem_cons.mp hz with rfl | hz
    ·exact⟨x,h1,by lia⟩
    ·obtain⟨u,h4,h5⟩:=a1 z hz;exact⟨u,h4,by lia⟩
   ·by_cases hxy:y<=x+1
    ·exact⟨o,x,mem_cons_self,h1,by lia⟩
    ·have hL:L≠[]:=λz=>by
      have:=a3 z
      (clear h3;lia)
     obtain⟨u,v,h4,h5,h6⟩:=a2 hL;exact⟨u,v,mem_cons_of_mem _ h4,h5,by lia⟩
noncomputable def nj (R:List (Str×Nat)) (x:Str):Int:=(((gT R x).getD 0:Nat):Int)+1
theorem uD {R:List (Str×Nat)} {L:List Str} {r:Nat} {q:Int->Prop} (h:kZ R L=some r) (hq:q r):(L.map (nj R)=[]->q 0)/\∀m:Int,m∈L.map (nj R)->(∀x,x∈L.map (nj R)->x<=m)->q m:=by
 obtain⟨a1,a2,a3⟩:=ou h;refine⟨λe=>?_,λm hm hx=>?_⟩
 ·have:r=0:=a3 (by cases L with | nil=>rfl | cons x L=>cases e);subst this;exact hq
 ·have hL:L≠[]:=λz=>by subst z;cases hm
  obtain⟨u,v,h4,h5,h6⟩:=a2 hL;have g1:=hx (nj R u) (mem_map.mpr ⟨u,h4,rfl⟩);obtain⟨x,hx1,rfl⟩:=mem_map.mp hm;obtain⟨y,h7,h8⟩:=a1 x hx1;have e1:nj R u=v+1:=by unfold nj;rw[h5];rfl
  have e2:nj R x=y+1:=by unfold nj;rw[h7];rfl
  have:nj R x=(r:Int):=by lia
  rw[this];exact hq
noncomputable def zE:cm:=λws G q _=>∃(b c:Addr) (L:List Str) (R:List (Str×Nat)) (r:Nat),ws=[.ref b,.ref c]/\G b=some (.lst (aY L))/\GD G c (bG R)/\kZ R L=some r/\L.length<=1000/\q (.int (r:Int)) G
theorem Bp (F:dX K "rank_above" "rank_above" (aQ 25) f fd) (mm:mg "max"=none):dU P w K mg base 1 f fd ["kinds","ranking"] zE:=by
 refine jf F (N:=["kinds","ranking"]) (by walk_at "s") (by walk_at "l") λ_ _ _ _ _ _ nd hr=>?_;apply bq
 ·exact(ae (aO (tm rfl rfl mm (jT (mw (by first | rfl | decide+kernel)) rfl (eT (aa 0)) (λ_ _ _ _=>(fK 1 (by first | assumption | decide+kernel | rfl) rfl (.inl rfl))) (λ_ _ _ _=>sY) (λ_ _ _ _=>(aT bR (aE aG (aa 2 rfl (.inr (.inl rfl))) (aa 1)) ao))))) ak)
 ·rintro ws G q e ⟨b,c,L,R,r,rfl,hb,hc,hm,hl,hq⟩;walk_at "R";refine⟨_,hb,?_⟩;refine lF (τ0:=[none,none,some (W.ref c)]) (nj R) hb (λx hx k hk=>?_) (by simp;lia) (λx=>rfl) ?_
  ·obtain⟨y,hy,_⟩:=j7 hm hx;show dR (.ref c) (.str x) G λu G1=>oh u (.int 1) G1 k;refine⟨_,.int (y:Int),hc,by rw[dq,hy];rfl,?_⟩;have e1:nj R x=(y:Int)+1:=by unfold nj;rw[hy];rfl
   rw[e1] at hk;exact hk
  ·intro p hp;have fin:∃G0,aZ G0 (av G p (GO.lst ([]++L.map λx=>W.int (nj R x))))/\q (.int (r:Int)) G0:=⟨G,aZ.new hp,hq⟩;have:=uD (q:=λm=>∃G0,aZ G0 (av G p (GO.lst ([]++L.map λx=>W.int (nj R x))))/\q (.int m) G0) hm fin;exact⟨L.map (nj R),by rw[af,nil_append,map_map];rfl,this.1,this.2⟩
noncomputable def Kp (c:Addr) (G G':Gp):Prop:=∀x g,x≠c->G x=some g->G' x=some g
structure ko (G:Gp) (pw pl:Addr) (ps:List Addr) (w:List Str) (ls:List (List Str)):Prop where
 wy:G pw=some (.lst (aY w.reverse))
 lf:G pl=some (.lst (ps.reverse.map W.ref))
 len:ps.length=ls.length
 wl:w.length=ls.length
 nd:(pw::pl::ps).Nodup
 at_:∀(i:Nat) (p:Addr) (t:List Str),ps[i]?=some p->ls[i]?=some t->G p=some (.lst (aY t.reverse))
theorem ko.new {G:Gp} {pw pl p:Addr} {ps:List Addr} {w:List Str} {ls:List (List Str)} {g:GO} (h:ko G pw pl ps w ls) (hp:G p=none):ko (av G p g) pw pl ps w ls:=
 ⟨au h.wy hp,au h.lf hp,h.len,h.wl,h.nd,λi x t e1 e2=>au (h.at_ i x t e1 e2) hp⟩
theorem ko.cc {G:Gp} {pw pl c:Addr} {ps:List Addr} {w:List Str} {ls:List (List Str)} {g:GO} (h:ko G pw pl ps w ls) (hc:∀p,p∈pw::pl::ps->p≠c):ko (av G c g) pw pl ps w ls:=
 ⟨by rw[am (hc _ (by simp))];exact h.wy,by rw[am (hc _ (by simp))];exact h.lf,h.len,h.wl,h.nd,λi x t e1 e2=>by
   rw[am (hc _ (by have:=List.mem_of_getElem? e1;simp[this]))];exact h.at_ i x t e1 e2⟩
theorem jD:∀{T:bQ Str},(∀e,e∈T->e.2.length<=50)->(T.flatMap (·.2)).length<=50*T.length
 | [],_=>le_refl _
 | e::T,h=>by
   have h1:=jD (T:=T) λx hx=>h x (mem_cons_of_mem _ hx);have h2:=h e mem_cons_self;rw[List.flatMap_cons,length_append,length_cons];lia
theorem rS {T:bQ Str} {R:List (Str×Nat)} (hl:T.length<=50) (he:∀e,e∈T->e.2.length<=50) (hn:(R.map (·.1)).Nodup) (hk:∀k,k∈R.map (·.1)->mK T k):R.length<=2600:=by
 have h1:=gZ (m:=T.map (·.1)++T.flatMap (·.2)) hn λx hx=>by
  rcases hk x hx with h | ⟨e,h1,h2⟩
  ·exact mem_append_left _ h
  ·exact mem_append_right _ (List.mem_flatMap.mpr ⟨e,h1,h2⟩)
 rw[length_append,length_map,length_map] at h1;have h2:=jD he;lia
structure zF (T:bQ Str) (G0:Gp) (a c:Addr) (first:Str) (R0:List (Str×Nat)) (m:Nat) (τ:ck) (G:Gp):Prop where
 ex:∃(pw pl:Addr) (ps:List Addr) (w:List Str) (ls:List (List Str)) (R:List (Str×Nat)) (t5:Option W),τ=[some (.ref a),some (.str first),some (.ref c),some (.ref pw),some (.ref pl),t5]/\ko G pw pl ps w ls/\G c=some (.dic (bG R))/\Kp c G0 G/\(∀p,p∈pw::pl::ps->G0 p=none)/\Cl T R/\(∀j x,gT R0 j=some x->gT R j=some x)/\(R.map (·.1)).Nodup/\(∀k,k∈R.map (·.1)->mK T k)/\fy T R none w ls/\w.Nodup/\m=je T R w ls/\(first∈w∨∃x,gT R first=some x)
theorem Kp.refl {c:Addr} {G:Gp}:Kp c G G:=λ_ _ _ h=>h
theorem Kp.put {c p:Addr} {G G':Gp} {g:GO} (h:Kp c G G') (hp:G p=none):Kp c G (av G' p g):=λx u hx e=>by
 rw[am (λz=>by rw[z,hp] at e;cases e)];exact h x u hx e
theorem Kp.cc {c:Addr} {G G':Gp} {g:GO} (h:Kp c G G'):Kp c G (av G' c g):=λx u hx e=>by
 rw[am hx];exact h x u hx e
theorem Kp.none {c p:Addr} {G G':Gp} {u':GO} (h:Kp c G G') (hc:G' c=some u') (hp:G' p=none):G p=none:=by
 cases e:G p with
 | none=>rfl
 | some g=>
   by_cases z:p=c
   ·rw[z,hc] at hp;cases hp
   ·have:=h p g z e;rw[hp] at this;cases this
theorem Kp.gd {c a:Addr} {G G':Gp} {kvs:List (aC×W)} (h:Kp c G G') (hac:a≠c) (hd:GD G a kvs):GD G' a kvs:=by
 rcases hd with e | ⟨o,us,e⟩
 ·exact .inl (h _ _ hac e)
 ·exact .inr ⟨o,us,h _ _ hac e⟩
theorem Kp.tb {c:Addr} {G G':Gp} {kvs:List (aC×W)} {T:bQ Str} {d:List (aC×W)} (h:Kp c G G') (hc:G c=some (.dic d)) (t:eJ G kvs T):eJ G' kvs T:=
 t.mono λb ws e=>h _ _ (λz=>by rw[z,hc] at e;cases e) e
theorem Kp.gle {c p:Addr} {G G':Gp} {g u:GO} (h:Kp c G G') (hc:G' c=some g) (hp:G' p=some u):aZ (av (av G c g) p u) G':=λx v e=>by
 by_cases z:x=p
 ·subst z;rw[af] at e;cases e;exact hp
 ·rw[am z] at e
  by_cases y:x=c
  ·subst y;rw[af] at e;cases e;exact hc
  ·rw[am y] at e;exact h _ _ y e
noncomputable def kq (T:bQ Str) (l:List Str):Prop:=l.Nodup/\∃c ys,l=c::ys/\Ch T c ys c
structure xD (T:bQ Str) (R:List (Str×Nat)):Prop where
 cl:Cl T R
 nd:(R.map (·.1)).Nodup
 ks:∀k,k∈R.map (·.1)->mK T k
 non:∀k L o,gT T k=some L->o∈L->gT T o=none->∃x,gT R o=some x
noncomputable def zG:cm:=λws G q _=>∃(a c:Addr) (kvs:List (aC×W)) (T:bQ Str) (first:Str) (R:List (Str×Nat)),ws=[.ref a,.str first,.ref c]/\a≠c/\GD G a kvs/\eJ G kvs T/\G c=some (.dic (bG R))/\xD T R/\first∈T.map (·.1)/\T.length<=50/\(∀e,e∈T->e.2.length<=50)/\
 (∀p R',G p=none->xD T R'->(∀j x,gT R j=some x->gT R' j=some x)->(∃x,gT R' first=some x)->q (.ref p) (av (av G c (.dic (bG R'))) p (.lst [])))/\
 (∀p R' l,G p=none->kq T l->q (.ref p) (av (av G c (.dic (bG R'))) p (.lst (aY l))))
theorem Bq (F:dX K "ring_met" "ring_met" (aQ 24) f fd) (F1:Fx P w K mg base "rank_above" ["kinds","ranking"] 1 zE) (ml:mg "list"=none):dU P w K mg base 2 f fd ["rules","first","ranking"] zG:=by
 refine jf (k:=1) F (N:=["rules","first","ranking","way","left","kind"]) (by walk_at "s") (by walk_at "l") λ_ _ _ _ _ _ nd hr=>?_;apply bq
 ·exact(ae (aA 3 nd rfl (.inl rfl) (cg (ah (aa 1) aq))) (ae (aA 4 nd rfl (.inl rfl) (cg (ah (bv (im rfl) rfl ml jV (ah (aE aG (aa 0) (aa 1)) aq)) aq))) (ae (kM PySem.PassesOwn.never (aI (eF hr) (aa 3) (cg aq) (dv _)) (ae (bc (aI (dP hr) (aE aG (aa 4) (jU ao)) (cg aq) (dv _)) (ae (cU (mI (aa 4))) (ae (aA 5 nd rfl (.inl rfl) (mI (aa 3))) (ae (bV (ba F1 (aR.mono hr (by lia)) rfl (ah (aE aG (aa 0) (aa 5)) (ah (aa 2) aq))) (aa 2) (aa 5)) ak))) (ae (aA 5 nd rfl (.inl rfl) (mI (aE aG (aa 4) (jU ao)))) (ae (bc (aI (rp hr) (aa 5) (aa 2) rfl) (ae kT ak) ak) (ae (bc (aI (rp hr) (aa 5) (aa 3) rfl) (ae (aO (dj (aa 3) (eO (xl hr (aa 3) (aa 5))) ic)) ak) ak) (ae (cU (fm (aa 3) (aa 5))) (ae (cU (fm (aa 4) (bv (im rfl) rfl ml jV (ah (aE aG (aa 0) (aa 5)) aq)))) ak)))))) ak)) (ae (aO (cg aq)) ak))))
 ·rintro ws G q e ⟨a,c,kvs,T,first,R0,rfl,hac,hd,ht,hc,hS,hf,hTl,hTe,hq1,hq2⟩;obtain⟨L0,hL0⟩:=cY hf;obtain⟨b0,hb0,gb0⟩:=ht.at hL0;walk_at "a0";intro pw hpw;walk_at "a";have k1:Kp c G (av G pw (GO.lst [W.str first])):=Kp.refl.put hpw;have cw:c≠pw:=λz=>by rw[z,hpw] at hc;cases hc
  refine⟨_,_,k1.gd hac hd,hb0,?_⟩;show ∃ws,rF _ b0 ws/\_;refine⟨_,.lst (au gb0 hpw),λp0 hp0 pl hpl=>?_⟩;have e1:(av (av (av G pw (GO.lst [W.str first])) p0 (GO.lst (aY L0))) pl (GO.lst [W.ref p0])) c=some (.dic (bG R0)):=au (au (au hc hpw) hp0) hpl;have c0:c≠p0:=λz=>by rw[←z,am cw,hc] at hp0;cases hp0
  have cl:c≠pl:=λz=>by rw[←z,am c0,am cw,hc] at hpl;cases hpl
  have n1:p0≠pw:=λz=>by rw[z,af] at hp0;cases hp0
  have n2:pl≠p0:=λz=>by rw[z,af] at hpl;cases hpl
  have n3:pl≠pw:=λz=>by rw[z,am (Ne.symm n1),af] at hpl;cases hpl
  have f0:G p0=none:=by rw[am n1] at hp0;exact hp0
  have fl:G pl=none:=by rw[am n2,am n3] at hpl;exact hpl
  have g1:=af (G:=av (av G pw (GO.lst [W.str first])) p0 (GO.lst (aY L0))) (a:=pl) (g:=GO.lst [W.ref p0]);have g2:=au (g:=GO.lst [W.ref p0]) (af (G:=av G pw (GO.lst [W.str first])) (a:=p0) (g:=GO.lst (aY L0))) hpl;have g3:=au (g:=GO.lst [W.ref p0]) (au (g:=GO.lst (aY L0)) (af (G:=G) (a:=pw) (g:=GO.lst [W.str first])) hp0) hpl;have k2:Kp c G (av (av (av G pw (GO.lst [W.str first])) p0 (GO.lst (aY L0))) pl (GO.lst [W.ref p0])):=(k1.put f0).put fl;clear k1;generalize av (av (av G pw (GO.lst [W.str first])) p0 (GO.lst (aY L0))) pl (GO.lst [W.ref p0])=G1 at e1 g1 g2 g3 k2 ⊢;subst hU;refine aK λU hU=>?_;refine rc (zF T G a c first R0) ⟨_,⟨pw,pl,[p0],[first],[L0.reverse],R0,none,rfl,⟨g3,g1,rfl,rfl,by simp[n1,n2,n3,Ne.symm n1,Ne.symm n2,Ne.symm n3],λi p t h1 h2=>?_⟩,e1,k2,λp hp=>?_,hS.cl,λ_ _ h=>h,hS.nd,hS.ks,?_,by simp,rfl,.inl (by simp)⟩⟩ ?_
  ·cases i with
   | zero=>cases h1;cases h2;rw[List.reverse_reverse];exact g2
   | succ i=>cases h1
  ·rcases mem_cons.mp hp with rfl | hp
   ·exact hpw
   ·rcases mem_cons.mp hp with rfl | hp
    ·exact fl
    ·cases mem_singleton.mp hp;exact f0
  ·exact⟨L0,hL0,λo ho=> .inl (mem_reverse.mpr ho),λo ho=>mem_reverse.mp ho,(λo z=>by cases z),trivial⟩
  rintro m τ G' ⟨pw,pl,ps,w',ls,R,t5,rfl,hk,hc',k3,hfr,hcl,hmo,hnd,hks,hst,hwn,hm,hfi⟩ B hB;clear hpw e1 cw c0 cl n1 n2 n3 f0 fl g1 g2 g3 k2 hp0 hpl gb0 hb0;walk_at "R";intro p hp;have fp:G p=none:=k3.none hc' hp;refine⟨_,.old (.lst (au hk.wy hp) af (dr _) rfl (by rw[eK];(clear hTl hm;lia))),?_⟩;rw[kn];have hk2:=hk.new (g:= .lst []) hp;have hc2:=au (g:= .lst []) hc' hp;have k4:=k3.put (g:= .lst []) fp;clear hk hc' k3 fp;generalize av G' p (.lst [])=G2 at hk2 hc2 k4 ⊢;clear hp p;have hnon:∀k L o,gT T k=some L->o∈L->gT T o=none->∃x,gT R o=some x:=λk L o h1 h2 h3=>by
   obtain⟨x,hx⟩:=hS.non k L o h1 h2 h3;exact⟨x,hmo _ _ hx⟩
  cases w' with
  | nil=>
    rw[if_neg (by simp)];subst hU;walk_at "R";intro p hp;refine⟨_,(k4.put (k4.none hc2 hp)).gle (au hc2 hp) af,hq1 p R (k4.none hc2 hp) ⟨hcl,hnd,hks,hnon⟩ hmo ?_⟩;rcases hfi with h | h
    ·cases h
    ·exact h
  | cons k w'=>
    obtain⟨l,ls',rfl⟩:∃l ls',ls=l::ls':=by
     cases ls with
     | nil=>exact(nomatch hk2.wl)
     | cons l ls'=>exact⟨l,ls',rfl⟩
    obtain⟨p1,ps',rfl⟩:∃p ps',ps=p::ps':=by
     cases ps with
     | nil=>exact(nomatch hk2.len)
     | cons p ps'=>exact⟨p,ps',rfl⟩
    rw[if_pos (by simp)];refine⟨λτ1 G1=>∃m1,m1<m/\zF T G a c first R0 m1 τ1 G1,λ_ _ h=>h,?_⟩;subst hB;refine Cg λT1 T2 hT1 hT2=>?_;walk_at "R";have top1:fC ((p1::ps').reverse.map W.ref) (-1)=some (.ref p1):=by
     rw[List.reverse_cons,map_append];exact kG _ _
    refine⟨_,.ref p1,hk2.lf,top1,λp hp=>?_⟩;refine⟨_,.old (.lst (au (hk2.at_ 0 p1 l rfl rfl) hp) af (dr _) rfl (by rw[eK];(clear hTl hm;lia))),?_⟩;rw[kn];have fp:G p=none:=k4.none hc2 hp;have hk3:=hk2.new (g:= .lst []) hp;have hc3:=au (g:= .lst []) hc2 hp;have k5:=k4.put (g:= .lst []) fp;clear hk2 hc2 k4 fp;generalize av G2 p (.lst [])=G3 at hk3 hc3 k5 ⊢;clear hp p;have nd1:=nodup_cons.mp hk3.nd;have nd2:=nodup_cons.mp nd1.2;have nd3:=nodup_cons.mp nd2.2;have ge:∀{p:Addr},p∈pw::pl::p1::ps'->p≠c:=λhp z=>by
     have:=hfr _ hp;rw[z,hc] at this;cases this
    cases l with
    | nil=>
      rw[if_pos (by simp)];obtain⟨L,v,hL,hv,hcl2,hmo2,hst2⟩:=hst.pop hcl;subst hT1;walk_at "c0";refine⟨ps'.reverse.map W.ref,.ref p1,by rw[hk3.lf];simp,?_⟩;have npl:pw≠pl:=λz=>nd1.1 (by rw[z];simp);walk_at "c";refine⟨aY w'.reverse,.str k,by rw[am npl,hk3.wy];simp[aY],?_⟩;have k6:Kp c G (av (av G3 pl (GO.lst (ps'.reverse.map W.ref))) pw (GO.lst (aY w'.reverse))):=(k5.put (hfr _ (by simp))).put (hfr _ (by simp));have hk4:ko (av (av G3 pl (GO.lst (ps'.reverse.map W.ref))) pw (GO.lst (aY w'.reverse))) pw pl ps' w' ls':=by
       refine⟨af,by rw[am (Ne.symm npl),af],by have:=hk3.len;simpa using this,by have:=hk3.wl;simpa using this,?_,λi x t h1 h2=>?_⟩
       ·refine nodup_cons.mpr ⟨λz=>nd1.1 ?_,nodup_cons.mpr ⟨λz=>nd2.1 (mem_cons_of_mem _ z),nd3.2⟩⟩;rcases mem_cons.mp z with rfl | z
        ·simp
        ·simp[z]
       ·have hx:=List.mem_of_getElem? h1;rw[am (λz=>nd1.1 (by rw[←z];simp[hx])),am (λz=>nd2.1 (by rw[←z];simp[hx]))];exact hk3.at_ (i+1) x t h1 h2
      have hc4:av (av G3 pl (GO.lst (ps'.reverse.map W.ref))) pw (GO.lst (aY w'.reverse)) c=some (.dic (bG R)):=by
       rw[am (Ne.symm (ge (by simp))),am (Ne.symm (ge (by simp)))];exact hc3
      generalize av (av G3 pl (GO.lst (ps'.reverse.map W.ref))) pw (GO.lst (aY w'.reverse))=G4 at k6 hk4 hc4 ⊢;subst hU2;walk_at "R";obtain⟨b,hb,gb⟩:=(k6.tb hc ht).at hL;have hLl:=hTe _ (cB hL);have hRl:=rS hTl hTe hnd hks;refine⟨_,_,k6.gd hac hd,hb,b,c,L,R,v,rfl,gb,.inl hc4,hv,by simp only at hLl;lia,?_⟩;refine⟨c,k,_,rfl,rfl,hc4,by rw[lE];lia,?_⟩;rw[lD];refine⟨_,?_,⟨pw,pl,ps',w',ls',pT R k v,_,rfl,hk4.cc λp hp=>ge ?_,af,k6.cc,λp hp=>hfr p ?_,hcl2,λj x h=>hmo2 _ _ (hmo _ _ h),eZ hnd,λj hj=>?_,hst2,(nodup_cons.mp hwn).2,rfl,?_⟩⟩
      ·rw[hm];exact qM hmo2
      ·simp only[mem_cons] at hp ⊢;rcases hp with h | h | h
       ·exact .inl h
       ·exact .inr (.inl h)
       ·exact .inr (.inr (.inr h))
      ·simp only[mem_cons] at hp ⊢;rcases hp with h | h | h
       ·exact .inl h
       ·exact .inr (.inl h)
       ·exact .inr (.inr (.inr h))
      ·rcases pT_key.mp hj with rfl | hj
       ·exact .inl (cr hL)
       ·exact hks j hj
      ·rcases hfi with h | ⟨x,h⟩
       ·rcases mem_cons.mp h with rfl | h
        ·exact .inr ⟨v,by rw[cu,if_pos rfl]⟩
        ·exact .inl h
       ·exact .inr ⟨x,hmo2 _ _ h⟩
    | cons o l=>
      rw[if_neg (by simp)];subst hT2;walk_at "c0";refine⟨_,.ref p1,hk3.lf,top1,aY l.reverse,.str o,by rw[hk3.at_ 0 p1 (o::l) rfl rfl];simp[aY],?_⟩;have np:p1≠pw:=λz=>nd1.1 (by rw[←z];simp);have np2:p1≠pl:=λz=>nd2.1 (by rw[←z];simp);have k6:Kp c G (av G3 p1 (GO.lst (aY l.reverse))):=k5.put (hfr _ (by simp));have hk4:ko (av G3 p1 (GO.lst (aY l.reverse))) pw pl (p1::ps') (k::w') (l::ls'):=by
       refine⟨by rw[am (Ne.symm np)];exact hk3.wy,by rw[am (Ne.symm np2)];exact hk3.lf,hk3.len,hk3.wl,hk3.nd,λi x t h1 h2=>?_⟩;cases i with
       | zero=>cases h1;cases h2;rw[af]
       | succ i=>
         have hx:x∈ps':=List.mem_of_getElem? (i:=i) h1;rw[am (λz=>nd3.1 (by rw[←z];exact hx))];exact hk3.at_ (i+1) x t h1 h2
      have hc4:av G3 p1 (GO.lst (aY l.reverse)) c=some (.dic (bG R)):=by
       rw[am (Ne.symm (ge (by simp)))];exact hc3
      generalize av G3 p1 (GO.lst (aY l.reverse))=G4 at k6 hk4 hc4 ⊢;walk_at "c";refine⟨_,.dic (.inl hc4),?_⟩;rw[dq,Option.isSome_map];cases hx:gT R o with
      | some x=>
        rw[if_pos (by rfl)];exact⟨_,hm▸pd,⟨pw,pl,p1::ps',k::w',l::ls',R,_,rfl,hk4,hc4,k6,hfr,hcl,hmo,hnd,hks,hst.skip hx,hwn,rfl,hfi⟩⟩
      | none=>
        rw[if_neg (by simp)];walk_at "c";refine⟨_,.lst hk4.wy (ip _ _),?_⟩;rw[km]
        by_cases hw:o∈k::w'
        ·rw[if_pos (decide_eq_true (mem_reverse.mpr hw))];obtain⟨a',b',hab⟩:=List.append_of_mem hw;have hrev:(k::w').reverse=b'.reverse++o::a'.reverse:=by rw[hab];simp
         have hwn2:=hwn;rw[hab] at hwn2;have hnb:¬o∈b':=(nodup_cons.mp (nodup_append.mp hwn2).2.1).1;have fst:Bh (aY (k::w').reverse) (.str o) b'.length:=by
          rw[hrev];refine⟨⟨.str o,by simp[aY],by rw[cQ];exact decide_eq_true rfl⟩,λj x hj e=>?_⟩;unfold aY at e;rw[List.getElem?_map,List.getElem?_append_left (by simpa using hj)] at e;obtain⟨y,hy,rfl⟩:=Option.map_eq_some_iff.mp e;rw[cQ];refine decide_eq_false λz=>hnb ?_;rw[←z];exact mem_reverse.mp (List.mem_of_getElem? hy)
         refine⟨⟨_,hk4.wy⟩,_,b'.length,hk4.wy,ip _ _,fst,_,hk4.wy,λp hp=>?_⟩;have ecut:dZ (aY (k::w').reverse) (some ((b'.length:Nat):Int)) none=aY (o::a'.reverse):=by
          rw[iO,hrev];unfold aY;rw[map_append,List.drop_left' (by simp)]
         rw[ecut];refine⟨_,(k6.put (k6.none hc4 hp)).gle (au hc4 hp) af,hq2 p R _ (k6.none hc4 hp) ⟨?_,o,a'.reverse,rfl,?_⟩⟩
         ·have e1:o::a'.reverse=(a'++[o]).reverse:=by simp
          rw[e1];refine wM (List.Nodup.sublist ?_ hwn2);exact List.Sublist.append_left (by simp) a'
         ·rw[hab] at hst;exact hst.ring
        ·rw[if_neg (by rw[decide_eq_true_eq,mem_reverse];exact hw)];subst hU2;obtain⟨L,hL,hoL⟩:=hst.edge;obtain⟨L',hL'⟩:∃L',gT T o=some L':=by
          cases hh:gT T o with
          | some L'=>exact⟨L',rfl⟩
          | none=>
            obtain⟨x,hx'⟩:=hnon k L o hL hoL hh;rw[hx] at hx';cases hx'
         obtain⟨b,hb,gb⟩:=ht.at hL';have hwl:(k::w').length<=50:=by
          have:=gZ hwn (m:=T.map (·.1)) hst.keys;rw[length_map] at this;(clear hm;lia)
         have hpl:(p1::ps').length<=50:=by
          rw[hk4.len,←hk4.wl];exact hwl
         have k7:Kp c G (av G4 pw (GO.lst (aY (k::w').reverse++[W.str o]))):=k6.put (hfr _ (by simp));have npl:pl≠pw:=λz=>nd1.1 (by rw[←z];simp);walk_at "R";refine⟨⟨_,hk4.wy⟩,_,hk4.wy,by simp only[aY,length_map,List.length_reverse];lia,⟨_,by rw[am npl];exact hk4.lf⟩,_,_,k7.gd hac hd,hb,?_⟩;show ∃ws,rF _ b ws/\_;refine⟨_,.lst (k7 _ _ (λz=>by rw[z,hc] at gb;cases gb) gb),λp hp=>?_⟩;have n1:p≠pw:=λz=>by rw[z,af] at hp;cases hp
         have hp4:G4 p=none:=by rw[am n1] at hp;exact hp
         have n2:p≠pl:=λz=>by rw[z,hk4.lf] at hp4;cases hp4
         have f2:G p=none:=k6.none hc4 hp4;refine⟨_,by rw[am (Ne.symm n2),am npl];exact hk4.lf,by simp only[length_map,List.length_reverse];lia,?_⟩;refine⟨_,?_,⟨pw,pl,p::p1::ps',o::k::w',L'.reverse::l::ls',R,_,rfl,⟨?_,?_,by have:=hk4.len;simp only[length_cons] at this ⊢;(clear hTl hm hwl hpl;lia),by have:=hk4.wl;simp only[length_cons] at this ⊢;(clear hTl hm hwl hpl;lia),?_,λi x t h1 h2=>?_⟩,?_,(k7.put f2).put (hfr _ (by simp)),λx hx'=>?_,hcl,hmo,hnd,hks,hst.push hL' λx=>mem_reverse,nodup_cons.mpr ⟨hw,hwn⟩,rfl,?_⟩⟩
         ·rw[hm];exact pe hx hw hL' (List.length_reverse ..)
         ·rw[am (Ne.symm npl),am (Ne.symm n1),af];simp[aY]
         ·rw[af];simp
         ·refine nodup_cons.mpr ⟨λz=>?_,nodup_cons.mpr ⟨λz=>?_,nodup_cons.mpr ⟨λz=>?_,nd2.2⟩⟩⟩
          ·rcases mem_cons.mp z with z | z
           ·exact npl z.symm
           ·rcases mem_cons.mp z with z | z
            ·exact n1 z.symm
            ·exact nd1.1 (mem_cons_of_mem _ z)
          ·rcases mem_cons.mp z with z | z
           ·exact n2 z.symm
           ·exact nd2.1 z
          ·obtain⟨i,hi⟩:=List.getElem?_of_mem z;have hi2:i<(l::ls').length:=by rw[←hk4.len];exact(List.getElem?_eq_some_iff.mp hi).1
           have:=hk4.at_ _ _ _ hi (List.getElem?_eq_getElem hi2);rw[hp4] at this;cases this
         ·cases i with
          | zero=>cases h1;cases h2;rw[am n2,af,List.reverse_reverse]
          | succ i=>
            have h1':(p1::ps')[i]?=some x:=h1;have h2':(l::ls')[i]?=some t:=h2;have gx:=hk4.at_ _ _ _ h1' h2';have hx':=List.mem_of_getElem? h1';rw[am (λz=>nd2.1 (by rw[←z];exact hx')),am (λz=>by rw[z,hp4] at gx;cases gx),am (λz=>nd1.1 (by rw[←z];exact mem_cons_of_mem _ hx'))];exact gx
         ·rw[am (Ne.symm (ge (by simp))),am (λz=>by rw[←z,hc4] at hp4;cases hp4),am (Ne.symm (ge (by simp)))];exact hc4
         ·rcases mem_cons.mp hx' with rfl | hx'
          ·exact hfr _ (by simp)
          ·rcases mem_cons.mp hx' with rfl | hx'
           ·exact hfr _ (by simp)
           ·rcases mem_cons.mp hx' with rfl | hx'
            ·exact f2
            ·exact hfr _ (mem_cons_of_mem _ (mem_cons_of_mem _ hx'))
         ·rcases hfi with h | h
          ·exact .inl (mem_cons_of_mem _ h)
          ·exact .inr h
structure pJ (T:bQ Str) (R:List (Str×Nat)) (D:List Str):Prop where
 nd:(R.map (·.1)).Nodup
 z:∀k x,gT R k=some x->x=0/\gT T k=none/\mK T k
 all:∀o,o∈D->gT T o=none->∃x,gT R o=some x
theorem pJ.put {T:bQ Str} {R:List (Str×Nat)} {D:List Str} {o:Str} (h:pJ T R D) (hn:gT T o=none) (hk:mK T o):pJ T (pT R o 0) (D++[o]):=by
 refine⟨eZ h.nd,λk x hx=>?_,λk hk hn=>?_⟩
 ·rw[cu] at hx
  by_cases e:k=o
  ·subst e;rw[if_pos rfl] at hx;cases hx;exact⟨rfl,hn,hk⟩
  ·rw[if_neg e] at hx;exact h.z k x hx
 ·rw[cu]
  by_cases e:k=o
  ·rw[if_pos e];exact⟨0,rfl⟩
  ·rw[if_neg e];rcases mem_append.mp hk with hk | hk
   ·exact h.all k hk hn
   ·exact absurd (mem_singleton.mp hk) e
theorem pJ.skip {T:bQ Str} {R:List (Str×Nat)} {D:List Str} {o:Str} {L:List Str} (h:pJ T R D) (hn:gT T o=some L):pJ T R (D++[o]):=by
 refine⟨h.nd,h.z,λk hk hn'=>?_⟩;rcases mem_append.mp hk with hk | hk
 ·exact h.all k hk hn'
 ·cases mem_singleton.mp hk;rw[hn] at hn';cases hn'
theorem pJ.len {T:bQ Str} {R:List (Str×Nat)} {D:List Str} (h:pJ T R D) (hl:T.length<=50) (he:∀e,e∈T->e.2.length<=50):R.length<=2600:=
 rS hl he h.nd λk hk=>by
  obtain⟨x,hx⟩:=cY hk;exact(h.z k x hx).2.2
theorem pJ.sq {T:bQ Str} {R:List (Str×Nat)} (h:pJ T R (T.flatMap (·.2))):xD T R:=by
 refine⟨λk r hr=>?_,h.nd,λk hk=>?_,λk L o h1 h2 h3=>h.all o (List.mem_flatMap.mpr ⟨_,cB h1,h2⟩) h3⟩
 ·obtain⟨h1,h2,_⟩:=h.z k r hr;subst h1;unfold j6;rw[h2]
  rfl
 ·obtain⟨x,hx⟩:=cY hk;exact(h.z k x hx).2.2
theorem xD.fin {T:bQ Str} {R:List (Str×Nat)} (h:xD T R) (hT:(T.map (·.1)).Nodup) (ha:∀k,k∈T.map (·.1)->∃x,gT R k=some x):eA T R:=by
 refine⟨h.nd,h.cl,λk=>⟨h.ks k,λhk=>?_⟩⟩;rcases hk with hk | ⟨e,he,hk⟩
 ·obtain⟨x,hx⟩:=ha k hk;exact cr hx
 ·obtain⟨x,hx⟩:=ha e.1 (mem_map.mpr ⟨e,he,rfl⟩);have h1:=h.cl _ _ hx;unfold j6 at h1;rw[nQ (v:=e.2) hT he] at h1;obtain⟨y,hy,_⟩:=j7 h1 hk;exact cr hy
noncomputable def zH:cm:=λws G q _=>∃(a:Addr) (kvs:List (aC×W)) (T:bQ Str),ws=[.ref a]/\G a=some (.dic kvs)/\eJ G kvs T/\(T.map (·.1)).Nodup/\T.length<=50/\(∀e,e∈T->e.2.length<=50)/\
 (∀p R,G p=none->eA T R->q (.tup [.str "ranks",.ref p]) (av G p (.dic (bG R))))/\
 (∀p l,G p=none->kq T l->q (.tup [.str "ring",.ref p]) (av G p (.lst (aY l))))
theorem Br (F:dX K "ranks" "ranks" (aQ 23) f fd) (F1:Fx P w K mg base "ring_met" ["rules","first","ranking"] 2 zG):dU P w K mg base 3 f fd ["rules"] zH:=by
 refine jf (k:=2) F (N:=["rules","ranking","kinds","kind","ring"]) (by walk_at "s") (by walk_at "l") λ_ _ _ _ _ _ nd hr=>?_;apply bq
 ·exact(ae (aA 1 nd rfl (.inl rfl) cZ) (ae (cG (bO PySem.PassesOwn.never rfl (ol 0 rfl (.inl rfl)) (bd 2 nd rfl (.inl rfl)) (ae (bO PySem.PassesOwn.never rfl (eT (aa 2)) (bd 3 nd rfl (.inl rfl)) (ae (bc (aI (cP hr) (aa 3) (aa 0) rfl) (ae (bV ao (aa 1) (aa 3)) ak) ak) ak)) ak))) (ae (cG (bO PySem.PassesOwn.never rfl (um 0 rfl (.inl rfl)) (bd 3 nd rfl (.inl rfl)) (ae (aA 4 nd rfl (.inl rfl) (ba F1 (aR.mono hr (by lia)) rfl (ah (aa 0) (ah (aa 3) (ah (aa 1) aq))))) (ae (bc (aI (eF hr) (aa 4) (cg aq) (dv _)) (ae (aO (bM (ah bW (ah (aa 4) aq)))) ak) ak) ak)))) (ae (aO (bM (ah bW (ah (aa 1) aq)))) ak))))
 ·rintro ws G q e ⟨a,kvs,T,rfl,ha,ht,hTn,hTl,hTe,hq1,hq2⟩;walk_at "a0";intro c hc;have ac:a≠c:=λz=>by rw[z,hc] at ha;cases ha
  walk_at "a";refine⟨a,kvs,au ha hc,kvs,au ha hc,λo us=>?_⟩;have kab:∀{b:Addr} {ws:List W},G b=some (.lst ws)->b≠a:=λhb z=>by rw[z,ha] at hb;cases hb
  refine bh (λws τ G'=>∃kvs2 T1 T2 R t2 t3,ws=kvs2.map (·.2)/\T=T1++T2/\eJ G kvs2 T2/\τ=[some (.ref a),some (.ref c),t2,t3,none]/\G' a=some (.fdc o us kvs)/\G' c=some (.dic (bG R))/\Kp a G G'/\pJ T R (T1.flatMap (·.2))) ?_ ?_ _ _ _
   ⟨kvs,[],T,[],none,none,rfl,rfl,ht,rfl,af,by rw[am (Ne.symm ac),af];rfl,(Kp.refl.put hc).cc,⟨by simp,(λk x h=>by cases h),(λo h=>by cases h)⟩⟩
  ·rintro τ G' ⟨kvs2,T1,T2,R,t2,t3,hw,hT,ht2,rfl,ga,gc,kp,rk⟩;cases ht2 with
   | cons _ _=>cases hw
   | nil=>
   rw[append_nil] at hT;subst hT;refine⟨ga,o,us,kvs,ga,?_⟩;have rs:=rk.sq;have ga2:av G' a (GO.dic kvs) a=some (.dic kvs):=af;have gc2:av G' a (GO.dic kvs) c=some (.dic (bG R)):=by rw[am (Ne.symm ac)];exact gc
   have kp2:Kp a G (av G' a (GO.dic kvs)):=kp.cc;generalize av G' a (GO.dic kvs)=G2 at ga2 gc2 kp2 ⊢;clear ga gc kp rk;subst hU;dsimp only;walk_at "a0";refine⟨a,kvs,ga2,kvs,ga2,λo us=>?_⟩;rw[ht.keys];refine bh (λws τ G'=>∃K1 K2 R t2 t3 t4,ws=aY K2/\T.map (·.1)=K1++K2/\τ=[some (.ref a),some (.ref c),t2,t3,t4]/\G' a=some (.fdc o us kvs)/\G' c=some (.dic (bG R))/\Kp a G G'/\xD T R/\∀k,k∈K1->∃x,gT R k=some x) ?_ ?_ _ _ _
    ⟨[],T.map (·.1),R,t2,t3,none,rfl,rfl,rfl,af,by rw[am (Ne.symm ac)];exact gc2,kp2.cc,rs,(λk h=>by cases h)⟩
   ·rintro τ G' ⟨K1,K2,R,t2,t3,t4,hw,hT,rfl,ga,gc,kp,rs,hall⟩;cases K2 with
    | cons _ _=>cases hw
    | nil=>
    rw[append_nil] at hT;refine⟨ga,o,us,kvs,ga,?_⟩;subst hU;walk_at "R";refine⟨_,λx g e=>?_,hq1 c R hc (rs.fin hTn λk hk=>hall k (by rw[←hT];exact hk))⟩
    by_cases z:x=c
    ·rw[z,af] at e;cases e;rw[z,am (Ne.symm ac)];exact gc
    ·rw[am z] at e
     by_cases y:x=a
     ·rw[y] at e ⊢;rw[ha] at e;cases e;exact af
     ·rw[am y];exact kp _ _ y e
   ·rintro w1 ws τ G' kk ⟨K1,K2,R,t2,t3,t4,hw,hT,rfl,ga,gc,kp,rs,hall⟩ hk;cases K2 with
    | nil=>cases hw
    | cons k K2=>
    cases hw;refine⟨ga,?_⟩;walk_at "c0";refine⟨a,c,kvs,T,k,R,rfl,ac,.inr ⟨o,us,ga⟩,ht.mono λb ws e=>kp b _ (kab e) e,gc,rs,by rw[hT];simp,hTl,hTe,λp R' hp rs' hmo hf=>?_,λp R' l hp hl=>?_⟩
    ·subst hU2;have pa:p≠a:=λz=>by rw[z,ga] at hp;cases hp
     have pc:p≠c:=λz=>by rw[z,gc] at hp;cases hp
     have f1:G p=none:=by
      cases e:G p with
      | none=>rfl
      | some g=>have:=kp p g pa e;rw[hp] at this;cases this
     have ga3:av (av G' c (GO.dic (bG R'))) p (GO.lst []) a=some (.fdc o us kvs):=by rw[am (Ne.symm pa),am ac];exact ga
     have gc3:av (av G' c (GO.dic (bG R'))) p (GO.lst []) c=some (.dic (bG R')):=by rw[am (Ne.symm pc),af]
     have gp3:av (av G' c (GO.dic (bG R'))) p (GO.lst []) p=some (.lst []):=af;have kp3:Kp a G (av (av G' c (GO.dic (bG R'))) p (GO.lst [])):=(kp.put hc).put f1;generalize av (av G' c (GO.dic (bG R'))) p (GO.lst [])=G3 at ga3 gc3 gp3 kp3 ⊢;walk_at "R";intro p2 hp2;refine⟨_,.old (.lst (au gp3 hp2) af rfl rfl (zero_le _)),?_⟩;rw[if_neg (by decide)];have f2:G p2=none:=by
      cases e:G p2 with
      | none=>rfl
      | some g=>
        have:=kp3 p2 g (λz=>by rw[z,ga3] at hp2;cases hp2) e;rw[hp2] at this;cases this
     refine hk _ _ ⟨K1++[k],K2,R',_,_,_,rfl,by rw[hT];simp,rfl,au ga3 hp2,au gc3 hp2,kp3.put f2,rs',λj hj=>?_⟩;rcases mem_append.mp hj with hj | hj
     ·obtain⟨x,hx⟩:=hall j hj;exact⟨x,hmo _ _ hx⟩
     ·cases mem_singleton.mp hj;exact hf
    ·subst hU2;have pa:p≠a:=λz=>by rw[z,ga] at hp;cases hp
     have f1:G p=none:=by
      cases e:G p with
      | none=>rfl
      | some g=>have:=kp p g pa e;rw[hp] at this;cases this
     have ga3:av (av G' c (GO.dic (bG R'))) p (GO.lst (aY l)) a=some (.fdc o us kvs):=by rw[am (Ne.symm pa),am ac];exact ga
     have gp3:av (av G' c (GO.dic (bG R'))) p (GO.lst (aY l)) p=some (.lst (aY l)):=af;have kp3:Kp a G (av (av G' c (GO.dic (bG R'))) p (GO.lst (aY l))):=(kp.put hc).put f1;generalize av (av G' c (GO.dic (bG R'))) p (GO.lst (aY l))=G3 at ga3 gp3 kp3 ⊢;walk_at "R";intro p2 hp2;refine⟨_,.old (.lst (au gp3 hp2) af (dr l) rfl (by rw[eK];(clear hTl;lia))),?_⟩;have hne:l≠[]:=by
      obtain⟨_,x,ys,e,_⟩:=hl;rw[e];simp
     rw[kn,if_pos (decide_eq_false hne)];refine⟨o,us,kvs,au ga3 hp2,_,λx g e=>?_,hq2 p l f1 hl⟩
     by_cases z:x=p
     ·rw[z,af] at e;cases e;rw[z,am pa];exact au gp3 hp2
     ·rw[am z] at e
      by_cases y:x=a
      ·rw[y] at e ⊢;rw[ha] at e;cases e;exact af
      ·rw[am y];exact au (kp3 _ _ y e) hp2
  ·rintro w1 ws τ G' kk ⟨kvs2,T1,T2,R,t2,t3,hw,hT,ht2,rfl,ga,gc,kp,rk⟩ hk;cases ht2 with
   | nil=>cases hw
   | @cons k b L kvs3 T3 hb ht3=>
   cases hw;refine⟨ga,?_⟩;walk_at "c0";refine⟨_,kp _ _ (kab hb) hb,?_⟩;refine bh (λws τ G''=>∃L1 L2 R t3,ws=aY L2/\L=L1++L2/\τ=[some (.ref a),some (.ref c),some (.ref b),t3,none]/\G'' a=some (.fdc o us kvs)/\G'' c=some (.dic (bG R))/\Kp a G G''/\pJ T R (T1.flatMap (·.2)++L1)) ?_ ?_ _ _ _
    ⟨[],L,R,t3,rfl,rfl,rfl,ga,gc,kp,by rw[append_nil];exact rk⟩
   ·rintro τ G'' ⟨L1,L2,R,t3,hw,hL,rfl,ga,gc,kp,rk⟩;cases L2 with
    | cons _ _=>cases hw
    | nil=>
    rw[append_nil] at hL;subst hL;refine⟨kp _ _ (kab hb) hb,?_⟩;subst hU2;walk_at "R";refine hk _ _ ⟨kvs3,T1++[(k,L)],T3,R,_,_,rfl,by rw[hT];simp,ht3,rfl,ga,gc,kp,?_⟩;rw[List.flatMap_append];simpa using rk
   ·rintro w1 ws τ G'' kk2 ⟨L1,L2,R,t3,hw,hL,rfl,ga,gc,kp,rk⟩ hk2;cases L2 with
    | nil=>cases hw
    | cons x L2=>
    cases hw;refine⟨kp _ _ (kab hb) hb,?_⟩;have hkx:mK T x:= .inr ⟨(k,L),by rw[hT];simp,by rw[hL];simp⟩;walk_at "R";refine⟨_,.dic (.inr ⟨o,us,ga⟩),?_⟩;rw[ht.has];have hRl:=rk.len hTl hTe;cases hx:gT T x with
    | some L'=>
      rw[if_neg (by simp)];exact hk2 _ _ ⟨L1++[x],L2,R,_,rfl,by rw[hL];simp,rfl,ga,gc,kp,by rw[←append_assoc];exact rk.skip hx⟩
    | none=>
      rw[if_pos (by rfl)];refine⟨c,x,_,rfl,rfl,gc,by rw[lE];lia,?_⟩;refine hk2 _ _ ⟨L1++[x],L2,pT R x 0,_,rfl,by rw[hL];simp,rfl,by rw[am ac];exact ga,by rw[af];exact congrArg (λd=>some (GO.dic d)) (lD R x 0),kp.put hc,by rw[←append_assoc];exact rk.put hx hkx⟩
noncomputable def aB (h:List (Str×Int)):List (aC×W):=h.map λp=>(.inr p.1,.int p.2)
theorem dt (k:Str):∀h:List (Str×Int),bf (aB h) (.inr k)=(gT h k).map W.int
 | []=>rfl
 | p::h=>by
   show bf ((.inr p.1,.int p.2)::aB h) (.inr k)=_
   by_cases e:p.1=k
   ·rw[iV (by show(Sum.inr p.1:aC)=_;rw[e]),bB e];rfl
   ·rw[iW (λz=>e (inr_iff.mp z)),bD e];exact dt k h
theorem lG (k:Str):∀h:List (Str×Int),((aB h).any λkv=>decide (kv.1=.inr k))=h.any λp=>decide (p.1=k)
 | []=>rfl
 | p::h=>by
   show((((.inr p.1,.int p.2):aC×W)::aB h).any λkv=>decide (kv.1=.inr k))=_;rw[any_cons,any_cons,lG k h]
   congr 1
   exact decide_eq_decide.mpr inr_iff
theorem cA (h:List (Str×Int)) (k:Str) (v:Int):bw (aB h) (.inr k) (.int v)=aB (pT h k v):=by
 unfold bw pT;rw[lG];split
 ·unfold aB;rw[map_map,map_map];apply List.map_congr_left;intro p _;show(if (Sum.inr p.1:aC)=.inr k then _ else _)=_
  by_cases e:p.1=k
  ·rw[if_pos (inr_iff.mpr e)];show _=((.inr (if p.1=k then (p.1,v) else p).1,.int (if p.1=k then (p.1,v) else p).2):aC×W);rw[if_pos e]
  ·rw[if_neg (λz=>e (inr_iff.mp z))];show _=((.inr (if p.1=k then (p.1,v) else p).1,.int (if p.1=k then (p.1,v) else p).2):aC×W);rw[if_neg e]
 ·unfold aB;rw[map_append]
  rfl
theorem bS (h:List (Str×Int)):(aB h).length=h.length:=length_map ..
theorem fV (h:List (Str×Int)) (k:Str):(bf (aB h) (.inr k)).getD (.int 0)=.int (aW h k):=by
 rw[dt];unfold aW;cases gT h k<;> rfl
noncomputable def zI:W->Bool
 | .int n=>decide (0<n)
 | _=>false
theorem rT (h:List (Str×Int)):(aB h).filter (λp=>zI p.2)=aB (fP h):=by
 unfold aB fP;rw[List.filter_map]
 rfl
theorem jE:∀(h a:List (Str×Int)),((a++h).map (·.1)).Nodup->(aB h).foldl (λa p=>bw a p.1 p.2) (aB a)=aB (a++h)
 | [],a,_=>by rw[append_nil];rfl
 | p::h,a,hn=>by
   show(aB h).foldl (λa p=>bw a p.1 p.2) (bw (aB a) (.inr p.1) (.int p.2))=_;have hk:gT a p.1=none:=fN λz=>by
    rw[map_append,map_cons] at hn;exact(nodup_append.mp hn).2.2 _ z _ mem_cons_self rfl
   have e:pT a p.1 p.2=a++[p]:=by
    unfold pT;rw[jZ,hk]
    rfl
   rw[cA,e,jE h (a++[p]) (by rw[append_assoc];exact hn),append_assoc]
   rfl
structure ia (h:List (Str×Int)):Prop where
 n:(h.map (·.1)).Nodup
 p:∀p,p∈h->0<=p.2
 b:∀p,p∈h->p.2<=10^60
 l:h.length<=100
noncomputable def pK (T:bQ Str) (h:List (Str×Int)) (k:Str) (g:List (Str×Int)):Prop:=(gT T k).isSome=true/\aW h k≠0/\∀p,p∈g->0<p.2->p.1∈j6 T k
structure lH (G:Gp) (r h g:Addr) (kvs:List (aC×W)) (T:bQ Str) (hp gv:List (Str×Int)):Prop where
 hr:G r=some (.dic kvs)
 tb:eJ G kvs T
 hh:G h=some (.dic (aB hp))
 hg:G g=some (.dic (aB gv))
 rg:r≠g
 hg':h≠g
 ho:ia hp
 go:ia gv
noncomputable def xt (C:Addr):cm:=λws G q e=>∃(r h g:Addr) (k:Str) (kvs:List (aC×W)) (T:bQ Str) (hp gv:List (Str×Int)),ws=[.ref r,.ref h,.str k,.ref g]/\lH G r h g kvs T hp gv/\
 (¬pK T hp k gv->∀G',aZ G G'->e (.ref C) G')/\(pK T hp k gv->∀(p:Addr) (G':Gp),aZ G G'->G p=none->G' p=some (.dic (aB (hZ hp k gv)))->q (.ref p) G')
theorem scEx:cf ["rules","heap","kind","given","found","other","many"] ["rules","heap","kind","given"] (aw (aQ 27)):=⟨rfl,rfl,rfl,by decide+kernel,rfl,by decide+kernel,by decide+kernel⟩
theorem v5 {c A Z F:Prop} {d:Decidable c} (z:F->Z) (h2:¬c->F) (h1:c->(F->Z)->A): @ite Prop c d A Z:=dL (λh=>h1 h z) (λh=>z (h2 h))
theorem Bs {α:Type} (l:List α) (i j:Nat) (a b x y:α):(((l.set i a).set j b).set i x).set j y=(l.set i x).set j y:=by
 by_cases e:i=j
 ·subst e;rw[set_set,set_set,set_set,set_set]
 ·rw[List.set_comm _ _ (λz=>e z),set_set,List.set_comm _ _ (λz=>e z),set_set]
  first | rfl | rw[List.set_comm _ _ (λz=>e z)]
theorem iX {C:Gp->Prop} {tt:WT} {te:WE} {i j:Nat} {τ0:ck} {G:Gp} {q:List W->Gp->Prop} {pr:aC×W->Bool} {f:aC×W->W} (hC:C G):∀{kvs:List (aC×W)} {acc:List W} {τ:ck},
 (∀p,p∈kvs->∀k:Bool->Gp->Prop,k (pr p) G->tt ((τ0.set i (some (kW p.1))).set j (some p.2)) G k)->(∀p,p∈kvs->∀k:W->Gp->Prop,k (f p) G->te ((τ0.set i (some (kW p.1))).set j (some p.2)) G k)->acc.length+kvs.length<=100000->(∀x y,(τ.set i x).set j y=(τ0.set i x).set j y)->
 q (acc++(kvs.filter pr).map f) G->cX C (jR 2 (eX (cV i) (eX (cV j) jQ))) tt te (kvs.map λp=> .tup [kW p.1,p.2]) τ G acc q
 | [],acc,τ,_,_,_,_,hq=>⟨hC,by simpa using hq⟩
 | p::kvs,acc,τ,ht,he,hl,hτ,hq=>by
   refine⟨hC,rfl,?_⟩;show tt ((τ.set i (some (kW p.1))).set j (some p.2)) G _;rw[hτ];rw[length_cons] at hl;refine ht p mem_cons_self _ ?_;have ih:=λacc' (h:acc'.length+kvs.length<=100000)=>iX (acc:=acc') (τ:=(τ0.set i (some (kW p.1))).set j (some p.2)) (q:=q) hC (λu hu=>ht u (mem_cons_of_mem _ hu)) (λu hu=>he u (mem_cons_of_mem _ hu)) h λx y=>by rw[Bs]
   cases hp:pr p with
   | true=>
     rw[if_pos rfl];refine he p mem_cons_self _ ⟨by lia,ih _ (by rw[length_append];simp only[length_cons,length_nil];lia) ?_⟩;simpa[List.filter_cons,hp] using hq
   | false=>
     rw[if_neg (by decide)];refine ih _ (by lia) ?_;simpa[List.filter_cons,hp] using hq
theorem zJ {C:Addr} {bC:List Value} (F:dX K "exchange" "exchange" (aQ 27) f fd) (mC:mg "NoChore"=some (.ref C)) (xC:XC K C bC) (md:mg "dict"=none):wA P w K mg base 2 f fd ["rules","heap","kind","given"] (xt C):=by
 have nd:=scEx.nd;refine zw (k:=1) F scEx (λws G q e h=>by obtain⟨_,_,_,_,_,_,_,_,rfl,_⟩:=h;rfl) (λcdv A outer s H E ws G q e hr hG hsp hE=>?_);obtain⟨r,h,g,k,kvs,T,hp,gv,rfl,x,hbad,hgood⟩:=hsp;apply bq
 ·refine' ae (bc ?c1 (ci (qD mC xC (λH1 G1=>hE _ H1 G1) rfl)) ak) (ae ?s2 (ae ?s3 (ae (cG (bO PassesOwn.leaving rfl ?it ?tg (ae (bc ?c2 (ci (pA hG x.hg mC xC (λH1 G1=>hE _ H1 G1) rfl)) ak) (ci ?b2)))) (ci (cG (aO ?ex))))))
  case c1=>exact(ja (kL (aI (cP hr) (aa 2) (aa 0) rfl) (iB (aI (dP hr) (fS (aa 1) (aa 2) ao) ao (dv _)))))
  case s2=>exact(aA 4 nd rfl (.inl rfl) (bv (jB rfl) rfl md fq (ah (aa 1) aq)))
  case s3=>exact(bV (aT uZ (aE aG (aa 4) (aa 2)) ao) (aa 4) (aa 2))
  case it=>exact(dm 3 rfl (.inl rfl))
  case tg=>exact(gj rfl (bL (bd 5 nd rfl (.inl rfl)) (bL (bd 6 nd rfl (.inl rfl)) eM)))
  case c2=>exact(ja (iC (aI kN (aa 6) ao (dv _)) (fG (aI (cP hr) (aa 5) (aE aG (aa 0) (aa 2)) rfl))))
  case b2=>exact(bV (aT bR (fS (aa 4) (aa 5) ao) (aa 6)) (aa 4) (aa 5))
  case ex=>exact(bv (jB rfl) rfl md fq (ah (jT (mw (by first | rfl | decide+kernel)) rfl (dm 4 rfl (.inl rfl)) (λ_ _ _ _=>(gj rfl (bL (fK 1 (by first | assumption | decide+kernel | rfl) rfl (.inl rfl)) (bL (fK 2 (by first | assumption | decide+kernel | rfl) rfl (.inl rfl)) eM)))) (λ_ _ _ _=>(nG (aI kN (aa 2) ao))) (λ_ _ _ _=>(bM (ah (aa 1) (ah (aa 2) aq))))) aq))
 ·have hl:=x.ho.l;have gl:=x.go.l;have hlen:=bS hp;have glen:=bS gv;walk_at "a0";refine⟨_,.dic (.inl x.hr),?_⟩;rw[x.tb.has k];refine dL (λhn=>hbad (λa=>by rw[a.1] at hn;cases hn) G (aZ.refl _)) λhk=>?_;have hk:(gT T k).isSome=true:=by cases e0:(gT T k).isSome with | true=>rfl | false=>exact absurd e0 hk
  refine⟨⟨_,x.hh⟩,k,_,rfl,x.hh,?_⟩;rw[fV];walk_at "R";refine dL (λhz=>hbad (λa=>a.2.1 hz) G (aZ.refl _)) λhz=>?_;have hpos:0<aW hp k:=by have:=eB x.ho.p k;have hz:¬aW hp k=0:=hz;(clear hl gl hlen glen;lia)
  walk_at "a";refine⟨_,.dic (.inl x.hh),λp hp0=>?_⟩;have le1:=aZ.new (g:=GO.dic (aB hp)) hp0;have g1:=af (G:=G) (a:=p) (g:=GO.dic (aB hp));generalize av G p (.dic (aB hp))=G1 at le1 g1 ⊢;have pg:p≠g:=λz=>by rw[z,x.hg] at hp0;cases hp0
  have pr:p≠r:=λz=>by rw[z,x.hr] at hp0;cases hp0
  walk_at "a";have hv:gT hp k=some (aW hp k):=by
   unfold aW at hpos ⊢;cases e0:gT hp k with
   | none=>rw[e0] at hpos;exact absurd hpos (Int.lt_irrefl _)
   | some v=>rfl
  refine⟨_,_,.inl g1,by rw[dt,hv];rfl,?_⟩;walk_at "R";refine⟨p,k,_,rfl,rfl,g1,by (clear gl glen hz hpos;lia),?_⟩;rw[cA];have k2:∀y gg,y≠p->G1 y=some gg->av G1 p (.dic (aB (pT hp k (aW hp k-1)))) y=some gg:=λy gg hy e=>(am hy).trans e;have g2:=af (G:=G1) (a:=p) (g:=GO.dic (aB (pT hp k (aW hp k-1))));generalize av G1 p (.dic (aB (pT hp k (aW hp k-1))))=G2 at k2 g2 ⊢;have le2:aZ G G2:=λy gg e=>k2 y gg (λz=>by rw[z,hp0] at e;cases e) (le1 _ _ e);obtain⟨L,b,eL,eb,gb⟩:∃L b,gT T k=some L/\bf kvs (.inr k)=some (.ref b)/\G b=some (.lst (aY L)):=by
   rcases x.tb.val k with⟨e0,_⟩ | h
   ·rw[e0] at hk;cases hk
   ·exact h
  have hoth:j6 T k=L:=by unfold j6;rw[eL];rfl
  have hla:0+(eU (pT hp k (aW hp k-1)) gv).length<=100000:=by
   have a1:=ig gv (pT hp k (aW hp k-1));have a2:=dG hp k (aW hp k-1)
   (clear hz hpos;lia)
  walk_at "a";refine⟨g,_,le2 _ _ x.hg,_,le2 _ _ x.hg,λo us=>?_⟩;refine bh (λws τ G'=>∃(todo dn:List (Str×Int)) (t5 t6:Option W),ws=((aB todo).map λp=> .tup [kW p.1,p.2])/\gv=dn++todo/\(∀p,p∈dn->0<p.2->p.1∈j6 T k)/\τ=[some (.ref r),some (.ref h),some (.str k),some (.ref g),some (.ref p),t5,t6]/\G' p=some (.dic (aB (eU (pT hp k (aW hp k-1)) dn)))/\∀y,y≠p->G' y=av G2 g (.fdc o us (aB gv)) y) ?_ ?_ _ _ _ ⟨gv,[],none,none,rfl,rfl,(λ_ h=>(nomatch h)),rfl,(am pg).trans g2,λ_ _=>rfl⟩
  ·rintro τ G' ⟨todo,dn,t5,t6,hw,hd,hin,rfl,gp,gk⟩;have h0:todo=[]:=by simpa[aB] using hw.symm
   subst h0;rw[append_nil] at hd;subst hd;have gg:=(gk g pg.symm).trans af;refine⟨gg,o,us,_,gg,?_⟩;have le3:aZ G (av G' g (.dic (aB gv))):=λy gy e=>by
    by_cases yg:y=g
    ·rw[yg,x.hg] at e;cases e;rw[yg];exact af
    ·rw[am yg,gk y (λz=>by rw[z,hp0] at e;cases e),am yg];exact le2 _ _ e
   have gp3:av G' g (.dic (aB gv)) p=some (.dic (aB (eU (pT hp k (aW hp k-1)) gv))):=(am pg).trans gp;generalize av G' g (.dic (aB gv))=G3 at le3 gp3 ⊢;subst hU;dsimp only;walk_at "R";refine⟨p,_,gp3,_,gp3,λo us=>iX (pr:=λp=>zI p.2) (f:=λp=> .tup [kW p.1,p.2]) (τ0:=[none,none,none]) af (λy hy k hk=>?_) (λy hy k hk=>?_) (by simp only[length_nil];rw[bS];exact hla) (λ_ _=>rfl) λp1 hp1=>⟨_,.lst af rfl,λp2 hp2=>?_⟩⟩
   ·obtain⟨z,hz,rfl⟩:=mem_map.mp hy;walk_at "R";exact hk
   ·walk_at "R";exact hk
   ·rw[rT];have n1:p1≠p:=λz=>by rw[z,af] at hp1;cases hp1
    have n2:p2≠p1:=λz=>by rw[z,af] at hp2;cases hp2
    rw[am n2] at hp2;have n3:p2≠p:=λz=>by rw[z,af] at hp2;cases hp2
    rw[am n3] at hp2;rw[am n1] at hp1;have n4:G p2=none:=by
     cases e0:G p2 with
     | none=>rfl
     | some gg=>have:=le3 _ _ e0;rw[hp2] at this;cases this
    have n5:G p1=none:=by
     cases e0:G p1 with
     | none=>rfl
     | some gg=>have:=le3 _ _ e0;rw[hp1] at this;cases this
    have al:pK T hp k gv:=⟨hk,hz,λy hy h0=>hin y hy h0⟩;refine⟨o,us,_,(am n3.symm).trans ((am n1.symm).trans af),_,aZ.refl _,hgood al p2 _ (λy gy e=>?_) n4 ?_⟩
    ·by_cases yp:y=p
     ·rw[yp,hp0] at e;cases e
     ·exact(am yp).trans ((am (λz=>by rw[z,n4] at e;cases e)).trans ((am (λz=>by rw[z,n5] at e;cases e)).trans ((am yp).trans (le3 _ _ e))))
    ·rw[am n3,af,show(List.foldl (λa p=>bw a p.fst p.snd) [] (aB (fP (eU (pT hp k (aW hp k-1)) gv))))=_ from jE (fP (eU (pT hp k (aW hp k-1)) gv)) [] (qR x.ho.n)]
     rfl
  ·rintro w1 ws τ G' kk ⟨todo,dn,t5,t6,hw,hd,hin,rfl,gp,gk⟩ hkk;cases todo with
   | nil=>cases hw
   | cons y todo=>
     cases hw;refine⟨(gk g pg.symm).trans af,?_⟩;simp only[jR,eX,jQ,cV,set_cons_succ,set_cons_zero];refine⟨rfl,?_⟩;refine aK λU1 hU1=>?_;walk_at "R";have eqr:G' r=some (.dic kvs):=(gk r pr.symm).trans ((am x.rg).trans (le2 _ _ x.hr));have bp:b≠p:=λz=>by rw[z,hp0] at gb;cases gb
     have bg:b≠g:=λz=>by rw[z,x.hg] at gb;cases gb
     have eqb:G' b=some (.lst (aY L)):=(gk b bp).trans ((am bg).trans (le2 _ _ gb));refine v5 (F:=0<y.2->y.1∈L) (λhyL=>?_) (λhy h=>absurd h hy) (λhy z=>⟨kvs,_,.inl eqr,eb,_,.lst eqb (ip L y.1),?_⟩)
     ·subst hU1;walk_at "R";refine⟨⟨_,gp⟩,y.1,_,rfl,gp,?_⟩;rw[fV];refine⟨p,y.1,_,rfl,rfl,gp,?_,?_⟩
      ·have a1:=ig dn (pT hp k (aW hp k-1));have a2:=dG hp k (aW hp k-1);have a3:dn.length<=gv.length:=by rw[hd,length_append];(clear hl gl hlen glen hz hpos hla a1 a2;lia)
       rw[bS]
       (clear hz hpos hla;lia)
      ·rw[cA,←lh];refine hkk _ _ ⟨todo,dn++[y],_,_,rfl,by rw[hd,append_assoc];rfl,λu hu h0=>?_,rfl,af,λy0 h0=>(am h0).trans (gk y0 h0)⟩;rcases mem_append.mp hu with hu | hu
       ·exact hin u hu h0
       ·rw[mem_singleton] at hu;rw[hu,hoth];rw[hu] at h0;exact hyL h0
     ·show @ite Prop ((aY L).any (λw=>w.eq (.str y.1))=false) _ _ _;rw[km];refine dL (λhn=>?_) λhn=>z λ_=>?_
      ·refine⟨o,us,aB gv,(gk g pg.symm).trans af,hbad (λal=>?_) _ (λy0 gy e0=>?_)⟩
       ·have:=al.2.2 y (by rw[hd];exact mem_append_right _ mem_cons_self) hy;rw[hoth] at this;exact absurd this (of_decide_eq_false hn)
       ·by_cases yg:y0=g
        ·rw[yg,x.hg] at e0;cases e0;rw[yg];exact af
        ·rw[am yg,gk y0 (λz=>by rw[z,hp0] at e0;cases e0),am yg];exact le2 _ _ e0
      ·exact Decidable.of_not_not λz=>hn (decide_eq_false z)
theorem rV {a x:O} {n:Int} {i j k:Nat} {τ:ck} {G:Gp} {q:WK} (hx:a.getP i=some (x,n)) (h1:τ[j]?=some (some (.tup (aP a)))) (h2:τ[k]?=some (some (.int (i:Int)))) (hq:q (.tup (aP x)) G):jq dR (jq dR (dc j) (dc k)) (wC (.int 0)) τ G q:=by
 simp only[jq,dc,h1,h2,dR,jz,qi,wC];refine⟨_,ii hx,?_⟩;exact⟨_,rfl,hq⟩
theorem vj {a x:O} {n:Int} {i j k:Nat} {τ:ck} {G:Gp} {q:WK} (hx:a.getP i=some (x,n)) (h1:τ[j]?=some (some (.tup (aP a)))) (h2:τ[k]?=some (some (.int (i:Int)))) (hq:q (.int n) G):jq dR (jq dR (dc j) (dc k)) (wC (.int 1)) τ G q:=by
 simp only[jq,dc,h1,h2,dR,jz,qi,wC];refine⟨_,ii hx,?_⟩;exact⟨_,rfl,hq⟩
noncomputable def zK:cm:=λws G q _=>∃a b:O,ws=[.tup (aP a),.tup (aP b)]/\a.dp<=60/\a.len<=1000/\b.len<=1000/\q (.tup (aP (O.mergeO a b))) G
theorem Bt (F:dX K "merged" "merged" (aQ 21) f fd) (F1:Fx P w K mg base "compare" ["a","b"] 1 zB) (ml:mg "len"=none) (mt:mg "tuple"=none):dU P w K mg base 2 f fd ["a","b"] zK:=by
 refine jf F (N:=["a","b","parts","i","j","order"]) (by walk_at "s") (by walk_at "l") λ_ _ _ _ _ _ nd hr=>?_;apply bq
 ·exact(ae (aA 2 nd rfl (.inl rfl) (cg aq)) (ae (aA 3 nd rfl (.inl rfl) ao) (ae (aA 4 nd rfl (.inl rfl) ao) (ae (kM PySem.PassesOwn.never (ja (iC (aI (gU hr) (aa 3) (bo bT rfl ml PySem.boot_len (ah (aa 0) aq))) (fG (aI (gU hr) (aa 4) (bo bT rfl ml PySem.boot_len (ah (aa 1) aq)))))) (ae (aA 5 nd rfl (.inl rfl) (ba F1 (aR.mono hr (by lia)) rfl (ah (aE aG (aE aG (aa 0) (aa 3)) ao) (ah (aE aG (aE aG (aa 1) (aa 4)) ao) aq)))) (ae (bc (aI kN (aa 5) ao) (ae (cU (fm (aa 2) (aE aG (aa 0) (aa 3)))) ak) (ae (bc (aI (gU hr) (aa 5) ao) (ae (cU (fm (aa 2) (aE aG (aa 1) (aa 4)))) ak) (ae (cU (fm (aa 2) (bM (ah (aE aG (aE aG (aa 0) (aa 3)) ao) (ah (aT bR (aE aG (aE aG (aa 0) (aa 3)) ao) (aE aG (aE aG (aa 1) (aa 4)) ao)) aq))))) ak)) ak)) (ae (bc (aI yB (aa 5) ao) (ae (aA 3 nd rfl (.inl rfl) (aT bR (aa 3) ao)) ak) ak) (ae (bc (aI AQ (aa 5) ao) (ae (aA 4 nd rfl (.inl rfl) (aT bR (aa 4) ao)) ak) ak) ak))))) (ae (aO (aT bR (aT bR (bv nD rfl mt nH (ah (aa 2) aq)) (dj (aa 0) (eO (aa 3)) ic)) (dj (aa 1) (eO (aa 4)) ic))) ak)))))
 ·rintro ws G q e ⟨a,b,rfl,hx,hl,hl2,hq⟩;walk_at "a0";intro p hp;walk_at "a";walk_at "a";subst hU;refine aK λU hU=>?_;refine rc (λm τ G'=>∃(i j:Nat) (ws:List W) (t5:Option W),τ=[some (.tup (aP a)),some (.tup (aP b)),some (.ref p),some (.int (i:Int)),some (.int (j:Int)),t5]/\G' p=some (.lst ws)/\aZ G G'/\ws++aP (O.mergeO (O.dropO i a) (O.dropO j b))=aP (O.mergeO a b)/\i<=a.len/\j<=b.len/\ws.length<=i+j/\m=a.len-i+(b.len-j))
   ⟨_,0,0,[],none,rfl,af,aZ.new hp,rfl,zero_le _,zero_le _,zero_le _,rfl⟩ ?_
  rintro m τ G' ⟨i,j,ws,t5,rfl,hG,le,hw,hi,hj,hwl,rfl⟩ B hB;walk_at "R";rw[bZ,bZ];have fin:(a.len<=i∨b.len<=j)->U { nx:=λx G1=>∃G0,aZ G0 G1/\q W.non G0,rt:=λw G1=>∃G0,aZ G0 G1/\q w G0 } [some (.tup (aP a)),some (.tup (aP b)),some (.ref p),some (.int (i:Int)),some (.int (j:Int)),t5] G':=λhend=>by
   subst hU;walk_at "R";rw[iO,iO,gB,gB];have la:=O.len_dropO i a;have lb:=O.len_dropO j b;refine⟨ws,hG,by rw[bZ];(clear hx hend lb;lia),by rw[length_append,bZ,bZ];(clear hx hend;lia),G,le,?_⟩;rcases hend with h | h
   ·rw[O.dropO_len h,O.z_merge] at hw;rw[O.dropO_len h];simp only[qT,append_nil];rw[hw];exact hq
   ·rw[O.dropO_len h,O.merge_z] at hw;rw[O.dropO_len h];simp only[qT,append_nil];rw[hw];exact hq
  split
  ·rename_i h1;split
   ·rename_i h2;refine⟨λτ1 G1=>∃(i' j':Nat) (ws:List W) (t5:Option W),τ1=[some (.tup (aP a)),some (.tup (aP b)),some (.ref p),some (.int (i':Int)),some (.int (j':Int)),t5]/\G1 p=some (.lst ws)/\aZ G G1/\ws++aP (O.mergeO (O.dropO i' a) (O.dropO j' b))=aP (O.mergeO a b)/\i'<=a.len/\j'<=b.len/\ws.length<=i'+j'/\a.len-i'+(b.len-j')<a.len-i+(b.len-j),?_,?_⟩
    ·rintro τ1 G1 ⟨i',j',ws',t5',rfl,k1,k2,k3,k4,k5,k6,k7⟩;exact⟨_,k7,i',j',ws',t5',rfl,k1,k2,k3,k4,k5,k6,rfl⟩
    ·obtain⟨y,n,hp1⟩:=O.getP_some (a:=a) (i:=i) (by (clear hx hl hl2 hi hj hwl h2;lia));obtain⟨y',n',hp2⟩:=O.getP_some (a:=b) (i:=j) (by (clear hx hl hl2 hi hj hwl h1;lia));have hs:=O.getP_size hp1;have hA:=ii hp1;have hBt:=ii hp2;have le':∀g,aZ G (av G' p g):=λg a' g' ea=>by
      rw[am (λz=>by rw[z,hp] at ea;cases ea)];exact le a' g' ea
     rw[O.dropO_get hp1,O.dropO_get hp2,O.merge_c] at hw;subst hB;generalize hA0:jq dR (jq dR (dc 0) (dc 3)) (wC (W.int 0))=A0;generalize hA1:jq dR (jq dR (dc 0) (dc 3)) (wC (W.int 1))=A1;generalize hB0:jq dR (jq dR (dc 1) (dc 4)) (wC (W.int 0))=B0;generalize hB1:jq dR (jq dR (dc 1) (dc 4)) (wC (W.int 1))=B1;have fA0:∀(t5:Option W) (q:WK),q (.tup (aP y)) G'->A0 [some (.tup (aP a)),some (.tup (aP b)),some (.ref p),some (.int (i:Int)),some (.int (j:Int)),t5] G' q:=λt5 q h=>hA0▸rV hp1 rfl rfl h;have fA1:∀(t5:Option W) (q:WK),q (.int n) G'->A1 [some (.tup (aP a)),some (.tup (aP b)),some (.ref p),some (.int (i:Int)),some (.int (j:Int)),t5] G' q:=λt5 q h=>hA1▸vj hp1 rfl rfl h;have fB0:∀(t5:Option W) (q:WK),q (.tup (aP y')) G'->B0 [some (.tup (aP a)),some (.tup (aP b)),some (.ref p),some (.int (i:Int)),some (.int (j:Int)),t5] G' q:=λt5 q h=>hB0▸rV hp2 rfl rfl h;have fB1:∀(t5:Option W) (q:WK),q (.int n') G'->B1 [some (.tup (aP a)),some (.tup (aP b)),some (.ref p),some (.int (i:Int)),some (.int (j:Int)),t5] G' q:=λt5 q h=>hB1▸vj hp2 rfl rfl h;clear hA0 hA1 hB0 hB1;refine aK λU1 hU1=>?_;walk_at "R";refine fA0 _ _ (fB0 _ _ ?_);refine⟨y,y',rfl,by (clear hl hl2 hi hj hwl h1 h2 hw;lia),?_⟩;walk_at "b"
     by_cases c1:0<O.cmp y y'
     ·rw[if_pos c1] at hw ⊢;rw[cC] at hw;refine⟨⟨_,hG⟩,_,hA,ws,hG,by (clear hx hi hj hs c1;lia),?_⟩;walk_at "b";rw[if_pos (by (clear hx hl hl2 hi hj hwl h1 h2 hs;lia))];subst hU1;walk_at "R";rw[if_neg (by (clear hx hl hl2 hi hj hwl h1 h2 hs;lia))];exact⟨i+1,j,ws++[fW y n],_,rfl,af,le' _,by rw[append_assoc,O.dropO_get hp2];exact hw,by (clear hx hl hl2 hi hj hwl h2 hs c1;lia),hj,by simp;(clear hx hl hl2 hi hj h1 h2 hs c1;lia),by (clear hx hl hl2 hi hj hwl hs c1;lia)⟩
     ·rw[if_neg c1] at hw ⊢
      by_cases c2:O.cmp y y'<0
      ·rw[if_pos c2] at hw ⊢;rw[cC] at hw;refine⟨⟨_,hG⟩,_,hBt,ws,hG,by (clear hx hi hj hs c1 c2;lia),?_⟩;walk_at "b";rw[if_neg (by (clear hx hl hl2 hi hj hwl h1 h2 hs c1;lia))];subst hU1;walk_at "R";rw[if_pos (by (clear hx hl hl2 hi hj hwl h1 h2 hs c1;lia))];exact⟨i,j+1,ws++[fW y' n'],_,rfl,af,le' _,by rw[append_assoc,O.dropO_get hp1];exact hw,hi,by (clear hx hl hl2 hi hj hwl h1 hs c1 c2;lia),by simp;(clear hx hl hl2 hi hj h1 h2 hs c1 c2;lia),by (clear hx hl hl2 hi hj hwl h1 hs c1 c2;lia)⟩
      ·rw[if_neg c2] at hw ⊢;rw[cC] at hw;refine⟨⟨_,hG⟩,fA0 _ _ (fA1 _ _ (fB1 _ _ ?_))⟩;walk_at "R";refine⟨ws,hG,by (clear hx hi hj hs c1 c2;lia),?_⟩;walk_at "b";rw[if_pos (by (clear hx hl hl2 hi hj hwl h1 h2 hs;lia))];subst hU1;walk_at "R";rw[if_pos (by (clear hx hl hl2 hi hj hwl h1 h2 hs;lia))];exact⟨i+1,j+1,ws++[fW y (n+n')],_,rfl,af,le' _,by rw[append_assoc];exact hw,by (clear hx hl hl2 hi hj hwl h2 hs c1 c2;lia),by (clear hx hl hl2 hi hj hwl h1 hs c1 c2;lia),by simp;(clear hx hl hl2 hi hj h1 h2 hs c1 c2;lia),by (clear hx hl hl2 hi hj hwl hs c1 c2;lia)⟩
   ·exact fin (.inr (by (clear hx hl hl2 hi hwl h1;lia)))
  ·exact fin (.inl (by (clear hx hl hl2 hj hwl;lia)))
noncomputable def i5 (R:List (Str×Nat)) (k:Str):Int:=((gT R k).getD 0:Nat)
theorem ft (R:List (Str×Nat)) (k:Str):0<=i5 R k:=Int.natCast_nonneg _
theorem lI {rk:Str->Int} (p:Str×Int):∀(h:List (Str×Int)) (a:O),iM rk (h++[p]) a=O.mergeO (iM rk h a) (.c (O.wh (rk p.1)) p.2 .z)
 | [],_=>rfl
 | _::h,_=>lI p h _
theorem iY {rk:Str->Int} (hr:∀k,0<=rk k):∀(h:List (Str×Int)) (a:O),a.dp<=3->(iM rk h a).dp<=3/\(iM rk h a).len<=a.len+h.length
 | [],a,ha=>⟨ha,le_refl _⟩
 | p::h,a,ha=>by
   have m:=O.dp_merge a (.c (O.wh (rk p.1)) p.2 .z);have m2:=ph a (.c (O.wh (rk p.1)) p.2 .z);have d:(O.c (O.wh (rk p.1)) p.2 .z).dp<=3:=by
    unfold O.wh;split
    ·exact(by decide:1<=3)
    ·exact(by decide:2<=3)
   have l:(O.c (O.wh (rk p.1)) p.2 .z).len=1:=rfl;have ih:=iY hr h (O.mergeO a (.c (O.wh (rk p.1)) p.2 .z)) (by (clear m2 l;lia));rw[length_cons];exact⟨ih.1,by have:=ih.2;show(iM rk h _).len<=_;(clear ha m d this;lia)⟩
noncomputable def zL:cm:=λws G q _=>∃(c h:Addr) (R:List (Str×Nat)) (hp:List (Str×Int)),ws=[.ref c,.ref h]/\c≠h/\G c=some (.dic (bG R))/\G h=some (.dic (aB hp))/\(∀p,p∈hp->0<p.2)/\(∀p,p∈hp->(gT R p.1).isSome=true)/\hp.length<=100/\q (.tup (aP (iM (i5 R) hp .z))) G
theorem Bu (F:dX K "heap_number" "heap_number" (aQ 26) f fd) (F1:Fx P w K mg base "merged" ["a","b"] 2 zK) (F2:Fx P w K mg base "raised" ["exponent","times"] 2 xq) (F3:Fx P w K mg base "whole" ["n"] 3 zD):dU P w K mg base 4 f fd ["ranking","heap"] zL:=by
 refine jf F (N:=["ranking","heap","found","kind","many"]) (by walk_at "s") (by walk_at "l") λ_ _ _ _ _ _ nd hr=>?_;apply bq
 ·exact(ae (aA 2 nd rfl (.inl rfl) (bM aq)) (ae (cG (bO PySem.PassesOwn.never rfl (dm 1 rfl (.inl rfl)) (gj rfl (bL (bd 3 nd rfl (.inl rfl)) (bL (bd 4 nd rfl (.inl rfl)) eM))) (ae (aA 2 nd rfl (.inl rfl) (ba F1 (aR.mono hr (by lia)) rfl (ah (aa 2) (ah (ba F2 (aR.mono hr (by lia)) rfl (ah (ba F3 (aR.mono hr (by lia)) rfl (ah (aE aG (aa 0) (aa 3)) aq)) (ah (aa 4) aq))) aq)))) ak))) (ae (aO (aa 2)) ak)))
 ·rintro ws G q e ⟨c,h,R,hp,rfl,ch,hc,hh,h0,hR,hl,hq⟩;walk_at "a0";walk_at "a";refine⟨h,_,hh,_,hh,λo us=>?_⟩;refine bh (λws τ G'=>∃(todo dn:List (Str×Int)) (t5 t6:Option W),ws=((aB todo).map λp=> .tup [kW p.1,p.2])/\hp=dn++todo/\τ=[some (.ref c),some (.ref h),some (.tup (aP (iM (i5 R) dn .z))),t5,t6]/\G'=av G h (.fdc o us (aB hp))) ?_ ?_ _ _ _ ⟨hp,[],none,none,rfl,rfl,rfl,rfl⟩
  ·rintro τ G' ⟨todo,dn,t5,t6,hw,hd,rfl,rfl⟩;have e0:todo=[]:=by simpa[aB] using hw.symm
   subst e0;rw[append_nil] at hd;subst hd;refine⟨af,o,us,_,af,?_⟩;subst hU;walk_at "R";refine⟨G,λy gy e=>?_,hq⟩
   by_cases yh:y=h
   ·rw[yh,hh] at e;cases e;rw[yh];exact af
   ·rw[am yh,am yh];exact e
  ·rintro w1 ws τ G' kk ⟨todo,dn,t5,t6,hw,hd,rfl,rfl⟩ hkk;cases todo with
   | nil=>cases hw
   | cons y todo=>
     cases hw;refine⟨af,?_⟩;have hy:y∈hp:=by rw[hd];exact mem_append_right _ mem_cons_self
     have y0:=h0 y hy;have yR:=hR y hy;have sz:=iY (ft R) dn .z (zero_le _);have ln:dn.length<=hp.length:=by rw[hd,length_append];(clear hl y0 sz;lia)
     simp only[jR,eX,jQ,cV,set_cons_succ,set_cons_zero];refine⟨rfl,?_⟩;rw[show kW (Sum.inr y.1:aC)=W.str y.1 from rfl];walk_at "R";obtain⟨r,er⟩:∃r,gT R y.1=some r:=Option.isSome_iff_exists.mp yR;have rr:i5 R y.1=(r:Int):=by unfold i5;rw[er];rfl
     refine⟨bG R,.int (r:Int),.inl ((am ch).trans hc),by rw[dq,er];rfl,?_⟩;refine⟨_,rfl,Int.natCast_nonneg _,O.wh (r:Int),_,rfl,Int.le_of_lt y0,iM (i5 R) dn .z,.c (O.wh (r:Int)) y.2 .z,?_,?_,?_,?_,?_⟩
     ·rw[if_neg (λz=>by rw[z] at y0;exact absurd y0 (Int.lt_irrefl _))]
     ·(clear hl y0 ln rr;lia)
     ·have:=sz.2;have z0:O.z.len=0:=rfl
      (clear y0 rr this;lia)
     ·exact(by decide:1<=1000)
     ·rw[←rr,←lI];exact hkk _ _ ⟨todo,dn++[y],_,_,rfl,by rw[hd,append_assoc];rfl,rfl,rfl⟩
noncomputable def uE:cm:=λws G q _=>∃(ns:List Int) (k:Int),ws=[.scr ns,.int k]/\0<=k/\∀v:Int,q (.int v) G
theorem Bv (F:dX K "_law_cell_at" "_law_cell_at" (aQ 29) f fd) (ml:mg "len"=none):dU P w K mg base 1 f fd ["_law_script","_law_k"] uE:=by
 refine jf F (N:=["_law_script","_law_k"]) (by walk_at "s") (by walk_at "l") λ_ _ _ _ _ _ nd hr=>?_;apply bq
 ·exact(ae (bc (aI (gU hr) (aa 1) (bo bT rfl ml PySem.boot_len (ah (aa 0) aq))) (ae (aO (aE aG (aa 0) (aa 1))) ak) ak) (ae (aO ao) ak))
 ·rintro ws G q e ⟨ns,k,rfl,hk,hq⟩;walk_at "R";split
  ·obtain⟨n,hn⟩:=tM (ns:=ns) (i:=k) hk (by assumption);exact⟨n,hn,aZ.done (hq n)⟩
  ·exact aZ.done (hq 0)
theorem eJ.any {G:Gp} {kvs:List (aC×W)} {T:bQ Str} (h:eJ G kvs T) (k:Str):(kvs.any λkv=>decide (kv.1=.inr k))=T.any λp=>decide (p.1=k):=by
 induction h with
 | nil=>rfl
 | cons hb t ih=>
   rw[any_cons,any_cons,ih]
   congr 1
   exact decide_eq_decide.mpr inr_iff
theorem eJ.put {G:Gp} {kvs:List (aC×W)} {T:bQ Str} (h:eJ G kvs T) (k:Str) {b:Addr} {L:List Str} (hb:G b=some (.lst (aY L))):eJ G (bw kvs (.inr k) (.ref b)) (pT T k L):=by
 unfold bw pT;rw[h.any k];split
 ·rename_i e;clear e
  induction h with
  | nil=>exact .nil
  | @cons k' b' L' kvs T hb' t ih=>
    rw[map_cons,map_cons]
    by_cases e:k'=k
    ·rw[if_pos (by show(Sum.inr k':aC)=_;rw[e]),if_pos e];exact .cons hb ih
    ·rw[if_neg (λz=>e (inr_iff.mp z)),if_neg e];exact .cons hb' ih
 ·rename_i e;clear e
  induction h with
  | nil=>exact .cons hb .nil
  | cons hb' t ih=>exact .cons hb' ih
theorem eJ.upd {G:Gp} {kvs:List (aC×W)} {T:bQ Str} {b:Addr} {L:List Str} {m:List Str->Prop} (h:eJ G kvs T) (hT:∀e,e∈T->m e.2) (hL:m L):∃T',eJ (av G b (.lst (aY L))) kvs T'/\T'.map (·.1)=T.map (·.1)/\∀e,e∈T'->m e.2:=by
 induction h with
 | nil=>exact⟨[],.nil,rfl,λe h=>by cases h⟩
 | @cons k' b' L' kvs T hb' t ih=>
   obtain⟨T',h1,h2,h3⟩:=ih λe he=>hT e (mem_cons_of_mem _ he)
   by_cases e:b'=b
   ·refine⟨(k',L)::T',.cons (by rw[e,af]) h1,by rw[map_cons,map_cons,h2],λe he=>?_⟩;rcases mem_cons.mp he with rfl | he
    ·exact hL
    ·exact h3 e he
   ·refine⟨(k',L')::T',.cons (by rw[am e];exact hb') h1,by rw[map_cons,map_cons,h2],λe he=>?_⟩;rcases mem_cons.mp he with rfl | he
    ·exact hT _ mem_cons_self
    ·exact h3 e he
theorem rW {kvs:List (aC×W)} {k:aC} {w:W} {e:aC×W} (h:e∈bw kvs k w):e∈kvs∨e.2=w:=by
 unfold bw at h;split at h
 ·obtain⟨x,hx,rfl⟩:=mem_map.mp h
  by_cases z:x.1=k
  ·rw[if_pos z];exact .inr rfl
  ·rw[if_neg z];exact .inl hx
 ·rcases mem_append.mp h with h | h
  ·exact .inl h
  ·cases mem_singleton.mp h;exact .inr rfl
theorem xu {T:bQ Str} {k:Str} {L:List Str} {e:Str×List Str} (h:e∈pT T k L):e∈T∨e.2=L:=by
 unfold pT at h;split at h
 ·obtain⟨x,hx,rfl⟩:=mem_map.mp h
  by_cases z:x.1=k
  ·rw[if_pos z];exact .inr rfl
  ·rw[if_neg z];exact .inl hx
 ·rcases mem_append.mp h with h | h
  ·exact .inl h
  ·cases mem_singleton.mp h;exact .inr rfl
noncomputable def vk (nm:List Str) (L:List Str):Prop:=L.length<=20/\∀y,y∈L->y∈nm
structure ow (G G':Gp) (p:Addr) (kvs:List (aC×W)) (T:bQ Str) (n:Nat) (m:List Str->Prop):Prop where
 le:aZ G G'
 fp:G p=none
 d:G' p=some (.dic kvs)
 t:eJ G' kvs T
 nd:(T.map (·.1)).Nodup
 len:T.length<=n
 ls:∀e,e∈T->m e.2
 fr:∀e,e∈kvs->∀b,e.2=.ref b->G b=none
noncomputable def xv:cm:=λws G q _=>∃c:Int,ws=[.int c]/\∀v:Int,0<=v->v<=10^50->q (.int v) G
theorem Bw (F:dX K "_law_amount" "_law_amount" (aQ 31) f fd):dU P w K mg base 1 f fd ["_law_cell"] xv:=by
 refine jf F (N:=["_law_cell"]) (by walk_at "s") (by walk_at "l") λ_ _ _ _ _ _ nd hr=>?_;apply bq
 ·exact(ae (bc (aI (dP hr) (aT cM (aa 0) ao) ao) (ae (aO (aT cM (aT df (aa 0) ao) (aT mz ao ao))) ak) ak) (ae (aO (aT cM (aT df (aa 0) ao) ao)) ak))
 ·rintro ws G q e ⟨c,rfl,hq⟩;walk_at "R";refine dL (λh=>?_) (λh=>?_)
  ·exact aZ.done (hq _ (Int.emod_nonneg _ (by decide)) (Int.le_of_lt (Int.emod_lt_of_pos _ (by decide))))
  ·have h1:=Int.emod_lt_of_pos (c/4) (b:=3) (by decide);exact aZ.done (hq _ (Int.emod_nonneg _ (by decide)) (by (clear h;lia)))
noncomputable def zM:cm:=λws G q _=>∃c:Int,ws=[.int c]/\q (.bl true) G
theorem Bx (F:dX K "_law_whole" "_law_whole" (aQ 30) f fd) (mi:mg "isinstance"=none) (mn:mg "int"=none) (mb:mg "bool"=none):dU P w K mg base 1 f fd ["_law_found"] zM:=by
 refine jf F (N:=["_law_found"]) (by walk_at "s") (by walk_at "l") λ_ _ _ _ _ _ nd hr=>?_;apply bq
 ·exact(ae (aO (iD (jS (T:="int") (x:="int") (by first | simp[mh] | assumption | decide+kernel) PyProof.Rows.boot_int mn rfl mi rfl (aa 0)) (jP (lZ (jS (T:="bool") (x:="bool") (by first | simp[mh] | assumption | decide+kernel) PyProof.Rows.boot_bool mb rfl mi rfl (aa 0)))))) ak)
 ·rintro ws G q e ⟨c,rfl,hq⟩;walk_at "R";exact aZ.done hq
noncomputable def zN:cm:=λws G q _=>∃(ns:List Int) (pn:Addr) (names:List Str),ws=[.scr ns,.ref pn]/\G pn=some (.lst (aY names))/\names.length<=10/\∀p G' hp,aZ G G'->G p=none->G' p=some (.dic (aB hp))->(hp.map (·.1)).Nodup->(∀e,e∈hp->(0<e.2/\e.2<=10^50)/\e.1∈names)->q (.ref p) G'
theorem By (F:dX K "_law_heap" "_law_heap" (aQ 33) f fd) (F1:Fx P w K mg base "_law_cell_at" ["_law_script","_law_k"] 1 uE) (F2:Fx P w K mg base "_law_amount" ["_law_cell"] 1 xv) (mr:mg "range"=none) (ml:mg "len"=none):dU P w K mg base 2 f fd ["_law_script","_law_kinds"] zN:=by
 refine jf (k:=1) F (N:=["_law_script","_law_kinds","_law_heap_here","_law_k","_law_amount_here"]) (by walk_at "s") (by walk_at "l") λ_ _ _ _ _ _ nd hr=>?_;apply bq
 ·exact(ae (aA 2 nd rfl (.inl rfl) cZ) (ae (bO PySem.PassesOwn.never rfl (fH rfl mr (ah (bo bT rfl ml PySem.boot_len (ah (aa 1) aq)) aq)) (bd 3 nd rfl (.inl rfl)) (ae (aA 4 nd rfl (.inl rfl) (ba F2 (aR.mono hr (by lia)) rfl (ah (ba F1 (aR.mono hr (by lia)) rfl (ah (aa 0) (ah (aT bR ao (aa 3)) aq))) aq))) (ae (bc (aI kN (aa 4) ao) (ae (bV (aa 4) (aa 2) (aE aG (aa 1) (aa 3))) ak) ak) ak))) (ae (aO (aa 2)) ak)))
 ·rintro ws G q e ⟨ns,pn,names,rfl,hn,hn1,hq⟩;have hlen:(aY names).length=names.length:=length_map ..;walk_at "a0";intro p hp;walk_at "a";refine⟨_,.lst (au hn hp),?_⟩;rw[hlen];refine⟨by lia,by lia,?_⟩;refine ik names.length (λi τ G'=>∃t4 t5 h,τ=[some (.scr ns),some (.ref pn),some (.ref p),t4,t5]/\aZ G G'/\G' p=some (.dic (aB h))/\(h.map (·.1)).Nodup/\(∀e,e∈h->(0<e.2/\e.2<=10^50)/\e.1∈names)/\h.length<=i) ⟨none,none,[],rfl,aZ.new hp,af,nodup_nil,(λe h=>by cases h),zero_le _⟩ ?_ ?_
  ·rintro τ G' ⟨t4,t5,h,rfl,le,gp,h1,h2,h3⟩;refine⟨trivial,?_⟩;subst hU;walk_at "R";exact aZ.done (hq p G' h le hp gp h1 h2)
  ·rintro i τ G' kk hi ⟨t4,t5,h,rfl,le,gp,h1,h2,h3⟩ hk;refine⟨trivial,?_⟩;have gn:=le _ _ hn;walk_at "c0";refine⟨ns,_,rfl,by (clear hn1 hlen hi h3;lia),λcell=>⟨_,rfl,λv v0 v1=>?_⟩⟩;dsimp only;subst hU2;walk_at "R";refine dL (λz=>?_) λz=>hk _ _ ⟨_,_,h,rfl,le,gp,h1,h2,Nat.le_succ_of_le h3⟩;obtain⟨x,hx,hxm⟩:=gF (L:=names) (i:=(i:Int)) (by (clear hn1 hlen hi h3 v0 v1 z;lia)) (by (clear hn1 h3 v0 v1 z;lia));refine⟨_,_,gn,hx,p,x,_,rfl,rfl,gp,by rw[bS];(clear v0 v1 z;lia),?_⟩;rw[cA];refine hk _ _ ⟨_,_,pT h x v,rfl,le.put hp,af,eZ h1,λe he=>?_,le_trans (dG _ _ _) (Nat.succ_le_succ h3)⟩;rcases gA he with he | he
   ·exact h2 e he
   ·rw[he];exact⟨⟨z,v1⟩,hxm⟩
theorem cH (p:aC×W) (kvs:List (aC×W)) (x:aC):bf (p::kvs) x=if p.1=x then some p.2 else bf kvs x:=by
 unfold bf;rw[List.find?_cons]
 by_cases e:p.1=x
 ·simp[e]
 ·simp[e]
theorem iZ {k:aC} {w:W}:∀kvs:List (aC×W),(kvs.any λkv=>decide (kv.1=k))=true->bf (kvs.map λkv=>if kv.1=k then (kv.1,w) else kv) k=some w
 | [],h=>by cases h
 | p::kvs,h=>by
   rw[map_cons,cH]
   by_cases e:p.1=k
   ·rw[if_pos e];show(if p.1=k then some w else _)=_;rw[if_pos e]
   ·rw[if_neg e,if_neg e];rw[any_cons,decide_eq_false e,Bool.false_or] at h;exact iZ kvs h
theorem i2 {k x:aC} {w:W} (hx:x≠k):∀kvs:List (aC×W),bf (kvs.map λkv=>if kv.1=k then (kv.1,w) else kv) x=bf kvs x
 | []=>rfl
 | p::kvs=>by
   rw[map_cons,cH,cH,i2 hx kvs]
   by_cases e:p.1=k
   ·rw[if_pos e];have:p.1≠x:=λz=>hx (z.symm.trans e);show(if p.1=x then _ else _)=_;rw[if_neg this,if_neg this]
   ·rw[if_neg e]
theorem lJ (k x:aC) (w:W):∀kvs:List (aC×W),(kvs.any λkv=>decide (kv.1=k))=false->bf (kvs++[(k,w)]) x=if x=k then some w else bf kvs x
 | [],_=>by
   rw[nil_append,cH,rR]
   by_cases e:k=x
   ·rw[if_pos e,if_pos e.symm]
   ·rw[if_neg e,if_neg (λz=>e z.symm)]
 | p::kvs,h=>by
   rw[any_cons,Bool.or_eq_false_iff] at h;rw[List.cons_append,cH,cH,lJ k x w kvs h.2];have h1:p.1≠k:=of_decide_eq_false h.1
   by_cases e:p.1=x
   ·rw[if_pos e,if_pos e,if_neg (λz=>h1 (e.trans z))]
   ·rw[if_neg e,if_neg e]
theorem ox (kvs:List (aC×W)) (k x:aC) (w:W):bf (bw kvs k w) x=if x=k then some w else bf kvs x:=by
 unfold bw;split
 ·rename_i h
  by_cases e:x=k
  ·rw[if_pos e,e];exact iZ kvs h
  ·rw[if_neg e];exact i2 e kvs
 ·rename_i h;exact lJ k x w kvs (Bool.eq_false_iff.mpr h)
theorem zO {c A:Prop} {d:Decidable c} {Z F:Gp->Prop} {G:Gp} (z:∀G,F G->Z G) (h2:¬c->F G) (h1:c->(∀G,F G->Z G)->A): @ite Prop c d A (Z G):=dL (λh=>h1 h z) (λh=>z _ (h2 h))
theorem ow.put {G G':Gp} {p p2:Addr} {kvs:List (aC×W)} {T:bQ Str} {n:Nat} {m:List Str->Prop} (hI:ow G G' p kvs T n m) (hp2:G' p2=none) (x:Str) {L:List Str} (hL:m L):ow G (av (av G' p2 (.lst (aY L))) p (.dic (bw kvs (.inr x) (.ref p2)))) p (bw kvs (.inr x) (.ref p2)) (pT T x L) (n+1) m:=by
 have f2:G p2=none:=aZ.none hI.le hp2;refine⟨(hI.le.put f2).put hI.fp,hI.fp,af,?_,eZ hI.nd,le_trans (dG _ _ _) (Nat.succ_le_succ hI.len),λe he=>?_,λe he b hb=>?_⟩
 ·have t1:eJ (av G' p2 (.lst (aY L))) kvs T:=hI.t.mono λb ws e=>au e hp2;have d1:av G' p2 (.lst (aY L)) p=some (.dic kvs):=au hI.d hp2;refine(t1.put x (b:=p2) (L:=L) af).mono λb ws e=>?_;rw[am (λz=>by rw[z,d1] at e;cases e)];exact e
 ·rcases xu he with he | he
  ·exact hI.ls e he
  ·rw[he];exact hL
 ·rcases rW he with he | he
  ·exact hI.fr e he b hb
  ·rw[he] at hb;cases hb;exact f2
theorem ow.app {G G':Gp} {p b:Addr} {kvs:List (aC×W)} {T:bQ Str} {n:Nat} {m:List Str->Prop} (hI:ow G G' p kvs T n m) (hb:bf kvs (.inr x)=some (.ref b)) {L0 L:List Str} (gb:G' b=some (.lst (aY L0))) (hL:m L):∃T',ow G (av G' b (.lst (aY L))) p kvs T' n m:=by
 obtain⟨T',h1,h2,h3⟩:=hI.t.upd (b:=b) (L:=L) hI.ls hL;have fb:G b=none:=by
  unfold bf at hb;obtain⟨e0,he0,hb⟩:=Option.map_eq_some_iff.mp hb;exact hI.fr e0 (List.mem_of_find?_eq_some he0) b hb
 have nbp:p≠b:=λz=>by rw[←z,hI.d] at gb;cases gb
 refine⟨T',hI.le.put fb,hI.fp,by rw[am nbp];exact hI.d,h1,by rw[h2];exact hI.nd,?_,h3,hI.fr⟩;have h4:=congrArg List.length h2;rw[length_map,length_map] at h4;have:=hI.len;lia
noncomputable def zP:cm:=λws G q _=>∃(ns:List Int) (pn:Addr) (names:List Str),ws=[.scr ns,.ref pn]/\G pn=some (.lst (aY names))/\1<=names.length/\names.length<=10/\∀p G' kvs T,ow G G' p kvs T 11 (vk names)->q (.ref p) G'
theorem Bz (F:dX K "_law_rules" "_law_rules" (aQ 32) f fd) (F1:Fx P w K mg base "_law_cell_at" ["_law_script","_law_k"] 1 uE) (mr:mg "range"=none) (ml:mg "len"=none):dU P w K mg base 2 f fd ["_law_script","_law_kinds"] zP:=by
 refine jf (k:=1) F (N:=["_law_script","_law_kinds","_law_rules_here","_law_k","_law_cell","_law_j"]) (by walk_at "s") (by walk_at "l") λ_ _ _ _ _ _ nd hr=>?_;apply bq
 ·exact(ae (aA 2 nd rfl (.inl rfl) cZ) (ae (bO PySem.PassesOwn.never rfl (fH rfl mr (ah (bo bT rfl ml PySem.boot_len (ah (aa 1) aq)) aq)) (bd 3 nd rfl (.inl rfl)) (ae (aA 4 nd rfl (.inl rfl) (ba F1 (aR.mono hr (by lia)) rfl (ah (aa 0) (ah (aT bR ao (aa 3)) aq)))) (ae (bc (aI (eF hr) (aT cM (aa 4) ao) ao) (ae (aA 4 nd rfl (.inl rfl) (aT df (aa 4) ao)) (ae (bV (cg aq) (aa 2) (aE aG (aa 1) (aa 3))) (ae (bO PySem.PassesOwn.never rfl (o5 rfl mr (ah (aT bR (aa 3) ao) (ah (bo bT rfl ml PySem.boot_len (ah (aa 1) aq)) aq))) (bd 5 nd rfl (.inl rfl)) (ae (bc (aI (eF hr) (aT cM (aa 4) ao) ao) (ae (cU (fm (aE aG (aa 2) (aE aG (aa 1) (aa 3))) (aE aG (aa 1) (aa 5)))) ak) ak) (ae (aA 4 nd rfl (.inl rfl) (aT df (aa 4) ao)) ak))) ak))) ak) ak))) (ae (bc (aI (dP hr) (aT cM (ba F1 (aR.mono hr (by lia)) rfl (ah (aa 0) (ah ao aq))) ao) ao) (ae (bV (cg (ah (aE aG (aa 1) (aT cM (aT df (ba F1 (aR.mono hr (by lia)) rfl (ah (aa 0) (ah ao aq))) ao) (bo bT rfl ml PySem.boot_len (ah (aa 1) aq)))) aq)) (aa 2) (aE aG (aa 1) (jU ao))) ak) ak) (ae (aO (aa 2)) ak))))
 ·rintro ws G q e ⟨ns,pn,names,rfl,hn,hn0,hn1,hq⟩;have hlen:(aY names).length=names.length:=length_map ..;walk_at "a0";intro p hp;walk_at "a";refine⟨_,.lst (au hn hp),?_⟩;rw[hlen];refine⟨by lia,by lia,?_⟩;refine ik names.length (λi τ G'=>∃t3 t4 t5 kvs T,τ=[some (.scr ns),some (.ref pn),some (.ref p),t3,t4,t5]/\ow G G' p kvs T i (vk names)) ⟨none,none,none,[],[],rfl,⟨aZ.new hp,hp,af,.nil,nodup_nil,zero_le _,(λe h=>by cases h),(λe h=>by cases h)⟩⟩ ?_ ?_
  ·rintro τ G' ⟨t3,t4,t5,kvs,T,rfl,hI⟩;refine⟨trivial,?_⟩;subst hU;dsimp only;walk_at "a0";have gn:=hI.le _ _ hn;refine⟨ns,_,rfl,by (clear hn0 hn1 hlen;lia),λc=>?_⟩;walk_at "R";have hI11:ow G G' p kvs T 11 (vk names):=⟨hI.le,hI.fp,hI.d,hI.t,hI.nd,by have:=hI.len;lia,hI.ls,hI.fr⟩;have bJ:∀G' kvs T,ow G G' p kvs T 11 (vk names)->U { nx:=λx G1=>∃G0,aZ G0 G1/\q W.non G0,rt:=λw G1=>∃G0,aZ G0 G1/\q w G0 } [some (W.scr ns),some (W.ref pn),some (W.ref p),t3,t4,t5] G':=λG' kvs T h=>by
    subst hU;walk_at "R";exact aZ.done (hq p G' kvs T h)
   refine dL (λz=>⟨ns,_,rfl,by (clear hn0 hn1 hlen z;lia),λc2=>?_⟩) λz=>bJ _ _ _ hI11;walk_at "R";have hm:=kg (i:=c2/3) (j:=((aY names).length:Int)) (by (clear z;lia));obtain⟨x,hx,hxm⟩:=gF (L:=names) (i:=c2/3% ((aY names).length:Int)) hm.1 (by (clear hn0 hn1 z;lia));obtain⟨y,hy⟩:∃y,fC (aY names) (-1)=some (.str y):=by
    obtain⟨l,y,rfl⟩:∃l y,names=l++[y]:=⟨_,_,(List.dropLast_concat_getLast (λz=>by rw[z] at hn0;cases hn0)).symm⟩;refine⟨y,?_⟩;rw[show aY (l++[y])=aY l++[.str y] by simp[aY]];exact kG _ _
   have hkl:=hI.t.len;have hTl:=hI.len;refine⟨_,.lst gn,by (clear z hm hkl hTl;lia),_,_,gn,hx,λp2 hp2=>⟨_,_,au gn hp2,hy,p,y,kvs,rfl,rfl,au hI.d hp2,by (clear z hm;lia),?_⟩⟩;have h1:ow G G' p kvs T 10 (vk names):=⟨hI.le,hI.fp,hI.d,hI.t,hI.nd,by (clear z hm hkl;lia),hI.ls,hI.fr⟩;exact bJ _ _ _ (h1.put hp2 y (L:=[x]) ⟨show 1<=20 by decide,λz hz=>by rw[mem_singleton.mp hz];exact hxm⟩)
  ·rintro i τ G' kk hi ⟨t3,t4,t5,kvs,T,rfl,hI⟩ hk;refine⟨trivial,?_⟩;walk_at "c0";refine⟨ns,_,rfl,by (clear hn0 hn1 hlen hi;lia),λcell=>?_⟩;dsimp only;subst hU2;walk_at "R";have gn:=hI.le _ _ hn
   by_cases h5:cell%5=0
   ·rw[if_neg (λz=>z h5)];exact hk _ _ ⟨_,_,_,kvs,T,rfl,⟨hI.le,hI.fp,hI.d,hI.t,hI.nd,Nat.le_succ_of_le hI.len,hI.ls,hI.fr⟩⟩
   ·rw[if_pos h5];obtain⟨x,hx,_⟩:=gF (L:=names) (i:=(i:Int)) (by (clear hn0 hn1 hlen hi h5;lia)) (by (clear hn0 hn1 h5;lia));intro b hb0;have hkl:=hI.t.len;have hTl:=hI.len;refine⟨_,_,au gn hb0,hx,p,x,kvs,rfl,rfl,au hI.d hb0,by (clear h5;lia),?_⟩;have h1:ow G (av (av G' b (.lst [])) p (.dic (bw kvs (.inr x) (.ref b)))) p (bw kvs (.inr x) (.ref b)) (pT T x []) (i+1) (vk names):=hI.put hb0 x (L:=[]) ⟨zero_le _,λ_ h=>(nomatch h)⟩;have gb1:av (av G' b (.lst [])) p (.dic (bw kvs (.inr x) (.ref b))) b=some (.lst (aY [])):=by
     rw[am (λz=>by rw[z,hI.d] at hb0;cases hb0),af]
     rfl
    have hvb:bf (bw kvs (.inr x) (.ref b)) (.inr x)=some (.ref b):=by rw[ox,if_pos rfl]
    have hkl1:(bw kvs (.inr x) (.ref b)).length=(pT T x []).length:=h1.t.len;generalize bw kvs (.inr x) (.ref b)=kvs1 at*;generalize pT T x []=T1 at*;generalize av (av G' b (.lst [])) p (.dic kvs1)=G1 at*;refine⟨_,.lst (h1.le _ _ hn),by (clear h5 hkl hTl hkl1;lia),?_⟩;refine re _ _ (λj τ G2=>∃t4 t5 T L,τ=[some (.scr ns),some (.ref pn),some (.ref p),some (.int (i:Int)),some (.int t4),t5]/\ow G G2 p kvs1 T (i+1) (vk names)/\G2 b=some (.lst (aY L))/\L.length<=j/\∀y,y∈L->y∈names) ⟨_,_,_,_,rfl,h1,gb1,zero_le _,λ_ h=>(nomatch h)⟩ ?_ ?_
    ·rintro τ G2 ⟨t4,t5,T2,L,rfl,h2,gb2,hL⟩;refine⟨trivial,?_⟩;walk_at "R";exact hk _ _ ⟨_,_,_,_,_,rfl,h2⟩
    ·rintro j τ G2 kk2 hj ⟨t4,t5,T2,L,rfl,h2,gb2,hL⟩ hk2;refine⟨trivial,?_⟩;refine aK λU3 hU3=>?_;walk_at "R";have gn2:=h2.le _ _ hn;refine zO (G:=G2) (F:=λG3=>∃T3 L3,ow G G3 p kvs1 T3 (i+1) (vk names)/\G3 b=some (.lst (aY L3))/\L3.length<=j+1/\∀y,y∈L3->y∈names) (λG3 h3=>?_) (λ_=>⟨T2,L,h2,gb2,Nat.le_succ_of_le hL.1,hL.2⟩) (λz zz=>?_)
     ·obtain⟨T3,L3,h3,gb3,hL3⟩:=h3;subst hU3;walk_at "R";exact hk2 _ _ ⟨_,_,T3,L3,rfl,h3,gb3,hL3⟩
     ·have hLy:=hL.2;have hL:=hL.1;obtain⟨y,hy,hym⟩:=gF (L:=names) (i:=(i:Int)+1+(j:Int)) (by (clear hn0 hn1 hlen hi h5 hkl1 hj z hL;lia)) (by (clear hn0 hn1 h5 hkl hTl hkl1 hL;lia));have hlL:(aY L).length=L.length:=length_map ..;refine⟨_,_,gn2,hx,kvs1,_,.inl h2.d,hvb,⟨_,gb2⟩,_,_,gn2,hy,_,gb2,by (clear hi h5 hkl1 hL;lia),?_⟩;rw[show aY L++[W.str y]=aY (L++[y]) by simp[aY]];have hmem:∀u,u∈L++[y]->u∈names:=λu hu=>by
       rcases mem_append.mp hu with hu | hu
       ·exact hLy u hu
       ·rw[mem_singleton.mp hu];exact hym
      obtain⟨T3,h3⟩:=h2.app hvb gb2 (L:=L++[y]) ⟨by rw[length_append];show L.length+1<=20;(clear hi h5 hkl1 hL;lia),hmem⟩;exact zz _ ⟨T3,L++[y],h3,af,by rw[length_append];exact Nat.succ_le_succ hL,hmem⟩
noncomputable def zQ:cm:=λws G q _=>∃(h c:Addr) (R:List (Str×Nat)) (hp:List (Str×Int)),ws=[.ref h,.ref c]/\h≠c/\G c=some (.dic (bG R))/\G h=some (.dic (aB hp))/\(hp.map (·.1)).Nodup/\hp.length<=100/\
 ∀p G' hp',aZ G G'->G p=none->G' p=some (.dic (aB hp'))->(hp'.map (·.1)).Nodup->(∀e,e∈hp'->e∈hp/\(gT R e.1).isSome=true)->hp'.length<=hp.length->q (.ref p) G'
theorem rX (R:List (Str×Nat)) (k:Str):(bf (bG R) (.inr k)).isSome=(gT R k).isSome:=by
 rw[dq];cases gT R k<;> rfl
theorem rY (h:List (Str×Int)) (k:Str):(bf (aB h) (.inr k)).isSome=(gT h k).isSome:=by
 rw[dt];cases gT h k<;> rfl
theorem kr {G G':Gp} {h:Addr} {g0:GO} (hh:G h=some g0) (k:∀y gy,y≠h->G y=some gy->G' y=some gy):aZ G (av G' h g0):=λy gy e=>by
 by_cases yh:y=h
 ·rw[yh,hh] at e;cases e;rw[yh];exact af
 ·rw[am yh];exact k _ _ yh e
theorem BA (F:dX K "_law_ranked" "_law_ranked" (aQ 34) f fd):dU P w K mg base 1 f fd ["_law_heap_here","_law_ranking"] zQ:=by
 refine jf F (N:=["_law_heap_here","_law_ranking","_law_ranked_here","_law_kind","_law_many"]) (by walk_at "s") (by walk_at "l") λ_ _ _ _ _ _ nd hr=>?_;apply bq
 ·exact(ae (aA 2 nd rfl (.inl rfl) cZ) (ae (cG (bO PySem.PassesOwn.never rfl (dm 0 rfl (.inl rfl)) (gj rfl (bL (bd 3 nd rfl (.inl rfl)) (bL (bd 4 nd rfl (.inl rfl)) eM))) (ae (bc (aI (rp hr) (aa 3) (aa 1) rfl) (ae (bV (aa 4) (aa 2) (aa 3)) ak) ak) ak))) (ae (aO (aa 2)) ak)))
 ·rintro ws G q e ⟨h,c,R,hp,rfl,hc0,hc,hh,hn,hl,hq⟩;walk_at "a0";intro p hp0;have hpn:h≠p:=λz=>by rw[z,hp0] at hh;cases hh
  have cpn:c≠p:=λz=>by rw[z,hp0] at hc;cases hc
  walk_at "a";refine⟨h,_,(am hpn).trans hh,_,(am hpn).trans hh,λo us=>?_⟩;refine bh (λws τ G'=>∃(todo dn a:List (Str×Int)) (t5 t6:Option W),ws=((aB todo).map λp=> .tup [kW p.1,p.2])/\hp=dn++todo/\τ=[some (.ref h),some (.ref c),some (.ref p),t5,t6]/\G' h=some (.fdc o us (aB hp))/\G' p=some (.dic (aB a))/\(∀y gy,y≠h->G y=some gy->G' y=some gy)/\(a.map (·.1)).Nodup/\(∀e,e∈a->e∈hp/\(gT R e.1).isSome=true)/\a.length<=dn.length) ?_ ?_ _ _ _ ⟨hp,[],[],none,none,rfl,rfl,rfl,af,(am hpn.symm).trans af,λy gy yh e=>(am yh).trans (au e hp0),nodup_nil,(λ_ h=>(nomatch h)),le_refl _⟩
  ·rintro τ G' ⟨todo,dn,a,t5,t6,hw,hd,rfl,gh,gp,gk,h1,h2,h3⟩;have e0:todo=[]:=by simpa[aB] using hw.symm
   subst e0;rw[append_nil] at hd;subst hd;refine⟨gh,o,us,_,gh,?_⟩;subst hU;walk_at "R";exact aZ.done (hq p _ a (kr hh gk) hp0 ((am hpn.symm).trans gp) h1 h2 h3)
  ·rintro w1 ws τ G' kk ⟨todo,dn,a,t5,t6,hw,hd,rfl,gh,gp,gk,h1,h2,h3⟩ hkk;cases todo with
   | nil=>cases hw
   | cons y todo=>
     cases hw;refine⟨gh,?_⟩;have ly:=congrArg List.length hd;rw[length_append] at ly;have hy:y∈hp:=by rw[hd];exact mem_append_right _ mem_cons_self
     have hd':hp=(dn++[y])++todo:=by rw[hd,append_assoc];rfl
     have l1:(dn++[y]).length=dn.length+1:=by rw[length_append];rfl
     simp only[jR,eX,jQ,cV,set_cons_succ,set_cons_zero];refine⟨rfl,?_⟩;rw[show kW (Sum.inr y.1:aC)=W.str y.1 from rfl];walk_at "R";refine⟨_,.dic (.inl (gk _ _ hc0.symm hc)),?_⟩;rw[rX];refine dL (λz=>?_) λz=>hkk _ _ ⟨todo,dn++[y],a,_,_,rfl,hd',rfl,gh,gp,gk,h1,h2,by (clear hl ly;lia)⟩;refine⟨p,y.1,_,rfl,rfl,gp,by rw[bS];lia,?_⟩;rw[cA];refine hkk _ _ ⟨todo,dn++[y],pT a y.1 y.2,_,_,rfl,hd',rfl,(am hpn).trans gh,af,λx gx xh e=>(am (λz=>by rw[z,hp0] at e;cases e)).trans (gk _ _ xh e),eZ h1,λe he=>?_,by have:=dG a y.1 y.2;(clear hl ly;lia)⟩;rcases gA he with he | he
     ·exact h2 e he
     ·rw[he];exact⟨hy,z⟩
structure gH (gv:List (Str×Int)):Prop where
 n:(gv.map (·.1)).Nodup
 b:∀e,e∈gv->0<=e.2/\e.2<=10^50
theorem gH.nil:gH []:=⟨nodup_nil,λ_ h=>(nomatch h)⟩
theorem gH.put {gv:List (Str×Int)} (h:gH gv) (k:Str) {v:Int} (h0:0<=v) (h1:v<=10^50):gH (pT gv k v):=⟨eZ h.n,λe he=>by
 rcases gA he with he | he
 ·exact h.b e he
 ·rw[he];exact⟨h0,h1⟩⟩
noncomputable def zR:cm:=λws G q _=>∃(cell:Int) (kind:Str) (r pn:Addr) (kvs:List (aC×W)) (T:bQ Str) (names:List Str),ws=[.int cell,.str kind,.ref r,.ref pn]/\G r=some (.dic kvs)/\eJ G kvs T/\(∀e,e∈T->e.2.length<=20)/\G pn=some (.lst (aY names))/\1<=names.length/\names.length<=10/\
 ∀p G' gv,aZ G G'->G p=none->G' p=some (.dic (aB gv))->gH gv->gv.length<=21->q (.ref p) G'
theorem BB (F:dX K "_law_given" "_law_given" (aQ 35) f fd) (F2:Fx P w K mg base "_law_amount" ["_law_cell"] 1 xv) (ml:mg "len"=none):dU P w K mg base 2 f fd ["_law_cell","_law_kind","_law_rules_here","_law_kinds"] zR:=by
 refine jf (k:=1) F (N:=["_law_cell","_law_kind","_law_rules_here","_law_kinds","_law_given_here","_law_other","_law_odd"]) (by walk_at "s") (by walk_at "l") λ_ _ _ _ _ _ nd hr=>?_;apply bq
 ·exact(ae (aA 4 nd rfl (.inl rfl) cZ) (ae (bO PySem.PassesOwn.never rfl (eT (fS (aa 2) (aa 1) (cg aq))) (bd 5 nd rfl (.inl rfl)) (ae (bV (ba F2 (aR.mono hr (by omega)) rfl (ah (aT cM (aT wZ (aa 0) ao) (aT bR (aT mz ao ao) ao)) aq)) (aa 4) (aa 5)) (ae (aA 0 nd rfl (.inl rfl) (aT df (aa 0) ao)) ak))) (ae (aA 6 nd rfl (.inl rfl) (aE aG (aa 3) (aT cM (aa 0) (bo bT rfl ml PySem.boot_len (ah (aa 3) aq))))) (ae (bc (ja (iC (aI (dP hr) (aT cM (aT df (aa 0) ao) ao) ao (dv _)) (fG (aI (cP hr) (aa 6) (aa 4) rfl)))) (ae (bV (aT cM (aT df (aa 0) ao) ao) (aa 4) (aa 6)) ak) ak) (ae (aO (aa 4)) ak)))))
 ·rintro ws G q e ⟨cell,kind,r,pn,kvs,T,names,rfl,hr0,ht,hTe,hn,hn0,hn1,hq⟩;walk_at "a0";intro p hp;walk_at "a";refine⟨⟨_,au hr0 hp⟩,λp1 hp1=>⟨kind,kvs,rfl,au (au hr0 hp) hp1,?_⟩⟩;obtain⟨a,L,ea,ga,hL⟩:∃a L,(bf kvs (.inr kind)).getD (.ref p1)=.ref a/\av (av G p (.dic [])) p1 (.lst []) a=some (.lst (aY L))/\L.length<=20:=by
   rcases ht.val kind with⟨_,e2⟩ | ⟨L,b,e1,e2,gb⟩
   ·exact⟨p1,[],by rw[e2];rfl,af,zero_le _⟩
   ·exact⟨b,L,by rw[e2];rfl,au (au gb hp) hp1,hTe _ (cB e1)⟩
  rw[ea];have le1:aZ G (av (av G p (.dic [])) p1 (.lst [])):=(aZ.new hp).trans (aZ.new hp1);have gp1:av (av G p (.dic [])) p1 (.lst []) p=some (.dic (aB [])):=au af hp1;have ap:a≠p:=λz=>by rw[z,gp1] at ga;cases ga
  have hlen:(aY names).length=names.length:=length_map ..;generalize av (av G p (.dic [])) p1 (.lst [])=G1 at ga le1 gp1 ⊢;have gn1:=le1 _ _ hn;have pnp:pn≠p:=λz=>by rw[z,gp1] at gn1;cases gn1
  have gle:∀G':Gp,(∀y,y≠p->G' y=G1 y)->aZ G G':=λG' gk y gy e=>by rw[gk y (λz=>by rw[z,hp] at e;cases e)];exact le1 _ _ e
  refine⟨_,ga,?_⟩;refine bh (λws τ G'=>∃(todo dn:List Str) (gv:List (Str×Int)) (cell:Int) (t5:Option W),ws=aY todo/\L=dn++todo/\τ=[some (.int cell),some (.str kind),some (.ref r),some (.ref pn),some (.ref p),t5,none]/\G' p=some (.dic (aB gv))/\(∀y,y≠p->G' y=G1 y)/\gH gv/\gv.length<=dn.length) ?_ ?_ _ _ _ ⟨L,[],[],cell,none,rfl,rfl,rfl,gp1,λ_ _=>rfl,.nil,le_refl _⟩
  ·rintro τ G' ⟨todo,dn,gv,cell,t5,hw,hd,rfl,gp,gk,go,gl⟩;have e0:todo=[]:=by simpa[aY] using hw.symm
   subst e0;rw[append_nil] at hd;subst hd;refine⟨(gk a ap).trans ga,?_⟩;subst hU;dsimp only;walk_at "a0";have gn:=(gk pn pnp).trans gn1;have hm:=kg (i:=cell) (j:=((aY names).length:Int)) (by (clear hL gl;omega));obtain⟨x,hx,_⟩:=gF (L:=names) (i:=cell% ((aY names).length:Int)) hm.1 (by (clear hn0 hn1 hL gl;omega));refine⟨_,.lst gn,by (clear hL gl hm;omega),_,_,gn,hx,?_⟩;walk_at "a";refine zO (G:=G') (F:=λG3=>∃gv,aZ G G3/\G3 p=some (.dic (aB gv))/\gH gv/\gv.length<=21) (λG3 h3=>?_) (λ_=>⟨gv,gle _ gk,gp,go,by (clear hn0 hn1 hlen hm;omega)⟩) (λz zz=>?_)
   ·obtain⟨gv3,le3,gp3,go3,gl3⟩:=h3;subst hU;walk_at "R";exact aZ.done (hq p G3 gv3 le3 hp gp3 go3 gl3)
   ·refine⟨_,.dic (.inl gp),dL (λy=>?_) λy=>zz _ ⟨gv,gle _ gk,gp,go,by (clear hn0 hn1 hlen hm z;omega)⟩⟩;refine⟨p,x,_,rfl,rfl,gp,by rw[bS];(clear hn0 hn1 hlen hm z;omega),?_⟩;rw[cA];refine zz _ ⟨_,(gle _ gk).put hp,af,go.put x ?_ ?_,?_⟩
    ·(clear hn0 hn1 hL hlen gl hm z;omega)
    ·(clear hn0 hn1 hL hlen gl hm z;omega)
    ·have:=dG gv x (cell/48%2)
     (clear hn0 hn1 hlen hm z;omega)
  ·rintro w1 ws τ G' kk ⟨todo,dn,gv,cell,t5,hw,hd,rfl,gp,gk,go,gl⟩ hkk;cases todo with
   | nil=>cases hw
   | cons y todo=>
     cases hw;refine⟨(gk a ap).trans ga,?_⟩;have ly:=congrArg List.length hd;rw[length_append] at ly;have hd':L=(dn++[y])++todo:=by rw[hd,append_assoc];rfl
     have l1:(dn++[y]).length=dn.length+1:=by rw[length_append];rfl
     walk_at "c0";refine⟨by decide,_,rfl,λv v0 v1=>⟨p,y,_,rfl,rfl,gp,by rw[bS];(clear hn0 hn1 hlen v0 v1;omega),?_⟩⟩;rw[cA];subst hU2;walk_at "R";have:=dG gv y v;exact hkk _ _ ⟨todo,dn++[y],pT gv y v,_,_,rfl,hd',rfl,af,λx xp=>(am xp).trans (gk x xp),go.put y v0 v1,by (clear hn0 hn1 hL hlen ly v0 v1;omega)⟩
noncomputable def zS:cm:=λws G q _=>∃(r h g:Addr) (k:Str) (kvs:List (aC×W)) (T:bQ Str) (hp gv:List (Str×Int)),ws=[.ref r,.ref h,.str k,.ref g]/\lH G r h g kvs T hp gv/\(∀e,e∈hp->0<e.2)/\∀b:Bool,(b=true↔pK T hp k gv)->q (.bl b) G
theorem BC (F:dX K "_law_allowed" "_law_allowed" (aQ 36) f fd):dU P w K mg base 1 f fd ["_law_rules_here","_law_heap_here","_law_kind","_law_given_here"] zS:=by
 refine jf F (N:=["_law_rules_here","_law_heap_here","_law_kind","_law_given_here","_law_other","_law_many"]) (by walk_at "s") (by walk_at "l") λ_ _ _ _ _ _ nd hr=>?_;apply bq
 ·exact(ae (bc (ja (kL (aI (cP hr) (aa 2) (aa 0) rfl) (iB (aI (cP hr) (aa 2) (aa 1) rfl)))) (ae (aO cK) ak) ak) (ae (cG (bO PySem.PassesOwn.never rfl (dm 3 rfl (.inl rfl)) (gj rfl (bL (bd 4 nd rfl (.inl rfl)) (bL (bd 5 nd rfl (.inl rfl)) eM))) (ae (bc (ja (iC (aI kN (aa 5) ao (dv _)) (fG (aI (cP hr) (aa 4) (aE aG (aa 0) (aa 2)) rfl)))) (ae (aO cK) ak) ak) ak))) (ae (aO cK) ak)))
 ·rintro ws G q e ⟨r,h,g,k,kvs,T,hp,gv,rfl,x,hpp,hq⟩;walk_at "a0";refine⟨_,.dic (.inl x.hr),?_⟩;rw[x.tb.has];refine dL (λhn=>aZ.done (hq false ⟨λz=>(nomatch z),λal=>by rw[al.1] at hn;cases hn⟩)) λhk=>⟨_,.dic (.inl x.hh),?_⟩;rw[rY];refine dL (λhn=>aZ.done (hq false ⟨λz=>(nomatch z),λal=>absurd ?_ al.2.1⟩)) λhk2=>?_
  ·unfold aW;cases e0:gT hp k with
   | none=>rfl
   | some v=>rw[e0] at hn;cases hn
  have hk:(gT T k).isSome=true:=by cases e0:(gT T k).isSome with | true=>rfl | false=>exact absurd e0 hk
  have hz:aW hp k≠0:=by
   unfold aW;cases e0:gT hp k with
   | none=>rw[e0] at hk2;exact absurd rfl hk2
   | some v=>
     have:=hpp _ (cB e0);intro z;rw[show v=0 from z] at this;exact absurd this (Int.lt_irrefl _)
  obtain⟨L,b,eL,eb,gb⟩:∃L b,gT T k=some L/\bf kvs (.inr k)=some (.ref b)/\G b=some (.lst (aY L)):=by
   rcases x.tb.val k with⟨e0,_⟩ | h
   ·rw[e0] at hk;cases hk
   ·exact h
  have hoth:j6 T k=L:=by unfold j6;rw[eL];rfl
  have bg:b≠g:=λz=>by rw[z,x.hg] at gb;cases gb
  have tl:∀{b:Bool},(b=true↔pK T hp k gv)->∀o us,∃G0,aZ G0 (av (av G g (.fdc o us (aB gv))) g (.dic (aB gv)))/\q (.bl b) G0:=λhb o us=>⟨G,kr x.hg λy gy yg e=>(am yg).trans e,hq _ hb⟩;walk_at "a";refine⟨g,_,x.hg,_,x.hg,λo us=>?_⟩;refine bh (λws τ G'=>∃(todo dn:List (Str×Int)) (t5 t6:Option W),ws=((aB todo).map λp=> .tup [kW p.1,p.2])/\gv=dn++todo/\(∀p,p∈dn->0<p.2->p.1∈j6 T k)/\τ=[some (.ref r),some (.ref h),some (.str k),some (.ref g),t5,t6]/\G'=av G g (.fdc o us (aB gv))) ?_ ?_ _ _ _ ⟨gv,[],none,none,rfl,rfl,(λ_ h=>(nomatch h)),rfl,rfl⟩
  ·rintro τ G' ⟨todo,dn,t5,t6,hw,hd,hin,rfl,rfl⟩;have h0:todo=[]:=by simpa[aB] using hw.symm
   subst h0;rw[append_nil] at hd;subst hd;refine⟨af,o,us,_,af,?_⟩;subst hU;walk_at "R";exact tl ⟨λ_=>⟨hk,hz,hin⟩,λ_=>rfl⟩ o us
  ·rintro w1 ws τ G' kk ⟨todo,dn,t5,t6,hw,hd,hin,rfl,rfl⟩ hkk;cases todo with
   | nil=>cases hw
   | cons y todo=>
     cases hw;refine⟨af,?_⟩;have hd':gv=(dn++[y])++todo:=by rw[hd,append_assoc];rfl
     simp only[jR,eX,jQ,cV,set_cons_succ,set_cons_zero];refine⟨rfl,?_⟩;rw[show kW (Sum.inr y.1:aC)=W.str y.1 from rfl];walk_at "R";refine v5 (F:=0<y.2->y.1∈L) (λhyL=>?_) (λhy h=>absurd h hy) (λhy z=>⟨kvs,_,.inl ((am x.rg).trans x.hr),eb,_,.lst ((am bg).trans gb) (ip L y.1),?_⟩)
     ·refine hkk _ _ ⟨todo,dn++[y],_,_,rfl,hd',λu hu h0=>?_,rfl,rfl⟩;rcases mem_append.mp hu with hu | hu
      ·exact hin u hu h0
      ·rw[mem_singleton] at hu;rw[hu,hoth];rw[hu] at h0;exact hyL h0
     ·show @ite Prop ((aY L).any (λw=>w.eq (.str y.1))=false) _ _ _;rw[km];refine dL (λhn=>?_) λhn=>z λ_=>Decidable.of_not_not λz=>hn (decide_eq_false z);refine⟨o,us,_,af,tl (b:=false) ⟨λz=>(nomatch z),λal=>?_⟩ o us⟩;have:=al.2.2 y (by rw[hd];exact mem_append_right _ mem_cons_self) hy;rw[hoth] at this;exact absurd this (of_decide_eq_false hn)
noncomputable def zT:cm:=λws G q _=>∃(h g:Addr) (k:Str) (hp gv:List (Str×Int)),ws=[.ref h,.str k,.ref g]/\h≠g/\G h=some (.dic (aB hp))/\G g=some (.dic (aB gv))/\ia hp/\ia gv/\(∀e,e∈hp->0<e.2)/\aW hp k≠0/\
 ∀p G' b,aZ G G'->G p=none->G' p=some (.dic (aB b))->(b.map (·.1)).Nodup->(∀e,e∈b->0<e.2)->(∀j,aW b j=aW hp j+aW gv j- (if j=k then 1 else 0))->b.length<=200->q (.ref p) G'
theorem rZ {h:List (Str×Int)} {k:Str} (hk:k∉h.map (·.1)):aW h k=0:=by
 unfold aW;rw[fN hk]
 rfl
theorem gJ (h:List (Str×Int)):((aB h).map λp=>kW p.1)=aY (h.map (·.1)):=by
 unfold aB aY;rw[map_map,map_map]
 rfl
noncomputable def kt (hp gv:List (Str×Int)) (k j:Str):Int:=aW hp j+aW gv j- (if j=k then 1 else 0)
theorem uF {hp gv:List (Str×Int)} {k:Str} (ho:ia hp) (go:ia gv) (hz:aW hp k≠0) (j:Str):0<=kt hp gv k j:=by
 have a:=eB ho.p j;have b:=eB go.p j;unfold kt;split
 ·rename_i e;have c:=eB ho.p k;rw[e] at b ⊢
  (clear a;lia)
 ·(clear hz;lia)
theorem BD (F:dX K "_law_behind" "_law_behind" (aQ 37) f fd) (ml:mg "list"=none) (mi:mg "int"=none):dU P w K mg base 1 f fd ["_law_heap_here","_law_kind","_law_given_here"] zT:=by
 refine jf F (N:=["_law_heap_here","_law_kind","_law_given_here","_law_behind_here","_law_other","_law_many"]) (by walk_at "s") (by walk_at "l") λ_ _ _ _ _ _ nd hr=>?_;apply bq
 ·exact(ae (aA 3 nd rfl (.inl rfl) cZ) (ae (bO PySem.PassesOwn.never rfl (eT (aT bR (bv (im rfl) rfl ml jV (ah (aa 0) aq)) (bv (im rfl) rfl ml jV (ah (aa 2) aq)))) (bd 4 nd rfl (.inl rfl)) (ae (aA 5 nd rfl (.inl rfl) (aT uZ (aT bR (fS (aa 0) (aa 4) ao) (fS (aa 2) (aa 4) ao)) (bv yz rfl mi PyProof.Rows.boot_int (ah (gf (dP hr) (aa 4) (aa 1)) aq)))) (ae (bc (aI kN (aa 5) ao) (ae (bV (aa 5) (aa 3) (aa 4)) ak) ak) ak))) (ae (aO (aa 3)) ak)))
 ·rintro ws G q e ⟨h,g,k,hp,gv,rfl,hg0,hh,hg,ho,go,hpp,hz,hq⟩;walk_at "a0";intro p hp0;walk_at "a";have hph:h≠p:=λz=>by rw[z,hp0] at hh;cases hh
  have hpg:g≠p:=λz=>by rw[z,hp0] at hg;cases hg
  refine⟨_,.dic (.inl (au hh hp0)),λp1 hp1=>⟨_,.dic (.inl (au (au hg hp0) hp1)),λp2 hp2=>?_⟩⟩;rw[gJ] at hp2;rw[gJ,gJ];have ne12:p1≠p2:=λz=>by rw[←z,af] at hp2;cases hp2
  refine⟨_,_,(am ne12).trans af,af,?_,λp3 hp3=>?_⟩
  ·have:=ho.l;have:=go.l;rw[show(aY (hp.map (·.1))).length=hp.length by simp[aY],show(aY (gv.map (·.1))).length=gv.length by simp[aY]]
   (clear hz;lia)
  have le1:aZ G (av (av (av (av G p (GO.dic [])) p1 (GO.lst (aY (hp.map (·.1))))) p2 (GO.lst (aY (gv.map (·.1))))) p3 (GO.lst (aY (hp.map (·.1))++aY (gv.map (·.1))))):=(((aZ.new hp0).trans (aZ.new hp1)).trans (aZ.new hp2)).trans (aZ.new hp3);have gp1:av (av (av (av G p (GO.dic [])) p1 (GO.lst (aY (hp.map (·.1))))) p2 (GO.lst (aY (gv.map (·.1))))) p3 (GO.lst (aY (hp.map (·.1))++aY (gv.map (·.1)))) p=some (.dic (aB [])):=au (au (au af hp1) hp2) hp3;have g31:av (av (av (av G p (GO.dic [])) p1 (GO.lst (aY (hp.map (·.1))))) p2 (GO.lst (aY (gv.map (·.1))))) p3 (GO.lst (aY (hp.map (·.1))++aY (gv.map (·.1)))) p3=some (.lst (aY (hp.map (·.1)++gv.map (·.1)))):=by rw[af];unfold aY;rw[map_append]
  generalize av (av (av (av G p (GO.dic [])) p1 (GO.lst (aY (hp.map (·.1))))) p2 (GO.lst (aY (gv.map (·.1))))) p3 (GO.lst (aY (hp.map (·.1))++aY (gv.map (·.1))))=G1 at le1 gp1 g31 ⊢;have p3p:p3≠p:=λz=>by rw[←z,g31] at gp1;cases gp1
  have gh1:=le1 _ _ hh;have gg1:=le1 _ _ hg;refine⟨_,g31,?_⟩;have hlK:(hp.map (·.1)++gv.map (·.1)).length<=200:=by rw[length_append,length_map,length_map];have:=ho.l;have:=go.l;(clear hz;lia)
  have hin:∀j,j∉hp.map (·.1)++gv.map (·.1)->kt hp gv k j=0:=λj hj=>by
   rw[mem_append,not_or] at hj;have a:=rZ hj.1;have b:=rZ hj.2;unfold kt;rw[if_neg (λz=>hz (by rw[←z];exact a)),a,b]
   rfl
  generalize hp.map (·.1)++gv.map (·.1)=Ks at g31 hlK hin ⊢;refine bh (λws τ G'=>∃(todo dn:List Str) (b:List (Str×Int)) (t4 t5:Option W),ws=aY todo/\Ks=dn++todo/\τ=[some (.ref h),some (.str k),some (.ref g),some (.ref p),t4,t5]/\G' p=some (.dic (aB b))/\(∀y,y≠p->G' y=G1 y)/\(b.map (·.1)).Nodup/\(∀e,e∈b->0<e.2)/\(∀j,aW b j=if j∈dn then kt hp gv k j else 0)/\b.length<=dn.length) ?_ ?_ _ _ _ ⟨Ks,[],[],none,none,rfl,rfl,rfl,gp1,λ_ _=>rfl,nodup_nil,(λ_ h=>(nomatch h)),λj=>by rw[if_neg (λz=>(nomatch z))];rfl,le_refl _⟩
  ·rintro τ G' ⟨todo,dn,b,t4,t5,hw,hd,rfl,gp,gk,h1,h2,h3,h4⟩;have e0:todo=[]:=by simpa[aY] using hw.symm
   subst e0;rw[append_nil] at hd;subst hd;refine⟨(gk _ p3p).trans g31,?_⟩;subst hU;walk_at "R";refine aZ.done (hq p G' b (λy gy e=>by rw[gk y (λz=>by rw[z,hp0] at e;cases e)];exact le1 _ _ e) hp0 gp h1 h2 (λj=>?_) (le_trans h4 hlK));rw[h3 j];split
   ·rfl
   ·exact(hin j ‹_›).symm
  ·rintro w1 ws τ G' kk ⟨todo,dn,b,t4,t5,hw,hd,rfl,gp,gk,h1,h2,h3,h4⟩ hkk;cases todo with
   | nil=>cases hw
   | cons y todo=>
     cases hw;refine⟨(gk _ p3p).trans g31,?_⟩;have ly:=congrArg List.length hd;rw[length_append] at ly;have hd':Ks=(dn++[y])++todo:=by rw[hd,append_assoc];rfl
     have l1:(dn++[y]).length=dn.length+1:=by rw[length_append];rfl
     have nn:=uF ho go hz y;walk_at "c0";have gh':=(gk h hph).trans gh1;have gg':=(gk g hpg).trans gg1;refine⟨⟨_,gh'⟩,y,_,rfl,gh',⟨_,gg'⟩,y,_,rfl,gg',?_⟩;rw[fV,fV];refine⟨rfl,rfl,Nat.le_of_ble_eq_true rfl,?_⟩;rw[show aW hp y+aW gv y- (if (W.str y).eq (W.str k)=true then 1 else 0)=kt hp gv k y by unfold kt;rw[cQ];simp only[decide_eq_true_eq]];subst hU2;walk_at "R";refine dL (λz=>⟨p,y,_,rfl,rfl,gp,by rw[bS];(clear hz nn z;lia),?_⟩) λz=>?_
     ·rw[cA];have:=dG b y (kt hp gv k y);refine hkk _ _ ⟨todo,dn++[y],pT b y (kt hp gv k y),_,_,rfl,hd',rfl,af,λx xp=>(am xp).trans (gk x xp),eZ h1,λe he=>?_,λj=>?_,by (clear hz hlK ly nn z;lia)⟩
      ·rcases gA he with he | he
       ·exact h2 e he
       ·rw[he];exact z
      ·rw[kc]
       by_cases e:j=y
       ·rw[if_pos e,if_pos (by rw[e];exact mem_append_right _ mem_cons_self),e]
       ·rw[if_neg e,h3 j];simp only[mem_append,mem_singleton,e,or_false]
     ·refine hkk _ _ ⟨todo,dn++[y],b,_,_,rfl,hd',rfl,gp,gk,h1,h2,λj=>?_,by (clear hz hlK ly nn z;lia)⟩;rw[h3 j]
      by_cases e:j=y
      ·rw[if_pos (c:=j∈dn++[y]) (by rw[e];exact mem_append_right _ mem_cons_self),e];split
       ·rfl
       ·(clear hz hlK h4 ly l1;lia)
      ·simp only[mem_append,mem_singleton,e,or_false]
structure lK (rk:Str->Int) (dn:List (Str×Int)) (kv:List (aC×W)):Prop where
 k:∀p,p∈kv->∃n,p.1=.inl n
 n:(kv.map (·.1)).Nodup
 v:∀r:Int,bf kv (.inl r)=if r∈dn.map (λp=>rk p.1) then some (.int (di rk r dn)) else none
 l:kv.length<=dn.length
theorem jF (rk:Str->Int) (r:Int) (y:Str×Int):∀dn:List (Str×Int),di rk r (dn++[y])=di rk r dn+(if rk y.1=r then y.2 else 0)
 | []=>by show(if rk y.1=r then y.2 else 0)+0=0+_;lia
 | p::dn=>by show(if rk p.1=r then p.2 else 0)+di rk r (dn++[y])=(if rk p.1=r then p.2 else 0)+di rk r dn+_;rw[jF rk r y dn,Int.add_assoc]
theorem oy {rk:Str->Int} {r:Int}:∀{dn:List (Str×Int)},r∉dn.map (λp=>rk p.1)->di rk r dn=0
 | [],_=>rfl
 | p::dn,h=>by
   rw[map_cons,mem_cons,not_or] at h;show(if rk p.1=r then p.2 else 0)+di rk r dn=0;rw[if_neg (λz=>h.1 z.symm),oy h.2]
   rfl
theorem lK.get {rk:Str->Int} {dn:List (Str×Int)} {kv:List (aC×W)} (h:lK rk dn kv) (r:Int):(bf kv (.inl r)).getD (.int 0)=.int (di rk r dn):=by
 rw[h.v];split
 ·rfl
 ·rw[oy ‹_›];rfl
theorem r6 {kvs:List (aC×W)} {k:aC} {w:W} {e:aC×W} (h:e∈bw kvs k w):(∃e',e'∈kvs/\e.1=e'.1)∨e.1=k:=by
 unfold bw at h;split at h
 ·obtain⟨x,hx,rfl⟩:=mem_map.mp h
  by_cases z:x.1=k
  ·rw[if_pos z];exact .inr z
  ·rw[if_neg z];exact .inl ⟨x,hx,rfl⟩
 ·rcases mem_append.mp h with h | h
  ·exact .inl ⟨e,h,rfl⟩
  ·cases mem_singleton.mp h;exact .inr rfl
theorem eE (kvs:List (aC×W)) (k:aC) (w:W):(bw kvs k w).length<=kvs.length+1:=by
 unfold bw;split
 ·rw[length_map];lia
 ·rw[length_append];exact le_refl _
theorem uG {kvs:List (aC×W)} (k:aC) (w:W) (h:(kvs.map (·.1)).Nodup):((bw kvs k w).map (·.1)).Nodup:=by
 unfold bw;split
 ·rw[map_map];rw[show((λx=>x.1) ∘ λkv:aC×W=>if kv.1=k then (kv.1,w) else kv)=(·.1) by funext x;simp only[Function.comp];split<;> rfl];exact h
 ·rename_i z;rw[map_append];refine nodup_append.mpr ⟨h,nodup_cons.mpr ⟨λz=>(nomatch z),nodup_nil⟩,λa ha b hb e=>?_⟩;cases mem_singleton.mp hb;obtain⟨x,hx,rfl⟩:=mem_map.mp ha;exact z (any_eq_true.mpr ⟨x,hx,decide_eq_true e⟩)
theorem lK.put {rk:Str->Int} {dn:List (Str×Int)} {kv:List (aC×W)} (h:lK rk dn kv) (y:Str×Int):lK rk (dn++[y]) (bw kv (.inl (rk y.1)) (.int (di rk (rk y.1) dn+y.2))):=by
 refine⟨λp hp=>?_,uG _ _ h.n,λr=>?_,?_⟩
 ·rcases r6 hp with⟨e',he,e⟩ | e
  ·rw[e];exact h.k e' he
  ·exact⟨_,e⟩
 ·rw[ox,jF,map_append]
  by_cases e:r=rk y.1
  ·rw[if_pos (by rw[e]),if_pos (by rw[e];exact mem_append_right _ mem_cons_self),if_pos e.symm,e]
  ·rw[if_neg (λz=>e (Sum.inl.inj z)),h.v,if_neg (c:=rk y.1=r) (λz=>e z.symm),Int.add_zero];simp only[mem_append,map_cons,map_nil,mem_singleton,e,or_false]
 ·have:=eE kv (.inl (rk y.1)) (.int (di rk (rk y.1) dn+y.2));have:=h.l;rw[length_append];show _<=dn.length+1;lia
theorem lK.keys {rk:Str->Int} {done:List (Str×Int)} {kv:List (aC×W)} (h:lK rk done kv) {ns:List Int} (hs:ns.Pairwise (·≥ ·)) (hP:ns.Perm (kv.map λp=>eI p.1)):(ns.Pairwise λa b=>b<a)/\∀e,e∈ns↔e∈done.map (λp=>rk p.1):=by
 have hk:∀p,p∈kv->p.1=.inl (eI p.1):=λp hp=>by
  obtain⟨n,hn⟩:=h.k p hp;rw[hn]
  rfl
 have hd:(kv.map λp=>eI p.1).Nodup:=by
  refine List.pairwise_map.mpr ((List.pairwise_map.mp h.n).imp_of_mem λ{a b} ha hb hab e=>hab ?_);rw[hk a ha,hk b hb,e]
 have hn:ns.Nodup:=hP.nodup_iff.mpr hd;refine⟨(hs.and hn).imp λ{a b} hab=>by have:=hab.1;have:=hab.2;lia,λe=>?_⟩;have v1:=h.v e;rw[hP.mem_iff];constructor
 ·intro he;obtain⟨p,hp,rfl⟩:=mem_map.mp he
  by_cases z:eI p.1∈done.map (λp=>rk p.1)
  ·exact z
  ·rw[if_neg z] at v1;unfold bf at v1;rw[Option.map_eq_none_iff,List.find?_eq_none] at v1;exact absurd (decide_eq_true (hk p hp)) (v1 p hp)
 ·intro he;rw[if_pos he] at v1;unfold bf at v1;obtain⟨p,hp,_⟩:=Option.map_eq_some_iff.mp v1;have h1:=List.mem_of_find?_eq_some hp;have h2:=List.find?_some hp;have h3:p.1=.inl e:=by simpa using h2
  exact mem_map.mpr ⟨p,h1,by rw[h3];rfl⟩
theorem r9 (v:Int->Int):∀ks:List Int,aP (i4 (ks.map λr=>(r,v r)))=ks.map λr=>fW (O.wh r) (v r)
 | []=>rfl
 | r::ks=>by
   show fW (O.wh r) (v r)::aP (i4 (ks.map λr=>(r,v r)))=_;rw[r9 v ks]
   rfl
noncomputable def zU:cm:=λws G q _=>∃(c h:Addr) (R:List (Str×Nat)) (hp:List (Str×Int)),ws=[.ref c,.ref h]/\c≠h/\G c=some (.dic (bG R))/\G h=some (.dic (aB hp))/\(∀p,p∈hp->0<p.2)/\(∀p,p∈hp->(gT R p.1).isSome=true)/\hp.length<=50/\∀G',aZ G G'->q (.tup (aP (iM (i5 R) hp .z))) G'
theorem BE (F:dX K "_law_number" "_law_number" (aQ 38) f fd) (ms:mg "sorted"=none) (mt:mg "tuple"=none):dU P w K mg base 1 f fd ["_law_told","_law_heap_here"] zU:=by
 refine jf F (N:=["_law_told","_law_heap_here","_law_together","_law_kind","_law_many","_law_parts","_law_rank","_law_exponent"]) (by walk_at "s") (by walk_at "l") λ_ _ _ _ _ _ nd hr=>?_;apply bq
 ·refine' ae ?s1 (ae (cG (bO PassesOwn.never rfl ?it ?tg (ci (show QS _ _ (m8 _ _ _) from rN (aT bR (show QE _ _ (m9 _ _ _) from rO ?g1 ?g2 ?g3) ?g4) ?d1 ?d2)))) (ae ?s2 (ae (bO PassesOwn.never rfl (eT (show QE _ _ (ni _) from rQ rfl rfl ms ?sn)) ?tg2 (ae ?b1 (ae ?b2 (ci (cU (fm ?a1 (bM (ah ?a2 (ah (aE (show wa _ rP from zA) ?a3 ?a4) aq))))))))) (ci ?rt))))
  case s1=>exact(aA 2 nd rfl (.inl rfl) cZ)
  case it=>exact(dm 1 rfl (.inl rfl))
  case tg=>exact(gj rfl (bL (bd 3 nd rfl (.inl rfl)) (bL (bd 4 nd rfl (.inl rfl)) eM)))
  case g1=>exact(aa 2)
  case g2=>exact(aE aG (aa 0) (aa 3))
  case g3=>exact ao
  case g4=>exact(aa 4)
  case d1=>exact(aa 2)
  case d2=>exact(aE aG (aa 0) (aa 3))
  case s2=>exact(aA 5 nd rfl (.inl rfl) (cg aq))
  case sn=>exact(aa 2)
  case tg2=>exact(bd 6 nd rfl (.inl rfl))
  case b1=>exact(aA 7 nd rfl (.inl rfl) (bM aq))
  case b2=>exact(bc (aI kN (aa 6) ao) (ae (aA 7 nd rfl (.inl rfl) (bM (ah (bM (ah (bM aq) (ah (aa 6) aq))) aq))) ak) ak)
  case a1=>exact(aa 5)
  case a2=>exact(aa 7)
  case a3=>exact(aa 2)
  case a4=>exact(aa 6)
  case rt=>exact(aO (bv nD rfl mt nH (ah (aa 5) aq)))
 ·rintro ws G q e ⟨c,h,R,hp,rfl,ch,hc,hh,h0,hR,hl,hq⟩;walk_at "a0";intro t ht;have ct:c≠t:=λz=>by rw[z,ht] at hc;cases hc
  have hnt:h≠t:=λz=>by rw[z,ht] at hh;cases hh
  walk_at "a";refine⟨h,_,(am hnt).trans hh,_,(am hnt).trans hh,λo us=>?_⟩;refine bh (λws τ G'=>∃(todo dn:List (Str×Int)) (kv:List (aC×W)) (t3 t4:Option W),ws=((aB todo).map λp=> .tup [kW p.1,p.2])/\hp=dn++todo/\τ=[some (.ref c),some (.ref h),some (.ref t),t3,t4,none,none,none]/\lK (i5 R) dn kv/\G' t=some (.dic kv)/\G' h=some (.fdc o us (aB hp))/\(∀y gy,y≠h->G y=some gy->G' y=some gy)) ?_ ?_ _ _ _ ⟨hp,[],[],none,none,rfl,rfl,rfl,⟨(λ_ h=>(nomatch h)),nodup_nil,λr=>by rw[if_neg (λz=>(nomatch z))];rfl,le_refl _⟩,(am hnt.symm).trans af,af,λy gy yh e=>(am yh).trans (au e ht)⟩
  ·rintro τ G' ⟨todo,dn,kv,t3,t4,hw,hd,rfl,tg,gt,gh,gk⟩;have e0:todo=[]:=by simpa[aB] using hw.symm
   subst e0;rw[append_nil] at hd;subst hd;refine⟨gh,o,us,_,gh,?_⟩;have le2:=kr hh gk;have gt2:av G' h (.dic (aB hp)) t=some (.dic kv):=(am hnt.symm).trans gt;generalize av G' h (.dic (aB hp))=G2 at le2 gt2 ⊢;subst hU;dsimp only;walk_at "a0";intro p hp0;have le3:=le2.trans (aZ.new (g:=GO.lst []) hp0);have gt3:=au (g:=GO.lst []) gt2 hp0;have gp3:=af (G:=G2) (a:=p) (g:=GO.lst []);have pt:p≠t:=λz=>by rw[z,gt2] at hp0;cases hp0
   have fp:G p=none:=aZ.none le2 hp0;generalize av G2 p (.lst [])=G3 at le3 gt3 gp3 ⊢;walk_at "a";simp only[ni,dc,List.getElem?_cons_zero,List.getElem?_cons_succ];have hkl:=tg.l;refine⟨kv,gt3,by lia,tg.k,λp4 ns hp4 hs hP=>⟨_,af,?_⟩⟩;obtain⟨k1,k2⟩:=tg.keys hs hP;have hnl:ns.length<=50:=by rw[hP.length_eq,length_map];lia
   have vv:∀r,r∈ns->bf kv (.inl r)=some (.int (di (i5 R) r hp)):=λr hr=>by rw[tg.v,if_pos ((k2 r).mp hr)]
   have n0:∀r,r∈ns->0<=r:=λr hr=>by
    obtain⟨e,_,he⟩:=mem_map.mp ((k2 r).mp hr);rw[←he];exact ft R _
   have le5:=le3.trans (aZ.new (g:=GO.lst (ns.map W.int)) hp4);have gt5:=au (g:=GO.lst (ns.map W.int)) gt3 hp4;have gp5:=au (g:=GO.lst (ns.map W.int)) gp3 hp4;have g45:=af (G:=G3) (a:=p4) (g:=GO.lst (ns.map W.int));have p4p:p4≠p:=λz=>by rw[z,gp3] at hp4;cases hp4
   generalize av G3 p4 (.lst (ns.map W.int))=G5 at le5 gt5 gp5 g45 ⊢;refine bh (λws τ G'=>∃(todo dn:List Int) (t6 t7:Option W),ws=todo.map W.int/\ns=dn++todo/\τ=[some (.ref c),some (.ref h),some (.ref t),t3,t4,some (.ref p),t6,t7]/\G' p=some (.lst (dn.map λr=>fW (O.wh r) (di (i5 R) r hp)))/\∀y,y≠p->G' y=G5 y) ?_ ?_ _ _ _ ⟨ns,[],none,none,rfl,rfl,rfl,gp5,λ_ _=>rfl⟩
   ·rintro τ G' ⟨todo,dn,t6,t7,hw,hd,rfl,gp,gk⟩;have e0:todo=[]:=by simpa using hw.symm
    subst e0;rw[append_nil] at hd;subst hd;refine⟨(gk _ p4p).trans g45,?_⟩;subst hU;walk_at "R";refine⟨_,gp,?_⟩;rw[←r9 (λr=>di (i5 R) r hp),←ze (ft R) h0 k1 k2];exact aZ.done (hq G' λy gy e=>by rw[gk y (λz=>by rw[z,fp] at e;cases e)];exact le5 _ _ e)
   ·rintro w1 ws τ G' kk ⟨todo,dn,t6,t7,hw,hd,rfl,gp,gk⟩ hkk;cases todo with
    | nil=>cases hw
    | cons r todo=>
      cases hw;refine⟨(gk _ p4p).trans g45,?_⟩;have hr:r∈ns:=by rw[hd];exact mem_append_right _ mem_cons_self
      have hd':ns=(dn++[r])++todo:=by rw[hd,append_assoc];rfl
      have ly:=congrArg List.length hd;rw[length_append] at ly;have r0:=n0 r hr;have gt':=(gk t pt.symm).trans gt5;walk_at "c0";walk_at "c";refine dL (λz=>?_) λz=>?_
      ·rw[show W.tup [W.tup [W.tup [],W.int r]]=oa (O.wh r) by unfold O.wh;rw[if_neg (by (clear hl hkl hnl ly r0;lia))];rfl];subst hU2;walk_at "R";simp only[rP];refine⟨⟨_,gp⟩,kv,_,gt',vv r hr,_,gp,by rw[length_map];(clear hl hkl r0 z;lia),?_⟩;exact hkk _ _ ⟨todo,dn++[r],_,_,rfl,hd',rfl,by rw[af,map_append];rfl,λy yp=>(am yp).trans (gk y yp)⟩
      ·rw[show W.tup []=oa (O.wh r) by unfold O.wh;rw[if_pos (by (clear hl hkl hnl ly;lia))];rfl];subst hU2;walk_at "R";simp only[rP];refine⟨⟨_,gp⟩,kv,_,gt',vv r hr,_,gp,by rw[length_map];(clear hl hkl r0 z;lia),?_⟩;exact hkk _ _ ⟨todo,dn++[r],_,_,rfl,hd',rfl,by rw[af,map_append];rfl,λy yp=>(am yp).trans (gk y yp)⟩
  ·rintro w1 ws τ G' kk ⟨todo,dn,kv,t3,t4,hw,hd,rfl,tg,gt,gh,gk⟩ hkk;cases todo with
   | nil=>cases hw
   | cons y todo=>
     cases hw;refine⟨gh,?_⟩;have hy:y∈hp:=by rw[hd];exact mem_append_right _ mem_cons_self
     have hd':hp=(dn++[y])++todo:=by rw[hd,append_assoc];rfl
     have ly:=congrArg List.length hd;rw[length_append] at ly;obtain⟨r,er⟩:∃r,gT R y.1=some r:=Option.isSome_iff_exists.mp (hR y hy);have rr:i5 R y.1=(r:Int):=by unfold i5;rw[er];rfl
     have ev:bf (bG R) (.inr y.1)=some (.int (r:Int)):=by rw[dq,er];rfl
     have gc:=gk _ _ ch hc;have tl:=tg.l;simp only[jR,eX,jQ,cV,set_cons_succ,set_cons_zero];refine⟨rfl,?_⟩;rw[show kW (Sum.inr y.1:aC)=W.str y.1 from rfl];simp only[m8];walk_at "R";unfold m9;walk_at "R";rw[←rr] at ev;refine⟨⟨_,gt⟩,_,_,.inl gc,ev,_,_,rfl,gt,?_⟩;rw[tg.get];refine⟨_,_,.inl gc,ev,t,_,kv,rfl,rfl,gt,by (clear rr;lia),?_⟩;exact hkk _ _ ⟨todo,dn++[y],_,_,_,rfl,hd',rfl,tg.put y,af,(am hnt).trans gh,λx gx xh e=>(am (λz=>by rw[z,ht] at e;cases e)).trans (gk x gx xh e)⟩
theorem uH:∀{l m:List (Int×Int)},l=[]∨m=[]->mM l m=decide (l.length<m.length)
 | [],[],_=>rfl
 | [],_::_,_=>rfl
 | _::_,[],_=>rfl
 | _::_,_::_,h=>by rcases h with h | h<;> cases h
theorem sd (p q:Int×Int) (l m:List (Int×Int)):mM (p::l) (q::m)=if p=q then mM l m else decide (p.1<q.1∨p.1=q.1/\p.2<q.2):=rfl
noncomputable def pY (l:List (Int×Int)):List W:=l.map λp=>fW (O.wh p.1) p.2
theorem ku:∀l:List (Int×Int),aP (i4 l)=pY l
 | []=>rfl
 | p::l=>by
   show fW (O.wh p.1) p.2::aP (i4 l)=_;rw[ku l]
   rfl
theorem se (n:Int):(n=0/\oa (O.wh n)=.tup [])∨(n≠0/\oa (O.wh n)=.tup [.tup [.tup [],.int n]]):=by
 unfold O.wh
 by_cases h:n=0
 ·rw[if_pos h];exact .inl ⟨h,rfl⟩
 ·rw[if_neg h];exact .inr ⟨h,rfl⟩
noncomputable def zV:cm:=λws G q _=>∃yl zl:List (Int×Int),ws=[.tup (pY yl),.tup (pY zl)]/\yl.length<=1000/\zl.length<=1000/\q (.bl (mM yl zl)) G
theorem BF (F:dX K "_law_less" "_law_less" (aQ 39) f fd) (ml:mg "len"=none) (mr:mg "range"=none) (mm:mg "min"=none):dU P w K mg base 1 f fd ["_law_one","_law_other"] zV:=by
 refine jf F (N:=["_law_one","_law_other","_law_k","_law_left","_law_right"]) (by walk_at "s") (by walk_at "l") λ_ _ _ _ _ _ nd hr=>?_;apply bq
 ·exact(ae (bO PySem.PassesOwn.never rfl (fH rfl mr (ah (bo (yO rfl) rfl mm yP (ah (bo bT rfl ml PySem.boot_len (ah (aa 0) aq)) (ah (bo bT rfl ml PySem.boot_len (ah (aa 1) aq)) aq))) aq)) (bd 2 nd rfl (.inl rfl)) (ae (aA 3 nd rfl (.inl rfl) ao) (ae (aA 4 nd rfl (.inl rfl) ao) (ae (bc (aI (eF hr) (aE aG (aE aG (aa 0) (aa 2)) ao) (bM aq)) (ae (aA 3 nd rfl (.inl rfl) (aE aG (aE aG (aE aG (aE aG (aa 0) (aa 2)) ao) ao) ao)) ak) ak) (ae (bc (aI (eF hr) (aE aG (aE aG (aa 1) (aa 2)) ao) (bM aq)) (ae (aA 4 nd rfl (.inl rfl) (aE aG (aE aG (aE aG (aE aG (aa 1) (aa 2)) ao) ao) ao)) ak) ak) (ae (bc (aI (eF hr) (aa 3) (aa 4)) (ae (aO (gf (gU hr) (aa 3) (aa 4))) ak) ak) (ae (bc (aI (eF hr) (aE aG (aE aG (aa 0) (aa 2)) ao) (aE aG (aE aG (aa 1) (aa 2)) ao)) (ae (aO (gf (gU hr) (aE aG (aE aG (aa 0) (aa 2)) ao) (aE aG (aE aG (aa 1) (aa 2)) ao))) ak) ak) ak))))))) (ae (aO (gf (gU hr) (bo bT rfl ml PySem.boot_len (ah (aa 0) aq)) (bo bT rfl ml PySem.boot_len (ah (aa 1) aq)))) ak))
 ·rintro ws G q e ⟨yl,zl,rfl,la,lb,hq⟩;have ly:(pY yl).length=yl.length:=length_map ..;have lz:(pY zl).length=zl.length:=length_map ..;walk_at "a0";rw[ly,lz];refine⟨by split<;> lia,by split<;> lia,?_⟩;have em:(if (zl.length:Int)<(yl.length:Int) then (zl.length:Int) else (yl.length:Int)).toNat=min yl.length zl.length:=by split<;> lia
  rw[em];refine ik (min yl.length zl.length) (λi τ G'=>G'=G/\∃t2 t3 t4,τ=[some (.tup (pY yl)),some (.tup (pY zl)),t2,t3,t4]/\mM yl zl=mM (yl.drop i) (zl.drop i)) ⟨rfl,none,none,none,rfl,rfl⟩ ?_ ?_
  ·rintro τ G' ⟨rfl,t2,t3,t4,rfl,hc⟩;refine⟨trivial,?_⟩;subst hU;walk_at "R";rw[ly,lz];have hz:yl.drop (min yl.length zl.length)=[]∨zl.drop (min yl.length zl.length)=[]:=by
    rcases Nat.le_total yl.length zl.length with h | h
    ·exact .inl (List.drop_eq_nil_of_le (by (clear la lb em;lia)))
    ·exact .inr (List.drop_eq_nil_of_le (by (clear la lb em;lia)))
   rw[uH hz,length_drop,length_drop] at hc;have e2:decide ((yl.length:Int)<(zl.length:Int))=mM yl zl:=by
    rw[hc];rcases lt_or_ge yl.length zl.length with h | h
    ·rw[decide_eq_true (by (clear la lb em hc;lia)),decide_eq_true (by (clear la lb em hc;lia))]
    ·rw[decide_eq_false (by (clear la lb em hc;lia)),decide_eq_false (by (clear la lb em hc;lia))]
   rw[e2];exact aZ.done hq
  ·rintro i τ G' kk hi ⟨rfl,t2,t3,t4,rfl,hc⟩ hk;have hy:yl[i]?=some yl[i]:=List.getElem?_eq_getElem (by (clear la lb em;lia));have hz:zl[i]?=some zl[i]:=List.getElem?_eq_getElem (by (clear la lb em hy;lia));have dy:yl.drop i=yl[i]::yl.drop (i+1):=drop_eq_getElem_cons (by (clear la lb em hy hz;lia));have dz:zl.drop i=zl[i]::zl.drop (i+1):=drop_eq_getElem_cons (by (clear la lb em hy hz dy;lia));have iy:(pY yl)[i]?=some (fW (O.wh yl[i].1) yl[i].2):=by unfold pY;rw[List.getElem?_map,hy];rfl
   have iz:(pY zl)[i]?=some (fW (O.wh zl[i].1) zl[i].2):=by unfold pY;rw[List.getElem?_map,hz];rfl
   rw[dy,dz,sd] at hc;refine⟨trivial,?_⟩;walk_at "c0";walk_at "c";walk_at "c";have bJ:∀v,v=yl[i].1->U2 { nx:=kk,rt:=λw G1=>∃G0,aZ G0 G1/\q w G0,bk:=U { nx:=λx G1=>∃G0,aZ G0 G1/\q W.non G0,rt:=λw G1=>∃G0,aZ G0 G1/\q w G0 },ct:=kk } [some (.tup (pY yl)),some (.tup (pY zl)),some (.int (i:Int)),some (.int v),some (.int 0)] G':=λv hv=>by
    walk_at "c";have bJ:∀u,u=zl[i].1->U2 { nx:=kk,rt:=λw G1=>∃G0,aZ G0 G1/\q w G0,bk:=U { nx:=λx G1=>∃G0,aZ G0 G1/\q W.non G0,rt:=λw G1=>∃G0,aZ G0 G1/\q w G0 },ct:=kk } [some (.tup (pY yl)),some (.tup (pY zl)),some (.int (i:Int)),some (.int v),some (.int u)] G':=λu hu=>by
     walk_at "c";refine dL (λhne=>?_) λhe=>?_
     ·have e1:decide (v<u)=mM yl zl:=by
       rw[hc,if_neg (λz=>hne (by rw[hv,hu,z])),hv,hu];rw[hv,hu] at hne;exact decide_eq_decide.mpr ⟨.inl,λh=>h.elim id λh=>absurd h.1 hne⟩
      rw[e1];exact aZ.done hq
     ·have he:v=u:=Decidable.of_not_not he;subst hU2;walk_at "R";refine⟨_,bK iy,?_⟩;simp only[fW];walk_at "R";refine⟨_,bK iz,?_⟩;simp only[fW];walk_at "R";have h1:yl[i].1=zl[i].1:=by rw[←hv,←hu];exact he
      refine dL (λhne=>?_) λhe2=>?_
      ·refine⟨_,bK iy,?_⟩;simp only[fW];walk_at "R";refine⟨_,bK iz,?_⟩;simp only[fW];walk_at "R";have e1:decide (yl[i].2<zl[i].2)=mM yl zl:=by
        rw[hc,if_neg (λz=>hne (by rw[z]))];exact decide_eq_decide.mpr ⟨λh=> .inr ⟨h1,h⟩,λh=>h.elim (λh=>absurd h (by rw[h1];exact Int.lt_irrefl _)) λh=>h.2⟩
       rw[e1];exact aZ.done hq
      ·have he2:yl[i].2=zl[i].2:=Decidable.of_not_not he2;rw[if_pos (Prod.ext h1 he2)] at hc;exact hk _ _ ⟨rfl,_,_,_,rfl,hc⟩
    refine⟨_,bK iz,?_⟩;simp only[fW];walk_at "R";rcases se zl[i].1 with⟨h0,e0⟩ | ⟨h0,e0⟩
    ·rw[e0];refine⟨rfl,by decide,?_⟩;rw[if_neg (by decide)];exact bJ 0 h0.symm
    ·rw[e0];refine⟨rfl,Nat.le_of_ble_eq_true rfl,?_⟩;refine dL (λ_=>?_) λhn=>absurd rfl hn;refine⟨_,bK iz,?_⟩;simp only[fW,e0];walk_at "R";exact bJ _ rfl
   refine⟨_,bK iy,?_⟩;simp only[fW];walk_at "R";rcases se yl[i].1 with⟨h0,e0⟩ | ⟨h0,e0⟩
   ·rw[e0];refine⟨rfl,by decide,?_⟩;rw[if_neg (by decide)];exact bJ 0 h0.symm
   ·rw[e0];refine⟨rfl,Nat.le_of_ble_eq_true rfl,?_⟩;refine dL (λ_=>?_) λhn=>absurd rfl hn;refine⟨_,bK iy,?_⟩;simp only[fW,e0];walk_at "R";exact bJ _ rfl
noncomputable def zW:cm:=λws G q _=>∃(r h g:Addr) (k:Str) (kvs:List (aC×W)) (T:bQ Str) (hp gv:List (Str×Int)),ws=[.ref r,.ref h,.str k,.ref g]/\lH G r h g kvs T hp gv/\
 (¬pK T hp k gv->∀G',aZ G G'->q .non G')/\(pK T hp k gv->∀(p:Addr) (G':Gp),aZ G G'->G p=none->G' p=some (.dic (aB (hZ hp k gv)))->q (.ref p) G')
theorem BG {C:Addr} {bC:List Value} (F:dX K "_law_exchanged" "_law_exchanged" (aQ 40) f fd) (R1:Rx P w K mg base "exchange" ["rules","heap","kind","given"] 2 (xt C) []) (mC:mg "NoChore"=some (.ref C)) (xC:XC K C bC):dU P w K mg base 3 f fd ["_law_rules_here","_law_heap_here","_law_kind","_law_given_here"] zW:=by
 refine jf (k:=2) F (N:=["_law_rules_here","_law_heap_here","_law_kind","_law_given_here","_law_found","_law_refused"]) (by walk_at "s") (by walk_at "l") λ_ _ _ _ _ _ nd hr=>?_;apply bq
 ·refine' ae ?s1 (ae ?s2 (ae ?s3 ?s4))
  case s1=>exact(aA 4 nd rfl (.inl rfl) lY)
  case s2=>exact(aA 5 nd rfl (.inl rfl) cK)
  case s3=>
   refine' nM rfl rfl (nK (wD 4 (λ_ _ z=>z) nd rfl (Or.inl rfl) R1 (aR.mono hr (by lia)) rfl ?a)) (kQ (tj mC rfl xC xC xC.self λa oe hoe=>?b) nN)
   case a=>exact(ah (aa 0) (ah (aa 1) (ah (aa 2) (ah (aa 3) aq))))
   case b=>exact(ae (aA 5 nd rfl (.inl rfl) cK) ak)
  case s4=>exact(ae (bc (dB (aa 5)) (ae (aO lY) ak) ak) (ae (aO (aa 4)) ak))
 ·rintro ws G q e ⟨r,h,g,k,kvs,T,hp,gv,rfl,x,hbad,hgood⟩;walk_at "a0";walk_at "a";walk_at "a";refine⟨r,h,g,k,kvs,T,hp,gv,rfl,x,λhn G' le D hD=>?_,λha p G' le fp gp=>?_⟩
  ·cases hD;refine⟨_,.head _,?_⟩;walk_at "R";subst hU;walk_at "R";exact aZ.done (hbad hn G' le)
  ·subst hU;walk_at "R";exact aZ.done (hgood ha p G' le fp gp)
structure zX (K:PySem.W.Frag) (mg:Str->Option Value) (C c1 c2 c3 c4 c5 c6 d1 d2 d3 d4 d5 d6:Addr):Prop where
 m1:mg "NoNumber"=some (.ref c1)
 m2:mg "Nought"=some (.ref c2)
 m3:mg "TooHigh"=some (.ref c3)
 m4:mg "NoLimit"=some (.ref c4)
 m5:mg "NoHead"=some (.ref c5)
 m6:mg "NoStep"=some (.ref c6)
 n1:mg "NoFit"=some (.ref d1)
 n2:mg "TooGreat"=some (.ref d2)
 n3:mg "NoFall"=some (.ref d3)
 n4:mg "NoText"=some (.ref d4)
 n5:mg "NoName"=some (.ref d5)
 n6:mg "NoRow"=some (.ref d6)
 h1:∀D,D∈[c1,c2,c3,c4,c5,c6]->XD K D/\mroIn K C (.ref D)=some false
 h2:∀D,D∈[d1,d2,d3,d4,d5,d6]->XD K D/\mroIn K C (.ref D)=some false
noncomputable def zY:cm:=λws G q _=>∃(r h g:Addr) (k:Str) (kvs:List (aC×W)) (T:bQ Str) (hp gv:List (Str×Int)),ws=[.ref r,.ref h,.str k,.ref g]/\lH G r h g kvs T hp gv/\¬pK T hp k gv/\q (.bl true) G
theorem scRo:cf ["_law_rules_here","_law_heap_here","_law_kind","_law_given_here","_law_right","_law_other","e"] ["_law_rules_here","_law_heap_here","_law_kind","_law_given_here"] (aw (aQ 41)):=⟨rfl,rfl,rfl,by decide+kernel,rfl,by decide+kernel,by decide+kernel⟩
theorem BH {C Hy c1 c2 c3 c4 c5 c6 d1 d2 d3 d4 d5 d6:Addr} {bH:List Value} (F:dX K "_law_refused_so" "_law_refused_so" (aQ 41) f fd) (R1:Rx P w K mg base "exchange" ["rules","heap","kind","given"] 2 (xt C) []) (hO:zX K mg C c1 c2 c3 c4 c5 c6 d1 d2 d3 d4 d5 d6)
 (oC:XO K C) (dC:XD K C) (sH:mroIn K C (.ref Hy)=some true) (sC:mroIn K C (.ref C)=some true) (mH:mg "HydraError"=some (.ref Hy)) (xH:XC K Hy bH) (mC:mg "NoChore"=some (.ref C)) (mi:mg "isinstance"=none) (mv:mg "ValueError"=none):dU P w K mg base 3 f fd ["_law_rules_here","_law_heap_here","_law_kind","_law_given_here"] zY:=by
 have nd:=scRo.nd;obtain⟨m1,m2,m3,m4,m5,m6,n1,n2,n3,n4,n5,n6,h1,h2⟩:=hO;refine BN (k:=2) F scRo (λws G q e h=>by obtain⟨_,_,_,_,_,_,_,_,rfl,_⟩:=h;rfl) (λcdv A outer s H E hr=>?_);apply bq
 ·refine' ae ?s1 (ae ?s2 (ae ?s3 ?s4))
  case s1=>exact(aA 4 nd rfl (.inl rfl) cK)
  case s2=>exact(aA 5 nd rfl (.inl rfl) cK)
  case s3=>
   refine' nM rfl rfl (nK (yX (λ_ _ z=>z) R1 (aR.mono hr (by lia)) rfl ?a)) (kQ (wE 6 mH rfl oC xH sH nd rfl rfl λa=>?b) nN)
   case a=>exact(ah (aa 0) (ah (aa 1) (ah (aa 2) (ah (aa 3) aq))))
   case b=>
    refine' ae (aA 4 nd rfl (Or.inl rfl) (iD (show QE _ _ (wF K 6 C) from wG rfl (by first | exact Or.inl rfl | exact Or.inr (Or.inl rfl) | exact Or.inr (Or.inr rfl)) mC dC rfl mi rfl) (jP (wH (T:="ValueError") (i:=6) rfl (by first | exact Or.inl rfl | exact Or.inr (Or.inl rfl) | exact Or.inr (Or.inr rfl)) rfl AX wB mv rfl mi rfl)))) (ae (aA 5 nd rfl (Or.inl rfl) ?v2) (ci (bc (dB ?v3 (λ_=>rfl)) ?bb ak)))
    case v2=>exact(show QE _ _ (tD K (dc 6) (sO (cL (wC (.ref c1)) (cL (wC (.ref c2)) (cL (wC (.ref c3)) (cL (wC (.ref c4)) (cL (wC (.ref c5)) (cL (wC (.ref c6)) qd)))))))) from qH (aa 6 rfl (by first | exact Or.inl rfl | exact Or.inr (Or.inl rfl) | exact Or.inr (Or.inr rfl))) (bM (ah (bU rfl m1) (ah (bU rfl m2) (ah (bU rfl m3) (ah (bU rfl m4) (ah (bU rfl m5) (ah (bU rfl m6) aq))))))) mi rfl)
    case v3=>exact(show QE _ _ (tD K (dc 6) (sO (cL (wC (.ref d1)) (cL (wC (.ref d2)) (cL (wC (.ref d3)) (cL (wC (.ref d4)) (cL (wC (.ref d5)) (cL (wC (.ref d6)) qd)))))))) from qH (aa 6 rfl (by first | exact Or.inl rfl | exact Or.inr (Or.inl rfl) | exact Or.inr (Or.inr rfl))) (bM (ah (bU rfl n1) (ah (bU rfl n2) (ah (bU rfl n3) (ah (bU rfl n4) (ah (bU rfl n5) (ah (bU rfl n6) aq))))))) mi rfl)
    case bb=>exact(ae (aA 5 nd rfl (.inl rfl) cK) ak)
  case s4=>exact(ae (aO (iD (aa 4) (jP (lZ (aa 5))))) ak)
 ·rintro ws G q e ⟨r,h,g,k,kvs,T,hp,gv,rfl,x,hbad,hq⟩;walk_at "a0";walk_at "a";walk_at "a";refine⟨r,h,g,k,kvs,T,hp,gv,rfl,x,λhn G' le D hD=>?_,λha=>absurd ha hbad⟩;cases hD;refine⟨_,.head _,?_⟩;walk_at "R";intro x hx;refine⟨x,C,true,rfl,af,sC,x,C,rfl,af,x,C,[c1,c2,c3,c4,c5,c6],rfl,rfl,af,h1,x,C,[d1,d2,d3,d4,d5,d6],rfl,rfl,af,h2,?_⟩;subst hU;walk_at "R";exact⟨G,le.trans (aZ.new hx),hq⟩
theorem pD {T:bQ Str} {l:List Str} (h:kq T l) (hi:i<l.length):∃x y,l[i]?=some x/\l[(i+1)%l.length]?=some y/\o9 T x y:=by
 obtain⟨_,c,ys,rfl,hc⟩:=h;have e1:=List.getElem?_eq_getElem hi;rw[length_cons] at hi ⊢;rcases lt_or_ge i ys.length with h2 | h2
 ·have e2:=List.getElem?_eq_getElem h2;refine⟨_,ys[i],e1,?_,hc.at i _ _ e1 (by rw[List.getElem?_append_left h2];exact e2)⟩;rw[Nat.mod_eq_of_lt (by (clear hi e1 e2;lia))];exact e2
 ·have h3:i=ys.length:=by (clear e1;lia)
  refine⟨_,c,e1,?_,hc.at i _ _ e1 (by rw[h3];simp)⟩;rw[h3,Nat.mod_self]
  rfl
theorem kx {l:List Str} (h:l[i]?=some x):(aY l)[i]?=some (.str x):=by
 unfold aY;rw[List.getElem?_map,h]
 rfl
theorem ky (y j:Str) (v:Int):aW [(y,v)] j=if j=y then v else 0:=by
 unfold aW
 by_cases e:y=j
 ·rw[bB e,if_pos e.symm];rfl
 ·rw[bD e,if_neg (λz=>e z.symm)];rfl
theorem kz {h:List (Str×Int)} (hn:(h.map (·.1)).Nodup) (hp:∀p,p∈h->0<p.2) (k:Str):k∈h.map (·.1)↔0<aW h k:=by
 refine⟨λhk=>?_,kd⟩;obtain⟨p,hp',rfl⟩:=mem_map.mp hk;rw[fQ hn hp'];exact hp p hp'
theorem oz {G:Gp} {a b:Addr} {h g:List (Str×Int)} (ha:GD G a (aB h)) (hb:GD G b (aB g)) (h1:(h.map (·.1)).Nodup) (g1:(g.map (·.1)).Nodup) (h2:∀p,p∈h->0<p.2) (g2:∀p,p∈g->0<p.2) (he:∀j,aW h j=aW g j):xA G a b true:=by
 refine .dic ha hb ?_ λe he'=>?_
 ·rw[bS,bS];have:=wL h1 g1 λx=>by rw[kz h1 h2,kz g1 g2,he]
  simpa using this
 ·obtain⟨p,hp,rfl⟩:=mem_map.mp he';have h3:=fQ h1 hp;have h4:=h2 p hp;rw[he] at h3;have h5:gT g p.1=some p.2:=by
   unfold aW at h3;cases e0:gT g p.1 with
   | none=>rw[e0] at h3;have h3:(0:Int)=p.2:=h3;lia
   | some v=>rw[e0] at h3;exact congrArg some h3
  exact⟨_,by show bf (aB g) (.inr p.1)=_;rw[dt,h5];rfl,.int _⟩
noncomputable def zZ:cm:=λws G q _=>∃(r h g:Addr) (k:Str) (kvs:List (aC×W)) (T:bQ Str) (hp gv:List (Str×Int)),ws=[.ref r,.ref h,.str k,.ref g]/\lH G r h g kvs T hp gv/\pK T hp k gv/\∀(p:Addr) (G':Gp),aZ G G'->G p=none->G' p=some (.dic (aB (hZ hp k gv)))->q (.ref p) G'
structure xE (c z:Str) (many:Int) (hp:List (Str×Int)):Prop where
 n:(hp.map (·.1)).Nodup
 p:∀p,p∈hp->0<p.2
 a:∀j,aW hp j=(if j=c then many-1 else 0)+(if j=z then 1 else 0)
theorem xE.ok {c z:Str} {many:Int} {hp:List (Str×Int)} (h:xE c z many hp) (h1:1<=many) (h2:many<=10^51):ia hp:=by
 have hb:∀j,aW hp j<=many:=λj=>by
  rw[h.a j];split<;> split<;> lia
 refine⟨h.n,λp hp'=>Int.le_of_lt (h.p p hp'),λp hp'=>?_,?_⟩
 ·have:=hb p.1;rw[fQ h.n hp'] at this;exact Int.le_trans this (Int.le_trans h2 (by decide))
 ·have:=gZ (l:=hp.map (·.1)) (m:=[c,z]) h.n λk hk=>by
   have:=(kz h.n h.p k).mp hk;rw[h.a k] at this
   by_cases e1:k=c
   ·rw[e1];exact mem_cons_self
   ·by_cases e2:k=z
    ·rw[e2];exact mem_cons_of_mem _ mem_cons_self
    ·rw[if_neg e1,if_neg e2] at this;exact absurd this (by decide)
  rw[length_map] at this;have h3:[c,z].length=2:=rfl;lia
theorem xE.next {c x y:Str} {many:Int} {hp:List (Str×Int)} (h:xE c x many hp) (h1:1<=many):0<aW hp x/\xE c y many (hZ hp x [(y,1)]):=by
 have hx:0<aW hp x:=by
  rw[h.a x,if_pos rfl];split<;> lia
 refine⟨hx,qR h.n,λp hp'=>mR hp',λj=>?_⟩;rw[qS (g:=[(y,1)]) h.n (nodup_cons.mpr ⟨not_mem_nil,nodup_nil⟩) (λp hp'=>Int.le_of_lt (h.p p hp')) (λp hp'=>by rw[mem_singleton.mp hp'];exact Int.le_of_lt Int.one_pos) hx,h.a j,ky];split<;> split<;> split<;> (clear h1 hx;lia)
noncomputable def Aa:cm:=λws G q _=>∃(a c:Addr) (kvs:List (aC×W)) (T:bQ Str) (l:List Str) (many:Int),ws=[.ref a,.ref c,.int many]/\G a=some (.dic kvs)/\eJ G kvs T/\G c=some (.lst (aY l))/\kq T l/\l.length<=50/\1<=many/\many<=10^51/\q (.bl true) G
theorem BI (F:dX K "_law_round" "_law_round" (aQ 42) f fd) (F1:Fx P w K mg base "exchange" ["rules","heap","kind","given"] 2 zZ) (md:mg "dict"=none) (ml:mg "len"=none) (mr:mg "range"=none):dU P w K mg base 3 f fd ["_law_rules_here","_law_ring","_law_many"] Aa:=by
 refine jf (k:=2) F (N:=["_law_rules_here","_law_ring","_law_many","_law_heap_here","_law_first","_law_k"]) (by walk_at "s") (by walk_at "l") λ_ _ _ _ _ _ nd hr=>?_;apply bq
 ·refine' ae ?s1 (ae ?s2 (ae ?s3 (ae (bO PassesOwn.never rfl ?it ?tg (ci (aA 3 nd rfl (Or.inl rfl) (ba F1 (aR.mono hr (by lia)) rfl (ah ?x1 (ah ?x2 (ah ?x3 (ah (uz (pB ?x4 ?x5 uw)) aq)))))))) ?s5)))
  case s1=>exact(aA 3 nd rfl (.inl rfl) cZ)
  case s2=>exact(bV (aa 2) (aa 3) (aE aG (aa 1) ao))
  case s3=>exact(aA 4 nd rfl (.inl rfl) (bv (jB rfl) rfl md fq (ah (aa 3) aq)))
  case it=>exact(fH rfl mr (ah (bo bT rfl ml PySem.boot_len (ah (aa 1) aq)) aq))
  case tg=>exact(bd 5 nd rfl (.inl rfl))
  case x1=>exact(aa 0)
  case x2=>exact(aa 3)
  case x3=>exact(aE aG (aa 1) (aa 5))
  case x4=>exact(aE aG (aa 1) (aT cM (aT bR (aa 5) ao) (bo bT rfl ml PySem.boot_len (ah (aa 1) aq))))
  case x5=>exact ao
  case s5=>exact(ae (aO (gf (dP hr) (aa 3) (aa 4))) ak)
 ·rintro ws G q e ⟨a,c,kvs,T,l,many,rfl,ha,ht,hc,hl,hl50,m1,m2,hq⟩;have hlen:(aY l).length=l.length:=length_map ..;have hl0:1<=l.length:=by obtain⟨_,c0,ys,rfl,_⟩:=hl;simp
  obtain⟨c0,hc0⟩:∃c0,l[0]?=some c0:=⟨_,List.getElem?_eq_getElem hl0⟩;walk_at "a0";intro p hp0;walk_at "a";refine⟨_,_,au hc hp0,bK (j:=0) (kx hc0),p,c0,[],rfl,rfl,af,by decide,?_⟩;have le1:aZ G (av (av G p (.dic [])) p (.dic (bw [] (.inr c0) (.int many)))):=(aZ.new hp0).put hp0;have g1:=af (G:=av G p (.dic [])) (a:=p) (g:=GO.dic (bw [] (.inr c0) (.int many)));rw[show bw [] (.inr c0) (.int many)=aB [(c0,many)] from rfl] at le1 g1 ⊢;generalize av (av G p (.dic [])) p (.dic (aB [(c0,many)]))=G1 at le1 g1 ⊢;walk_at "a";refine⟨_,.dic (.inl g1),λd hd0=>?_⟩;have le2:=le1.trans (aZ.new (g:=GO.dic (aB [(c0,many)])) hd0);have g2:=au (g:=GO.dic (aB [(c0,many)])) g1 hd0;have d2:=af (G:=G1) (a:=d) (g:=GO.dic (aB [(c0,many)]));generalize av G1 d (.dic (aB [(c0,many)]))=G2 at le2 g2 d2 ⊢;walk_at "a";refine⟨_,.lst (le2 _ _ hc),?_⟩;rw[hlen];refine⟨by lia,by lia,?_⟩;refine ik l.length (λi τ G'=>∃(x:Addr) (t5:Option W) (hp:List (Str×Int)) (z:Str),τ=[some (.ref a),some (.ref c),some (.int many),some (.ref x),some (.ref d),t5]/\aZ G G'/\G' d=some (.dic (aB [(c0,many)]))/\G' x=some (.dic (aB hp))/\l[i%l.length]?=some z/\xE c0 z many hp) ⟨p,none,[(c0,many)],c0,rfl,le2,d2,g2,by rw[Nat.zero_mod];exact hc0,nodup_cons.mpr ⟨not_mem_nil,nodup_nil⟩,λp hp=>by rw[mem_singleton.mp hp];show 0<many;assumption,λj=>by rw[ky];split<;> (clear hl50 m1 m2 hlen hl0 hc0;lia)⟩ ?_ ?_
  ·rintro τ G' ⟨x,t5,hp,z,rfl,le,gd,gx,hz,hR⟩;refine⟨trivial,?_⟩;rw[Nat.mod_self,hc0] at hz;cases hz;subst hU;walk_at "R";refine⟨true,.old (oz (.inl gx) (.inl gd) hR.n (nodup_cons.mpr ⟨not_mem_nil,nodup_nil⟩) hR.p (λp hp=>by rw[mem_singleton.mp hp];show 0<many;assumption) λj=>by rw[hR.a,ky];split<;> (clear hl50 m1 m2 hlen hl0 hc0;lia)),?_⟩;exact⟨G,le,hq⟩
  ·rintro i τ G' kk hi ⟨x,t5,hp,z,rfl,le,gd,gx,hz,hR⟩ hk;refine⟨trivial,?_⟩;obtain⟨x1,y1,hx1,hy1,L,eL,hyL⟩:=pD hl hi;rw[Nat.mod_eq_of_lt hi,hx1] at hz;cases hz;walk_at "R";simp only[vh,zx,BW];walk_at "R";have gc:=le _ _ hc;refine⟨_,_,gc,bK (kx hx1),λg hg0=>⟨_,.lst (au gc hg0),by rw[hlen];(clear m1 m2 hc0 hi hy1 hx1;lia),_,_,au gc hg0,?_,y1,rfl,af,?_⟩⟩
   ·rw[hlen,show((i:Int)+1)% (l.length:Int)=(((i+1)%l.length:Nat):Int) by rw[Int.natCast_emod];rfl];exact bK (kx hy1)
   ·have le3:aZ G' (av (av G' g (.dic [])) g (.dic (aB [(y1,1)]))):=(aZ.new hg0).put hg0;have g3:=af (G:=av G' g (.dic [])) (a:=g) (g:=GO.dic (aB [(y1,1)]));rw[show L2.putAll [] [(y1,W.int 1)]=aB [(y1,1)] from rfl];generalize av (av G' g (.dic [])) g (.dic (aB [(y1,1)]))=G3 at le3 g3 ⊢;obtain⟨hxp,hR2⟩:=hR.next (y:=y1) m1;refine⟨a,x,g,z,kvs,T,hp,[(y1,1)],rfl,⟨le3 _ _ (le _ _ ha),ht.mono λb ws e=>le3 _ _ (le _ _ e),le3 _ _ gx,g3,λe=>?_,λe=>?_,hR.ok m1 m2,⟨nodup_cons.mpr ⟨not_mem_nil,nodup_nil⟩,λp hp=>?_,λp hp=>?_,Nat.le_of_ble_eq_true rfl⟩⟩,⟨by rw[eL];rfl,λe=>?_,λp hp _=>?_⟩,λp2 G4 le4 fp2 gp2=>?_⟩
    ·have:=le _ _ ha;rw[e,hg0] at this;cases this
    ·rw[e,hg0] at gx;cases gx
    ·rw[mem_singleton.mp hp];exact Int.le_of_lt Int.one_pos
    ·rw[mem_singleton.mp hp];show(1:Int)<=10^60;decide
    ·rw[e] at hxp;exact absurd hxp (Int.lt_irrefl _)
    ·rw[mem_singleton.mp hp];unfold j6;rw[eL];exact hyL
    ·exact hk _ _ ⟨p2,_,_,y1,rfl,le.trans (le3.trans le4),le4 _ _ (le3 _ _ gd),gp2,hy1,hR2⟩
theorem lL (r:Int):∀ks:List Int,ks.Pairwise (λa b=>b<a)->∃ks':List Int,ks'.Pairwise (λa b=>b<a)/\(∀x,x∈ks'↔x=r∨x∈ks)/\ks'.length<=ks.length+1
 | [],_=>⟨[r],List.pairwise_singleton _ _,λx=>by simp,le_refl _⟩
 | k::ks,h=>by
   obtain⟨h1,h2⟩:=pairwise_cons.mp h;rcases Int.lt_trichotomy r k with e | e | e
   ·obtain⟨ks',a,b,c⟩:=lL r ks h2;refine⟨k::ks',pairwise_cons.mpr ⟨λx hx=>?_,a⟩,λx=>?_,Nat.succ_le_succ c⟩
    ·rcases(b x).mp hx with rfl | hx
     ·exact e
     ·exact h1 x hx
    ·rw[mem_cons,mem_cons,b x];exact or_left_comm
   ·refine⟨k::ks,h,λx=>?_,Nat.le_succ _⟩;rw[e,mem_cons];exact⟨.inr,λh=>h.elim .inl id⟩
   ·refine⟨r::k::ks,pairwise_cons.mpr ⟨λx hx=>?_,h⟩,λx=>mem_cons,le_refl _⟩;rcases mem_cons.mp hx with rfl | hx
    ·exact e
    ·exact Int.lt_trans (h1 x hx) e
theorem oA:∀l:List Int,∃ks:List Int,ks.Pairwise (λa b=>b<a)/\(∀r,r∈ks↔r∈l)/\ks.length<=l.length
 | []=>⟨[],.nil,λ_=>Iff.rfl,le_refl _⟩
 | r::l=>by
   obtain⟨ks,a,b,c⟩:=oA l;obtain⟨ks',a',b',c'⟩:=lL r ks a;exact⟨ks',a',λx=>by rw[b' x,b x,mem_cons],le_trans c' (Nat.succ_le_succ c)⟩
theorem sf {R:List (Str×Nat)} {h:List (Str×Int)} (hp:∀p,p∈h->0<p.2):∃yl:List (Int×Int),iM (i5 R) h .z=i4 yl/\(∀p,p∈yl->0<=p.1)/\yl.length<=h.length:=by
 obtain⟨ks,a,b,c⟩:=oA (h.map λp=>i5 R p.1);refine⟨_,ze (ft R) hp a b,λp hp'=>?_,by rw[length_map];rw[length_map] at c;exact c⟩;obtain⟨r,hr,rfl⟩:=mem_map.mp hp';obtain⟨p,_,rfl⟩:=mem_map.mp ((b r).mp hr);exact ft R _
structure nk (nm:List Str) (i:Nat) (hp:List (Str×Int)):Prop where
 n:(hp.map (·.1)).Nodup
 p:∀e,e∈hp->0<e.2
 b:∀e,e∈hp->e.2<=((i:Int)+1)*10^50
 m:∀e,e∈hp->e.1∈nm
theorem nk.len {nm:List Str} {hp:List (Str×Int)} (h:nk nm i hp):hp.length<=nm.length:=by
 have:=gZ h.n (m:=nm) λx hx=>by
  obtain⟨e,he,rfl⟩:=mem_map.mp hx;exact h.m e he
 rwa [length_map] at this
theorem nk.ok {nm:List Str} {hp:List (Str×Int)} (h:nk nm i hp) (hi:i<=50) (hl:nm.length<=10):ia hp:=by
 refine⟨h.n,λe he=>Int.le_of_lt (h.p e he),λe he=>?_,le_trans h.len (le_trans hl (by decide))⟩;refine Int.le_trans (h.b e he) (Int.le_trans (Int.mul_le_mul_of_nonneg_right (show(i:Int)+1<=51 by (clear hl;lia)) (by decide)) (by decide))
theorem gH.ok {gv:List (Str×Int)} (h:gH gv) (hl:gv.length<=21):ia gv:=⟨h.n,λe he=>(h.b e he).1,λe he=>Int.le_trans (h.b e he).2 (by decide),le_trans hl (by decide)⟩
theorem oD {T:bQ Str} {hp gv:List (Str×Int)} {k j:Str} (al:pK T hp k gv) (hj:0<aW gv j):j∈j6 T k:=by
 unfold aW at hj;cases e0:gT gv j with
 | none=>rw[e0] at hj;exact absurd hj (Int.lt_irrefl _)
 | some v=>
   rw[e0] at hj;exact al.2.2 (j,v) (cB e0) hj
theorem xw {gv:List (Str×Int)} (h:gH gv) (j:Str):aW gv j<=10^50:=by
 unfold aW;cases e0:gT gv j with
 | none=>show(0:Int)<=10^50;decide
 | some v=>exact(h.b _ (cB e0)).2
theorem nk.next {nm:List Str} {hp gv:List (Str×Int)} {T:bQ Str} {k:Str} (h:nk nm i hp) (g:gH gv) (al:pK T hp k gv) (hT:∀e,e∈T->∀y,y∈e.2->y∈nm):nk nm (i+1) (hZ hp k gv)/\(∀j,aW (hZ hp k gv) j=aW hp j+aW gv j- (if j=k then 1 else 0))/\(∀e,e∈hZ hp k gv->e.1∈hp.map (·.1)∨e.1∈j6 T k):=by
 have nn:∀e,e∈hp->0<=e.2:=λe he=>Int.le_of_lt (h.p e he);have kp:0<aW hp k:=by have:=eB nn k;have:=al.2.1;lia
 have ha:∀j,aW (hZ hp k gv) j=aW hp j+aW gv j- (if j=k then 1 else 0):=qS h.n g.n nn (λe he=>(g.b e he).1) kp;have hn:=qR (g:=gv) (k:=k) h.n;have hm:∀e,e∈hZ hp k gv->e.1∈hp.map (·.1)∨e.1∈j6 T k:=λe he=>by
  have h1:=mR he;rw[←fQ hn he,ha] at h1
  by_cases z:0<aW hp e.1
  ·exact .inl (kd z)
  ·refine .inr (oD al ?_)
   by_cases z2:e.1=k
   ·rw[z2] at z;exact absurd kp z
   ·rw[if_neg z2] at h1;(clear kp;lia)
 refine⟨⟨hn,λe he=>mR he,λe he=>?_,λe he=>?_⟩,ha,hm⟩
 ·rw[←fQ hn he,ha];have h1:aW hp e.1<=((i:Int)+1)*10^50:=by
   unfold aW;cases e0:gT hp e.1 with
   | none=>show(0:Int)<=_;exact Int.mul_nonneg (by (clear kp;lia)) (by decide)
   | some v=>exact h.b _ (cB e0)
  have h2:=xw g e.1;have h3:(((i+1:Nat):Int)+1)*10^50=((i:Int)+1)*10^50+10^50:=by rw[Int.natCast_succ,Int.add_mul _ 1,Int.one_mul]
  rw[h3];generalize ((i:Int)+1)*10^50=X at h1 ⊢;generalize (10:Int)^50=Y at h2 ⊢;split<;> (clear kp h3;lia)
 ·rcases hm e he with z | z
  ·obtain⟨e',he',z⟩:=mem_map.mp z;rw[←z];exact h.m e' he'
  ·unfold j6 at z;cases e0:gT T k with
   | none=>rw[e0] at z;cases z
   | some L=>rw[e0] at z;exact hT _ (cB e0) _ z
noncomputable def uI (R:List (Str×Nat)) (hp:List (Str×Int)):Prop:=∀e,e∈hp->(gT R e.1).isSome=true
theorem lM {T:bQ Str} {R:List (Str×Nat)} (hR:eA T R) {k j:Str} {r:Nat} (hk:gT R k=some r) (hj:j∈j6 T k):∃s,gT R j=some s/\s<r:=j7 (hR.cl k r hk) hj
theorem uI.next {T:bQ Str} {R:List (Str×Nat)} {hp gv:List (Str×Int)} {k:Str} (hR:eA T R) (h:uI R hp) (hk:aW hp k≠0) (hm:∀e,e∈hZ hp k gv->e.1∈hp.map (·.1)∨e.1∈j6 T k):uI R (hZ hp k gv):=λe he=>by
 have hr:∃r,gT R k=some r:=by
  unfold aW at hk;cases e0:gT hp k with
  | none=>rw[e0] at hk;exact absurd rfl hk
  | some v=>
    have:=h _ (cB e0);exact Option.isSome_iff_exists.mp this
 obtain⟨r,hr⟩:=hr;rcases hm e he with z | z
 ·obtain⟨e',he',z⟩:=mem_map.mp z;rw[←z];exact h e' he'
 ·obtain⟨s,hs,_⟩:=lM hR hr z;rw[hs];rfl
theorem sh {nm:List Str} {T:bQ Str} {R:List (Str×Nat)} {hp gv:List (Str×Int)} {k:Str} (hR:eA T R) (h:nk nm i hp) (h':nk nm (i+1) (hZ hp k gv)) (hr:uI R hp) (hr':uI R (hZ hp k gv)) (g:gH gv) (al:pK T hp k gv) (ha:∀j,aW (hZ hp k gv) j=aW hp j+aW gv j- (if j=k then 1 else 0)):O.cmp (iM (i5 R) (hZ hp k gv) .z) (iM (i5 R) hp .z)<0:=by
 have nn:∀e,e∈hp->0<=e.2:=λe he=>Int.le_of_lt (h.p e he);have gn:∀j,0<=aW gv j:=eB λe he=>(g.b e he).1;have kp:0<aW hp k:=by have:=eB nn k;have:=al.2.1;lia
 have key:∀{l:List (Str×Int)},uI R l->∀e,e∈l->e.1∈R.map (·.1):=λhl e he=>by
  obtain⟨r,e0⟩:=Option.isSome_iff_exists.mp (hl e he);exact cr e0
 have kU:k∈R.map (·.1):=by
  obtain⟨e,he,z⟩:=mem_map.mp (kd kp);rw[←z];exact key hr e he
 obtain⟨r,er⟩:=cY kU;have y9:∀j,0<aW gv j->i5 R j<i5 R k:=λj hj=>by
  obtain⟨s,hs,hl⟩:=lM hR er (oD al hj);unfold i5;rw[hs,er];exact Int.ofNat_lt.mpr hl
 have g0:∀j,i5 R k<=i5 R j->aW gv j=0:=λj hj=>by
  have:=gn j
  by_cases z:0<aW gv j
  ·have:=y9 j z;(clear kp z;lia)
  ·(clear kp hj;lia)
 refine mP (ft R) hR.nd h.n h'.n (key hr) (key hr') h.p h'.p kU ?_ λj _ hj hl=>?_
 ·rw[ha,if_pos rfl,g0 k (Int.le_refl _)];(clear kp;lia)
 ·rw[ha,if_neg hj,g0 j hl];(clear kp hl;lia)
theorem oE {T:bQ Str}:∀{x:Str} {ys:List Str} {z:Str},Ch T x ys z->∀y,y∈x::ys->y∈T.map (·.1)
 | x,[],z,⟨L,h,_⟩,y,hy=>by
   cases mem_singleton.mp hy;exact cr h
 | x,u::ys,z,⟨⟨L,h,_⟩,h2⟩,y,hy=>by
   rcases mem_cons.mp hy with rfl | hy
   ·exact cr h
   ·exact oE h2 y hy
theorem lN {G:Gp} {hp:List (Str×Int)} (h:(hp.map (·.1)).Nodup):∀p,p∈aB hp->∃w',bf (aB hp) p.1=some w'/\iR G p.2 w':=λp hp'=>by
 obtain⟨e,he,rfl⟩:=mem_map.mp hp';exact⟨_,by show bf (aB hp) (.inr e.1)=_;rw[dt,nQ (k:=e.1) (v:=e.2) h he];rfl,.int _⟩
theorem jG {G:Gp} {hl p h1 h2 x g:Addr} {hp gv:List (Str×Int)} (el:G hl=some (.lst [.ref h1,.ref h2])) (ep:G p=some (.lst [.ref x,.ref g])) (e1:G h1=some (.dic (aB hp))) (e2:G h2=some (.dic (aB gv))) (ex:G x=some (.dic (aB hp))) (eg:G g=some (.dic (aB gv))) (hO:ia hp) (gO:ia gv):xB G hl p true:=
 .deep el ep rfl λj u v hu hv=>by
  rcases j with _ | _ | j
  ·cases hu;cases hv;exact .dic (.inl e1) (.inl ex) rfl (lN hO.n)
  ·cases hu;cases hv;exact .dic (.inl e2) (.inl eg) rfl (lN gO.n)
  ·cases hu
theorem nk.mono {nm:List Str} {hp:List (Str×Int)} (h:nk nm i hp):nk nm (i+1) hp:=⟨h.n,h.p,λe he=>Int.le_trans (h.b e he) (Int.mul_le_mul_of_nonneg_right (by lia) (by decide)),h.m⟩
theorem jH {C:Gp->Prop} {tt:WT} {te:WE} {i:Nat} {τ0:ck} {G:Gp} {q:List W->Gp->Prop} (hC:C G):∀{ws:List W} {τ:ck},(∀w,w∈ws->∀k:Bool->Gp->Prop,k false G->tt (τ0.set i (some w)) G k)->(∀x,τ.set i x=τ0.set i x)->q [] G->cX C (cV i) tt te ws τ G [] q
 | [],τ,_,_,hq=>⟨hC,hq⟩
 | w::ws,τ,ht,hτ,hq=>by
   refine⟨hC,?_⟩;show tt (τ.set i (some w)) G _;rw[hτ];refine ht w mem_cons_self _ ?_;rw[if_neg (by decide)];exact jH hC (λu hu=>ht u (mem_cons_of_mem _ hu)) (λx=>by rw[set_set]) hq
noncomputable def nms:List Str:=["hoe","rake","pail","saw","axe","line","ra","sawbench","b","pa"]
theorem BJ (F:dX K "law" "law" (aQ 43) f fd) (F1:Fx P w K mg base "_law_cell_at" ["_law_script","_law_k"] 1 uE) (F2:Fx P w K mg base "_law_rules" ["_law_script","_law_kinds"] 2 zP) (F3:Fx P w K mg base "_law_heap" ["_law_script","_law_kinds"] 2 zN) (F4:Fx P w K mg base "ranks" ["rules"] 3 zH) (F5:Fx P w K mg base "_law_ranked" ["_law_heap_here","_law_ranking"] 1 zQ) (F6:Fx P w K mg base "_law_round" ["_law_rules_here","_law_ring","_law_many"] 3 Aa)
 (F7:Fx P w K mg base "_law_given" ["_law_cell","_law_kind","_law_rules_here","_law_kinds"] 2 zR) (F8:Fx P w K mg base "_law_exchanged" ["_law_rules_here","_law_heap_here","_law_kind","_law_given_here"] 3 zW) (F9:Fx P w K mg base "_law_allowed" ["_law_rules_here","_law_heap_here","_law_kind","_law_given_here"] 1 zS) (Fa:Fx P w K mg base "_law_refused_so" ["_law_rules_here","_law_heap_here","_law_kind","_law_given_here"] 3 zY) (Fb:Fx P w K mg base "_law_behind" ["_law_heap_here","_law_kind","_law_given_here"] 1 zT)
 (Fc:Fx P w K mg base "_law_whole" ["_law_found"] 1 zM) (Fd:Fx P w K mg base "heap_number" ["ranking","heap"] 4 zL) (Fe:Fx P w K mg base "_law_number" ["_law_told","_law_heap_here"] 1 zU) (Ff:Fx P w K mg base "_law_less" ["_law_one","_law_other"] 1 zV) (mi:mg "isinstance"=none) (md:mg "dict"=none) (ml:mg "len"=none):dU P w K mg base 100 f fd ["_law_script"] gE:=by
 refine jf (k:=99) F (N:=["_law_script","_law_kinds","_law_rules_here","_law_heap_here","_law_told","_law_cell","_law_kind","_law_given_here","_law_handed","_law_found","_law_number_here"]) (by walk_at "s") (by walk_at "l") λ_ _ _ _ _ _ nd hr=>?_;apply bq
 ·refine' ae ?s1 (ae ?s2 (ae ?s3 (ae ?s4 (ae ?s5 (ae ?s6 (ae ?s7 (ae (bO PassesOwn.never rfl ?it ?tg (ae ?b1 (ae ?b2 (ae ?b3 (ae ?b4 (ae ?b5 (ci (bc ?c0 ?c00 (ae ?c1 (ae (cG (bc (aI kN (bo bT rfl ml PySem.boot_len (ah (jT (mw (by first | rfl | decide+kernel)) rfl ?i1 (λ_ _ _ _=>?g1) (λ_ _ _ _=>?t1) (λ_ _ _ _=>?e1)) aq)) ao) ?r1 ak)) (ae ?c3 (ci ?c4)))))))))))) ?s9)))))))
  case s1=>exact(aA 1 nd rfl (.inl rfl) (cg (ah bW (ah bW (ah bW (ah bW (ah bW (ah bW (ah bW (ah bW (ah bW (ah bW aq))))))))))))
  case s2=>exact(aA 1 nd rfl (.inl rfl) (dj (aa 1) ic (eO (aT bR ao (aT cM (ba F1 (aR.mono hr (by lia)) rfl (ah (aa 0) (ah ao aq))) ao)))))
  case s3=>exact(aA 2 nd rfl (.inl rfl) (ba F2 (aR.mono hr (by lia)) rfl (ah (aa 0) (ah (aa 1) aq))))
  case s4=>exact(aA 3 nd rfl (.inl rfl) (ba F3 (aR.mono hr (by lia)) rfl (ah (aa 0) (ah (aa 1) aq))))
  case s5=>exact(aA 4 nd rfl (.inl rfl) (ba F4 (aR.mono hr (by lia)) rfl (ah (aa 2) aq)))
  case s6=>exact(bc (aI (dP hr) (aE aG (aa 4) ao) bW) (ae (aA 3 nd rfl (.inl rfl) (ba F5 (aR.mono hr (by lia)) rfl (ah (aa 3) (ah (aE aG (aa 4) ao) aq)))) ak) ak)
  case s7=>exact(bc (ja (iC (aI (dP hr) (aE aG (aa 4) ao) bW) (fG (fh (dB (ba F6 (aR.mono hr (by lia)) rfl (ah (aa 2) (ah (aE aG (aa 4) ao) (ah (aT bR ao (aT cM (aT df (ba F1 (aR.mono hr (by lia)) rfl (ah (aa 0) (ah ao aq))) ao) (aT mz ao ao))) aq))))))))) (ae (aO cK) ak) ak)
  case it=>exact(eT (dj (aa 0) (eO ao) (eO ao)))
  case tg=>exact(bd 5 nd rfl (.inl rfl))
  case b1=>exact(aA 6 nd rfl (.inl rfl) (aE aG (aa 1) (aT cM (aa 5) (bo bT rfl ml PySem.boot_len (ah (aa 1) aq)))))
  case b2=>exact(aA 7 nd rfl (.inl rfl) (ba F7 (aR.mono hr (by lia)) rfl (ah (aT df (aa 5) ao) (ah (aa 6) (ah (aa 2) (ah (aa 1) aq))))))
  case b3=>exact(aA 8 nd rfl (.inl rfl) (cg (ah (bv (jB rfl) rfl md fq (ah (aa 3) aq)) (ah (bv (jB rfl) rfl md fq (ah (aa 7) aq)) aq))))
  case b4=>exact(aA 9 nd rfl (.inl rfl) (ba F8 (aR.mono hr (by lia)) rfl (ah (aa 2) (ah (aE aG (aa 8) ao) (ah (aa 6) (ah (aE aG (aa 8) ao) aq))))))
  case b5=>exact(bc (aI (eF hr) (aa 8) (cg (ah (aa 3) (ah (aa 7) aq)))) (ae (aO cK) ak) ak)
  case c0=>exact(fh (dB (ba F9 (aR.mono hr (by lia)) rfl (ah (aa 2) (ah (aa 3) (ah (aa 6) (ah (aa 7) aq)))))))
  case c00=>exact(ae (bc (ja (kL (aI wj (aa 9) lY) (iB (fh (dB (ba Fa (aR.mono hr (by lia)) rfl (ah (aa 2) (ah (aa 3) (ah (aa 6) (ah (aa 7) aq)))))))))) (ae (aO cK) ak) ak) ak)
  case c1=>exact(bc (ja (kL (fh (dB (uo md rfl mi rfl (aa 9)))) (iB (aI (eF hr) (aa 9) (ba Fb (aR.mono hr (by lia)) rfl (ah (aa 3) (ah (aa 6) (ah (aa 7) aq)))))))) (ae (aO cK) ak) ak)
  case i1=>exact(ol 9 rfl (.inl rfl))
  case g1=>exact(fK 1 (by first | assumption | decide+kernel | rfl) rfl (.inl rfl))
  case t1=>exact(nG (fh (dB (ba Fc (aR.mono hr (by lia)) rfl (ah (aa 1) aq)))))
  case e1=>exact(aa 1)
  case r1=>exact(ae (aO cK) ak)
  case c3=>exact(bc (aI (dP hr) (aE aG (aa 4) ao) bW) (ae (aA 10 nd rfl (.inl rfl) (ba Fd (aR.mono hr (by lia)) rfl (ah (aE aG (aa 4) ao) (ah (aa 9) aq)))) (ae (bc (ja (kL (aI (eF hr) (aa 10) (ba Fe (aR.mono hr (by lia)) rfl (ah (aE aG (aa 4) ao) (ah (aa 9) aq)))) (iB (fh (dB (ba Ff (aR.mono hr (by lia)) rfl (ah (aa 10) (ah (ba Fe (aR.mono hr (by lia)) rfl (ah (aE aG (aa 4) ao) (ah (aa 3) aq))) aq)))))))) (ae (aO cK) ak) ak) ak)) ak)
  case c4=>exact(aA 3 nd rfl (.inl rfl) (bv (jB rfl) rfl md fq (ah (aa 9) aq)))
  case s9=>exact(ae (aO cK) ak)
 ·rintro ws G q e ⟨ns,rfl,hns,hcell,hq⟩;walk_at "a0";intro pk0 hpk0;have g0:=af (G:=G) (a:=pk0) (g:=GO.lst (aY nms));rw[show([W.str "hoe",W.str "rake",W.str "pail",W.str "saw",W.str "axe",W.str "line",W.str "ra",W.str "sawbench",W.str "b",W.str "pa"]:List W)=aY nms from rfl];generalize av G pk0 (.lst (aY nms))=G0 at g0 ⊢;walk_at "a";refine⟨ns,_,rfl,by (clear hns;lia),λc0=>?_⟩;walk_at "R";obtain⟨n,en,n0,n1⟩:∃n:Nat,2+c0%9=(n:Int)/\2<=n/\n<=10:=by
   have:=kg (i:=c0) (j:=9) (by (clear hns;lia));exact⟨(2+c0%9).toNat,by (clear hns;lia),by (clear hns;lia),by (clear hns;lia)⟩
  refine⟨_,g0,λpk hpk=>?_⟩;rw[en,wQ,show(aY nms).take n=aY (nms.take n) from List.map_take.symm];have hlen:(nms.take n).length=n:=by rw[length_take];show min n 10=n;(clear hns n0 n1;lia)
  generalize nms.take n=names at hlen ⊢;have g1:=af (G:=G0) (a:=pk) (g:=GO.lst (aY names));generalize av G0 pk (.lst (aY names))=G1 at g1 ⊢;walk_at "a";refine⟨ns,pk,names,rfl,g1,by (clear hns n0 n1;lia),by (clear hns n0 n1;lia),λa G2 kvs T hI=>?_⟩;dsimp only;have g2:=hI.le _ _ g1;have ga:=hI.d;have tb:=hI.t;have nT:=hI.nd;have lT:=hI.len;have hT:=hI.ls;clear hI g1 g0;walk_at "a";refine⟨ns,pk,names,rfl,g2,by (clear hns n0 n1 lT;lia),λx G3 hp le fx gx hn hb=>?_⟩;dsimp only;have g3:=le _ _ g2;have ga3:=le _ _ ga;have tb3:=tb.mono λb ws e=>le _ _ e;have hS:nk names 0 hp:=⟨hn,λe he=>(hb e he).1.1,λe he=>Int.le_trans (hb e he).1.2 (by decide),λe he=>(hb e he).2⟩;clear g2 ga tb le fx hn hb;subst hU;generalize hV:sP (wm (rn _) _ _) _=V;have main:∀(told:W) (x:Addr) (hp:List (Str×Int)) (G3:Gp),G3 pk=some (.lst (aY names))->G3 a=some (.dic kvs)->eJ G3 kvs T->G3 x=some (.dic (aB hp))->nk names 0 hp->((∃pr R,told=.tup [.str "ranks",.ref pr]/\G3 pr=some (.dic (bG R))/\eA T R/\uI R hp/\pr≠x)∨∃pr,told=.tup [.str "ring",.ref pr])->V { nx:=λx G1=>∃G0,aZ G0 G1/\q W.non G0,rt:=λw G1=>∃G0,aZ G0 G1/\q w G0 } [some (.scr ns),some (.ref pk),some (.ref a),some (.ref x),some told,none,none,none,none,none,none] G3:=by
   intro told x hp G3 g3 ga tb gx hS ht;subst hV;walk_at "a0";refine⟨by lia,λp hp0=>?_⟩;obtain⟨u,v,ecut,hv⟩:=w6 (ns.map W.int) 22 62;have ecut:dZ (ns.map W.int) (some 22) (some 62)=_:=ecut;rw[ecut];have hws:(((ns.map W.int).drop u).take v).length<=40:=by rw[length_take];(clear hns en n0 n1 hlen lT;lia)
   have hwc:∀w,w∈((ns.map W.int).drop u).take v->∃c,w=W.int c:=λw hw=>by
    obtain⟨c,_,rfl⟩:=mem_map.mp (List.mem_of_mem_drop (List.mem_of_mem_take hw));exact⟨c,rfl⟩
   generalize ((ns.map W.int).drop u).take v=ws0 at hws hwc ⊢;have l3:=aZ.new (g:=GO.lst ws0) hp0;have gp:=af (G:=G3) (a:=p) (g:=GO.lst ws0);generalize av G3 p (.lst ws0)=G4 at l3 gp ⊢;refine⟨_,gp,?_⟩;refine bh (λws' τ G'=>∃(i:Nat) (x:Addr) (hp:List (Str×Int)) (t5 t6 t7 t8 t9 t10:Option W),ws'.length+i<=40/\(∀w,w∈ws'->∃c,w=W.int c)/\τ=[some (.scr ns),some (.ref pk),some (.ref a),some (.ref x),some told,t5,t6,t7,t8,t9,t10]/\aZ G4 G'/\G' x=some (.dic (aB hp))/\nk names i hp/\((∃pr R,told=.tup [.str "ranks",.ref pr]/\G3 pr=some (.dic (bG R))/\eA T R/\uI R hp/\pr≠x)∨∃pr,told=.tup [.str "ring",.ref pr])) ?_ ?_ _ _ _ ⟨0,x,hp,none,none,none,none,none,none,by assumption,hwc,rfl,aZ.refl _,l3 _ _ gx,hS,ht⟩
   ·rintro τ G' ⟨i,x,hp,t5,t6,t7,t8,t9,t10,hl,hc,rfl,le,gx,hS,ht⟩;refine⟨le _ _ gp,?_⟩;subst hU;walk_at "R";exact aZ.done (hq _)
   ·clear ht hS gx hp x hwc hws;rintro w1 ws' τ G' kk ⟨i,x,hp,t5,t6,t7,t8,t9,t10,hl,hc,rfl,le,gx,hS,ht⟩ hkk;obtain⟨cell,rfl⟩:=hc w1 mem_cons_self;rw[length_cons] at hl;have hc':∀w,w∈ws'->∃c,w=W.int c:=λw hw=>hc w (mem_cons_of_mem _ hw);have le3:=l3.trans le;have gk:=le3 _ _ g3;have gaa:=le3 _ _ ga;have tbb:=tb.mono λb ws e=>le3 _ _ e;refine⟨le _ _ gp,?_⟩;refine aK λU1 hU1=>?_;walk_at "R";have hm:=kg (i:=cell) (j:=(names.length:Int)) (by (clear hns n0 n1 lT hv hl;lia));obtain⟨kind,hkind,_⟩:=gF (L:=names) (i:=cell% (names.length:Int)) hm.1 hm.2;refine⟨_,.lst gk,by rw[show(aY names).length=names.length from length_map ..];(clear hns n0 n1 lT hv hl hm;lia),_,_,gk,by rw[show(aY names).length=names.length from length_map ..];exact hkind,?_⟩;walk_at "b";refine⟨cell/10,kind,a,pk,kvs,T,names,rfl,gaa,tbb,λe he=>(hT e he).1,gk,by (clear hns n0 n1 lT hv hl hm;lia),by (clear hns n0 n1 lT hv hl hm;lia),λg G5 gv le5 fg gg gok gl=>?_⟩;dsimp only;have xg:x≠g:=λz=>by rw[z,fg] at gx;cases gx
    have gx5:=le5 _ _ gx;have hO:ia hp:=hS.ok (by (clear hns en n0 n1 hlen lT hv hm gl;lia)) (by (clear hns n0 n1 lT hv hl hm gl;lia));have gO:=gok.ok gl;walk_at "b";refine⟨_,.dic (.inl gx5),λh1 fh1=>⟨_,.dic (.inl (au gg fh1)),λh2 fh2 hl fhl=>?_⟩⟩;have le6:=le5.trans ((aZ.new (g:=GO.dic (aB hp)) fh1).trans ((aZ.new (g:=GO.dic (aB gv)) fh2).trans (aZ.new (g:=GO.lst [W.ref h1,W.ref h2]) fhl)));have gx6:=au (g:=GO.lst [W.ref h1,W.ref h2]) (au (g:=GO.dic (aB gv)) (au (g:=GO.dic (aB hp)) gx5 fh1) fh2) fhl;have gg6:=au (g:=GO.lst [W.ref h1,W.ref h2]) (au (g:=GO.dic (aB gv)) (au (g:=GO.dic (aB hp)) gg fh1) fh2) fhl;have g16:=au (g:=GO.lst [W.ref h1,W.ref h2]) (au (g:=GO.dic (aB gv)) (af (G:=G5) (a:=h1) (g:=GO.dic (aB hp))) fh2) fhl;have g26:=au (g:=GO.lst [W.ref h1,W.ref h2]) (af (G:=av G5 h1 (.dic (aB hp))) (a:=h2) (g:=GO.dic (aB gv))) fhl;have gl6:=af (G:=av (av G5 h1 (.dic (aB hp))) h2 (.dic (aB gv))) (a:=hl) (g:=GO.lst [W.ref h1,W.ref h2]);have h12:h1≠h2:=λz=>by rw[←z,af] at fh2;cases fh2
    have ah2:a≠h2:=λz=>by rw[←z,au (le5 _ _ gaa) fh1] at fh2;cases fh2
    generalize av (av (av G5 h1 (.dic (aB hp))) h2 (.dic (aB gv))) hl (.lst [W.ref h1,W.ref h2])=G6 at le6 gx6 gg6 g16 g26 gl6 ⊢;clear fh1 fh2 fhl gx5 gg;have ga6:=le6 _ _ gaa;have tb6:=tbb.mono λb ws e=>le6 _ _ e;have ag:a≠g:=λz=>by rw[z,fg] at gaa;cases gaa
    have X6:lH G6 a x g kvs T hp gv:=⟨ga6,tb6,gx6,gg6,ag,xg,hO,gO⟩;walk_at "b";refine⟨_,_,gl6,rfl,_,_,gl6,rfl,a,h1,h2,kind,kvs,T,hp,gv,rfl,⟨ga6,tb6,g16,g26,ah2,h12,hO,gO⟩,λhn G7 le7=>?_,λal fo G7 le7 ffo gfo=>?_⟩
    ·dsimp only;walk_at "b";intro p2 fp2;have l8:=le7.trans (aZ.new (g:=GO.lst [W.ref x,W.ref g]) fp2);have l78:=aZ.new (g:=GO.lst [W.ref x,W.ref g]) fp2;have g8:=af (G:=G7) (a:=p2) (g:=GO.lst [W.ref x,W.ref g]);generalize av G7 p2 (.lst [W.ref x,W.ref g])=G8 at l8 l78 g8 ⊢;have X8:lH G8 a x g kvs T hp gv:=⟨l8 _ _ ga6,tb6.mono λb ws e=>l8 _ _ e,l8 _ _ gx6,l8 _ _ gg6,ag,xg,hO,gO⟩;refine⟨true,jG (l8 _ _ gl6) g8 (l8 _ _ g16) (l8 _ _ g26) X8.hh X8.hg hO gO,?_⟩;rw[if_neg (by decide)];subst hU1;refine Ba λTT VV DD hTT hVV hDD=>?_;walk_at "R";refine⟨a,x,g,kind,kvs,T,hp,gv,rfl,X8,hS.p,λbb hbb=>?_⟩;have:bb=false:=by cases bb with | false=>rfl | true=>exact absurd (hbb.mp rfl) hn
     subst this;dsimp only;rw[if_pos rfl];subst hTT hDD;walk_at "R";rw[if_neg (by decide)];refine⟨a,x,g,kind,kvs,T,hp,gv,rfl,X8,hn,?_⟩;dsimp only;rw[if_neg (by decide)];exact hkk _ _ ⟨i+1,x,hp,_,_,_,_,_,_,by (clear hns en n0 n1 hlen lT hv hm gl;lia),hc',rfl,le.trans (le6.trans l8),X8.hh,hS.mono,ht⟩
    ·dsimp only;walk_at "b";intro p2 fp2;have l8:=le7.trans (aZ.new (g:=GO.lst [W.ref x,W.ref g]) fp2);have l78:=aZ.new (g:=GO.lst [W.ref x,W.ref g]) fp2;have g8:=af (G:=G7) (a:=p2) (g:=GO.lst [W.ref x,W.ref g]);generalize av G7 p2 (.lst [W.ref x,W.ref g])=G8 at l8 l78 g8 ⊢;have X8:lH G8 a x g kvs T hp gv:=⟨l8 _ _ ga6,tb6.mono λb ws e=>l8 _ _ e,l8 _ _ gx6,l8 _ _ gg6,ag,xg,hO,gO⟩;refine⟨true,jG (l8 _ _ gl6) g8 (l8 _ _ g16) (l8 _ _ g26) X8.hh X8.hg hO gO,?_⟩;rw[if_neg (by decide)];subst hU1;refine Ba λTT VV DD hTT hVV hDD=>?_;walk_at "R";refine⟨a,x,g,kind,kvs,T,hp,gv,rfl,X8,hS.p,λbb hbb=>?_⟩;have:bb=true:=hbb.mpr al;subst this;dsimp only;rw[if_neg (by decide)];subst hVV;have gf8:=l78 _ _ gfo;refine aK λU1 hU1=>?_;walk_at "R";rw[show oZ G8 (.ref fo)=some "dict" by simp only[oZ,gf8]];dsimp only;rw[show Ai "dict"=true from rfl,if_neg (by decide)];obtain⟨hS',ha,hm⟩:=hS.next gok al λe he=>(hT e he).2;refine⟨x,g,kind,hp,gv,rfl,xg,X8.hh,X8.hg,hO,gO,hS.p,al.2.1,λb G9 bl le9 fb gb nb pb ab lb=>?_⟩;dsimp only;have gf9:=le9 _ _ gf8;refine⟨true,.old (oz (.inl gf9) (.inl gb) hS'.n nb hS'.p pb λj=>by rw[ha,ab]),?_⟩;rw[if_neg (by decide)];have l9:=l8.trans le9;clear fb gb nb pb ab lb le9;walk_at "b";refine⟨fo,_,gf9,_,gf9,λo us=>jH (τ0:=fJ _ _) af (λy hy k hk=>?_) (λ_=>rfl) λp3 fp3=>⟨_,.lst af,?_⟩⟩
     ·obtain⟨y',hy',rfl⟩:=mem_map.mp hy;obtain⟨e,he,rfl⟩:=mem_map.mp hy';walk_at "R";exact⟨_,rfl,hk⟩
     rw[if_neg (by decide)];have p3f:p3≠fo:=λz=>by rw[z,af] at fp3;cases fp3
     rw[am p3f] at fp3;refine⟨o,us,_,(am p3f.symm).trans af,?_⟩;have l10:aZ G9 (av (av (av G9 fo (.fdc o us (aB (hZ hp kind gv)))) p3 (.lst [])) fo (.dic (aB (hZ hp kind gv)))):=kr gf9 λy gy yf e=>(am (λz=>by rw[z,fp3] at e;cases e)).trans ((am yf).trans e);generalize av (av (av G9 fo (.fdc o us (aB (hZ hp kind gv)))) p3 (.lst [])) fo (.dic (aB (hZ hp kind gv)))=G10 at l10 ⊢;have l10':=l9.trans l10;have gf10:=l10 _ _ gf9;have gx10:=l10' _ _ gx6;have fin:∀(t10:Option W) (G11:Gp),aZ G10 G11->((∃pr R,told=.tup [.str "ranks",.ref pr]/\G3 pr=some (.dic (bG R))/\eA T R/\uI R (hZ hp kind gv))∨∃pr,told=.tup [.str "ring",.ref pr])->wb (yx ur (cL (dc 9) qd)) (cV 3) DD [some (W.scr ns),some (W.ref pk),some (W.ref a),some (W.ref x),some told,some (W.int cell),some (W.str kind),some (W.ref g),some (W.ref hl),some (W.ref fo),t10] G11:=λt10 G11 l11 ht'=>by
      subst hDD;walk_at "R";refine⟨_,.dic (.inl (l11 _ _ gf10)),λp4 fp4=>?_⟩;refine hkk _ _ ⟨i+1,p4,_,_,_,_,_,_,_,by (clear hns en n0 n1 hlen lT hv gl;lia),hc',rfl,le.trans (le6.trans (l10'.trans (l11.trans (aZ.new fp4)))),af,hS',?_⟩;rcases ht' with⟨pr,R,h1,h2,h3,h4⟩ | h
      ·refine .inl ⟨pr,R,h1,h2,h3,h4,λz=>?_⟩;rw[←z,l11 _ _ (l10' _ _ (le6 _ _ (le3 _ _ h2)))] at fp4;cases fp4
      ·exact .inr h
     dsimp only;subst hU1;rcases ht with⟨pr,R,rfl,gpr,hR,hr,px⟩ | ⟨pr,rfl⟩
     ·have hr':=hr.next hR al.2.1 hm;have gp6:=le6 _ _ (le3 _ _ gpr);have gp10:=l10' _ _ gp6;have pf:pr≠fo:=λz=>by rw[←z,gp6] at ffo;cases ffo
      have fall:=sh hR hS hS' hr hr' gok al ha;have hln:=hS.len;have hln':=hS'.len;refine aK λU1 hU1=>?_;refine Ba λTT2 VV2 DD2 hTT2 hVV2 hDD2=>?_;walk_at "R";refine⟨rfl,rfl,zero_le _,?_⟩;rw[cQ,decide_eq_true rfl,if_pos rfl];subst hTT2;walk_at "c0";refine⟨pr,fo,R,_,rfl,pf,gp10,gf10,hS'.p,hr',by (clear hns n0 n1 lT hv gl fall hln;lia),?_⟩;dsimp only;subst hU2;walk_at "R";obtain⟨yl,ey,hy,ly⟩:=sf (R:=R) hS'.p;obtain⟨zl,ez,hz,lz⟩:=sf (R:=R) hS.p;rw[ey,ez] at fall;have hd:(W.tup (aP (i4 yl))).dep<=150:=by
       rw[←ey];exact le_trans (og _) (by have:=(iY (ft R) (hZ hp kind gv) .z (by decide)).1;(clear hns en n0 n1 hlen lT hv gl hln hln' ly fall lz;lia))
      refine⟨pr,fo,R,_,rfl,pf,gp10,gf10,hS'.p,hr',by (clear hns n0 n1 lT hv gl hln ly fall lz hd;lia),λG11 l11=>?_⟩;dsimp only;rw[ey];refine⟨eC _,eC _,hd,?_⟩;rw[W.eq_refl _ (eC _),if_neg (by decide)];refine⟨pr,x,R,_,rfl,px,l11 _ _ gp10,l11 _ _ gx10,hS.p,hr,by (clear hns n0 n1 lT hv gl hln' ly fall lz hd;lia),λG12 l12=>?_⟩;dsimp only;rw[ez,ku,ku];refine⟨yl,zl,rfl,by (clear hns n0 n1 lT hv gl hln fall lz hd;lia),by (clear hns n0 n1 lT hv gl hln' ly fall hd;lia),?_⟩;dsimp only;rw[(nV hy hz).mpr fall,if_neg (by decide)];subst hDD2;dsimp only;subst hU1;exact fin _ _ (l11.trans l12) (.inl ⟨pr,R,rfl,gpr,hR,hr'⟩)
     ·refine aK λU1 hU1=>?_;walk_at "R";refine⟨rfl,rfl,zero_le _,?_⟩;rw[cQ,if_neg (by decide+kernel)];subst hU1;exact fin _ _ (aZ.refl _) (.inr ⟨pr,rfl⟩)
  clear hV;walk_at "a0";refine⟨a,kvs,T,rfl,ga3,tb3,nT,by lia,λe he=>le_trans (hT e he).1 (by decide),λpr R hp0 hR=>?_,λpr l hp0 hl=>?_⟩
  ·dsimp only;have l4:=aZ.new (g:=GO.dic (bG R)) hp0;have g4:=af (G:=G3) (a:=pr) (g:=GO.dic (bG R));generalize av G3 pr (.dic (bG R))=G4 at l4 g4 ⊢;walk_at "a";refine⟨rfl,rfl,zero_le _,?_⟩;rw[cQ,decide_eq_true rfl,if_pos rfl];have xpr:x≠pr:=λz=>by rw[z,hp0] at gx;cases gx
   refine⟨x,pr,R,hp,rfl,xpr,g4,l4 _ _ gx,hS.n,le_trans hS.len (by (clear hns n0 n1 lT;lia)),λx' G5 hp' le fx' gx' n' sub len'=>?_⟩;dsimp only;subst hU;walk_at "R";refine⟨rfl,rfl,zero_le _,?_⟩;rw[cQ,if_neg (by decide+kernel)];exact main _ x' hp' G5 (le _ _ (l4 _ _ g3)) (le _ _ (l4 _ _ ga3)) (tb3.mono λb ws e=>le _ _ (l4 _ _ e)) gx' ⟨n',λe he=>hS.p e (sub e he).1,λe he=>hS.b e (sub e he).1,λe he=>hS.m e (sub e he).1⟩ (.inl ⟨pr,R,rfl,le _ _ g4,hR,λe he=>(sub e he).2,λz=>by rw[←z,g4] at fx';cases fx'⟩)
  ·dsimp only;have l4:=aZ.new (g:=GO.lst (aY l)) hp0;have g4:=af (G:=G3) (a:=pr) (g:=GO.lst (aY l));generalize av G3 pr (.lst (aY l))=G4 at l4 g4 ⊢;walk_at "a";refine⟨rfl,rfl,zero_le _,?_⟩;rw[cQ,if_neg (by decide+kernel)];subst hU;walk_at "R";refine⟨rfl,rfl,zero_le _,?_⟩;rw[cQ,decide_eq_true rfl,if_pos rfl];refine⟨ns,_,rfl,by (clear hns en n0 n1 hlen lT;lia),λc2=>?_⟩;walk_at "R";have hc2:=Int.emod_nonneg (c2/18) (show(100000000000000000000000000000000000000000000000000:Int)≠0 by decide);have hc3:=Int.emod_lt_of_pos (c2/18) (show(0:Int)<100000000000000000000000000000000000000000000000000 by decide);refine⟨a,pr,kvs,T,l,_,rfl,l4 _ _ ga3,tb3.mono λb ws e=>l4 _ _ e,g4,hl,?_,by (clear hns en n0 n1 hlen lT hc3;lia),?_,?_⟩
   ·obtain⟨h1,c,ys,rfl,hc⟩:=hl;have:=gZ h1 (oE hc);rw[length_map] at this
    (clear hns en n0 n1 hlen hc2 hc3;lia)
   ·have:(10:Int)^51=1000000000000000000000000000000000000000000000000000:=by decide
    (clear hns en n0 n1 hlen lT hc3 this;lia)
   ·dsimp only;rw[if_neg (by decide)];exact main _ x hp G4 (l4 _ _ g3) (l4 _ _ ga3) (tb3.mono λb ws e=>l4 _ _ e) (l4 _ _ gx) hS (.inr ⟨pr,rfl⟩)
theorem xx (T:Txt K mg) (F:dX K "law" "law" (aQ 43) f fd):dU P w K mg base 100 f fd ["_law_script"] gE:=by
 obtain⟨x0,x1,x2,x3,x4,x5,x6,x7,x8,x9,x10,x11,x12,x13,⟨m0,e0⟩,⟨mC,e1⟩,⟨n2,_⟩,⟨n3,_⟩,⟨n4,_⟩,⟨n5,_⟩,⟨n6,_⟩,⟨n7,_⟩,⟨n8,_⟩,⟨n9,_⟩,⟨n10,_⟩,⟨n11,_⟩,⟨n12,_⟩,⟨n13,_⟩,s0,s2,s3,s4,s5,s6,s7,s8,s9,s10,s11,s12,s13,⟨_,d0⟩,⟨Q1,d1⟩,⟨_,d2⟩,⟨_,d3⟩,⟨_,d4⟩,⟨_,d5⟩,⟨_,d6⟩,⟨_,d7⟩,⟨_,d8⟩,⟨_,d9⟩,⟨_,d10⟩,⟨_,d11⟩,⟨_,d12⟩,⟨_,d13⟩⟩:=T.x_;obtain⟨bH,xH⟩:=XC.of e0;obtain⟨bC,xC⟩:=XC.of e1;have oC:XO K x1:=⟨XC.of e1,Q1,d1⟩;have hO:zX K mg x1 x2 x3 x4 x5 x6 x7 x8 x9 x10 x11 x12 x13:=⟨n2,n3,n4,n5,n6,n7,n8,n9,n10,n11,n12,n13,λD hD=>by
  simp only[mem_cons,not_mem_nil,or_false] at hD;rcases hD with rfl | rfl | rfl | rfl | rfl | rfl
  ·exact⟨d2,s2⟩
  ·exact⟨d3,s3⟩
  ·exact⟨d4,s4⟩
  ·exact⟨d5,s5⟩
  ·exact⟨d6,s6⟩
  ·exact⟨d7,s7⟩,λD hD=>by
  simp only[mem_cons,not_mem_nil,or_false] at hD;rcases hD with rfl | rfl | rfl | rfl | rfl | rfl
  ·exact⟨d8,s8⟩
  ·exact⟨d9,s9⟩
  ·exact⟨d10,s10⟩
  ·exact⟨d11,s11⟩
  ·exact⟨d12,s12⟩
  ·exact⟨d13,s13⟩⟩
 have Wd:=T.d_is_whole.fxd (P:=P) (w:=w) (base:=base) λf fd T' ds F=>Bm F T.z_isinstance T.z_int T.z_bool;have Rs:=T.d_raised.fx λf fd T' ds F=>Bn F Wd;have Wl:=T.d_whole.fx λf fd F=>Bo F Rs;have Cm:=T.d_compare.fx (P:=P) (w:=w) (base:=base) λf fd F=>Bl F;have Mg:=T.d_merged.fx λf fd F=>Bt F Cm T.z_len T.z_tuple;have Hn:=T.d_heap_number.fx λf fd F=>Bu F Mg Rs Wl;have Ra:=T.d_rank_above.fx (P:=P) (w:=w) (base:=base) λf fd F=>Bp F T.z_max;have Me:=T.d_ring_met.fx λf fd F=>Bq F Ra T.z_list;have Rk:=T.d_ranks.fx λf fd F=>Br F Me;have Ex:=T.d_exchange.rx (P:=P) (w:=w) (base:=base) λf fd F=>zJ F mC xC T.z_dict;have Ey:=T.d_exchange.fx (sp:=zZ) (P:=P) (w:=w) (base:=base) λf fd F=>(zJ F mC xC T.z_dict).calm λws G q e h=>by
  obtain⟨r,h,g,k,kvs,T,hp,gv,rfl,x,al,hq⟩:=h;exact⟨r,h,g,k,kvs,T,hp,gv,rfl,x,λhn=>absurd al hn,λ_=>hq⟩
 have Ca:=T.d__law_cell_at.fx (P:=P) (w:=w) (base:=base) λf fd F=>Bv F T.z_len;have Am:=T.d__law_amount.fx (P:=P) (w:=w) (base:=base) λf fd F=>Bw F;have Wo:=T.d__law_whole.fx (P:=P) (w:=w) (base:=base) λf fd F=>Bx F T.z_isinstance T.z_int T.z_bool;have He:=T.d__law_heap.fx λf fd F=>By F Ca Am T.z_range T.z_len;have Ru:=T.d__law_rules.fx λf fd F=>Bz F Ca T.z_range T.z_len;have Rd:=T.d__law_ranked.fx (P:=P) (w:=w) (base:=base) λf fd F=>BA F;have Gv:=T.d__law_given.fx λf fd F=>BB F Am T.z_len;have Al:=T.d__law_allowed.fx (P:=P) (w:=w) (base:=base) λf fd F=>BC F;have Be:=T.d__law_behind.fx (P:=P) (w:=w) (base:=base) λf fd F=>BD F T.z_list T.z_int;have Nu:=T.d__law_number.fx (P:=P) (w:=w) (base:=base) λf fd F=>BE F T.z_sorted T.z_tuple;have Le:=T.d__law_less.fx (P:=P) (w:=w) (base:=base) λf fd F=>BF F T.z_len T.z_range T.z_min;have Xd:=T.d__law_exchanged.fx λf fd F=>BG F Ex mC xC;have Ro:=T.d__law_refused_so.fx λf fd F=>BH F Ex hO oC d1 s0 xC.self m0 xH mC T.z_isinstance T.z_ValueError;have Rn:=T.d__law_round.fx λf fd F=>BI F Ey T.z_dict T.z_len T.z_range;exact BJ F Ca Ru He Rk Rd Rn Gv Xd Al Ro Be Wo Hn Nu Le T.z_isinstance T.z_dict T.z_len
end
noncomputable abbrev oL (x y:Str) (t:Stmt) (d a b c:Value) (n:Option Addr) (e g:Value) (o:Value) (p:Option Addr) (r:Array (Option Value)):Option Obj:=some ⟨o,p,.func (fnOf x y (aM t) (aF t) (aw t) d a b c n e g),r⟩
noncomputable abbrev oR (a:Addr):Option (Option Value):=some (some (.ref a))
noncomputable abbrev oB (a:String):Option (Option Value):=some (some (.builtin a))
set_option maxHeartbeats 0 in
theorem all_mk {l:PySem.W.OpenLaw} {h:Heap} {fa f1 f2 f3 f4 f5 f6 f7 f8 f9 bj bk bl bm bp br bs bt bz bC bH b0 ca cb cc cd:Addr} (X:K.In h) (G:h.Ns mainGlobals mg) (n2:mg "law"=some (.ref fa))
 {n3 n4 n5 n6 n7 n8 n9 ob oc od oe of ok on op or os ov e8 fb fg fk fl fn fo fp fr fs fv fw fx fz fD f0 ga gb gc gd ge gg gh gi gk gl gn go gp gr gt ch:Option Addr} {oC oT oX o1 o2 pa pb pc pf gu gv gw gx gy gC gD gI gN gO gV g0 g1 g2 g3 g4:Array (Option Value)} {pg pi pj pk eG pl pm pn po pr eH pt pu pw px p0 eL p1 p2 p3 p4 p5 e0 qa qb qn qs qu e2 qv qx q0 q1 q2 e4 q3 q4 q5 q6 q7 e5 q8 q9 ra rb rd e6 rg ri rj rr rs e7 ru g5 g6 g7 g8 cl ha hb hc hd he cn hf hg hh hi hj co hk hm hn ho hp cp hq hr hs ht hu cs hv hx hy hz hA ct hB hC hD hE hF cw hG hH hI hK hL cD hM hN hO hP hQ cI hR hS hT hU hV c0 hX hY h0 h1 h2 da h3 h4 h5 h6 h7 db h8 h9 id ih ij dd il is it iv ix de iy iz i0 i1 i3 dk j0 j1 dl ds dx bi dy:Value} {T1:Addr} {rv:Value} {rw:Option Addr} {rx:Nat} {ry:Array (Option Value)} {be:Tok} {T3:Addr} {r0:Value} {r1:Option Addr} {r2:Nat} {r3:Array (Option Value)} {bg:Tok} {aj:Addr} {j2:ClassData} {ab:Addr} {j3:ClassData} {al:Addr} {j4:ClassData} {an:Addr} {j5:ClassData} {ap:Addr} {ka:ClassData} {ar:Addr} {kb:ClassData} {as:Addr} {ke:ClassData} {az:Addr} {ki:ClassData} {a0:Addr} {kk:ClassData} {bb:Addr} {kp:ClassData} {ac:Addr} {dO:ClassData} {ad:Addr} {dT:ClassData} {ag:Addr} {dV:ClassData} {ai:Addr} {d0:ClassData}
 (a1:nsIn K mainGlobals "is_whole"=oR f1) (l1:K.lookup f1=oL "is_whole" "is_whole" (aQ 16) (.ref T1) pi pj pk n4 eG pl pg n3 oC) (c1:codeIn K eG "is_whole"=true) (k1:keepIn K (.ref f1)=true)
 (a2:nsIn K mainGlobals "whole"=oR f2) (l2:K.lookup f2=oL "whole" "whole" (aQ 17) .none pn po pr n6 eH pt pm n5 oT) (c2:codeIn K eH "whole"=true) (k2:keepIn K (.ref f2)=true)
 (a3:nsIn K mainGlobals "raised"=oR f3) (l3:K.lookup f3=oL "raised" "raised" (aQ 18) (.ref T3) pw px p0 n8 eL p1 pu n7 oX) (c3:codeIn K eL "raised"=true) (k3:keepIn K (.ref f3)=true)
 (a4:nsIn K mainGlobals "compare"=oR f4) (l4:K.lookup f4=oL "compare" "compare" (aQ 19) .none p3 p4 p5 ob e0 qa p2 n9 o1) (c4:codeIn K e0 "compare"=true) (k4:keepIn K (.ref f4)=true)
 (a5:nsIn K mainGlobals "merged"=oR f5) (l5:K.lookup f5=oL "merged" "merged" (aQ 21) .none qn qs qu od e2 qv qb oc o2) (c5:codeIn K e2 "merged"=true) (k5:keepIn K (.ref f5)=true)
 (a6:nsIn K mainGlobals "ranks"=oR f6) (l6:K.lookup f6=oL "ranks" "ranks" (aQ 23) .none q0 q1 q2 of e4 q3 qx oe pa) (c6:codeIn K e4 "ranks"=true) (k6:keepIn K (.ref f6)=true)
 (a7:nsIn K mainGlobals "ring_met"=oR f7) (l7:K.lookup f7=oL "ring_met" "ring_met" (aQ 24) .none q5 q6 q7 on e5 q8 q4 ok pb) (c7:codeIn K e5 "ring_met"=true) (k7:keepIn K (.ref f7)=true)
 (a8:nsIn K mainGlobals "rank_above"=oR f8) (l8:K.lookup f8=oL "rank_above" "rank_above" (aQ 25) .none ra rb rd or e6 rg q9 op pc) (c8:codeIn K e6 "rank_above"=true) (k8:keepIn K (.ref f8)=true)
 (a9:nsIn K mainGlobals "heap_number"=oR f9) (l9:K.lookup f9=oL "heap_number" "heap_number" (aQ 26) .none rj rr rs ov e7 ru ri os pf) (c9:codeIn K e7 "heap_number"=true) (k9:keepIn K (.ref f9)=true)
 (r4:nsIn K mainGlobals "exchange"=oR bj) (r5:K.lookup bj=oL "exchange" "exchange" (aQ 27) .none g6 g7 g8 fb cl ha g5 e8 gu) (r7:codeIn K cl "exchange"=true) (r8:keepIn K (.ref bj)=true)
 (sa:nsIn K mainGlobals "_law_cell_at"=oR bk) (sb:K.lookup bk=oL "_law_cell_at" "_law_cell_at" (aQ 29) .none hc hd he fk cn hf hb fg gv) (sc:codeIn K cn "_law_cell_at"=true) (sg:keepIn K (.ref bk)=true)
 (sl:nsIn K mainGlobals "_law_whole"=oR bl) (sn:K.lookup bl=oL "_law_whole" "_law_whole" (aQ 30) .none hh hi hj fn co hk hg fl gw) (sp:codeIn K co "_law_whole"=true) (sq:keepIn K (.ref bl)=true)
 (sv:nsIn K mainGlobals "_law_amount"=oR bm) (sz:K.lookup bm=oL "_law_amount" "_law_amount" (aQ 31) .none hn ho hp fp cp hq hm fo gx) (sC:codeIn K cp "_law_amount"=true) (sD:keepIn K (.ref bm)=true)
 (sH:nsIn K mainGlobals "_law_rules"=oR bp) (s0:K.lookup bp=oL "_law_rules" "_law_rules" (aQ 32) .none hs ht hu fs cs hv hr fr gy) (s1:codeIn K cs "_law_rules"=true) (s2:keepIn K (.ref bp)=true)
 (s3:nsIn K mainGlobals "_law_heap"=oR br) (s4:K.lookup br=oL "_law_heap" "_law_heap" (aQ 33) .none hy hz hA fw ct hB hx fv gC) (s5:codeIn K ct "_law_heap"=true) (s6:keepIn K (.ref br)=true)
 (s7:nsIn K mainGlobals "_law_ranked"=oR bs) (s8:K.lookup bs=oL "_law_ranked" "_law_ranked" (aQ 34) .none hD hE hF fz cw hG hC fx gD) (s9:codeIn K cw "_law_ranked"=true) (ta:keepIn K (.ref bs)=true)
 (tb:nsIn K mainGlobals "_law_given"=oR bt) (tc:K.lookup bt=oL "_law_given" "_law_given" (aQ 35) .none hI hK hL f0 cD hM hH fD gI) (td:codeIn K cD "_law_given"=true) (te:keepIn K (.ref bt)=true)
 (tg:nsIn K mainGlobals "_law_allowed"=oR bz) (th:K.lookup bz=oL "_law_allowed" "_law_allowed" (aQ 36) .none hO hP hQ gb cI hR hN ga gN) (ti:codeIn K cI "_law_allowed"=true) (tk:keepIn K (.ref bz)=true)
 (tn:nsIn K mainGlobals "_law_behind"=oR bC) (to:K.lookup bC=oL "_law_behind" "_law_behind" (aQ 37) .none hT hU hV gd c0 hX hS gc gO) (tr:codeIn K c0 "_law_behind"=true) (ts:keepIn K (.ref bC)=true)
 (tt:nsIn K mainGlobals "_law_number"=oR bH) (tv:K.lookup bH=oL "_law_number" "_law_number" (aQ 38) .none h0 h1 h2 gg da h3 hY ge gV) (tx:codeIn K da "_law_number"=true) (ty:keepIn K (.ref bH)=true)
 (tA:nsIn K mainGlobals "_law_less"=oR b0) (t0:K.lookup b0=oL "_law_less" "_law_less" (aQ 39) .none h5 h6 h7 gi db h8 h4 gh g0) (t2:codeIn K db "_law_less"=true) (t4:keepIn K (.ref b0)=true)
 (t5:nsIn K mainGlobals "_law_exchanged"=oR ca) (t6:K.lookup ca=oL "_law_exchanged" "_law_exchanged" (aQ 40) .none id ih ij gl dd il h9 gk g1) (t7:codeIn K dd "_law_exchanged"=true) (t8:keepIn K (.ref ca)=true)
 (t9:nsIn K mainGlobals "_law_refused_so"=oR cb) (ua:K.lookup cb=oL "_law_refused_so" "_law_refused_so" (aQ 41) .none it iv ix go de iy is gn g2) (ub:codeIn K de "_law_refused_so"=true) (un:keepIn K (.ref cb)=true)
 (up:nsIn K mainGlobals "_law_round"=oR cc) (ux:K.lookup cc=oL "_law_round" "_law_round" (aQ 42) .none i0 i1 i3 gr dk j0 iz gp g3) (uy:codeIn K dk "_law_round"=true) (u1:keepIn K (.ref cc)=true)
 (u2:nsIn K mainGlobals "law"=oR cd) (u8:K.lookup cd=oL "law" "law" (aQ 43) .none dl ds dx ch bi dy j1 gt g4) (va:codeIn K bi "law"=true) (vb:keepIn K (.ref cd)=true)
 (t1:K.lookup T1=some ⟨rv,rw,.seq #[.int 0 be] rx,ry⟩)
 (t3:K.lookup T3=some ⟨r0,r1,.seq #[.int 1 bg] r2,r3⟩)
 (vl:nsIn K mainGlobals "HydraError"=oR aj) (vr:excIn K aj [.type "ValueError",.type "Exception",.type "BaseException",.type "object"] "ValueError.__new__"=true)
 (vs:nsIn K mainGlobals "NoChore"=oR ab) (vu:excIn K ab [.type "ValueError",.type "Exception",.type "BaseException",.type "object"] "ValueError.__new__"=true)
 (v0:nsIn K mainGlobals "NoNumber"=oR al) (v1:excIn K al [.type "ValueError",.type "Exception",.type "BaseException",.type "object"] "ValueError.__new__"=true)
 (v2:nsIn K mainGlobals "Nought"=oR an) (v3:excIn K an [.type "ValueError",.type "Exception",.type "BaseException",.type "object"] "ValueError.__new__"=true)
 (v4:nsIn K mainGlobals "TooHigh"=oR ap) (v8:excIn K ap [.type "ValueError",.type "Exception",.type "BaseException",.type "object"] "ValueError.__new__"=true)
 (we:nsIn K mainGlobals "NoLimit"=oR ar) (wi:excIn K ar [.type "ValueError",.type "Exception",.type "BaseException",.type "object"] "ValueError.__new__"=true)
 (wl:nsIn K mainGlobals "NoHead"=oR as) (wp:excIn K as [.type "ValueError",.type "Exception",.type "BaseException",.type "object"] "ValueError.__new__"=true)
 (wr:nsIn K mainGlobals "NoStep"=oR az) (ws:excIn K az [.type "ValueError",.type "Exception",.type "BaseException",.type "object"] "ValueError.__new__"=true)
 (wx:nsIn K mainGlobals "NoFit"=oR a0) (wy:excIn K a0 [.type "ValueError",.type "Exception",.type "BaseException",.type "object"] "ValueError.__new__"=true)
 (w0:nsIn K mainGlobals "TooGreat"=oR bb) (w2:excIn K bb [.type "ValueError",.type "Exception",.type "BaseException",.type "object"] "ValueError.__new__"=true)
 (ks:nsIn K mainGlobals "NoFall"=oR ac) (kv:excIn K ac [.type "ValueError",.type "Exception",.type "BaseException",.type "object"] "ValueError.__new__"=true)
 (kw:nsIn K mainGlobals "NoText"=oR ad) (kU:excIn K ad [.type "ValueError",.type "Exception",.type "BaseException",.type "object"] "ValueError.__new__"=true)
 (k0:nsIn K mainGlobals "NoName"=oR ag) (la:excIn K ag [.type "ValueError",.type "Exception",.type "BaseException",.type "object"] "ValueError.__new__"=true)
 (lb:nsIn K mainGlobals "NoRow"=oR ai) (ld:excIn K ai [.type "ValueError",.type "Exception",.type "BaseException",.type "object"] "ValueError.__new__"=true)
 (d1:mroIn K ab (.ref aj)=some true)
 (d2:mroIn K ab (.ref al)=some false)
 (d3:mroIn K ab (.ref an)=some false)
 (d4:mroIn K ab (.ref ap)=some false)
 (d5:mroIn K ab (.ref ar)=some false)
 (d6:mroIn K ab (.ref as)=some false)
 (d7:mroIn K ab (.ref az)=some false)
 (d8:mroIn K ab (.ref a0)=some false)
 (d9:mroIn K ab (.ref bb)=some false)
 (dz:mroIn K ab (.ref ac)=some false)
 (dC:mroIn K ab (.ref ad)=some false)
 (dI:mroIn K ab (.ref ag)=some false)
 (dK:mroIn K ab (.ref ai)=some false)
 (le:findIn K (.ref aj) "__getattribute__"=oB "BaseException.__getattribute__") (lf:findIn K (.ref aj) "__getattr__"=some none) (li:findIn K (.ref aj) "__class__"=oB "object.__class__") (lk:clsIn K aj=some j2) (ln:typeIn K (.ref aj)=some (.type "type")) (lo:instIn K (.ref aj) (.type "type")=some true)
 (ls:findIn K (.ref ab) "__getattribute__"=oB "BaseException.__getattribute__") (lt:findIn K (.ref ab) "__getattr__"=some none) (lv:findIn K (.ref ab) "__class__"=oB "object.__class__") (ly:clsIn K ab=some j3) (lz:typeIn K (.ref ab)=some (.type "type")) (lT:instIn K (.ref ab) (.type "type")=some true)
 (l0:findIn K (.ref al) "__getattribute__"=oB "BaseException.__getattribute__") (ma:findIn K (.ref al) "__getattr__"=some none) (mb:findIn K (.ref al) "__class__"=oB "object.__class__") (mc:clsIn K al=some j4) (md:typeIn K (.ref al)=some (.type "type")) (mi:instIn K (.ref al) (.type "type")=some true)
 (mk:findIn K (.ref an) "__getattribute__"=oB "BaseException.__getattribute__") (ml:findIn K (.ref an) "__getattr__"=some none) (mm:findIn K (.ref an) "__class__"=oB "object.__class__") (mn:clsIn K an=some j5) (mp:typeIn K (.ref an)=some (.type "type")) (mr:instIn K (.ref an) (.type "type")=some true)
 (ms:findIn K (.ref ap) "__getattribute__"=oB "BaseException.__getattribute__") (mt:findIn K (.ref ap) "__getattr__"=some none) (mu:findIn K (.ref ap) "__class__"=oB "object.__class__") (mv:clsIn K ap=some ka) (mA:typeIn K (.ref ap)=some (.type "type")) (mC:instIn K (.ref ap) (.type "type")=some true)
 (mH:findIn K (.ref ar) "__getattribute__"=oB "BaseException.__getattribute__") (mN:findIn K (.ref ar) "__getattr__"=some none) (mT:findIn K (.ref ar) "__class__"=oB "object.__class__") (m0:clsIn K ar=some kb) (m1:typeIn K (.ref ar)=some (.type "type")) (m2:instIn K (.ref ar) (.type "type")=some true)
 (m3:findIn K (.ref as) "__getattribute__"=oB "BaseException.__getattribute__") (m4:findIn K (.ref as) "__getattr__"=some none) (m5:findIn K (.ref as) "__class__"=oB "object.__class__") (m6:clsIn K as=some ke) (na:typeIn K (.ref as)=some (.type "type")) (nb:instIn K (.ref as) (.type "type")=some true)
 (nc:findIn K (.ref az) "__getattribute__"=oB "BaseException.__getattribute__") (nd:findIn K (.ref az) "__getattr__"=some none) (ne:findIn K (.ref az) "__class__"=oB "object.__class__") (nf:clsIn K az=some ki) (nh:typeIn K (.ref az)=some (.type "type")) (nm:instIn K (.ref az) (.type "type")=some true)
 (nn:findIn K (.ref a0) "__getattribute__"=oB "BaseException.__getattribute__") (no:findIn K (.ref a0) "__getattr__"=some none) (np:findIn K (.ref a0) "__class__"=oB "object.__class__") (ns:clsIn K a0=some kk) (nt:typeIn K (.ref a0)=some (.type "type")) (nu:instIn K (.ref a0) (.type "type")=some true)
 (nw:findIn K (.ref bb) "__getattribute__"=oB "BaseException.__getattribute__") (nx:findIn K (.ref bb) "__getattr__"=some none) (nL:findIn K (.ref bb) "__class__"=oB "object.__class__") (nT:clsIn K bb=some kp) (n0:typeIn K (.ref bb)=some (.type "type")) (n1:instIn K (.ref bb) (.type "type")=some true)
 (ea:findIn K (.ref ac) "__getattribute__"=oB "BaseException.__getattribute__") (eb:findIn K (.ref ac) "__getattr__"=some none) (ec:findIn K (.ref ac) "__class__"=oB "object.__class__") (ed:clsIn K ac=some dO) (ee:typeIn K (.ref ac)=some (.type "type")) (eg:instIn K (.ref ac) (.type "type")=some true)
 (ei:findIn K (.ref ad) "__getattribute__"=oB "BaseException.__getattribute__") (ej:findIn K (.ref ad) "__getattr__"=some none) (ek:findIn K (.ref ad) "__class__"=oB "object.__class__") (el:clsIn K ad=some dT) (em:typeIn K (.ref ad)=some (.type "type")) (en:instIn K (.ref ad) (.type "type")=some true)
 (eo:findIn K (.ref ag) "__getattribute__"=oB "BaseException.__getattribute__") (ep:findIn K (.ref ag) "__getattr__"=some none) (eq:findIn K (.ref ag) "__class__"=oB "object.__class__") (er:clsIn K ag=some dV) (es:typeIn K (.ref ag)=some (.type "type")) (eu:instIn K (.ref ag) (.type "type")=some true)
 (ev:findIn K (.ref ai) "__getattribute__"=oB "BaseException.__getattribute__") (ew:findIn K (.ref ai) "__getattr__"=some none) (ex:findIn K (.ref ai) "__class__"=oB "object.__class__") (ey:clsIn K ai=some d0) (ez:typeIn K (.ref ai)=some (.type "type")) (eD:instIn K (.ref ai) (.type "type")=some true)
 (z1:nsIn K mainGlobals "ValueError"=some none) (z2:nsIn K mainGlobals "bool"=some none) (z3:nsIn K mainGlobals "dict"=some none) (z4:nsIn K mainGlobals "int"=some none) (z5:nsIn K mainGlobals "isinstance"=some none) (z6:nsIn K mainGlobals "len"=some none) (z7:nsIn K mainGlobals "list"=some none) (z8:nsIn K mainGlobals "max"=some none) (z9:nsIn K mainGlobals "min"=some none) (w3:nsIn K mainGlobals "range"=some none) (w4:nsIn K mainGlobals "sorted"=some none) (w7:nsIn K mainGlobals "tuple"=some none):
 ∃fd:FuncData,(∀(s:Shared) (v:Value),BindsTo s fd ⟨[v],[]⟩ [("_law_script",v)])/\∀base:Heap,K.In base->base.Ns mainGlobals mg->i7 l.prog w K mg base p8 100 fa fd ["_law_script"] (sQ K gE):=by
 have e:=n2.symm.trans (mg_of X G u2);cases e;have F1:iG K "is_whole" "is_whole" (aQ 16) f1 _ T1 [.int 0 be]:=nJ l1 c1 k1 t1 rfl;have b1:ce K _ ["thing","least"] []:=F1.binds λ_ _ _ _ _ _ us hl=>(λ(q:us.length=2)=>by clear hl;revert us;refine cj (λ_=>cj (λ_=>gW ?_));exact⟨_,rfl,rfl⟩) (by simpa using hl);have e1:ce K _ ["thing","least"] [.int 0 be]:=F1.binds λ_ _ _ _ _ _ us hl=>(λ(q:us.length=1)=>by clear hl;revert us;refine cj (λ_=>gW ?_);exact⟨_,rfl,rfl⟩) (by simpa using hl);have F2:=bx (st:=aQ 17) l2 c2 k2;have b2:=F2.binds (ps:=["n"]) λ_ _ _ _ _ _=>cj (λ_=>gW rfl);have F3:iG K "raised" "raised" (aQ 18) f3 _ T3 [.int 1 bg]:=nJ l3 c3 k3 t3 rfl;have b3:ce K _ ["exponent","times"] []:=F3.binds λ_ _ _ _ _ _ us hl=>(λ(q:us.length=2)=>by clear hl;revert us;refine cj (λ_=>cj (λ_=>gW ?_));exact⟨_,rfl,rfl⟩) (by simpa using hl);have e3:ce K _ ["exponent","times"] [.int 1 bg]:=F3.binds λ_ _ _ _ _ _ us hl=>(λ(q:us.length=1)=>by clear hl;revert us;refine cj (λ_=>gW ?_);exact⟨_,rfl,rfl⟩) (by simpa using hl);have F4:=bx (st:=aQ 19) l4 c4 k4;have b4:=F4.binds (ps:=["a","b"]) λ_ _ _ _ _ _=>cj (λ_=>cj (λ_=>gW rfl));have F5:=bx (st:=aQ 21) l5 c5 k5;have b5:=F5.binds (ps:=["a","b"]) λ_ _ _ _ _ _=>cj (λ_=>cj (λ_=>gW rfl));have F6:=bx (st:=aQ 23) l6 c6 k6;have b6:=F6.binds (ps:=["rules"]) λ_ _ _ _ _ _=>cj (λ_=>gW rfl);have F7:=bx (st:=aQ 24) l7 c7 k7;have b7:=F7.binds (ps:=["rules","first","ranking"]) λ_ _ _ _ _ _=>cj (λ_=>cj (λ_=>cj (λ_=>gW rfl)));have F8:=bx (st:=aQ 25) l8 c8 k8;have b8:=F8.binds (ps:=["kinds","ranking"]) λ_ _ _ _ _ _=>cj (λ_=>cj (λ_=>gW rfl));have F9:=bx (st:=aQ 26) l9 c9 k9;have b9:=F9.binds (ps:=["ranking","heap"]) λ_ _ _ _ _ _=>cj (λ_=>cj (λ_=>gW rfl));have F10:=bx (st:=aQ 27) r5 r7 r8;have b10:=F10.binds (ps:=["rules","heap","kind","given"]) λ_ _ _ _ _ _=>cj (λ_=>cj (λ_=>cj (λ_=>cj (λ_=>gW rfl))));have F11:=bx (st:=aQ 29) sb sc sg;have b11:=F11.binds (ps:=["_law_script","_law_k"]) λ_ _ _ _ _ _=>cj (λ_=>cj (λ_=>gW rfl));have F12:=bx (st:=aQ 30) sn sp sq;have b12:=F12.binds (ps:=["_law_found"]) λ_ _ _ _ _ _=>cj (λ_=>gW rfl);have F13:=bx (st:=aQ 31) sz sC sD;have b13:=F13.binds (ps:=["_law_cell"]) λ_ _ _ _ _ _=>cj (λ_=>gW rfl);have F14:=bx (st:=aQ 32) s0 s1 s2;have b14:=F14.binds (ps:=["_law_script","_law_kinds"]) λ_ _ _ _ _ _=>cj (λ_=>cj (λ_=>gW rfl));have F15:=bx (st:=aQ 33) s4 s5 s6;have b15:=F15.binds (ps:=["_law_script","_law_kinds"]) λ_ _ _ _ _ _=>cj (λ_=>cj (λ_=>gW rfl));have F16:=bx (st:=aQ 34) s8 s9 ta;have b16:=F16.binds (ps:=["_law_heap_here","_law_ranking"]) λ_ _ _ _ _ _=>cj (λ_=>cj (λ_=>gW rfl));have F17:=bx (st:=aQ 35) tc td te;have b17:=F17.binds (ps:=["_law_cell","_law_kind","_law_rules_here","_law_kinds"]) λ_ _ _ _ _ _=>cj (λ_=>cj (λ_=>cj (λ_=>cj (λ_=>gW rfl))));have F18:=bx (st:=aQ 36) th ti tk;have b18:=F18.binds (ps:=["_law_rules_here","_law_heap_here","_law_kind","_law_given_here"]) λ_ _ _ _ _ _=>cj (λ_=>cj (λ_=>cj (λ_=>cj (λ_=>gW rfl))));have F19:=bx (st:=aQ 37) to tr ts;have b19:=F19.binds (ps:=["_law_heap_here","_law_kind","_law_given_here"]) λ_ _ _ _ _ _=>cj (λ_=>cj (λ_=>cj (λ_=>gW rfl)));have F20:=bx (st:=aQ 38) tv tx ty;have b20:=F20.binds (ps:=["_law_told","_law_heap_here"]) λ_ _ _ _ _ _=>cj (λ_=>cj (λ_=>gW rfl));have F21:=bx (st:=aQ 39) t0 t2 t4;have b21:=F21.binds (ps:=["_law_one","_law_other"]) λ_ _ _ _ _ _=>cj (λ_=>cj (λ_=>gW rfl));have F22:=bx (st:=aQ 40) t6 t7 t8;have b22:=F22.binds (ps:=["_law_rules_here","_law_heap_here","_law_kind","_law_given_here"]) λ_ _ _ _ _ _=>cj (λ_=>cj (λ_=>cj (λ_=>cj (λ_=>gW rfl))));have F23:=bx (st:=aQ 41) ua ub un;have b23:=F23.binds (ps:=["_law_rules_here","_law_heap_here","_law_kind","_law_given_here"]) λ_ _ _ _ _ _=>cj (λ_=>cj (λ_=>cj (λ_=>cj (λ_=>gW rfl))));have F24:=bx (st:=aQ 42) ux uy u1;have b24:=F24.binds (ps:=["_law_rules_here","_law_ring","_law_many"]) λ_ _ _ _ _ _=>cj (λ_=>cj (λ_=>cj (λ_=>gW rfl)));have F25:=bx (st:=aQ 43) u8 va vb;have T:Txt K mg:=⟨⟨f1,_,T1,_,[.int 0],F1,b1,e1,mg_of X G a1,(.cons ⟨_,rfl⟩ .nil),λ_=>(.cons (.int _) .nil)⟩,⟨f2,_,F2,b2,mg_of X G a2⟩,⟨f3,_,T3,_,[.int 1],F3,b3,e3,mg_of X G a3,(.cons ⟨_,rfl⟩ .nil),λ_=>(.cons (.int _) .nil)⟩,⟨f4,_,F4,b4,mg_of X G a4⟩,⟨f5,_,F5,b5,mg_of X G a5⟩,⟨f6,_,F6,b6,mg_of X G a6⟩,⟨f7,_,F7,b7,mg_of X G a7⟩,⟨f8,_,F8,b8,mg_of X G a8⟩,⟨f9,_,F9,b9,mg_of X G a9⟩,⟨bj,_,F10,b10,mg_of X G r4⟩,⟨bk,_,F11,b11,mg_of X G sa⟩,⟨bl,_,F12,b12,mg_of X G sl⟩,⟨bm,_,F13,b13,mg_of X G sv⟩,⟨bp,_,F14,b14,mg_of X G sH⟩,⟨br,_,F15,b15,mg_of X G s3⟩,⟨bs,_,F16,b16,mg_of X G s7⟩,⟨bt,_,F17,b17,mg_of X G tb⟩,⟨bz,_,F18,b18,mg_of X G tg⟩,⟨bC,_,F19,b19,mg_of X G tn⟩,⟨bH,_,F20,b20,mg_of X G tt⟩,⟨b0,_,F21,b21,mg_of X G tA⟩,⟨ca,_,F22,b22,mg_of X G t5⟩,⟨cb,_,F23,b23,mg_of X G t9⟩,⟨cc,_,F24,b24,mg_of X G up⟩,⟨aj,ab,al,an,ap,ar,as,az,a0,bb,ac,ad,ag,ai,⟨mg_of X G vl,vr⟩,⟨mg_of X G vs,vu⟩,⟨mg_of X G v0,v1⟩,⟨mg_of X G v2,v3⟩,⟨mg_of X G v4,v8⟩,⟨mg_of X G we,wi⟩,⟨mg_of X G wl,wp⟩,⟨mg_of X G wr,ws⟩,⟨mg_of X G wx,wy⟩,⟨mg_of X G w0,w2⟩,⟨mg_of X G ks,kv⟩,⟨mg_of X G kw,kU⟩,⟨mg_of X G k0,la⟩,⟨mg_of X G lb,ld⟩,d1,d2,d3,d4,d5,d6,d7,d8,d9,dz,dC,dI,dK,⟨⟨le,lf,li⟩,⟨⟨_,lk⟩,ln,lo⟩⟩,⟨⟨ls,lt,lv⟩,⟨⟨_,ly⟩,lz,lT⟩⟩,⟨⟨l0,ma,mb⟩,⟨⟨_,mc⟩,md,mi⟩⟩,⟨⟨mk,ml,mm⟩,⟨⟨_,mn⟩,mp,mr⟩⟩,⟨⟨ms,mt,mu⟩,⟨⟨_,mv⟩,mA,mC⟩⟩,⟨⟨mH,mN,mT⟩,⟨⟨_,m0⟩,m1,m2⟩⟩,⟨⟨m3,m4,m5⟩,⟨⟨_,m6⟩,na,nb⟩⟩,⟨⟨nc,nd,ne⟩,⟨⟨_,nf⟩,nh,nm⟩⟩,⟨⟨nn,no,np⟩,⟨⟨_,ns⟩,nt,nu⟩⟩,⟨⟨nw,nx,nL⟩,⟨⟨_,nT⟩,n0,n1⟩⟩,⟨⟨ea,eb,ec⟩,⟨⟨_,ed⟩,ee,eg⟩⟩,⟨⟨ei,ej,ek⟩,⟨⟨_,el⟩,em,en⟩⟩,⟨⟨eo,ep,eq⟩,⟨⟨_,er⟩,es,eu⟩⟩,⟨⟨ev,ew,ex⟩,⟨⟨_,ey⟩,ez,eD⟩⟩⟩,mg_none_of X G z1,mg_none_of X G z2,mg_none_of X G z3,mg_none_of X G z4,mg_none_of X G z5,mg_none_of X G z6,mg_none_of X G z7,mg_none_of X G z8,mg_none_of X G z9,mg_none_of X G w3,mg_none_of X G w4,mg_none_of X G w7⟩;exact⟨fnOf "law" "law" (aM (aQ 43)) (aF (aQ 43)) (aw (aQ 43)) .none dl ds dx ch bi dy,λs v=> .of_eq rfl,λbase _ _=>xx T F25⟩
theorem walk {l:PySem.W.OpenLaw} {q:Program} {loose:List Str} {XP:(Str->Option Value)->Heap->Prop} {YP:World->Heap->Prop} {d:DefRec} {K:Params->PySem.W.Frag} (hn:l.most=some 63) (hdf:d.params.defaults=[])
 (hY:∀(w:World) (h:Heap),YP w h->(K w.params).In h)
 (F:∀(w:World) (mg:Str->Option Value) (fa:Addr) (h:Heap),(K w.params).In h->h.Ns mainGlobals mg->mg d.name=some (.ref fa)->
   ∃fd:FuncData,(∀(s:Shared) (u:Value),BindsTo s fd ⟨[u],[]⟩ [("_law_script",u)])/\∀base:Heap,(K w.params).In base->base.Ns mainGlobals mg->i7 l.prog w (K w.params) mg base p8 100 fa fd ["_law_script"] (sQ (K w.params) gE)):
 PySem.W.WalkO q loose XP YP l.row.toRowW d [] (λf vs=>PySem.call f vs):=
 L2.walk_ofC (n:=63) (k:=100) (x:="_law_script") (CX:=λ_=>p8) (sp:=λw=>sQ (K w.params) gE) hn (by decide) hdf ⟨rfl,by decide,by decide⟩ hY F (λ_ _ _ _ hl hc hO hS=>mU hO hS hl hc) λ_ _ _ _ _ z=>z
end Lw
namespace PySem.W.Fast
theorem te13952392197516788591:0=0:=rfl
theorem te17647574689621370741:0=0:=rfl
theorem te10762480920209902183:0=0:=rfl
theorem te821472507343274110:0=0:=rfl
theorem te14054568806322137240:0=0:=rfl
theorem te8114346294060125753:0=0:=rfl
theorem te13701259798919495649:0=0:=rfl
theorem te16216834352342585068:0=0:=rfl
theorem te17826727055912883840:0=0:=rfl
theorem te11912771178423944529:0=0:=rfl
theorem te6777682486630730909:0=0:=rfl
theorem te4525475215403244226:0=0:=rfl
theorem te12135465198556076854:0=0:=rfl
theorem te14323752466156755545:0=0:=rfl
theorem te2319866380471970285:0=0:=rfl
theorem te10690351102974573096:0=0:=rfl
theorem te3087636351544474418:0=0:=rfl
theorem te4233161414751517605:0=0:=rfl
theorem te10119971849000541338:0=0:=rfl
theorem te2504455696713236932:0=0:=rfl
theorem te9879210336713946136:0=0:=rfl
theorem te6429149164243182026:0=0:=rfl
theorem te8289300905949738317:0=0:=rfl
theorem te14447125971717486959:0=0:=rfl
theorem te10496065307115146213:0=0:=rfl
theorem te1879773213432972502:0=0:=rfl
theorem te1088558124572690282:0=0:=rfl
theorem te16293481723045337039:0=0:=rfl
theorem te6368685562621691987:0=0:=rfl
theorem te14993593900685437095:0=0:=rfl
theorem te13036292719562904711:0=0:=rfl
theorem te4808561492855076384:0=0:=rfl
theorem te16503152096375456289:0=0:=rfl
theorem te2726517490683693205:0=0:=rfl
theorem te8262659373719314065:0=0:=rfl
theorem te2051069875547423050:0=0:=rfl
theorem te5957201400401318812:0=0:=rfl
theorem te15467371104821600897:0=0:=rfl
theorem te1861062554610007584:0=0:=rfl
theorem te2738330309918809840:0=0:=rfl
theorem te17599812805235169891:0=0:=rfl
theorem te7844925690035460690:0=0:=rfl
theorem te9600844101641309756:0=0:=rfl
theorem te9615269096348280966:0=0:=rfl
theorem te7185053993821824637:0=0:=rfl
theorem te13825678546056021845:0=0:=rfl
theorem te16910010502254832902:0=0:=rfl
theorem te11513035910360626574:0=0:=rfl
theorem te15252195815308024369:0=0:=rfl
theorem te13479274494076690302:0=0:=rfl
theorem te1394920936024741304:0=0:=rfl
theorem te9605406200686546251:0=0:=rfl
theorem te18400253531019812291:0=0:=rfl
theorem te11604499583605550813:0=0:=rfl
theorem te14715905979777222599:0=0:=rfl
theorem te6169348227973537510:0=0:=rfl
theorem te15455715915072868652:0=0:=rfl
theorem te2716023210807276394:0=0:=rfl
theorem te6289704826835266248:0=0:=rfl
theorem te13214890883646916012:0=0:=rfl
theorem te9175378935819878350:0=0:=rfl
theorem te16000753502434869655:0=0:=rfl
theorem te5640443838069992481:0=0:=rfl
theorem te17679461037975493648:0=0:=rfl
theorem te14993752142454560672:0=0:=rfl
theorem te15151166946751392001:0=0:=rfl
theorem te12892736578089190653:0=0:=rfl
theorem te5648516307297256488:0=0:=rfl
theorem te13622348653501661465:0=0:=rfl
theorem te13154395285833645926:0=0:=rfl
theorem te8430600006652786604:0=0:=rfl
theorem te1305383471475835869:0=0:=rfl
theorem te17903455144297811981:0=0:=rfl
theorem te5500644409052187624:0=0:=rfl
theorem te2532961169023856924:0=0:=rfl
theorem te17724065830156316150:0=0:=rfl
theorem te17854073493304995267:0=0:=rfl
theorem te13023160768823319017:0=0:=rfl
theorem te9594975236554659960:0=0:=rfl
theorem te1106139972046256824:0=0:=rfl
theorem te15656977460896302870:0=0:=rfl
theorem te18307429027773025041:0=0:=rfl
theorem te4478640302204514419:0=0:=rfl
theorem te17072592856464248999:0=0:=rfl
theorem te13145275464955450090:0=0:=rfl
theorem te16693586538992075230:0=0:=rfl
theorem te15429289875045925249:0=0:=rfl
theorem te179718004914965170:0=0:=rfl
theorem te14099195251336722885:0=0:=rfl
theorem te1587672169173937835:0=0:=rfl
theorem te18169580749359546119:0=0:=rfl
theorem te5839310375557513337:0=0:=rfl
theorem te8601193272289828451:0=0:=rfl
theorem te7054234046018321032:0=0:=rfl
theorem te528516956859138025:0=0:=rfl
theorem te15487687033814135860:0=0:=rfl
theorem te11270431127198109046:0=0:=rfl
theorem te14057467426864710554:0=0:=rfl
theorem te13703611685208267499:0=0:=rfl
theorem te3083362970265102400:0=0:=rfl
theorem te18268106269197655331:0=0:=rfl
theorem te7778063517562452528:0=0:=rfl
theorem te15376128414599998618:0=0:=rfl
theorem te15197861467913179158:0=0:=rfl
theorem te10165769321967728262:0=0:=rfl
theorem te8739804439790435826:0=0:=rfl
theorem te12910025473493783254:0=0:=rfl
theorem te87653074166049736:0=0:=rfl
theorem te15810929462387102848:0=0:=rfl
theorem te15697340237435554592:0=0:=rfl
theorem te3928228442031621556:0=0:=rfl
theorem te18178825897109835415:0=0:=rfl
theorem te5417732138021533963:0=0:=rfl
theorem te3857298591444062276:0=0:=rfl
theorem te4686725848366120907:0=0:=rfl
theorem te7640677046964646265:0=0:=rfl
theorem te12130744331752539929:0=0:=rfl
theorem te11251409217128661432:0=0:=rfl
theorem te9752149298760806854:0=0:=rfl
theorem te6865431319127537639:0=0:=rfl
theorem te16347455336913220486:0=0:=rfl
theorem te17942925044379461392:0=0:=rfl
theorem te11627956148529897655:0=0:=rfl
theorem te14682670729575192509:0=0:=rfl
theorem te764140466482358695:0=0:=rfl
theorem te11525613094413342271:0=0:=rfl
theorem te6065595904630490623:0=0:=rfl
theorem te8298018298512636024:0=0:=rfl
theorem te2463343316049885145:0=0:=rfl
theorem te11901017531935467218:0=0:=rfl
theorem te14932980003879652266:0=0:=rfl
theorem te4586159479836922518:0=0:=rfl
theorem te2928163038609183347:0=0:=rfl
theorem te10221386241763573097:0=0:=rfl
theorem te4663232196473458289:0=0:=rfl
theorem te10704065599232153997:0=0:=rfl
theorem te17241845129969261596:0=0:=rfl
theorem te3978126747399715379:0=0:=rfl
theorem te3157566106441978154:0=0:=rfl
theorem te5889330025347473571:0=0:=rfl
theorem te17200853977650229259:0=0:=rfl
theorem te4095864134526386581:0=0:=rfl
theorem te4654153893600860253:0=0:=rfl
theorem te14792150016057488957:0=0:=rfl
theorem te12764025962878582202:0=0:=rfl
theorem te12549880924494281529:0=0:=rfl
theorem te7284641304676799222:0=0:=rfl
theorem te2217144887319515660:0=0:=rfl
theorem te11926997726619473290:0=0:=rfl
theorem te10257081460946412652:0=0:=rfl
noncomputable def tw457404795951168835:Unit:=()
noncomputable def tw8869978545776576552:Unit:=()
noncomputable def tw8590728734095006640:Unit:=()
noncomputable def tw4387212313075089381:Unit:=()
noncomputable def tw12796553650793558103:Unit:=()
noncomputable def tw3966332935934177984:Unit:=()
noncomputable def tw3855677165892249698:Unit:=()
noncomputable def tw10832903737785836290:Unit:=()
noncomputable def tw13766007659052972002:Unit:=()
noncomputable def tw9576364571895850022:Unit:=()
noncomputable def tw16518891718964139911:Unit:=()
noncomputable def tw17302646753312036073:Unit:=()
noncomputable def tw7770791965810486475:Unit:=()
noncomputable def tw14685768187972833964:Unit:=()
noncomputable def tw5722163693118474988:Unit:=()
noncomputable def tw4992930924884401837:Unit:=()
noncomputable def tw11913798287228004814:Unit:=()
noncomputable def tw14530552982806360303:Unit:=()
noncomputable def tw11521215046813340725:Unit:=()
noncomputable def tw18360373576454070261:Unit:=()
noncomputable def tw15839543037419183607:Unit:=()
noncomputable def tw11317098297447283287:Unit:=()
noncomputable def tw14670266955843661947:Unit:=()
noncomputable def tw2406417721291512605:Unit:=()
noncomputable def tw8286062458897422943:Unit:=()
end PySem.W.Fast
open PySem PySem.W PyProof.Rows
set_option maxRecDepth 100000 in
set_option maxHeartbeats 0 in
theorem PySem.Challenge.cw_hydrahouse_k68_exchanges_fall_holds : PySem.Challenge.rw_hydrahouse_k68_exchanges_fall.Holds := by
 w_on;o_law;k_head;(case hw=>w_witness2)
 k_fill
 refine Lw.walk (l:=PySem.Challenge.rw_hydrahouse_k68_exchanges_fall) rfl rfl (λw h Y=>PySem.W.kIn_of Y) ?F
 case F=>
  intro w mg fa h KX G hmg;refine' Lw.all_mk KX G hmg ?a1 ?l1 ?c1 ?k1 ?a2 ?l2 ?c2 ?k2 ?a3 ?l3 ?c3 ?k3 ?a4 ?l4 ?c4 ?k4 ?a5 ?l5 ?c5 ?k5 ?a6 ?l6 ?c6 ?k6 ?a7 ?l7 ?c7 ?k7 ?a8 ?l8 ?c8 ?k8 ?a9 ?l9 ?c9 ?k9 ?r4 ?r5 ?r7 ?r8 ?sa ?sb ?sc ?sg ?sl ?sn ?sp ?sq ?sv ?sz ?sC ?sD ?sH ?s0 ?s1 ?s2 ?s3 ?s4 ?s5 ?s6 ?s7 ?s8 ?s9 ?ta ?tb ?tc ?td ?te ?tg ?th ?ti ?tk ?tn ?to ?tr ?ts ?tt ?tv ?tx ?ty ?tA ?t0 ?t2 ?t4 ?t5 ?t6 ?t7 ?t8 ?t9 ?ua ?ub ?un ?up ?ux ?uy ?u1 ?u2 ?u8 ?va ?vb ?t1 ?t3 ?vl ?vr ?vs ?vu ?v0 ?v1 ?v2 ?v3 ?v4 ?v8 ?we ?wi ?wl ?wp ?wr ?ws ?wx ?wy ?w0 ?w2 ?ks ?kv ?kw ?kU ?k0 ?la ?lb ?ld ?d1 ?d2 ?d3 ?d4 ?d5 ?d6 ?d7 ?d8 ?d9 ?dz ?dC ?dI ?dK ?xQ ?lf ?li ?lk ?ln ?lo ?ls ?lt ?lv ?ly ?lz ?lT ?l0 ?ma ?mb ?mc ?md ?mi ?mk ?ml ?mm ?mn ?mp ?mr ?ms ?mt ?mu ?mv ?mA ?mC ?mH ?mN ?mT ?m0 ?m1 ?m2 ?m3 ?m4 ?m5 ?m6 ?na ?nb ?nc ?nd ?ne ?nf ?nh ?nm ?nn ?no ?np ?ns ?nt ?nu ?nw ?nx ?nL ?nT ?n0 ?n1 ?ea ?eb ?ec ?ed ?ee ?eg ?ei ?ej ?ek ?el ?em ?en ?eo ?ep ?eq ?er ?es ?eu ?ev ?ew ?ex ?ey ?ez ?eD ?z1 ?z2 ?z3 ?z4 ?z5 ?z6 ?z7 ?z8 ?z9 ?w3 ?w4 ?w7
  case a1|l1|c1|k1|a2|l2|c2|k2|a3|l3|c3|k3|a4|l4|c4|k4|a5|l5|c5|k5|a6|l6|c6|k6|a7|l7|c7|k7|a8|l8|c8|k8|a9|l9|c9|k9|r4|r5|r7|r8|sa|sb|sc|sg|sl|sn|sp|sq|sv|sz|sC|sD|sH|s0|s1|s2|s3|s4|s5|s6|s7|s8|s9|ta|tb|tc|td|te|tg|th|ti|tk|tn|to|tr|ts|tt|tv|tx|ty|tA|t0|t2|t4|t5|t6|t7|t8|t9|ua|ub|un|up|ux|uy|u1|u2|u8|va|vb|t1|t3|vl=>k_is
  (case vr=>k_exc)
  case vs=>k_is
  (case vu=>k_exc)
  case v0=>k_is
  (case v1=>k_exc)
  case v2=>k_is
  (case v3=>k_exc)
  case v4=>k_is
  (case v8=>k_exc)
  case we=>k_is
  (case wi=>k_exc)
  case wl=>k_is
  (case wp=>k_exc)
  case wr=>k_is
  (case ws=>k_exc)
  case wx=>k_is
  (case wy=>k_exc)
  case w0=>k_is
  (case w2=>k_exc)
  case ks=>k_is
  (case kv=>k_exc)
  case kw=>k_is
  (case kU=>k_exc)
  case k0=>k_is
  (case la=>k_exc)
  case lb=>k_is
  (case ld=>k_exc)
  case d1|d2|d3|d4|d5|d6|d7|d8|d9|dz|dC|dI|dK|xQ|lf|li|lk|ln|lo|ls|lt|lv|ly|lz|lT|l0|ma|mb|mc|md|mi|mk|ml|mm|mn|mp|mr|ms|mt|mu|mv|mA|mC|mH|mN|mT|m0|m1|m2|m3|m4|m5|m6|na|nb|nc|nd|ne|nf|nh|nm|nn|no|np|ns|nt|nu|nw|nx|nL|nT|n0|n1|ea|eb|ec|ed|ee|eg|ei|ej|ek|el|em|en|eo|ep|eq|er|es|eu|ev|ew|ex|ey|ez|eD|z1|z2|z3|z4|z5|z6|z7|z8|z9|w3|w4|w7=>k_is
