import PyProof.Rows.All
import Wide.All
import OpenK.AllK
import Wide.FinOn
import KE.KEqDict
import KE.KPairComp
import KE.KDictList
import KE.KRevSl
import PyProof.Rows.SetFrom
import KE.KRevIter
import KE.KDictOf
import KE.KIntText
import PyProof.CallStr
import KE.KSortAsk
import KE.KSortTup
import PyProof.Rows.SortRev
import KE.KDictSum
import PySem.Challenge.RW_hydrahouse_k71_shown_and_read
set_option bootstrap.genMatcherCode false
set_option compiler.extract_closed false
set_option genSizeOf false
-- CHANGE: your row's module here, as the last of these rows
set_option Elab.async false
set_option linter.all false
set_option maxRecDepth 100000
open PySem.W (codeIn emptyDict excIn findIn fnOf hasDictIn hideAll hideAll_get hideAll_none instObj isFn keepIn kia_one lookIn mg_none_of mg_of nsIn plainGet)
abbrev yav:=PySem.W.Frag
abbrev ybx:=@List.mem_cons_of_mem
abbrev yby:=@List.mem_cons_self
abbrev ybz:=@PySem.Heap.get?_push_of_some
abbrev ybw:=@PySem.Heap.get?_push_size
abbrev ybv:=@PySem.Heap.lt_size
abbrev ycx:=@Nat.le_refl
abbrev ycy:=@Nat.le_trans
abbrev ycz:=@List.getElem?_eq_getElem
abbrev ycw:=@if_neg
abbrev ycv:=@if_pos
abbrev ydx:=@Bool.false_ne_true
abbrev ydy:=@decide_eq_false
abbrev ydz:=@decide_eq_true
abbrev ydw:=@Nat.lt_of_lt_of_le
abbrev ydv:=@Int.le_trans
abbrev yex:=@List.mem_append_right
abbrev yey:=PySem.Value->PySem.Shared->Prop
abbrev yez:=List PySem.Value
abbrev yew:=PySem.Str->Option PySem.Value
variable {K:yav} {E:PySem.Value->PySem.Shared->Prop} {s:PySem.Shared} {A:PySem.Around} {w:PySem.World} {P:PySem.Program} {prog:PySem.Program} {π:List (PySem.Addr×PySem.Obj)} {mg:PySem.Str->Option PySem.Value} {pos:PySem.Pos} {us:List PySem.Value} {Q:PySem.Value->PySem.Shared->Prop} {x:PySem.Str} {e:PySem.Expr} {a:PySem.Addr} {k:Nat} {fd:PySem.FuncData} {base:PySem.Heap} {es:List PySem.Expr} {ps:List PySem.Str} {u:PySem.Value} {i:Nat} {st:PySem.Stmt} {bm:List PySem.Value} {scope:PySem.Scope} {body:List PySem.Stmt} {items:Array PySem.Value}
open List (all_cons all_eq_true any_cons append_assoc append_nil drop_eq_getElem_cons drop_zero filterMap_cons flatten_cons foldl_cons forIn_cons getElem_mem length_append length_cons length_drop length_map length_nil length_singleton length_take lookup_cons map_append map_cons map_map map_nil mem_append mem_append_left mem_append_right mem_cons mem_cons_of_mem mem_cons_self mem_nil_iff mem_singleton nil_append nodup_cons replicate_succ reverse_cons set_set size_toArray take_append_drop take_length take_of_length_le zip_cons_cons)
abbrev wax:=@PySem.wpAny_bind
open Nat (le_max_left le_max_right le_refl le_trans lt_irrefl lt_of_lt_of_le ne_of_lt not_lt zero_le)
namespace L2
open PySem PySem.Spec PyProof.Rows
noncomputable abbrev bG:=Sum Int Str
noncomputable def jj:bG->Value->Bool
 | .inl k,v=>Value.isInt k v
 | .inr x,v=>Value.isStrOf x v
noncomputable def BB (w:World):bG->Int
 | .inl k=>hashInt k
 | .inr x=>hashStr w x
theorem bP:∀{k:bG} {v:Value},jj k v=true->(∃i t,k=Sum.inl i/\v=Value.int i t)∨(∃x t,k=Sum.inr x/\v=Value.str x t)
 | .inl i,v,h=>by
   obtain⟨t,e⟩:=Value.isInt_shape (k:=i) (v:=v) h;exact .inl ⟨i,t,rfl,e⟩
 | .inr x,v,h=>by
   obtain⟨t,e⟩:=Value.isStrOf_shape (x:=x) (v:=v) h;exact .inr ⟨x,t,rfl,e⟩
theorem pB (i:Int) (t:Tok):jj (.inl i) (.int i t)=true:=by simp[jj,Value.isInt]
theorem pC (x:Str) (t:Tok):jj (.inr x) (.str x t)=true:=by simp[jj,Value.isStrOf]
theorem wM (a b:Int):decide ((Sum.inl a:bG)=Sum.inl b)=(a==b):=by
 by_cases e:a=b
 ·subst e;simp
 ·have h:¬(Sum.inl a:bG)=Sum.inl b:=λq=>e (Sum.inl.inj q);rw[ydy h];exact(beq_eq_false_iff_ne.mpr e).symm
theorem wN (a b:Str):decide ((Sum.inr a:bG)=Sum.inr b)=decide (a=b):=by
 by_cases e:a=b
 ·subst e;simp
 ·have h:¬(Sum.inr a:bG)=Sum.inr b:=λq=>e (Sum.inr.inj q);rw[ydy h,ydy e]
theorem wO (a:Int) (b:Str):decide ((Sum.inl a:bG)=Sum.inr b)=false:=ydy (λq=>nomatch q)
theorem wP (a:Str) (b:Int):decide ((Sum.inr a:bG)=Sum.inl b)=false:=ydy (λq=>nomatch q)
noncomputable def cU (prog:Program) (w:World):PySem.KeyKind prog w bG where
 is:=jj
 hash:=BB w
 inj:=λv a b ha hb=>by
  rcases bP ha with⟨i,t,rfl,rfl⟩ | ⟨x,t,rfl,rfl⟩
  ·rcases bP hb with⟨j,u,rfl,e⟩ | ⟨y,u,rfl,e⟩
   ·injection e with e1 _;rw[e1]
   ·exact nomatch e
  ·rcases bP hb with⟨j,u,rfl,e⟩ | ⟨y,u,rfl,e⟩
   ·exact nomatch e
   ·injection e with e1 _;rw[e1]
 byValue:=λk v h=>by
  rcases bP h with⟨i,t,rfl,rfl⟩ | ⟨x,t,rfl,rfl⟩<;> rfl
 pyHash:=λhv h=>by
  rcases bP hv with⟨i,t,rfl,rfl⟩ | ⟨x,t,rfl,rfl⟩
  ·exact wpAny_pyHash_int h
  ·exact wpAny_pyHash_str h
 eqBool:=λhu hv h=>by
  rcases bP hu with⟨i,t,rfl,rfl⟩ | ⟨x,t,rfl,rfl⟩
  ·rcases bP hv with⟨j,u,rfl,rfl⟩ | ⟨y,u,rfl,rfl⟩
   ·rw[wM] at h;exact wpAny_eqBool_int h
   ·rw[wO] at h;exact SeqAt.EqAt.int_str i t y u _ _ _ _ h
  ·rcases bP hv with⟨j,u,rfl,rfl⟩ | ⟨y,u,rfl,rfl⟩
   ·rw[wP] at h;exact SeqAt.EqAt.str_int x t j u _ _ _ _ h
   ·rw[wN] at h;exact wpAny_eqBool_str h
 «strs»:=λk x t v h=>by
  rcases bP h with⟨i,u,rfl,e⟩ | ⟨y,u,rfl,e⟩
  ·exact nomatch e
  ·injection e with e1 _
   subst e1;cases v<;> rfl
theorem li (prog:Program) (w:World) (i:Int) (t:Tok):(cU prog w).is (.inl i) (.int i t)=true:=pB i t
theorem lj (prog:Program) (w:World) (x:Str) (t:Tok):(cU prog w).is (.inr x) (.str x t)=true:=pC x t
inductive V where
 | non | bl (b:Bool) | int (i:Int) | str (x:Str) | byt (b:Array UInt8) | flt (b:UInt64) | ref (a:Addr) | ty (n:String)
 deriving DecidableEq
noncomputable def bg:V->Value->Prop
 | .non,u=>u=Value.none
 | .bl b,u=>u=Value.bool b
 | .int i,u=>∃t,u=Value.int i t
 | .str x,u=>∃t,u=Value.str x t
 | .byt b,u=>∃t,u=Value.bytes b t
 | .flt b,u=>∃t,u=Value.float b t
 | .ref a,u=>u=Value.ref a
 | .ty n,u=>u=Value.type n
noncomputable abbrev aS:List V->List Value->Prop:=Paired bg
theorem aS.length {xs:List V} (r:aS xs us):xs.length=us.length:=Paired.length r
theorem aS.get:∀{xs:List V} {us:yez} {i:Nat} {x:V},aS xs us->xs[i]?=some x->∃u,us[i]?=some u/\bg x u
 | _,_,_,_,.nil,e=>by simp at e
 | _,_,0,_,.cons r _,e=>by simp at e;subst e;exact⟨_,rfl,r⟩
 | _,_,i+1,x,.cons _ t,e=>by
   obtain⟨u,h1,h2⟩:=aS.get (i:=i) (x:=x) t (by simpa using e);exact⟨u,by simpa using h1,h2⟩
theorem aS.append:∀{xs ys:List V} {us ws:yez},aS xs us->aS ys ws->aS (xs++ys) (us++ws)
 | _,_,_,_,.nil,s=>s
 | _,_,_,_,.cons r t,s=> .cons r (aS.append t s)
theorem aS.take:∀{xs:List V} {us:yez} (n:Nat),aS xs us->aS (xs.take n) (us.take n)
 | _,_,0,_=> .nil
 | _,_,_+1,.nil=> .nil
 | _,_,n+1,.cons r t=> .cons r (aS.take n t)
theorem aS.drop:∀{xs:List V} {us:yez} (n:Nat),aS xs us->aS (xs.drop n) (us.drop n)
 | _,_,0,r=>r
 | _,_,_+1,.nil=> .nil
 | _,_,n+1,.cons _ t=>aS.drop n t
noncomputable def fO:Option V->Option Value->Prop
 | some v,some u=>bg v u
 | none,none=>True
 | _,_=>False
noncomputable def KV {κ:Type}:List (κ×V)->List (κ×Value)->Prop:=Paired λ(p:κ×V) (q:κ×Value)=>p.1=q.1/\bg p.2 q.2
noncomputable def kV:bG->V
 | .inl i=> .int i
 | .inr x=> .str x
inductive HO where
 | lst (xs:List V)
 | tup (xs:List V)
 | dK (kvs:List (bG×V)) | dT (kvs:List (List bG×V))
 | set (S:Int->Bool) (n:Nat)
 | ins (C dx:Addr) (fs:List (Str×V))
 | own (x:Addr)
 | xd (fs:List (Str×V))
 | met (f x:Addr)
 | rng (lo hi:Int)
 | frz (o:Obj) (u:HO)
 | tbl (ps:Array Value)
 | ext (φ:Heap->Prop)
noncomputable abbrev Hp:=Addr->Option HO
noncomputable def upd (H:Hp) (a:Addr) (o:HO):Hp:=λb=>if b=a then some o else H b
theorem bw {H:Hp} {o:HO}:upd H a o a=some o:=by unfold upd;rw[ycv rfl]
theorem aT {H:Hp} {a b:Addr} {o:HO} (h:b≠a):upd H a o b=H b:=by unfold upd;rw[ycw h]
theorem jk {H:Hp} {a b:Addr} {o u:HO} (h:H a=some o) (h':H b=some u) (d:o≠u):a≠b:=by
 intro e;subst e;rw[h] at h';exact d (Option.some.inj h')
theorem bf {H:Hp} {a b:Addr} {o:HO} (h:H a=some o) (h':H b=none):a≠b:=by
 intro e;subst e;rw[h] at h';cases h'
section
variable (P:Program) (w:World)
noncomputable def ce (H:Hp) (h:Heap) (a:Addr):HO->Prop
 | .lst xs=>xs.length<=sizeLine/\∃(its:yez) (n:Nat),aS xs its/\h.get? a=some { cls:= .type "list",data:= .seq its.toArray n }
 | .tup xs=>xs.length<=sizeLine/\∃its:List Value,aS xs its/\IsTup h a its.toArray
 | .dK kvs=>kvs.length<=sizeLine/\(a==sysModules)=false/\∃vs,KV kvs vs/\h.DictOf (cU P w) a vs
 | .dT kvs=>kvs.length<=sizeLine/\(a==sysModules)=false/\∃xs:List (List bG×Addr×Value),
    Paired (λ(p:List bG×V) (q:List bG×Addr×Value)=>p.1=q.1/\H q.2.1=some (.tup (p.1.map kV))/\bg p.2 q.2.2) kvs xs/\
    ∃o es ep,h.get? a=some o/\o.ExactDict/\o.data=.dict es ep/\es.toList=xs.map (entryOfKey (tupleKind (cU P w)))/\(xs.map (·.1)).Nodup
 | .set S n=>h.SetOf (intKind P w) a S n
 | .ins C dx fs=>H dx=some (.own a)/\fs.length<=1000/\dx≠a/\h.get? a=some (instObj C dx)/\
    ∃mA,h.Ns1 dx mA/\(∀f,fO (fs.lookup f) (mA f))/\PySem.Within mA (fs.map (·.1))
 | .own _=>∃o,h.get? a=some o
 | .xd fs=>∃mA,h.Ns1 a mA/\∀f,fO (fs.lookup f) (mA f)
 | .rng lo hi=>∃t u v,h.get? a=some { cls:= .type "range",data:= .fields #[.int lo t,.int hi u,.int 1 v] }
 | .frz o u=>h.get? a=some o/\ce H h a u
 | .tbl ps=>h.get? a=some { cls:= .none,data:= .fields ps }
 | .met f x=>h.get? a=some (PySem.W.methodObj (.ref f) (.ref x))
 | .ext φ=>φ h/\(∃o,h.get? a=some o)/\∀h1 h2:Heap,φ h1->(∀o,h1.get? a=some o->h2.get? a=some o)->φ h2
noncomputable def fZ (H:Hp) (h:Heap):Prop:=∀a o,H a=some o->ce P w H h a o
end
section
variable {P:Program} {w:World} {H H':Hp} {h h':Heap} {a:Addr} {o:HO}
theorem ce.lt (x:ce P w H h a o):a<h.objs.size:=by
 cases o with
 | lst xs=>obtain⟨_,_,_,_,e⟩:=x;exact ybv e
 | tup xs=>obtain⟨_,_,_,p⟩:=x;exact p.lt
 | dK kvs=>obtain⟨_,_,_,_,o,_,_,e,_⟩:=x;exact ybv e
 | dT kvs=>obtain⟨_,_,_,_,o,_,_,e,_⟩:=x;exact ybv e
 | set S n=>obtain⟨o,_,_,_,e,_⟩:=x;exact ybv e
 | ins C dx fs=>obtain⟨_,_,_,e,_⟩:=x;exact ybv e
 | own y=>obtain⟨_,e⟩:=x;exact ybv e
 | xd fs=>obtain⟨_,⟨_,_,_,e,_⟩,_⟩:=x;exact ybv e
 | rng lo hi=>obtain⟨_,_,_,e⟩:=x;exact ybv e
 | frz ob u=>obtain⟨e,_⟩:=x;exact ybv e
 | tbl ps=>exact ybv (show h.get? a=some _ from x)
 | met f y=>exact ybv (show h.get? a=some _ from x)
 | ext φ=>obtain⟨_,⟨_,e⟩,_⟩:=x;exact ybv e
theorem Paired.mapP {α β:Type} {F G:α->β->Prop}:∀{l₁:List α} {l₂:List β},Paired F l₁ l₂->(∀a b,F a b->G a b)->Paired G l₁ l₂
 | _,_,.nil,_=> .nil
 | _,_,.cons r t,f=> .cons (f _ _ r) (Paired.mapP t f)
theorem ce.stay (x:ce P w H h a o) (k:∀b u,(b=a∨H b=some (.own a))->h.get? b=some u->h'.get? b=some u)
 (ho:∀b,H b=some (.own a)->H' b=some (.own a)) (ht:∀b xs,H b=some (.tup xs)->H' b=some (.tup xs)):ce P w H' h' a o:=by
 induction o with
 | lst xs=>obtain⟨z,its,n,r,e⟩:=x;exact⟨z,its,n,r,k _ _ (.inl rfl) e⟩
 | tup xs=>obtain⟨z,its,r,ob,e,c⟩:=x;exact⟨z,its,r,ob,k _ _ (.inl rfl) e,c⟩
 | dK kvs=>obtain⟨z,y,vs,r,ob,es,ep,e,c⟩:=x;exact⟨z,y,vs,r,ob,es,ep,k _ _ (.inl rfl) e,c⟩
 | dT kvs=>
   obtain⟨z,y,xs,r,ob,es,ep,e,c⟩:=x;exact⟨z,y,xs,Paired.mapP r λp q z=>⟨z.1,ht _ _ z.2.1,z.2.2⟩,ob,es,ep,k _ _ (.inl rfl) e,c⟩
 | set S n=>obtain⟨ob,es,ep,t,e,c⟩:=x;exact⟨ob,es,ep,t,k _ _ (.inl rfl) e,c⟩
 | ins C dx fs=>
   obtain⟨d,z,ne,e,mA,⟨od,es,ep,e2,c⟩,r⟩:=x;exact⟨ho _ d,z,ne,k _ _ (.inl rfl) e,mA,⟨od,es,ep,k _ _ (.inr d) e2,c⟩,r⟩
 | own y=>obtain⟨ob,e⟩:=x;exact⟨ob,k _ _ (.inl rfl) e⟩
 | xd fs=>obtain⟨mA,⟨od,es,ep,e,c⟩,r⟩:=x;exact⟨mA,⟨od,es,ep,k _ _ (.inl rfl) e,c⟩,r⟩
 | rng lo hi=>obtain⟨t,u,v,e⟩:=x;exact⟨t,u,v,k _ _ (.inl rfl) e⟩
 | frz ob u ih=>obtain⟨e,q⟩:=x;exact⟨k _ _ (.inl rfl) e,ih q⟩
 | tbl ps=>
   have e:h.get? a=some { cls:= .none,data:= .fields ps }:=x;show h'.get? a=some { cls:= .none,data:= .fields ps };exact k a _ (.inl rfl) e
 | met f y=>
   have e:h.get? a=some (PySem.W.methodObj (.ref f) (.ref y)):=x;show h'.get? a=some (PySem.W.methodObj (.ref f) (.ref y));exact k a _ (.inl rfl) e
 | ext φ=>obtain⟨p,⟨o,e⟩,st⟩:=x;exact⟨st _ _ p λo q=>k _ _ (.inl rfl) q,⟨o,k _ _ (.inl rfl) e⟩,st⟩
theorem fZ.lt (x:fZ P w H h) (e:H a=some o):a<h.objs.size:=(x a o e).lt
theorem fZ.fresh (x:fZ P w H h) (e:h.objs.size<=a):H a=none:=by
 cases q:H a with
 | none=>rfl
 | some u=>exact absurd (ydw (x.lt q) e) (lt_irrefl _)
theorem fZ.kept (x:fZ P w H h) (k:∀b u,h.get? b=some u->h'.get? b=some u):fZ P w H h':=λa o e=>
 (x a o e).stay (λb u _ q=>k b u q) (λ_ q=>q) λ_ _ q=>q
theorem fZ.laid (x:fZ P w H h) (k:∀b u,h.get? b=some u->h'.get? b=some u) (hp:h.objs.size<=a) (new:ce P w (upd H a o) h' a o):fZ P w (upd H a o) h':=λb u e=>by
 have hn:=x.fresh hp
 by_cases hb:b=a
 ·subst hb;rw[bw] at e;cases e;exact new
 ·rw[aT hb] at e;exact(x b u e).stay (λc v _ q=>k c v q) (λc q=>by rw[aT (bf q hn)];exact q) λc xs q=>by rw[aT (bf q hn)];exact q
end
noncomputable def Rd (H:Hp) (a:Addr) (u:HO):Prop:=H a=some u∨∃o,H a=some (.frz o u)
theorem Rd.ok {H:Hp} {h:Heap} {u:HO} (r:Rd H a u) (x:fZ P w H h):ce P w H h a u:=by
 rcases r with r | ⟨o,r⟩
 ·exact x a u r
 ·obtain⟨_,q⟩:=x a _ r;exact q
noncomputable def yL:Option HO->Prop
 | some (.lst _)=>True
 | some (.dK _)=>True
 | some (.dT _)=>True
 | some (.set _ _)=>True
 | some (.ins _ _ _)=>True
 | some (.ext _)=>True
 | _=>False
section
variable {P:Program} {w:World} {H:Hp} {h h':Heap} {x e:Addr} {o':HO}
theorem fZ.write (ok:fZ P w H h) (mu:yL (H x)) (he:e=x∨H e=some (.own x)) (k:∀b u,b≠e->h.get? b=some u->h'.get? b=some u) (heo:∃u,h'.get? e=some u)
 (new:ce P w (upd H x o') h' x o'):fZ P w (upd H x o') h':=λb u q=>by
 have nown:∀c y,H c=some (.own y)->c≠x:=λc y r z=>by subst z;rw[r] at mu;exact mu
 have ntup:∀c xs,H c=some (.tup xs)->c≠x:=λc xs r z=>by subst z;rw[r] at mu;exact mu
 by_cases hb:b=x
 ·subst hb;rw[bw] at q;cases q;exact new
 ·rw[aT hb] at q
  by_cases hbe:b=e
  ·have q':H b=some (.own x):=by
    rcases he with z | z
    ·exact absurd (hbe.trans z) hb
    ·rw[hbe];exact z
   rw[q] at q';cases q';obtain⟨v,hv⟩:=heo;exact⟨v,by rw[hbe];exact hv⟩
  ·refine(ok b u q).stay (λc v hc r=>k c v ?_ r) (λc r=>by rw[aT (nown c b r)];exact r) λc xs r=>by rw[aT (ntup c xs r)];exact r
   rcases hc with rfl | hc
   ·exact hbe
   ·rintro rfl;rcases he with z | z
    ·exact nown c b hc z
    ·rw[hc] at z;cases z;exact hb rfl
end
structure Un (fs ex:List Addr) (H H':Hp) (h h':Heap):Prop where
 keep:∀b o,h.get? b=some o->H b=none->b∉fs->b∉ex->h'.get? b=some o
 slot:∀b o,h.get? b=some o->H b=none->b∈fs->b∉ex->∃sl,h'.get? b=some { o with slots:=sl }
 free:∀b o,h.get? b=some o->H b=none->b∉ex->H' b=none
 there:∀b o,h.get? b=some o->b∉ex->∃o',h'.get? b=some o'
 tups:∀b xs,H b=some (.tup xs)->H' b=some (.tup xs)
 frzs:∀b o u,H b=some (.frz o u)->H' b=some (.frz o u)
 tbls:∀b ps,H b=some (.tbl ps)->∃more,H' b=some (.tbl (ps++more))
section
variable {fs fs' ex ex':List Addr} {H H1 H2:Hp} {h h1 h2 h':Heap} {a x e:Addr} {o:HO}
theorem Un.any (u:Un fs ex H H1 h h1) {b:Addr} {ob:Obj} (q:h.get? b=some ob) (n:H b=none) (hx:b∉ex):∃sl,h1.get? b=some { ob with slots:=sl }:=by
 by_cases hb:b∈fs
 ·exact u.slot b ob q n hb hx
 ·exact⟨ob.slots,u.keep b ob q n hb hx⟩
theorem Un.kept (k:∀b u,h.get? b=some u->h'.get? b=some u):Un fs ex H H h h':=
 ⟨λb ob q _ _ _=>k b ob q,λb ob q _ _ _=>⟨ob.slots,k b ob q⟩,λ_ _ _ n _=>n,λb ob q _=>⟨ob,k b ob q⟩,λ_ _ q=>q,λ_ _ _ q=>q,λ_ ps q=>⟨#[],by rw[q];simp⟩⟩
theorem Un.refl:Un fs ex H H h h:=Un.kept λ_ _ q=>q
theorem Un.laid (k:∀b u,h.get? b=some u->h'.get? b=some u) (hp:h.objs.size<=a) (hn:H a=none):Un fs ex H (upd H a o) h h' where
 keep:=λb u q _ _ _=>k b u q
 slot:=λb u q _ _ _=>⟨u.slots,k b u q⟩
 free:=λb u q n _=>by rw[aT (ne_of_lt (ydw (ybv q) hp))];exact n
 there:=λb u q _=>⟨u,k b u q⟩
 tups:=λb xs q=>by rw[aT (bf q hn)];exact q
 frzs:=λb u xs q=>by rw[aT (bf q hn)];exact q
 tbls:=λb ps q=>⟨#[],by rw[aT (bf q hn),q];simp⟩
theorem Un.write (mu:yL (H x)) (he:e=x∨H e=some (.own x)) (k:∀b u,b≠e->h.get? b=some u->h'.get? b=some u) (heo:∃u,h'.get? e=some u):Un fs ex H (upd H x o) h h':=by
 have hx:∀b,H b=none->b≠x:=λb n z=>by subst z;rw[n] at mu;exact mu
 have hb:∀b,H b=none->b≠e:=λb n z=>by
  subst z;rcases he with r | r
  ·exact hx b n r
  ·rw[n] at r;cases r
 have hm:∀b u,H b=some u->¬yL (some u)->b≠x:=λb u q nm z=>by subst z;rw[q] at mu;exact nm mu
 refine⟨λb u q n _ _=>k b u (hb b n) q,λb u q n _ _=>⟨u.slots,k b u (hb b n) q⟩,λb u q n _=>by rw[aT (hx b n)];exact n,λb u q _=>?_,
  λb xs q=>by rw[aT (hm b _ q λz=>z)];exact q,λb u xs q=>by rw[aT (hm b _ q λz=>z)];exact q,λb ps q=>⟨#[],by rw[aT (hm b _ q λz=>z),q];simp⟩⟩
 by_cases hbe:b=e
 ·subst hbe;exact heo
 ·exact⟨u,k b u hbe q⟩
end
noncomputable def Br (h:Heap) (H:Hp):List Addr:=(List.range h.objs.size).filter λa=>(H a).isSome
noncomputable def jZ (h:Heap) (H:Hp):Heap:=hideAll h (Br h H)
theorem pD (h:Heap) (H:Hp):(jZ h H).objs.size=h.objs.size:=PySem.W.hideAll_size _ _
theorem qz {h:Heap} {H:Hp} {b:Addr} {o:Obj} (e:h.get? b=some o) (n:H b=none):(jZ h H).get? b=some o:=
 hideAll_get _ e λhm=>by
  have q:(H b).isSome=true:=(List.mem_filter.mp hm).2;rw[n] at q;simp at q
theorem tO {h:Heap} {H:Hp} {b:Addr} {o:Obj} (e:(jZ h H).get? b=some o):h.get? b=some o/\H b=none:=by
 have e':h.get? b=some o:=PySem.W.of_hideAll (Br h H) e;refine⟨e',?_⟩;cases q:H b with
 | none=>rfl
 | some x=>
   have hm:b∈Br h H:=List.mem_filter.mpr ⟨List.mem_range.mpr (ybv e'),by simp[q]⟩;have z:(jZ h H).get? b=none:=hideAll_none (Br h H) hm;rw[z] at e;cases e
noncomputable def tP (g h:Heap) (L:Addr):List (Addr×Obj):=(List.range h.objs.size).filterMap λa=>if a=L∨(g.get? a).isSome=true then none else (h.get? a).map λo=>(a,o)
noncomputable def rest (g h:Heap) (L d:Addr):List (Addr×Obj):=(tP g h L).filter λp=>decide (p.1≠d)
structure Mod (K:yav) (mg:yew) (base:Heap):Prop where
 kin:K.In base
 glob:base.Ns mainGlobals mg
 blt:∃mb,base.Ns builtinsNs mb/\∀x:Str,x≠"__name__"->mb x=bootBuiltins x
 nolimit:base.NoLimit
structure Cx where
 prog:Program
 w:World
 K:yav
 mg:Str->Option Value
 base:Heap
 A:Around
 N:List Str
 s₀:Shared
 H₀:Hp
 env:Env
 outer:List Env
 stack:List Env
 ex:List Addr
 fn:Str->Bool
 calm:Bool
 pn:List (Addr×Obj)
 xe:Value->Shared->Prop
noncomputable def fA (l:List Env):List Addr:=l.filterMap (·.frame)
noncomputable abbrev Cx.fs (X:Cx):List Addr:=fA X.outer
noncomputable def BC (sc:Scope) (x:Str):Prop:=sc.names.lookup x=some .local∨sc.names.lookup x=some .cell∨sc.names.lookup x=some .free
noncomputable def v7 (sc:Scope) (x:Str):Prop:=sc.names.lookup x=some .local∨sc.names.lookup x=some .cell
noncomputable def BD (env:Env) (h:Heap) (m:yew) (x:Str) (u:Value):Prop:=
 (env.kindOf x=some .local/\m x=some u)∨((env.kindOf x=some .cell∨env.kindOf x=some .free)/\∃c,env.cells.lookup x=some c/\h.IsCell c (some u))
structure Cx.Ok (X:Cx):Prop where
 mod:Mod X.K X.mg X.base
 kind:X.env.scope.kind=.function
 glob:X.env.globals=mainGlobals
 blt:X.env.builtins=builtinsNs
 above:X.s₀.heap.objs.size<=X.env.locals
 inj:∀x y c,X.env.cells.lookup x=some c->X.env.cells.lookup y=some c->x=y
 has:∀x,(X.env.kindOf x=some .cell∨X.env.kindOf x=some .free)->∃c,X.env.cells.lookup x=some c
 cab:∀x c,X.fn x=true->X.env.cells.lookup x=some c->X.s₀.heap.objs.size<=c
 hd:X.calm=true->X.A.handled=none
 frames:X.A.frames=some X.stack
 stk:X.stack=X.outer∨(X.stack=X.env::X.outer/\X.env.frame=some X.env.locals)
 exf:∀b∈X.ex,b≠X.env.locals/\∀x c,X.env.cells.lookup x=some c->c≠b
 bs:∀b o,X.base.get? b=some o->X.s₀.heap.get? b=some o/\X.H₀ b=none
 bsz:X.base.objs.size<=X.s₀.heap.objs.size
 noex:∀b o,X.base.get? b=some o->b∉X.ex
 exfs:∀b∈X.ex,b∉X.fs
 funs:X.s₀.heap.FunFrames X.base X.outer
 frf:∀b∈X.fs,X.H₀ b=none
structure aC (X:Cx) (π:List (Addr×Obj)) (σ:List (Option V)) (H:Hp) (s:Shared):Prop where
 ok:X.Ok
 os:s.os=X.s₀.os
 bare:AllBare s.gens
 base:Un X.fs X.ex X.H₀ H X.s₀.heap s.heap
 loc:∃m,s.heap.Ns X.env.locals m/\∀(i:Nat) (x:Str) (v:V),X.N[i]?=some x->σ[i]?=some (some v)->BC X.env.scope x->∃u,bg v u/\BD X.env s.heap m x u
 cell:∀x c,X.env.cells.lookup x=some c->∃v,s.heap.IsCell c v
 free:H X.env.locals=none
 freeC:∀x c,X.env.cells.lookup x=some c->H c=none
 pin:∀p∈X.pn++π,s.heap.get? p.1=some p.2/\H p.1=none/\p.1≠X.env.locals/\p.1∉X.fs/\∀v,p.2.data≠ .cell v
 hok:fZ X.prog X.w H s.heap
 len:σ.length=X.N.length
section
variable {X:Cx} {π:List (Addr×Obj)} {σ:List (Option V)} {H H':Hp} {s:Shared} {h':Heap}
theorem Cx.Ok.nofr (ok:X.Ok) {b:Addr} {o:Obj} (e:X.base.get? b=some o):b∉X.fs:=λhb=>by
 have:=(ok.funs.mem hb).1;rw[e] at this;cases this
theorem aC.bs (I:aC X π σ H s):∀b o,X.base.get? b=some o->s.heap.get? b=some o/\H b=none:=λb o e=>
 ⟨I.base.keep b o (I.ok.bs b o e).1 (I.ok.bs b o e).2 (I.ok.nofr e) (I.ok.noex b o e),I.base.free b o (I.ok.bs b o e).1 (I.ok.bs b o e).2 (I.ok.noex b o e)⟩
theorem aC.bk (I:aC X π σ H s):∀b o,X.base.get? b=some o->s.heap.get? b=some o:=λb o e=>(I.bs b o e).1
theorem aC.mod (I:aC X π σ H s):Mod X.K X.mg X.base:=I.ok.mod
theorem aC.kIn (I:aC X π σ H s):X.K.In s.heap:=I.ok.mod.kin.keeps I.bk
theorem aC.lt (I:aC X π σ H s):X.env.locals<s.heap.objs.size:=let ⟨_,hn,_⟩:=I.loc;hn.lt
theorem aC.sz (I:aC X π σ H s):X.s₀.heap.objs.size<=s.heap.objs.size:=ycy I.ok.above (Nat.le_of_lt I.lt)
theorem aC.nofs (I:aC X π σ H s) (h:s.heap.objs.size<=a):a∉X.fs:=λhb=>by
 obtain⟨_,o,ho,_⟩:=I.ok.funs.mem hb;exact absurd (ydw (ybv ho) (ycy I.sz h)) (lt_irrefl _)
theorem aC.cne (I:aC X π σ H s):∀x c,X.env.cells.lookup x=some c->c≠X.env.locals:=λx c e z=>by
 obtain⟨v,o,ho,hd⟩:=I.cell x c e;obtain⟨m,⟨o',es,ep,ho',hd',_⟩,_⟩:=I.loc;rw[z,ho'] at ho;cases ho;rw[hd'] at hd;cases hd
theorem aC.funs (I:aC X π σ H s):s.heap.FunFrames X.base X.outer:=by
 have all:∀(l:List Env),(∀b∈fA l,b∈X.fs)->X.s₀.heap.FunFrames X.base l->s.heap.FunFrames X.base l:=by
  intro l
  induction l with
  | nil=>intro _ _;trivial
  | cons env r ih=>
    intro hs hl;obtain⟨hk,⟨L,o,hf,hn,ho,hd⟩,hr⟩:=hl;have hL:L∈X.fs:=hs L (by unfold fA;rw[filterMap_cons,hf];exact yby);obtain⟨sl,e⟩:=I.base.slot L o ho (I.ok.frf L hL) hL λz=>I.ok.exfs L z hL;exact⟨hk,⟨L,_,hf,hn,e,hd⟩,ih (λb hb=>hs b (by unfold fA;rw[filterMap_cons,hf];exact ybx _ hb)) hr⟩
 exact all X.outer (λ_ hb=>hb) I.ok.funs
theorem aC.stack (I:aC X π σ H s):s.heap.FunFrames X.base X.stack:=by
 rcases I.ok.stk with e | ⟨e,hf⟩
 ·rw[e];exact I.funs
 ·rw[e];obtain⟨m,hn,_⟩:=I.loc;refine .cons (by rw[I.ok.kind];decide) hf hn ?_ I.funs;exact Heap.get?_none_of_le (ycy I.ok.bsz I.ok.above)
theorem aC.stkSub (I:aC X π σ H s):∀b∈fA X.stack,b∈X.env.locals::X.fs:=λb hb=>by
 rcases I.ok.stk with e | ⟨e,hf⟩
 ·rw[e] at hb;exact ybx _ hb
 ·rw[e] at hb;unfold fA at hb;rw[filterMap_cons,hf] at hb;exact hb
theorem aC.stkFree (I:aC X π σ H s):∀b∈fA X.stack,H b=none:=λb hb=>by
 rcases mem_cons.mp (I.stkSub b hb) with e | hb
 ·rw[e];exact I.free
 ·obtain⟨_,o,ho,_⟩:=I.ok.funs.mem hb;exact I.base.free b o ho (I.ok.frf b hb) λz=>I.ok.exfs b z hb
theorem aC.step {g':Array GenState} {t':Nat} {d':Drawn} {ch:List Addr} (I:aC X π σ H s)
 (hch:∀b∈ch,(b∈X.ex∨X.s₀.heap.objs.size<=b)/\b≠X.env.locals/\(∀x c,X.env.cells.lookup x=some c->c≠b)/\∀p∈X.pn++π,p.1≠b)
 (keep:∀b o,b≠X.env.locals->b∉X.fs->b∉ch->s.heap.get? b=some o->H b=none->h'.get? b=some o)
 (slot:∀b o,b≠X.env.locals->b∈X.fs->b∉ch->s.heap.get? b=some o->H b=none->∃sl,h'.get? b=some { o with slots:=sl }) (free:∀b o,b∉ch->s.heap.get? b=some o->H b=none->H' b=none)
 (there:∀b o,b∉ch->s.heap.get? b=some o->∃o',h'.get? b=some o')
 (tups:∀b xs,H b=some (.tup xs)->H' b=some (.tup xs)) (frzs:∀b o u,H b=some (.frz o u)->H' b=some (.frz o u)) (tbls:∀b ps,H b=some (.tbl ps)->∃more,H' b=some (.tbl (ps++more)))
 (ns:∀m,s.heap.Ns X.env.locals m->h'.Ns X.env.locals m) (hok:fZ X.prog X.w H' h') (hg:AllBare g'):
 aC X π σ H' { s with heap:=h',gens:=g',drawn:=d',toks:=t' }:=by
 have neL:∀b o,X.s₀.heap.get? b=some o->b≠X.env.locals:=λb o e=>ne_of_lt (ydw (ybv e) I.ok.above);have neC:∀b o,X.s₀.heap.get? b=some o->b∉X.ex->b∉ch:=λb o e hx hb=>by
  rcases(hch b hb).1 with z | z
  ·exact hx z
  ·exact absurd (ydw (ybv e) z) (lt_irrefl _)
 have cellK:∀x c,X.env.cells.lookup x=some c->∀v,s.heap.IsCell c v->h'.IsCell c v:=λx c e v ⟨o,ho,hd⟩=>by
  have nch:c∉ch:=λz=>(hch c z).2.2.1 x c e rfl
  by_cases hc:c∈X.fs
  ·obtain⟨sl,q⟩:=slot c o (I.cne x c e) hc nch ho (I.freeC x c e);exact⟨_,q,hd⟩
  ·exact⟨o,keep c o (I.cne x c e) hc nch ho (I.freeC x c e),hd⟩
 refine⟨I.ok,I.os,hg,⟨λb o e n hb hx=>?_,λb o e n hb hx=>?_,λb o e n hx=>?_,λb o e hx=>?_,λb xs e=>tups b xs (I.base.tups b xs e),λb o xs e=>frzs b o xs (I.base.frzs b o xs e),λb ps e=>?_⟩,?_,λx c e=>?_,?_,λx c e=>?_,λp hp=>?_,hok,I.len⟩
 ·exact keep b o (neL b o e) hb (neC b o e hx) (I.base.keep b o e n hb hx) (I.base.free b o e n hx)
 ·obtain⟨sl,e1⟩:=I.base.slot b o e n hb hx;obtain⟨sl',e2⟩:=slot b _ (neL b o e) hb (neC b o e hx) e1 (I.base.free b o e n hx);exact⟨sl',e2⟩
 ·obtain⟨o',e1⟩:=I.base.there b o e hx;exact free b o' (neC b o e hx) e1 (I.base.free b o e n hx)
 ·obtain⟨o',e1⟩:=I.base.there b o e hx;exact there b o' (neC b o e hx) e1
 ·obtain⟨m1,e1⟩:=I.base.tbls b ps e;obtain⟨m2,e2⟩:=tbls b _ e1;exact⟨m1++m2,by rw[e2,Array.append_assoc]⟩
 ·obtain⟨m,hn,hl⟩:=I.loc;refine⟨m,ns m hn,λi x v e1 e2 e3=>?_⟩;obtain⟨u,r,l⟩:=hl i x v e1 e2 e3;refine⟨u,r,?_⟩;rcases l with l | ⟨k,c,e,z⟩
  ·exact .inl l
  ·exact .inr ⟨k,c,e,cellK x c e _ z⟩
 ·obtain⟨v,z⟩:=I.cell x c e;exact⟨v,cellK x c e v z⟩
 ·obtain⟨m,⟨o,_,_,ho,_⟩,_⟩:=I.loc;exact free _ o (λz=>(hch _ z).2.1 rfl) ho I.free
 ·obtain⟨v,o,ho,hd⟩:=I.cell x c e;exact free c o (λz=>(hch c z).2.2.1 x c e rfl) ho (I.freeC x c e)
 ·obtain⟨e,n,ne,nf,d⟩:=I.pin p hp;have nch:p.1∉ch:=λz=>(hch p.1 z).2.2.2 p hp rfl;exact⟨keep p.1 p.2 ne nf nch e n,free p.1 p.2 nch e n,ne,nf,d⟩
theorem aC.un {t':Nat} (I:aC X π σ H s) (u:Un X.fs [] H H' s.heap h') (hok:fZ X.prog X.w H' h'):aC X π σ H' { s with heap:=h',toks:=t' }:=by
 obtain⟨m,⟨o,es,ep,ho,r⟩,_⟩:=id I.loc;obtain⟨sl,hL⟩:=u.any ho I.free (by simp);exact I.step (g':=s.gens) (d':=s.drawn) (ch:=[]) (λ_ z=>nomatch z) (λb o _ hb _ e n=>u.keep b o e n hb (by simp)) (λb o _ hb _ e n=>u.slot b o e n hb (by simp)) (λb o _ e n=>u.free b o e n (by simp)) (λb o _ e=>u.there b o e (by simp)) u.tups u.frzs u.tbls (λm' hm=>by
  obtain⟨o',es',ep',ho',r'⟩:=hm;rw[ho] at ho';cases ho';exact⟨_,es',ep',hL,r'⟩) hok I.bare
theorem aC.call {g':Array GenState} {t':Nat} {d':Drawn} {ch:List Addr} (I:aC X π σ H s) (u:Un (fA X.stack) ch H H' s.heap h') (hok:fZ X.prog X.w H' h') (hg:AllBare g')
 (hch:∀b∈ch,(b∈X.ex∨X.s₀.heap.objs.size<=b)/\b≠X.env.locals/\(∀x c,X.env.cells.lookup x=some c->c≠b)/\∀p∈X.pn++π,p.1≠b):
 aC X π σ H' { s with heap:=h',gens:=g',drawn:=d',toks:=t' }:=by
 obtain⟨m,⟨o,es,ep,ho,r⟩,_⟩:=id I.loc;obtain⟨sl,hL⟩:=u.any ho I.free λz=>(hch _ z).2.1 rfl;exact I.step (ch:=ch) hch (λb o hL hb hc e n=>u.keep b o e n (λz=>(mem_cons.mp (I.stkSub b z)).elim hL hb) hc) (λb o _ _ hc e n=>u.any e n hc) (λb o hc e n=>u.free b o e n hc) (λb o hc e=>u.there b o e hc) u.tups u.frzs u.tbls (λm' hm=>by
  obtain⟨o',es',ep',ho',r'⟩:=hm;rw[ho] at ho';cases ho';exact⟨_,es',ep',hL,r'⟩) hok hg
theorem aC.turned {t':Nat} {it:Addr} (I:aC X π σ H s) (k:∀b o,b≠it->s.heap.get? b=some o->h'.get? b=some o) (hn:H it=none) (hL:it≠X.env.locals)
 (h1:it∈X.ex∨X.s₀.heap.objs.size<=it) (h2:∀x c,X.env.cells.lookup x=some c->c≠it) (h3:∀p∈X.pn++π,p.1≠it):aC X π σ H { s with heap:=h',toks:=t' }:=by
 have nit:∀b u,H b=some u->b≠it:=λb u e z=>by rw[z,hn] at e;cases e
 refine I.step (g':=s.gens) (d':=s.drawn) (ch:=[it]) (λb hb=>?_) (λb o _ _ hc e _=>k b o (λz=>hc (by simp[z])) e) (λb o _ _ hc e _=>⟨o.slots,k b o (λz=>hc (by simp[z])) e⟩) (λ_ _ _ _ n=>n)
  (λb o hc e=>⟨o,k b o (λz=>hc (by simp[z])) e⟩) (λ_ _ e=>e) (λ_ _ _ e=>e) (λb ps e=>⟨#[],by rw[e];simp⟩) (λm hm=>?_) (λb u e=>?_) I.bare
 ·have e:b=it:=by simpa using hb
  subst e;exact⟨h1,hL,h2,h3⟩
 ·obtain⟨o,es,ep,ho,r⟩:=hm;exact⟨o,es,ep,k _ o (Ne.symm hL) ho,r⟩
 ·refine(I.hok b u e).stay (λc v hc q=>k c v ?_ q) (λ_ q=>q) λ_ _ q=>q;rcases hc with z | z
  ·rw[z];exact nit b u e
  ·exact nit c _ z
theorem aC.tok (I:aC X π σ H s) (t:Nat):aC X π σ H { s with toks:=t }:=I.un (h':=s.heap) (t':=t) Un.refl I.hok
theorem aC.kept {t':Nat} (I:aC X π σ H s) (k:∀b u,s.heap.get? b=some u->h'.get? b=some u):aC X π σ H { s with heap:=h',toks:=t' }:=I.un (Un.kept k) (I.hok.kept k)
theorem aC.laid {o:HO} {t':Nat} (I:aC X π σ H s) (k:∀b u,s.heap.get? b=some u->h'.get? b=some u) (hp:s.heap.objs.size<=a) (new:ce X.prog X.w (upd H a o) h' a o):
 aC X π σ (upd H a o) { s with heap:=h',toks:=t' }:=I.un (Un.laid k hp (I.hok.fresh hp)) (I.hok.laid k hp new)
theorem aC.write {x e:Addr} {o:HO} {t':Nat} (I:aC X π σ H s) (mu:yL (H x)) (he:e=x∨H e=some (.own x)) (k:∀b u,b≠e->s.heap.get? b=some u->h'.get? b=some u) (heo:∃u,h'.get? e=some u)
 (new:ce X.prog X.w (upd H x o) h' x o):aC X π σ (upd H x o) { s with heap:=h',toks:=t' }:=I.un (Un.write mu he k heo) (I.hok.write mu he k heo new)
theorem aC.pins_of {pins':List (Addr×Obj)} (I:aC X π σ H s) (h:∀p∈pins',s.heap.get? p.1=some p.2/\H p.1=none/\p.1≠X.env.locals/\p.1∉X.fs/\∀v,p.2.data≠ .cell v):aC X pins' σ H s:=
 ⟨I.ok,I.os,I.bare,I.base,I.loc,I.cell,I.free,I.freeC,λp hp=>(mem_append.mp hp).elim (λz=>I.pin p (mem_append_left _ z)) (h p),I.hok,I.len⟩
theorem lp {N:List Str} (hN:N.Nodup) {i j:Nat} (a:N[i]?=some x) (b:N[j]?=some x):i=j:=by
 obtain⟨h1,e1⟩:=List.getElem?_eq_some_iff.mp a;obtain⟨h2,e2⟩:=List.getElem?_eq_some_iff.mp b;exact(List.getElem_inj hN).mp (e1.trans e2.symm)
theorem jl {M:Model} {v:V} {Q:Unit->Shared->Prop} (I:aC X π σ H s) (hN:X.N.Nodup) (hi:X.N[i]?=some x) (hx:v7 X.env.scope x) (r:bg v u)
 (h:∀s',aC X π (σ.set i (some v)) H s'->(∃a,Heap.SameBut a s.heap s'.heap/\(a=X.env.locals∨X.env.cells.lookup x=some a))->Q () s') (hf:X.fn x=true∨X.env.scope.names.lookup x=some .local:=by first | exact .inl rfl | exact .inr rfl | assumption):wpAny M A (storeName X.env x u) Q E s:=by
 obtain⟨m,hn,hl⟩:=id I.loc;have hcls:(X.env.scope.kind== .class||(X.env.scope.kind== .module&&X.env.locals !=X.env.globals))=false:=by rw[I.ok.kind];rfl
 have hiσ:i<σ.length:=by rw[I.len];exact(List.getElem?_eq_some_iff.mp hi).1
 have cne:=I.cne;have tracked:∀{a:Addr} {h':Heap},(∃o,s.heap.get? a=some o/\H a=none)->Heap.SameBut a s.heap h'->fZ X.prog X.w H h':=λ{a h'} ha hs b ob e=>by
  obtain⟨_,_,hfree⟩:=ha;refine(I.hok b ob e).stay (λc w' hc q=>(hs.2 c ?_).trans q) (λ_ q=>q) λ_ _ q=>q;rintro rfl;rcases hc with rfl | hc
  ·rw[hfree] at e;cases e
  ·rw[hfree] at hc;cases hc
 rcases hx with hk | hk
 ·refine wpAny_storeName_local hk hn (λh' hn' hs=>?_) hcls;obtain⟨oL,_,_,hoL,_⟩:=id hn;refine h _ ⟨I.ok,I.os,I.bare,⟨λb o e n hb hx=>?_,λb o e n hb hx=>?_,I.base.free,λb o e hx=>?_,I.base.tups,I.base.frzs,I.base.tbls⟩,⟨_,hn',λj y v' e1 e2 e3=>?_⟩,λy c e=>?_,I.free,I.freeC,λp hp=>?_,tracked ⟨oL,hoL,I.free⟩ hs,by simpa using I.len⟩ ⟨_,hs,.inl rfl⟩
  ·exact(hs.2 b (ne_of_lt (ydw (ybv e) I.ok.above))).trans (I.base.keep b o e n hb hx)
  ·obtain⟨sl,e1⟩:=I.base.slot b o e n hb hx;exact⟨sl,(hs.2 b (ne_of_lt (ydw (ybv e) I.ok.above))).trans e1⟩
  ·obtain⟨o',e1⟩:=I.base.there b o e hx;exact⟨o',(hs.2 b (ne_of_lt (ydw (ybv e) I.ok.above))).trans e1⟩
  ·by_cases hj:j=i
   ·subst hj;rw[hi] at e1;cases e1;rw[List.getElem?_set_self hiσ] at e2;cases e2;exact⟨u,r,.inl ⟨hk,by simp⟩⟩
   ·rw[List.getElem?_set_ne (Ne.symm hj)] at e2;obtain⟨u',r',q⟩:=hl j y v' e1 e2 e3;refine⟨u',r',?_⟩;rcases q with⟨k,e⟩ | ⟨k,c,e,z⟩
    ·refine .inl ⟨k,?_⟩;have:y≠x:=λe=>hj (lp hN e1 (e▸hi));simp[this,e]
    ·exact .inr ⟨k,c,e,z.sameBut hs (cne y c e)⟩
  ·obtain⟨w',z⟩:=I.cell y c e;exact⟨w',z.sameBut hs (cne y c e)⟩
  ·obtain⟨e,n,ne,nf,d⟩:=I.pin p hp;exact⟨(hs.2 p.1 ne).trans e,n,ne,nf,d⟩
 ·have hfn:X.fn x=true:=by
   rcases hf with z | z
   ·exact z
   ·rw[z] at hk;cases hk
  obtain⟨c,hc⟩:=I.ok.has x (.inl hk);obtain⟨w',z⟩:=I.cell x c hc;refine wpAny_storeName_cell I.ok.kind hk hc z (λh' hc' hs=>?_);obtain⟨oc,hoc,hocd⟩:=id z;refine h { s with heap:=h' } ⟨I.ok,I.os,I.bare,⟨λb o e n hb hx=>?_,λb o e n hb hx=>?_,I.base.free,λb o e hx=>?_,I.base.tups,I.base.frzs,I.base.tbls⟩,⟨m,hn.sameBut hs (Ne.symm (cne x c hc)),λj y v' e1 e2 e3=>?_⟩,λy c' e=>?_,I.free,I.freeC,λp hp=>?_,tracked ⟨oc,hoc,I.freeC x c hc⟩ hs,by simpa using I.len⟩ ⟨c,hs,.inr hc⟩
  ·exact(hs.2 b (ne_of_lt (ydw (ybv e) (I.ok.cab x c hfn hc)))).trans (I.base.keep b o e n hb hx)
  ·obtain⟨sl,e1⟩:=I.base.slot b o e n hb hx;exact⟨sl,(hs.2 b (ne_of_lt (ydw (ybv e) (I.ok.cab x c hfn hc)))).trans e1⟩
  ·obtain⟨o',e1⟩:=I.base.there b o e hx;exact⟨o',(hs.2 b (ne_of_lt (ydw (ybv e) (I.ok.cab x c hfn hc)))).trans e1⟩
  ·by_cases hj:j=i
   ·subst hj;rw[hi] at e1;cases e1;rw[List.getElem?_set_self hiσ] at e2;cases e2;exact⟨u,r,.inr ⟨.inl hk,c,hc,hc'⟩⟩
   ·rw[List.getElem?_set_ne (Ne.symm hj)] at e2;obtain⟨u',r',q⟩:=hl j y v' e1 e2 e3;refine⟨u',r',?_⟩;rcases q with q | ⟨k,c',e,z'⟩
    ·exact .inl q
    ·refine .inr ⟨k,c',e,z'.sameBut hs ?_⟩;rintro rfl;exact hj (lp hN e1 (I.ok.inj _ _ _ e hc▸hi))
  ·by_cases hcc:c'=c
   ·subst hcc;exact⟨_,hc'⟩
   ·obtain⟨w2,z2⟩:=I.cell y c' e;exact⟨w2,z2.sameBut hs hcc⟩
  ·obtain⟨e,n,ne,nf,d⟩:=I.pin p hp;refine⟨(hs.2 p.1 ?_).trans e,n,ne,nf,d⟩;intro q;rw[q,hoc] at e;have q':oc=p.2:=Option.some.inj e;exact d w' (by rw[←q'];exact hocd)
theorem lq {M:Model} {v:V} {Q:Unit->Shared->Prop} (I:aC X π σ H s) (hN:X.N.Nodup) (hi:X.N[i]?=some x) (hx:v7 X.env.scope x) (r:bg v u)
 (h:∀s',aC X π (σ.set i (some v)) H s'->Q () s') (hf:X.fn x=true∨X.env.scope.names.lookup x=some .local:=by first | exact .inl rfl | exact .inr rfl | assumption):wpAny M A (storeName X.env x u) Q E s:=
 jl I hN hi hx r (λs' I' _=>h s' I') hf
theorem aC.call' {s':Shared} {ch:List Addr} (I:aC X π σ H s) (ho:s'.os=s.os) (u:Un (fA X.stack) ch H H' s.heap s'.heap) (hok:fZ X.prog X.w H' s'.heap) (hg:AllBare s'.gens)
 (hch:∀b∈ch,(b∈X.ex∨X.s₀.heap.objs.size<=b)/\b≠X.env.locals/\(∀x c,X.env.cells.lookup x=some c->c≠b)/\∀p∈X.pn++π,p.1≠b):aC X π σ H' s':=by
 obtain⟨h',g',d',t',o'⟩:=s';have e:o'=s.os:=ho;subst e;exact I.call (g':=g') (t':=t') (d':=d') u hok hg hch
end
noncomputable abbrev XK:=Value->Option Addr->Hp->Prop
noncomputable abbrev St:=List (Option V)
noncomputable abbrev VK:=V->Hp->Prop
noncomputable abbrev TE:=St->Hp->VK->Prop
noncomputable abbrev TT:=St->Hp->(Bool->Hp->Prop)->Prop
noncomputable abbrev TA:=St->Hp->(List V->Hp->Prop)->Prop
structure lr where
 nx:St->Hp->Prop
 rt:VK
 bk:St->Hp->Prop:=λ_ _=>False
 ct:St->Hp->Prop:=λ_ _=>False
noncomputable abbrev TS:=lr->St->Hp->Prop
noncomputable def EP (X:Cx) (π:List (Addr×Obj)) (σ:St) (Q:VK) (u:Value) (s':Shared):Prop:=∃v H',aC X π σ H' s'/\bg v u/\Q v H'
noncomputable def TP (X:Cx) (π:List (Addr×Obj)) (σ:St) (Q:Bool->Hp->Prop) (b:Bool) (s':Shared):Prop:=∃H',aC X π σ H' s'/\Q b H'
noncomputable def AP (X:Cx) (π:List (Addr×Obj)) (σ:St) (Q:List V->Hp->Prop) (us:yez) (s':Shared):Prop:=∃vs H',aC X π σ H' s'/\aS vs us/\Q vs H'
noncomputable def SP (X:Cx) (π:List (Addr×Obj)) (D:lr) (f:Flow) (s':Shared):Prop:=
 match f with
 | .next=>∃σ' H',aC X π σ' H' s'/\D.nx σ' H'
 | .brk=>∃σ' H',aC X π σ' H' s'/\D.bk σ' H'
 | .cont=>∃σ' H',aC X π σ' H' s'/\D.ct σ' H'
 | .ret u=>∃v σ' H',aC X π σ' H' s'/\bg v u/\D.rt v H'
noncomputable def PE (X:Cx) (e:Expr) (t:TE):Prop:=
 ∀(π:List (Addr×Obj)) (s:Shared) (σ:St) (H:Hp) (Q:VK),aC X π σ H s->t σ H Q->wpAny (model X.prog X.w) X.A (eval e X.env) (EP X π σ Q) X.xe s
noncomputable def PT (X:Cx) (e:Expr) (t:TT):Prop:=
 ∀(π:List (Addr×Obj)) (s:Shared) (σ:St) (H:Hp) (Q:Bool->Hp->Prop),aC X π σ H s->t σ H Q->wpAny (model X.prog X.w) X.A (isTrue e X.env (eval e X.env)) (TP X π σ Q) X.xe s
noncomputable def PW (X:Cx) (e:Expr) (t:TT):Prop:=
 ∀(whole:Sem Value) (π:List (Addr×Obj)) (s:Shared) (σ:St) (H:Hp) (Q:Bool->Hp->Prop),aC X π σ H s->t σ H Q->wpAny (model X.prog X.w) X.A (isTrue e X.env whole) (TP X π σ Q) X.xe s
theorem PW.pt {X:Cx} {t:TT} (h:PW X e t):PT X e t:=h _
noncomputable def PA (X:Cx) (es:List Expr) (t:TA):Prop:=
 ∀(pos:Pos) (π:List (Addr×Obj)) (s:Shared) (σ:St) (H:Hp) (Q:List V->Hp->Prop),aC X π σ H s->t σ H Q->wpAny (model X.prog X.w) X.A (spliced (backTo pos (starEach es X.env))) (AP X π σ Q) X.xe s
noncomputable def PS (X:Cx) (st:Stmt) (t:TS):Prop:=
 ∀(π:List (Addr×Obj)) (s:Shared) (σ:St) (H:Hp) (D:lr),aC X π σ H s->t D σ H->wpAny (model X.prog X.w) X.A (exec st X.env) (SP X π D) X.xe s
noncomputable def kZ (X:Cx) (st:List Stmt) (t:TS):Prop:=
 ∀(π:List (Addr×Obj)) (s:Shared) (σ:St) (H:Hp) (D:lr),aC X π σ H s->t D σ H->wpAny (model X.prog X.w) X.A (execs st X.env) (SP X π D) X.xe s
theorem bW {α:Type} {t:Sem α} {Q Q':α->Shared->Prop} {M:Model} (h:wpAny M A t Q E s) (hQ:∀a s,Q a s->Q' a s):wpAny M A t Q' E s:=wpAny_mono h hQ λ_ _ x=>x
section
variable {X:Cx}
noncomputable def BE (i:Nat):TE:=λσ H Q=>∃v,σ[i]?=some (some v)/\Q v H
noncomputable def tC (v:V):TE:=λ_ H Q=>Q v H
theorem wQ (hN:X.N[i]?=some x) (hv:BC X.env.scope x) (hd:(x==("__debug__":Str))=false:=by decide) (hcd:(x==("__classdict__":Str))=false:=by decide):PE X (.Name x pos) (BE i):=by
 intro π s σ H Q I h;obtain⟨v,e,h⟩:=h;obtain⟨m,hn,hl⟩:=I.loc;obtain⟨u,r,l⟩:=hl i x v hN e hv;have fin:EP X π σ Q u s:=⟨v,H,I,r,h⟩;rcases l with⟨hk,hm⟩ | ⟨hk,c,hc,hcell⟩
 ·exact wpAny_Name (wpAny_loadName_local I.ok.kind hk hn hm fin) hd
 ·rcases hk with hk | hk
  ·exact wpAny_Name (wpAny_loadName_cell I.ok.kind hk hc hcell fin) hd
  ·exact wpAny_Name (wpAny_loadName_free I.ok.kind hk hc hcell fin hcd) hd
theorem wR {i j pos}:PE X (.Constant (.int i) j pos) (tC (.int i)):=λ_ _ _ H _ I h=>wpAny_Constant_int ⟨.int i,H,I.tok _,⟨_,rfl⟩,h⟩
theorem yM {b j pos}:PE X (.Constant (.bool b) j pos) (tC (.bl b)):=λ_ _ _ H _ I h=>Constant_bool ⟨.bl b,H,I,rfl,h⟩
theorem wS {j pos}:PE X (.Constant .none j pos) (tC .non):=λ_ _ _ H _ I h=>Constant_none ⟨.non,H,I,rfl,h⟩
theorem j6 {x j pos}:PE X (.Constant (.str x) j pos) (tC (.str x)):=λ_ _ _ H _ I h=>Calls.Constant_str ⟨.str x,H,I.tok _,⟨_,rfl⟩,h⟩
noncomputable def Gl (X:Cx) (x:Str):Prop:=X.env.kindOf x=some .globalImplicit
theorem gd {σ:St} {H:Hp} (I:aC X π σ H s) (hg:Gl X x) (hm:X.mg x=some u) (h:Q u s)
 (hd:(x==("__debug__":Str))=false:=by decide):wpAny (model X.prog X.w) X.A (eval (.Name x pos) X.env) Q E s:=
 Calls.Name_function_global I.ok.kind hg (Calls.loadGlobal_global (by rw[I.ok.glob];exact I.mod.glob.keeps I.bk) hm h) hd
theorem iy {σ:St} {H:Hp} (I:aC X π σ H s) (hg:Gl X x) (hm:X.mg x=none) (hv:bootBuiltins x=some u) (h:Q u s)
 (hn:x≠"__name__":=by decide) (hd:(x==("__debug__":Str))=false:=by decide):wpAny (model X.prog X.w) X.A (eval (.Name x pos) X.env) Q E s:=by
 obtain⟨mb,h1,h2⟩:=I.mod.blt;exact Calls.Name_function_global I.ok.kind hg (Calls.loadGlobal_builtin (by rw[I.ok.glob];exact I.mod.glob.keeps I.bk) hm (by rw[I.ok.blt];exact h1.keeps I.bk) ((h2 x hn).trans hv) h) hd
theorem n8 {v:V} (hg:Gl X x) (hm:X.mg x=some u) (r:bg v u) (hd:(x==("__debug__":Str))=false:=by decide):PE X (.Name x pos) (tC v):=
 λ_ _ _ H _ I h=>gd I hg hm ⟨v,H,I,r,h⟩ hd
theorem tQ {v:V} (hg:Gl X x) (hm:X.mg x=none) (hv:bootBuiltins x=some u) (r:bg v u) (hn:x≠"__name__":=by decide) (hd:(x==("__debug__":Str))=false:=by decide):PE X (.Name x pos) (tC v):=
 λ_ _ _ H _ I h=>iy I hg hm hv ⟨v,H,I,r,h⟩ hn hd
variable {a b:Expr} {ta tb:TE} {pos:Pos}
noncomputable def tB (t:TE):TT:=λσ H Q=>t σ H λx H1=>∃c,x=.bl c/\Q c H1
theorem wT {t:TE} (h:PE X e t) (he:∀whole,isTrue e X.env whole=(do let v ←whole;standAt e.pos;holding [v] (truthy v)):=by intro _;rfl):PT X e (tB t):=by
 intro π s σ H Q I hw;refine isTrue_plain (bW (h π s σ H _ I hw) λv s1 z9=>?_) (he _);obtain⟨x,H1,I1,r1,q1⟩:=z9;obtain⟨d,rfl,q⟩:=q1;cases r1;exact wpAny_truthy_bool ⟨H1,I1,q⟩
variable {tA tB':TT} {rest:List Expr}
noncomputable def BF (t u:TT):TT:=λσ H Q=>t σ H λc H1=>if c=true then u σ H1 Q else Q false H1
noncomputable def DC (t u:TT):TT:=λσ H Q=>t σ H λc H1=>if c=true then Q true H1 else u σ H1 Q
noncomputable def BG (t:TT):TT:=λσ H Q=>t σ H λc H1=>Q (!c) H1
theorem tR (ha:PT X a tA):PW X (.BoolOp .And [a] pos) tA:=by
 intro wh π s σ H Q I h;refine isTrue_and (bW (ha π s σ H Q I h) λc s1 e=>?_);cases c with
 | true=>exact isTrue_and_nil e
 | false=>exact e
theorem wU (ha:PT X a tA):PW X (.BoolOp .Or [a] pos) tA:=by
 intro wh π s σ H Q I h;refine isTrue_or (bW (ha π s σ H Q I h) λc s1 e=>?_);cases c with
 | false=>exact isTrue_or_nil e
 | true=>exact e
theorem wV (ha:PT X a tA) (hb:PW X (.BoolOp .And (b::rest) pos) tB'):PW X (.BoolOp .And (a::b::rest) pos) (BF tA tB'):=by
 intro wh π s σ H Q I h;refine isTrue_and (bW (ha π s σ H _ I h) λc s1 z9=>?_);obtain⟨H1,I1,q1⟩:=z9;cases c with
 | true=>exact hb wh π s1 σ H1 Q I1 q1
 | false=>exact⟨H1,I1,q1⟩
theorem yN (ha:PT X a tA) (hb:PW X (.BoolOp .Or (b::rest) pos) tB'):PW X (.BoolOp .Or (a::b::rest) pos) (DC tA tB'):=by
 intro wh π s σ H Q I h;refine isTrue_or (bW (ha π s σ H _ I h) λc s1 z9=>?_);obtain⟨H1,I1,q1⟩:=z9;cases c with
 | true=>exact⟨H1,I1,q1⟩
 | false=>exact hb wh π s1 σ H1 Q I1 q1
theorem wW (ha:PT X a tA):PT X (.UnaryOp .Not a pos) (BG tA):=by
 intro π s σ H Q I h;exact isTrue_not (ha π s σ H (λc H1=>Q (!c) H1) I h)
noncomputable def yO (ta tb:TE):TE:=λσ H Q=>ta σ H λx H1=>∃c,x=.bl c/\if c=true then tb σ H1 Q else Q (.bl false) H1
noncomputable def BH (ta tb:TE):TE:=λσ H Q=>ta σ H λx H1=>∃c,x=.bl c/\if c=true then Q (.bl true) H1 else tb σ H1 Q
noncomputable def yP (ta:TE):TE:=λσ H Q=>ta σ H λx H1=>∃c,x=.bl c/\Q (.bl (!c)) H1
theorem wX {op} {t:TE} (h:PE X a t):PE X (.BoolOp op [a] pos) t:=λπ s σ H Q I hw=>BoolOp_one (h π s σ H Q I hw)
theorem wY (ha:PE X a ta) (hb:PE X (.BoolOp .And (b::rest) pos) tb):PE X (.BoolOp .And (a::b::rest) pos) (yO ta tb):=by
 intro π s σ H Q I h;refine BoolOp_and (bW (ha π s σ H _ I h) λv s1 z9=>?_);obtain⟨x,H1,I1,r1,q1⟩:=z9;obtain⟨c,rfl,q1⟩:=q1;cases r1;refine wpAny_truthy_bool ?_;cases c with
 | true=>exact hb π s1 σ H1 Q I1 q1
 | false=>exact⟨.bl false,H1,I1,rfl,q1⟩
theorem yQ (ha:PE X a ta) (hb:PE X (.BoolOp .Or (b::rest) pos) tb):PE X (.BoolOp .Or (a::b::rest) pos) (BH ta tb):=by
 intro π s σ H Q I h;refine BoolOp_or (bW (ha π s σ H _ I h) λv s1 z9=>?_);obtain⟨x,H1,I1,r1,q1⟩:=z9;obtain⟨c,rfl,q1⟩:=q1;cases r1;refine wpAny_truthy_bool ?_;cases c with
 | false=>exact hb π s1 σ H1 Q I1 q1
 | true=>exact⟨.bl true,H1,I1,rfl,q1⟩
theorem wZ (ha:PE X a ta):PE X (.UnaryOp .Not a pos) (yP ta):=by
 intro π s σ H Q I h;refine UnaryOp_ (bW (ha π s σ H _ I h) λv s1 z9=>?_);obtain⟨x,H1,I1,r1,q1⟩:=z9;obtain⟨c,rfl,q1⟩:=q1;cases r1;exact not_of (wpAny_truthy_bool ⟨.bl (!c),H1,I1,rfl,q1⟩)
noncomputable def DD (t:TT) (ta tb:TE):TE:=λσ H Q=>t σ H λc H1=>if c=true then ta σ H1 Q else tb σ H1 Q
theorem qA {c:Expr} (hc:PT X c tA) (ha:PE X a ta) (hb:PE X b tb):PE X (.IfExp c a b pos) (DD tA ta tb):=by
 intro π s σ H Q I h;refine wpAny_IfExp (bW (hc π s σ H _ I h) λd s1 z9=>?_);obtain⟨H1,I1,q1⟩:=z9;cases d with
 | true=>exact ha π s1 σ H1 Q I1 q1
 | false=>exact hb π s1 σ H1 Q I1 q1
end
noncomputable def dy (K:yav) (H:Hp) (a:Addr) (xs:List V):Prop:=
 Rd H a (.lst xs)∨
  ∃(o:Obj) (its:Array Value) (n:Nat),K.lookup a=some o/\o.cls=.type "list"/\o.dict=none/\o.data=.seq its n/\its.size<=sizeLine/\aS xs its.toList
noncomputable def dq (K:yav) (H:Hp) (a:Addr) (xs:List V):Prop:=
 Rd H a (.tup xs)∨
  ∃(o:Obj) (its:Array Value) (n:Nat),K.lookup a=some o/\o.cls=.type "tuple"/\o.data=.seq its n/\its.size<=sizeLine/\aS xs its.toList
noncomputable def BI:Value->Option V
 | .none=>some .non
 | .bool b=>some (.bl b)
 | .int i _=>some (.int i)
 | .str x _=>some (.str x)
 | .bytes b _=>some (.byt b)
 | .float b _=>some (.flt b)
 | .ref a=>some (.ref a)
 | .type n=>some (.ty n)
 | _=>none
theorem bg.abs {x:V} (r:bg x u):BI u=some x:=by
 cases x with
 | non=>cases r;rfl
 | bl _=>cases r;rfl
 | int _=>obtain⟨t,rfl⟩:=r;rfl
 | str _=>obtain⟨t,rfl⟩:=r;rfl
 | byt _=>obtain⟨t,rfl⟩:=r;rfl
 | flt _=>obtain⟨t,rfl⟩:=r;rfl
 | ref _=>cases r;rfl
 | ty _=>cases r;rfl
theorem bg.inj {x y:V} (r:bg x u) (q:bg y u):x=y:=Option.some.inj (r.abs.symm.trans q.abs)
theorem aS.inj:∀{xs ys:List V} {us:yez},aS xs us->aS ys us->xs=ys
 | _,_,_,.nil,.nil=>rfl
 | _,_,_,.cons r t,.cons r' t'=>by rw[r.inj r',aS.inj t t']
section
variable {X:Cx} {π:List (Addr×Obj)} {σ:St} {H:Hp} {s:Shared} {a:Addr} {xs ys:List V}
theorem dy.of (h:H a=some (.lst xs)):dy K H a xs:= .inl (.inl h)
theorem dq.of (h:H a=some (.tup xs)):dq K H a xs:= .inl (.inl h)
theorem aC.list (I:aC X π σ H s) (h:dy X.K H a xs):∃its:List Value,aS xs its/\PlainL s.heap a its.toArray/\xs.length<=sizeLine:=by
 rcases h with h | ⟨o,its,n,hk,hc,hd,hs,hz,r⟩
 ·obtain⟨z,its,n,r,e⟩:=h.ok I.hok;exact⟨its,r,⟨_,n,e,rfl,rfl,rfl⟩,z⟩
 ·refine⟨its.toList,r,⟨o,n,I.kIn a o hk,hc,hd,by simpa using hs⟩,?_⟩;have e:=r.length;simp only[Array.length_toList] at e;lia
theorem aC.tuple (I:aC X π σ H s) (h:dq X.K H a xs):∃its:List Value,aS xs its/\IsTup s.heap a its.toArray/\xs.length<=sizeLine:=by
 rcases h with h | ⟨o,its,n,hk,hc,hs,hz,r⟩
 ·obtain⟨z,its,r,p⟩:=h.ok I.hok;exact⟨its,r,p,z⟩
 ·refine⟨its.toList,r,⟨o,I.kIn a o hk,hc,n,by simpa using hs⟩,?_⟩;have e:=r.length;simp only[Array.length_toList] at e;lia
theorem aC.list_inj (I:aC X π σ H s) (h:dy X.K H a xs) (h':dy X.K H a ys):xs=ys:=by
 obtain⟨its,r,⟨o,n,e,_,_,d⟩,_⟩:=I.list h;obtain⟨its',r',⟨o',n',e',_,_,d'⟩,_⟩:=I.list h';rw[e] at e';cases e';rw[d] at d';injection d' with d1 _
 have:its=its':=by simpa using congrArg Array.toList d1
 subst this;exact r.inj r'
theorem aC.tuple_inj (I:aC X π σ H s) (h:dq X.K H a xs) (h':dq X.K H a ys):xs=ys:=by
 obtain⟨its,r,⟨o,e,_,n,d⟩,_⟩:=I.tuple h;obtain⟨its',r',⟨o',e',_,n',d'⟩,_⟩:=I.tuple h';rw[e] at e';cases e';rw[d] at d';injection d' with d1 _
 have:its=its':=by simpa using congrArg Array.toList d1
 subst this;exact r.inj r'
end
noncomputable abbrev Cx.wish (X:Cx) (E:yey):Cx:={ X with xe:=E }
noncomputable abbrev Cx.nox (X:Cx):Cx:=X.wish λ_ _=>False
theorem Cx.Ok.wish {X:Cx} (ok:X.Ok) (E:yey):(X.wish E).Ok:=
 ⟨ok.mod,ok.kind,ok.glob,ok.blt,ok.above,ok.inj,ok.has,ok.cab,ok.hd,ok.frames,ok.stk,ok.exf,ok.bs,ok.bsz,ok.noex,ok.exfs,ok.funs,ok.frf⟩
theorem Cx.Ok.unwish {X:Cx} (ok:(X.wish E).Ok):X.Ok:=
 ⟨ok.mod,ok.kind,ok.glob,ok.blt,ok.above,ok.inj,ok.has,ok.cab,ok.hd,ok.frames,ok.stk,ok.exf,ok.bs,ok.bsz,ok.noex,ok.exfs,ok.funs,ok.frf⟩
section
variable {X:Cx} {π:List (Addr×Obj)} {σ:St} {H:Hp} {s:Shared} {E:yey}
theorem aC.wish (I:aC X π σ H s) (E:yey):aC (X.wish E) π σ H s:=⟨I.ok.wish E,I.os,I.bare,I.base,I.loc,I.cell,I.free,I.freeC,I.pin,I.hok,I.len⟩
theorem aC.unwish (I:aC (X.wish E) π σ H s):aC X π σ H s:=⟨I.ok.unwish,I.os,I.bare,I.base,I.loc,I.cell,I.free,I.freeC,I.pin,I.hok,I.len⟩
theorem SP.unwish {D:lr} {f:Flow} {s':Shared} (h:SP (X.wish E) π D f s'):SP X π D f s':=by
 cases f with
 | next=>obtain⟨σ',H',I,q⟩:=h;exact⟨σ',H',I.unwish,q⟩
 | brk=>obtain⟨σ',H',I,q⟩:=h;exact⟨σ',H',I.unwish,q⟩
 | cont=>obtain⟨σ',H',I,q⟩:=h;exact⟨σ',H',I.unwish,q⟩
 | ret u=>obtain⟨v,σ',H',I,r,q⟩:=h;exact⟨v,σ',H',I.unwish,r,q⟩
theorem kZ.nox {st:List Stmt} {t:TS} (h:kZ X.nox st t):kZ X st t:=λπ s σ H D I hw=>
 wpAny_mono (h π s σ H D (I.wish _) hw) (λ_ _ q=>q.unwish) λ_ _ z=>False.elim z
end
section
variable {X:Cx} {st:Stmt} {rest:List Stmt} {t u:TS} {e:Expr} {te:TE} {pos:Pos}
noncomputable def yR:TS:=λD σ H=>D.nx σ H
noncomputable def BJ (t u:TS):TS:=λD σ H=>t { D with nx:=u D } σ H
theorem pss_nil:kZ X [] yR:=λ_ _ σ H _ I h=>wpAny_execs_nil ⟨σ,H,I,h⟩
theorem qB (h1:PS X st t) (h2:kZ X rest u):kZ X (st::rest) (BJ t u):=by
 intro π s σ H D I h;refine wpAny_execs_cons (bW (h1 π s σ H { D with nx:=u D } I h) λf s1 q=>?_);cases f with
 | next=>
   obtain⟨σ',H',I',q⟩:=q;exact h2 π s1 σ' H' D I' q
 | ret v=>exact q
 | brk=>exact q
 | cont=>exact q
theorem tS (h1:PS X st t):kZ X [st] t:=by
 intro π s σ H D I h;refine wpAny_execs_cons (bW (h1 π s σ H D I h) λf s1 q=>?_);cases f with
 | next=>exact wpAny_execs_nil q
 | ret v=>exact q
 | brk=>exact q
 | cont=>exact q
theorem aC.quiet {σ:St} {H:Hp} (I:aC X π σ H s):interactive X.env=false:=by simp[interactive,I.ok.kind]
noncomputable def yS (te:TE):TS:=λD σ H=>te σ H λ_ H1=>D.nx σ H1
theorem tT (he:PE X e te) (hs:swapsWith e none pos.line X.env=pure false:=by rfl):PS X (.Expr e pos) (yS te):=by
 intro π s σ H D I h;exact wpAny_Expr_any (bW (he π s σ H _ I h) λv s1 ⟨x,H1,I1,r1,q1⟩=>⟨σ,H1,I1,q1⟩) I.quiet hs
noncomputable def BK (te:TE):TS:=λD σ H=>te σ H D.rt
theorem w6 (he:PE X e te):PS X (.Return (some e) pos) (BK te):=by
 intro π s σ H D I h;exact wpAny_Return_some (bW (he π s σ H _ I h) λv s1 ⟨x,H1,I1,r1,q1⟩=>⟨x,σ,H1,I1,r1,q1⟩)
noncomputable def yT:TS:=λD _ H=>D.rt .non H
theorem ps_retN:PS X (.Return none pos) yT:=λ_ _ σ H _ I h=>wpAny_Return_none ⟨.non,σ,H,I,rfl,h⟩
noncomputable def BL (c:TT) (t u:TS):TS:=λD σ H=>c σ H λb H1=>if b=true then t D σ H1 else u D σ H1
theorem yU {c:Expr} {a b:List Stmt} {tc:TT} (hc:PT X c tc) (ha:kZ X a t) (hb:kZ X b u):PS X (.If c a b pos) (BL tc t u):=by
 intro π s σ H D I h;refine wpAny_If (bW (hc π s σ H _ I h) λd s1 z9=>?_);obtain⟨H1,I1,q1⟩:=z9;cases d with
 | true=>exact ha π s1 σ H1 D I1 q1
 | false=>exact hb π s1 σ H1 D I1 q1
end
noncomputable abbrev TG:=V->St->Hp->(St->Hp->Prop)->Prop
noncomputable abbrev tU:=List V->St->Hp->(St->Hp->Prop)->Prop
noncomputable def PG (X:Cx) (target:Expr) (t:TG):Prop:=
 ∀(π:List (Addr×Obj)) (s:Shared) (σ:St) (H:Hp) (v:V) (u:Value) (Q:St->Hp->Prop),aC X π σ H s->bg v u->t v σ H Q->
  wpAny (model X.prog X.w) X.A (assign target X.env u) (λ_ s'=>∃σ' H',aC X π σ' H' s'/\Q σ' H') X.xe s
noncomputable def v9 (X:Cx) (ts:List Expr) (t:tU):Prop:=
 ∀(π:List (Addr×Obj)) (s:Shared) (σ:St) (H:Hp) (vs:List V) (us:yez) (Q:St->Hp->Prop),aC X π σ H s->aS vs us->t vs σ H Q->
  wpAny (model X.prog X.w) X.A (assignInOrder ((assignEach ts X.env).map (·.2)) us) (λ_ s'=>∃σ' H',aC X π σ' H' s'/\Q σ' H') X.xe s
section
variable {X:Cx} {pos:Pos}
noncomputable def wc (i:Nat):TG:=λv σ H Q=>Q (σ.set i (some v)) H
theorem tV (hN:X.N.Nodup) (hi:X.N[i]?=some x) (hx:v7 X.env.scope x) (hf:X.fn x=true∨X.env.scope.names.lookup x=some .local:=by first | exact .inl rfl | exact .inr rfl | assumption):PG X (.Name x pos) (wc i):=by
 intro π s σ H v u Q I r h;exact wpAny_assign_Name (lq I hN hi hx r (λs' I'=>⟨_,H,I',h⟩) hf)
noncomputable def BM:tU:=λvs σ H Q=>vs=[]/\Q σ H
noncomputable def yV (t:TG) (u:tU):tU:=λvs σ H Q=>∃v r,vs=v::r/\t v σ H λσ' H'=>u r σ' H' Q
theorem pgs_nil:v9 X [] BM:=by
 intro π s σ H vs us Q I r h;obtain⟨e,h⟩:=h;subst e;cases r;exact assignInOrder_nil ⟨σ,H,I,h⟩
theorem qC {t:TG} {u:tU} (h1:PG X e t) (h2:v9 X es u)
 (hs:(assignEach (e::es) X.env).map (·.2)=assign e X.env::(assignEach es X.env).map (·.2):=by rfl):v9 X (e::es) (yV t u):=by
 intro π s σ H vs us Q I r h;obtain⟨v,vr,e1,h⟩:=h;subst e1;cases r with
 | cons r rr=>
   rw[hs];refine assignInOrder_cons (bW (h1 π s σ H _ _ _ I r h) λ_ s1 z9=>?_);obtain⟨σ1,H1,I1,q1⟩:=z9;exact h2 π s1 σ1 H1 _ _ Q I1 rr q1
noncomputable def BN (K:yav) (n:Nat) (t:tU):TG:=λv σ H Q=>∃a xs,v=.ref a/\dq K H a xs/\xs.length=n/\t xs σ H Q
theorem w9 {t:tU} {n:Nat} (hc:X.calm=true) (h:v9 X es t)
 (hn:(assignEach es X.env).length=n:=by rfl) (hst:(assignEach es X.env).findIdx? (·.1)=none:=by rfl):PG X (.Tuple es k pos) (BN X.K n t):=by
 intro π s σ H v u Q I r hw;obtain⟨a,xs,e1,hq,hl,hw⟩:=hw;subst e1;cases r;obtain⟨its,rv,ht,hz⟩:=I.tuple hq;refine assign_Tuple_tuple (I.ok.hd hc) ht (by simp[hn,←hl,rv.length]) hst λh' hx=>?_;have I1:aC X π σ H { s with heap:=h' }:=I.kept (t':=s.toks) λb o e=>hx b o (ne_of_lt (ybv e)) e;exact h π _ σ H xs _ Q I1 (by simpa using rv) hw
noncomputable def BO (te:TE) (g:TG):TS:=λD σ H=>te σ H λx H1=>g x σ H1 D.nx
theorem xb {te:TE} {pos':Pos} (hN:X.N.Nodup) (hi:X.N[i]?=some x) (hx:v7 X.env.scope x) (he:PE X e te) (hs:swapsWith e (some (.Name x pos')) pos.line X.env=pure false:=by rfl) (hf:X.fn x=true∨X.env.scope.names.lookup x=some .local:=by first | exact .inl rfl | exact .inr rfl | assumption):
 PS X (.Assign [.Name x pos'] e pos) (BO te (wc i)):=by
 intro π s σ H D I h;refine wpAny_Assign_Name (bW (he π s σ H _ I h) λv s1 z9=>?_) hs;obtain⟨y,H1,I1,r1,q1⟩:=z9;exact lq I1 hN hi hx r1 (λs2 I2=>⟨_,H1,I2,q1⟩) hf
end
section
variable {X:Cx} {pos:Pos}
noncomputable def xc (c:TT) (tb:TS):TS:=λD σ H=>∃W:Nat->St->Hp->Prop,(∃m,W m σ H)/\∀m σ H,W m σ H->
 c σ H λb H1=>if b=true then ∃N:St->Hp->Prop,(∀σ' H',N σ' H'->∃m',m'<m/\W m' σ' H')/\tb { D with nx:=N,ct:=N,bk:=D.nx } σ H1 else D.nx σ H1
theorem qD {c:Expr} {tc:TT} {tb:TS} (hp:PassesOwn (model X.prog X.w) X.A X.env X.xe) (hc:PT X c tc) (hb:kZ X body tb):PS X (.While c body [] pos) (xc tc tb):=by
 intro π s σ H D I h;obtain⟨W,⟨m0,w0⟩,turn⟩:=h;refine wpAny_While (codeAny_whileLoop (λn s'=>∃σ' H',aC X π σ' H' s'/\W n σ' H') ?_ m0 ⟨σ,H,I,w0⟩);rintro n s1 ⟨σ1,H1,I1,w1⟩;refine wpAny_passesOwn hp (bW (hc π s1 σ1 H1 _ I1 (turn n σ1 H1 w1)) λb s2 z9=>?_);obtain⟨H2,I2,q2⟩:=z9;cases b with
 | true=>
   obtain⟨N,hN,q2⟩:=q2;rw[ycv rfl];refine wpAny_passesOwn hp (bW (hb π s2 σ1 H2 _ I2 q2) λf s3 q3=>?_);cases f with
   | next=>
     obtain⟨σ3,H3,I3,n3⟩:=q3;obtain⟨m',hm,w3⟩:=hN σ3 H3 n3;exact⟨m',hm,σ3,H3,I3,w3⟩
   | cont=>
     obtain⟨σ3,H3,I3,n3⟩:=q3;obtain⟨m',hm,w3⟩:=hN σ3 H3 n3;exact⟨m',hm,σ3,H3,I3,w3⟩
   | brk=>exact q3
   | ret v=>exact q3
 | false=>
   rw[ycw ydx];exact wpAny_execs_nil ⟨σ1,H2,I2,q2⟩
end
structure It where
 go:Nat->Hp->Prop
 yld:Nat->Hp->V->Hp->Prop
 stop:Nat->Hp->Prop
noncomputable def j7 (X:Cx) (π:List (Addr×Obj)) (H:Hp) (b:Addr):Prop:=
 H b=none/\b≠X.env.locals/\b∉X.fs/\(b∈X.ex∨X.s₀.heap.objs.size<=b)/\(∀x c,X.env.cells.lookup x=some c->c≠b)/\∀p∈X.pn++π,p.1≠b
theorem aC.fpOk {X:Cx} {σ:St} {H H':Hp} {b:Addr} (I:aC X π σ H s) (hb:s.heap.objs.size<=b) (hn:H' b=none):j7 X π H' b:=by
 refine⟨hn,Nat.ne_of_gt (ydw I.lt hb),I.nofs hb,.inr (ycy I.sz hb),λx c e z=>?_,λp hp z=>?_⟩
 ·obtain⟨v,q⟩:=I.cell x c e;exact absurd (ydw q.lt (by rw[z];exact hb)) (lt_irrefl _)
 ·exact absurd (ydw (ybv (I.pin p hp).1) (by rw[z];exact hb)) (lt_irrefl _)
structure mU (P:Program) (w:World) (K:yav) (tg:Expr) (J:It) (fp:List Addr) (it:Addr) (tn:Nat->Heap->Prop):Prop where
 mem:it∈fp
 obj:∀i h,tn i h->∀b∈fp,∃o,h.get? b=some o/\∀v,o.data≠ .cell v
 keep:∀i h h',tn i h->(∀b∈fp,∀o,h.get? b=some o->h'.get? b=some o)->tn i h'
 item:∀(X:Cx),X.prog=P->X.w=w->X.K=K->X.calm=true->∀(i:Nat) (π:List (Addr×Obj)) (s:Shared) (σ:St) (H:Hp) (E:yey),aC X π σ H s->(∀b∈fp,j7 X π H b)->tn i s.heap->J.go i H->
  wpAny (model P w) X.A (pyNext (.ref it)) (λr s1=>∃u,r=some u/\
   wpAny (model P w) X.A (letOwnedTupleGo tg (.ref it) u) (λ_ s2=>∃x H',aC X π σ H' s2/\bg x u/\J.yld i H x H'/\tn (i+1) s2.heap/\∀b∈fp,H' b=none) E s1) E s
 done:∀(X:Cx),X.prog=P->X.w=w->X.K=K->X.calm=true->∀(i:Nat) (π:List (Addr×Obj)) (s:Shared) (σ:St) (H:Hp) (E:yey),aC X π σ H s->(∀b∈fp,j7 X π H b)->tn i s.heap->J.stop i H->
  wpAny (model P w) X.A (pyNext (.ref it)) (λr s1=>r=none/\aC X π σ H s1) E s
 self:∀(A:Around) (i:Nat) (s:Shared) (Q:yey) (E:yey),tn i s.heap->Q (.ref it) s->wpAny (model P w) A (pyIter (.ref it)) Q E s
noncomputable abbrev TI:=St->Hp->(It->Hp->Prop)->Prop
noncomputable def Ds (X:Cx) (π:List (Addr×Obj)) (σ:St) (tg:Expr) (R:It->Hp->Prop) (itv:Value) (s2:Shared):Prop:=
 ∃(it:Addr) (fp:List Addr) (tn:Nat->Heap->Prop) (J:It) (H':Hp),itv=.ref it/\aC X π σ H' s2/\mU X.prog X.w X.K tg J fp it tn/\tn 0 s2.heap/\(∀b∈fp,j7 X π H' b)/\R J H'
noncomputable def PI (X:Cx) (tg iter:Expr) (wi:TI):Prop:=
 ∀(π:List (Addr×Obj)) (s:Shared) (σ:St) (H:Hp) (R:It->Hp->Prop),aC X π σ H s->wi σ H R->
  wpAny (model X.prog X.w) X.A (eval iter X.env) (λv s1=>wpAny (model X.prog X.w) X.A (pyIter v) (Ds X π σ tg R) X.xe s1) X.xe s
theorem n9 {M:Model} {tg:Expr} {it:Addr} {o:Obj} {n:String} {vs:Array Value} {Q:Unit->Shared->Prop} (ho:s.heap.get? it=some o) (hc:o.cls=.type n) (hd:o.data=.fields vs)
 (hn:["enumerate","zip","dict_itemiterator","dict_reverseitemiterator","odict_iterator","itertools.zip_longest","itertools.pairwise"].contains n=false) (hQ:Q () s):wpAny M A (letOwnedTupleGo tg (.ref it) u) Q E s:=by
 unfold letOwnedTupleGo;cases tg<;> first
  | exact wpAny_pure hQ
  | (cases u<;> first
      | exact wpAny_pure hQ
      | (refine wax (wpAny_load ho ?_)
         rw[hc,hd];show wpAny M A (if (["enumerate","zip","dict_itemiterator","dict_reverseitemiterator","odict_iterator","itertools.zip_longest","itertools.pairwise"].contains n&&vs[0]?==some (rawInt _))=true then _ else _) Q E s;rw[ycw (by intro h;rw[hn,Bool.false_and] at h;cases h)];exact wpAny_pure hQ))
noncomputable def Bs (K:yav) (a:Addr):It:=
 ⟨λi H=>∃xs x,dy K H a xs/\xs[i]?=some x,λi H x H'=>H'=H/\∀xs,dy K H a xs->xs[i]?=some x,λi H=>∃xs,dy K H a xs/\xs.length<=i⟩
noncomputable def BP (K:yav) (a:Addr):It:=
 ⟨λi H=>∃xs x,dq K H a xs/\xs[i]?=some x,λi H x H'=>H'=H/\∀xs,dq K H a xs->xs[i]?=some x,λi H=>∃xs,dq K H a xs/\xs.length<=i⟩
noncomputable def Bt (lo:Int) (n:Nat):It:=⟨λi _=>i<n,λi H x H'=>H'=H/\x=.int (lo+i),λi _=>n<=i⟩
theorem pE {tg:Expr} (a it:Addr):mU P w K tg (Bs K a) [it] it (λi h=>h.IsListIter it a i) where
 mem:=by simp
 obj:=λi h st b hb=>by
  have e:b=it:=by simpa using hb
  subst e;obtain⟨o,e,c,d⟩:=st;exact⟨o,e,λv z=>by rw[d] at z;cases z⟩
 keep:=λi h h' st k=>st.at λo e=>k it (by simp) o e
 item:=by
  intro X hP hw hK hc i π s σ H E I hf st hg;subst hP hw hK;obtain⟨xs,x,hq,hx⟩:=hg;obtain⟨its,rv,p,hz⟩:=I.list hq;obtain⟨u,hu,ru⟩:=rv.get hx;obtain⟨f0,f1,f2,f3,f4,f5⟩:=hf it (by simp);refine wpAny_pyNext_list_item st p.isList (x:=u) (by simpa using hu) λh' st' sb=>?_;have I1:aC X π σ H { s with heap:=h' }:=I.turned (t':=s.toks) (λb o hb e=>(sb.2 b hb).trans e) f0 f1 f3 f4 f5;obtain⟨o,e,c,d⟩:=id st';exact⟨u,rfl,n9 (s:={ s with heap:=h' }) e c d (by decide) ⟨x,H,I1,ru,⟨rfl,λys hy=>by rw[I.list_inj hy hq];exact hx⟩,st',λb hb=>(hf b hb).1⟩⟩
 done:=by
  intro X hP hw hK hc i π s σ H E I hf st hg;subst hP hw hK;obtain⟨xs,hq,hx⟩:=hg;obtain⟨its,rv,p,hz⟩:=I.list hq;obtain⟨f0,f1,f2,f3,f4,f5⟩:=hf it (by simp);have hl:=rv.length;exact wpAny_pyNext_list_end (I.ok.hd hc) st p.isList (by simp;(clear hz f3;lia)) λh' eb=>⟨rfl,I.turned (t':=s.toks) (λb o hb e=>eb b o hb e) f0 f1 f3 f4 f5⟩
 self:=λ_ _ _ _ _ st h=>wpAny_pyIter_listiter st h
theorem mV {tg:Expr} (a it:Addr):mU P w K tg (BP K a) [it] it (λi h=>h.IsTupleIter it a i) where
 mem:=by simp
 obj:=λi h st b hb=>by
  have e:b=it:=by simpa using hb
  subst e;obtain⟨o,e,c,d⟩:=st;exact⟨o,e,λv z=>by rw[d] at z;cases z⟩
 keep:=λi h h' st k=>st.at λo e=>k it (by simp) o e
 item:=by
  intro X hP hw hK hc i π s σ H E I hf st hg;subst hP hw hK;obtain⟨xs,x,hq,hx⟩:=hg;obtain⟨its,rv,p,hz⟩:=I.tuple hq;obtain⟨u,hu,ru⟩:=rv.get hx;obtain⟨f0,f1,f2,f3,f4,f5⟩:=hf it (by simp);refine wpAny_pyNext_tuple_item st (show s.heap.IsTuple a its.toArray from p) (x:=u) (by simpa using hu) λh' st' sb=>?_;have I1:aC X π σ H { s with heap:=h' }:=I.turned (t':=s.toks) (λb o hb e=>(sb.2 b hb).trans e) f0 f1 f3 f4 f5;obtain⟨o,e,c,d⟩:=id st';exact⟨u,rfl,n9 (s:={ s with heap:=h' }) e c d (by decide) ⟨x,H,I1,ru,⟨rfl,λys hy=>by rw[I.tuple_inj hy hq];exact hx⟩,st',λb hb=>(hf b hb).1⟩⟩
 done:=by
  intro X hP hw hK hc i π s σ H E I hf st hg;subst hP hw hK;obtain⟨xs,hq,hx⟩:=hg;obtain⟨its,rv,p,hz⟩:=I.tuple hq;obtain⟨f0,f1,f2,f3,f4,f5⟩:=hf it (by simp);have hl:=rv.length;exact wpAny_pyNext_tuple_end (I.ok.hd hc) st (show s.heap.IsTuple a its.toArray from p) (by simp;(clear hz f3;lia)) λh' eb=>⟨rfl,I.turned (t':=s.toks) (λb o hb e=>eb b o hb e) f0 f1 f3 f4 f5⟩
 self:=λ_ _ _ _ _ st h=>wpAny_pyIter_tupleiter st h
theorem mW {tg:Expr} (it:Addr) (lo:Int) (n:Nat):mU P w K tg (Bt lo n) [it] it (λi h=>IsRangeIter h it (lo+(i:Nat)*1) ((n:Int)- (i:Nat)) 1) where
 mem:=by simp
 obj:=λi h st b hb=>by
  have e:b=it:=by simpa using hb
  subst e;exact⟨_,st,λv z=>by
   have z':Data.fields _=Data.cell v:=z;cases z'⟩
 keep:=λi h h' st k=>k it (by simp) _ st
 item:=by
  intro X hP hw hK hc i π s σ H E I hf st hg;subst hP hw hK;obtain⟨f0,f1,f2,f3,f4,f5⟩:=hf it (by simp);have W:=Walks.range (prog:=X.prog) (w:=X.w) (I.ok.hd hc) it lo 1 n;refine W.item i s _ _ hg st λv h' tk hv st' kk=>?_;obtain⟨t,rfl⟩:=hv;have I1:aC X π σ H { s with heap:=h',toks:=tk }:=I.turned (λb o hb e=>kk b o (by simpa using hb) e) f0 f1 f3 f4 f5;refine⟨_,rfl,n9 (s:={ s with heap:=h',toks:=tk }) (n:="range_iterator") st' rfl rfl (by decide) ⟨.int (lo+i),H,I1,⟨t,?_⟩,⟨rfl,rfl⟩,st',λb hb=>(hf b hb).1⟩⟩;rw[Int.mul_one]
 done:=by
  intro X hP hw hK hc i π s σ H E I hf st hg;subst hP hw hK;obtain⟨f0,f1,f2,f3,f4,f5⟩:=hf it (by simp);exact wpAny_pyNext_range_end (I.ok.hd hc) st (by have:n<=i:=hg;(clear f3;lia)) λh' eb=>⟨rfl,I.turned (t':=s.toks) (λb o hb e=>eb b o hb e) f0 f1 f3 f4 f5⟩
 self:=λ_ _ _ _ _ st h=>wpAny_pyIter_rangeiter st h
section
variable {X:Cx} {tg:Expr}
theorem qE {σ:St} {H:Hp} {R:It->Hp->Prop} {lo hi:Int} {t u v:Tok} {tk:Nat} (I:aC X π σ H s) (h1: -(2^62)<=lo) (h2:lo<2^62) (h3: -(2^62)<=hi) (h4:hi<2^62)
 (q:R (Bt lo (hi-lo).toNat) H):wpAny (model X.prog X.w) X.A (pyIter (.ref s.heap.objs.size)) (Ds X π σ tg R) E { s with heap:=s.heap.push { cls:= .type "range",data:= .fields #[.int lo t,.int hi u,.int 1 v] },toks:=tk }:=by
 refine wpAny_pyIter_range (IsRange.new ..) (small_one h1 h2 h3 h4) ?_;have I1:aC X π σ H { s with heap:=s.heap.push { cls:= .type "range",data:= .fields #[.int lo t,.int hi u,.int 1 v] },toks:=tk }:=I.kept λb o e=>ybz _ e;refine⟨(s.heap.push { cls:= .type "range",data:= .fields #[.int lo t,.int hi u,.int 1 v] }).objs.size,[(s.heap.push { cls:= .type "range",data:= .fields #[.int lo t,.int hi u,.int 1 v] }).objs.size],_,_,H,rfl,
  I1.kept (t':=tk) λb o e=>ybz _ e,mW _ lo (hi-lo).toNat,?_,λb hb=>?_,q⟩
 ·have e1:lo+((0:Nat):Int)*1=lo:=by simp
  have e2:(((hi-lo).toNat:Nat):Int)- ((0:Nat):Int)=Builtin.Range.rangeSize lo hi 1:=by rw[rangeSize_one];split<;> (clear h1 h2 h3 h4 e1;lia)
  show IsRangeIter _ _ (lo+((0:Nat):Int)*1) ((((hi-lo).toNat:Nat):Int)- ((0:Nat):Int)) 1;rw[e1,e2];exact ybw _ rfl
 ·have e:b=(s.heap.push { cls:= .type "range",data:= .fields #[.int lo t,.int hi u,.int 1 v] }).objs.size:=by simpa using hb
  subst e;exact I1.fpOk (ycx _) (I1.hok.fresh (ycx _))
noncomputable def yW (ta:TA):TI:=λσ H R=>ta σ H λvs H1=>∃j:Int,vs=[.int j]/\-(2^62)<=j/\j<2^62/\R (Bt 0 j.toNat) H1
theorem pF {a:Expr} {ta:TA} {p pos:Pos} (hg:Gl X "range") (hm:X.mg "range"=none) (ha:PA X [a] ta) (hs:starEach [a] X.env=[(false,eval a X.env)]:=by rfl):PI X tg (.Call (.Name "range" p) [a] [] pos) (yW ta):=by
 intro π s σ H R I h;refine Call_ (iy I hg hm boot_range (PyProof.Rows.callWith_type1 (bW (ha pos π s σ H _ I h) λus s1 z9=>?_) hs rfl));obtain⟨vs,H1,I1,r1,q1⟩:=z9;obtain⟨j,e,q1,q2,q⟩:=q1;subst e;cases r1 with
 | cons r rr=>
   cases rr;obtain⟨t,rfl⟩:=r;exact call_range_1 (qE I1 (by (clear q1 q2;lia)) (by (clear q1 q2;lia)) q1 q2 (by simpa using q))
noncomputable def BQ (wi:TI) (g:TG) (tb:TS):TS:=λD σ H=>wi σ H λJ H1=>∃W:Nat->Nat->St->Hp->Prop,(∃m,W 0 m σ H1)/\∀i m σ H,W i m σ H->
 (J.stop i H/\D.nx σ H)∨(J.go i H/\∃N:St->Hp->Prop,(∀σ' H',N σ' H'->∃m',m'<m/\W (i+1) m' σ' H')/\∀x H',J.yld i H x H'->g x σ H' λσ2 H2=>tb { D with nx:=N,ct:=N,bk:=D.nx } σ2 H2)
noncomputable def iz (fp:List Addr) (h:Heap):List (Addr×Obj):=fp.filterMap λb=>(h.get? b).map λo=>(b,o)
theorem dz {fp:List Addr} {h:Heap} {b:Addr} {o:Obj} (hb:b∈fp) (e:h.get? b=some o):(b,o)∈iz fp h:=List.mem_filterMap.mpr ⟨b,hb,by rw[e];rfl⟩
theorem pG {fp:List Addr} {h:Heap} {p:Addr×Obj} (hp:p∈iz fp h):p.1∈fp/\h.get? p.1=some p.2:=by
 obtain⟨b,hb,e⟩:=List.mem_filterMap.mp hp;cases q:h.get? b with
 | none=>rw[q] at e;cases e
 | some o=>
   rw[q] at e;have e':(b,o)=p:=Option.some.inj e;subst e';exact⟨hb,q⟩
theorem aC.pinned {σ:St} {H:Hp} {fp:List Addr} (I:aC X π σ H s) (hf:∀b∈fp,j7 X π H b) (ho:∀b∈fp,∃o,s.heap.get? b=some o/\∀v,o.data≠ .cell v):aC X (π++iz fp s.heap) σ H s:=
 I.pins_of λp hp=>(mem_append.mp hp).elim (λz=>I.pin p (yex _ z)) λz=>by
  obtain⟨hb,e⟩:=pG z;obtain⟨f0,f1,f2,_⟩:=hf p.1 hb;obtain⟨o,e',d⟩:=ho p.1 hb;rw[e] at e';cases e';exact⟨e,f0,f1,f2,d⟩
theorem aC.unpinned {π pl:List (Addr×Obj)} {σ:St} {H:Hp} (I:aC X (π++pl) σ H s):aC X π σ H s:=I.pins_of λp hp=>I.pin p (yex _ (mem_append_left _ hp))
theorem xf {iter:Expr} {wi:TI} {g:TG} {tb:TS} (hp:PassesOwn (model X.prog X.w) X.A X.env X.xe) (hc:X.calm=true) (hi:PI X tg iter wi) (hg:PG X tg g) (hb:kZ X body tb)
 (hs:∀x,foldedSetIterable iter X.env x=pure x:=by intro _;rfl):PS X (.For tg iter body [] pos) (BQ wi g tb):=by
 intro π s σ H D I h;refine wpAny_For (bW (hi π s σ H _ I h) λv s1 h1=>bW h1 λitv s2 h2=>?_) hs;obtain⟨it,fp,tn,J,H2,e,I2,T,st2,f2,W,⟨m0,w0⟩,turn⟩:=h2;subst e
 -- what stays true of the iterator's objects through the loop
 have stat:∀{H':Hp},(∀b∈fp,H' b=none)->∀b∈fp,j7 X π H' b:=λhn b hb=>⟨hn b hb,(f2 b hb).2⟩;refine codeAny_forLoop_any (λn s'=>∃i σ' H',aC X π σ' H' s'/\tn i s'.heap/\(∀b∈fp,H' b=none)/\W i n σ' H') ?_ m0 ⟨0,σ,H2,I2,st2,λb hb=>(f2 b hb).1,w0⟩;rintro n s3 ⟨i,σ3,H3,I3,st3,fr3,w3⟩;rcases turn i n σ3 H3 w3 with⟨stop,qn⟩ | ⟨go,N,hN,step⟩
 ·refine wpAny_passesOwn hp (bW (T.done X rfl rfl rfl hc i π s3 σ3 H3 X.xe I3 (stat fr3) st3 stop) λr s4 z9=>?_);obtain⟨hr,I4⟩:=z9;subst hr;exact wpAny_execs_nil ⟨σ3,H3,I4,qn⟩
 ·refine wpAny_passesOwn hp (bW (T.item X rfl rfl rfl hc i π s3 σ3 H3 X.xe I3 (stat fr3) st3 go) λr s4 z9=>?_);obtain⟨u,hr,h4⟩:=z9;subst hr;refine wpAny_passesOwn hp (bW h4 λ_ s5 z9=>?_);obtain⟨x,H5,I5,r5,y5,st5,fr5⟩:=z9;have I5':=I5.pinned (stat fr5) (T.obj _ _ st5);refine wpAny_passesOwn hp (bW (hg _ s5 σ3 H5 x u _ I5' r5 (step x H5 y5)) λ_ s6 z9=>?_);obtain⟨σ6,H6,I6,q6⟩:=z9;refine wpAny_passesOwn hp (bW (hb _ s6 σ6 H6 _ I6 q6) λf s7 q7=>?_);have again:∀{σ7:St} {H7:Hp},aC X (π++iz fp s5.heap) σ7 H7 s7->N σ7 H7->∃m,m<n/\∃i σ' H',aC X π σ' H' s7/\tn i s7.heap/\(∀b∈fp,H' b=none)/\W i m σ' H':=λ{σ7 H7} I7 n7=>by
   obtain⟨m',hm,w7⟩:=hN σ7 H7 n7;refine⟨m',hm,i+1,σ7,H7,I7.unpinned,T.keep _ _ _ st5 λb hb o e=>(I7.pin (b,o) (yex _ (yex _ (dz hb e)))).1,λb hb=>?_,w7⟩;obtain⟨o,e,d⟩:=T.obj _ _ st5 b hb;exact(I7.pin (b,o) (yex _ (yex _ (dz hb e)))).2.1
  cases f with
  | next=>obtain⟨σ7,H7,I7,n7⟩:=q7;exact again I7 n7
  | cont=>obtain⟨σ7,H7,I7,n7⟩:=q7;exact again I7 n7
  | brk=>obtain⟨σ7,H7,I7,q7⟩:=q7;exact⟨σ7,H7,I7.unpinned,q7⟩
  | ret v=>obtain⟨x7,σ7,H7,I7,r7,q7⟩:=q7;exact⟨x7,σ7,H7,I7.unpinned,r7,q7⟩
end
noncomputable abbrev R2:=V->V->Hp->VK->Prop
noncomputable def gf (X:Cx) (f:Value->Value->Sem Value) (r:R2):Prop:=
 ∀(π:List (Addr×Obj)) (s:Shared) (σ:St) (H:Hp) (x y:V) (v u:Value) (Q:VK),aC X π σ H s->bg x v->bg y u->r x y H Q->
  wpAny (model X.prog X.w) X.A (f v u) (EP X π σ Q) X.xe s
noncomputable def BR (X:Cx) (f:Value->Sem Value) (r:V->Hp->VK->Prop):Prop:=
 ∀(π:List (Addr×Obj)) (s:Shared) (σ:St) (H:Hp) (x:V) (v:Value) (Q:VK),aC X π σ H s->bg x v->r x H Q->
  wpAny (model X.prog X.w) X.A (f v) (EP X π σ Q) X.xe s
noncomputable def gh (X:Cx) (f:Value) (r:List V->Hp->VK->Prop):Prop:=
 ∀(π:List (Addr×Obj)) (s:Shared) (σ:St) (H:Hp) (xs:List V) (us:yez) (Q:VK),aC X π σ H s->aS xs us->r xs H Q->
  wpAny (model X.prog X.w) X.A (call f us) (EP X π σ Q) X.xe s
noncomputable def yX (r:R2) (ta tb:TE):TE:=λσ H Q=>ta σ H λx H1=>tb σ H1 λy H2=>r x y H2 Q
noncomputable def DE (r:V->Hp->VK->Prop) (ta:TE):TE:=λσ H Q=>ta σ H λx H1=>r x H1 Q
noncomputable def rI (C:Int->Int->Prop) (g:Int->Int->V):R2:=λx y H Q=>∃i j,x=.int i/\y=.int j/\C i j/\Q (g i j) H
noncomputable def tW (g:Int->Int->V):R2:=λx y H Q=>∃i j,x=.int i/\y=.int j/\Q (g i j) H
noncomputable def rU (g:Int->V):V->Hp->VK->Prop:=λx H Q=>∃i,x=.int i/\Q (g i) H
section
variable {X:Cx} {a b c:Expr} {ta tb tc:TE} {pos:Pos}
theorem xg (ha:PE X a ta) (hb:PE X b tb) {σ:St} {H:Hp} {R:V->V->Hp->Prop} (I:aC X π σ H s)
 (h:ta σ H λx H1=>tb σ H1 λy H2=>R x y H2) {Q:yey} {f:Value->Value->Sem Value}
 (hf:∀v u s2 x y H2,aC X π σ H2 s2->bg x v->bg y u->R x y H2->wpAny (model X.prog X.w) X.A (f v u) Q X.xe s2):
 wpAny (model X.prog X.w) X.A (eval a X.env) (λv s₁=>wpAny (model X.prog X.w) X.A (eval b X.env) (λu s₂=>wpAny (model X.prog X.w) X.A (f v u) Q X.xe s₂) X.xe s₁) X.xe s:=by
 refine bW (ha π s σ H _ I h) λv s1 z9=>?_;obtain⟨x,H1,I1,r1,q1⟩:=z9;refine bW (hb π s1 σ H1 _ I1 q1) λu s2 z9=>?_;obtain⟨y,H2,I2,r2,q2⟩:=z9;exact hf v u s2 x y H2 I2 r1 r2 q2
theorem yY {op:Operator} {r:R2} (ho:gf X (binaryOp op) r) (ha:PE X a ta) (hb:PE X b tb):PE X (.BinOp a op b pos) (yX r ta tb):=by
 intro π s σ H Q I h;exact wpAny_BinOp (xg ha hb I h λv u s2 x y H2 I2 rx ry q=>ho π s2 σ H2 x y v u Q I2 rx ry q)
theorem yZ {op:UnaryOp} {r:V->Hp->VK->Prop} (ho:BR X (unaryOp op) r) (ha:PE X a ta):PE X (.UnaryOp op a pos) (DE r ta):=by
 intro π s σ H Q I h;exact UnaryOp_ (bW (ha π s σ H _ I h) λv s1 ⟨x,H1,I1,r1,q1⟩=>ho π s1 σ H1 x v Q I1 r1 q1)
theorem Bu {f:Value->Value->Sem Value} {C:Int->Int->Prop} {g:Int->Int->Int}
 (rule:∀(i j:Int) (t u:Tok) (s:Shared) (Q:yey) (E:yey),C i j->Q (.int (g i j) s.toks) { s with toks:=s.toks+1 }->wpAny (model X.prog X.w) X.A (f (.int i t) (.int j u)) Q E s):
 gf X f (rI C λi j=> .int (g i j)):=by
 intro π s σ H x y v u Q I rx ry h;obtain⟨i,j,rfl,rfl,hc,q⟩:=h;obtain⟨t,rfl⟩:=rx;obtain⟨t',rfl⟩:=ry;exact rule i j t t' s _ _ hc ⟨.int (g i j),H,I.tok _,⟨_,rfl⟩,q⟩
theorem y0 {f:Value->Value->Sem Value} {g:Int->Int->Int}
 (rule:∀(i j:Int) (t u:Tok) (s:Shared) (Q:yey) (E:yey),Q (.int (g i j) s.toks) { s with toks:=s.toks+1 }->wpAny (model X.prog X.w) X.A (f (.int i t) (.int j u)) Q E s):
 gf X f (tW λi j=> .int (g i j)):=by
 intro π s σ H x y v u Q I rx ry h;obtain⟨i,j,rfl,rfl,q⟩:=h;obtain⟨t,rfl⟩:=rx;obtain⟨t',rfl⟩:=ry;exact rule i j t t' s _ _ ⟨.int (g i j),H,I.tok _,⟨_,rfl⟩,q⟩
theorem tX {f:Value->Value->Sem Value} {g:Int->Int->Bool}
 (rule:∀(i j:Int) (t u:Tok) (s:Shared) (Q:yey) (E:yey),Q (.bool (g i j)) s->wpAny (model X.prog X.w) X.A (f (.int i t) (.int j u)) Q E s):
 gf X f (tW λi j=> .bl (g i j)):=by
 intro π s σ H x y v u Q I rx ry h;obtain⟨i,j,rfl,rfl,q⟩:=h;obtain⟨t,rfl⟩:=rx;obtain⟨t',rfl⟩:=ry;exact rule i j t t' s _ _ ⟨.bl (g i j),H,I,rfl,q⟩
noncomputable def y3 (i j:Int):Prop:=0<j/\j<1073741824
noncomputable def xh (i j:Int):Prop:=0<=j/\j<=1000000/\i.natAbs<2^64
noncomputable def tY (i j:Int):Prop:=(-(2^64)<i/\i<2^64)∨(-(2^64)<j/\j<2^64)
theorem tY.ok {i j:Int} (h:tY i j):IntMulOk i j:=by
 rcases h with⟨h1,h2⟩ | ⟨h1,h2⟩
 ·exact .of_left (intBits_le_64 h1 h2)
 ·exact .of_right (intBits_le_64 h1 h2)
theorem xi:gf X (binaryOp .Add) (tW λi j=> .int (i+j)):=y0 λ_ _ _ _ _ _ _ q=>add_int q
theorem xj:gf X (binaryOp .Sub) (tW λi j=> .int (i-j)):=y0 λ_ _ _ _ _ _ _ q=>sub_int q
theorem xk:gf X (binaryOp .Mod) (rI (λ_ j=>0<j) λi j=> .int (i%j)):=Bu λi j _ _ _ _ _ hc q=>by
 have h1:(0:Int)<j:=hc;exact mod_int' (by (clear h1;lia)) (by rw[Int.fmod_eq_emod_of_nonneg i (by (clear h1;lia))];exact q)
theorem DF {f:Value->Sem Value} {g:Int->Int}
 (rule:∀(i:Int) (t:Tok) (s:Shared) (Q:yey) (E:yey),Q (.int (g i) s.toks) { s with toks:=s.toks+1 }->wpAny (model X.prog X.w) X.A (f (.int i t)) Q E s):
 BR X f (rU λi=> .int (g i)):=by
 intro π s σ H x v Q I rx h;obtain⟨i,rfl,q⟩:=h;obtain⟨t,rfl⟩:=rx;exact rule i t s _ _ ⟨.int (g i),H,I.tok _,⟨_,rfl⟩,q⟩
theorem xl:BR X (unaryOp .USub) (rU λi=> .int (-i)):=DF λ_ _ _ _ _ q=>neg_int q
end
section
variable {X:Cx} {a b c:Expr} {ta tb tc:TE} {pos:Pos}
theorem xm {σ:St} {H:Hp} {Q:VK} {k k':Bool} (I:aC X π σ H s) (q:Q (.bl k) H) (e:k=k'):EP X π σ Q (.bool k') s:=by
 subst e;exact⟨.bl k,H,I,rfl,q⟩
theorem y4:gf X (compareOp .Lt) (tW λi j=> .bl (decide (i<j))):=tX λ_ _ _ _ _ _ _ q=>lt_int q
theorem y6:gf X (compareOp .LtE) (tW λi j=> .bl (decide (i<=j))):=tX λ_ _ _ _ _ _ _ q=>le_int q
theorem y7:gf X (compareOp .Gt) (tW λi j=> .bl (decide (j<i))):=tX λ_ _ _ _ _ _ _ q=>gt_int q
theorem y8:gf X (compareOp .GtE) (tW λi j=> .bl (decide (j<=i))):=tX λ_ _ _ _ _ _ _ q=>ge_int q
theorem xn:gf X (compareOp .Is) (λx y H Q=>y=.non/\Q (.bl (decide (x=.non))) H):=by
 intro π s σ H x y v u Q I rx ry h;obtain⟨rfl,q⟩:=h;cases ry;refine is_none_gen (xm I q ?_);cases x<;> first
  | (cases rx;rfl)
  | (obtain⟨t,rfl⟩:=rx;rfl)
theorem qF (b:Expr) {op:CmpOp} (h:op≠ .In:=by decide) (h2:op≠ .NotIn:=by decide):behindInMarks op b=false:=by
 have e1:(op==CmpOp.In)=false:=by cases op<;> first | rfl | exact absurd rfl h
 have e2:(op==CmpOp.NotIn)=false:=by cases op<;> first | rfl | exact absurd rfl h2
 cases b<;> simp[behindInMarks,e1,e2]
theorem tZ {op:CmpOp} {r:R2} (ho:gf X (compareOp op) r) (ha:PE X a ta) (hb:PE X b tb) (hm:behindInMarks op b=false):PE X (.Compare a [op] [b] pos) (yX r ta tb):=by
 intro π s σ H Q I h;exact wpAny_Compare1 (xg ha hb I h λv u s2 x y H2 I2 rx ry q=>ho π s2 σ H2 x y v u Q I2 rx ry q) hm
noncomputable def qG (t:TE):TT:=λσ H Q=>t σ H λx H'=>∃k,x=.bl k/\Q k H'
theorem t9 {op:CmpOp} {r:R2} (ho:gf X (compareOp op) r) (ha:PE X a ta) (hb:PE X b tb) (hm:behindInMarks op b=false):PT X (.Compare a [op] [b] pos) (qG (yX r ta tb)):=by
 intro π s σ H Q I h;refine wpAny_isTrue_Compare1 (bW (ha π s σ H _ I h) λv s1 ⟨x,H1,I1,r1,q1⟩=>bW (hb π s1 σ H1 _ I1 q1) λu s2 ⟨y,H2,I2,r2,q2⟩=>
  bW (ho π s2 σ H2 x y v u _ I2 r1 r2 q2) λc s3 ⟨z,H3,I3,r3,k,e,q3⟩=>?_) hm
 subst e;cases r3;exact wpAny_truthy_bool ⟨H3,I3,q3⟩
noncomputable def mX (r r':R2) (ta tb tc:TE):TE:=λσ H Q=>ta σ H λx H1=>tb σ H1 λy H2=>r x y H2 λz H3=>∃k,z=.bl k/\
 (if k=true then tc σ H3 λw' H4=>r' y w' H4 Q else Q (.bl false) H3)
theorem qH {op op':CmpOp} {r r':R2} (ho:gf X (compareOp op) r) (ho':gf X (compareOp op') r') (ha:PE X a ta) (hb:PE X b tb) (hc:PE X c tc)
 (hm:lastMarks [op,op'] [b,c]=false:=by with_unfolding_all rfl):PE X (.Compare a [op,op'] [b,c] pos) (mX r r' ta tb tc):=by
 intro π s σ H Q I h;refine Compare_chain (bW (ha π s σ H _ I h) λv s1 ⟨x,H1,I1,r1,q1⟩=>chain_link (bW (hb π s1 σ H1 _ I1 q1) λu s2 ⟨y,H2,I2,r2,q2⟩=>
  bW (ho π s2 σ H2 x y v u _ I2 r1 r2 q2) λd s3 ⟨z,H3,I3,r3,k,e,q3⟩=>?_)) hm
 subst e;cases r3;refine wpAny_truthy_bool ?_;cases k with
 | false=>exact ite_ff ⟨.bl false,H3,I3,rfl,q3⟩
 | true=>exact ite_tt (chain_last (bW (hc π s3 σ H3 _ I3 q3) λw' s4 ⟨z',H4,I4,r4,q4⟩=>ho' π s4 σ H4 y z' u w' Q I4 r2 r4 q4))
theorem qI {op op':CmpOp} {r r':R2} (ho:gf X (compareOp op) r) (ho':gf X (compareOp op') r') (ha:PE X a ta) (hb:PE X b tb) (hc:PE X c tc)
 (hm:lastMarks [op,op'] [b,c]=false:=by with_unfolding_all rfl):PT X (.Compare a [op,op'] [b,c] pos) (qG (mX r r' ta tb tc)):=by
 intro π s σ H Q I h;refine isTrue_chain (bW (ha π s σ H _ I h) λv s1 ⟨x,H1,I1,r1,q1⟩=>test_link (bW (hb π s1 σ H1 _ I1 q1) λu s2 ⟨y,H2,I2,r2,q2⟩=>
  bW (ho π s2 σ H2 x y v u _ I2 r1 r2 q2) λd s3 ⟨z,H3,I3,r3,k,e,q3⟩=>?_)) hm
 subst e;cases r3;refine wpAny_truthy_bool ?_;cases k with
 | false=>
   obtain⟨k',e',q'⟩:=q3;cases e';exact ite_ff ⟨H3,I3,q'⟩
 | true=>
   refine ite_tt (test_last (bW (hc π s3 σ H3 _ I3 q3) λw' s4 ⟨z',H4,I4,r4,q4⟩=>bW (ho' π s4 σ H4 y z' u w' _ I4 r2 r4 q4) λd' s5 z9=>?_));obtain⟨z2,H5,I5,r5,k2,e2,q5⟩:=z9;subst e2;cases r5;exact wpAny_truthy_bool ⟨H5,I5,q5⟩
theorem iA:(sizeLine:Nat)<2^63:=by rw[sizeLine_eq];decide
theorem mY:gf X (binaryOp .Add) (λx y H Q=>∃i j,x=.str i/\y=.str j/\i.length+j.length<=sizeLine/\Q (.str (i++j)) H):=by
 intro π s σ H x y v u Q I rx ry h;obtain⟨i,j,rfl,rfl,hz,q⟩:=h;obtain⟨t,rfl⟩:=rx;obtain⟨t',rfl⟩:=ry;exact add_str (λt' tk=>⟨.str (i++j),H,I.tok _,⟨_,rfl⟩,q⟩) hz
theorem eQ {x:V} (r:aS [x] us):∃u,us=[u]/\bg x u:=by
 cases r with
 | cons r1 r2=>cases r2;exact⟨_,rfl,r1⟩
theorem qJ {x y:V} (r:aS [x,y] us):∃u w',us=[u,w']/\bg x u/\bg y w':=by
 cases r with
 | cons r1 r2=>
   cases r2 with
   | cons r3 r4=>cases r4;exact⟨_,_,rfl,r1,r3⟩
theorem pH (hc:X.calm=true):gh X (.builtin "max") (λxs H Q=>∃i j,xs=[.int i,.int j]/\Q (.int (if j > i then j else i)) H):=by
 intro π s σ H xs us Q I r h;obtain⟨i,j,rfl,q⟩:=h;obtain⟨u,w',rfl,⟨t,rfl⟩,⟨t',rfl⟩⟩:=qJ r;refine max_two_ints (I.ok.hd hc) λh' tk k=>⟨_,H,I.kept k,?_,q⟩
 by_cases hj:j > i
 ·rw[ycv hj,ycv hj];exact⟨_,rfl⟩
 ·rw[ycw hj,ycw hj];exact⟨_,rfl⟩
theorem jm:gh X (.type "int") (λxs H Q=>(∃i,xs=[.int i]/\Q (.int i) H)∨∃k,xs=[.bl k]/\Q (.int (if k then 1 else 0)) H):=by
 intro π s σ H xs us Q I r h;rcases h with⟨i,rfl,q⟩ | ⟨k,rfl,q⟩
 ·obtain⟨u,rfl,t,rfl⟩:=eQ r;exact call_int_int ⟨.int i,H,I,⟨_,rfl⟩,q⟩
 ·obtain⟨u,rfl,r1⟩:=eQ r;cases r1;exact call_int_bool ⟨.int (if k then 1 else 0),H,I.tok _,⟨_,rfl⟩,q⟩
end
structure mZ (h:Heap) (x dx C:Addr) (mA:yew):Prop where
 obj:h.get? x=some (instObj C dx)
 ns:h.Ns1 dx mA
 ne:dx≠x
theorem pI {h:Heap} {dx:Addr} {mA:yew} (n:h.Ns1 dx mA):∃od,h.get? dx=some od/\∀name,lookIn name od=some (mA name):=by
 obtain⟨o,es,ep,ho,hd,hk,_,hm⟩:=n;refine⟨o,ho,λname=>?_⟩;have e:=hm name;unfold nsFind findBy at e;rw[←Array.find?_toList] at e;unfold lookIn;rw[hd];dsimp only;split
 ·rename_i y q;rw[q] at e;exact congrArg some e
 ·rename_i q;rw[q] at e;have a:es.toList.any (·.refKey)=false:=by
   rw[List.any_eq_false];intro y hy;obtain⟨z,t,hkey⟩:=hk y (Array.mem_toList_iff.mp hy);simp[DictEntry.refKey,hkey]
  have a':¬es.toList.any (·.refKey)=true:=by rw[a];exact ydx
  rw[ycw a'];exact congrArg some e
theorem mZ.look {h:Heap} {x dx C:Addr} {mA:yew} (I:mZ h x dx C mA):∃od,PySem.W.InstAt h x (instObj C dx) C (some od)/\∀name,lookIn name od=some (mA name):=
 let ⟨od,ho,hl⟩:=pI I.ns
 ⟨od,⟨I.obj,rfl,rfl,ho⟩,hl⟩
section
variable {prog:Program} {w:World} {A:Around} {E:yey} {s:Shared} {K:yav} {x dx C f:Addr} {mA:yew} {name:Str} {v:Value}
theorem uc {expr:Bool} (X:K.In s.heap) (I:mZ s.heap x dx C mA) (hg:plainGet K C name=true) (hh:hasDictIn K C=true)
 (ha:findIn K (.ref C) name=some none) (hv:mA name=some v) (hv':PySem.W.handedIn v=true) (h:Q v { s with toks:=s.toks+1 }):
 wpAny (model prog w) A (getAttr (.ref x) name expr) Q E s:=by
 obtain⟨od,J,hl⟩:=I.look;exact PySem.W.get_value X J (PySem.W.plainGet_of hg).1 (PySem.W.findObj_own hh ha rfl (by rw[hl,hv])) hv' h
theorem qK {pl:Sem Bool} {Q:Value×List Value->Shared->Prop} (X:K.In s.heap) (I:mZ s.heap x dx C mA) (hg:plainGet K C name=true)
 (hf:findIn K (.ref C) name=some (some (.ref f))) (ht:isFn K (.ref f)=true) (hv:mA name=none) (h:Q (.ref f,[.ref x]) s):
 wpAny (model prog w) A (getMethod (.ref x) name pl) Q E s:=by
 obtain⟨od,J,hl⟩:=I.look;exact PySem.W.method_fn X J (PySem.W.plainGet_of hg).1 (PySem.W.plainGet_of hg).2 hf (beq_iff_eq.mp ht) (by show(lookIn name od).map (·.isSome)=some false;rw[hl,hv];rfl) h
theorem ud {ns:List Str} {Q:Unit->Shared->Prop} (X:K.In s.heap) (I:mZ s.heap x dx C mA)
 (hs:findIn K (.ref C) "__setattr__"=some (some (.builtin "object.__setattr__"))) (hp:PySem.W.plainOver K C=true) (ht:PySem.W.takerIn K C name=some none) (hh:hasDictIn K C=true)
 (hw:PySem.Within mA ns) (hsz:ns.length<=sizeLine)
 (h:∀h',mZ h' x dx C (λy=>if y=name then some v else mA y)->Heap.SameBut dx s.heap h'->Q () { s with heap:=h',toks:=s.toks+2 }):
 wpAny (model prog w) A (setAttr (.ref x) name v) Q E s:=by
 obtain⟨od,J,hl⟩:=I.look;refine PySem.W.set_plain X J hs (PySem.W.osa_open (s:={ s with toks:=s.toks+1 }) (r:=none) X J hp ht λb=>?_);obtain⟨cd,hc,hd'⟩:=PySem.W.any_some hh;have hx:s.heap.get? x=some ⟨.ref C,some dx,.plain,#[]⟩:=I.obj;refine wax (wpAny_pure (wax (wax (wpAny_loadPart hx (wax (PySem.W.Looks.here (s:={ s with toks:=s.toks+1 }) (PySem.W.looks_clsIn X hc) ?_))))));rw[hd'];refine wpAny_pure (a:=some dx) (wax (wpAny_pure (wax ?_)));refine wpAny_nsSet1 (s:={ s with toks:=s.toks+1 }) I.ns λh' hn2 hs2=>?_;obtain⟨oD,esD,epD,hoD,hdD,hcD⟩:=hn2.count (PySem.Within.cons name v hw);refine wax (wpAny_lookBehind hoD (by rw[hdD];exact pastItsLine_dict (ycy hcD (by rw[length_cons];(clear hcD;lia)))) ?_);exact wpAny_pure (h _ ⟨(hs2.2 _ (Ne.symm I.ne)).trans I.obj,hn2,I.ne⟩ hs2)
theorem qL {R:Result->Shared->Prop} {vs:yez} {kw:List (Str×Value)} (X:K.In s.heap) (hm:PySem.W.makesIn K C=true)
 (hi:findIn K (.ref C) "__init__"=some (some (.ref f))) (hf:PySem.W.typeIn K (.ref f)=some (.type "function"))
 (h:codeAny (model prog w) (A.under (.builtin "type.__call__" ⟨.ref C::vs,kw⟩)) (.call (.ref f) ⟨.ref (s.heap.objs.size+1)::vs,kw⟩) (PySem.W.InitBack (s.heap.objs.size+1) R)
   { s with heap:=(s.heap.push emptyDict).push (instObj C s.heap.objs.size) }):
 codeAny (model prog w) A (.call (.ref C) ⟨vs,kw⟩) R s:=by
 obtain⟨hh,g,d,t,os⟩:=s;exact PySem.W.make_core (PySem.W.makes_of X hm) (PySem.W.looks_findIn X hi) (λself=>PySem.W.bind_fn X self hf) (.inl rfl) h
end
noncomputable def dS (f:Str) (v:V):List (Str×V)->List (Str×V)
 | []=>[(f,v)]
 | (g,x)::r=>if g=f then (g,v)::r else (g,x)::dS f v r
theorem gU (f g:Str) (v:V):∀fs:List (Str×V),(dS f v fs).lookup g=if g=f then some v else fs.lookup g
 | []=>by
   show List.lookup g [(f,v)]=_
   by_cases h:g=f
   ·have hb:(g==f)=true:=beq_iff_eq.mpr h;simp only[List.lookup,hb,ycv h]
   ·have hb:(g==f)=false:=beq_eq_false_iff_ne.mpr h;simp only[List.lookup,hb,ycw h]
 | (k,x)::r=>by
   have ih:=gU f g v r;rw[show dS f v ((k,x)::r)=(if k=f then (k,v)::r else (k,x)::dS f v r) from rfl]
   by_cases hk:k=f
   ·rw[ycv hk]
    by_cases h:g=k
    ·have hb:(g==k)=true:=beq_iff_eq.mpr h;simp only[List.lookup,hb,ycv (h.trans hk)]
    ·have hb:(g==k)=false:=beq_eq_false_iff_ne.mpr h;simp only[List.lookup,hb,ycw (λe:g=f=>h (e.trans hk.symm))]
   ·rw[ycw hk]
    by_cases h:g=k
    ·have hb:(g==k)=true:=beq_iff_eq.mpr h;simp only[List.lookup,hb,ycw (λe:g=f=>hk (h.symm.trans e))]
    ·have hb:(g==k)=false:=beq_eq_false_iff_ne.mpr h;simp only[List.lookup,hb];exact ih
theorem gA (f:Str) (v:V):∀fs:List (Str×V),f∈(dS f v fs).map (·.1)/\∀g,g∈fs.map (·.1)->g∈(dS f v fs).map (·.1)
 | []=>⟨by simp[dS],λg h=>by simp at h⟩
 | (k,x)::r=>by
   obtain⟨i1,i2⟩:=gA f v r;rw[show dS f v ((k,x)::r)=(if k=f then (k,v)::r else (k,x)::dS f v r) from rfl]
   by_cases hk:k=f
   ·rw[ycv hk];subst hk;exact⟨by simp,λg h=>by simpa using h⟩
   ·rw[ycw hk];refine⟨?_,λg h=>?_⟩
    ·rw[map_cons];exact ybx _ i1
    ·rw[map_cons] at h ⊢;rcases mem_cons.mp h with e | e
     ·exact mem_cons.mpr (.inl e)
     ·exact ybx _ (i2 g e)
theorem gW (f:Str) (v:V):∀fs:List (Str×V),(dS f v fs).length<=fs.length+1
 | []=>by simp[dS]
 | (k,x)::r=>by
   have ih:=gW f v r;rw[show dS f v ((k,x)::r)=(if k=f then (k,v)::r else (k,x)::dS f v r) from rfl]
   by_cases hk:k=f
   ·rw[ycv hk,length_cons,length_cons];(clear ih;lia)
   ·rw[ycw hk,length_cons,length_cons];lia
theorem fO.some_of {v:V} {o:Option Value} (r:fO (some v) o):∃u,o=some u/\bg v u:=by
 cases o with
 | none=>exact(show False from r).elim
 | some u=>exact⟨u,rfl,r⟩
theorem fO.none_of {o:Option Value} (r:fO none o):o=none:=by
 cases o with
 | none=>rfl
 | some u=>exact(show False from r).elim
theorem pJ {v:V} (r:bg v u):PySem.W.handedIn u=true:=by
 cases v with
 | non=>cases (show u=Value.none from r);rfl
 | bl b=>cases (show u=Value.bool b from r);rfl
 | int i=>obtain⟨t,e⟩:=(show ∃t,u=Value.int i t from r);cases e;rfl
 | str x=>obtain⟨t,e⟩:=(show ∃t,u=Value.str x t from r);cases e;rfl
 | byt b=>obtain⟨t,e⟩:=(show ∃t,u=Value.bytes b t from r);cases e;rfl
 | flt b=>obtain⟨t,e⟩:=(show ∃t,u=Value.float b t from r);cases e;rfl
 | ref a=>cases (show u=Value.ref a from r);rfl
 | ty n=>cases (show u=Value.type n from r);rfl
section
variable {P:Program} {w:World} {H H':Hp} {h h':Heap} {a C dx:Addr} {fs fs':List (Str×V)}
theorem ig (hok:fZ P w H h) (e:H a=some (.ins C dx fs)):∃mA,mZ h a dx C mA/\(∀f,fO (fs.lookup f) (mA f))/\PySem.Within mA (fs.map (·.1))/\fs.length<=1000/\H dx=some (.own a):=by
 obtain⟨d,z,ne,ob,mA,n,r,q⟩:=(show ce P w H h a (.ins C dx fs) from hok a _ e);exact⟨mA,⟨ob,n,ne⟩,r,q,z,d⟩
end
structure lc (K:yav) (C:Addr):Prop where
 pg:plainGet K C Str.empty=true
 hd:hasDictIn K C=true
 po:PySem.W.plainOver K C=true
 sa:findIn K (.ref C) "__setattr__"=some (some (.builtin "object.__setattr__"))
theorem lc.get {C:Addr} (c:lc K C) (f:Str):plainGet K C f=true:=c.pg
noncomputable def cK (K:yav) (C:Addr) (f:Str):Prop:=findIn K (.ref C) f=some none
theorem cK.taker {C:Addr} {f:Str} (n:cK K C f):PySem.W.takerIn K C f=some none:=by
 unfold PySem.W.takerIn;rw[show findIn K (.ref C) f=some none from n]
 rfl
structure EB (K:yav) (C:Addr) (f:Str) (v:V) (u:Value):Prop where
 at_:findIn K (.ref C) f=some (some u)
 rel:bg v u
 get:PySem.W.specialIn K u "__get__"=some none
 cp:PySem.W.copiedNames.contains f=false
structure pK (K:yav) (C:Addr) (m:Str) (f:Addr):Prop where
 at_:findIn K (.ref C) m=some (some (.ref f))
 fn:isFn K (.ref f)=true
 kp:keepIn K (.ref f)=true
section
variable {X:Cx} {π:List (Addr×Obj)} {σ:St} {H:Hp} {s:Shared} {a C dx:Addr} {fs:List (Str×V)} {f:Str} {v:V} {A:Around} {E:yey}
theorem m8 {b:Bool} (I:aC X π σ H s) (e:H a=some (.ins C dx fs)) (c:lc X.K C) (n:cK X.K C f) (l:fs.lookup f=some v)
 (h:∀u s',aC X π σ H s'->bg v u->Q u s'):wpAny (model X.prog X.w) A (getAttr (.ref a) f b) Q E s:=by
 obtain⟨mA,O,r,_,_,_⟩:=ig I.hok e;obtain⟨u,hu,ru⟩:=fO.some_of (v:=v) (o:=mA f) (by rw[←l];exact r f);exact uc I.kIn O (c.get f) c.hd n hu (pJ ru) (h u _ (I.tok _) ru)
theorem iB {m:Str} {g:Addr} {pl:Sem Bool} {Q:Value×List Value->Shared->Prop} (I:aC X π σ H s) (e:H a=some (.ins C dx fs)) (c:lc X.K C) (k:pK X.K C m g) (l:fs.lookup m=none)
 (h:Q (.ref g,[.ref a]) s):wpAny (model X.prog X.w) A (getMethod (.ref a) m pl) Q E s:=by
 obtain⟨mA,O,r,_,_,_⟩:=ig I.hok e;have hn:mA m=none:=fO.none_of (by rw[←l];exact r m);exact qK I.kIn O (c.get m) k.at_ k.fn hn h
theorem m9 {y:V} {Q:Unit->Shared->Prop} (I:aC X π σ H s) (e:H a=some (.ins C dx fs)) (c:lc X.K C) (n:cK X.K C f) (hl:fs.length<1000) (ry:bg y u)
 (h:∀s',aC X π σ (upd H a (.ins C dx (dS f y fs))) s'->Q () s'):wpAny (model X.prog X.w) A (setAttr (.ref a) f u) Q E s:=by
 obtain⟨mA,O,r,wi,_,ho⟩:=ig I.hok e;have hz:(fs.map (·.1)).length<=sizeLine:=by rw[length_map,sizeLine_eq];lia
 refine ud I.kIn O c.sa c.po n.taker c.hd wi hz λh' O' sb=>h _ ?_;have hd:∃o,h'.get? dx=some o:=let ⟨o,_,_,e',_⟩:=O'.ns;⟨o,e'⟩;refine I.write (x:=a) (e:=dx) (by rw[e];exact True.intro) (.inr ho) (λb q hb z=>(sb.2 b hb).trans z) hd ?_;refine⟨by rw[aT O.ne];exact ho,?_,O.ne,O'.obj,_,O'.ns,λg=>?_,λg hg=>?_⟩
 ·have:=gW f y fs;(clear hz;lia)
 ·show fO ((dS f y fs).lookup g) (if g=f then some u else mA g);rw[gU]
  by_cases q:g=f
  ·rw[ycv q,ycv q];exact ry
  ·rw[ycw q,ycw q];exact r g
 ·by_cases q:g=f
  ·rw[q];exact(gA f y fs).1
  ·refine(gA f y fs).2 g (wi g λz=>hg ?_);show(if g=f then some u else mA g)=none;rw[ycw q];exact z
theorem aC.made (I:aC X π σ H s):aC X π σ (upd (upd H s.heap.objs.size (.own (s.heap.objs.size+1))) (s.heap.objs.size+1) (.ins C s.heap.objs.size []))
 { s with heap:=(s.heap.push emptyDict).push (instObj C s.heap.objs.size) }:=by
 have e1:(s.heap.push emptyDict).get? s.heap.objs.size=some emptyDict:=ybw s.heap rfl;have e2:((s.heap.push emptyDict).push (instObj C s.heap.objs.size)).get? (s.heap.objs.size+1)=some (instObj C s.heap.objs.size):=by
  have:=ybw (s.heap.push emptyDict) (o:=instObj C s.heap.objs.size) rfl
  rwa [Heap.size_push] at this
 have e3:(s.heap.push emptyDict).Ns s.heap.objs.size (λ_=>none):=⟨emptyDict,#[],_,e1,rfl,(λe he=>absurd he (by simp)),λ_=>rfl⟩;have I1:=I.laid (a:=s.heap.objs.size) (o:= .own (s.heap.objs.size+1)) (h':=s.heap.push emptyDict) (t':=s.toks) (λb u q=>ybz _ q) (ycx _) ⟨_,e1⟩;refine I1.laid (a:=s.heap.objs.size+1) (o:= .ins C s.heap.objs.size []) (t':=s.toks) (λb u q=>ybz _ q) (Nat.le_of_eq (Heap.size_push _ _)) ?_;have ne:s.heap.objs.size≠s.heap.objs.size+1:=ne_of_lt (Nat.lt_succ_self _);refine⟨by rw[aT ne,bw],zero_le _,ne,e2,λ_=>none,(Heap.Ns1.of_empty e3).at λo q=>ybz _ q,λ_=>True.intro,λy hy=>absurd rfl hy⟩
theorem ue {env:Env} {f:Str} (hb:attributeBase e f env (eval e env)=eval e env)
 (h:wpAny (model prog w) A (eval e env) (λo s₁=>wpAny (model prog w) A (getAttr o f true) Q E s₁) E s):wpAny (model prog w) A (eval (.Attribute e f pos) env) Q E s:=
 Attribute_any_ h (by rw[arm_eval_Attribute,hb])
end
noncomputable def BS (K:yav) (ta:TE) (f:Str):TE:=λσ H Q=>ta σ H λx H1=>∃a C dx fs v,x=.ref a/\H1 a=some (.ins C dx fs)/\lc K C/\cK K C f/\fs.lookup f=some v/\Q v H1
noncomputable def BU (K:yav) (ta tv:TE) (f:Str):TS:=λD σ H=>tv σ H λy H1=>ta σ H1 λx H2=>∃a C dx fs,x=.ref a/\H2 a=some (.ins C dx fs)/\lc K C/\cK K C f/\fs.length<1000/\
 D.nx σ (upd H2 a (.ins C dx (dS f y fs)))
section
variable {X:Cx} {o e value:Expr} {f:Str} {pos pos' tpos:Pos} {ta tv:TE}
theorem xo (he:PE X e ta) (hb:attributeBase e f X.env (eval e X.env)=eval e X.env):PE X (.Attribute e f pos) (BS X.K ta f):=by
 intro π s σ H Q I h;refine ue hb (bW (he π s σ H _ I h) λu s1 z9=>?_);obtain⟨x,H1,I1,rx,a,C,dx,fs,v,ex,ea,c,n,l,q⟩:=z9;subst ex;obtain rfl:u=Value.ref a:=rx;exact m8 I1 ea c n l λu' s2 I2 ru=>⟨v,H1,I2,ru,q⟩
theorem xp (ha:PE X o ta) (hv:PE X value tv) (hs:swapsWith value (some (.Attribute o f pos')) pos.line X.env=pure false):PS X (.Assign [.Attribute o f pos'] value pos) (BU X.K ta tv f):=by
 intro π s σ H D I h;refine plainObj_wpAny_Assign_Attribute (bW (hv π s σ H _ I h) λu s1 ⟨y,H1,I1,ry,q⟩=>bW (ha π s1 σ H1 _ I1 q) λov s2 z9=>?_) hs;obtain⟨x,H2,I2,rx,a,C,dx,fs,ex,ea,c,n,l,q2⟩:=z9;subst ex;obtain rfl:ov=Value.ref a:=rx;exact m9 I2 ea c n l ry λs3 I3=>⟨σ,_,I3,q2⟩
end
section
variable {X:Cx} {π:List (Addr×Obj)} {σ:St} {H:Hp} {s:Shared} {A:Around} {E:yey} {Q:yey} {c:Value} {b:Bool}
inductive gB (K:yav) (H:Hp):V->Value->Prop where
 | non:gB K H .non (.type "NoneType")
 | bl (x:Bool):gB K H (.bl x) (.type "bool")
 | int (i:Int):gB K H (.int i) (.type "int")
 | str (x:Str):gB K H (.str x) (.type "str")
 | flt (x:UInt64):gB K H (.flt x) (.type "float")
 | lst {a:Addr} {xs:List V} (e:H a=some (.lst xs)):gB K H (.ref a) (.type "list")
 | frz {a:Addr} {o:Obj} {xs:List V} (e:H a=some (.frz o (.lst xs))):gB K H (.ref a) (.type "list")
 | tup {a:Addr} {xs:List V} (e:H a=some (.tup xs)):gB K H (.ref a) (.type "tuple")
 | dK {a:Addr} {kvs:List (bG×V)} (e:H a=some (.dK kvs)):gB K H (.ref a) (.type "dict")
 | dT {a:Addr} {kvs:List (List bG×V)} (e:H a=some (.dT kvs)):gB K H (.ref a) (.type "dict")
 | ins {a C dx:Addr} {fs:List (Str×V)} (e:H a=some (.ins C dx fs)) (cl:lc K C) (ha:findIn K (.ref C) "__class__"=some (some (.builtin "object.__class__")))
    (hn:PySem.W.specialIn K (.builtin "object.__class__") "__get__"=some (some (.builtin "getset_descriptor.__get__"))) (htk:PySem.W.takesIn K (.builtin "object.__class__")=some true)
    (hm:PySem.W.mroIn K C (.type "object")=some true):gB K H (.ref a) (.ref C)
theorem pL {x:V} {u t:Value} (I:aC X π σ H s) (rx:bg x u) (ty:gB X.K H x t) (e:PySem.W.kitOne X.K t c=some b) (h:∀tk,Q (.bool b) { s with toks:=tk }):
 wpAny (model X.prog X.w) A (call (.builtin "isinstance") [u,c]) Q E s:=by
 cases ty with
 | non=>cases (show u=Value.none from rx);exact kia_one PySem.W.kitx_none I.kIn True.intro e (λz=>nomatch z) h
 | bl y=>cases (show u=Value.bool y from rx);exact kia_one PySem.W.kitx_bool I.kIn True.intro e (λz=>nomatch z) h
 | int i=>obtain⟨t,q⟩:=(show ∃t,u=Value.int i t from rx);cases q;exact kia_one PySem.W.kitx_int I.kIn True.intro e (λz=>nomatch z) h
 | str y=>obtain⟨t,q⟩:=(show ∃t,u=Value.str y t from rx);cases q;exact kia_one PySem.W.kitx_str I.kIn True.intro e (λz=>nomatch z) h
 | flt y=>obtain⟨t,q⟩:=(show ∃t,u=Value.float y t from rx);cases q;exact kia_one PySem.W.kitx_float I.kIn True.intro e (λz=>nomatch z) h
 | @lst a xs ea=>
   cases (show u=Value.ref a from rx);obtain⟨_,_,n,_,h1⟩:=(show ce X.prog X.w H s.heap a (.lst xs) from I.hok a _ ea);exact kia_one PySem.W.kitx_list I.kIn ⟨_,h1,rfl⟩ e (λz=>nomatch z) h
 | @frz a ob xs ea=>
   cases (show u=Value.ref a from rx);obtain⟨_,_,_,n,_,h1⟩:=(show ce X.prog X.w H s.heap a (.frz ob (.lst xs)) from I.hok a _ ea);exact kia_one PySem.W.kitx_list I.kIn ⟨_,h1,rfl⟩ e (λz=>nomatch z) h
 | @tup a xs ea=>
   cases (show u=Value.ref a from rx);obtain⟨_,_,_,p⟩:=(show ce X.prog X.w H s.heap a (.tup xs) from I.hok a _ ea);obtain⟨o,h1,h2,_⟩:=p;exact kia_one PySem.W.kitx_tuple I.kIn ⟨o,h1,h2⟩ e (λz=>nomatch z) h
 | @dK a kvs ea=>
   cases (show u=Value.ref a from rx);obtain⟨_,_,vs,_,p⟩:=(show ce X.prog X.w H s.heap a (.dK kvs) from I.hok a _ ea);obtain⟨o,es,ep,h1,h2,_⟩:=p;exact kia_one PySem.W.kitx_dict I.kIn ⟨o,h1,h2.1⟩ e (λz=>nomatch z) h
 | @dT a kvs ea=>
   cases (show u=Value.ref a from rx);obtain⟨_,_,xs,_,o,es,ep,h1,h2,_⟩:=(show ce X.prog X.w H s.heap a (.dT kvs) from I.hok a _ ea);exact kia_one PySem.W.kitx_dict I.kIn ⟨o,h1,h2.1⟩ e (λz=>nomatch z) h
 | @ins a C dx fs ea cl ha hn htk hm=>
   cases (show u=Value.ref a from rx);obtain⟨mA,O,_⟩:=ig I.hok ea;obtain⟨od,J,_⟩:=O.look;exact kia_one (PySem.W.kitx_own (cl.get _) cl.hd ha hn htk hm) I.kIn J e (λz=>nomatch z) h
end
structure av (k:Nat) (A:Around):Prop where
 hd:A.handled=none
 dp:A.depth+3*k+5<recursionLimit
 un:A.units+16*k+200<cLine
theorem av.mono {j k:Nat} (r:av k A) (h:j<=k):av j A:=⟨r.hd,by have:=r.dp;lia,by have:=r.un;lia⟩
theorem av.deeper (r:av (k+1) A) (env:Env):av k (A.deeper env):=
 ⟨r.hd,by have:=r.dp;show A.depth+1+3*k+5<_;lia,by have:=r.un;show A.units+3+16*k+200<_;lia⟩
theorem ng {C:Addr} {kw:List (Str×Value)}:(A.under (.builtin "type.__call__" ⟨.ref C::us,kw⟩)).depth=A.depth+1:=by
 first | rfl | simp[Around.under,Code.weight,Code.isCreation,Code.isGuard,Code.isCaller,Code.frames,Code.isFrame,guardIds]
theorem nh {C:Addr} {kw:List (Str×Value)}:(A.under (.builtin "type.__call__" ⟨.ref C::us,kw⟩)).units=A.units+1:=by
 first | rfl | simp[Around.under,Code.cUnits,Code.frames,Code.isFrame]
theorem av.make (r:av (k+1) A) (C:Addr) (us:yez) (kw:List (Str×Value)):av k (A.under (.builtin "type.__call__" ⟨.ref C::us,kw⟩)):=
 ⟨r.hd,by have:=r.dp;rw[ng];lia,by have:=r.un;rw[nh];lia⟩
theorem av.depth (r:av k A):A.depth<recursionLimit:=by have:=r.dp;lia
noncomputable def uf:TA:=λ_ H Q=>Q [] H
noncomputable def qM (ta:TE) (tr:TA):TA:=λσ H Q=>ta σ H λx H1=>tr σ H1 λxs H2=>Q (x::xs) H2
section
variable {X:Cx} {e:Expr} {es:List Expr} {te:TE} {t:TA} {pos:Pos}
theorem pa_nil:PA X [] uf:=λ_ _ _ _ H Q I h=>Calls.spliced_nil ⟨[],H,I,.nil,h⟩
theorem eh (ha:PE X e te) (hr:PA X es t) (hs:starEach (e::es) X.env=(false,eval e X.env)::starEach es X.env:=by rfl):PA X (e::es) (qM te t):=by
 intro pos π s σ H Q I h;rw[hs];show wpAny _ _ (spliced ((false,eval e X.env)::backTo pos (starEach es X.env))) _ _ s;refine Calls.spliced_cons (bW (ha π s σ H _ I h) λu s1 z9=>?_);obtain⟨x,H1,I1,r1,q1⟩:=z9;exact bW (hr pos π s1 σ H1 _ I1 q1) λus s2 ⟨xs,H2,I2,r2,q2⟩=>⟨x::xs,H2,I2,.cons r1 r2,q2⟩
noncomputable def BV (t:TA):TE:=λσ H Q=>t σ H λxs H1=>xs.length<=sizeLine/\∀p,H1 p=none->Q (.ref p) (upd H1 p (.tup xs))
noncomputable def BW (t:TA):TE:=λσ H Q=>t σ H λxs H1=>xs.length<=sizeLine/\∀p,H1 p=none->Q (.ref p) (upd H1 p (.lst xs))
theorem xq {x1} (h:PA X es t):PE X (.Tuple es x1 pos) (BV t):=by
 intro π s σ H Q I hq;refine wpAny_Tuple_spliced (bW (h pos π s σ H _ I hq) λus s1 ⟨xs,H1,I1,r,z,q⟩=>⟨by rw[←r.length];exact z,?_⟩);have hf:H1 s1.heap.objs.size=none:=I1.hok.fresh (ycx _);refine⟨.ref s1.heap.objs.size,upd H1 s1.heap.objs.size (.tup xs),I1.laid (t':=s1.toks) (λb u e=>ybz _ e) (ycx _) ?_,rfl,q _ hf⟩;exact⟨z,us,r,⟨_,ybw _ rfl,rfl,_,rfl⟩⟩
theorem xt (h:PA X es t):PE X (.List es pos) (BW t):=by
 intro π s σ H Q I hq;refine wpAny_List_spliced (bW (h pos π s σ H _ I hq) λus s1 ⟨xs,H1,I1,r,z,q⟩=>⟨by rw[←r.length];exact z,?_⟩);have hf:H1 s1.heap.objs.size=none:=I1.hok.fresh (ycx _);refine⟨.ref s1.heap.objs.size,upd H1 s1.heap.objs.size (.lst xs),I1.laid (t':=s1.toks) (λb u e=>ybz _ e) (ycx _) ?_,rfl,q _ hf⟩;exact⟨z,us,0,r,ybw _ rfl⟩
end
noncomputable abbrev Sp:=List V->Hp->VK->XK->Prop
noncomputable abbrev pM:=List Env->Hp->Shared->XK->Value->Shared->Prop
structure lu (P:Program) (w:World) (K:yav) (mg:yew) (base:Heap) (A:Around) (outer:List Env) (s:Shared) (H:Hp):Prop where
 frames:A.frames=some outer
 mod:Mod K mg base
 bs:∀b o,base.get? b=some o->s.heap.get? b=some o/\H b=none
 bsz:base.objs.size<=s.heap.objs.size
 funs:s.heap.FunFrames base outer
 frf:∀b∈fA outer,H b=none
 hok:fZ P w H s.heap
 bare:AllBare s.gens
noncomputable def CE (outer:List Env) (P:Program) (w:World) (H:Hp) (s:Shared) (Q:VK) (u:Value) (s':Shared):Prop:=
 ∃v H',s'.os=s.os/\AllBare s'.gens/\Un (fA outer) [] H H' s.heap s'.heap/\fZ P w H' s'.heap/\bg v u/\Q v H'
noncomputable def CR (CX:pM) (outer:List Env) (P:Program) (w:World) (H:Hp) (s:Shared) (Q:VK) (E:XK) (r:Result) (s':Shared):Prop:=
 match r with
 | .ok (.ret u)=>CE outer P w H s Q u s'
 | .ok _=>False
 | .error e=>CX outer H s E e s'
structure fP (P:Program) (w:World) (K:yav) (mg:yew) (base:Heap) (CX:pM) (k:Nat) (f:Addr) (fd:FuncData) (ps:List Str) (sp:Sp):Prop where
 len:∀vs H Q E,sp vs H Q E->vs.length=ps.length
 run:∀(A:Around) (outer:List Env) (s:Shared) (H:Hp) (args:Args) (us:yez) (vs:List V) (Q:VK) (E:XK),av k A->lu P w K mg base A outer s H->BindsTo s fd args (ps.zip us)->aS vs us->sp vs H Q E->
  codeAny (model P w) A (.call (.ref f) args) (CR CX outer P w H s Q E) s
theorem lu.make {outer:List Env} {H:Hp} (e:lu P w K mg base A outer s H) (C:Addr) (us:yez) (kw:List (Str×Value)):
 lu P w K mg base (A.under (.builtin "type.__call__" ⟨.ref C::us,kw⟩)) outer s H:=⟨by first | exact e.frames | (simpa[Around.under,Code.envs,Code.isFrame,pushEnvs] using e.frames),e.mod,e.bs,e.bsz,e.funs,e.frf,e.hok,e.bare⟩
section
variable {X:Cx} {π:List (Addr×Obj)} {σ:St} {H:Hp} {s s':Shared}
theorem aC.env0 (I:aC X π σ H s):lu X.prog X.w X.K X.mg X.base X.A X.stack s H:=
 ⟨I.ok.frames,I.ok.mod,I.bs,ycy I.ok.bsz I.sz,I.stack,I.stkFree,I.hok,I.bare⟩
theorem aC.after {Q:VK} (I:aC X π σ H s) (h:CE X.stack X.prog X.w H s Q u s'):EP X π σ Q u s':=by
 obtain⟨v,H',os,bare,un,hok,r,q⟩:=h;obtain⟨hh,g,d,t,os'⟩:=s';obtain rfl:os'=s.os:=os;exact⟨v,H',I.call (h':=hh) (g':=g) (d':=d) (t':=t) (ch:=[]) un hok bare (λb z=>absurd z (by simp)),r,q⟩
end
noncomputable def qO (sp:Sp) (dvs:List V) (E:XK) (t:TA):TE:=λσ H Q=>t σ H λvs H1=>sp (vs++dvs) H1 Q E
noncomputable def qP (C:Addr) (m:Str) (sp:Sp) (dvs:List V) (E:XK) (ta:TE) (t:TA):TE:=λσ H Q=>ta σ H λx H1=>∃a dx fs,x=.ref a/\H1 a=some (.ins C dx fs)/\fs.lookup m=none/\
 t σ H1 λvs H2=>sp (x::(vs++dvs)) H2 Q E
noncomputable def wd (C:Addr) (sp:Sp) (dvs:List V) (E:XK) (t:TA):TE:=λσ H Q=>t σ H λvs H1=>∀x dx,H1 x=none->H1 dx=none->dx≠x->
 sp (.ref x::(vs++dvs)) (upd (upd H1 dx (.own x)) x (.ins C dx [])) (λv H2=>v=.non/\Q (.ref x) H2) E
noncomputable def bJ (K:yav) (fd:FuncData) (ps:List Str) (ds:yez):Prop:=
 ∀(s:Shared) (us:yez),K.In s.heap->(us++ds).length=ps.length->BindsTo s fd ⟨us,[]⟩ (ps.zip (us++ds))
theorem bJ.all (h:∀us:List Value,us.length=ps.length->bindArgs fd ⟨us,[]⟩=pure (ps.zip us)):bJ K fd ps []:=λs us _ hl=>by
 rw[append_nil] at hl ⊢;exact .of_eq (h us hl)
noncomputable def ei (CX:pM) (X:Cx) (E:XK):Prop:=∀(π:List (Addr×Obj)) (σ:St) (H:Hp) (s:Shared) (e:Value) (s':Shared),aC X π σ H s->CX X.stack H s E e s'->X.xe e s'
section
variable {X:Cx} {CX:pM} {k:Nat} {f C:Addr} {fd:FuncData} {ps:List Str} {sp:Sp} {dvs:List V} {ds:yez} {E:XK} {x m:Str} {p pos apos:Pos} {e o:Expr} {es:List Expr} {ta:TE} {t:TA}
theorem j8 {σ:St} {H:Hp} {Q:VK} {vs:List V} (F:fP X.prog X.w X.K X.mg X.base CX k f fd ps sp) (hr:av k X.A) (hb:bJ X.K fd ps ds) (hd:aS dvs ds) (hx:ei CX X E)
 (I:aC X π σ H s) (r:aS vs us) (h:sp (vs++dvs) H Q E):wpAny (model X.prog X.w) X.A (call (.ref f) us) (EP X π σ Q) X.xe s:=by
 have r2:aS (vs++dvs) (us++ds):=r.append hd;have hl:(us++ds).length=ps.length:=by rw[←r2.length];exact F.len _ _ _ _ h
 refine wpAny_call (codeAny_mono (F.run X.A X.stack s H ⟨us,[]⟩ (us++ds) (vs++dvs) Q E hr I.env0 (hb s us I.kIn hl) r2 h) λr s' hq=>?_);cases r with
 | error e=>exact hx π σ H s e s' I hq
 | ok fl=>
   cases fl with
   | ret u=>exact I.after hq
   | next=>exact False.elim hq
   | brk=>exact False.elim hq
   | cont=>exact False.elim hq
theorem j9 (F:fP X.prog X.w X.K X.mg X.base CX k f fd ps sp) (hr:av k X.A) (hg:Gl X x) (hm:X.mg x=some (.ref f)) (hk:keepIn X.K (.ref f)=true) (hb:bJ X.K fd ps ds) (hd:aS dvs ds) (hx:ei CX X E)
 (ha:PA X (e::es) t) (hdb:(x==("__debug__":Str))=false:=by decide) (he:starEach (e::es) X.env=(false,eval e X.env)::starEach es X.env:=by rfl) (hpl:(backTo pos (starEach es X.env)).any (·.1)=false:=by rfl):
 PE X (.Call (.Name x p) (e::es) [] pos) (qO sp dvs E t):=by
 intro π s σ H Q I h;refine wpAny_Call_Name_kw (gd I hg hm ?_ hdb);refine PySem.W.callWith_K (h₀:=X.base) I.ok.mod.kin hk (bW (ha pos π s σ H _ I h) λus s1 ⟨vs,H1,I1,r,q⟩=>⟨I1.kIn,?_⟩) he hpl;exact j8 F hr hb hd hx I1 r q
theorem qQ (F:fP X.prog X.w X.K X.mg X.base CX k f fd ps sp) (hr:av k X.A) (hg:Gl X x) (hm:X.mg x=some (.ref f)) (hk:keepIn X.K (.ref f)=true) (hb:bJ X.K fd ps ds) (hd:aS dvs ds) (hx:ei CX X E)
 (hdb:(x==("__debug__":Str))=false:=by decide):PE X (.Call (.Name x p) [] [] pos) (qO sp dvs E uf):=by
 intro π s σ H Q I h;refine wpAny_Call_Name_kw (gd I hg hm ?_ hdb);exact PySem.W.callWith_K0 I.kIn hk (j8 (us:=[]) F hr hb hd hx I .nil h)
theorem oa {pl:Sem Bool} (he:PE X o ta) (c:lc X.K C) (hm:pK X.K C m f) (F:fP X.prog X.w X.K X.mg X.base CX k f fd ps sp) (hr:av k X.A) (hb:bJ X.K fd ps ds) (hd:aS dvs ds) (hx:ei CX X E) (ha:PA X (e::es) t)
 (hst:starEach (e::es) X.env=(false,eval e X.env)::starEach es X.env:=by rfl) (hpl:(backTo pos (starEach es X.env)).any (·.1)=false:=by rfl)
 (ht:eval (.Call (.Attribute o m apos) (e::es) [] pos) X.env=(do
   let ov ←eval o X.env
   standAt apos.atName
   let (f,first) ←holding [ov] (getMethod ov m pl)
   callWith pos f first (backTo pos (starEach (e::es) X.env)) (backToKw pos (keywordEach [] X.env))):=by rfl):
 PE X (.Call (.Attribute o m apos) (e::es) [] pos) (qP C m sp dvs E ta t):=by
 intro π s σ H Q I h;refine PySem.W.methodCall_KW (pl:=pl) (bW (he π s σ H _ I h) λu s1 z9=>?_) ht;obtain⟨x,H1,I1,rx,a,dx,fs,ex,ea,l,q⟩:=z9;subst ex;obtain rfl:u=Value.ref a:=rx;refine iB I1 ea c hm l ?_;refine PySem.W.callWith_K (first:=[.ref a]) (h₀:=X.base) I.ok.mod.kin hm.kp (bW (ha pos π s1 σ H1 _ I1 q) λus s2 ⟨vs,H2,I2,r,q2⟩=>⟨I2.kIn,?_⟩) hst hpl;exact j8 (us:= .ref a::us) (vs:= .ref a::vs) F hr hb hd hx I2 (.cons rfl r) q2
theorem qR {pl:Sem Bool} (he:PE X o ta) (c:lc X.K C) (hm:pK X.K C m f) (F:fP X.prog X.w X.K X.mg X.base CX k f fd ps sp) (hr:av k X.A) (hb:bJ X.K fd ps ds) (hd:aS dvs ds) (hx:ei CX X E)
 (ht:eval (.Call (.Attribute o m apos) [] [] pos) X.env=(do
   let ov ←eval o X.env
   standAt apos.atName
   let (f,first) ←holding [ov] (getMethod ov m pl)
   callWith pos f first (backTo pos (starEach [] X.env)) (backToKw pos (keywordEach [] X.env))):=by rfl):
 PE X (.Call (.Attribute o m apos) [] [] pos) (qP C m sp dvs E ta uf):=by
 intro π s σ H Q I h;refine PySem.W.methodCall_KW (pl:=pl) (bW (he π s σ H _ I h) λu s1 z9=>?_) ht;obtain⟨x,H1,I1,rx,a,dx,fs,ex,ea,l,q⟩:=z9;subst ex;obtain rfl:u=Value.ref a:=rx;refine iB I1 ea c hm l ?_;exact PySem.W.callWith_K0 (first:=[.ref a]) I1.kIn hm.kp (j8 (us:=[.ref a]) (vs:=[.ref a]) F hr hb hd hx I1 (.cons rfl .nil) q)
structure Mk (K:yav) (C f:Addr):Prop where
 makes:PySem.W.makesIn K C=true
 init:findIn K (.ref C) "__init__"=some (some (.ref f))
 fn:isFn K (.ref f)=true
 kp:keepIn K (.ref C)=true
theorem qS {σ:St} {H:Hp} {Q:VK} {vs:List V} (M:Mk X.K C f) (F:fP X.prog X.w X.K X.mg X.base CX k f fd ps sp) (hr:av (k+1) X.A) (hb:bJ X.K fd ps ds) (hd:aS dvs ds)
 (hx:ei CX X E) (I:aC X π σ H s) (r:aS vs us)
 (h:∀x dx,H x=none->H dx=none->dx≠x->sp (.ref x::(vs++dvs)) (upd (upd H dx (.own x)) x (.ins C dx [])) (λv H2=>v=.non/\Q (.ref x) H2) E):
 wpAny (model X.prog X.w) X.A (call (.ref C) us) (EP X π σ Q) X.xe s:=by
 have hq:=h (s.heap.objs.size+1) s.heap.objs.size (I.hok.fresh (Nat.le_succ _)) (I.hok.fresh (ycx _)) (ne_of_lt (Nat.lt_succ_self _));have I2:=aC.made (C:=C) I;have r2:aS (V.ref (s.heap.objs.size+1)::(vs++dvs)) (Value.ref (s.heap.objs.size+1)::(us++ds)):= .cons rfl (r.append hd);have hl:(Value.ref (s.heap.objs.size+1)::us++ds).length=ps.length:=by
  have e:=r2.length;rw[F.len _ _ _ _ hq] at e;exact e.symm
 refine wpAny_call (qL (f:=f) I.kIn M.makes M.init (beq_iff_eq.mp M.fn) (codeAny_mono (F.run _ X.stack _ _ ⟨Value.ref (s.heap.objs.size+1)::us,[]⟩ (Value.ref (s.heap.objs.size+1)::(us++ds)) _ _ E (hr.make C us [])
  (I2.env0.make C us []) (hb _ (Value.ref (s.heap.objs.size+1)::us) I2.kIn hl) r2 hq) λr s' hq'=>?_))
 cases r with
 | error e=>exact hx π σ _ _ e s' I2 hq'
 | ok fl=>
   cases fl with
   | ret u=>
     obtain⟨v,H',I3,rv,ev,q3⟩:=I2.after hq';subst ev;exact⟨rv,⟨V.ref (s.heap.objs.size+1),H',I3,rfl,q3⟩⟩
   | next=>exact False.elim hq'
   | brk=>exact False.elim hq'
   | cont=>exact False.elim hq'
theorem ug (M:Mk X.K C f) (F:fP X.prog X.w X.K X.mg X.base CX k f fd ps sp) (hr:av (k+1) X.A) (hg:Gl X x) (hm:X.mg x=some (.ref C)) (hb:bJ X.K fd ps ds) (hd:aS dvs ds) (hx:ei CX X E)
 (ha:PA X (e::es) t) (hdb:(x==("__debug__":Str))=false:=by decide) (he:starEach (e::es) X.env=(false,eval e X.env)::starEach es X.env:=by rfl) (hpl:(backTo pos (starEach es X.env)).any (·.1)=false:=by rfl):
 PE X (.Call (.Name x p) (e::es) [] pos) (wd C sp dvs E t):=by
 intro π s σ H Q I h;refine wpAny_Call_Name_kw (gd I hg hm ?_ hdb);refine PySem.W.callWith_K (h₀:=X.base) I.ok.mod.kin M.kp (bW (ha pos π s σ H _ I h) λus s1 ⟨vs,H1,I1,r,q⟩=>⟨I1.kIn,?_⟩) he hpl;exact qS M F hr hb hd hx I1 r q
end
section
variable {X:Cx} {CX:pM} {k:Nat} {f C:Addr} {fd:FuncData} {ps ks:List Str} {sp:Sp} {E:XK} {x m:Str} {p pos apos kpos:Pos} {e o:Expr} {es:List Expr} {kws:List Keyword} {te ta:TE} {t tk:TA} {nm:Option Str}
structure BX (K:yav) (fd:FuncData) (ps ks:List Str) (g:List Value->List Value->List Value) (gV:List V->List V->List V):Prop where
 to:∀(s:Shared) (us ws:yez),K.In s.heap->(g us ws).length=ps.length->BindsTo s fd ⟨us,ks.zip ws⟩ (ps.zip (g us ws))
 rel:∀{vs:List V} {us:yez} {zs:List V} {ws:yez},aS vs us->aS zs ws->aS (gV vs zs) (g us ws)
variable {g:List Value->List Value->List Value} {gV:List V->List V->List V}
end
structure bA (N P:List Str) (sc:Scope):Prop where
 kind:sc.kind=.function
 co:sc.isCoroutine=false
 gen:sc.isGenerator=false
 nd:N.Nodup
 pre:N.take P.length=P
 par:∀x∈P,sc.names.lookup x=some .local∨sc.names.lookup x=some .cell
 nofree:∀y∈sc.names,y.2≠ .free
theorem jn {kindOf:Str->Option NameKind} {x:Str}:∀{binds:List (Str×Value)} {m:yew},(∀v,(x,v)∉binds)->bindL kindOf binds m x=m x
 | [],_,_=>rfl
 | (n,v)::r,m,h=>by
   unfold bindL;rw[jn λw hw=>h w (ybx _ hw)];split
   ·have:x≠n:=by rintro rfl;exact h v yby
    simp[this]
   ·rfl
theorem jo {kindOf:Str->Option NameKind} {x:Str}:∀{binds:List (Str×Value)} {m:yew},(∀v,(x,v)∉binds)->bindC kindOf binds m x=m x
 | [],_,_=>rfl
 | (n,v)::r,m,h=>by
   unfold bindC;rw[jo λw hw=>h w (ybx _ hw)];split
   ·rfl
   ·have:x≠n:=by rintro rfl;exact h v yby
    simp[this]
theorem jp {kindOf:Str->Option NameKind} {x:Str} {v:Value}:∀{P:List Str} {vs:yez} {i:Nat} {m:yew},P.Nodup->P[i]?=some x->vs[i]?=some v->kindOf x=some .local->
 bindL kindOf (P.zip vs) m x=some v
 | [],_,_,_,_,h,_,_=>by simp at h
 | _::_,[],_,_,_,_,h,_=>by simp at h
 | p::P,w::vs,0,m,nd,h1,h2,hk=>by
   simp at h1 h2;subst h1;subst h2;show bindL kindOf ((p,w)::P.zip vs) m p=_;unfold bindL;rw[jn λv hv=>(nodup_cons.mp nd).1 (List.of_mem_zip hv).1,ycv hk];simp
 | p::P,w::vs,i+1,m,nd,h1,h2,hk=>by
   show bindL kindOf ((p,w)::P.zip vs) m x=_;unfold bindL;exact jp (i:=i) (nodup_cons.mp nd).2 (by simpa using h1) (by simpa using h2) hk
theorem jq {kindOf:Str->Option NameKind} {x:Str} {v:Value}:∀{P:List Str} {vs:yez} {i:Nat} {m:yew},P.Nodup->P[i]?=some x->vs[i]?=some v->kindOf x≠some .local->
 bindC kindOf (P.zip vs) m x=some v
 | [],_,_,_,_,h,_,_=>by simp at h
 | _::_,[],_,_,_,_,h,_=>by simp at h
 | p::P,w::vs,0,m,nd,h1,h2,hk=>by
   simp at h1 h2;subst h1;subst h2;show bindC kindOf ((p,w)::P.zip vs) m p=_;unfold bindC;rw[jo λv hv=>(nodup_cons.mp nd).1 (List.of_mem_zip hv).1,ycw hk];simp
 | p::P,w::vs,i+1,m,nd,h1,h2,hk=>by
   show bindC kindOf ((p,w)::P.zip vs) m x=_;unfold bindC;exact jq (i:=i) (nodup_cons.mp nd).2 (by simpa using h1) (by simpa using h2) hk
noncomputable def start (N:List Str) (vs:List V):St:=vs.map some++List.replicate (N.length-vs.length) none
noncomputable def cV (CX:pM) (P:Program) (w:World) (K:yav) (mg:yew) (base:Heap) (N:List Str) (qual:Str) (scope:Scope) (f:Addr) (cd:Value) (A:Around) (outer:List Env) (s:Shared) (H:Hp) (E:XK):Cx where
 prog:=P
 w:=w
 K:=K
 mg:=mg
 base:=base
 A:=A.deeper (envOfC qual scope s.heap.objs.size f cd)
 N:=N
 s₀:=s
 H₀:=H
 env:=envOfC qual scope s.heap.objs.size f cd
 outer:=outer
 stack:=envOfC qual scope s.heap.objs.size f cd::outer
 ex:=[]
 calm:=true
 fn:=λ_=>true
 pn:=[]
 xe:=λe s'=>wpAny (model P w) (A.deeper (envOfC qual scope s.heap.objs.size f cd)) (leaving (envOfC qual scope s.heap.objs.size f cd) e) (λ_ s''=>CX outer H s E e s'') (λe' s''=>CX outer H s E e' s'') s'
theorem lw {sc:Scope} {n:Nat} (h:sc.names.lookup x=some .cell):∃c,(cellsFrom n sc.names []).lookup x=some c:=by
 have q:=PySem.W.cellsFrom_some sc.names n [] (.inl h);exact Option.isSome_iff_exists.mp q
theorem pN {CX:pM} {N ps:List Str} {qual:Str} {f:Addr} {cd:Value} {outer:List Env} {s s1:Shared} {H:Hp} {E:XK} {vs:List V}
 (S:bA N ps scope) (hd:A.handled=none) (e0:lu P w K mg base A outer s H) (hl:vs.length=ps.length) (r:aS vs us)
 (x:InCallC s s.heap.objs.size (bindL (envOfC qual scope s.heap.objs.size f cd).kindOf (ps.zip us) λ_=>none) (cellsFrom (s.heap.objs.size+1) scope.names []) (bindC (envOfC qual scope s.heap.objs.size f cd).kindOf (ps.zip us) λ_=>none) s1):
 aC (cV CX P w K mg base N qual scope f cd A outer s H E) [] (start N vs) H s1:=by
 have hpl:ps.length<=N.length:=by have:=congrArg List.length S.pre;rw[length_take] at this;(clear hl;lia)
 obtain⟨h1,tk,rfl,hk⟩:=x.done;have noA:∀b:Addr,b∉(cV CX P w K mg base N qual scope f cd A outer s H E).ex:=λb z=>absurd (show b∈([]:List Addr) from z) (by simp);refine⟨⟨e0.mod,S.kind,rfl,rfl,ycx _,λy z c h1 h2=>?_,λy hy=>?_,λy c _ h=>?_,λ_=>hd,Around.frames_deeper e0.frames,.inr ⟨rfl,rfl⟩,λb z=>absurd z (noA b),e0.bs,e0.bsz,λb _ _=>noA b,λb z=>absurd z (noA b),e0.funs,e0.frf⟩,
  rfl,e0.bare,Un.kept hk,⟨_,x.toInCall.ns,λi y v h1 h2 h3=>?_⟩,λy c h=>⟨_,x.cell y c h⟩,e0.hok.fresh (ycx _),λy c h=>?_,λp hp=>absurd (show p∈([]:List (Addr×Obj)) from hp) (by simp),e0.hok.kept hk,?_⟩
 ·exact name_of_addr x.apart (PySem.mem_of_lookup h1) (PySem.mem_of_lookup h2)
 ·have hy:scope.names.lookup y=some .cell∨scope.names.lookup y=some .free:=hy;rcases hy with hy | hy
  ·exact lw hy
  ·exact absurd rfl (S.nofree _ (PySem.mem_of_lookup hy))
 ·exact Nat.le_of_lt (x.above y c (PySem.mem_of_lookup h))
 ·have hi:i<vs.length:=by
   unfold start at h2
   by_cases hi:i<vs.length
   ·exact hi
   ·rw[List.getElem?_append_right (by simpa using hi)] at h2;rw[List.getElem?_replicate] at h2;split at h2<;> cases h2
  have ha:vs[i]?=some v:=by
   unfold start at h2;rw[List.getElem?_append_left (by simpa using hi),List.getElem?_map] at h2;cases e:vs[i]? with
   | none=>rw[e] at h2;cases h2
   | some a=>rw[e] at h2;cases h2;rfl
  obtain⟨u,hu,rv⟩:=r.get ha;have hp:ps[i]?=some y:=by
   rw[←S.pre,List.getElem?_take_of_lt (by (clear hpl h1 h2 ha hu;lia))];exact h1
  have ndP:ps.Nodup:=by rw[←S.pre];exact S.nd.sublist (List.take_sublist _ _)
  refine⟨u,rv,?_⟩;rcases S.par y (List.mem_of_getElem? hp) with k | k
  ·exact .inl ⟨k,jp ndP hp hu k⟩
  ·obtain⟨c,e⟩:=lw (n:=s.heap.objs.size+1) k;refine .inr ⟨.inl k,c,e,?_⟩;have q:=x.cell y c e;rw[jq ndP hp hu (by show scope.names.lookup y≠_;rw[k];decide)] at q;exact q
 ·exact e0.hok.fresh (Nat.le_of_lt (x.above y c (PySem.mem_of_lookup h)))
 ·unfold start;show _=N.length;rw[length_append,length_map,List.length_replicate];lia
theorem qU {CX:pM} {f:Addr} {name qual:Str} {params:Arguments} {dV kV doc pm cdv ct oc:Value} {an od:Option Addr}
 {osl:Array (Option Value)} {N ps:List Str} {sp:Sp} (lk:K.lookup f=some ⟨oc,od,.func (fnOf name qual params body scope dV kV doc pm an cdv ct),osl⟩) (hcd:codeIn K cdv qual=true) (S:bA N ps scope)
 (len:∀vs H Q E,sp vs H Q E->vs.length=ps.length)
 (hbody:∀(A:Around) (outer:List Env) (s:Shared) (H:Hp) (vs:List V) (Q:VK) (E:XK),av k (A.deeper (envOfC qual scope s.heap.objs.size f cdv))->sp vs H Q E->
   ∃t,kZ (cV CX P w K mg base N qual scope f cdv A outer s H E) body t/\t { nx:=λ_ H'=>Q .non H',rt:=Q } (start N vs) H):
 fP P w K mg base CX (k+1) f (fnOf name qual params body scope dV kV doc pm an cdv ct) ps sp:=by
 refine⟨len,λA outer s H args us vs Q E hr e0 hb r hsp=>?_⟩;have hl:=len _ _ _ _ hsp;have KX:K.In s.heap:=e0.mod.kin.keeps λb o e=>(e0.bs b o e).1;have lim:s.heap.NoLimit:=e0.mod.nolimit.keeps λb o e=>(e0.bs b o e).1;have hkind:∀y∈ps.zip us,scope.names.lookup y.1=some .local∨(scope.names.lookup y.1=some .cell/\((cellsFrom (s.heap.objs.size+1) scope.names []).lookup y.1).isSome=true):=λ⟨n,v⟩ hy=>by
  rcases S.par n (List.of_mem_zip hy).1 with q | q
  ·exact .inl q
  ·exact .inr ⟨q,PySem.W.cellsFrom_some _ _ _ (.inl q)⟩
 refine codeAny_call_function hr.depth (KX _ _ lk) rfl S.co S.gen rfl (PySem.W.codeRec_of KX hcd) (hb _ _ _ _ ?_);refine wpAny_newFunctionEnv_cells S.kind hkind λenv he s1 x=>?_;subst he;refine⟨lim.keeps x.toInCall.keep,codeAny_func ?_⟩;obtain⟨t,ht,hq⟩:=hbody A outer s H vs Q E (hr.deeper _) hsp;have I:aC (cV CX P w K mg base N qual scope f cdv A outer s H E) [] (start N vs) H s1:=pN S hr.hd e0 hl r x;refine wpAny_mono (ht [] s1 (start N vs) H _ I hq) (λfl s' hs=>?_) λe s' hs=>hs;have fin:∀{σ':St} {H':Hp} {v:V} {u:Value},aC (cV CX P w K mg base N qual scope f cdv A outer s H E) [] σ' H' s'->bg v u->Q v H'->CE outer P w H s Q u s':=
  λ{σ' H' v u} J rv q=>⟨v,H',J.os,J.bare,J.base,J.hok,rv,q⟩
 cases fl with
 | ret u=>
   obtain⟨v,σ',H',J,rv,q⟩:=hs;exact fin J rv q
 | next=>
   obtain⟨σ',H',J,q⟩:=hs;exact fin (v:=V.non) (u:=Value.none) J rfl q
 | brk=>
   obtain⟨_,_,_,q⟩:=hs;exact False.elim q
 | cont=>
   obtain⟨_,_,_,q⟩:=hs;exact False.elim q
section
variable {X:Cx} {x:Str} {p pos:Pos} {e:Expr} {es:List Expr} {t:TA} {id T:String} {r:List V->Hp->VK->Prop}
noncomputable def BY (r:List V->Hp->VK->Prop) (t:TA):TE:=λσ H Q=>t σ H λvs H1=>r vs H1 Q
theorem lx (hc:gh X (.builtin id) r) (hg:Gl X x) (hm:X.mg x=none) (hv:bootBuiltins x=some (.builtin id)) (ha:PA X (e::es) t) (hn:x≠"__name__":=by decide) (hdb:(x==("__debug__":Str))=false:=by decide)
 (he:starEach (e::es) X.env=(false,eval e X.env)::starEach es X.env:=by rfl) (hpl:(backTo pos (starEach es X.env)).any (·.1)=false:=by rfl):PE X (.Call (.Name x p) (e::es) [] pos) (BY r t):=by
 intro π s σ H Q I h;refine wpAny_Call_Name_kw (iy I hg hm hv ?_ hn hdb);exact PyProof.Rows.callWith_builtin1 (bW (ha pos π s σ H _ I h) λus s1 ⟨vs,H1,I1,r1,q1⟩=>hc π s1 σ H1 vs us Q I1 r1 q1) he hpl
theorem pO (hc:gh X (.type T) r) (hg:Gl X x) (hm:X.mg x=none) (hv:bootBuiltins x=some (.type T)) (ha:PA X (e::es) t) (hn:x≠"__name__":=by decide) (hdb:(x==("__debug__":Str))=false:=by decide)
 (he:starEach (e::es) X.env=(false,eval e X.env)::starEach es X.env:=by rfl) (hpl:(backTo pos (starEach es X.env)).any (·.1)=false:=by rfl):PE X (.Call (.Name x p) (e::es) [] pos) (BY r t):=by
 intro π s σ H Q I h;refine wpAny_Call_Name_kw (iy I hg hm hv ?_ hn hdb);exact PyProof.Rows.callWith_type1 (bW (ha pos π s σ H _ I h) λus s1 ⟨vs,H1,I1,r1,q1⟩=>hc π s1 σ H1 vs us Q I1 r1 q1) he hpl
end
end L2
namespace HT
open PySem PyProof.Rows
theorem rcLt_int (A:Around) (s:Shared) (a:Int) (t:Tok) (c:Int) (u:Tok) (prog:Program) (w:World) (E:yey) (Q:yey) (h:Q (.bool (decide (a<c))) s):
 wpAny (model prog w) A (richCompare .Lt (.int a t) (.int c u)) Q E s:=
 (PyProof.Rows.lt_int h:wpAny (model prog w) A (compareOp .Lt (.int a t) (.int c u)) Q E s)
section
open PySem.SeqAt
open PySem.AutoSeq1 (wpAny_loadPart')
open PySem.MeetsSeq PySem.MeetsSeq2 PySem.MeetsSeq3
end
section
variable {prog:Program} {w:World} {A:Around} {E:yey} {s:Shared}
theorem cat_tup {t b:Addr} {vs ws:yez} (ht:IsTup s.heap t vs.toArray) (hb:IsTup s.heap b ws.toArray) (hv:vs≠[])
 (h1:ws=[]->Q (.ref t) s) (h2:ws≠[]->Q (.ref s.heap.objs.size) { s with heap:=s.heap.push { cls:= .type "tuple",data:= .seq (vs++ws).toArray } })
 (hsz:vs.length+ws.length<=sizeLine):wpAny (model prog w) A (binaryOp .Add (.ref t) (.ref b)) Q E s:=by
 obtain⟨⟨cls,dd,data,sl⟩,ho,hc,n,hd⟩:=id ht;obtain⟨⟨cls2,dd2,data2,sl2⟩,ho2,hc2,n2,hd2⟩:=id hb;simp only at hc hd hc2 hd2;subst hc hd hc2 hd2;have e:vs.toArray++ws.toArray=(vs++ws).toArray:=by simp
 by_cases hw:ws=[]
 ·exact concat_meets ⟨_,ho,rfl⟩ ⟨_,ho2,rfl⟩ noFill_tuple_add seq_tuple_add PySem.F.slot_tuple_add PySem.F.entry_tuple_add (PySem.F.args_tuple_add_2 _ _)
   (tuple_addW1 t b vs.toArray ws.toArray n n2 dd dd2 sl sl2 (by simpa using hv) (by simp[hw])) ⟨ho,ho2,h1 hw⟩
 ·refine concat_meets ⟨_,ho,rfl⟩ ⟨_,ho2,rfl⟩ noFill_tuple_add seq_tuple_add PySem.F.slot_tuple_add PySem.F.entry_tuple_add (PySem.F.args_tuple_add_2 _ _)
   (tuple_addW2 t b vs.toArray ws.toArray n n2 dd dd2 sl sl2 (by simpa using hv) (by simpa using hw) (by rw[size_toArray,size_toArray];exact hsz)) ⟨ho,ho2,?_⟩
  rw[e];exact h2 hw
noncomputable def sIx (n d:Nat):Option Int->Nat
 | none=>d
 | some v=>if v<0 then (v+(n:Int)).toNat else min v.toNat n
theorem sIx_none (n d:Nat):sIx n d none=d:=rfl
theorem sIx_nat (n d k:Nat):sIx n d (some (k:Int))=min k n:=by
 show(if (k:Int)<0 then ((k:Int)+(n:Int)).toNat else min (k:Int).toNat n)=min k n;rw[ycw (by lia),Int.toNat_natCast]
theorem xu (n d:Nat) (hd:d<=n) (o:Option Int):sIx n d o<=n:=by
 cases o with
 | none=>exact hd
 | some v=>
   show(if v<0 then (v+(n:Int)).toNat else min v.toNat n)<=n
   by_cases hv:v<0
   ·rw[ycv hv];lia
   ·rw[ycw hv];exact Nat.min_le_right _ _
theorem og (v:Int) (n d:Nat):(if v<0 then max (v+(n:Int)) 0 else min v (n:Int))=((sIx n d (some v):Nat):Int):=by
 show(if v<0 then max (v+(n:Int)) 0 else min v (n:Int))=(((if v<0 then (v+(n:Int)).toNat else min v.toNat n):Nat):Int)
 by_cases hv:v<0
 ·simp only[ycv hv];(clear hv;lia)
 ·simp only[ycw hv];lia
theorem ni (lo hi:Option Int) (n:Nat):Builtin.Slice.sliceAdjust lo hi 1 (n:Int)=(((sIx n 0 lo:Nat):Int),((sIx n n hi:Nat):Int)):=by
 have h1:¬((1:Int)<0):=by lia
 unfold Builtin.Slice.sliceAdjust;simp only[h1,if_false];refine Prod.ext ?_ ?_
 ·cases lo with
  | none=>rfl
  | some v=>exact og v n 0
 ·cases hi with
  | none=>rfl
  | some v=>exact og v n n
theorem nj (i j:Nat):Builtin.Slice.slicePlaces (i:Int) (j:Int) 1=j-i:=by
 unfold Builtin.Slice.slicePlaces;have h1:(1:Int) > 0:=by lia
 simp only[h1,if_true,Int.ediv_one];split<;> (clear h1;lia)
theorem iC {v:Value} {o:Option Int} {Q:Option Int->Shared->Prop} (p:IsPart v o) (h:Q o s):wpAny (model prog w) A (Builtin.Slice.slicePartIndex v) Q E s:=by
 cases p with
 | none=>exact slicePart_none h
 | int i t=>exact slicePart_int h
theorem sliceApplied_gen {sl:Addr} {vl vu:Value} {lo hi:Option Int} {n:Nat} {Q:Int×Int×Nat->Shared->Prop} (hs:s.heap.IsSliceOf sl vl vu .none) (pl:IsPart vl lo) (pu:IsPart vu hi)
 (h:Q (((sIx n 0 lo:Nat):Int),1,sIx n n hi-sIx n 0 lo) s):wpAny (model prog w) A (Builtin.Slice.sliceApplied (.ref sl) (pure (n:Int))) Q E s:=by
 obtain⟨os,hos,hcs,hds⟩:=id hs;unfold Builtin.Slice.sliceApplied Builtin.Slice.sliceFields;refine wax (wax (wpAny_field hos hds (x:=vl) rfl (wax (wpAny_field hos hds (x:=vu) rfl (wax (wpAny_field hos hds (x:= .none) rfl (wpAny_pure ?_)))))));refine wax (slicePart_none ?_);show wpAny _ _ (if ((1:Int)==0)=true then _ else _) _ _ s;rw[ycw (by decide)];refine wax (iC pl (wax (iC pu (wax (wpAny_pure ?_)))));show wpAny _ _ (match Builtin.Slice.sliceAdjust lo hi 1 (n:Int) with | (lo,hi)=>pure (lo,(1:Int),Builtin.Slice.slicePlaces lo hi 1)) _ _ s;rw[ni lo hi n];show wpAny _ _ (pure (((sIx n 0 lo:Nat):Int),(1:Int),Builtin.Slice.slicePlaces ((sIx n 0 lo:Nat):Int) ((sIx n n hi:Nat):Int) 1)) _ _ s;rw[nj];exact wpAny_pure h
theorem qV (xs:Array Value) (i k:Nat):((List.range k).filterMap λ(m:Nat)=>xs[((i:Int)+(m:Int)*1).toNat]?).toArray=((xs.toList.drop i).take k).toArray:=by
 have e:(λ(m:Nat)=>xs[((i:Int)+(m:Int)*1).toNat]?)=λm=>xs[i+m]?:=by
  funext m
  have:((i:Int)+(m:Int)*1).toNat=i+m:=by lia
  rw[this]
 rw[e];have:=pick_run xs i k;rw[List.filterMap_map] at this;have e2:((λx=>xs[x]?) ∘ λx=>i+x)=λm=>xs[i+m]?:=rfl;rw[e2] at this;rw[this]
theorem getItem_tuple_cut {t sl:Addr} {vl vu:Value} {lo hi:Option Int} (ht:IsTup s.heap t items) (hs:s.heap.IsSliceOf sl vl vu .none) (pl:IsPart vl lo) (pu:IsPart vu hi)
 (hw:¬(sIx items.size 0 lo=0/\sIx items.size items.size hi=items.size))
 (h:Q (.ref s.heap.objs.size) { s with heap:=s.heap.push { cls:= .type "tuple",data:= .seq ((items.toList.drop (sIx items.size 0 lo)).take (sIx items.size items.size hi-sIx items.size 0 lo)).toArray } })
 (hsz:items.size<=sizeLine):wpAny (model prog w) A (getItem (.ref t) (.ref sl)) Q E s:=by
 have htake:sizeOk (.seq ((items.toList.drop (sIx items.size 0 lo)).take (sIx items.size items.size hi-sIx items.size 0 lo)).toArray):=by
  show((items.toList.drop (sIx items.size 0 lo)).take (sIx items.size items.size hi-sIx items.size 0 lo)).toArray.size<=sizeLine;rw[size_toArray,length_take,length_drop,Array.length_toList]
  (clear hw;lia)
 have hj:sIx items.size items.size hi<=items.size:=xu _ _ (ycx _) hi;obtain⟨os,hos,hcs,hds⟩:=id hs;have hTs:s.TypeIs (.ref sl) "slice":=⟨os,hos,hcs⟩;unfold getItem
 try with_reducible refine wpAny_holding ?_
 first | refine wax (wpAny_pure ?_) | skip
 refine wax (wpAny_sequenceKey ht.typeIs (by decide) ?_);refine wax (wpAny_callSpecial?_slot (name:=Str.ofString "__getitem__") ht.typeIs PyProof.Rows.slot_tuple_getitem
  (wpAny_call_entry PyProof.Rows.slot_tuple_getitem ht.typeIs entry_tuple_getitem ?_ (args_tuple_getitem _ _)))
 show wpAny _ _ (Builtin.Tuple.tupleItemsOf (.ref t) >>= _) _ _ s;refine wax (tupleItemsOf_ ht ?_);refine wax (wpAny_typeOf hTs ?_);rw[ycv (by decide)];refine wax (sliceApplied_gen hs pl pu ?_);have hno:¬((((sIx items.size 0 lo:Nat):Int)==0&&(1:Int)==1&&(sIx items.size items.size hi-sIx items.size 0 lo)==items.size)=true):=by
  intro q;rw[Bool.and_eq_true,Bool.and_eq_true] at q;have q1:((sIx items.size 0 lo:Nat):Int)=0:=eq_of_beq q.1.1;have q2:sIx items.size items.size hi-sIx items.size 0 lo=items.size:=eq_of_beq q.2;exact hw ⟨by (clear hw hsz hj q2;lia),by (clear hw hsz;lia)⟩
 show wpAny _ _ (if (((sIx items.size 0 lo:Nat):Int)==0&&(1:Int)==1&&(sIx items.size items.size hi-sIx items.size 0 lo)==items.size)=true then _ else _) _ _ s;rw[ycw hno,qV]
 first
  | exact wax (m:=Builtin.Tuple.tupleExact _) (wpAny_newObj_type (wpAny_pure ⟨_,rfl,wpAny_pure h⟩) htake)
  | exact wax (m:=Builtin.Tuple.tupleExact _) (wpAny_newObj_type (wax (wpAny_pure (wpAny_pure ⟨_,rfl,wpAny_pure h⟩))) htake)
  | exact wax (wax (m:=Builtin.Tuple.tupleExact _) (wpAny_newObj_type (wpAny_pure (wpAny_pure ⟨_,rfl,wpAny_pure h⟩)) htake))
  | exact wax (wax (m:=Builtin.Tuple.tupleExact _) (wpAny_newObj_type (wpAny_pure ⟨_,rfl,wpAny_pure h⟩) htake))
end
end HT
namespace L2
open PySem PySem.Spec PyProof.Rows
noncomputable abbrev TO:=St->Hp->(Option Int->Hp->Prop)->Prop
noncomputable def PO (X:Cx) (e:Option Expr) (t:TO):Prop:=
 ∀(π:List (Addr×Obj)) (s:Shared) (σ:St) (H:Hp) (Q:Option Int->Hp->Prop),aC X π σ H s->t σ H Q->
  wpAny (model X.prog X.w) X.A (evalPart e X.env) (λu s'=>∃o H',aC X π σ H' s'/\IsPart u o/\Q o H') X.xe s
noncomputable def uh:TO:=λ_ H Q=>Q none H
noncomputable def y9 (t:TE):TO:=λσ H Q=>t σ H λx H1=>∃i,x=.int i/\Q (some i) H1
theorem intsAre_of {ns:List Int}:∀{us:yez},aS (ns.map V.int) us->IntsAre us ns:=by
 induction ns with
 | nil=>intro us r;rw[map_nil] at r;cases r;exact .nil
 | cons n ns ih=>
   intro us r;rw[map_cons] at r;cases r with
   | cons r1 r2=>
     obtain⟨t,e⟩:=r1;subst e;exact .cons n t (ih r2)
section
variable {X:Cx} {e:Expr} {te:TE} {lo hi:Option Expr} {tl th:TO} {pos p2:Pos}
theorem po_none:PO X none uh:=by
 intro π s σ H Q I h;rw[evalPart_none];exact wpAny_pure ⟨none,H,I,.none,h⟩
theorem ui (h:PE X e te):PO X (some e) (y9 te):=by
 intro π s σ H Q I hw;rw[evalPart_some];refine bW (h π s σ H _ I hw) λu s1 z9=>?_;obtain⟨x,H1,I1,r1,q1⟩:=z9;obtain⟨i,rfl,q⟩:=q1;obtain⟨t,rfl⟩:=r1;exact⟨some i,H1,I1,.int i t,q⟩
noncomputable def zc (X:Cx) (r:V->Option Int->Option Int->Hp->VK->Prop):Prop:=
 ∀(π:List (Addr×Obj)) (s:Shared) (σ:St) (H:Hp) (x:V) (v vl vu:Value) (lo hi:Option Int) (sl:Addr) (Q:VK),aC X π σ H s->bg x v->s.heap.IsSliceOf sl vl vu .none->IsPart vl lo->IsPart vu hi->r x lo hi H Q->
  ∃T id,typeLookup (.type T) "__getitem__"=pure (some (.builtin id))/\s.TypeIs v T/\wpAny (model X.prog X.w) X.A (getItem v (.ref sl)) (EP X π σ Q) X.xe s
noncomputable def DG (r:V->Option Int->Option Int->Hp->VK->Prop) (te:TE) (tl th:TO):TE:=λσ H Q=>te σ H λx H1=>tl σ H1 λl H2=>th σ H2 λu H3=>r x l u H3 Q
theorem qW {r:V->Option Int->Option Int->Hp->VK->Prop} (hr:zc X r) (he:PE X e te) (hl:PO X lo tl) (hu:PO X hi th):PE X (.Subscript e (.Slice lo hi none p2) pos) (DG r te tl th):=by
 intro π s σ H Q I h;refine Subscript_ (bW (he π s σ H _ I h) λv s1 z9=>?_);obtain⟨x,H1,I1,r1,q1⟩:=z9;refine wpAny_Slice (bW (hl π s1 σ H1 _ I1 q1) λvl s2 ⟨l,H2,I2,pl,q2⟩=>bW (hu π s2 σ H2 _ I2 q2) λvu s3 z9=>?_);obtain⟨u,H3,I3,pu,q3⟩:=z9;rw[evalPart_none];refine wpAny_pure ?_;have I4:aC X π σ H3 { s3 with heap:=s3.heap.push { cls:= .type "slice",data:= .fields #[vl,vu,.none] } }:=I3.kept (t':=s3.toks) λb ob q=>ybz _ q;obtain⟨T,id,hT,ht,hg⟩:=hr π { s3 with heap:=s3.heap.push { cls:= .type "slice",data:= .fields #[vl,vu,.none] } } σ H3 x v vl vu l u s3.heap.objs.size Q I4 r1 (Heap.IsSliceOf.new ..) pl pu q3;show wpAny (model X.prog X.w) X.A (subscriptTail e (.Slice lo hi none p2) v (.ref s3.heap.objs.size)) (EP X π σ Q) X.xe { s3 with heap:=s3.heap.push { cls:= .type "slice",data:= .fields #[vl,vu,.none] } };exact tail_any (ops:=[.ref s3.heap.objs.size,v]) ht hT hg (by with_unfolding_all rfl)
noncomputable def lz (xs:List V) (lo hi:Option Int):List V:=(xs.drop (HT.sIx xs.length 0 lo)).take (HT.sIx xs.length xs.length hi-HT.sIx xs.length 0 lo)
theorem gX (xs:List V) (lo hi:Option Int):(lz xs lo hi).length<=xs.length:=by
 unfold lz;rw[length_take,length_drop];lia
noncomputable def BZ (K:yav):V->Option Int->Option Int->Hp->VK->Prop:=λx lo hi H Q=>∃a xs,x=.ref a/\dq K H a xs/\
 ¬(HT.sIx xs.length 0 lo=0/\HT.sIx xs.length xs.length hi=xs.length)/\∀p,H p=none->Q (.ref p) (upd H p (.tup (lz xs lo hi)))
theorem xv:zc X (BZ X.K):=by
 intro π s σ H x v vl vu lo hi sl Q I rx hs pl pu h;obtain⟨a,xs,rfl,hx,hw,q⟩:=h;cases rx;obtain⟨its,r,ht,hz⟩:=I.tuple hx;have hlen:its.toArray.size=xs.length:=by rw[size_toArray];exact r.length.symm
 refine⟨"tuple",_,PyProof.Rows.slot_tuple_getitem.lookup,ht.typeIs,?_⟩;refine HT.getItem_tuple_cut ht hs pl pu (by rw[hlen];exact hw) ?_ (by rw[hlen];exact hz);rw[hlen];refine⟨.ref s.heap.objs.size,_,I.laid (t':=s.toks) (o:= .tup (lz xs lo hi)) (λb ob q=>ybz _ q) (ycx _) ?_,rfl,q _ (I.hok.fresh (ycx _))⟩;exact⟨ycy (gX xs lo hi) hz,_,(r.drop (HT.sIx xs.length 0 lo)).take (HT.sIx xs.length xs.length hi-HT.sIx xs.length 0 lo),IsTup.new _ _⟩
noncomputable def zd (K:yav):R2:=λx y H Q=>∃a b xs ys,x=.ref a/\y=.ref b/\dq K H a xs/\dq K H b ys/\xs≠[]/\xs.length+ys.length<=sizeLine/\
 (ys=[]->Q (.ref a) H)/\(ys≠[]->∀p,H p=none->Q (.ref p) (upd H p (.tup (xs++ys))))
theorem aS.nil_iff {xs:List V} (r:aS xs us):us=[]↔xs=[]:=by
 cases r with
 | nil=>simp
 | cons _ _=>simp
theorem uj:gf X (binaryOp .Add) (zd X.K):=by
 intro π s σ H x y v u Q I rx ry h;obtain⟨a,b,xs,ys,rfl,rfl,ha,hb,hx,hz,q1,q2⟩:=h;cases rx;cases ry;obtain⟨its,r1,p1,_⟩:=I.tuple ha;obtain⟨its2,r2,p2,_⟩:=I.tuple hb;refine HT.cat_tup p1 p2 (λz=>hx (r1.nil_iff.mp z)) (λz=>⟨.ref a,H,I,rfl,q1 (r2.nil_iff.mp z)⟩) (λz=>?_) (by rw[←r1.length,←r2.length];exact hz);refine⟨.ref s.heap.objs.size,_,I.laid (t':=s.toks) (o:= .tup (xs++ys)) (λb ob q=>ybz _ q) (ycx _) ?_,rfl,q2 (λw=>z (r2.nil_iff.mpr w)) _ (I.hok.fresh (ycx _))⟩;exact⟨by rw[length_append];exact hz,_,r1.append r2,IsTup.new _ _⟩
end
noncomputable def qX (n:Nat) (i:Int):Option Nat:=if 0<=i then (if i<n then some i.toNat else none) else if -(n:Int)<=i then some (i+n).toNat else none
noncomputable def eg {α:Type} (xs:List α) (i:Int):Option α:=(qX xs.length i).bind λj=>xs[j]?
theorem uk {n:Nat} {i:Int} {j:Nat} (h:qX n i=some j):seqIndex? i n=some j/\j<n/\-(n:Int)<=i/\i<n:=by
 unfold qX at h
 by_cases h0:0<=i
 ·rw[ycv h0] at h
  by_cases h1:i<n
  ·rw[ycv h1] at h;have e:i.toNat=j:=Option.some.inj h;exact⟨by rw[seqIndex_of h0 h1,e],by lia,by (clear h1 e;lia),h1⟩
  ·rw[ycw h1] at h;cases h
 ·rw[ycw h0] at h
  by_cases h1: -(n:Int)<=i
  ·rw[ycv h1] at h;have e:(i+n).toNat=j:=Option.some.inj h;exact⟨by rw[seqIndex_neg (by (clear h1 e;lia)) h1,e],by lia,h1,by (clear e;lia)⟩
  ·rw[ycw h1] at h;cases h
theorem kd {α:Type} {xs:List α} {i:Int} {v:α} (h:eg xs i=some v):∃j,seqIndex? i xs.length=some j/\xs[j]?=some v/\j<xs.length/\-(xs.length:Int)<=i/\i<xs.length:=by
 unfold eg at h;cases e:qX xs.length i with
 | none=>rw[e] at h;cases h
 | some j=>
   rw[e] at h;obtain⟨h1,h2,h3,h4⟩:=uk e;exact⟨j,h1,h,h2,h3,h4⟩
theorem cL {α:Type} {xs:List α} {j:Nat} {v:α} (h:xs[j]?=some v):eg xs (j:Int)=some v:=by
 have hj:j<xs.length:=(List.getElem?_eq_some_iff.mp h).1;have e:qX xs.length (j:Int)=some j:=by
  unfold qX;rw[ycv (by (clear h hj;lia)),ycv (by (clear h;lia))];simp
 unfold eg;rw[e];exact h
noncomputable def oh (b:Expr):Prop:=∀o i,subscripted b false o i=operate [o,i] (getItem o i)
noncomputable def ze (X:Cx) (r:R2):Prop:=
 ∀(value slice:Expr) (π:List (Addr×Obj)) (s:Shared) (σ:St) (H:Hp) (x y:V) (v u:Value) (Q:VK),aC X π σ H s->bg x v->bg y u->r x y H Q->
  subscripted slice false v u=operate [v,u] (getItem v u)->wpAny (model X.prog X.w) X.A (subscriptTail value slice v u) (EP X π σ Q) X.xe s
noncomputable def B0 (X:Cx) (id:String) (r:V->List V->Hp->VK->Prop):Prop:=
 ∀(π:List (Addr×Obj)) (s:Shared) (σ:St) (H:Hp) (x:V) (xs:List V) (v:Value) (us:yez) (Q:VK),aC X π σ H s->bg x v->aS xs us->r x xs H Q->
  wpAny (model X.prog X.w) X.A (call (.builtin id) (v::us)) (EP X π σ Q) X.xe s
section
variable {X:Cx} {a b:Expr} {ta tb:TE} {pos:Pos}
theorem zg {r:R2} (hr:ze X r) (ha:PE X a ta) (hb:PE X b tb) (hs:oh b):PE X (.Subscript a b pos) (yX r ta tb):=by
 intro π s σ H Q I h;exact Subscript_ (xg ha hb I h λv u s2 x y H2 I2 rx ry q=>hr a b π s2 σ H2 x y v u Q I2 rx ry q (hs _ _))
noncomputable def B1 (K:yav):R2:=λx y H Q=>∃p xs i v,x=.ref p/\y=.int i/\dy K H p xs/\eg xs i=some v/\Q v H
noncomputable def B2 (K:yav):R2:=λx y H Q=>∃p xs i v,x=.ref p/\y=.int i/\dq K H p xs/\eg xs i=some v/\Q v H
noncomputable def B3:R2:=λx y H Q=>∃z i c,x=.str z/\y=.int i/\z.length<=sizeLine/\eg z.cps.toList i=some c/\Q (.str ⟨#[c]⟩) H
theorem oo:ze X (B1 X.K):=by
 intro value slice π s σ H x y v u Q I rx ry h hs;obtain⟨p,xs,i,z,rfl,rfl,hq,he,q⟩:=h;cases rx;obtain⟨t,rfl⟩:=ry;obtain⟨its,r,pl,hz⟩:=I.list hq;obtain⟨j,h1,h2,h3,h4,h5⟩:=kd he;obtain⟨w,ew,rw'⟩:=r.get h2;have hl:=r.length;have hn:=iA;have fin:EP X π σ Q w s:=⟨z,H,I,rw',q⟩
 by_cases h0:0<=i
 ·have hj:i.toNat=j:=by
   rw[seqIndex_of h0 h5] at h1;exact Option.some.inj h1
  exact item_listR pl.isList h0 (by (clear h2 h3 h4 ew h0 hj;lia)) (by rw[hj];simpa using ew) fin hs
 ·have hj:(i+(its.toArray.size:Int)).toNat=j:=by
   rw[seqIndex_neg (by (clear hz h2 h3 h4 h5 ew hl hn;lia)) h4] at h1;rw[size_toArray,←hl];exact Option.some.inj h1
  exact subscriptTail_builtinR (x:=w) pl.isList.typeIs slot_list_getitem.lookup
   (wpAny_getItem_list_neg (Q:=λr s'=>r=w/\EP X π σ Q r s') pl.isList (by (clear hz h2 h3 h4 h5 ew hl hn hj;lia)) (by rw[size_toArray]<;> (clear hz h2 h3 h5 ew hn h0 hj;lia)) (by (clear h2 h3 h5 ew h0 hj;lia)) (by rw[hj];simpa using ew) ⟨rfl,fin⟩) hs
theorem xw:ze X (B2 X.K):=by
 intro value slice π s σ H x y v u Q I rx ry h hs;obtain⟨p,xs,i,z,rfl,rfl,hq,he,q⟩:=h;cases rx;obtain⟨t,rfl⟩:=ry;obtain⟨its,r,pl,hz⟩:=I.tuple hq;obtain⟨j,h1,h2,h3,h4,h5⟩:=kd he;obtain⟨w,ew,rw'⟩:=r.get h2;have hl:=r.length;have hn:=iA;have fin:EP X π σ Q w s:=⟨z,H,I,rw',q⟩;exact subscriptTail_builtinR (x:=w) pl.typeIs slot_tuple_getitem.lookup
  (getItem_tuple (j:=j) (Q:=λr s'=>r=w/\EP X π σ Q r s') pl (by (clear h2 h5 ew;lia)) (by (clear h2 h4 ew;lia)) (by rw[size_toArray,←hl];exact h1) (by simpa using ew) ⟨rfl,fin⟩) hs
theorem xx:ze X B3:=by
 intro value slice π s σ H x y v u Q I rx ry h hs;obtain⟨z,i,c,rfl,rfl,hz,he,q⟩:=h;obtain⟨t,rfl⟩:=rx;obtain⟨t',rfl⟩:=ry;obtain⟨j,h1,h2,h3,h4,h5⟩:=kd he;have hl:z.cps.toList.length=z.length:=by simp[Str.length]
 rw[hl] at h1 h4 h5;have hn:=iA;exact tail_any (typeIs_str s z t) slot_str_getitem.lookup (getItem_str (c:=c) (by
  have e1:decide (i< -(2^63:Int))=false:=ydy (by (clear h2 h3 h5;lia));have e2:decide (i≥2^63)=false:=ydy (by (clear h2 h3 h4 e1;lia));rw[e1,e2,Bool.or_false]) (by rw[h1];simpa using h2) ⟨.str ⟨#[c]⟩,H,I.tok _,⟨_,rfl⟩,q⟩) hs
theorem ke (lo hi:Option Int) (n:Nat):(sliceBounds lo hi none n).1=((HT.sIx n 0 lo:Nat):Int)/\(sliceBounds lo hi none n).2.1=((HT.sIx n n hi:Nat):Int)/\(sliceBounds lo hi none n).2.2=1:=by
 refine⟨?_,?_,rfl⟩
 ·cases lo with
  | none=>simp[sliceBounds,HT.sIx]
  | some i=>
    simp only[sliceBounds,HT.sIx,Option.getD_none,show(1:Int) > 0 by decide,if_true]
    by_cases h:i<0
    ·simp only[h,if_true]<;> lia
    ·simp only[h,if_false]<;> lia
 ·cases hi with
  | none=>simp[sliceBounds,HT.sIx]
  | some i=>
    simp only[sliceBounds,HT.sIx,Option.getD_none,show(1:Int) > 0 by decide,if_true]
    by_cases h:i<0
    ·simp only[h,if_true]<;> lia
    ·simp only[h,if_false]<;> lia
theorem jf (its:yez) (lo hi:Option Int):slicePick its.toArray lo hi none=((its.drop (HT.sIx its.length 0 lo)).take (HT.sIx its.length its.length hi-HT.sIx its.length 0 lo)).toArray:=by
 obtain⟨h1,h2,h3⟩:=ke lo hi its.toArray.size;unfold slicePick;rw[h1,h2,h3];simp only[sliceRange_one,pick_run,size_toArray]<;> rfl
noncomputable def B4 (K:yav):V->Option Int->Option Int->Hp->VK->Prop:=λx lo hi H Q=>∃a xs,x=.ref a/\dy K H a xs/\∀p,H p=none->Q (.ref p) (upd H p (.lst (lz xs lo hi)))
theorem oq:zc X (B4 X.K):=by
 intro π s σ H x v vl vu lo hi sl Q I rx hs pl pu h;obtain⟨a,xs,rfl,hx,q⟩:=h;cases rx;obtain⟨its,r,ht,hz⟩:=I.list hx;have hlen:=r.length;refine⟨"list",_,slot_list_getitem.lookup,ht.isList.typeIs,?_⟩;refine wpAny_getItem_list_slice ht.isList hs pl pu .none (by simp) ?_ (by rw[size_toArray]<;> lia);rw[jf,←hlen];refine⟨.ref s.heap.objs.size,_,I.laid (t':=s.toks) (o:= .lst (lz xs lo hi)) (λb ob q=>ybz _ q) (ycx _) ?_,rfl,q _ (I.hok.fresh (ycx _))⟩;exact⟨ycy (gX xs lo hi) hz,_,0,(r.drop (HT.sIx xs.length 0 lo)).take (HT.sIx xs.length xs.length hi-HT.sIx xs.length 0 lo),ybw _ rfl⟩
theorem en:gh X (.builtin "len") (λxs H Q=>∃p ys,xs=[.ref p]/\(dy X.K H p ys∨dq X.K H p ys)/\Q (.int ys.length) H):=by
 intro π s σ H xs us Q I r h;obtain⟨p,ys,rfl,hq,q⟩:=h;obtain⟨u,rfl,rx⟩:=eQ r;cases rx;have hn:=iA;rcases hq with hq | hq
 ·obtain⟨its,r',pl,hz⟩:=I.list hq;have hlen:=r'.length;exact Calls.call_len_list pl.isList (by simp only[size_toArray]<;> lia) ⟨.int ys.length,H,I.tok _,⟨s.toks+1,by rw[size_toArray,hlen]⟩,q⟩
 ·obtain⟨its,r',pl,hz⟩:=I.tuple hq;have hlen:=r'.length;exact len_tuple pl (by simp only[size_toArray]<;> lia) ⟨.int ys.length,H,I.tok _,⟨s.toks+1,by rw[size_toArray,hlen]⟩,q⟩
theorem kf:gh X (.builtin "len") (λxs H Q=>∃z,xs=[.str z]/\z.length<=sizeLine/\Q (.int z.length) H):=by
 intro π s σ H xs us Q I r h;obtain⟨z,rfl,hz,q⟩:=h;obtain⟨u,rfl,t,rfl⟩:=eQ r;have hn:=iA;exact len_str (by lia) ⟨.int z.length,H,I.tok _,⟨_,rfl⟩,q⟩
theorem fG:gh X (.type "tuple") (λxs H Q=>∃p ys,xs=[.ref p]/\((dy X.K H p ys/\∀l,H l=none->Q (.ref l) (upd H l (.tup ys)))∨(dq X.K H p ys/\Q (.ref p) H))):=by
 intro π s σ H xs us Q I r h;obtain⟨p,ys,rfl,h⟩:=h;obtain⟨u,rfl,rx⟩:=eQ r;cases rx;rcases h with⟨hq,q⟩ | ⟨hq,q⟩
 ·obtain⟨its,r',pl,hz⟩:=I.list hq;have hlen:=r'.length;refine call_tuple_list pl.isList (λh' kp=>?_) (by simp only[size_toArray]<;> lia);have I1:aC X π σ H { s with heap:=h' }:=I.kept (t':=s.toks) kp;have I2:aC X π σ (upd H h'.objs.size (.tup ys)) { s with heap:=h'.push { cls:= .type "tuple",data:= .seq its.toArray } }:=
   I1.laid (t':=s.toks) (λb o e=>ybz _ e) (ycx _) (show ce X.prog X.w _ _ _ (.tup ys) from ⟨hz,its,r',IsTup.new _ _⟩)
  exact⟨.ref h'.objs.size,_,I2,rfl,q _ (I1.hok.fresh (ycx _))⟩
 ·obtain⟨its,r',pl,hz⟩:=I.tuple hq;exact call_tuple_same pl ⟨.ref p,H,I,rfl,q⟩
noncomputable def B5 (K:yav) (T:String) (x:V) (H:Hp):Prop:=match x with
 | .str _=>T="str"
 | .int _=>T="int"
 | .ref p=>(T="list"/\∃xs,dy K H p xs)∨(T="tuple"/\∃o,K.lookup p=some o/\o.cls=.type "tuple"/\o.dict=none)∨
    (T="dict"/\((∃kvs,H p=some (.dK kvs))∨∃kvs,H p=some (.dT kvs)))∨(T="set"/\∃S n,H p=some (.set S n))
 | _=>False
theorem qY {σ:St} {H:Hp} {T:String} {x:V} {v:Value} (I:aC X π σ H s) (r:bg x v) (ty:B5 X.K T x H):
 s.TypeIs v T/\∀a,v=.ref a->∃ob,s.heap.get? a=some ob/\ob.dict=none:=by
 cases x with
 | str z=>
   obtain⟨t,rfl⟩:=r;cases (show T="str" from ty);exact⟨typeIs_str s z t,λ_ e=>nomatch e⟩
 | int i=>
   obtain⟨t,rfl⟩:=r;cases (show T="int" from ty);exact⟨typeIs_int s i t,λ_ e=>nomatch e⟩
 | ref p=>
   cases r;rcases ty with⟨rfl,xs,hq⟩ | ⟨rfl,o,hk,hc,hd⟩ | ⟨rfl,hk⟩ | ⟨rfl,S,n,hk⟩
   ·obtain⟨its,_,pl,_⟩:=I.list hq;refine⟨pl.isList.typeIs,λa e=>?_⟩;cases e;obtain⟨o,n,e,c,hd,_⟩:=pl;exact⟨o,e,hd⟩
   ·refine⟨⟨o,I.kIn p o hk,hc⟩,λa e=>?_⟩;cases e;exact⟨o,I.kIn _ o hk,hd⟩
   ·have z:∃o,s.heap.get? p=some o/\o.ExactDict:=by
     rcases hk with⟨kvs,hk⟩ | ⟨kvs,hk⟩
     ·obtain⟨_,_,_,_,o,_,_,e,ex,_⟩:=I.hok p _ hk;exact⟨o,e,ex⟩
     ·obtain⟨_,_,_,_,o,_,_,e,ex,_⟩:=I.hok p _ hk;exact⟨o,e,ex⟩
    obtain⟨o,e,ex⟩:=z;refine⟨⟨o,e,ex.1⟩,λa e2=>?_⟩;cases e2;exact⟨o,e,ex.2.1⟩
   ·obtain⟨o,_,_,_,e,ex,_⟩:=I.hok p _ hk;refine⟨⟨o,e,ex.1⟩,λa e2=>?_⟩;cases e2;exact⟨o,e,ex.2.1⟩
 | _=>exact False.elim ty
noncomputable def B6 (K:yav) (T:String) (r:V->List V->Hp->VK->Prop) (to:TE):TE:=λσ H Q=>to σ H λx H1=>B5 K T x H1/\r x [] H1 Q
noncomputable def DH (K:yav) (T:String) (r:V->List V->Hp->VK->Prop) (to:TE) (t:TA):TE:=λσ H Q=>to σ H λx H1=>B5 K T x H1/\t σ H1 λxs H2=>r x xs H2 Q
variable {o e:Expr} {es:List Expr} {to:TE} {t:TA} {name:Str} {apos cpos:Pos} {T id:String} {r:V->List V->Hp->VK->Prop}
theorem xy (pa:PlainAttrs T) (slot:Slot T name id) (hty:typeOf (.builtin id)=pure (.type "method_descriptor")) (hm:B0 X id r) (ho:PE X o to)
 (hbase:attributeBase o name X.env (eval o X.env)=eval o X.env:=by rfl) (hline:(apos.endLine==cpos.line)=true:=by rfl):PE X (.Call (.Attribute o name apos) [] [] cpos) (B6 X.K T r to):=by
 intro π s σ H Q I h;refine wpAny_Call_method0_late hbase hline (bW (ho π s σ H _ I h) λv s1 z9=>?_);obtain⟨x,H1,I1,r1,ty,q1⟩:=z9;obtain⟨h1,h2⟩:=qY I1 r1 ty;exact⟨T,id,pa,slot,hty,h1,h2,Calls.callWith_builtin rfl (PySem.evalArgs_none (hm π s1 σ H1 x [] v [] Q I1 r1 .nil q1))⟩
theorem qZ (pa:PlainAttrs T) (slot:Slot T name id) (hty:typeOf (.builtin id)=pure (.type "method_descriptor")) (hm:B0 X id r) (ho:PE X o to) (ha:PA X (e::es) t)
 (hbase:attributeBase o name X.env (eval o X.env)=eval o X.env:=by rfl)
 (hfew:((backTo cpos (starEach (e::es) X.env)).all (λx=>!x.1)&&(backToKw cpos (keywordEach [] X.env)).all (λx=>x.1.isSome)
   &&decide ((e::es).length+([]:List Keyword).length+(if ([]:List Keyword).isEmpty then 0 else 1)<30))=true:=by rfl)
 (hline:(apos.endLine==cpos.line)=true:=by rfl) (hs:starEach (e::es) X.env=(false,eval e X.env)::starEach es X.env:=by rfl) (hplain:(backTo cpos (starEach es X.env)).any (·.1)=false:=by rfl):
 PE X (.Call (.Attribute o name apos) (e::es) [] cpos) (DH X.K T r to t):=by
 intro π s σ H Q I h;refine wpAny_Call_method_late hbase hfew hline rfl (bW (ho π s σ H _ I h) λv s1 z9=>?_);obtain⟨x,H1,I1,r1,ty,q1⟩:=z9;obtain⟨h1,h2⟩:=qY I1 r1 ty;refine⟨T,id,pa,slot,hty,h1,h2,?_⟩;have hA:=ha cpos π s1 σ H1 _ I1 q1;rw[hs] at hA ⊢;refine Calls.callWith_builtin (by show(false||(backTo cpos (starEach es X.env)).any (·.1))=false;rw[hplain]<;> rfl) (Calls.evalArgs_plain ?_);exact bW hA λus s2 ⟨vs,H2,I2,r2,q2⟩=>hm π s2 σ H2 x vs v us Q I2 r1 r2 q2
end
noncomputable def B7 (X:Cx) (id:String) (r:V->List V->Hp->VK->Prop):Prop:=
 ∀(π:List (Addr×Obj)) (s:Shared) (σ:St) (H:Hp) (x:V) (xs:List V) (v:Value) (us:yez) (Q:VK),aC X π σ H s->bg x v->aS xs us->r x xs H Q->
  wpAny (model X.prog X.w) X.A (call (.builtin id) (v::us)) (EP X π σ Q) X.xe s
theorem aS.one:∀{x:V} {us:yez},aS [x] us->∃u,us=[u]/\bg x u
 | _,_,.cons r .nil=>⟨_,rfl,r⟩
theorem aS.zero:∀{us:yez},aS [] us->us=[]
 | _,.nil=>rfl
theorem aS.dropLast {xs:List V} (h:aS xs us):aS xs.dropLast us.dropLast:=by
 induction h with
 | nil=>exact .nil
 | cons r t ih=>
   cases t with
   | nil=>exact .nil
   | cons q t'=>exact .cons r ih
theorem aS.rep {xs:List V} {us:yez} (h:aS xs us):∀k:Nat,aS (List.replicate k xs).flatten (List.replicate k us).flatten
 | 0=> .nil
 | k+1=>by
   rw[replicate_succ,replicate_succ,flatten_cons,flatten_cons];exact aS.append h (aS.rep h k)
theorem nk {α:Type} (l:List α):l.eraseIdx (l.length-1)=l.dropLast:=by
 induction l with
 | nil=>rfl
 | cons a r ih=>
   cases r with
   | nil=>rfl
   | cons b r=>
     have e:(a::b::r).length-1=((b::r).length-1)+1:=by
      have h1:(a::b::r).length=r.length+2:=rfl;have h2:(b::r).length=r.length+1:=rfl;assumption
     rw[e,List.eraseIdx_cons_succ,ih]
     all_goals rfl
theorem gD (its:yez):∀(k:Nat) (acc:yez),
 List.foldl (λx1 x2=>x1++x2) acc.toArray (List.replicate k its.toArray)=(acc++(List.replicate k its).flatten).toArray
 | 0,acc=>by simp
 | k+1,acc=>by
   have e:acc.toArray++its.toArray=(acc++its).toArray:=by simp
   have e2:(acc++its)++(List.replicate k its).flatten=acc++(List.replicate (k+1) its).flatten:=by
    rw[replicate_succ,flatten_cons,append_assoc]
   rw[←e2,←gD its k (acc++its),←e,replicate_succ,foldl_cons]
section
variable {X:Cx} {π:List (Addr×Obj)} {σ:St} {H:Hp} {s:Shared} {l b:Addr} {xs ys zs:List V}
theorem aC.lset {its its':yez} {n:Nat} {f:Array Value->Array Value} {t':Nat} (I:aC X π σ H s) (hH:H l=some (.lst xs))
 (e:s.heap.get? l=some { cls:= .type "list",data:= .seq its.toArray n }) (hf:f its.toArray=its'.toArray) (hv:aS ys its') (hz:ys.length<=sizeLine):
 aC X π σ (upd H l (.lst ys)) { s with heap:=s.heap.update l (Obj.mapSeq f),toks:=t' }:=by
 have q:=PySem.IsL.update e f;rw[hf] at q;refine I.write (x:=l) (e:=l) (by rw[hH];exact trivial) (.inl rfl) (λb' u hb hu=>(Heap.get?_update_other s.heap (Obj.mapSeq f) (Ne.symm hb)).trans hu) ⟨_,q⟩ ?_;exact⟨hz,its',_,hv,q⟩
theorem aC.lnew {its:yez} {t':Nat} (I:aC X π σ H s) (hv:aS ys its) (hz:ys.length<=sizeLine):
 aC X π σ (upd H s.heap.objs.size (.lst ys)) { s with heap:=s.heap.push { cls:= .type "list",data:= .seq its.toArray },toks:=t' }:=
 I.laid (λ_ _ q=>ybz _ q) (ycx _) ⟨hz,its,0,hv,ybw _ rfl⟩
theorem aC.fresh (I:aC X π σ H s):H s.heap.objs.size=none:=I.hok.fresh (ycx _)
theorem aC.lstM (I:aC X π σ H s) (hH:H l=some (.lst xs)):xs.length<=sizeLine/\∃(its:yez) (n:Nat),aS xs its/\xs.length=its.length/\s.heap.get? l=some { cls:= .type "list",data:= .seq its.toArray n }:=by
 obtain⟨z,its,n,r,e⟩:=I.hok l _ hH;exact⟨z,its,n,r,r.length,e⟩
theorem lA {n:Nat} (h:n<=sizeLine):Builtin.List.listTooLong n=false:=by
 unfold Builtin.List.listTooLong;exact ydy (by lia)
end
section
variable {X:Cx}
noncomputable def ul:V->List V->Hp->VK->Prop:=λx vs H Q=>∃l xs y,x=.ref l/\vs=[y]/\H l=some (.lst xs)/\xs.length<sizeLine/\Q .non (upd H l (.lst (xs++[y])))
theorem pP:B7 X "list.append" ul:=by
 intro π s σ H x vs v us Q I rx rv h;obtain⟨l,xs,y,rfl,rfl,hH,hz,q⟩:=h;cases rx;obtain⟨u,rfl,ru⟩:=rv.one;obtain⟨z,its,n,r,hl,e⟩:=I.lstM hH;refine call_meets F.slot_list_append ⟨_,e,rfl⟩ F.entry_list_append (F.args_list_append_2 _ _) (PySem.list_append l its.toArray n u (by rw[size_toArray];(clear z;lia))) ⟨e,?_⟩;refine⟨.non,_,I.lset (its':=its++[u]) hH e (by simp) (r.append (.cons ru .nil)) ?_,rfl,q⟩;rw[length_append,length_singleton];assumption
noncomputable def um:V->List V->Hp->VK->Prop:=λx vs H Q=>∃l b xs zs,x=.ref l/\vs=[.ref b]/\H l=some (.lst xs)/\H b=some (.lst zs)/\xs.length+zs.length<=sizeLine/\Q .non (upd H l (.lst (xs++zs)))
theorem pQ:B7 X "list.extend" um:=by
 intro π s σ H x vs v us Q I rx rv h;obtain⟨l,b,xs,zs,rfl,rfl,hH,hB,hz,q⟩:=h;cases rx;obtain⟨u,rfl,ru⟩:=rv.one;cases ru;obtain⟨z,its,n,r,hl,e⟩:=I.lstM hH;obtain⟨z2,its2,n2,r2,hl2,e2⟩:=I.lstM hB;have hsz:its.toArray.size+its2.toArray.size<=sizeLine:=by rw[size_toArray,size_toArray];(clear z z2;lia)
 have hlong:¬(!its.toArray.isEmpty&&Builtin.List.listTooLong (its.toArray.size+its2.toArray.size))=true:=by
  rw[lA hsz,Bool.and_false];exact ydx
 refine call_meets F.slot_list_extend ⟨_,e,rfl⟩ F.entry_list_extend (F.args_list_extend_2 _ _)
  (AutoSeq1.list_extend_list_list_0 l its.toArray n b its2.toArray n2 hlong (by rw[size_toArray];(clear hz z2 hl2 hsz;lia)) (by lia)) ⟨e,e2,?_⟩
 refine⟨.non,_,I.lset (its':=its++its2) hH e (by simp) (r.append r2) ?_,rfl,q⟩;rw[length_append];assumption
noncomputable def B8:V->List V->Hp->VK->Prop:=λx vs H Q=>∃l xs y,x=.ref l/\vs=[]/\H l=some (.lst xs)/\xs[xs.length-1]?=some y/\Q y (upd H l (.lst xs.dropLast))
theorem xz:B7 X "list.pop" B8:=by
 intro π s σ H x vs v us Q I rx rv h;obtain⟨l,xs,y,rfl,rfl,hH,hy,q⟩:=h;cases rx;have hus:=rv.zero;subst hus;obtain⟨z,its,n,r,hl,e⟩:=I.lstM hH;obtain⟨u,hu,ru⟩:=r.get hy;have hy':its.toArray[its.toArray.size-1]?=some u:=by
  show its.toArray[its.length-1]?=some u;rw[←Array.getElem?_toList,←hl];exact hu
 refine call_meets F.slot_list_pop ⟨_,e,rfl⟩ F.entry_list_pop (F.args_list_pop_1 _) (MeetsSeq.list_pop_last l its.toArray n u hy' (by rw[size_toArray];(clear hy hu hy';lia))) ⟨e,?_⟩;refine⟨y,_,I.lset (its':=its.dropLast) hH e ?_ r.dropLast ?_,ru,q⟩
 ·show its.toArray.eraseIdxIfInBounds (its.toArray.size-1)=its.dropLast.toArray;rw[size_toArray,List.eraseIdxIfInBounds_toArray,nk]
 ·rw[List.length_dropLast]
  (clear hy hu hy';lia)
noncomputable def B9:R2:=λx y H Q=>∃l b xs zs,x=.ref l/\y=.ref b/\H l=some (.lst xs)/\H b=some (.lst zs)/\xs.length+zs.length<=sizeLine/\∀p,H p=none->Q (.ref p) (upd H p (.lst (xs++zs)))
theorem xA:gf X (binaryOp .Add) B9:=by
 intro π s σ H x y v u Q I rx ry h;obtain⟨l,b,xs,zs,rfl,rfl,hH,hB,hz,q⟩:=h;cases rx;cases ry;obtain⟨z,its,n,r,hl,e⟩:=I.lstM hH;obtain⟨z2,its2,n2,r2,hl2,e2⟩:=I.lstM hB;refine PySem.P.add_list e e2 ?_ (by rw[size_toArray,size_toArray];(clear z z2;lia));have ea:its.toArray++its2.toArray=(its++its2).toArray:=by simp
 rw[ea];exact⟨.ref _,_,I.lnew (t':=s.toks) (r.append r2) (by rw[length_append];assumption),rfl,q _ I.fresh⟩
noncomputable def Ca:R2:=λx y H Q=>∃l k xs,x=.ref l/\y=.int k/\H l=some (.lst xs)/\-(2^63)<=k/\k<2^63/\xs.length*k.toNat<=sizeLine/\
 ∀p,H p=none->Q (.ref p) (upd H p (.lst (List.replicate k.toNat xs).flatten))
theorem ii {α:Type} (xs:List α) (k:Nat):(List.replicate k xs).flatten.length=k*xs.length:=by
 induction k with
 | zero=>simp
 | succ k ih=>rw[replicate_succ,flatten_cons,length_append,ih,Nat.succ_mul,Nat.add_comm]
theorem xB:gf X (binaryOp .Mult) Ca:=by
 intro π s σ H x y v u Q I rx ry h;obtain⟨l,k,xs,rfl,rfl,hH,h1,h2,hz,q⟩:=h;cases rx;obtain⟨t,rfl⟩:=ry;obtain⟨z,its,n,r,hl,e⟩:=I.lstM hH;have hlen:its.toArray.size*k.toNat<=sizeLine:=by rw[size_toArray,←hl];exact hz
 have hcap:¬its.toArray.size*k.toNat > (2^63-1)/8:=by
  have:(sizeLine:Nat)<=(2^63-1)/8:=by decide
  (clear h1 h2 hz z hl;lia)
 have hfit:¬(!Builtin.List.listFitsIndex k)=true:=by
  rw[fitsIndex_both h1 h2];exact ydx
 have hlong:¬Builtin.List.listTooLong (its.toArray.size*k.toNat)=true:=by
  rw[lA hlen];exact ydx
 have hnew:List.foldl (λx1 x2=>x1++x2) #[] (List.replicate (if its.toArray.isEmpty=true then 0 else k.toNat) its.toArray)=(List.replicate k.toNat its).flatten.toArray:=by
  have f0:∀m:Nat,List.foldl (λx1 x2=>x1++x2) #[] (List.replicate m its.toArray)=(List.replicate m its).flatten.toArray:=λm=>by
   have:=gD its m [];rw[nil_append] at this;exact this
  rw[f0];cases its with
  | nil=>simp
  | cons a r'=>rw[ycw (by simp)]
 refine wpAny_binaryOp_repeat_ref (T:="list") (U:="int") (by decide) ⟨_,e,rfl⟩ (λs'=>typeIs_int s' k t) noFill_list_mul F.fills_int_mul F.slot_int_rmul repeat_list F.slot_int_index.lookup
  (call_meets F.slot_int_rmul (typeIs_int s k t) F.entry_int_rmul (F.args_int_rmul_2 _ _) (int___rmul___int_list k t l its.toArray n)
    ⟨e,rfl,⟨_,e,rfl⟩,call_meets F.slot_list_mul ⟨_,e,rfl⟩ F.entry_list_mul (F.args_list_mul_2 _ _) (AutoListH.list___mul___list_int_3 l its.toArray n k t hfit hcap hlong) ⟨e,?_⟩⟩)
 rw[hnew];exact⟨.ref _,_,I.lnew (t':=s.toks) (r.rep k.toNat) (by rw[ii,Nat.mul_comm];exact hz),rfl,q _ I.fresh⟩
end
section
variable {prog:Program} {w:World} {A:Around} {E:yey} {s:Shared}
set_option maxRecDepth 100000 in
end
section
variable {X:Cx}
end
end L2
namespace Att
open PySem PySem.W PySem.Calls PyProof.Rows
theorem ic {P:Params} {h:Heap}:∀(ns:List Int) (vs:yez),WellAll P h vs (ns.map WData.int)->IntsAre vs ns:=by
 intro ns
 induction ns with
 | nil=>
   intro vs w;rw[map_nil] at w;cases w;exact .nil
 | cons n ns ih=>
   intro vs w;rw[map_cons] at w;cases w with
   | cons a b=>
     cases a;exact .cons _ _ (ih _ b)
theorem pR {l:OpenLaw} {n:Nat} (hn:l.most=some n) {P:Params} {h:Heap} {args:List WData} {vals:yez}
 (hpre:l.row.toRowW.claim.pre args=true) (hwl:WellAll P h vals args):
 ∃a vs ns,vals=[Value.ref a]/\args=[WData.list (ns.map WData.int)]/\h.get? a=some { cls:= .type "list",data:= .seq vs.toArray }/\IntsAre vs ns/\ns.length<=n:=by
 have hsh:WShape.hasAll [] args [.list .int]=true:=(pre_splitW hpre).1;have hc:l.pre.holds [] { args:=args }=true:=(pre_splitW hpre).2;obtain⟨d,r,rfl,h1,h2⟩:=hasAllW_cons hsh;obtain rfl:=hasAllW_nil h2;obtain⟨xs,rfl,h3⟩:=hasW_list h1;obtain⟨ns,rfl⟩:=items_int h3;have hlen:ns.length<=n:=by
  unfold OpenLaw.pre at hc;have h4:(WTm.not (.lt (.lit (.int (n:Int))) (.len (.arg 0)))).holds [] { args:=[.list (ns.map .int)] }=true:=by
   have h4:=(holds_andW hc).1;rw[hn] at h4;exact h4
  have h5:=condW_of h4 (w_not (w_lt w_lit (w_len_list (w_arg rfl))));rw[length_map] at h5;refine Nat.le_of_not_lt λq=>?_;have q':(n:Int)<((ns.length:Nat):Int):=by (clear h5;lia)
  first
   | (rw[ydz q'] at h5;exact absurd h5 (by decide))
   | (simp at h5;lia)
 cases hwl with
 | cons w1 w2=>
   cases w2;cases w1 with
   | list ho hall=>exact⟨_,_,ns,rfl,rfl,ho,ic ns _ hall,hlen⟩
theorem pS (l:OpenLaw) (args:List WData):l.row.toRowW.claim.post args (.bool true) args=true:=
 postW_of (r:=l.row.toRowW) (X:=(true==true))
  (show WShape.has [] (.bool true) .bool=true by first | rfl | decide | simp[WShape.has,WShape.arms,WShape.armsAll])
  (show(WTm.eq .res (.lit (.bool true))).value [] { args:=args,res:=some (.bool true),after:=args }=some (.bool (true==true)) from w_eq_bool (w_res rfl) w_lit) rfl
theorem attach_call {l:OpenLaw} {n:Nat} {q:Program} {loose:List Str} {XP:(Str->Option Value)->Heap->Prop} {YP:World->Heap->Prop} {d:DefRec}
 (hn:l.most=some n) (hdf:d.params.defaults=[])
 (call:∀(w:World) (s₀ s₁:Shared) (mg mb:yew) (fa:Addr) (o:Obj) (pm cd doc:Value) (a:Addr) (vs:yez) (ns:List Int),
   Ground q loose [] XP w s₀ mg mb s₁.heap->YP w s₁.heap->
   s₁.heap.get? fa=some o->o.data=.func (docDef d.name d.params d.body d.scope pm cd doc)->s₁.heap.CodeRec cd d.name->mg d.name=some (.ref fa)->
   s₁.heap.get? a=some { cls:= .type "list",data:= .seq vs.toArray }->IntsAre vs ns->ns.length<=n->s₁.gens= #[]->
   codeAny (model l.prog w) callerA (.call (.ref fa) ⟨[.ref a],[]⟩) (λr s'=>r=.ok (.ret (.bool true))/\OldK s₁.heap s'.heap/\s'.os=s₁.os/\AllBare s'.gens) s₁):
 WalkO q loose XP YP l.row.toRowW d [] (λf vs=>PySem.call f vs):=by
 intro w s₀ s₁ mg mb G Y fa o pm cd doc dV kV ho hd hcd hD hmg hg args vals as hpre hlay hrd hwl hlo;obtain rfl:dV=.none:=Dflts.none hD hdf;obtain rfl:kV=.none:=Dflts.noKw hD;obtain⟨a,vs,ns,rfl,rfl,hobj,hints,hlen⟩:=pR hn hpre hwl;refine enter_call (codeAny_mono (call w s₀ s₁ mg mb fa o pm cd doc a vs ns G Y ho (fd_plain hd) hcd hmg hobj hints hlen hg) λr s' hq=>?_);obtain⟨rfl,h2,h3,h4⟩:=hq;exact⟨.inl ⟨.bool true,.bool true,[],rfl,λ_=>rfl,.bool true,pS l _,λ_=>⟨List.Pairwise.nil,λ_ hm=>(nomatch hm)⟩⟩,h2,h3,h4⟩
section
variable {prog:Program} {w:World} {A:Around} {E:yey} {s:Shared} {K:Frag}
end
end Att
namespace L2
open PySem PySem.Spec PyProof.Rows
theorem jr:∀{vs:yez} {ns:List Int},IntsAre vs ns->aS (ns.map V.int) vs
 | _,_,.nil=> .nil
 | _,_,.cons n t h=> .cons ⟨t,rfl⟩ (jr h)
noncomputable def q0 (H:Hp):Prop:=∀b,H b=none∨∃o xs,H b=some (.frz o (.lst xs))
theorem rc {mg mb:yew} {CX:pM} {fa a:Addr} {sp:Sp} {s₁:Shared} {vs:yez} {ns:List Int}
 (KX:K.In s₁.heap) (hns:s₁.heap.Ns mainGlobals mg) (hb:s₁.heap.Ns builtinsNs mb) (hbb:∀x:Str,x≠"__name__"->mb x=bootBuiltins x) (hlim:s₁.heap.NoLimit) (hg:s₁.gens= #[])
 (ha:s₁.heap.get? a=some { cls:= .type "list",data:= .seq vs.toArray }) (hi:IntsAre vs ns) (hl:ns.length<=sizeLine) (hr:av k callerA)
 (F:∀base:Heap,K.In base->base.Ns mainGlobals mg->fP P w K mg base CX k fa fd [x] sp) (hbind:∀(s:Shared) (u:Value),BindsTo s fd ⟨[u],[]⟩ [(x,u)])
 (hsp:∀H:Hp,q0 H->dy K H a (ns.map V.int)->sp [.ref a] H (λv _=>v=.bl true) λ_ _ _=>False)
 (hCX:∀H e s',CX [] H s₁ (λ_ _ _=>False) e s'->False):
 codeAny (model P w) callerA (.call (.ref fa) ⟨[.ref a],[]⟩) (λr s'=>r=.ok (.ret (.bool true))/\OldK s₁.heap s'.heap/\s'.os=s₁.os/\AllBare s'.gens) s₁:=by
 have rv:=jr hi;have lenV:=hi.length
 -- from an abstract heap in which nothing but the script may be tracked
 have core:∀H:Hp,q0 H->dy K H a (ns.map V.int)->fZ P w H s₁.heap->(∀b,H b≠none->b=a)->(H a≠none->K.lookup a=none)->
  codeAny (model P w) callerA (.call (.ref fa) ⟨[.ref a],[]⟩) (λr s'=>r=.ok (.ret (.bool true))/\OldK s₁.heap s'.heap/\s'.os=s₁.os/\AllBare s'.gens) s₁:=by
  intro H hO hS hok hA hK;have base_of:∀{b:Addr} {o:Obj},s₁.heap.get? b=some o->H b=none->(jZ s₁.heap H).get? b=some o:=λe n=>qz e n;have noA:∀{b:Addr} {o:Obj} {es:Array DictEntry} {ep:Nat},s₁.heap.get? b=some o->o.data=.dict es ep->H b=none:=λ{b o es ep} e d=>by
   cases q:H b with
   | none=>rfl
   | some u=>
     have e':b=a:=hA b (by rw[q];simp);subst e';rw[ha] at e;cases e;have d':Data.seq vs.toArray _=Data.dict es ep:=d;cases d'
  have nsK:∀{b:Addr} {m:yew},s₁.heap.Ns b m->(jZ s₁.heap H).Ns b m:=λ{b m} ⟨o,es,ep,e,d,r⟩=>⟨o,es,ep,base_of e (noA e d),d,r⟩;have hKb:K.In (jZ s₁.heap H):=λb o e=>base_of (KX b o e) (by
   cases q:H b with
   | none=>rfl
   | some u=>
     have e':b=a:=hA b (by rw[q];simp);subst e';rw[hK (by rw[q];simp)] at e;cases e)
  have hM:Mod K mg (jZ s₁.heap H):=⟨hKb,nsK hns,⟨mb,nsK hb,hbb⟩,let ⟨mc,h1,h2⟩:=hlim;⟨mc,nsK h1,h2⟩⟩;have e0:lu P w K mg (jZ s₁.heap H) callerA [] s₁ H:=⟨rfl,hM,λb o e=>tO e,Nat.le_of_eq (pD _ _),trivial,λb hb=>absurd (show b∈([]:List Addr) from hb) (by simp),hok,.of_eq hg⟩;refine codeAny_mono ((F _ hKb (nsK hns)).run callerA [] s₁ H ⟨[.ref a],[]⟩ [.ref a] [.ref a] _ _ hr e0 (hbind s₁ (.ref a)) (.cons rfl .nil) (hsp H hO hS)) λr s' h=>?_;cases r with
  | error e=>exact(hCX H e s' h).elim
  | ok fl=>
    cases fl with
    | next=>exact False.elim h
    | brk=>exact False.elim h
    | cont=>exact False.elim h
    | ret u=>
      obtain⟨v,H',os,bare,un,hok',r',q⟩:=h;have q':v=.bl true:=q;subst q';obtain rfl:u=Value.bool true:=r';refine⟨rfl,OldK.of_keep λb o e=>?_,os,bare⟩;cases q:H b with
      | none=>exact un.keep b o e q (by intro z;exact absurd (show b∈([]:List Addr) from z) (by simp)) (by simp)
      | some u=>
        rcases hO b with z | ⟨ob,xs,z⟩
        ·rw[q] at z;cases z
        ·have z2:=un.frzs b ob _ z;obtain⟨e1,_⟩:=hok b _ z;obtain⟨e2,_⟩:=hok' b _ z2;rw[e] at e1;cases e1;exact e2
 cases hk:K.lookup a with
 | some o=>
   -- the script is one of the module's own objects
   have e:=KX a o hk;rw[ha] at e;cases e;refine core (λ_=>none) (λ_=> .inl rfl) (.inr ⟨_,vs.toArray,_,hk,rfl,rfl,rfl,by rw[size_toArray,lenV];exact hl,by simpa using rv⟩) (λb u z=>by have z':(none:Option HO)=some u:=z;cases z') (λb z=>absurd rfl z) λz=>absurd rfl z
 | none=>
   refine core (λb=>if b=a then some (.frz { cls:= .type "list",data:= .seq vs.toArray } (.lst (ns.map V.int))) else none) (λb=>?_) (.inl (.inr ⟨{ cls:= .type "list",data:= .seq vs.toArray },ycv rfl⟩)) (λb u z=>?_) (λb z=>?_) λ_=>hk
   ·by_cases hb:b=a
    ·exact .inr ⟨_,_,ycv hb⟩
    ·exact .inl (ycw hb)
   ·by_cases hb:b=a
    ·have z':=(ycv hb).symm.trans z;cases z';subst hb;exact⟨ha,by rw[length_map];exact hl,vs,_,rv,ha⟩
    ·have z':=(ycw hb).symm.trans z;cases z'
   ·by_cases hb:b=a
    ·exact hb
    ·exact absurd (ycw hb) z
theorem walk_of {l:PySem.W.OpenLaw} {n k:Nat} {q:Program} {loose:List Str} {XP:(Str->Option Value)->Heap->Prop} {YP:World->Heap->Prop} {d:DefRec} {K:Params->yav} {CX:World->pM} {sp:World->Sp}
 (hn:l.most=some n) (hn2:n<=sizeLine) (hdf:d.params.defaults=[]) (hr:av k callerA)
 (hY:∀(w:World) (h:Heap),YP w h->(K w.params).In h)
 (F:∀(w:World) (mg:yew) (fa:Addr) (h:Heap),(K w.params).In h->h.Ns mainGlobals mg->mg d.name=some (.ref fa)->
   ∃fd:FuncData,(∀(s:Shared) (u:Value),BindsTo s fd ⟨[u],[]⟩ [(x,u)])/\
    ∀base:Heap,(K w.params).In base->base.Ns mainGlobals mg->fP l.prog w (K w.params) mg base (CX w) k fa fd [x] (sp w))
 (hsp:∀(w:World) (H:Hp) (a:Addr) (ns:List Int),ns.length<=n->q0 H->dy (K w.params) H a (ns.map V.int)->sp w [.ref a] H (λv _=>v=.bl true) λ_ _ _=>False)
 (hCX:∀(w:World) (H:Hp) (s:Shared) (e:Value) (s':Shared),CX w [] H s (λ_ _ _=>False) e s'->False):
 PySem.W.WalkO q loose XP YP l.row.toRowW d [] (λf vs=>PySem.call f vs):=by
 refine Att.attach_call hn hdf λw s₀ s₁ mg mb fa o pm cd doc a vs ns G Y ho hd hcd hmg hobj hints hlen hg=>?_;have KX:=hY w _ Y;obtain⟨fd,hb,hF⟩:=F w mg fa _ KX G.T.g hmg;exact rc KX G.T.g G.T.b G.T.builtins G.T.nolimit hg hobj hints (ycy hlen hn2) hr hF hb (λH hO hS=>hsp w H a ns hlen hO hS) λH e s'=>hCX w H s₁ e s'
noncomputable def au (s:Stmt):Arguments:=match s with
 | .FunctionDef _ a _ _ _ _ _ _ _ _=>a
 | _=>{ posonlyargs:=[],args:=[],vararg:=none,kwonlyargs:=[],kw_defaults:=[],kwarg:=none,defaults:=[] }
noncomputable def ao (s:Stmt):List Stmt:=match s with
 | .FunctionDef _ _ b _ _ _ _ _ _ _=>b
 | _=>[]
noncomputable def ak (s:Stmt):Scope:=match s with
 | .FunctionDef _ _ _ _ _ _ sc _ _ _=>sc
 | _=>{ kind:= .function,names:=[],isGenerator:=false,isCoroutine:=false }
noncomputable abbrev re:pM:=λ_ _ _ _ _ _=>False
noncomputable abbrev E0:XK:=λ_ _ _=>False
theorem js {X:Cx}:ei re X E0:=λ_ _ _ _ _ _ _ h=>h.elim
structure cJ (K:yav) (x qual:Str) (st:Stmt) (f:Addr) (fd:FuncData):Prop where
 ex:∃(oc:Value) (od:Option Addr) (kV doc pm:Value) (an:Option Addr) (cdv ct:Value) (osl:Array (Option Value)),
  fd=fnOf x qual (au st) (ao st) (ak st) .none kV doc pm an cdv ct/\K.lookup f=some ⟨oc,od,.func fd,osl⟩/\codeIn K cdv qual=true
 kp:keepIn K (.ref f)=true
section
variable {P:Program} {w:World} {K:yav} {mg:yew} {base:Heap}
theorem cJ.ok {x qual:Str} {f:Addr} {N ps:List Str} {sp:Sp} (F:cJ K x qual st f fd) (S:bA N ps (ak st)) (len:∀vs H Q E,sp vs H Q E->vs.length=ps.length)
 (hbody:∀(cdv:Value) (A:Around) (outer:List Env) (s:Shared) (H:Hp) (vs:List V) (Q:VK) (E:XK),av k (A.deeper (envOfC qual (ak st) s.heap.objs.size f cdv))->sp vs H Q E->
   ∃t,kZ (cV re P w K mg base N qual (ak st) f cdv A outer s H E).nox (ao st) t/\t { nx:=λ_ H'=>Q .non H',rt:=Q } (start N vs) H):fP P w K mg base re (k+1) f fd ps sp:=by
 obtain⟨oc,od,kV,doc,pm,an,cdv,ct,osl,rfl,lk,hcd⟩:=F.ex;refine qU lk hcd S len λA outer s H vs Q E hr hsp=>?_;obtain⟨t,h,q⟩:=hbody cdv A outer s H vs Q E hr hsp;exact⟨t,h.nox,q⟩
theorem cJ.binds {x qual:Str} {f:Addr} (F:cJ K x qual st f fd)
 (h:∀(kV doc pm:Value) (an:Option Addr) (cdv ct:Value) (us:yez),us.length=ps.length->bindArgs (fnOf x qual (au st) (ao st) (ak st) .none kV doc pm an cdv ct) ⟨us,[]⟩=pure (ps.zip us)):bJ K fd ps []:=by
 obtain⟨oc,od,kV,doc,pm,an,cdv,ct,osl,rfl,lk,hcd⟩:=F.ex;exact .all (h kV doc pm an cdv ct)
theorem aR {x qual:Str} {f:Addr} {oc:Value} {od an:Option Addr} {osl:Array (Option Value)} {kV doc pm cdv ct:Value} (l:K.lookup f=some ⟨oc,od,.func (fnOf x qual (au st) (ao st) (ak st) .none kV doc pm an cdv ct),osl⟩)
 (c:codeIn K cdv qual=true) (k:keepIn K (.ref f)=true):cJ K x qual st f (fnOf x qual (au st) (ao st) (ak st) .none kV doc pm an cdv ct):=⟨⟨oc,od,kV,doc,pm,an,cdv,ct,osl,rfl,l,c⟩,k⟩
end
section
variable {X:Cx}
end
section
variable {κ:Type} [DecidableEq κ]
noncomputable def kg (kvs:List (κ×V)) (k:κ):Option V:=(kvs.find? λkv=>decide (kv.1=k)).map (·.2)
noncomputable def iD (kvs:List (κ×V)) (k:κ) (v:V):List (κ×V):=
 if (kvs.any λkv=>decide (kv.1=k))=true then kvs.map (λkv=>if kv.1=k then (kv.1,v) else kv) else kvs++[(k,v)]
theorem lB {p:κ×V} {r:List (κ×V)} {k:κ} (e:p.1=k):kg (p::r) k=some p.2:=by simp[kg,List.find?_cons,e]
theorem lC {p:κ×V} {r:List (κ×V)} {k:κ} (e:¬p.1=k):kg (p::r) k=kg r k:=by simp[kg,List.find?_cons,e]
theorem lD (kvs:List (κ×V)) (k:κ) (v:V):(iD kvs k v).length<=kvs.length+1:=by
 unfold iD;split
 ·rw[length_map];lia
 ·rw[length_append,length_cons,length_nil];lia
theorem fO.isSome_eq {o:Option V} {u:Option Value} (r:fO o u):o.isSome=u.isSome:=by
 cases o with
 | none=>cases u with
   | none=>rfl
   | some _=>exact(show False from r).elim
 | some _=>cases u with
   | none=>exact(show False from r).elim
   | some _=>rfl
theorem KV.val {kvs:List (κ×V)} {vs:List (κ×Value)} (r:KV kvs vs) (k:κ):fO (kg kvs k) (valueAt vs k):=by
 unfold KV at r
 induction r with
 | nil=>exact True.intro
 | @cons p q ps qs h t ih=>
   obtain⟨h1,h2⟩:=h
   by_cases e:p.1=k
   ·have e':q.1=k:=h1.symm.trans e;have b:valueAt (q::qs) k=some q.2:=by simp[valueAt,List.find?_cons,e']
    rw[lB e,b];exact h2
   ·have e':¬q.1=k:=λz=>e (h1.trans z);have b:valueAt (q::qs) k=valueAt qs k:=by simp[valueAt,List.find?_cons,e']
    rw[lC e,b];exact ih
theorem KV.any {kvs:List (κ×V)} {vs:List (κ×Value)} (r:KV kvs vs) (k:κ):(kvs.any λkv=>decide (kv.1=k))=vs.any λkv=>decide (kv.1=k):=by
 unfold KV at r
 induction r with
 | nil=>rfl
 | cons h t ih=>rw[any_cons,any_cons,ih,h.1]
theorem KV.repl {kvs:List (κ×V)} {vs:List (κ×Value)} (r:KV kvs vs) (k:κ) {y:V} (ry:bg y u):
 KV (kvs.map λkv=>if kv.1=k then (kv.1,y) else kv) (vs.map λkv=>if kv.1=k then (kv.1,u) else kv):=by
 unfold KV at r ⊢
 induction r with
 | nil=>exact .nil
 | @cons p q ps qs h t ih=>
   rw[map_cons,map_cons];refine .cons ?_ ih;obtain⟨h1,h2⟩:=h
   by_cases e:p.1=k
   ·rw[ycv e,ycv (h1.symm.trans e)];exact⟨h1,ry⟩
   ·rw[ycw e,ycw (λz=>e (h1.trans z))];exact⟨h1,h2⟩
theorem KV.put {kvs:List (κ×V)} {vs:List (κ×Value)} (r:KV kvs vs) (k:κ) {y:V} (ry:bg y u):KV (iD kvs k y) (stored vs k u):=by
 unfold iD stored;rw[r.any k]
 by_cases e:(vs.any λkv=>decide (kv.1=k))=true
 ·rw[ycv e,ycv e];exact r.repl k ry
 ·rw[ycw e,ycw e];exact Paired.snoc r ⟨rfl,ry⟩
theorem KV.length {kvs:List (κ×V)} {vs:List (κ×Value)} (r:KV kvs vs):kvs.length=vs.length:=Paired.length r
end
theorem rf {k:bG} (r:bg (kV k) u):(cU P w).is k u=true:=by
 cases k with
 | inl i=>obtain⟨t,e⟩:=(show ∃t,u=Value.int i t from r);subst e;exact li P w i t
 | inr x=>obtain⟨t,e⟩:=(show ∃t,u=Value.str x t from r);subst e;exact lj P w x t
section
variable {P:Program} {w:World} {H:Hp} {h:Heap} {a:Addr}
theorem zh {u:HO} (ok:fZ P w H h) (e:Rd H a u):ce P w H h a u:=e.ok ok
theorem fH {kvs:List (bG×V)} (ok:fZ P w H h) (e:Rd H a (.dK kvs)):kvs.length<=sizeLine/\(a==sysModules)=false/\∃vs,KV kvs vs/\h.DictOf (cU P w) a vs:=
 show ce P w H h a (.dK kvs) from zh ok e
theorem zk {kvs:List (bG×V)} (ok:fZ P w H h) (e:H a=some (.dK kvs)):kvs.length<=sizeLine/\(a==sysModules)=false/\∃vs,KV kvs vs/\h.DictOf (cU P w) a vs:=fH ok (.inl e)
end
section
variable {X:Cx} {π:List (Addr×Obj)} {σ:St} {H:Hp} {s:Shared} {a:Addr} {y v:V} {u r:Value} {o:Option V} {A:Around} {E:yey}
theorem aC.bigD (I:aC X π σ H s):sysModules<s.heap.objs.size:=by
 have h:mainGlobals<s.heap.objs.size:=(I.mod.glob.keeps I.bk).lt;exact Nat.lt_trans (by decide) h
theorem uo {h':Heap} {t':Nat} {ob:HO} (I:aC X π σ H s) (mu:yL (H a)) (hs:Heap.SameBut a s.heap h') (he:∃q,h'.get? a=some q) (new:ce X.prog X.w (upd H a ob) h' a ob):
 aC X π σ (upd H a ob) { s with heap:=h',toks:=t' }:=
 I.write (x:=a) (e:=a) mu (.inl rfl) (λb q hb z=>(hs.2 b hb).trans z) he new
theorem xD {H':Hp} {h':Heap} {kvs:List (bG×V)} {vs:List (bG×Value)} (z:kvs.length<=sizeLine) (hd:(a==sysModules)=false) (rel:KV kvs vs) (dd:h'.DictOf (cU P w) a vs):
 ce P w H' h' a (.dK kvs):=⟨z,hd,vs,rel,dd⟩
end
section
variable {X:Cx} {π:List (Addr×Obj)} {σ:St} {H:Hp} {s:Shared} {a:Addr} {kvs:List (bG×V)} {k:bG} {u:Value} {A:Around} {E:yey}
theorem zm (I:aC X π σ H s) (e:Rd H a (.dK kvs)) (h:∀t s',aC X π σ H s'->Q (.int kvs.length t) s'):wpAny (model X.prog X.w) A (call (.builtin "len") [.ref a]) Q E s:=by
 obtain⟨z,hd,vs,rel,dd⟩:=fH I.hok e;refine call_len_dict hd dd (by rw[←rel.length];rw[sizeLine_eq] at z;lia) ?_;rw[←rel.length];exact h _ _ (I.tok _)
end
section
variable {X:Cx} {o i e value:Expr} {pos pos' tpos:Pos} {td ty tv:TE}
end
theorem jt {H:Hp} (h:Heap) (hb:sysModules<h.objs.size):ce P w H (h.push { cls:= .type "dict",data:= .dict #[] }) h.objs.size (.dK []):=
 ⟨zero_le _,beq_eq_false_iff_ne.mpr (Ne.symm (ne_of_lt hb)),[],.nil,Heap.DictOf.new h⟩
noncomputable def xE:TE:=λ_ H Q=>∀p,H p=none->Q (.ref p) (upd H p (.dK []))
section
variable {X:Cx} {pos:Pos}
theorem pe_dnewK:PE X (.Dict [] [] pos) xE:=λπ s σ H Q I h=>
 wpAny_Dict_empty ⟨.ref s.heap.objs.size,_,I.laid (a:=s.heap.objs.size) (o:= .dK []) (t':=s.toks) (λ_ _ q=>ybz _ q) (ycx _) (jt s.heap I.bigD),rfl,h _ (I.hok.fresh (ycx _))⟩
end
noncomputable abbrev VV:List (V×V)->List (Value×Value)->Prop:=Paired λp q=>bg p.1 q.1/\bg p.2 q.2
noncomputable def fQ (kvs more:List (bG×V)):List (bG×V):=more.foldl (λacc kv=>iD acc kv.1 kv.2) kvs
theorem KV.merge:∀{more:List (bG×V)} {rs:List (bG×Value)} {kvs:List (bG×V)} {vs:List (bG×Value)},KV more rs->KV kvs vs->KV (fQ kvs more) (merged vs rs):=by
 intro more rs kvs vs r;unfold KV at r
 induction r generalizing kvs vs with
 | nil=>intro q;exact q
 | @cons p q ps qs h t ih=>
   intro r0;have e:KV (iD kvs p.1 p.2) (stored vs q.1 q.2):=by
    have:=r0.put p.1 h.2;rw[←h.1];exact this
   exact ih e
theorem fI:∀(more kvs:List (bG×V)),(fQ kvs more).length<=kvs.length+more.length
 | [],kvs=>by show kvs.length<=kvs.length+0;lia
 | p::r,kvs=>by
   have h1:=fI r (iD kvs p.1 p.2);have h2:=lD kvs p.1 p.2;show(fQ (iD kvs p.1 p.2) r).length<=_;rw[length_cons];lia
theorem iE {P:Program} {w:World}:∀{kvs:List (bG×V)} {ws:List (Value×Value)},VV (kvs.map λkv=>(kV kv.1,kv.2)) ws->∃rs,Carries (cU P w) ws rs/\KV kvs rs
 | [],_,r=>by rw[map_nil] at r;cases r;exact⟨[],True.intro,.nil⟩
 | p::kvs,_,r=>by
   rw[map_cons] at r;cases r with
   | @cons a b as bs h t=>
     obtain⟨rs,c,q⟩:=iE (P:=P) (w:=w) t;obtain⟨b1,b2⟩:=b;exact⟨(p.1,b2)::rs,⟨rf h.1,rfl,c⟩,.cons ⟨rfl,h.2⟩ q⟩
structure M1 (X:Cx) (o:Expr) (m:Str) (apos:Pos) (e:Expr) (cpos:Pos):Prop where
 base:attributeBase o m X.env (eval o X.env)=eval o X.env
 few:((backTo cpos (starEach [e] X.env)).all (λx=>!x.1)&&(backToKw cpos (keywordEach [] X.env)).all (λx=>x.1.isSome)
  &&decide (([e]:List Expr).length+([]:List Keyword).length+(if ([]:List Keyword).isEmpty then 0 else 1)<30))=true
 line:(apos.endLine==cpos.line)=true
 trees:backTo cpos (starEach [e] X.env)=[(false,eval e X.env)]
structure M2 (X:Cx) (o:Expr) (m:Str) (apos:Pos) (e f:Expr) (cpos:Pos):Prop where
 base:attributeBase o m X.env (eval o X.env)=eval o X.env
 few:((backTo cpos (starEach [e,f] X.env)).all (λx=>!x.1)&&(backToKw cpos (keywordEach [] X.env)).all (λx=>x.1.isSome)
  &&decide (([e,f]:List Expr).length+([]:List Keyword).length+(if ([]:List Keyword).isEmpty then 0 else 1)<30))=true
 line:(apos.endLine==cpos.line)=true
 trees:backTo cpos (starEach [e,f] X.env)=[(false,eval e X.env),(false,eval f X.env)]
section
variable {X:Cx} {π:List (Addr×Obj)} {σ:St} {H:Hp} {s:Shared} {a:Addr} {y d:V} {u r:Value} {o:Option V} {A:Around} {E:yey}
end
section
variable {X:Cx} {o e f:Expr} {apos cpos:Pos} {td ty tx:TE}
end
section
variable {X:Cx} {π:List (Addr×Obj)} {σ:St} {H:Hp} {s:Shared} {a:Addr} {kvs:List (bG×V)} {A:Around} {E:yey}
end
section
variable {X:Cx} {π:List (Addr×Obj)} {σ:St} {H:Hp} {s:Shared} {a:Addr} {y:V} {u:Value} {A:Around} {E:yey}
end
inductive W where
 | non | bl (b:Bool) | int (i:Int) | str (x:Str) | ref (a:Addr) | tup (xs:List W) | scr (ns:List Int)
inductive GO where
 | lst (ws:List W)
 | dct
 | exc (C:Addr)
 | dic (kvs:List (bG×W))
 | fdc (o:Obj) (us:List (bG×V)) (kvs:List (bG×W))
 | ins (C:Addr) (fs:List (Str×W))
 | tbl (ps:Array Value)
 | any (P:Hp->Addr->Prop)
noncomputable abbrev Gp:=Addr->Option GO
noncomputable def aV (G:Gp) (a:Addr) (g:GO):Gp:=λb=>if b=a then some g else G b
theorem al {G:Gp} {g:GO}:aV G a g a=some g:=by unfold aV;rw[ycv rfl]
theorem aO {G:Gp} {a b:Addr} {g:GO} (h:b≠a):aV G a g b=G b:=by unfold aV;rw[ycw h]
noncomputable def we (K:yav) (H:Hp) (a:Addr) (ns:List Int):Prop:=
 (∃o,H a=some (.frz o (.lst (ns.map V.int))))∨
   ∃(o:Obj) (its:Array Value) (n:Nat),K.lookup a=some o/\o.cls=.type "list"/\o.dict=none/\o.data=.seq its n/\its.size<=sizeLine/\aS (ns.map V.int) its.toList
theorem we.sq {H:Hp} {ns:List Int} (h:we K H a ns):dy K H a (ns.map V.int):=by
 rcases h with⟨o,h⟩ | h
 ·exact .inl (.inr ⟨o,h⟩)
 ·exact .inr h
structure aQ (H H1:Hp):Prop where
 tup:∀a xs,H a=some (.tup xs)->H1 a=some (.tup xs)
 frz:∀a o xs,H a=some (.frz o (.lst xs))->H1 a=some (.frz o (.lst xs))
theorem aQ.refl (H:Hp):aQ H H:=⟨λ_ _ h=>h,λ_ _ _ h=>h⟩
theorem aQ.trans {H H1 H2:Hp} (a:aQ H H1) (b:aQ H1 H2):aQ H H2:=
 ⟨λx xs h=>b.tup x xs (a.tup x xs h),λx o u h=>b.frz x o u (a.frz x o u h)⟩
theorem aQ.new {H:Hp} {p:Addr} (hp:H p=none) (o:HO):aQ H (upd H p o):=
 ⟨λ_ _ h=>by rw[aT (bf h hp)];exact h,λ_ _ _ h=>by rw[aT (bf h hp)];exact h⟩
theorem aQ.lst {H:Hp} {p:Addr} {xs:List V} (hp:H p=some (.lst xs)) (o:HO):aQ H (upd H p o):=
 ⟨λ_ _ h=>by rw[aT (jk h hp (by intro z;cases z))];exact h,λ_ _ _ h=>by rw[aT (jk h hp (by intro z;cases z))];exact h⟩
mutual
inductive cf (K:yav) (H:Hp):W->V->Prop where
 | non:cf K H .non .non
 | bl (b:Bool):cf K H (.bl b) (.bl b)
 | int (i:Int):cf K H (.int i) (.int i)
 | str (x:Str):cf K H (.str x) (.str x)
 | ref (a:Addr):cf K H (.ref a) (.ref a)
 | tup {a:Addr} {ws:List W} {xs:List V} (h:H a=some (.tup xs)) (r:aK K H ws xs):cf K H (.tup ws) (.ref a)
 | scr {a:Addr} {ns:List Int} (h:we K H a ns):cf K H (.scr ns) (.ref a)
inductive aK (K:yav) (H:Hp):List W->List V->Prop where
 | nil:aK K H [] []
 | cons {w:W} {v:V} {ws:List W} {vs:List V} (r:cf K H w v) (rs:aK K H ws vs):aK K H (w::ws) (v::vs)
end
section
variable {K:yav} {H H1:Hp}
theorem we.mono {ns:List Int} (t:aQ H H1) (h:we K H a ns):we K H1 a ns:=by
 rcases h with⟨o,h⟩ | h
 ·exact .inl ⟨o,t.frz _ _ _ h⟩
 ·exact .inr h
mutual
theorem cf.mono (t:aQ H H1):∀{w:W} {v:V},cf K H w v->cf K H1 w v
 | _,_,.non=> .non
 | _,_,.bl b=> .bl b
 | _,_,.int i=> .int i
 | _,_,.str x=> .str x
 | _,_,.ref a=> .ref a
 | _,_,.tup h r=> .tup (t.tup _ _ h) (aK.mono t r)
 | _,_,.scr h=> .scr (h.mono t)
theorem aK.mono (t:aQ H H1):∀{ws:List W} {vs:List V},aK K H ws vs->aK K H1 ws vs
 | _,_,.nil=> .nil
 | _,_,.cons r rs=> .cons (cf.mono t r) (aK.mono t rs)
end
theorem aK.length:∀{ws:List W} {vs:List V},aK K H ws vs->ws.length=vs.length
 | _,_,.nil=>rfl
 | _,_,.cons _ rs=>congrArg (·+1) rs.length
theorem aK.append:∀{ws us:List W} {vs xs:List V},aK K H ws vs->aK K H us xs->aK K H (ws++us) (vs++xs)
 | _,_,_,_,.nil,s=>s
 | _,_,_,_,.cons r rs,s=> .cons r (rs.append s)
theorem aK.take:∀{ws:List W} {vs:List V} (n:Nat),aK K H ws vs->aK K H (ws.take n) (vs.take n)
 | _,_,0,_=> .nil
 | _,_,_+1,.nil=> .nil
 | _,_,n+1,.cons r rs=> .cons r (rs.take n)
theorem aK.drop:∀{ws:List W} {vs:List V} (n:Nat),aK K H ws vs->aK K H (ws.drop n) (vs.drop n)
 | _,_,0,r=>r
 | _,_,_+1,.nil=> .nil
 | _,_,n+1,.cons _ rs=>rs.drop n
theorem aK.get:∀{ws:List W} {vs:List V} {i:Nat} {w:W},aK K H ws vs->ws[i]?=some w->∃v,vs[i]?=some v/\cf K H w v
 | _,_,_,_,.nil,e=>by simp at e
 | _,_,0,_,.cons r _,e=>by simp at e;subst e;exact⟨_,rfl,r⟩
 | _,_,i+1,w,.cons _ rs,e=>by
   obtain⟨v,h1,h2⟩:=aK.get (i:=i) (w:=w) rs (by simpa using e);exact⟨v,by simpa using h1,h2⟩
theorem aK.ints:∀ns:List Int,aK K H (ns.map W.int) (ns.map V.int)
 | []=> .nil
 | n::ns=> .cons (.int n) (aK.ints ns)
end
noncomputable abbrev Cb:List Value:=[.type "ValueError",.type "Exception",.type "BaseException",.type "object"]
structure XC (K:yav) (C:Addr) (bm:yez):Prop where
 obj:∀h:Heap,K.In h->∃N nm qn bs hdct sn sub ab col dd k0 k1 k2 k3 k5 mN,h.get? C=some (excClassObj nm qn C N bs bm hdct sn sub ab col dd k0 k1 k2 k3 k5 "ValueError.__new__")/\h.Ns N mN/\mN "__init__"=none/\OwnTail h Cb bm
 mro:∀v,PySem.W.mroIn K C v=some ((Value.ref C::bm).contains v)
structure XQ (K:yav) (C:Addr):Prop where
 ga:findIn K (.ref C) "__getattribute__"=some (some (.builtin "BaseException.__getattribute__"))
 gx:findIn K (.ref C) "__getattr__"=some none
 gc:findIn K (.ref C) "__class__"=some (some (.builtin "object.__class__"))
structure XD (K:yav) (D:Addr):Prop where
 cls:∃cd,PySem.W.clsIn K D=some cd
 ty:PySem.W.typeIn K (.ref D)=some (.type "type")
 ins:PySem.W.instIn K (.ref D) (.type "type")=some true
structure XO (K:yav) (C:Addr):Prop where
 c:∃bm,XC K C bm
 q:XQ K C
 d:XD K C
noncomputable def xF (K:yav) (H:Hp) (a:Addr):GO->Prop
 | .lst ws=>ws.length<=100000/\∃xs,H a=some (.lst xs)/\aK K H ws xs
 | .dct=>H a=some (.dK [])
 | .exc C=>XO K C/\H a=some (.ext λh=>∃o,h.get? a=some o/\o.cls=.ref C)
 | .dic kvs=>kvs.length<=100000/\∃kvs',H a=some (.dK kvs')/\kvs'.map (·.1)=kvs.map (·.1)/\aK K H (kvs.map (·.2)) (kvs'.map (·.2))
 | .fdc o us kvs=>kvs.length<=100000/\H a=some (.frz o (.dK us))/\us.map (·.1)=kvs.map (·.1)/\aK K H (kvs.map (·.2)) (us.map (·.2))
 | .ins C fs=>fs.length<=100/\∃dx fs',H a=some (.ins C dx fs')/\fs'.map (·.1)=fs.map (·.1)/\aK K H (fs.map (·.2)) (fs'.map (·.2))
 | .tbl ps=>H a=some (.tbl ps)
 | .any P=>P H a/\(∃o,H a=some o)/\∀H1 H2:Hp,aQ H1 H2->H2 a=H1 a->P H1 a->P H2 a
noncomputable def aI (K:yav) (H:Hp) (G:Gp):Prop:=∀a g,G a=some g->xF K H a g
section
variable {K:yav} {H H1:Hp} {G:Gp} {p a:Addr} {g:GO}
theorem xF.has (h:xF K H a g):∃o,H a=some o:=by
 cases g with
 | lst ws=>obtain⟨_,_,e,_⟩:=h;exact⟨_,e⟩
 | dct=>exact⟨_,h⟩
 | exc C=>exact⟨_,h.2⟩
 | dic kvs=>obtain⟨_,_,e,_⟩:=h;exact⟨_,e⟩
 | fdc o us kvs=>obtain⟨_,e,_⟩:=h;exact⟨_,e⟩
 | ins C fs=>obtain⟨_,_,_,e,_⟩:=h;exact⟨_,e⟩
 | tbl ps=>exact⟨_,h⟩
 | any P=>exact h.2.1
theorem xF.mono (t:aQ H H1) (e:H1 a=H a) (h:xF K H a g):xF K H1 a g:=by
 cases g with
 | lst ws=>obtain⟨l,xs,e1,r⟩:=h;exact⟨l,xs,e.trans e1,r.mono t⟩
 | dct=>exact e.trans h
 | exc C=>exact⟨h.1,e.trans h.2⟩
 | dic kvs=>obtain⟨l,xs,e1,n,r⟩:=h;exact⟨l,xs,e.trans e1,n,r.mono t⟩
 | fdc o us kvs=>obtain⟨l,e1,n,r⟩:=h;exact⟨l,e.trans e1,n,r.mono t⟩
 | ins C fs=>obtain⟨l,dx,xs,e1,n,r⟩:=h;exact⟨l,dx,xs,e.trans e1,n,r.mono t⟩
 | tbl ps=>exact e.trans h
 | any P=>exact⟨h.2.2 _ _ t e h.1,(let ⟨o,e1⟩:=h.2.1;⟨o,e.trans e1⟩),h.2.2⟩
theorem aI.fresh (h:aI K H G) (hp:H p=none):G p=none:=by
 cases e:G p with
 | none=>rfl
 | some g=>
   obtain⟨o,e1⟩:=(h p _ e).has;rw[hp] at e1;cases e1
theorem aI.upd (h:aI K H G) (t:aQ H (upd H p o)) (hG:G p=none):aI K (L2.upd H p o) G:=λa g e=>by
 have hne:a≠p:=λz=>by rw[z,hG] at e;cases e
 exact(h a g e).mono t (aT hne)
theorem aI.keep (h:aI K H G) (hp:H p=none) (o:HO):aI K (L2.upd H p o) G:=h.upd (aQ.new hp o) (h.fresh hp)
theorem aI.lay (h:aI K H G) {o:HO} (t:aQ H (L2.upd H p o)) (n:xF K (L2.upd H p o) p g):aI K (L2.upd H p o) (aV G p g):=λa g' e=>by
 by_cases hb:a=p
 ·subst hb;rw[al] at e;cases e;exact n
 ·rw[aO hb] at e;exact(h a g' e).mono t (aT hb)
theorem aI.put (h:aI K H G) {xs:List V} {ws:List W} (t:aQ H (L2.upd H p (.lst xs))) (r:aK K H ws xs) (hl:ws.length<=100000):aI K (L2.upd H p (.lst xs)) (aV G p (.lst ws)):=h.lay t ⟨hl,xs,bw,r.mono t⟩
noncomputable def aL (G0 G:Gp):Prop:=∀a g,G0 a=some g->G a=some g
theorem aI.le {G0:Gp} (h:aI K H G) (l:aL G0 G):aI K H G0:=λa g e=>h a g (l a g e)
theorem aL.refl (G:Gp):aL G G:=λ_ _ h=>h
theorem aL.trans {G0 G1 G2:Gp} (a:aL G0 G1) (b:aL G1 G2):aL G0 G2:=λx g h=>b x g (a x g h)
theorem aL.new {g:GO} (hp:G p=none):aL G (aV G p g):=λa u e=>by
 rw[aO (λz=>by rw[z,hp] at e;cases e)];exact e
end
noncomputable abbrev de:=List (Option W)
noncomputable def bq (K:yav) (H:Hp) (τ:de) (σ:St):Prop:=τ.length=σ.length/\∀(i:Nat) (w:W),τ[i]?=some (some w)->∃v,σ[i]?=some (some v)/\cf K H w v
section
variable {K:yav} {H H1:Hp} {τ:de} {σ:St}
theorem bq.mono (t:aQ H H1) (h:bq K H τ σ):bq K H1 τ σ:=⟨h.1,λi w e=>let ⟨v,e1,r⟩:=h.2 i w e;⟨v,e1,r.mono t⟩⟩
theorem bq.set (h:bq K H τ σ) {w:W} {v:V} (r:cf K H w v) (i:Nat):bq K H (τ.set i (some w)) (σ.set i (some v)):=by
 refine⟨by simpa using h.1,λj u e=>?_⟩
 by_cases hj:i=j
 ·subst hj
  by_cases hl:i<τ.length
  ·rw[List.getElem?_set_self hl] at e;cases e;exact⟨v,List.getElem?_set_self (by rw[←h.1];exact hl),r⟩
  ·rw[List.getElem?_eq_none (by simpa using hl)] at e;cases e
 ·rw[List.getElem?_set_ne hj] at e;obtain⟨u',e1,r1⟩:=h.2 j u e;exact⟨u',by rw[List.getElem?_set_ne hj];exact e1,r1⟩
theorem bq.start {N:List Str} {ws:List W} {vs:List V} (r:aK K H ws vs):bq K H (ws.map some++List.replicate (N.length-ws.length) none) (L2.start N vs):=by
 unfold L2.start;refine⟨by simp[r.length],λi w e=>?_⟩
 by_cases hi:i<ws.length
 ·rw[List.getElem?_append_left (by simpa using hi),List.getElem?_map] at e;cases e1:ws[i]? with
  | none=>rw[e1] at e;cases e
  | some u=>
    rw[e1] at e;cases e;obtain⟨v,e2,rv⟩:=r.get e1;refine⟨v,?_,rv⟩;rw[List.getElem?_append_left (by simpa[←r.length] using hi),List.getElem?_map,e2]
    rfl
 ·rw[List.getElem?_append_right (by simpa using hi),List.getElem?_replicate] at e;split at e<;> cases e
end
noncomputable abbrev WK:=W->Gp->Prop
noncomputable abbrev WE:=de->Gp->WK->Prop
noncomputable abbrev WT:=de->Gp->(Bool->Gp->Prop)->Prop
noncomputable abbrev WA:=de->Gp->(List W->Gp->Prop)->Prop
structure dU where
 nx:de->Gp->Prop
 rt:WK
 bk:de->Gp->Prop:=λ_ _=>False
 ct:de->Gp->Prop:=λ_ _=>False
noncomputable abbrev WS:=dU->de->Gp->Prop
noncomputable abbrev WG:=W->de->Gp->(de->Gp->Prop)->Prop
noncomputable abbrev wf:=List W->de->Gp->(de->Gp->Prop)->Prop
noncomputable def gE (K:yav) (t:WE):TE:=λσ H Q=>∃τ G q,bq K H τ σ/\aI K H G/\t τ G q/\∀v H1 w G1,aQ H H1->cf K H1 w v->aI K H1 G1->q w G1->Q v H1
noncomputable def xG (K:yav) (t:WT):TT:=λσ H Q=>∃τ G q,bq K H τ σ/\aI K H G/\t τ G q/\∀b H1 G1,aQ H H1->aI K H1 G1->q b G1->Q b H1
noncomputable def LA (K:yav) (t:WA):TA:=λσ H Q=>∃τ G q,bq K H τ σ/\aI K H G/\t τ G q/\∀vs H1 ws G1,aQ H H1->aK K H1 ws vs->aI K H1 G1->q ws G1->Q vs H1
structure lE (K:yav) (H:Hp) (d:dU) (D:lr):Prop where
 nx:∀σ1 H1 τ1 G1,aQ H H1->bq K H1 τ1 σ1->aI K H1 G1->d.nx τ1 G1->D.nx σ1 H1
 rt:∀v H1 w G1,aQ H H1->cf K H1 w v->aI K H1 G1->d.rt w G1->D.rt v H1
 bk:∀σ1 H1 τ1 G1,aQ H H1->bq K H1 τ1 σ1->aI K H1 G1->d.bk τ1 G1->D.bk σ1 H1
 ct:∀σ1 H1 τ1 G1,aQ H H1->bq K H1 τ1 σ1->aI K H1 G1->d.ct τ1 G1->D.ct σ1 H1
noncomputable def LS (K:yav) (t:WS):TS:=λD σ H=>∃τ G d,bq K H τ σ/\aI K H G/\t d τ G/\lE K H d D
theorem gE.el {t:WE} {σ:St} {H:Hp} {Q:VK} {P:Prop} (h:gE K t σ H Q) (k:∀(τ:de) (G:Gp) (q:WK),bq K H τ σ->aI K H G->t τ G q->(∀v H1 w G1,aQ H H1->cf K H1 w v->aI K H1 G1->q w G1->Q v H1)->P):P:=by
 obtain⟨τ,G,q,a,b,c,d⟩:=h;exact k τ G q a b c d
theorem xG.el {t:WT} {σ:St} {H:Hp} {Q:Bool->Hp->Prop} {P:Prop} (h:xG K t σ H Q) (k:∀(τ:de) (G:Gp) (q:Bool->Gp->Prop),bq K H τ σ->aI K H G->t τ G q->(∀b H1 G1,aQ H H1->aI K H1 G1->q b G1->Q b H1)->P):P:=by
 obtain⟨τ,G,q,a,b,c,d⟩:=h;exact k τ G q a b c d
theorem LA.el {t:WA} {σ:St} {H:Hp} {Q:List V->Hp->Prop} {P:Prop} (h:LA K t σ H Q) (k:∀(τ:de) (G:Gp) (q:List W->Gp->Prop),bq K H τ σ->aI K H G->t τ G q->(∀vs H1 ws G1,aQ H H1->aK K H1 ws vs->aI K H1 G1->q ws G1->Q vs H1)->P):P:=by
 obtain⟨τ,G,q,a,b,c,d⟩:=h;exact k τ G q a b c d
theorem LS.el {t:WS} {D:lr} {σ:St} {H:Hp} {P:Prop} (h:LS K t D σ H) (k:∀(τ:de) (G:Gp) (d:dU),bq K H τ σ->aI K H G->t d τ G->lE K H d D->P):P:=by
 obtain⟨τ,G,q,a,b,c,d⟩:=h;exact k τ G q a b c d
noncomputable def LG (K:yav) (t:WG):TG:=λv σ H Q=>∃w τ G q,cf K H w v/\bq K H τ σ/\aI K H G/\t w τ G q/\∀σ1 H1 τ1 G1,aQ H H1->bq K H1 τ1 σ1->aI K H1 G1->q τ1 G1->Q σ1 H1
noncomputable def DI (K:yav) (t:wf):tU:=λvs σ H Q=>∃ws τ G q,aK K H ws vs/\bq K H τ σ/\aI K H G/\t ws τ G q/\∀σ1 H1 τ1 G1,aQ H H1->bq K H1 τ1 σ1->aI K H1 G1->q τ1 G1->Q σ1 H1
noncomputable def QE (X:Cx) (e:Expr) (t:WE):Prop:=PE X e (gE X.K t)
noncomputable def QT (X:Cx) (e:Expr) (t:WT):Prop:=PT X e (xG X.K t)
noncomputable def QW (X:Cx) (e:Expr) (t:WT):Prop:=PW X e (xG X.K t)
noncomputable def QA (X:Cx) (es:List Expr) (t:WA):Prop:=PA X es (LA X.K t)
noncomputable def QS (X:Cx) (st:Stmt) (t:WS):Prop:=PS X st (LS X.K t)
noncomputable def mQ (X:Cx) (st:List Stmt) (t:WS):Prop:=kZ X st (LS X.K t)
noncomputable def QG (X:Cx) (e:Expr) (t:WG):Prop:=PG X e (LG X.K t)
noncomputable def zn (X:Cx) (es:List Expr) (t:wf):Prop:=v9 X es (DI X.K t)
section
variable {X:Cx}
theorem PE.imp {t t':TE} (h:PE X e t) (f:∀σ H Q,t' σ H Q->t σ H Q):PE X e t':=λπ s σ H Q I q=>h π s σ H Q I (f _ _ _ q)
theorem PT.imp {t t':TT} (h:PT X e t) (f:∀σ H Q,t' σ H Q->t σ H Q):PT X e t':=λπ s σ H Q I q=>h π s σ H Q I (f _ _ _ q)
theorem PW.imp {t t':TT} (h:PW X e t) (f:∀σ H Q,t' σ H Q->t σ H Q):PW X e t':=λwh π s σ H Q I q=>h wh π s σ H Q I (f _ _ _ q)
theorem PA.imp {e:List Expr} {t t':TA} (h:PA X e t) (f:∀σ H Q,t' σ H Q->t σ H Q):PA X e t':=λpos π s σ H Q I q=>h pos π s σ H Q I (f _ _ _ q)
theorem PS.imp {e:Stmt} {t t':TS} (h:PS X e t) (f:∀D σ H,t' D σ H->t D σ H):PS X e t':=λπ s σ H D I q=>h π s σ H D I (f _ _ _ q)
theorem kZ.imp {e:List Stmt} {t t':TS} (h:kZ X e t) (f:∀D σ H,t' D σ H->t D σ H):kZ X e t':=λπ s σ H D I q=>h π s σ H D I (f _ _ _ q)
theorem PG.imp {t t':TG} (h:PG X e t) (f:∀v σ H Q,t' v σ H Q->t v σ H Q):PG X e t':=λπ s σ H v u Q I r q=>h π s σ H v u Q I r (f _ _ _ _ q)
theorem v9.imp {e:List Expr} {t t':tU} (h:v9 X e t) (f:∀v σ H Q,t' v σ H Q->t v σ H Q):v9 X e t':=λπ s σ H v u Q I r q=>h π s σ H v u Q I r (f _ _ _ _ q)
noncomputable def uq (i:Nat):WE:=λτ G q=>match τ[i]? with | some (some w)=>q w G | _=>False
noncomputable def wC (w:W):WE:=λ_ G q=>q w G
theorem aa (i:Nat) (hN:X.N[i]?=some x:=by exact rfl) (hv:BC X.env.scope x:=by exact .inl rfl) (hd:(x==("__debug__":Str))=false:=by decide) (hcd:(x==("__classdict__":Str))=false:=by decide):QE X (.Name x pos) (uq i):=by
 refine(wQ hN hv hd hcd).imp λσ H Q z0=>z0.el λτ G q hs hg ht hQ=>?_;unfold uq at ht;split at ht
 ·rename_i w e;obtain⟨v,e1,r⟩:=hs.2 i w e;exact⟨v,e1,hQ v H w G (aQ.refl H) r hg ht⟩
 ·exact ht.elim
theorem dW {v:V} {w:W} (h:PE X e (tC v)) (r:∀H,cf X.K H w v):QE X e (wC w):=
 h.imp λσ H Q z0=>z0.el λτ G q hs hg ht hQ=>hQ v H w G (aQ.refl H) (r H) hg ht
theorem ah {i j pos}:QE X (.Constant (.int i) j pos) (wC (.int i)):=dW wR λ_=> .int i
theorem eU {b j pos}:QE X (.Constant (.bool b) j pos) (wC (.bl b)):=dW yM λ_=> .bl b
theorem xH {j pos}:QE X (.Constant .none j pos) (wC .non):=dW wS λ_=> .non
theorem aZ {x j pos}:QE X (.Constant (.str x) j pos) (wC (.str x)):=dW j6 λ_=> .str x
noncomputable abbrev W2:=W->W->Gp->WK->Prop
noncomputable def LR (K:yav) (r:W2):R2:=λx y H Q=>∃wx wy G q,cf K H wx x/\cf K H wy y/\aI K H G/\r wx wy G q/\∀v H1 w G1,aQ H H1->cf K H1 w v->aI K H1 G1->q w G1->Q v H1
noncomputable def fm (X:Cx) (f:Value->Value->Sem Value) (r:W2):Prop:=gf X f (LR X.K r)
noncomputable def zo (X:Cx) (r:W2):Prop:=ze X (LR X.K r)
noncomputable def yH (r:W2) (ta tb:WE):WE:=λτ G q=>ta τ G λx G1=>tb τ G1 λy G2=>r x y G2 q
theorem gE.op {r:W2} {ta tb:WE} {σ:St} {H:Hp} {Q:VK} (h:gE K (yH r ta tb) σ H Q):yX (LR K r) (gE K ta) (gE K tb) σ H Q:=by
 obtain⟨τ,G,q,hs,hg,ht,hQ⟩:=h;refine⟨τ,G,_,hs,hg,ht,λv H1 w G1 t1 r1 g1 q1=>?_⟩;refine⟨τ,G1,_,hs.mono t1,g1,q1,λv2 H2 w2 G2 t2 r2 g2 q2=>?_⟩;exact⟨w,w2,G2,q,r1.mono t2,r2,g2,q2,λv3 H3 w3 G3 t3 r3 g3 q3=>hQ v3 H3 w3 G3 ((t1.trans t2).trans t3) r3 g3 q3⟩
theorem aE {op:Operator} {r:W2} {a b:Expr} {ta tb:WE} (ho:fm X (binaryOp op) r) (ha:QE X a ta) (hb:QE X b tb):QE X (.BinOp a op b pos) (yH r ta tb):=
 (yY ho ha hb).imp λ_ _ _ h=>h.op
theorem dA {op:CmpOp} {r:W2} {a b:Expr} {ta tb:WE} (ho:fm X (compareOp op) r) (ha:QE X a ta) (hb:QE X b tb) (hm:behindInMarks op b=false:=by exact qF _):QE X (.Compare a [op] [b] pos) (yH r ta tb):=
 (tZ ho ha hb hm).imp λ_ _ _ h=>h.op
theorem aG {r:W2} {a b:Expr} {ta tb:WE} (ho:zo X r) (ha:QE X a ta) (hb:QE X b tb) (hs:oh b:=by exact λ_ _=>rfl):QE X (.Subscript a b pos) (yH r ta tb):=
 (zg ho ha hb hs).imp λ_ _ _ h=>h.op
noncomputable def lF (t:WE):WT:=λτ G q=>t τ G λx G1=>match x with | .bl b=>q b G1 | _=>False
theorem xG.test {t:WE} {σ:St} {H:Hp} {Q:Bool->Hp->Prop} (h:xG K (lF t) σ H Q):qG (gE K t) σ H Q:=by
 obtain⟨τ,G,q,hs,hg,ht,hQ⟩:=h;refine⟨τ,G,_,hs,hg,ht,λv H1 w G1 t1 r1 g1 q1=>?_⟩;split at q1
 ·rename_i b;cases r1;exact⟨b,rfl,hQ b H1 G1 t1 g1 q1⟩
 ·exact q1.elim
theorem aw {op:CmpOp} {r:W2} {a b:Expr} {ta tb:WE} (ho:fm X (compareOp op) r) (ha:QE X a ta) (hb:QE X b tb) (hm:behindInMarks op b=false:=by exact qF _):QT X (.Compare a [op] [b] pos) (lF (yH r ta tb)):=
 (t9 ho ha hb hm).imp λσ H Q h=>by
   obtain⟨τ,G,q,hs,hg,ht,hQ⟩:=h.test;exact gE.op ⟨τ,G,q,hs,hg,ht,hQ⟩
theorem bQ {t:WE} (h:QE X e t) (he:∀whole,isTrue e X.env whole=(do let v ←whole;standAt e.pos;holding [v] (truthy v)):=by intro _;rfl):QT X e (lF t):=
 (wT h he).imp λσ H Q h=>h.test
noncomputable def zq (t u:WT):WT:=λτ G q=>t τ G λc G1=>if c=true then u τ G1 q else q false G1
noncomputable def Dt (t u:WT):WT:=λτ G q=>t τ G λc G1=>if c=true then q true G1 else u τ G1 q
noncomputable def zt (t:WT):WT:=λτ G q=>t τ G λc G1=>q (!c) G1
theorem fo {a:Expr} {t:WT} (ha:QT X a t):QW X (.BoolOp .And [a] pos) t:=tR ha
theorem dB {a:Expr} {t:WT} (ha:QT X a t):QW X (.BoolOp .Or [a] pos) t:=wU ha
theorem gF {a b:Expr} {rest:List Expr} {t u:WT} (ha:QT X a t) (hb:QW X (.BoolOp .And (b::rest) pos) u):QW X (.BoolOp .And (a::b::rest) pos) (zq t u):=
 (wV ha hb).imp λσ H Q z0=>z0.el λτ G q hs hg ht hQ=>⟨τ,G,_,hs,hg,ht,λc H1 G1 t1 g1 q1=>by
   cases c with
   | true=>rw[ycv rfl] at q1 ⊢;exact⟨τ,G1,q,hs.mono t1,g1,q1,λb H2 G2 t2 g2 q2=>hQ b H2 G2 (t1.trans t2) g2 q2⟩
   | false=>rw[ycw ydx] at q1 ⊢;exact hQ false H1 G1 t1 g1 q1⟩
theorem eV {a b:Expr} {rest:List Expr} {t u:WT} (ha:QT X a t) (hb:QW X (.BoolOp .Or (b::rest) pos) u):QW X (.BoolOp .Or (a::b::rest) pos) (Dt t u):=
 (yN ha hb).imp λσ H Q z0=>z0.el λτ G q hs hg ht hQ=>⟨τ,G,_,hs,hg,ht,λc H1 G1 t1 g1 q1=>by
   cases c with
   | true=>rw[ycv rfl] at q1 ⊢;exact hQ true H1 G1 t1 g1 q1
   | false=>rw[ycw ydx] at q1 ⊢;exact⟨τ,G1,q,hs.mono t1,g1,q1,λb H2 G2 t2 g2 q2=>hQ b H2 G2 (t1.trans t2) g2 q2⟩⟩
theorem eW {t:WT} (h:QW X e t):QT X e t:=PW.pt h
theorem dg {a:Expr} {t:WT} (ha:QT X a t):QT X (.UnaryOp .Not a pos) (zt t):=
 (wW ha).imp λσ H Q z0=>z0.el λτ G q hs hg ht hQ=>⟨τ,G,_,hs,hg,ht,λc H1 G1 t1 g1 q1=>hQ (!c) H1 G1 t1 g1 q1⟩
noncomputable def wg (ta tb:WE):WE:=λτ G q=>ta τ G λx G1=>match x with | .bl c=>if c=true then tb τ G1 q else q (.bl false) G1 | _=>False
noncomputable def zu (ta tb:WE):WE:=λτ G q=>ta τ G λx G1=>match x with | .bl c=>if c=true then q (.bl true) G1 else tb τ G1 q | _=>False
noncomputable def wj (ta:WE):WE:=λτ G q=>ta τ G λx G1=>match x with | .bl c=>q (.bl (!c)) G1 | _=>False
theorem kh {a:Expr} {op} {t:WE} (h:QE X a t):QE X (.BoolOp op [a] pos) t:=wX h
theorem ki {a b:Expr} {rest:List Expr} {ta tb:WE} (ha:QE X a ta) (hb:QE X (.BoolOp .And (b::rest) pos) tb):QE X (.BoolOp .And (a::b::rest) pos) (wg ta tb):=
 (wY ha hb).imp λσ H Q z0=>z0.el λτ G q hs hg ht hQ=>⟨τ,G,_,hs,hg,ht,λv H1 w G1 t1 r1 g1 q1=>by
   split at q1
   ·rename_i c;cases r1;refine⟨c,rfl,?_⟩;cases c with
    | true=>rw[ycv rfl] at q1 ⊢;exact⟨τ,G1,q,hs.mono t1,g1,q1,λv2 H2 w2 G2 t2 r2 g2 q2=>hQ v2 H2 w2 G2 (t1.trans t2) r2 g2 q2⟩
    | false=>rw[ycw ydx] at q1 ⊢;exact hQ _ H1 _ G1 t1 (.bl false) g1 q1
   ·exact q1.elim⟩
theorem rh {a b:Expr} {rest:List Expr} {ta tb:WE} (ha:QE X a ta) (hb:QE X (.BoolOp .Or (b::rest) pos) tb):QE X (.BoolOp .Or (a::b::rest) pos) (zu ta tb):=
 (yQ ha hb).imp λσ H Q z0=>z0.el λτ G q hs hg ht hQ=>⟨τ,G,_,hs,hg,ht,λv H1 w G1 t1 r1 g1 q1=>by
   split at q1
   ·rename_i c;cases r1;refine⟨c,rfl,?_⟩;cases c with
    | true=>rw[ycv rfl] at q1 ⊢;exact hQ _ H1 _ G1 t1 (.bl true) g1 q1
    | false=>rw[ycw ydx] at q1 ⊢;exact⟨τ,G1,q,hs.mono t1,g1,q1,λv2 H2 w2 G2 t2 r2 g2 q2=>hQ v2 H2 w2 G2 (t1.trans t2) r2 g2 q2⟩
   ·exact q1.elim⟩
theorem xI {a:Expr} {ta:WE} (ha:QE X a ta):QE X (.UnaryOp .Not a pos) (wj ta):=
 (wZ ha).imp λσ H Q z0=>z0.el λτ G q hs hg ht hQ=>⟨τ,G,_,hs,hg,ht,λv H1 w G1 t1 r1 g1 q1=>by
   split at q1
   ·rename_i c;cases r1;exact⟨c,rfl,hQ _ H1 _ G1 t1 (.bl _) g1 q1⟩
   ·exact q1.elim⟩
noncomputable def zv (c:WT) (ta tb:WE):WE:=λτ G q=>c τ G λb G1=>if b=true then ta τ G1 q else tb τ G1 q
theorem gj {c a b:Expr} {tc:WT} {ta tb:WE} (hc:QT X c tc) (ha:QE X a ta) (hb:QE X b tb):QE X (.IfExp c a b pos) (zv tc ta tb):=
 (qA hc ha hb).imp λσ H Q z0=>z0.el λτ G q hs hg ht hQ=>⟨τ,G,_,hs,hg,ht,λc H1 G1 t1 g1 q1=>by
   cases c with
   | true=>rw[ycv rfl] at q1 ⊢;exact⟨τ,G1,q,hs.mono t1,g1,q1,λv2 H2 w2 G2 t2 r2 g2 q2=>hQ v2 H2 w2 G2 (t1.trans t2) r2 g2 q2⟩
   | false=>rw[ycw ydx] at q1 ⊢;exact⟨τ,G1,q,hs.mono t1,g1,q1,λv2 H2 w2 G2 t2 r2 g2 q2=>hQ v2 H2 w2 G2 (t1.trans t2) r2 g2 q2⟩⟩
noncomputable def rl:WA:=λ_ G q=>q [] G
noncomputable def wk (ta:WE) (tr:WA):WA:=λτ G q=>ta τ G λx G1=>tr τ G1 λxs G2=>q (x::xs) G2
theorem ag:QA X [] rl:=pa_nil.imp λσ H Q z0=>z0.el λτ G q hs hg ht hQ=>hQ [] H [] G (aQ.refl H) .nil hg ht
theorem ae {te:WE} {t:WA} (ha:QE X e te) (hr:QA X es t) (hs:starEach (e::es) X.env=(false,eval e X.env)::starEach es X.env:=by rfl):QA X (e::es) (wk te t):=
 (eh ha hr hs).imp λσ H Q z0=>z0.el λτ G q hs hg ht hQ=>⟨τ,G,_,hs,hg,ht,λv H1 w G1 t1 r1 g1 q1=>
   ⟨τ,G1,_,hs.mono t1,g1,q1,λvs H2 ws G2 t2 r2 g2 q2=>hQ (v::vs) H2 (w::ws) G2 (t1.trans t2) (.cons (r1.mono t2) r2) g2 q2⟩⟩
theorem bI {n:Nat} (h:n<=100000):n<=sizeLine:=by rw[sizeLine_eq];lia
noncomputable def zw (t:WA):WE:=λτ G q=>t τ G λws G1=>ws.length<=100000/\q (.tup ws) G1
noncomputable def zx (t:WA):WE:=λτ G q=>t τ G λws G1=>ws.length<=100000/\∀p,G1 p=none->q (.ref p) (aV G1 p (.lst ws))
theorem aJ {x1} {t:WA} (h:QA X es t):QE X (.Tuple es x1 pos) (zw t):=
 (xq h).imp λσ H Q z0=>z0.el λτ G q hs hg ht hQ=>⟨τ,G,_,hs,hg,ht,λvs H1 ws G1 t1 r1 g1 q1=>
   ⟨by rw[←r1.length];exact bI q1.1,λp hp=>hQ _ _ _ G1 (t1.trans (aQ.new hp _)) (.tup bw (r1.mono (aQ.new hp _))) (g1.keep hp _) q1.2⟩⟩
theorem dC {t:WA} (h:QA X es t):QE X (.List es pos) (zx t):=
 (xt h).imp λσ H Q z0=>z0.el λτ G q hs hg ht hQ=>⟨τ,G,_,hs,hg,ht,λvs H1 ws G1 t1 r1 g1 q1=>
   ⟨by rw[←r1.length];exact bI q1.1,λp hp=>hQ _ _ _ _ (t1.trans (aQ.new hp _)) (.ref p) (g1.put (aQ.new hp _) r1 q1.1) (q1.2 p (g1.fresh hp))⟩⟩
noncomputable def wm:WS:=λd τ G=>d.nx τ G
noncomputable def xJ (t u:WS):WS:=λd τ G=>t { d with nx:=u d } τ G
theorem lE.mono {H H1:Hp} {d:dU} {D:lr} (l:lE K H d D) (t:aQ H H1):lE K H1 d D:=
 ⟨λσ2 H2 τ2 G2 t2=>l.nx σ2 H2 τ2 G2 (t.trans t2),λv H2 w G2 t2=>l.rt v H2 w G2 (t.trans t2),λσ2 H2 τ2 G2 t2=>l.bk σ2 H2 τ2 G2 (t.trans t2),λσ2 H2 τ2 G2 t2=>l.ct σ2 H2 τ2 G2 (t.trans t2)⟩
theorem af:mQ X [] wm:=pss_nil.imp λD σ H z0=>z0.el λτ G d hs hg ht l=>l.nx σ H τ G (aQ.refl H) hs hg ht
theorem ac {rest:List Stmt} {t u:WS} (h1:QS X st t) (h2:mQ X rest u):mQ X (st::rest) (xJ t u):=
 (qB h1 h2).imp λD σ H z0=>z0.el λτ G d hs hg ht l=>⟨τ,G,_,hs,hg,ht,⟨λσ1 H1 τ1 G1 t1 s1 g1 q1=>⟨τ1,G1,d,s1,g1,q1,l.mono t1⟩,l.rt,l.bk,l.ct⟩⟩
theorem bp {t:WS} (h1:QS X st t):mQ X [st] t:=tS h1
noncomputable def wn (te:WE):WS:=λd τ G=>te τ G λ_ G1=>d.nx τ G1
theorem bB {te:WE} (he:QE X e te) (hs:swapsWith e none pos.line X.env=pure false:=by rfl):QS X (.Expr e pos) (wn te):=
 (tT he hs).imp λD σ H z0=>z0.el λτ G d hs hg ht l=>⟨τ,G,_,hs,hg,ht,λv H1 w G1 t1 r1 g1 q1=>l.nx σ H1 τ G1 t1 (hs.mono t1) g1 q1⟩
noncomputable def xK (te:WE):WS:=λd τ G=>te τ G d.rt
theorem aq {te:WE} (he:QE X e te):QS X (.Return (some e) pos) (xK te):=
 (w6 he).imp λD σ H z0=>z0.el λτ G d hs hg ht l=>⟨τ,G,_,hs,hg,ht,λv H1 w G1 t1 r1 g1 q1=>l.rt v H1 w G1 t1 r1 g1 q1⟩
noncomputable def Du (c:WT) (t u:WS):WS:=λd τ G=>c τ G λb G1=>if b=true then t d τ G1 else u d τ G1
theorem aW {c:Expr} {a b:List Stmt} {tc:WT} {t u:WS} (hc:QT X c tc) (ha:mQ X a t) (hb:mQ X b u):QS X (.If c a b pos) (Du tc t u):=
 (yU hc ha hb).imp λD σ H z0=>z0.el λτ G d hs hg ht l=>⟨τ,G,_,hs,hg,ht,λc H1 G1 t1 g1 q1=>by
   cases c with
   | true=>rw[ycv rfl] at q1 ⊢;exact⟨τ,G1,d,hs.mono t1,g1,q1,l.mono t1⟩
   | false=>rw[ycw ydx] at q1 ⊢;exact⟨τ,G1,d,hs.mono t1,g1,q1,l.mono t1⟩⟩
noncomputable def eR (i:Nat):WG:=λw τ G q=>q (τ.set i (some w)) G
theorem ck (i:Nat) (hN:X.N.Nodup) (hi:X.N[i]?=some x) (hx:v7 X.env.scope x) (hf:X.fn x=true∨X.env.scope.names.lookup x=some .local:=by first | exact .inl rfl | exact .inr rfl | assumption):QG X (.Name x pos) (eR i):=
 (tV hN hi hx hf).imp λv σ H Q ⟨w,τ,G,q,r,hs,hg,ht,hQ⟩=>hQ _ H _ G (aQ.refl H) (hs.set r i) hg ht
noncomputable def rm:wf:=λws τ G q=>match ws with | []=>q τ G | _=>False
noncomputable def ju (t:WG) (u:wf):wf:=λws τ G q=>match ws with | w::r=>t w τ G λτ1 G1=>u r τ1 G1 q | []=>False
theorem ik:zn X [] rm:=pgs_nil.imp λvs σ H Q ⟨ws,τ,G,q,r,hs,hg,ht,hQ⟩=>by
 unfold rm at ht;cases r with
 | nil=>exact⟨rfl,hQ σ H τ G (aQ.refl H) hs hg ht⟩
 | cons _ _=>exact ht.elim
theorem cW {t:WG} {u:wf} (h1:QG X e t) (h2:zn X es u)
 (hs:(assignEach (e::es) X.env).map (·.2)=assign e X.env::(assignEach es X.env).map (·.2):=by rfl):zn X (e::es) (ju t u):=
 (qC h1 h2 hs).imp λvs σ H Q ⟨ws,τ,G,q,r,hs,hg,ht,hQ⟩=>by
   unfold ju at ht;cases r with
   | nil=>exact ht.elim
   | cons r rs=>
     exact⟨_,_,rfl,_,τ,G,_,r,hs,hg,ht,λσ1 H1 τ1 G1 t1 s1 g1 q1=>⟨_,τ1,G1,q,rs.mono t1,s1,g1,q1,λσ2 H2 τ2 G2 t2=>hQ σ2 H2 τ2 G2 (t1.trans t2)⟩⟩
noncomputable def rn (n:Nat) (t:wf):WG:=λw τ G q=>match w with | .tup ws=>ws.length=n/\t ws τ G q | _=>False
theorem kj {t:wf} (hc:X.calm=true) (h:zn X es t)
 (hn:(assignEach es X.env).length=es.length:=by rfl) (hst:(assignEach es X.env).findIdx? (·.1)=none:=by rfl):QG X (.Tuple es k pos) (rn es.length t):=
 (w9 hc h hn hst).imp λv σ H Q ⟨w,τ,G,q,r,hs,hg,ht,hQ⟩=>by
   unfold rn at ht;cases r with
   | tup h r=>exact⟨_,_,rfl,dq.of h,by rw[←r.length];exact ht.1,_,τ,G,q,r,hs,hg,ht.2,hQ⟩
   | _=>exact ht.elim
noncomputable def xL (te:WE) (g:WG):WS:=λd τ G=>te τ G λx G1=>g x τ G1 d.nx
theorem aA (i:Nat) {te:WE} {pos' pos:Pos} (hN:X.N.Nodup) (hi:X.N[i]?=some x) (hx:v7 X.env.scope x) (he:QE X e te) (hs:swapsWith e (some (.Name x pos')) pos.line X.env=pure false:=by rfl) (hf:X.fn x=true∨X.env.scope.names.lookup x=some .local:=by first | exact .inl rfl | exact .inr rfl | assumption):
 QS X (.Assign [.Name x pos'] e pos) (xL te (eR i)):=
 (xb hN hi hx he hs hf).imp λD σ H z0=>z0.el λτ G d hs hg ht l=>
   ⟨τ,G,_,hs,hg,ht,λv H1 w G1 t1 r1 g1 q1=>l.nx _ H1 _ G1 t1 ((hs.mono t1).set r1 i) g1 q1⟩
noncomputable def ro (c:WT) (tb:WS):WS:=λd τ G=>∃I:Nat->de->Gp->Prop,(∃m,I m τ G)/\∀m τ G,I m τ G->
 c τ G λb G1=>if b=true then ∃N:de->Gp->Prop,(∀τ1 G1,N τ1 G1->∃m1,m1<m/\I m1 τ1 G1)/\tb { d with nx:=N,ct:=N,bk:=d.nx } τ G1 else d.nx τ G1
theorem eX {c:Expr} {tc:WT} {tb:WS} (hp:PassesOwn (model X.prog X.w) X.A X.env X.xe) (hc:QT X c tc) (hb:mQ X body tb):QS X (.While c body [] pos) (ro tc tb):=
 (qD hp hc hb).imp λD σ H ⟨τ,G,d,hs,hg,⟨I,⟨m,i0⟩,turn⟩,l⟩=>by
   refine⟨λm σ1 H1=>∃τ1 G1,aQ H H1/\bq X.K H1 τ1 σ1/\aI X.K H1 G1/\I m τ1 G1,⟨m,τ,G,aQ.refl H,hs,hg,i0⟩,?_⟩;rintro m1 σ1 H1 ⟨τ1,G1,t1,s1,g1,i1⟩;refine⟨τ1,G1,_,s1,g1,turn m1 τ1 G1 i1,λb H2 G2 t2 g2 q2=>?_⟩;cases b with
   | true=>
     rw[ycv rfl] at q2 ⊢;obtain⟨N,hN,q2⟩:=q2;refine⟨λσ3 H3=>∃τ3 G3,aQ H H3/\bq X.K H3 τ3 σ3/\aI X.K H3 G3/\N τ3 G3,?_,τ1,G2,_,s1.mono t2,g2,q2,?_⟩
     ·rintro σ3 H3 ⟨τ3,G3,t3,s3,g3,n3⟩;obtain⟨m3,hm,i3⟩:=hN τ3 G3 n3;exact⟨m3,hm,τ3,G3,t3,s3,g3,i3⟩
     ·have tt:=t1.trans t2;exact⟨λσ3 H3 τ3 G3 t3 s3 g3 q3=>⟨τ3,G3,tt.trans t3,s3,g3,q3⟩,λv H3 w G3 t3=>l.rt v H3 w G3 (tt.trans t3),λσ3 H3 τ3 G3 t3=>l.nx σ3 H3 τ3 G3 (tt.trans t3),λσ3 H3 τ3 G3 t3 s3 g3 q3=>⟨τ3,G3,tt.trans t3,s3,g3,q3⟩⟩
   | false=>
     rw[ycw ydx] at q2 ⊢;exact l.nx σ1 H2 τ1 G2 (t1.trans t2) (s1.mono t2) g2 q2
end
section
variable {X:Cx}
noncomputable abbrev WX:=Value->Gp->Prop
noncomputable abbrev bM:=List W->Gp->WK->WX->Prop
noncomputable def ur (K:yav) (sp:bM):Sp:=λvs H Q E=>∃ws G q e,aK K H ws vs/\aI K H G/\sp ws G q e/\(∀v H1 w G1,aQ H H1->cf K H1 w v->aI K H1 G1->q w G1->Q v H1)/\
 ∀c d H1 G1,aQ H H1->aI K H1 G1->e c G1->E c d H1
noncomputable abbrev cq (P:Program) (w:World) (K:yav) (mg:yew) (base:Heap) (k:Nat) (f:Addr) (fd:FuncData) (ps:List Str) (sp:bM):Prop:=fP P w K mg base re k f fd ps (ur K sp)
noncomputable def gY (sp:bM) (dws:List W) (t:WA):WE:=λτ G q=>t τ G λws G1=>sp (ws++dws) G1 q λ_ _=>False
theorem gE.call {sp:bM} {dws:List W} {dvs:List V} {t:WA} {σ:St} {H:Hp} {Q:VK} {E:XK} (hd:∀H,aK K H dws dvs) (h:gE K (gY sp dws t) σ H Q):qO (ur K sp) dvs E (LA K t) σ H Q:=by
 obtain⟨τ,G,q,hs,hg,ht,hQ⟩:=h;exact⟨τ,G,_,hs,hg,ht,λvs H1 ws G1 t1 r1 g1 q1=>⟨ws++dws,G1,q,_,r1.append (hd H1),g1,q1,λv H2 w G2 t2=>hQ v H2 w G2 (t1.trans t2),λ_ _ _ _ _ _ z=>z.elim⟩⟩
theorem ut {f:Addr} {sp:bM} {p pos:Pos} {t:WA} (F:cq X.prog X.w X.K X.mg X.base k f fd ps sp) (hr:av k X.A) (hg:Gl X x) (hm:X.mg x=some (.ref f))
 (hk:keepIn X.K (.ref f)=true) (hb:bJ X.K fd ps []) (ha:QA X (e::es) t) (hdb:(x==("__debug__":Str))=false:=by decide)
 (he:starEach (e::es) X.env=(false,eval e X.env)::starEach es X.env:=by rfl) (hpl:(backTo pos (starEach es X.env)).any (·.1)=false:=by rfl):QE X (.Call (.Name x p) (e::es) [] pos) (gY sp [] t):=
 (j9 F hr hg hm hk hb .nil js ha hdb he hpl).imp λ_ _ _ h=>h.call λ_=> .nil
theorem rp {f:Addr} {sp:bM} {p pos:Pos} (F:cq X.prog X.w X.K X.mg X.base k f fd ps sp) (hr:av k X.A) (hg:Gl X x) (hm:X.mg x=some (.ref f))
 (hk:keepIn X.K (.ref f)=true) (hb:bJ X.K fd ps []) (hdb:(x==("__debug__":Str))=false:=by decide):QE X (.Call (.Name x p) [] [] pos) (gY sp [] rl):=
 (qQ F hr hg hm hk hb .nil js hdb).imp λ_ _ _ h=>by
   obtain⟨τ,G,q,hs,hg,ht,hQ⟩:=h;exact⟨[],G,q,_,.nil,hg,ht,hQ,λ_ _ _ _ _ _ z=>z.elim⟩
noncomputable def iF (N:List Str) (ws:List W):de:=ws.map some++List.replicate (N.length-ws.length) none
theorem cq.none {f:Addr} {sp:bM} (h:∀ws G q e,¬sp ws G q e):cq P w K mg base k f fd ps sp:=
 ⟨λ_ _ _ _ ⟨_,_,_,_,_,_,z,_⟩=>absurd z (h _ _ _ _),λ_ _ _ _ _ _ _ _ _ _ _ _ _ ⟨_,_,_,_,_,_,z,_⟩=>absurd z (h _ _ _ _)⟩
theorem zy {x qual:Str} {f:Addr} {N ps:List Str} {sp:bM} (F:cJ K x qual st f fd) (S:bA N ps (ak st)) (len:∀ws G q e,sp ws G q e->ws.length=ps.length)
 (hbody:∀(cdv:Value) (A:Around) (outer:List Env) (s:Shared) (H:Hp) (E:XK),av k (A.deeper (envOfC qual (ak st) s.heap.objs.size f cdv))->
   ∃t,mQ (cV re P w K mg base N qual (ak st) f cdv A outer s H E).nox (ao st) t/\
    ∀(ws:List W) (G:Gp) (q:WK) (e:WX),sp ws G q e->t { nx:=λ_ G1=>∃G0,aL G0 G1/\q .non G0,rt:=λw G1=>∃G0,aL G0 G1/\q w G0 } (iF N ws) G):cq P w K mg base (k+1) f fd ps sp:=by
 refine F.ok S (λvs H Q E ⟨ws,G,q,e,r,g,z,_⟩=>by rw[←r.length];exact len _ _ _ _ z) (λcdv A outer s H vs Q E hr ⟨ws,G,q,e,r,g,z,hQ,_⟩=>?_);obtain⟨t,ht,hq⟩:=hbody cdv A outer s H E hr;exact⟨_,ht,_,G,_,bq.start r,g,hq ws G q e z,⟨λσ1 H1 τ1 G1 t1 s1 g1 ⟨G0,l,q1⟩=>hQ .non H1 .non G0 t1 .non (g1.le l) q1,λv H1 w G1 t1 r1 g1 ⟨G0,l,q1⟩=>hQ v H1 w G0 t1 r1 (g1.le l) q1,λ_ _ _ _ _ _ _ z=>z.elim,λ_ _ _ _ _ _ _ z=>z.elim⟩⟩
noncomputable def wo (K:yav) (r:List W->Gp->WK->Prop):List V->Hp->VK->Prop:=λvs H Q=>∃ws G q,aK K H ws vs/\aI K H G/\r ws G q/\∀v H1 w G1,aQ H H1->cf K H1 w v->aI K H1 G1->q w G1->Q v H1
noncomputable def dX (X:Cx) (f:Value) (r:List W->Gp->WK->Prop):Prop:=gh X f (wo X.K r)
noncomputable def Bv (r:List W->Gp->WK->Prop) (t:WA):WE:=λτ G q=>t τ G λws G1=>r ws G1 q
theorem gE.cb {r:List W->Gp->WK->Prop} {t:WA} {σ:St} {H:Hp} {Q:VK} (h:gE K (Bv r t) σ H Q):BY (wo K r) (LA K t) σ H Q:=by
 obtain⟨τ,G,q,hs,hg,ht,hQ⟩:=h;exact⟨τ,G,_,hs,hg,ht,λvs H1 ws G1 t1 r1 g1 q1=>⟨ws,G1,q,r1,g1,q1,λv H2 w G2 t2=>hQ v H2 w G2 (t1.trans t2)⟩⟩
theorem bc {id:String} {r:List W->Gp->WK->Prop} {p pos:Pos} {t:WA} (hc:dX X (.builtin id) r) (hg:Gl X x) (hm:X.mg x=none) (hv:bootBuiltins x=some (.builtin id)) (ha:QA X (e::es) t)
 (hn:x≠"__name__":=by decide) (hdb:(x==("__debug__":Str))=false:=by decide)
 (he:starEach (e::es) X.env=(false,eval e X.env)::starEach es X.env:=by rfl) (hpl:(backTo pos (starEach es X.env)).any (·.1)=false:=by rfl):QE X (.Call (.Name x p) (e::es) [] pos) (Bv r t):=
 (lx hc hg hm hv ha hn hdb he hpl).imp λ_ _ _ h=>h.cb
theorem cC {T:String} {r:List W->Gp->WK->Prop} {p pos:Pos} {t:WA} (hc:dX X (.type T) r) (hg:Gl X x) (hm:X.mg x=none) (hv:bootBuiltins x=some (.type T)) (ha:QA X (e::es) t)
 (hn:x≠"__name__":=by decide) (hdb:(x==("__debug__":Str))=false:=by decide)
 (he:starEach (e::es) X.env=(false,eval e X.env)::starEach es X.env:=by rfl) (hpl:(backTo pos (starEach es X.env)).any (·.1)=false:=by rfl):QE X (.Call (.Name x p) (e::es) [] pos) (Bv r t):=
 (pO hc hg hm hv ha hn hdb he hpl).imp λ_ _ _ h=>h.cb
theorem aK.one {H:Hp} {w:W} {vs:List V} (r:aK K H [w] vs):∃v,vs=[v]/\cf K H w v:=by
 cases r with
 | cons r rs=>cases rs;exact⟨_,rfl,r⟩
theorem aK.two {H:Hp} {w u:W} {vs:List V} (r:aK K H [w,u] vs):∃v x,vs=[v,x]/\cf K H w v/\cf K H u x:=by
 cases r with
 | cons r rs=>
   obtain⟨x,rfl,r2⟩:=rs.one;exact⟨_,_,rfl,r,r2⟩
noncomputable def zz:List W->Gp->WK->Prop:=λws G q=>match ws with
 | [.tup xs]=>q (.int xs.length) G
 | [.scr ns]=>q (.int ns.length) G
 | [.ref a]=>∃xs,G a=some (.lst xs)/\q (.int xs.length) G
 | _=>False
theorem wp:dX X (.builtin "len") zz:=by
 rintro π s σ H xs us Q I r ⟨ws,G,q,rw',g,h,hQ⟩;cases rw' with
 | nil=>exact False.elim h
 | cons r1 rr'=>
   cases rr' with
   | cons _ _=>cases r1<;> exact False.elim h
   | nil=>
     cases r1 with
     | tup hh rr=>exact en π s σ H _ us Q I r ⟨_,_,rfl,.inr (dq.of hh),hQ _ H _ G (aQ.refl H) (by rw[rr.length];exact .int _) g h⟩
     | scr hh=>exact en π s σ H _ us Q I r ⟨_,_,rfl,.inl hh.sq,hQ _ H _ G (aQ.refl H) (by rw[length_map];exact .int _) g h⟩
     | ref a=>
       obtain⟨ys,e,h⟩:=h;obtain⟨_,zs,e1,rr⟩:=g a _ e;exact en π s σ H _ us Q I r ⟨_,_,rfl,.inl (dy.of e1),hQ _ H _ G (aQ.refl H) (by rw[rr.length];exact .int _) g h⟩
     | _=>exact False.elim h
noncomputable def rq:List W->Gp->WK->Prop:=λws G q=>match ws with
 | [.tup xs]=>q (.tup xs) G
 | [.ref a]=>∃xs,G a=some (.lst xs)/\q (.tup xs) G
 | _=>False
theorem il:dX X (.type "tuple") rq:=by
 rintro π s σ H xs us Q I r ⟨ws,G,q,rw',g,h,hQ⟩;cases rw' with
 | nil=>exact False.elim h
 | cons r1 rr'=>
   cases rr' with
   | cons _ _=>cases r1<;> exact False.elim h
   | nil=>
     cases r1 with
     | tup hh rr=>exact fG π s σ H _ us Q I r ⟨_,_,rfl,.inr ⟨dq.of hh,hQ _ H _ G (aQ.refl H) (.tup hh rr) g h⟩⟩
     | ref a=>
       obtain⟨ys,e,h⟩:=h;obtain⟨_,zs,e1,rr⟩:=g a _ e;exact fG π s σ H _ us Q I r ⟨_,_,rfl,.inl ⟨dy.of e1,λl hl=>hQ _ _ _ G (aQ.new hl _) (.tup bw (rr.mono (aQ.new hl _))) (g.keep hl _) h⟩⟩
     | _=>exact False.elim h
noncomputable def xM:List W->Gp->WK->Prop:=λws G q=>match ws with
 | [.int i]=>q (.int i) G
 | [.bl b]=>q (.int (if b then 1 else 0)) G
 | _=>False
theorem zA:dX X (.type "int") xM:=by
 rintro π s σ H xs us Q I r ⟨ws,G,q,rw',g,h,hQ⟩;cases rw' with
 | nil=>exact False.elim h
 | cons r1 rr'=>
   cases rr' with
   | cons _ _=>cases r1<;> exact False.elim h
   | nil=>
     cases r1 with
     | int i=>exact jm π s σ H _ us Q I r (.inl ⟨_,rfl,hQ _ H _ G (aQ.refl H) (.int _) g h⟩)
     | bl b=>exact jm π s σ H _ us Q I r (.inr ⟨_,rfl,hQ _ H _ G (aQ.refl H) (.int _) g h⟩)
     | _=>exact False.elim h
noncomputable def zB:W2:=λx y G q=>match x,y with
 | .int i,.int j=>q (.int (i+j)) G
 | .tup xs,.tup ys=>xs.length+ys.length<=100000/\q (.tup (xs++ys)) G
 | .ref a,.ref b=>∃xs ys,G a=some (.lst xs)/\G b=some (.lst ys)/\xs.length+ys.length<=100000/\∀p,G p=none->q (.ref p) (aV G p (.lst (xs++ys)))
 | _,_=>False
theorem Cc {σ:St} {H:Hp} {a b:Addr} {ys:List V} {Q:VK} (I:aC X π σ H s) (ha:H a=some (.tup [])) (hb:H b=some (.tup ys)) (q:Q (.ref b) H):wpAny (model X.prog X.w) X.A (binaryOp .Add (.ref a) (.ref b)) (EP X π σ Q) X.xe s:=by
 obtain⟨its,r1,p1,_⟩:=I.tuple (dq.of ha);obtain⟨its2,r2,p2,_⟩:=I.tuple (dq.of hb);cases r1;obtain⟨⟨cls,dd,data,sl⟩,ho,hc,n,hd⟩:=id p1;obtain⟨⟨cls2,dd2,data2,sl2⟩,ho2,hc2,n2,hd2⟩:=id p2;simp only at hc hd hc2 hd2;subst hc hd hc2 hd2;exact concat_meets ⟨_,ho,rfl⟩ ⟨_,ho2,rfl⟩ noFill_tuple_add seq_tuple_add PySem.F.slot_tuple_add PySem.F.entry_tuple_add (PySem.F.args_tuple_add_2 _ _)
  (tuple_addW0 a b #[] its2.toArray n n2 dd dd2 sl sl2 rfl) ⟨ho,ho2,⟨.ref b,H,I,rfl,q⟩⟩
theorem zC:fm X (binaryOp .Add) zB:=by
 rintro π s σ H x y v u Q I rx ry ⟨wx,wy,G,q,r1,r2,g,h,hQ⟩;cases r1 with
 | int i=>
   cases r2 with
   | int j=>exact xi π s σ H _ _ v u Q I rx ry ⟨_,_,rfl,rfl,hQ _ H _ G (aQ.refl H) (.int _) g h⟩
   | _=>exact False.elim h
 | @tup a ws xs ha ra=>
   cases r2 with
   | @tup b us ys hb rb=>
     cases xs with
     | nil=>
       cases ra;cases rx;cases ry;exact Cc I ha hb (hQ _ H _ G (aQ.refl H) (.tup hb rb) g h.2)
     | cons x0 xr=>
       refine uj π s σ H _ _ v u Q I rx ry ⟨a,b,_,_,rfl,rfl,dq.of ha,dq.of hb,by simp,by rw[←ra.length,←rb.length];exact bI h.1,λe=>?_,λ_ p hp=>?_⟩
       ·subst e;cases rb;have h2:=h.2;rw[append_nil] at h2;exact hQ _ H _ G (aQ.refl H) (.tup ha ra) g h2
       ·exact hQ _ _ _ G (aQ.new hp _) (.tup bw ((ra.append rb).mono (aQ.new hp _))) (g.keep hp _) h.2
   | _=>exact False.elim h
 | ref a=>
   cases r2 with
   | ref b=>
     obtain⟨xs,ys,ea,eb,hl,h⟩:=h;obtain⟨_,xs',ha,ra⟩:=g _ _ ea;obtain⟨_,ys',hb,rb⟩:=g _ _ eb;refine xA π s σ H _ _ v u Q I rx ry ⟨_,_,_,_,rfl,rfl,ha,hb,by rw[←ra.length,←rb.length];exact bI hl,λp hp=>?_⟩;exact hQ _ _ _ _ (aQ.new hp _) (.ref p) (g.put (aQ.new hp _) (ra.append rb) (by rw[length_append];exact hl)) (h p (g.fresh hp))
   | _=>exact False.elim h
 | _=>exact False.elim h
noncomputable def pT (C:Int->Int->Prop) (f:Int->Int->W):W2:=λx y G q=>match x,y with
 | .int i,.int j=>C i j/\q (f i j) G
 | _,_=>False
theorem nq {f:Value->Value->Sem Value} {C:Int->Int->Prop} {g:Int->Int->Int} (h:gf X f (rI C λi j=> .int (g i j))):fm X f (pT C λi j=> .int (g i j)):=by
 rintro π s σ H x y v u Q I rx ry ⟨wx,wy,G,q,r1,r2,gg,hh,hQ⟩;unfold pT at hh;split at hh
 ·cases r1;cases r2;exact h π s σ H _ _ v u Q I rx ry ⟨_,_,rfl,rfl,hh.1,hQ _ H _ G (aQ.refl H) (.int _) gg hh.2⟩
 ·exact hh.elim
noncomputable def jv (f:Int->Int->W):W2:=λx y G q=>match x,y with
 | .int i,.int j=>q (f i j) G
 | _,_=>False
theorem rA {f:Value->Value->Sem Value} {g:Int->Int->Bool} (h:gf X f (tW λi j=> .bl (g i j))):fm X f (jv λi j=> .bl (g i j)):=by
 rintro π s σ H x y v u Q I rx ry ⟨wx,wy,G,q,r1,r2,gg,hh,hQ⟩;unfold jv at hh;split at hh
 ·cases r1;cases r2;exact h π s σ H _ _ v u Q I rx ry ⟨_,_,rfl,rfl,hQ _ H _ G (aQ.refl H) (.bl _) gg hh⟩
 ·exact hh.elim
noncomputable abbrev Ce:W2:=pT (λ_ j=>0<j) λi j=> .int (i%j)
theorem dY:fm X (binaryOp .Mod) Ce:=nq xk
noncomputable abbrev DJ:W2:=jv λi j=> .bl (decide (i<=j))
noncomputable abbrev DK:W2:=jv λi j=> .bl (decide (j<i))
noncomputable abbrev DL:W2:=jv λi j=> .bl (decide (j<=i))
theorem zD:fm X (compareOp .LtE) DJ:=rA y6
theorem iG:fm X (compareOp .Gt) DK:=rA y7
theorem zE:fm X (compareOp .GtE) DL:=rA y8
noncomputable def zF:W2:=λx y G q=>match x,y with
 | .tup xs,.int i=>∃w,eg xs i=some w/\q w G
 | .scr ns,.int i=>∃n,eg ns i=some n/\q (.int n) G
 | .ref a,.int i=>∃xs w,G a=some (.lst xs)/\eg xs i=some w/\q w G
 | _,_=>False
theorem aK.at {H:Hp} {ws:List W} {vs:List V} {i:Int} {w:W} (r:aK K H ws vs) (e:eg ws i=some w):∃v,eg vs i=some v/\cf K H w v:=by
 unfold eg at e ⊢;rw[r.length] at e;cases h:qX vs.length i with
 | none=>rw[h] at e;cases e
 | some j=>
   rw[h] at e;exact r.get e
theorem uu {α β:Type} (f:α->β) (xs:List α) (i:Int):eg (xs.map f) i=(eg xs i).map f:=by
 unfold eg;rw[length_map];cases qX xs.length i with
 | none=>rfl
 | some j=>simp
theorem Cf:zo X zF:=by
 rintro value slice π s σ H x y v u Q I rx ry ⟨wx,wy,G,q,r1,r2,g,h,hQ⟩ hsl;cases r2 with
 | int i=>
   cases r1 with
   | tup hh rr=>
     obtain⟨w,e,h⟩:=h;obtain⟨v',e',r'⟩:=rr.at e;exact xw value slice π s σ H _ _ v u Q I rx ry ⟨_,_,_,v',rfl,rfl,dq.of hh,e',hQ _ H _ G (aQ.refl H) r' g h⟩ hsl
   | scr hh=>
     obtain⟨n,e,h⟩:=h;exact oo value slice π s σ H _ _ v u Q I rx ry ⟨_,_,_,.int n,rfl,rfl,hh.sq,by rw[uu,e];rfl,hQ _ H _ G (aQ.refl H) (.int n) g h⟩ hsl
   | ref a=>
     obtain⟨xs,w,ea,e,h⟩:=h;obtain⟨_,zs,e1,rr⟩:=g _ _ ea;obtain⟨v',e',r'⟩:=rr.at e;exact oo value slice π s σ H _ _ v u Q I rx ry ⟨_,_,_,v',rfl,rfl,dy.of e1,e',hQ _ H _ G (aQ.refl H) r' g h⟩ hsl
   | _=>exact False.elim h
 | _=>cases r1<;> exact False.elim h
end
mutual
noncomputable def W.flat:W->Bool
 | .tup xs=>W.flats xs
 | .ref _=>false
 | .scr _=>false
 | _=>true
noncomputable def W.flats:List W->Bool
 | []=>true
 | x::xs=>W.flat x&&W.flats xs
end
mutual
noncomputable def W.dep:W->Nat
 | .tup xs=>W.deps xs+1
 | _=>0
noncomputable def W.deps:List W->Nat
 | []=>0
 | x::xs=>max (W.dep x) (W.deps xs)
end
mutual
noncomputable def W.eq:W->W->Bool
 | .non,.non=>true
 | .bl a,.bl b=>a==b
 | .bl a,.int j=>(if a then 1 else 0)==j
 | .int i,.bl b=>i==(if b then 1 else 0)
 | .int i,.int j=>i==j
 | .str x,.str y=>x==y
 | .tup xs,.tup ys=>W.eqs xs ys
 | _,_=>false
noncomputable def W.eqs:List W->List W->Bool
 | [],[]=>true
 | x::xs,y::ys=>W.eq x y&&W.eqs xs ys
 | _,_=>false
end
theorem cR {P:Prop} (h:false=true):P:=Bool.noConfusion h
theorem W.eq_int (i j:Int):(W.int i).eq (W.int j)=(i==j):=rfl
theorem W.eq_tup (xs ys:List W):(W.tup xs).eq (W.tup ys)=W.eqs xs ys:=rfl
mutual
theorem W.eq_refl:∀w:W,w.flat=true->w.eq w=true
 | .non,_=>rfl
 | .bl b,_=>beq_self_eq_true b
 | .int i,_=>beq_self_eq_true i
 | .str x,_=>beq_self_eq_true x
 | .tup xs,h=>W.eqs_refl xs h
 | .ref _,h=>cR h
 | .scr _,h=>cR h
theorem W.eqs_refl:∀ws:List W,W.flats ws=true->W.eqs ws ws=true
 | [],_=>rfl
 | x::xs,h=>by
   have h':x.flat=true/\W.flats xs=true:=(Bool.and_eq_true _ _).mp h;exact(Bool.and_eq_true _ _).mpr ⟨W.eq_refl x h'.1,W.eqs_refl xs h'.2⟩
end
mutual
theorem cf.inj {K:yav} {H:Hp}:∀{w u:W} {v:V},w.flat=true->u.flat=true->cf K H w v->cf K H u v->w=u:=by
 intro w u v h1 h2 r1 r2;cases r1 with
 | non=>cases r2;rfl
 | bl _=>cases r2;rfl
 | int _=>cases r2;rfl
 | str _=>cases r2;rfl
 | ref _=>exact cR h1
 | scr _=>exact cR h1
 | tup e1 r1=>
   cases r2 with
   | ref _=>exact cR h2
   | scr _=>exact cR h2
   | tup e2 r2=>
     rw[e1] at e2;cases e2;rw[aK.inj h1 h2 r1 r2]
theorem aK.inj {K:yav} {H:Hp}:∀{ws us:List W} {vs:List V},W.flats ws=true->W.flats us=true->aK K H ws vs->aK K H us vs->ws=us:=by
 intro ws us vs h1 h2 r1 r2;cases r1 with
 | nil=>cases r2;rfl
 | cons r1 s1=>
   cases r2 with
   | cons r2 s2=>
     simp only[W.flats,Bool.and_eq_true] at h1 h2;rw[cf.inj h1.1 h2.1 r1 r2,aK.inj h1.2 h2.2 s1 s2]
end
theorem W.flats_get:∀{ws:List W} {j:Nat} {w:W},W.flats ws=true->ws[j]?=some w->w.flat=true
 | [],_,_,_,e=>by simp at e
 | x::xs,0,w,h,e=>by
   have h':x.flat=true/\W.flats xs=true:=by simpa[W.flats] using h
   simp at e;subst e;exact h'.1
 | x::xs,j+1,w,h,e=>by
   have h':x.flat=true/\W.flats xs=true:=by simpa[W.flats] using h
   exact W.flats_get h'.2 (by simpa using e)
theorem W.deps_get:∀{ws:List W} {j:Nat} {w:W},ws[j]?=some w->w.dep<=W.deps ws
 | [],_,_,e=>by simp at e
 | x::xs,0,w,e=>by simp at e;subst e;simp[W.deps];lia
 | x::xs,j+1,w,e=>by
   have:=W.deps_get (ws:=xs) (j:=j) (w:=w) (by simpa using e);simp only[W.deps];(clear e;lia)
theorem W.eqs_iff:∀(ws us:List W),W.eqs ws us=true↔ws.length=us.length/\∀(j:Nat) (a b:W),ws[j]?=some a->us[j]?=some b->W.eq a b=true
 | [],[]=>by simp[W.eqs]
 | [],_::_=>by simp[W.eqs]
 | _::_,[]=>by simp[W.eqs]
 | x::xs,y::ys=>by
   rw[W.eqs,Bool.and_eq_true,W.eqs_iff xs ys];constructor
   ·rintro⟨h1,h2,h3⟩;refine⟨by simp[h2],λj a b ea eb=>?_⟩;cases j with
    | zero=>simp at ea eb;subst ea eb;exact h1
    | succ j=>exact h3 j a b (by simpa using ea) (by simpa using eb)
   ·rintro⟨h1,h2⟩;exact⟨h2 0 x y rfl rfl,by simpa using h1,λj a b ea eb=>h2 (j+1) a b (by simpa using ea) (by simpa using eb)⟩
noncomputable def iH (ws us:List W) (j:Nat):Bool:=match ws[j]?,us[j]? with | some a,some b=>W.eq a b | _,_=>true
theorem fq (ws us:List W):((List.range (min ws.length us.length)).all (iH ws us)&&(ws.length==us.length))=W.eqs ws us:=by
 rw[Bool.eq_iff_iff,Bool.and_eq_true,W.eqs_iff,all_eq_true,beq_iff_eq];constructor
 ·rintro⟨h1,h2⟩;refine⟨h2,λj a b ea eb=>?_⟩;have hj:j<ws.length:=(List.getElem?_eq_some_iff.mp ea).1;have:=h1 j (List.mem_range.mpr (by (clear ea eb;lia)));unfold iH at this;rw[ea,eb] at this;exact this
 ·rintro⟨h1,h2⟩;refine⟨λj _=>?_,h1⟩;unfold iH;split
  ·rename_i a b ea eb;exact h2 j a b ea eb
  ·rfl
section
variable {X:Cx} {π:List (Addr×Obj)} {σ:St} {H:Hp} {s:Shared}
theorem aC.tupH {xs:List V} (I:aC X π σ H s) (h:H a=some (.tup xs)):∃its:List Value,aS xs its/\s.heap.IsTuple a its.toArray/\xs.length<=sizeLine:=I.tuple (dq.of h)
theorem fR (I:aC X π σ H s):∀(n:Nat) (A:Around) {w1 w2:W} {v1 v2:V} {u1 u2:Value},w1.dep<n->w1.flat=true->w2.flat=true->A.units+n<cLine->cf X.K H w1 v1->cf X.K H w2 v2->bg v1 u1->bg v2 u2->
 SeqAt.EqAt A s u1 u2 (w1.eq w2)/\SeqAt.RcAt A s u1 u2 (w1.eq w2)/\SeqAt.RcNeAt A s u1 u2 (!(w1.eq w2)):=by
 intro n
 induction n with
 | zero=>intro A w1 w2 v1 v2 u1 u2 h;lia
 | succ n ih=>
   intro A w1 w2 v1 v2 u1 u2 hd f1 f2 hu r1 r2 q1 q2;have hu0:A.units<cLine:=by lia
   have hui:A.in1.units+n<cLine:=by show A.units+1+n<cLine;(clear hd hu0;lia)
   cases r1 with
   | ref a=>exact cR f1
   | scr a=>exact cR f1
   | non=>
     cases (show u1=Value.none from q1);cases r2 with
     | ref a=>exact cR f2
     | scr a=>exact cR f2
     | non=>cases (show u2=Value.none from q2);exact⟨SeqAt.EqAt.same _,SeqAt.RcAt.none_none,SeqAt.RcNeAt.none_none⟩
     | bl b=>cases (show u2=Value.bool b from q2);exact⟨SeqAt.EqAt.none_bool b,SeqAt.RcAt.none_bool b,SeqAt.RcNeAt.none_bool b⟩
     | int b=>obtain⟨t,rfl⟩:=q2;exact⟨SeqAt.EqAt.none_int b t,SeqAt.RcAt.none_int b t,SeqAt.RcNeAt.none_int b t⟩
     | str b=>obtain⟨t,rfl⟩:=q2;exact⟨SeqAt.EqAt.none_str b t,SeqAt.RcAt.none_str b t,SeqAt.RcNeAt.none_str b t⟩
     | tup h r=>
       cases (show u2=Value.ref _ from q2);obtain⟨its,_,p,_⟩:=aC.tupH I h;exact⟨SeqAt.EqAt.none_tuple p hu0,SeqAt.RcAt.none_tuple p hu0,SeqAt.RcNeAt.none_tuple p hu0⟩
   | bl a=>
     cases (show u1=Value.bool a from q1);cases r2 with
     | ref a=>exact cR f2
     | scr a=>exact cR f2
     | non=>cases (show u2=Value.none from q2);exact⟨SeqAt.EqAt.bool_none a,SeqAt.RcAt.bool_none a,SeqAt.RcNeAt.bool_none a⟩
     | bl b=>cases (show u2=Value.bool b from q2);exact⟨SeqAt.EqAt.bool_bool a b,SeqAt.RcAt.bool_bool a b,SeqAt.RcNeAt.bool_bool a b⟩
     | int b=>obtain⟨t,rfl⟩:=q2;exact⟨SeqAt.EqAt.bool_int a b t,SeqAt.RcAt.bool_int a b t,SeqAt.RcNeAt.bool_int a b t⟩
     | str b=>obtain⟨t,rfl⟩:=q2;exact⟨SeqAt.EqAt.bool_str a b t,SeqAt.RcAt.bool_str a b t,SeqAt.RcNeAt.bool_str a b t⟩
     | tup h r=>
       cases (show u2=Value.ref _ from q2);obtain⟨its,_,p,_⟩:=aC.tupH I h;exact⟨SeqAt.EqAt.bool_tuple a p hu0,SeqAt.RcAt.bool_tuple a p hu0,SeqAt.RcNeAt.bool_tuple a p hu0⟩
   | int a=>
     obtain⟨ta,rfl⟩:=q1;cases r2 with
     | ref a=>exact cR f2
     | scr a=>exact cR f2
     | non=>cases (show u2=Value.none from q2);exact⟨SeqAt.EqAt.int_none a ta,SeqAt.RcAt.int_none a ta,SeqAt.RcNeAt.int_none a ta⟩
     | bl b=>cases (show u2=Value.bool b from q2);exact⟨SeqAt.EqAt.int_bool a ta b,SeqAt.RcAt.int_bool a ta b,SeqAt.RcNeAt.int_bool a ta b⟩
     | int b=>obtain⟨t,rfl⟩:=q2;exact⟨SeqAt.EqAt.int_int a ta b t,SeqAt.RcAt.int_int a ta b t,SeqAt.RcNeAt.int_int a ta b t⟩
     | str b=>obtain⟨t,rfl⟩:=q2;exact⟨SeqAt.EqAt.int_str a ta b t,SeqAt.RcAt.int_str a ta b t,SeqAt.RcNeAt.int_str a ta b t⟩
     | tup h r=>
       cases (show u2=Value.ref _ from q2);obtain⟨its,_,p,_⟩:=aC.tupH I h;exact⟨SeqAt.EqAt.int_tuple a ta p hu0,SeqAt.RcAt.int_tuple a ta p hu0,SeqAt.RcNeAt.int_tuple a ta p hu0⟩
   | str a=>
     obtain⟨ta,rfl⟩:=q1;cases r2 with
     | ref a=>exact cR f2
     | scr a=>exact cR f2
     | non=>cases (show u2=Value.none from q2);exact⟨SeqAt.EqAt.str_none a ta,SeqAt.RcAt.str_none a ta,SeqAt.RcNeAt.str_none a ta⟩
     | bl b=>cases (show u2=Value.bool b from q2);exact⟨SeqAt.EqAt.str_bool a ta b,SeqAt.RcAt.str_bool a ta b,SeqAt.RcNeAt.str_bool a ta b⟩
     | int b=>obtain⟨t,rfl⟩:=q2;exact⟨SeqAt.EqAt.str_int a ta b t,SeqAt.RcAt.str_int a ta b t,SeqAt.RcNeAt.str_int a ta b t⟩
     | str b=>obtain⟨t,rfl⟩:=q2;exact⟨SeqAt.EqAt.str_str a ta b t,SeqAt.RcAt.str_str a ta b t,SeqAt.RcNeAt.str_str a ta b t⟩
     | tup h r=>
       cases (show u2=Value.ref _ from q2);obtain⟨its,_,p,_⟩:=aC.tupH I h;exact⟨SeqAt.EqAt.str_tuple a ta p hu0,SeqAt.RcAt.str_tuple a ta p hu0,SeqAt.RcNeAt.str_tuple a ta p hu0⟩
   | @tup a ws xs h r=>
     cases (show u1=Value.ref _ from q1);obtain⟨its,rv,p,_⟩:=aC.tupH I h;cases r2 with
     | ref a=>exact cR f2
     | scr a=>exact cR f2
     | non=>cases (show u2=Value.none from q2);exact⟨SeqAt.EqAt.tuple_none p hu0,SeqAt.RcAt.tuple_none p hu0,SeqAt.RcNeAt.tuple_none p hu0⟩
     | bl b=>cases (show u2=Value.bool b from q2);exact⟨SeqAt.EqAt.tuple_bool b p hu0,SeqAt.RcAt.tuple_bool b p hu0,SeqAt.RcNeAt.tuple_bool b p hu0⟩
     | int b=>obtain⟨t,rfl⟩:=q2;exact⟨SeqAt.EqAt.tuple_int b t p hu0,SeqAt.RcAt.tuple_int b t p hu0,SeqAt.RcNeAt.tuple_int b t p hu0⟩
     | str b=>obtain⟨t,rfl⟩:=q2;exact⟨SeqAt.EqAt.tuple_str b t p hu0,SeqAt.RcAt.tuple_str b t p hu0,SeqAt.RcNeAt.tuple_str b t p hu0⟩
     | @tup b us ys h2 r2=>
       cases (show u2=Value.ref _ from q2);obtain⟨its2,rv2,p2,_⟩:=aC.tupH I h2;have g1:W.flats ws=true:=f1;have g2:W.flats us=true:=f2;have hd':W.deps ws<n:=by simp only[W.dep] at hd;(clear hu hu0 hui;lia)
       have e1:its.length=ws.length:=by rw[←rv.length,r.length]
       have e2:its2.length=us.length:=by rw[←rv2.length,r2.length]
       have he:∀j (h1:j<its.toArray.size) (h2:j<its2.toArray.size),SeqAt.EqAt A.in1 s its.toArray[j] its2.toArray[j] (iH ws us j):=λj j1 j2=>by
        rw[size_toArray] at j1 j2;have ea:ws[j]?=some ws[j]:=ycz (by (clear hu hu0 hui hd hd' e2 j2;lia));have eb:us[j]?=some us[j]:=ycz (by lia);obtain⟨va,ea1,ra⟩:=r.get ea;obtain⟨vb,eb1,rb⟩:=r2.get eb;obtain⟨ua,ea2,qa⟩:=rv.get ea1;obtain⟨ub,eb2,qb⟩:=rv2.get eb1;have za:its.toArray[j]=ua:=by
         have:=(List.getElem?_eq_some_iff.mp ea2).2;simpa using this
        have zb:its2.toArray[j]=ub:=by
         have:=(List.getElem?_eq_some_iff.mp eb2).2;simpa using this
        rw[za,zb];have:=(ih A.in1 (w1:=ws[j]) (w2:=us[j]) (Nat.lt_of_le_of_lt (W.deps_get ea) hd') (W.flats_get g1 ea) (W.flats_get g2 eb) hui ra rb qa qb).1;unfold iH;rw[ea,eb];exact this
       have er:=fq ws us;have c1:=SeqAt.RcAt.tuples p p2 hu0 he;have c2:=SeqAt.RcNeAt.tuples p p2 hu0 he;rw[size_toArray,size_toArray,e1,e2,er] at c1 c2;have ee:(W.tup ws).eq (W.tup us)=W.eqs ws us:=rfl;rw[ee];refine⟨?_,c1,c2⟩
       by_cases hab:a=b
       ·subst hab;have z:=cf.inj f1 f2 (cf.tup h r) (cf.tup h2 r2);have t:W.eqs ws us=true:=by
         cases z;exact W.eqs_refl ws g1
        rw[t];exact SeqAt.EqAt.same _
       ·exact SeqAt.EqAt.of_refs hab c1
end
section
variable {X:Cx}
noncomputable def uv:W2:=λx y G q=>x.flat=true/\y.flat=true/\x.dep<=150/\q (.bl (x.eq y)) G
noncomputable def uw:W2:=λx y G q=>x.flat=true/\y.flat=true/\x.dep<=150/\q (.bl (!(x.eq y))) G
theorem xO (hr:av k X.A):fm X (compareOp .Eq) uv:=by
 rintro π s σ H x y v u Q I rx ry ⟨wx,wy,G,q,r1,r2,g,⟨f1,f2,hd,h⟩,hQ⟩;exact(fR I 151 X.A (by lia) f1 f2 (by have:=hr.un;(clear hd;lia)) r1 r2 rx ry).2.1 X.prog X.w X.xe _ ⟨.bl _,H,I,rfl,hQ _ H _ G (aQ.refl H) (.bl _) g h⟩
theorem xP (hr:av k X.A):fm X (compareOp .NotEq) uw:=by
 rintro π s σ H x y v u Q I rx ry ⟨wx,wy,G,q,r1,r2,g,⟨f1,f2,hd,h⟩,hQ⟩;exact(fR I 151 X.A (by lia) f1 f2 (by have:=hr.un;(clear hd;lia)) r1 r2 rx ry).2.2 X.prog X.w X.xe _ ⟨.bl _,H,I,rfl,hQ _ H _ G (aQ.refl H) (.bl _) g h⟩
noncomputable def rB:W2:=λx y G q=>match x,y with
 | .int i,.int j=>q (.int (i-j)) G
 | .bl a,.bl b=>q (.int (b2i a-b2i b)) G
 | _,_=>False
theorem wq:fm X (binaryOp .Sub) rB:=by
 rintro π s σ H x y v u Q I rx ry ⟨wx,wy,G,q,r1,r2,g,h,hQ⟩;cases r1 with
 | int i=>
   cases r2 with
   | int j=>exact xj π s σ H _ _ v u Q I rx ry ⟨_,_,rfl,rfl,hQ _ H _ G (aQ.refl H) (.int _) g h⟩
   | _=>exact False.elim h
 | bl a=>
   cases r2 with
   | bl b=>
     cases rx;cases ry;exact sub_bool ⟨.int _,H,I.tok _,⟨_,rfl⟩,hQ _ H _ G (aQ.refl H) (.int _) g h⟩
   | _=>exact False.elim h
 | _=>exact False.elim h
noncomputable def ou:W->Bool
 | .non=>true
 | _=>false
noncomputable def zG (neg:Bool):W2:=λx y G q=>y=.non/\q (.bl (neg ^^ ou x)) G
theorem zH:fm X (compareOp .Is) (zG false):=by
 rintro π s σ H x y v u Q I rx ry ⟨wx,wy,G,q,r1,r2,g,⟨e,h⟩,hQ⟩;subst e;cases r2;refine xn π s σ H _ _ v u Q I rx ry ⟨rfl,?_⟩;have z:decide (x=V.non)=ou wx:=by cases r1<;> simp[ou]
 rw[z];exact hQ _ H _ G (aQ.refl H) (.bl _) g (by simpa using h)
noncomputable abbrev WO:=de->Gp->(Option Int->Gp->Prop)->Prop
noncomputable def LO (K:yav) (t:WO):TO:=λσ H Q=>∃τ G q,bq K H τ σ/\aI K H G/\t τ G q/\∀o H1 G1,aQ H H1->aI K H1 G1->q o G1->Q o H1
noncomputable def QO (X:Cx) (e:Option Expr) (t:WO):Prop:=PO X e (LO X.K t)
theorem PO.imp {e:Option Expr} {t t':TO} (h:PO X e t) (f:∀σ H Q,t' σ H Q->t σ H Q):PO X e t':=λπ s σ H Q I q=>h π s σ H Q I (f _ _ _ q)
noncomputable def ow:WO:=λ_ G q=>q none G
noncomputable def wt (t:WE):WO:=λτ G q=>t τ G λx G1=>match x with | .int i=>q (some i) G1 | _=>False
theorem dr:QO X none ow:=po_none.imp λσ H Q ⟨τ,G,q,hs,hg,ht,hQ⟩=>hQ none H G (aQ.refl H) hg ht
theorem cm {te:WE} (h:QE X e te):QO X (some e) (wt te):=
 (ui h).imp λσ H Q ⟨τ,G,q,hs,hg,ht,hQ⟩=>⟨τ,G,_,hs,hg,ht,λv H1 w G1 t1 r1 g1 q1=>by
   split at q1
   ·cases r1;exact⟨_,rfl,hQ _ H1 G1 t1 g1 q1⟩
   ·exact q1.elim⟩
noncomputable def dt (xs:List W) (lo hi:Option Int):List W:=(xs.drop (HT.sIx xs.length 0 lo)).take (HT.sIx xs.length xs.length hi-HT.sIx xs.length 0 lo)
theorem aK.cut {H:Hp} {ws:List W} {vs:List V} (r:aK K H ws vs) (lo hi:Option Int):aK K H (dt ws lo hi) (lz vs lo hi):=by
 unfold dt lz;rw[r.length];exact(r.drop _).take _
noncomputable abbrev W3:=W->Option Int->Option Int->Gp->WK->Prop
noncomputable def nr:W3:=λx lo hi G q=>match x with
 | .tup xs=>q (.tup (dt xs lo hi)) G
 | .scr ns=>ns.length<=100000/\∀p,G p=none->q (.ref p) (aV G p (.lst (dt (ns.map W.int) lo hi)))
 | .ref a=>∃xs,G a=some (.lst xs)/\∀p,G p=none->q (.ref p) (aV G p (.lst (dt xs lo hi)))
 | _=>False
theorem gZ (xs:List W) (lo hi:Option Int):(dt xs lo hi).length<=xs.length:=by
 unfold dt;rw[length_take,length_drop];exact ycy (Nat.min_le_right _ _) (Nat.sub_le _ _)
theorem nu {xs:List W} {lo hi:Option Int} (h:HT.sIx xs.length 0 lo=0/\HT.sIx xs.length xs.length hi=xs.length):dt xs lo hi=xs:=by
 unfold dt;rw[h.1,h.2,drop_zero,Nat.sub_zero,take_length]
theorem pU {t sl:Addr} {vl vu:Value} {lo hi:Option Int} (ht:IsTup s.heap t items) (hs:s.heap.IsSliceOf sl vl vu .none) (pl:IsPart vl lo) (pu:IsPart vu hi)
 (hw:HT.sIx items.size 0 lo=0/\HT.sIx items.size items.size hi=items.size) (h:Q (.ref t) s):wpAny (model prog w) A (getItem (.ref t) (.ref sl)) Q E s:=by
 obtain⟨os,hos,hcs,hds⟩:=id hs;have hTs:s.TypeIs (.ref sl) "slice":=⟨os,hos,hcs⟩;unfold getItem
 try with_reducible refine wpAny_holding ?_
 first | refine wax (wpAny_pure ?_) | skip
 refine wax (wpAny_sequenceKey ht.typeIs (by decide) ?_);refine wax (wpAny_callSpecial?_slot (name:=Str.ofString "__getitem__") ht.typeIs PyProof.Rows.slot_tuple_getitem
  (wpAny_call_entry PyProof.Rows.slot_tuple_getitem ht.typeIs entry_tuple_getitem ?_ (args_tuple_getitem _ _)))
 show wpAny _ _ (Builtin.Tuple.tupleItemsOf (.ref t) >>= _) _ _ s;refine wax (tupleItemsOf_ ht ?_);refine wax (wpAny_typeOf hTs ?_);rw[ycv (by decide)];refine wax (HT.sliceApplied_gen hs pl pu ?_);have hyes:(((HT.sIx items.size 0 lo:Nat):Int)==0&&(1:Int)==1&&(HT.sIx items.size items.size hi-HT.sIx items.size 0 lo)==items.size)=true:=by
  rw[hw.1,hw.2];simp
 show wpAny _ _ (if (((HT.sIx items.size 0 lo:Nat):Int)==0&&(1:Int)==1&&(HT.sIx items.size items.size hi-HT.sIx items.size 0 lo)==items.size)=true then _ else _) _ _ s;rw[ycv hyes];refine wax ?_;show wpAny _ _ (typeOf (.ref t) >>= _) _ _ s;refine wax (wpAny_typeOf ht.typeIs (wpAny_pure ?_));rw[ycv (by simp)];exact wax (wpAny_rule (wpAny_pure ⟨_,rfl,wpAny_pure h⟩))
noncomputable def Dv (K:yav) (r:W3):V->Option Int->Option Int->Hp->VK->Prop:=λx lo hi H Q=>∃w G q,cf K H w x/\aI K H G/\r w lo hi G q/\∀v H1 w G1,aQ H H1->cf K H1 w v->aI K H1 G1->q w G1->Q v H1
theorem Cg:zc X (Dv X.K nr):=by
 rintro π s σ H x v vl vu lo hi sl Q I rx hs pl pu ⟨w,G,q,r,g,h,hQ⟩;unfold nr at h;split at h
 ·cases r with
  | @tup a ws xs hh rr=>
    by_cases hw:HT.sIx xs.length 0 lo=0/\HT.sIx xs.length xs.length hi=xs.length
    ·cases rx;obtain⟨its,rv,ht,hz⟩:=I.tuple (dq.of hh);have hlen:its.toArray.size=xs.length:=by rw[size_toArray];exact rv.length.symm
     refine⟨"tuple",_,PyProof.Rows.slot_tuple_getitem.lookup,ht.typeIs,?_⟩;refine pU ht hs pl pu (by rw[hlen];exact hw) ⟨.ref a,H,I,rfl,?_⟩;rw[nu (by rw[rr.length];exact hw)] at h;exact hQ _ H _ G (aQ.refl H) (.tup hh rr) g h
    ·exact xv π s σ H _ v vl vu lo hi sl Q I rx hs pl pu ⟨a,xs,rfl,dq.of hh,hw,λp hp=>hQ _ _ _ G (aQ.new hp _) (.tup bw ((rr.cut lo hi).mono (aQ.new hp _))) (g.keep hp _) h⟩
 ·rename_i ns;cases r with
  | scr hh=>
    refine oq π s σ H _ v vl vu lo hi sl Q I rx hs pl pu ⟨_,_,rfl,hh.sq,λp hp=>hQ _ _ _ _ (aQ.new hp _) (.ref p) (g.put (aQ.new hp _) ((aK.ints ns).cut lo hi) ?_) (h.2 p (g.fresh hp))⟩;exact ycy (gZ _ _ _) (by rw[length_map];exact h.1)
 ·obtain⟨xs,e,h⟩:=h;cases r;obtain⟨hl,zs,e1,rr⟩:=g _ _ e;exact oq π s σ H _ v vl vu lo hi sl Q I rx hs pl pu ⟨_,zs,rfl,dy.of e1,λp hp=>hQ _ _ _ _ (aQ.new hp _) (.ref p) (g.put (aQ.new hp _) (rr.cut lo hi) (ycy (gZ _ _ _) hl)) (h p (g.fresh hp))⟩
 ·exact h.elim
theorem rC:bootBuiltins "isinstance"=some (.builtin "isinstance"):=by decide+kernel
noncomputable def pV (G:Gp):W->Option String
 | .non=>some "NoneType"
 | .bl _=>some "bool"
 | .int _=>some "int"
 | .str _=>some "str"
 | .tup _=>some "tuple"
 | .ref a=>match G a with | some (.lst _)=>some "list" | some .dct=>some "dict" | some (.dic _)=>some "dict" | _=>none
 | .scr _=>none
noncomputable def fS:String->String->Bool
 | "int","int"=>true
 | "bool","int"=>true
 | "bool","bool"=>true
 | "tuple","tuple"=>true
 | "list","list"=>true
 | "str","str"=>true
 | _,_=>false
noncomputable def iI (T:String):Prop:=T="int"∨T="bool"∨T="tuple"∨T="list"∨T="str"
theorem xQ {t T:String} (ht:t="NoneType"∨t="bool"∨t="int"∨t="str"∨t="tuple"∨t="list"∨t="dict") (hT:iI T):PySem.W.kitOne K (.type t) (.type T)=some (fS t T):=by
 rcases ht with rfl | rfl | rfl | rfl | rfl | rfl | rfl<;> rcases hT with rfl | rfl | rfl | rfl | rfl<;> first | rfl | kernel_rfl | decide+kernel
noncomputable def zI (T:String) (te:WE):WE:=λτ G q=>te τ G λx G1=>match pV G1 x with | some t=>q (.bl (fS t T)) G1 | none=>False
theorem rD {H:Hp} {G:Gp} {w:W} {v:V} {t:String} (g:aI K H G) (r:cf K H w v) (e:pV G w=some t):gB K H v (.type t)/\(t="NoneType"∨t="bool"∨t="int"∨t="str"∨t="tuple"∨t="list"∨t="dict"):=by
 unfold pV at e;cases r with
 | non=>cases e;exact⟨.non,by simp⟩
 | bl b=>cases e;exact⟨.bl b,by simp⟩
 | int i=>cases e;exact⟨.int i,by simp⟩
 | str x=>cases e;exact⟨.str x,by simp⟩
 | tup h _=>cases e;exact⟨.tup h,by simp⟩
 | scr h=>cases e
 | ref a=>
   simp only at e;split at e
   ·rename_i ws e1;cases e;obtain⟨_,xs,e2,_⟩:=g a _ e1;exact⟨.lst e2,by simp⟩
   ·rename_i e1;cases e;exact⟨.dK (g a _ e1),by simp⟩
   ·rename_i kvs e1;cases e;obtain⟨_,kvs',e2,_⟩:=g a _ e1;exact⟨.dK e2,by simp⟩
   ·cases e
theorem zJ {T:String} (hT:iI T) {σ:St} {H:Hp} {v:V} {w:W} {G:Gp} {q:WK} {Q:VK} (I:aC X π σ H s) (ru:bg v u) (r:cf X.K H w v) (g:aI X.K H G)
 (h:match pV G w with | some t=>q (.bl (fS t T)) G | none=>False) (hQ:∀v H1 w G1,aQ H H1->cf X.K H1 w v->aI X.K H1 G1->q w G1->Q v H1):
 wpAny (model X.prog X.w) X.A (call (.builtin "isinstance") [u,.type T]) (EP X π σ Q) X.xe s:=by
 split at h
 ·rename_i t e;obtain⟨ty,hk⟩:=rD g r e;exact pL I ru ty (xQ hk hT) λtk=>⟨.bl _,H,I.tok tk,rfl,hQ _ H _ G (aQ.refl H) (.bl _) g h⟩
 ·exact h.elim
theorem eY {T:String} {te:WE} {p p2 pos:Pos} (hT:iI T) (hv:bootBuiltins x=some (.type T)) (hm:X.mg x=none) (hgx:Gl X x) (hm1:X.mg "isinstance"=none) (hg1:Gl X "isinstance") (he:QE X e te) (hn:x≠"__name__":=by decide) (hd:(x==("__debug__":Str))=false:=by decide)
 (hs1:starEach [e,.Name x p2] X.env=(false,eval e X.env)::starEach [.Name x p2] X.env:=by rfl) (hs2:starEach [.Name x p2] X.env=(false,eval (.Name x p2) X.env)::starEach [] X.env:=by rfl)
 (hpl:(backTo pos (starEach [.Name x p2] X.env)).any (·.1)=false:=by rfl):QE X (.Call (.Name "isinstance" p) [e,.Name x p2] [] pos) (zI T te):=by
 have hb:PE X (.Name x p2) (tC (.ty T)):=tQ hgx hm hv rfl hn hd;have ha:PA X [e,.Name x p2] (qM (gE X.K te) (qM (tC (.ty T)) uf)):=eh he (eh hb pa_nil hs2) hs1;have hc:gh X (.builtin "isinstance") (λvs H Q=>∃(v:V) (w:W) (G:Gp) (q:WK),vs=[v,.ty T]/\cf X.K H w v/\aI X.K H G/\(match pV G w with | some t=>q (.bl (fS t T)) G | none=>False)/\∀v H1 w G1,aQ H H1->cf X.K H1 w v->aI X.K H1 G1->q w G1->Q v H1):=by
  rintro π s σ H xs us Q I r ⟨v,w,G,q,e1,r1,g1,h,hQ⟩;subst e1;obtain⟨u,u2,rfl,ru,ru2⟩:=qJ r;cases (show u2=Value.type T from ru2);exact zJ hT I ru r1 g1 h hQ
 exact(lx hc hg1 hm1 rC ha (by decide) (by decide) hs1 hpl).imp λσ H Q z0=>z0.el λτ G q hs hg ht hQ=>⟨τ,G,_,hs,hg,ht,λv H1 w G1 t1 r1 g1 q1=>
  ⟨v,w,G1,q,rfl,r1,g1,q1,λv2 H2 w2 G2 t2=>hQ v2 H2 w2 G2 (t1.trans t2)⟩⟩
noncomputable def xR:List W->Gp->WK->Prop:=λws G q=>match ws with
 | [.ref a]=>∃ns:List Int,G a=some (.lst (ns.map W.int))/\q (.int ns.sum) G
 | _=>False
theorem aK.ints_of {K:yav} {H:Hp}:∀{ns:List Int} {vs:List V},aK K H (ns.map W.int) vs->vs=ns.map V.int
 | [],_,r=>by cases r;rfl
 | n::ns,_,r=>by
   cases r with
   | cons r rs=>
     cases r;rw[aK.ints_of rs]
     rfl
theorem rE (hc:X.calm=true):dX X (.builtin "sum") xR:=by
 rintro π s σ H xs us Q I r ⟨ws,G,q,rw',g,h,hQ⟩;unfold xR at h;split at h
 ·rename_i a;obtain⟨ns,e,h⟩:=h;obtain⟨v,rfl,r1⟩:=rw'.one;cases r1;obtain⟨_,zs,e1,rr⟩:=g a _ e;obtain rfl:=rr.ints_of;obtain⟨u,rfl,ru⟩:=eQ r;cases (show u=Value.ref a from ru);obtain⟨its,rv,p,hz⟩:=I.list (dy.of e1);have hi:IntsAre its ns:=L2.intsAre_of rv;obtain⟨ys,ey⟩:=hi.allInts.items;have hn:(ys.toList.map (·.1))=ns:=by rw[←nums_intItems,←ey,←hi.numsOf]
  have hl:s.heap.IsList a (intItems ys):=by rw[←ey];exact p.isList
  refine sum_intListG (I.ok.hd hc) hl λh' tk t' hk=>⟨.int _,H,I.kept hk,⟨t',rfl⟩,?_⟩;have es:preSum (numAt ys) ys.size=ns.sum:=by rw[preSum_eq,take_of_length_le (by simp),hn]
  rw[es];exact hQ _ H _ G (aQ.refl H) (.int _) g h
 ·exact h.elim
noncomputable def zK (to te:WE):WE:=λτ G q=>to τ G λx G1=>match x with
 | .ref a=>(∃xs,G1 a=some (.lst xs))/\te τ G1 λy G2=>∃ys,G2 a=some (.lst ys)/\ys.length+1<=100000/\q .non (aV G2 a (.lst (ys++[y])))
 | _=>False
theorem dh {o e:Expr} {to te:WE} {apos cpos:Pos} (ho:QE X o to) (he:QE X e te)
 (hbase:attributeBase o "append" X.env (eval o X.env)=eval o X.env:=by rfl)
 (hfew:((backTo cpos (starEach [e] X.env)).all (λx=>!x.1)&&(backToKw cpos (keywordEach [] X.env)).all (λx=>x.1.isSome)
   &&decide (([e]:List Expr).length+([]:List Keyword).length+(if ([]:List Keyword).isEmpty then 0 else 1)<30))=true:=by rfl)
 (hline:(apos.endLine==cpos.line)=true:=by rfl) (hs:starEach [e] X.env=(false,eval e X.env)::starEach [] X.env:=by rfl):
 QE X (.Call (.Attribute o "append" apos) [e] [] cpos) (zK to te):=
 (qZ PySem.F.plainAttrs_list PySem.F.slot_list_append PySem.F.type_list_append pP ho (eh he pa_nil hs) hbase hfew hline hs rfl).imp λσ H Q z0=>z0.el λτ G q hs hg ht hQ=>
   ⟨τ,G,_,hs,hg,ht,λv H1 w G1 t1 r1 g1 q1=>by
     split at q1
     ·rename_i a;cases r1;obtain⟨⟨xs,e1⟩,q1⟩:=q1;obtain⟨_,xs',h1,_⟩:=g1 a _ e1;refine⟨.inl ⟨rfl,xs',dy.of h1⟩,τ,G1,_,hs.mono t1,g1,q1,λv2 H2 w2 G2 t2 r2 g2 q2=>?_⟩;obtain⟨ys,e2,hl,q2⟩:=q2;obtain⟨_,ys',h2,rr⟩:=g2 a _ e2;refine⟨a,ys',v2,rfl,rfl,h2,?_,?_⟩
      ·rw[←rr.length];exact bI hl
      ·exact hQ _ _ _ _ ((t1.trans t2).trans (aQ.lst h2 _)) .non (g2.put (aQ.lst h2 _) (rr.append (.cons r2 .nil)) (by rw[length_append];exact hl)) q2
     ·exact q1.elim⟩
end
structure tM (K:yav) (J:It) (ws:List W) (C:Gp->Prop) (H0:Hp):Prop where
 stop:∀i H G,aQ H0 H->aI K H G->C G->ws.length<=i->J.stop i H
 go:∀i w H G,aQ H0 H->aI K H G->C G->ws[i]?=some w->J.go i H/\∀x H',J.yld i H x H'->aQ H H'/\cf K H' w x/\aI K H' G
noncomputable abbrev WI:=de->Gp->(List W->(Gp->Prop)->Gp->Prop)->Prop
noncomputable def LI (K:yav) (t:WI):TI:=λσ H R=>∃τ G r,bq K H τ σ/\aI K H G/\t τ G r/\∀J H1 ws C G1,aQ H H1->aI K H1 G1->tM K J ws C H1->r ws C G1->R J H1
noncomputable def QI (X:Cx) (tg iter:Expr) (t:WI):Prop:=PI X tg iter (LI X.K t)
section
variable {X:Cx} {tg:Expr}
theorem PI.imp {t t':TI} (h:PI X tg e t) (f:∀σ H R,t' σ H R->t σ H R):PI X tg e t':=λπ s σ H R I q=>h π s σ H R I (f _ _ _ q)
theorem uz {ws:List W} {xs:List V} {H:Hp} (h:H a=some (.tup xs)) (r:aK K H ws xs):tM K (BP K a) ws (λ_=>True) H where
 stop:=λi H1 G t g _ hl=>⟨xs,dq.of (t.tup _ _ h),by rw[←r.length];exact hl⟩
 go:=λi w H1 G t g _ e=>by
  obtain⟨v,e1,rv⟩:=r.get e;refine⟨⟨xs,v,dq.of (t.tup _ _ h),e1⟩,λx H' z9=>?_⟩;obtain⟨eH,hy⟩:=z9;subst eH;have e2:=hy xs (dq.of (t.tup _ _ h));rw[e1] at e2;cases e2;exact⟨aQ.refl _,rv.mono t,g⟩
theorem uA {ws:List W} {H:Hp}:tM K (Bs K a) ws (λG=>G a=some (.lst ws)) H where
 stop:=λi H1 G t g e hl=>by
  obtain⟨_,xs,h1,r⟩:=g a _ e;exact⟨xs,dy.of h1,by rw[←r.length];exact hl⟩
 go:=λi w H1 G t g eG e=>by
  obtain⟨_,xs,h1,r⟩:=g a _ eG;obtain⟨v,e1,rv⟩:=r.get e;refine⟨⟨xs,v,dy.of h1,e1⟩,λx H' z9=>?_⟩;obtain⟨eH,hy⟩:=z9;subst eH;have e2:=hy xs (dy.of h1);rw[e1] at e2;cases e2;exact⟨aQ.refl _,rv,g⟩
theorem uB {ns:List Int} {H:Hp} (h:we K H a ns):tM K (Bs K a) (ns.map W.int) (λ_=>True) H where
 stop:=λi H1 G t g _ hl=>⟨_,(h.mono t).sq,by simpa using hl⟩
 go:=λi w H1 G t g _ e=>by
  have r:aK K H1 (ns.map W.int) (ns.map V.int):=aK.ints ns;obtain⟨v,e1,rv⟩:=r.get e;refine⟨⟨_,v,(h.mono t).sq,e1⟩,λx H' z9=>?_⟩;obtain⟨eH,hy⟩:=z9;subst eH;have e2:=hy _ (h.mono t).sq;rw[e1] at e2;cases e2;exact⟨aQ.refl _,rv,g⟩
noncomputable def qy (n:Nat):List W:=(List.range n).map λ(i:Nat)=>W.int (i:Int)
theorem uC {n:Nat} {H:Hp}:tM K (Bt 0 n) (qy n) (λ_=>True) H where
 stop:=λi H1 G t g _ hl=>by have h:n<=i:=(by simpa[qy] using hl);exact h
 go:=λi w H1 G t g _ e=>by
  unfold qy at e;rw[List.getElem?_map] at e;have hi:i<n:=by
   cases h:(List.range n)[i]? with
   | none=>rw[h] at e;cases e
   | some k=>
     have:=(List.getElem?_eq_some_iff.mp h).1;simpa using this
  rw[List.getElem?_range hi] at e;cases e;refine⟨hi,λx H' z9=>?_⟩;obtain⟨eH,hy⟩:=z9;subst eH;subst hy;exact⟨aQ.refl _,by simpa using cf.int _,g⟩
noncomputable def zL (ta:WA):WI:=λτ G r=>ta τ G λws G1=>match ws with
 | [.int j]=> -(2^62)<=j/\j<2^62/\r (qy j.toNat) (λ_=>True) G1
 | _=>False
theorem rF {a:Expr} {ta:WA} {p pos:Pos} (hg:Gl X "range") (hm:X.mg "range"=none) (ha:QA X [a] ta) (hs:starEach [a] X.env=[(false,eval a X.env)]:=by rfl):QI X tg (.Call (.Name "range" p) [a] [] pos) (zL ta):=
 (pF hg hm ha hs).imp λσ H R ⟨τ,G,r,hs,hg,ht,hR⟩=>⟨τ,G,_,hs,hg,ht,λvs H1 ws G1 t1 r1 g1 q1=>by
   split at q1
   ·obtain⟨v,rfl,r2⟩:=r1.one;cases r2 with
    | int j=>exact⟨_,rfl,q1.1,q1.2.1,hR _ H1 _ _ G1 t1 g1 uC q1.2.2⟩
   ·exact q1.elim⟩
noncomputable def iJ (C:Gp->Prop) (g:WG) (tb:WS) (d:dU):List W->de->Gp->Prop
 | [],τ,G=>C G/\d.nx τ G
 | w::ws,τ,G=>C G/\g w τ G λτ2 G2=>tb { d with nx:=iJ C g tb d ws,ct:=iJ C g tb d ws,bk:=d.nx } τ2 G2
noncomputable def zM (wi:WI) (g:WG) (tb:WS):WS:=λd τ G=>wi τ G λws C G1=>iJ C g tb d ws τ G1
theorem eA {iter:Expr} {wi:WI} {g:WG} {tb:WS} (hp:PassesOwn (model X.prog X.w) X.A X.env X.xe) (hc:X.calm=true) (hi:QI X tg iter wi) (hg:QG X tg g) (hb:mQ X body tb)
 (hs:∀x,foldedSetIterable iter X.env x=pure x:=by intro _;rfl):QS X (.For tg iter body [] pos) (zM wi g tb):=
 (xf hp hc hi hg hb hs).imp λD σ H z0=>z0.el λτ G d hs hg ht l=>⟨τ,G,_,hs,hg,ht,λJ H1 ws C G1 t1 g1 it q1=>by
   refine⟨λi m σ2 H2=>∃τ2 G2,m=ws.length-i/\i<=ws.length/\aQ H1 H2/\bq X.K H2 τ2 σ2/\aI X.K H2 G2/\iJ C g tb d (ws.drop i) τ2 G2,⟨ws.length,τ,G1,by simp,zero_le _,aQ.refl _,hs.mono t1,g1,by simpa using q1⟩,?_⟩;rintro i m σ2 H2 ⟨τ2,G2,rfl,hi,t2,s2,g2,q2⟩
   by_cases hlt:i<ws.length
   ·have ed:ws.drop i=ws[i]::ws.drop (i+1):=drop_eq_getElem_cons hlt;rw[ed] at q2;obtain⟨c2,q2⟩:=q2;obtain⟨go,yl⟩:=it.go i ws[i] H2 G2 t2 g2 c2 (ycz hlt);refine .inr ⟨go,λσ3 H3=>∃τ3 G3,aQ H1 H3/\bq X.K H3 τ3 σ3/\aI X.K H3 G3/\iJ C g tb d (ws.drop (i+1)) τ3 G3,?_,λx H' hy=>?_⟩
    ·rintro σ3 H3 ⟨τ3,G3,t3,s3,g3,q3⟩;exact⟨ws.length- (i+1),by (clear hi ed;lia),τ3,G3,rfl,hlt,t3,s3,g3,q3⟩
    ·obtain⟨tx,rx,gx⟩:=yl x H' hy;refine⟨ws[i],τ2,G2,_,rx,s2.mono tx,gx,q2,λσ3 H3 τ3 G3 t3 s3 g3 q3=>?_⟩;have tt:=(t2.trans tx).trans t3;have t0:=t1.trans tt;exact⟨τ3,G3,_,s3,g3,q3,⟨λσ4 H4 τ4 G4 t4 s4 g4 q4=>⟨τ4,G4,tt.trans t4,s4,g4,q4⟩,λv H4 w G4 t4=>l.rt v H4 w G4 (t0.trans t4),λσ4 H4 τ4 G4 t4=>l.nx σ4 H4 τ4 G4 (t0.trans t4),λσ4 H4 τ4 G4 t4 s4 g4 q4=>⟨τ4,G4,tt.trans t4,s4,g4,q4⟩⟩⟩
   ·have e:i=ws.length:=by lia
    subst e;rw[List.drop_length] at q2;exact .inl ⟨it.stop _ H2 G2 t2 g2 q2.1 (ycx _),l.nx σ2 H2 τ2 G2 (t1.trans t2) s2 g2 q2.2⟩⟩
end
section
variable {prog:Program} {w:World} {A:Around} {E:yey} {s:Shared}
theorem fT {it t:Addr} {x:Value} (a:s.heap.IsTupleIter it t i) (b:s.heap.IsTuple t items) (e:items[i]?=some x) (q:∀h',h'.IsTupleIter it t (i+1)->Heap.SameBut it s.heap h'->Q x { s with heap:=h' }):wpAny (model prog w) A (Builtin.SmallTypes.nextOf (.ref it)) Q E s:=by
 obtain⟨o,ho,hc,hd⟩:=id a;obtain⟨ol,hol,_,nl,hdl⟩:=b;unfold Builtin.SmallTypes.nextOf;refine wax (wpAny_callSpecial?_slot (name:=Str.ofString "__next__") a.typeIs F.slot_tuple_iterator_next (wpAny_call_entry F.slot_tuple_iterator_next a.typeIs F.entry_tuple_iterator_next ?_ (F.args_tuple_iterator_next_1 _)));show wpAny _ _ (field (.ref it) 0 >>= _) _ _ s;refine wax (wpAny_field ho hd (x:= .ref t) rfl ?_);show wpAny _ _ (if (Value.ref t==Value.none)=true then _ else _) _ _ s;rw[ycw (show ¬((Value.ref t==Value.none)=true) from ydx)];show wpAny _ _ (field (.ref it) 1 >>= _) _ _ s;refine wax (wpAny_field ho hd (x:= .int i 0) rfl ?_);show wpAny _ _ (seqItems? (.ref t) >>= _) _ _ s;refine wax (wpAny_seqItems hol hdl ?_);simp only[Int.toNat_natCast,e];refine wax (wpAny_setField ho hd (by simp) (wpAny_pure ⟨x,rfl,wpAny_pure (q _ ⟨_,Heap.get?_update_self _ ho (Obj.isFreed_of_fields (Obj.data_mapFields hd _)),(Obj.cls_mapFields ..).trans hc,by rw[Obj.data_mapFields hd];simp[rawInt]⟩ (Heap.SameBut.update ..))⟩))
theorem jw {it t:Addr} (hh:A.handled=none) (a:s.heap.IsTupleIter it t i) (b:s.heap.IsTuple t items) (e:items[i]?=none) (q:∀h' x,Heap.ExtBut it s.heap h'->(∃o,h'.get? x=some o/\o.cls=.type "StopIteration")->E (.ref x) { s with heap:=h' }):wpAny (model prog w) A (Builtin.SmallTypes.nextOf (.ref it)) Q E s:=by
 obtain⟨o,ho,hc,hd⟩:=id a;obtain⟨ol,hol,_,nl,hdl⟩:=b;unfold Builtin.SmallTypes.nextOf;refine wax (wpAny_callSpecial?_slot (name:=Str.ofString "__next__") a.typeIs F.slot_tuple_iterator_next (wpAny_call_entry F.slot_tuple_iterator_next a.typeIs F.entry_tuple_iterator_next ?_ (F.args_tuple_iterator_next_1 _)));show wpAny _ _ (field (.ref it) 0 >>= _) _ _ s;refine wax (wpAny_field ho hd (x:= .ref t) rfl ?_);show wpAny _ _ (if (Value.ref t==Value.none)=true then _ else _) _ _ s;rw[ycw (show ¬((Value.ref t==Value.none)=true) from ydx)];show wpAny _ _ (field (.ref it) 1 >>= _) _ _ s;refine wax (wpAny_field ho hd (x:= .int i 0) rfl ?_);show wpAny _ _ (seqItems? (.ref t) >>= _) _ _ s;refine wax (wpAny_seqItems hol hdl ?_);simp only[Int.toNat_natCast,e];refine wax (wpAny_rule (wax (wpAny_setField ho hd (by simp) ?_)));show wpAny _ _ (newExc (.type "StopIteration") [] >>= _) _ _ _;refine wax ?_;simp only[newExc,newTuple];refine wax (wpAny_newObj_type ?_ (by size_fits));refine wax (m:=firstArgMember _ _) (wpAny_of_eq (a:=Value.none) (by first | rfl | (simp only[firstArgMember];rfl)) ?_);refine wpAny_newObj_type ?_ (by size_fits);simp only[raiseNew];refine wax (wpAny_handled ?_);first | rw[show A.in1.handled=none from hh] | rw[hh]
 refine wax (wpAny_pure (wpAny_throw ?_));exact q _ _ (((Heap.SameBut.update ..).extBut.push _).push _) ⟨_,ybw _ rfl,rfl⟩
structure ZA (z p r i j a b:Addr):Prop where
 zp:p≠z
 zr:r≠z
 zi:i≠z
 zj:j≠z
 pr:p≠r
 pi:p≠i
 pj:p≠j
 ri:r≠i
 rj:r≠j
 ij:i≠j
 az:a≠z
 ar:a≠r
 ai:a≠i
 aj:a≠j
 bz:b≠z
 br:b≠r
 bi:b≠i
 bj:b≠j
structure ZT (z p r i j a b:Addr) (n:Nat) (f:Value) (h:Heap):Prop where
 hz:IsZip h z p r f
 hp:IsPair h p (.ref i) (.ref j)
 hr:∃x y,IsPair h r x y
 hi:h.IsTupleIter i a n
 hj:h.IsTupleIter j b n
theorem pW {z p r i j a b:Addr} {n:Nat} {xs ys:Array Value} {x y:Value} {Q:Option Value->Shared->Prop} (D:ZA z p r i j a b) (T:ZT z p r i j a b n .none s.heap) (ha:s.heap.IsTuple a xs) (hb:s.heap.IsTuple b ys) (hx:xs[n]?=some x) (hy:ys[n]?=some y)
 (q:∀h',ZT z p r i j a b (n+1) (rawInt s.heap.objs.size) h'->IsPair h' s.heap.objs.size x y->(∀c o,c≠z->c≠r->c≠i->c≠j->s.heap.get? c=some o->h'.get? c=some o)->Q (some (.ref s.heap.objs.size)) { s with heap:=h' }):wpAny (model prog w) A (pyNext (.ref z)) Q E s:=by
 obtain⟨hz,hp,⟨u,v,hr⟩,hi,hj⟩:=T;have hT:s.TypeIs (.ref z) "zip":=⟨_,hz,rfl⟩;unfold pyNext;refine wax (wpAny_attempt (wpAny_callSpecial?_slot (name:=Str.ofString "__next__") hT F.slot_zip_next (wpAny_call_entry F.slot_zip_next hT F.entry_zip_next ?_ (F.args_zip_next_1 _))));show wpAny _ _ (field (.ref z) 2 >>= _) _ _ _;refine wax (wpAny_field hz rfl (x:= .bool false) rfl ?_);show wpAny _ _ (field (.ref z) 3 >>= _) _ _ _;refine wax (wpAny_field hz rfl (x:= .ref p) rfl ?_);refine wax (wpAny_seqItems hp rfl ?_);show wpAny _ _ (Builtin.SmallTypes.ownedTupleIsFree (.ref z) >>= _) _ _ _;refine wax ?_;unfold Builtin.SmallTypes.ownedTupleIsFree;refine wax (wpAny_field hz rfl (x:= .none) rfl (wpAny_pure ?_));simp only[if_true];refine wax (wpAny_rule ?_);refine wax (wpAny_field hz rfl (x:= .ref r) rfl ?_);refine wax (wpAny_setField_rec hz (by simp) λh1 z1 b1=>?_);have z1:IsZip h1 z p r .ellipsis:=z1;refine wax ?_;simp only[List.zipIdx_cons,List.zipIdx_nil,forIn_cons,List.forIn_nil];refine wax (wax (wpAny_onRaise ?_));show wpAny _ _ (Builtin.SmallTypes.nextOf (.ref i) >>= _) _ _ _;refine wax (fT (hi.extBut b1.extBut D.zi) (ha.extBut b1.extBut D.az) hx λh2 i2 b2=>wpAny_pure ?_);have r2:IsPair h2 r u v:=b2.extBut _ _ D.ri (b1.extBut _ _ D.zr hr);refine wax (wpAny_seqItems r2 rfl ?_);refine wax (wpAny_updateSeq_pair r2 λh3 r3 b3=>?_);have r3:IsPair h3 r x v:=r3;refine wax (wpAny_letGo (wpAny_pure ?_));refine wax (wax (wpAny_onRaise ?_));show wpAny _ _ (Builtin.SmallTypes.nextOf (.ref j) >>= _) _ _ _;refine wax (fT (((hj.extBut b1.extBut D.zj).extBut b2.extBut D.ij.symm).extBut b3.extBut D.rj.symm) (((hb.extBut b1.extBut D.bz).extBut b2.extBut D.bi).extBut b3.extBut D.br) hy λh4 j4 b4=>wpAny_pure ?_);have r4:IsPair h4 r x v:=b4.extBut _ _ D.rj r3;refine wax (wpAny_seqItems r4 rfl ?_);refine wax (wpAny_updateSeq_pair r4 λh5 r5 b5=>?_);have r5:IsPair h5 r x y:=r5;refine wax (wpAny_letGo (wpAny_pure (wpAny_pure ?_)));refine wax (wpAny_seqItems r5 rfl ?_);refine wax (wpAny_newTuple ?_);have sz:h5.objs.size=s.heap.objs.size:=by rw[b5.1,b4.1,b3.1,b2.1,b1.1]
 have z5:IsZip h5 z p r .ellipsis:=b5.extBut _ _ D.zr.symm (b4.extBut _ _ D.zj.symm (b3.extBut _ _ D.zr.symm (b2.extBut _ _ D.zi.symm z1)));have k5:∀c o,c≠z->c≠r->c≠i->c≠j->s.heap.get? c=some o->h5.get? c=some o:=λc o c1 c2 c3 c4 e=>b5.extBut _ _ c2 (b4.extBut _ _ c4 (b3.extBut _ _ c2 (b2.extBut _ _ c3 (b1.extBut _ _ c1 e))));have i5:h5.IsTupleIter i a (n+1):=((i2.extBut b3.extBut D.ri.symm).extBut b4.extBut D.ij).extBut b5.extBut D.ri.symm;have j5:h5.IsTupleIter j b (n+1):=j4.extBut b5.extBut D.rj.symm;have ltz:z<h5.objs.size:=ybv z5;show wpAny _ _ (Builtin.SmallTypes.ownedTupleHandOut (.ref z) (.ref h5.objs.size) >>= _) _ _ _;refine wax ?_;unfold Builtin.SmallTypes.ownedTupleHandOut;have z6:IsZip (h5.push { cls:= .type "tuple",data:= .seq #[x,y] }) z p r .ellipsis:=ybz _ z5;refine wax (wpAny_setField_rec z6 (by simp) λh7 z7 b7=>?_);have z7:IsZip h7 z p r (rawInt h5.objs.size):=z7;refine wpAny_setField_rec z7 (by simp) λh8 z8 b8=>?_;have z8:IsZip h8 z p r (rawInt h5.objs.size):=z8;have up:∀c o,c≠z->h5.get? c=some o->h8.get? c=some o:=λc o c1 e=>b8.extBut _ _ c1 (b7.extBut _ _ c1 (ybz _ e));have t8:IsPair h8 h5.objs.size x y:=b8.extBut _ _ (Nat.ne_of_gt ltz) (b7.extBut _ _ (Nat.ne_of_gt ltz) (ybw _ rfl));rw[sz] at z8 t8;refine wpAny_pure ⟨_,rfl,wpAny_pure ?_⟩;show Q (some (.ref h5.objs.size)) _;rw[sz];exact q h8 ⟨z8,up _ _ D.zp (k5 _ _ D.zp D.pr D.pi D.pj hp),⟨_,_,up _ _ D.zr r5⟩,i5.at λo e=>up _ o D.zi e,j5.at λo e=>up _ o D.zj e⟩ t8 λc o c1 c2 c3 c4 e=>up c o c1 (k5 c o c1 c2 c3 c4 e)
theorem rG {z p r i j a b:Addr} {n:Nat} {xs ys:Array Value} {Q:Option Value->Shared->Prop} (hh:A.handled=none) (D:ZA z p r i j a b) (T:ZT z p r i j a b n .none s.heap) (ha:s.heap.IsTuple a xs) (hb:s.heap.IsTuple b ys) (hx:xs[n]?=none∨ys[n]?=none)
 (q:∀h',(∀c o,c≠z->c≠r->c≠i->c≠j->s.heap.get? c=some o->h'.get? c=some o)->Q none { s with heap:=h' }):wpAny (model prog w) A (pyNext (.ref z)) Q E s:=by
 obtain⟨hz,hp,⟨u,v,hr⟩,hi,hj⟩:=T;have hT:s.TypeIs (.ref z) "zip":=⟨_,hz,rfl⟩;unfold pyNext;have fin:∀(h':Heap) (e:Addr),(∀c o,c≠z->c≠r->c≠i->c≠j->s.heap.get? c=some o->h'.get? c=some o)->(∃o,h'.get? e=some o/\o.cls=.type "StopIteration")->wpAny (model prog w) A (do if (←isInstance (.ref e) (.type "StopIteration")) then pure none else throw (.ref e)) Q E { s with heap:=h' }:=λh' e k he=>by
  obtain⟨o,ho,hc⟩:=he;exact wax (wpAny_isInstance (T:="StopIteration") (b:=true) ⟨o,ho,hc⟩ isSubtype_stop (wpAny_pure (q _ k)))
 refine wax (wpAny_attempt (wpAny_callSpecial?_slot (name:=Str.ofString "__next__") hT F.slot_zip_next (wpAny_call_entry F.slot_zip_next hT F.entry_zip_next ?_ (F.args_zip_next_1 _))));show wpAny _ _ (field (.ref z) 2 >>= _) _ _ _;refine wax (wpAny_field hz rfl (x:= .bool false) rfl ?_);show wpAny _ _ (field (.ref z) 3 >>= _) _ _ _;refine wax (wpAny_field hz rfl (x:= .ref p) rfl ?_);refine wax (wpAny_seqItems hp rfl ?_);show wpAny _ _ (Builtin.SmallTypes.ownedTupleIsFree (.ref z) >>= _) _ _ _;refine wax ?_;unfold Builtin.SmallTypes.ownedTupleIsFree;refine wax (wpAny_field hz rfl (x:= .none) rfl (wpAny_pure ?_));simp only[if_true];refine wax (wpAny_rule ?_);refine wax (wpAny_field hz rfl (x:= .ref r) rfl ?_);refine wax (wpAny_setField_rec hz (by simp) λh1 z1 b1=>?_);have z1:IsZip h1 z p r .ellipsis:=z1;refine wax ?_;simp only[List.zipIdx_cons,List.zipIdx_nil,forIn_cons,List.forIn_nil];refine wax (wax (wpAny_onRaise ?_));show wpAny _ _ (Builtin.SmallTypes.nextOf (.ref i) >>= _) _ _ _;cases e1:xs[n]? with
 | none=>
   refine wax (jw hh (hi.extBut b1.extBut D.zi) (ha.extBut b1.extBut D.az) e1 λh2 e b2 he=>?_);obtain⟨oe,hoe,hce⟩:=he;have z2:IsZip h2 z p r .ellipsis:=b2 _ _ D.zi.symm z1;have ez:e≠z:=λx=>by subst x;rw[z2] at hoe;cases hoe;simp at hce
   exact wpAny_setField_rec z2 (by simp) λh3 _ b3=>fin h3 e (λc o c1 _ c3 _ x=>b3.extBut _ _ c1 (b2 _ _ c3 (b1.extBut _ _ c1 x))) ⟨oe,b3.extBut _ _ ez hoe,hce⟩
 | some x=>
   have e2:ys[n]?=none:=by rcases hx with h | h; ·rw[e1] at h;cases h
                           ·exact h
   refine wax (fT (hi.extBut b1.extBut D.zi) (ha.extBut b1.extBut D.az) e1 λh2 i2 b2=>wpAny_pure ?_);have r2:IsPair h2 r u v:=b2.extBut _ _ D.ri (b1.extBut _ _ D.zr hr);refine wax (wpAny_seqItems r2 rfl ?_);refine wax (wpAny_updateSeq_pair r2 λh3 r3 b3=>?_);refine wax (wpAny_letGo (wpAny_pure ?_));refine wax (wax (wpAny_onRaise ?_));show wpAny _ _ (Builtin.SmallTypes.nextOf (.ref j) >>= _) _ _ _;refine wax (jw hh (((hj.extBut b1.extBut D.zj).extBut b2.extBut D.ij.symm).extBut b3.extBut D.rj.symm) (((hb.extBut b1.extBut D.bz).extBut b2.extBut D.bi).extBut b3.extBut D.br) e2 λh4 e b4 he=>?_);obtain⟨oe,hoe,hce⟩:=he;have z4:IsZip h4 z p r .ellipsis:=b4 _ _ D.zj.symm (b3.extBut _ _ D.zr.symm (b2.extBut _ _ D.zi.symm z1));have ez:e≠z:=λx=>by subst x;rw[z4] at hoe;cases hoe;simp at hce
   exact wpAny_setField_rec z4 (by simp) λh5 _ b5=>fin h5 e (λc o c1 c2 c3 c4 x=>b5.extBut _ _ c1 (b4 _ _ c4 (b3.extBut _ _ c2 (b2.extBut _ _ c3 (b1.extBut _ _ c1 x))))) ⟨oe,b5.extBut _ _ ez hoe,hce⟩
end
noncomputable def Bw (h:Heap) (a:Addr):Heap:=h.push { cls:= .type "tuple_iterator",data:= .fields #[.ref a,.int 0 0] }
noncomputable def zN (h:Heap) (a b:Addr):Heap:=(Bw h a).push { cls:= .type "tuple_iterator",data:= .fields #[.ref b,.int 0 0] }
noncomputable def zO (h:Heap) (a b:Addr):Heap:=(zN h a b).push { cls:= .type "tuple",data:= .seq #[.ref h.objs.size,.ref (Bw h a).objs.size] }
noncomputable def zP (h:Heap) (a b:Addr):Heap:=(zO h a b).push { cls:= .type "tuple",data:= .seq #[.none,.none] }
noncomputable def yI (h:Heap) (a b:Addr):Heap:=(zP h a b).push { cls:= .type "zip",data:= .fields #[.none,.bool false,.bool false,.ref (zN h a b).objs.size,.ref (zO h a b).objs.size] }
theorem rH (a b:Addr) (xs ys:Array Value):Meets (Builtin.«zip.__new__» ⟨[.type "zip",.ref a,.ref b],[]⟩) (λ_ R s=>s.heap.IsTuple a xs/\s.heap.IsTuple b ys/\R (.ok (.ret (.ref (zP s.heap a b).objs.size))) { s with heap:=yI s.heap a b }):=
 .of_wp λprog w A R s h=>by
  obtain⟨hp,g,d,tk,os⟩:=s;obtain⟨ha,hb,h⟩:=h;have hsub:=sub_zip;have h1:Heap.IsTuple (Shared.heap ⟨hp,g,d,tk,os⟩) a xs:=ha;have h2:Heap.IsTuple (Shared.heap ⟨hp.push { cls:= .type "tuple_iterator",data:= .fields #[.ref a,.int 0 0] },g,d,tk,os⟩) b ys:=Heap.IsTuple.push hb _
  wp_walk using wpAny_pyIter_tuple h1,wpAny_pyIter_tuple h2
  exact⟨_,rfl,h⟩
theorem pX {a b:Addr} {xs ys:Array Value} (ha:s.heap.IsTuple a xs) (hb:s.heap.IsTuple b ys)
 (q:∀h',ZT (s.heap.objs.size+4) (s.heap.objs.size+2) (s.heap.objs.size+3) s.heap.objs.size (s.heap.objs.size+1) a b 0 .none h'->(∀c o,s.heap.get? c=some o->h'.get? c=some o)->Q (.ref (s.heap.objs.size+4)) { s with heap:=h' }):
 wpAny (model prog w) A (call (.type "zip") [.ref a,.ref b]) Q E s:=by
 refine callType_new F.called_zip (by decide) (F.typeCall_zip_2 _ _) (F.newCall_zip_2 _ _) (λobj=>F.args_object_init_3 obj _ _) F.entry_zip_new (rH a b xs ys) ⟨ha,hb,?_⟩;have z1:(Bw s.heap a).objs.size=s.heap.objs.size+1:=Heap.size_push ..;have z2:(zN s.heap a b).objs.size=s.heap.objs.size+2:=by unfold zN;rw[Heap.size_push,z1]
 have z3:(zO s.heap a b).objs.size=s.heap.objs.size+3:=by unfold zO;rw[Heap.size_push,z2]
 have z4:(zP s.heap a b).objs.size=s.heap.objs.size+4:=by unfold zP;rw[Heap.size_push,z3]
 have g5:(yI s.heap a b).get? (zP s.heap a b).objs.size=some _:=ybw _ rfl;have g4:(yI s.heap a b).get? (zO s.heap a b).objs.size=some _:=ybz _ (ybw _ rfl);have g3:(yI s.heap a b).get? (zN s.heap a b).objs.size=some _:=ybz _ (ybz _ (ybw _ rfl));have g2:(yI s.heap a b).get? (Bw s.heap a).objs.size=some _:=ybz _ (ybz _ (ybz _ (ybw _ rfl)));have g1:(yI s.heap a b).get? s.heap.objs.size=some _:=ybz _ (ybz _ (ybz _ (ybz _ (ybw _ rfl))));rw[z2,z3,z4] at g5;rw[z1,z2] at g3;rw[z3] at g4;rw[z1] at g2;show _/\_;rw[z4];exact⟨⟨_,g5,rfl⟩,q _ ⟨g5,g3,⟨_,_,g4⟩,⟨_,g1,rfl,rfl⟩,⟨_,g2,rfl,rfl⟩⟩ λc o x=>ybz _ (ybz _ (ybz _ (ybz _ (ybz _ x))))⟩
theorem xS {n a b:Nat} (ha:a<n) (hb:b<n):ZA (n+4) (n+2) (n+3) n (n+1) a b:=by
 constructor<;> (show(_:Nat)≠(_:Nat);lia)
section
variable {prog:Program} {w:World} {A:Around} {R:Result->Shared->Prop} {s:Shared}
noncomputable abbrev nox:Value->Shared->Prop:=λ_ _=>False
noncomputable abbrev wu (ifs:List Expr) (env:Env):Sem Bool:=forIn ifs true λc r=>if r=true then do let ok ←isTrue c env (eval c env);pure (ForInStep.yield ok) else pure (ForInStep.yield r)
theorem pY {elt tg iter:Expr} {ifs:List Expr} {it acc:Value} {env:Env} (I:Nat->Shared->Prop)
 (turn:∀n s,I n s->wpAny (model prog w) A (pyNext it) (λr s1=>match r with
   | none=>R (.ok .next) s1
   | some v=>wpAny (model prog w) A (letOwnedTupleGo tg it v) (λ_ s2=>wpAny (model prog w) A (assign tg env v) (λ_ s3=>wpAny (model prog w) A (wu ifs env) (λok s4=>
      if ok=true then wpAny (model prog w) A (eval elt env) (λx s5=>wpAny (model prog w) A (call (.builtin "list.append") [acc,x]) (λ_ s6=>∃m,m<n/\I m s6) nox s5) nox s4
      else ∃m,m<n/\I m s4) nox s3) nox s2) nox s1) nox s) (n:Nat) (h:I n s):
 codeAny (model prog w) A (.compLoop (.ListComp elt [⟨tg,iter,ifs,0⟩] scope pos) 0 it acc env) R s:=by
 refine codeAny_loop rfl I (λn s hI=>?_) n h;show wpAny _ A ((compTurn (.ListComp elt [⟨tg,iter,ifs,0⟩] scope pos) 0 it acc env).onRaise (λx=>do noteFrame x env;theTreesLotGoes x)) _ _ s;refine wpAny_noted ?_;rw[compTurn_list];refine wax (wpAny_standAt (wax (wpAny_mono (turn n s hI) (λr s1 h1=>?_) λ_ _ z=>z.elim)));cases r with
 | none=>exact wpAny_pure h1
 | some v=>
   refine wax (wpAny_mono h1 (λ_ s2 h2=>wax (wpAny_mono h2 (λ_ s3 h3=>wax (wpAny_mono h3 (λok s4 h4=>?_) λ_ _ z=>z.elim)) λ_ _ z=>z.elim)) λ_ _ z=>z.elim);cases ok with
   | false=>exact wpAny_pure ⟨rfl,h4⟩
   | true=>
     refine wax (wax (wpAny_mono h4 (λx s5 h5=>?_) λ_ _ z=>z.elim));exact wax (wpAny_mono h5 (λ_ s6 h6=>wpAny_pure (wpAny_pure ⟨rfl,h6⟩)) λ_ _ z=>z.elim)
end
noncomputable def gk (env:Env):List (Str×NameKind)->List (Str×Addr)->List (Str×Addr)
 | [],cs=>cs
 | (n,k)::r,cs=>if k== .free then gk env r ((n,(env.cells.lookup n).getD 0)::cs) else gk env r cs
theorem iK {env:Env} (h:∀y∈scope.names,y.2=.free->∃c,env.cells.lookup y.1=some c):closureFor scope env=pure (gk env scope.names []):=by
 unfold closureFor;have key:∀(l:List (Str×NameKind)) (cs:List (Str×Addr)),(∀y∈l,y.2=.free->∃c,env.cells.lookup y.1=some c)->
  (forIn l cs λ(x:Str×NameKind) (r:List (Str×Addr))=>(if (x.2==NameKind.free)=true then (do let y ←cellOf env x.1;pure (ForInStep.yield ((x.1,y)::r))) else pure (ForInStep.yield r):Sem (ForInStep (List (Str×Addr)))))=(pure (gk env l cs):Sem (List (Str×Addr))):=by
  intro l
  induction l with
  | nil=>intro cs _;rfl
  | cons y r ih=>
    intro cs hl;obtain⟨n,k⟩:=y;rw[forIn_cons];unfold gk
    by_cases hk:(k==NameKind.free)=true
    ·have hk':k=.free:=by simpa using hk
     obtain⟨c,hc⟩:=hl (n,k) yby hk';simp only[hk,if_true];have e:cellOf env n=pure c:=by unfold cellOf;rw[hc]
     rw[e,hc];simp only[pure_bind,Option.getD_some];exact ih _ λy hy=>hl y (ybx _ hy)
    ·simp only[hk,if_false,Bool.false_eq_true];simp only[pure_bind];exact ih _ λy hy=>hl y (ybx _ hy)
 have:=key scope.names [] h;simp only[bind_pure];exact this
theorem dJ {env:Env}:∀{l:List (Str×NameKind)} {cs:List (Str×Addr)},(∀y∈l,y.2=.free->∃c,env.cells.lookup y.1=some c)->(∀x c,cs.lookup x=some c->env.cells.lookup x=some c)->∀x c,(gk env l cs).lookup x=some c->env.cells.lookup x=some c
 | [],_,_,hc,x,c,e=>hc x c e
 | (n,k)::r,cs,hl,hc,x,c,e=>by
   unfold gk at e;have hr:∀y∈r,y.2=.free->∃c,env.cells.lookup y.1=some c:=λy hy=>hl y (ybx _ hy);split at e
   ·rename_i hk;obtain⟨c0,hc0⟩:=hl (n,k) yby (by simpa using hk);refine dJ hr (λx' c' e'=>?_) x c e;rw[lookup_cons] at e';cases hx:x'==n with
    | true=>
      rw[hx] at e';have:x'=n:=by simpa using hx
      subst this;rw[hc0] at e';simp at e';subst e';exact hc0
    | false=>rw[hx] at e';exact hc x' c' e'
   ·exact dJ hr hc x c e
theorem eZ {env:Env}:∀{l:List (Str×NameKind)} {cs:List (Str×Addr)} {x:Str},((x,NameKind.free)∈l∨∃c,cs.lookup x=some c)->∃c,(gk env l cs).lookup x=some c
 | [],_,_,h=>by
   rcases h with h | h
   ·simp at h
   ·exact h
 | (n,k)::r,cs,x,h=>by
   unfold gk;have keep:(∃c,cs.lookup x=some c)->∃c,((n,(env.cells.lookup n).getD 0)::cs).lookup x=some c:=λ⟨c,e⟩=>by
    rw[lookup_cons];cases hx:x==n with
    | true=>exact⟨_,rfl⟩
    | false=>exact⟨c,e⟩
   split
   ·rename_i hk;refine eZ ?_;rcases h with h | h
    ·rcases mem_cons.mp h with h | h
     ·cases h;exact .inr ⟨(env.cells.lookup n).getD 0,by rw[lookup_cons];simp⟩
     ·exact .inl h
    ·exact .inr (keep h)
   ·rename_i hk;refine eZ ?_;rcases h with h | h
    ·rcases mem_cons.mp h with h | h
     ·cases h;exact absurd rfl hk
     ·exact .inl h
    ·exact .inr h
theorem dD {env:Env}:∀{l:List (Str×NameKind)} {x:Str} {k:NameKind},(l.map λ(n,k)=>if (k==NameKind.free&&env.scope.kind== .function&&env.kindOf n==some .cell) then (n,NameKind.cell) else (n,k)).lookup x=some k->(k=.cell∨k=.free)->(∀y∈l,y.2≠ .cell)->(x,NameKind.free)∈l
 | [],_,_,e,_,_=>by simp at e
 | (n,k0)::r,x,k,e,hk,hc=>by
   rw[map_cons,lookup_cons] at e;have hr:∀y∈r,y.2≠ .cell:=λy hy=>hc y (ybx _ hy);have hn:(if (k0==NameKind.free&&env.scope.kind== .function&&env.kindOf n==some .cell)=true then (n,NameKind.cell) else (n,k0)).1=n:=by split<;> rfl
   rw[hn] at e;cases hx:x==n with
   | false=>rw[hx] at e;exact ybx _ (dD e hk hr)
   | true=>
     rw[hx] at e;have hxn:x=n:=by simpa using hx
     subst hxn;have e':(if (k0==NameKind.free&&env.scope.kind== .function&&env.kindOf x==some .cell)=true then (x,NameKind.cell) else (x,k0)).2=k:=Option.some.inj e
     by_cases hf:k0=.free
     ·subst hf;exact yby
     ·rw[ycw (by simp[hf])] at e';have e'':k0=k:=e';subst e'';rcases hk with h | h
      ·exact absurd h (hc _ yby)
      ·exact absurd h hf
theorem fJ {env:Env}:∀{l:List (Str×NameKind)} {x:Str},(l.map λ(n,k)=>if (k==NameKind.free&&env.scope.kind== .function&&env.kindOf n==some .cell) then (n,NameKind.cell) else (n,k)).lookup x=some .local->l.lookup x=some .local
 | [],_,e=>by simp at e
 | (n,k0)::r,x,e=>by
   rw[map_cons,lookup_cons] at e;rw[lookup_cons];have hn:(if (k0==NameKind.free&&env.scope.kind== .function&&env.kindOf n==some .cell)=true then (n,NameKind.cell) else (n,k0)).1=n:=by split<;> rfl
   rw[hn] at e;cases hx:x==n with
   | false=>rw[hx] at e;exact fJ e
   | true=>
     rw[hx] at e;have e':(if (k0==NameKind.free&&env.scope.kind== .function&&env.kindOf n==some .cell)=true then (n,NameKind.cell) else (n,k0)).2=NameKind.local:=Option.some.inj e;split at e'
     ·cases e'
     ·exact congrArg some e'
noncomputable def im (X:Cx) (N:List Str) (scope:Scope) (C:Addr) (fp:List Addr) (s₀:Shared) (H₀:Hp):Cx where
 prog:=X.prog
 w:=X.w
 K:=X.K
 mg:=X.mg
 base:=X.base
 A:=X.A
 N:=N
 s₀:=s₀
 H₀:=H₀
 env:=compEnvC scope (gk X.env scope.names []) C X.env
 outer:=X.stack
 stack:=X.stack
 ex:=fp
 fn:=λ_=>false
 calm:=X.calm
 pn:=[]
 xe:=nox
structure fU (X:Cx) (scope:Scope) (N:List Str) (fv:List (Option Nat)):Prop where
 kind:scope.kind=.function
 nocell:∀y∈scope.names,y.2≠ .cell
 names:∀x∈scope.names,x.2=.local->scope.names.lookup x.1=some .local
 free:∀y∈scope.names,y.2=.free->X.env.scope.names.lookup y.1=some .cell
 fvs:∀(i j:Nat) (x:Str),N[i]?=some x->fv[i]?=some (some j)->X.N[j]?=some x/\X.env.scope.names.lookup x=some .cell/\(x,NameKind.free)∈scope.names
 len:fv.length=N.length
 fvl:∀{x:Str},(x,NameKind.free)∈scope.names->scope.names.lookup x≠some .local
noncomputable def dI {α:Type} (fv:List (Option Nat)) (σ:List (Option α)):List (Option α):=fv.map λo=>o.bind λj=>(σ[j]?).join
theorem lG {α:Type} {fv:List (Option Nat)} {σ:List (Option α)} {v:α} (h:(dI fv σ)[i]?=some (some v)):∃j,fv[i]?=some (some j)/\σ[j]?=some (some v):=by
 unfold dI at h;rw[List.getElem?_map] at h;cases e:fv[i]? with
 | none=>rw[e] at h;cases h
 | some o=>
   rw[e] at h;cases o with
   | none=>cases h
   | some j=>
     have h':(σ[j]?).join=some v:=Option.some.inj h;refine⟨j,rfl,?_⟩;cases e2:σ[j]? with
     | none=>rw[e2] at h';cases h'
     | some o=>rw[e2] at h';exact congrArg some h'
theorem rJ {H:Hp} {τ:de} {σ:St} {fv:List (Option Nat)} (h:bq K H τ σ):bq K H (dI fv τ) (dI fv σ):=by
 refine⟨by simp[dI],λi w e=>?_⟩;obtain⟨j,ej,ew⟩:=lG e;obtain⟨v,ev,r⟩:=h.2 j w ew;refine⟨v,?_,r⟩;unfold dI;rw[List.getElem?_map,ej];show some ((σ[j]?).join)=_;rw[ev]
 rfl
section
variable {X:Cx} {π:List (Addr×Obj)} {σ:St} {H H2:Hp} {s s2:Shared} {scope:Scope} {N:List Str} {fv:List (Option Nat)} {fp:List Addr} {C D:Addr}
theorem fU.cells (S:fU X scope N fv) (I:aC X π σ H s):∀y∈scope.names,y.2=.free->∃c,X.env.cells.lookup y.1=some c:=λy hy hk=>I.ok.has y.1 (.inl (S.free y hy hk))
theorem pZ {h4:Heap} {t4:Nat} {m:yew} (I:aC X π σ H2 s2) (S:fU X scope N fv) (hf:∀b∈fp,j7 X π H2 b) (hfo:∀b∈fp,b<s2.heap.objs.size) (keep:∀b o,s2.heap.get? b=some o->h4.get? b=some o)
 (hC:s2.heap.objs.size<=C) (ns:h4.Ns C m):aC (im X N scope C fp s2 H2) [] (dI fv σ) H2 { s2 with heap:=h4,toks:=t4 }:=by
 have look:∀x c,(gk X.env scope.names []).lookup x=some c->X.env.cells.lookup x=some c:=dJ (S.cells I) (λx c e=>by simp at e);refine⟨⟨I.ok.mod,S.kind,I.ok.glob,I.ok.blt,hC,λx y c e1 e2=>I.ok.inj x y c (look x c e1) (look y c e2),λx hx=>?_,λx c h=>absurd (show false=true from h) ydx,I.ok.hd,I.ok.frames,.inl rfl,λb hb=>?_,I.bs,ycy I.ok.bsz I.sz,λb o e hb=>?_,λb hb hx=>?_,I.stack,I.stkFree⟩,
  rfl,I.bare,Un.kept keep,⟨m,ns,λi x v e1 e2 e3=>?_⟩,λx c e=>?_,I.hok.fresh hC,λx c e=>I.freeC x c (look x c e),λp hp=>absurd (show p∈([]:List (Addr×Obj)) from hp) (by simp),I.hok.kept keep,?_⟩
 ·rcases hx with hx | hx
  ·exact eZ (.inl (dD hx (.inl rfl) S.nocell))
  ·exact eZ (.inl (dD hx (.inr rfl) S.nocell))
 ·exact⟨ne_of_lt (ydw (hfo b hb) hC),λx c e=>(hf b hb).2.2.2.2.1 x c (look x c e)⟩
 ·rcases(hf b hb).2.2.2.1 with z | z
  ·exact I.ok.noex b o e z
  ·exact absurd (ydw (ybv e) (ycy I.ok.bsz z)) (lt_irrefl _)
 ·rcases mem_cons.mp (I.stkSub b hx) with z | z
  ·exact(hf b hb).2.1 z
  ·exact(hf b hb).2.2.1 z
 ·obtain⟨j,ej,ev⟩:=lG e2;obtain⟨h1,h2,h3⟩:=S.fvs i j x e1 ej;obtain⟨m0,_,hl⟩:=I.loc;obtain⟨u,r,l⟩:=hl j x v h1 ev (.inr (.inl h2));refine⟨u,r,.inr ?_⟩;rcases l with⟨k,_⟩ | ⟨_,c,ec,o,ho,hd⟩
  ·exact absurd (h2.symm.trans k) (by intro z;cases z)
  ·obtain⟨c',ec'⟩:=eZ (env:=X.env) (l:=scope.names) (cs:=[]) (x:=x) (.inl h3);have e':=look x c' ec';rw[ec] at e';cases e';refine⟨?_,c,ec',o,keep _ _ ho,hd⟩;rcases e3 with e3 | e3 | e3
   ·exact absurd (fJ e3) λz=>S.fvl h3 z
   ·exact .inl e3
   ·exact .inr e3
 ·obtain⟨v,o,ho,hd⟩:=I.cell x c (look x c e);exact⟨v,o,keep _ _ ho,hd⟩
 ·show(dI fv σ).length=N.length;unfold dI;rw[length_map,S.len]
end
noncomputable def ci (C:Gp->Prop) (g:WG) (tt:WT) (te:WE):List W->de->Gp->List W->(List W->Gp->Prop)->Prop
 | [],_,G,acc,q=>C G/\q acc G
 | w::ws,τ,G,acc,q=>C G/\g w τ G λτ2 G2=>tt τ2 G2 λb G3=>if b=true then te τ2 G3 λv G4=>acc.length+1<=100000/\ci C g tt te ws τ2 G4 (acc++[v]) q else ci C g tt te ws τ2 G3 acc q
noncomputable def yJ (X:Cx) (ifs:List Expr) (t:WT):Prop:=
 ∀(π:List (Addr×Obj)) (s:Shared) (σ:St) (H:Hp) (Q:Bool->Hp->Prop),aC X π σ H s->xG X.K t σ H Q->wpAny (model X.prog X.w) X.A (wu ifs X.env) (TP X π σ Q) X.xe s
noncomputable def ox:WT:=λ_ G q=>q true G
theorem ft {X:Cx}:yJ X [] ox:=λπ s σ H Q I ⟨τ,G,q,hs,hg,ht,hQ⟩=>wpAny_tests_nil ⟨H,I,hQ true H G (aQ.refl H) hg ht⟩
theorem gl {X:Cx} {c:Expr} {t:WT} (h:QT X c t):yJ X [c] t:=λπ s σ H Q I hw=>wpAny_tests_one (h π s σ H Q I hw)
theorem aI.track {H:Hp} {G:Gp} {p:Addr} {xs:List V} {ws:List W} (h:aI K H G) (e:H p=some (.lst xs)) (r:aK K H ws xs) (hl:ws.length<=100000):aI K H (aV G p (.lst ws)):=λa g ea=>by
 by_cases hb:a=p
 ·subst hb;rw[al] at ea;cases ea;exact⟨hl,xs,e,r⟩
 ·rw[aO hb] at ea;exact h a g ea
section
variable {X:Cx} {π:List (Addr×Obj)} {σ:St} {H2:Hp} {s2:Shared} {scope:Scope} {N:List Str} {fv:List (Option Nat)} {fp:List Addr} {tg elt iter:Expr} {ifs:List Expr} {pos:Pos} {J:It} {it:Addr} {tn:Nat->Heap->Prop}
 {g:WG} {tt:WT} {te:WE} {ws:List W} {Cd:Gp->Prop} {τ:de} {G:Gp} {q:List W->Gp->Prop}
structure uD (X:Cx) (π:List (Addr×Obj)) (σ:St) (H2:Hp) (s2:Shared) (G:Gp) (q:List W->Gp->Prop) (D C:Addr) (s':Shared):Prop where
 ex:∃(Hf:Hp) (Gf:Gp) (rs:List W),(∃m,s'.heap.Ns C m)/\aC X π σ Hf s'/\Hf C=none/\s2.heap.objs.size<=C/\aQ H2 Hf/\aI X.K Hf (aV Gf D (.lst rs))/\G D=none/\Gf D=none/\q rs Gf
structure zQ (Y:Cx) (fp:List Addr) (tn:Nat->Heap->Prop) (ws:List W) (H2:Hp) (D:Addr) (R:List W->de->Gp->List W->Prop) (n:Nat) (s:Shared) (i:Nat) (σ1:St) (H1:Hp) (τ1:de) (G1:Gp) (acc:List W) (vs:List V) (its:yez):Prop where
 hn:n=ws.length-i
 hi:i<=ws.length
 inv:aC Y [] σ1 H1 s
 st:tn i s.heap
 fr:∀b∈fp,H1 b=none
 hd:H1 D=none
 pl:s.heap.PlainList D its.toArray
 rv:aS vs its
 ra:aK Y.K H1 acc vs
 tl:aQ H2 H1
 rs:bq Y.K H1 τ1 σ1
 rg:aI Y.K H1 G1
 cw:R (ws.drop i) τ1 G1 acc
 hl:acc.length<=100000
theorem iL (I:aC X π σ H2 s2) (S:fU X scope N fv) (hc:X.calm=true) (T:mU X.prog X.w X.K tg J fp it tn) (st:tn 0 s2.heap) (hf:∀b∈fp,j7 X π H2 b)
 (hg:∀C,QG (im X N scope C fp s2 H2) tg g) (htt:∀C,yJ (im X N scope C fp s2 H2) ifs tt) (hte:∀C,QE (im X N scope C fp s2 H2) elt te)
 (itn:tM X.K J ws Cd H2) (hs:bq X.K H2 τ σ) (gr:aI X.K H2 G) (hw:ci Cd g tt te ws (dI fv τ) G [] q) {RR:Value->Addr->Result->Shared->Prop} {E:yey}
 (hRR:∀D C s',uD X π σ H2 s2 G q D C s'->RR (.ref D) C (.ok .next) s'):
 wpAny (model X.prog X.w) X.A (newList []) (λacc s3=>wpAny (model X.prog X.w) X.A (newFunctionEnv scope X.env.globals (gk X.env scope.names []) [] X.env.qual none .none (some X.env)) (λcenv s4=>
  codeAny (model X.prog X.w) X.A (.compStart (.ListComp elt [⟨tg,iter,ifs,0⟩] scope pos) 0 (.ref it) acc { cenv with scope:=relabel scope X.env }) (RR acc cenv.locals) s4) E s3) E s2:=by
 have hfo:∀b∈fp,b<s2.heap.objs.size:=λb hb=>let ⟨o,e,_⟩:=T.obj _ _ st b hb;ybv e;refine wpAny_newObj_type (wpAny_newFunctionEnv S.nocell (by intro y hy;simp at hy) (λh1 hns1 hsb1=>?_) S.kind);dsimp only at hns1 hsb1 ⊢;generalize hP:s2.heap.push { cls:= .type "list",dict:=none,data:= .seq ([]:yez).toArray }=P at hns1 hsb1 ⊢;generalize hD:s2.heap.objs.size=D at*;have hC:P.objs.size=D+1:=by rw[←hP,Heap.size_push,hD]
 generalize hCC:P.objs.size=C at*;have hDC:D≠C:=by rw[hC];exact ne_of_lt (Nat.lt_succ_self _)
 have hDleC:D<=C:=by rw[hC];exact Nat.le_succ _
 have old:∀b o,s2.heap.get? b=some o->h1.get? b=some o:=λb o e=>hsb1.extBut b o (ne_of_lt (ydw (ybv e) (by rw[hD];exact hDleC))) (ybz _ (hP▸ybz _ e));have hacc:h1.PlainList D #[]:=⟨0,hsb1.extBut _ _ hDC (ybz _ (by rw[←hP,←hD];exact ybw _ rfl))⟩;have look:∀x c,(gk X.env scope.names []).lookup x=some c->X.env.cells.lookup x=some c:=dJ (S.cells I) (λx c e=>by simp at e);have cD:∀x c,(gk X.env scope.names []).lookup x=some c->c≠D:=λx c e z=>by
  obtain⟨v,o,ho,_⟩:=I.cell x c (look x c e);exact absurd (ybv ho) (by rw[z,hD];exact lt_irrefl _)
 have sD:D∉fA X.stack:=λhb=>by
  rcases mem_cons.mp (I.stkSub D hb) with z | z
  ·exact absurd I.lt (by rw[←z,hD];exact lt_irrefl _)
  ·exact I.nofs (by rw[hD];exact ycx _) z
 have fD:D∉fp:=λhb=>absurd (hfo D hb) (lt_irrefl _);have fpX:∀{H1:Hp} {ps:List (Addr×Obj)},(∀b∈fp,H1 b=none)->(∀p∈ps,p.1∉fp)->∀b∈fp,j7 (im X N scope C fp s2 H2) ps H1 b:=λ{H1 ps} hn hp b hb=>by
  refine⟨hn b hb,ne_of_lt (ydw (hfo b hb) hDleC),λhx=>?_,.inl hb,λx c e=>(hf b hb).2.2.2.2.1 x c (look x c e),λp hp' z=>hp p hp' (z▸hb)⟩;rcases mem_cons.mp (I.stkSub b hx) with z | z
  ·exact(hf b hb).2.1 z
  ·exact(hf b hb).2.2.1 z
 have J0:aC (im X N scope C fp s2 H2) [] (dI fv σ) H2 { s2 with heap:=h1,toks:=s2.toks+([]:List (Str×Value)).length }:=pZ I S hf (by rw[hD];exact hfo) old (by rw[hD];exact hDleC) hns1;have loop:codeAny (model X.prog X.w) X.A (.compLoop (.ListComp elt [⟨tg,iter,ifs,0⟩] scope pos) 0 (.ref it) (.ref D) (im X N scope C fp s2 H2).env) (RR (.ref D) C) { s2 with heap:=h1,toks:=s2.toks+([]:List (Str×Value)).length }:=by
  refine pY (λn s=>∃i σ1 H1 τ1 G1 acc vs its,zQ (im X N scope C fp s2 H2) fp tn ws H2 D (λl τ1 G1 acc=>ci Cd g tt te l τ1 G1 acc q) n s i σ1 H1 τ1 G1 acc vs its) ?_ ws.length
   ⟨0,_,H2,_,G,[],[],[],by simp,zero_le _,J0,T.keep _ _ _ st λb _ o e=>old b o e,λb hb=>(hf b hb).1,I.hok.fresh (by rw[hD];exact ycx _),hacc,.nil,.nil,aQ.refl _,rJ hs,gr,by simpa using hw,by simp⟩
  rintro n s ⟨i,σ1,H1,τ1,G1,acc,vs,its,rfl,hi,J1,st1,fr1,d1,pl1,rv1,ra1,t1,s1,g1,q1,hl1⟩;obtain⟨kk,eD⟩:=pl1;have J1p:aC (im X N scope C fp s2 H2) [(D,{ cls:= .type "list",data:= .seq its.toArray kk })] σ1 H1 s:=J1.pins_of λp hp=>by
   have e:=mem_singleton.mp hp;subst e;exact⟨eD,d1,hDC,sD,λv z=>by cases z⟩
  have pnf:∀p∈[((D,{ cls:= .type "list",data:= .seq its.toArray kk }):Addr×Obj)],p.1∉fp:=λp hp=>by
   have e:=mem_singleton.mp hp;subst e;exact fD
  by_cases hlt:i<ws.length
  ·have ed:ws.drop i=ws[i]::ws.drop (i+1):=drop_eq_getElem_cons hlt;rw[ed] at q1;obtain⟨c1,q1⟩:=q1;obtain⟨go,yl⟩:=itn.go i ws[i] H1 G1 t1 g1 c1 (ycz hlt);refine bW (T.item (im X N scope C fp s2 H2) rfl rfl rfl hc i _ s σ1 H1 nox J1p (fpX fr1 pnf) st1 go) λr s4 z9=>?_;obtain⟨u,hr,h4⟩:=z9;subst hr;refine bW h4 λ_ s5 z9=>?_;obtain⟨x,H5,I5,r5,y5,st5,fr5⟩:=z9;obtain⟨tx,rx,gx⟩:=yl x H5 y5;have I5':=I5.pinned (fpX fr5 pnf) (T.obj _ _ st5);refine bW (hg C _ s5 σ1 H5 x u (λσ6 H6=>∃τ6 G6,aQ H5 H6/\bq X.K H6 τ6 σ6/\aI X.K H6 G6/\tt τ6 G6 λb G3=>if b=true then te τ6 G3 λv G4=>acc.length+1<=100000/\ci Cd g tt te (ws.drop (i+1)) τ6 G4 (acc++[v]) q else ci Cd g tt te (ws.drop (i+1)) τ6 G3 acc q) I5' r5
    ⟨ws[i],τ1,G1,_,rx,s1.mono tx,gx,q1,λσ6 H6 τ6 G6 t6 s6 g6 q6=>⟨τ6,G6,t6,s6,g6,q6⟩⟩) λ_ s6 ⟨σ6,H6,I6,τ6,G6,t6,rs6,g6,q6⟩=>?_
   refine bW (htt C _ s6 σ6 H6 (λb H7=>∃G7,aQ H6 H7/\aI X.K H7 G7/\(if b=true then te τ6 G7 λv G4=>acc.length+1<=100000/\ci Cd g tt te (ws.drop (i+1)) τ6 G4 (acc++[v]) q else ci Cd g tt te (ws.drop (i+1)) τ6 G7 acc q)) I6
    ⟨τ6,G6,_,rs6,g6,q6,λb H7 G7 t7 g7 q7=>⟨G7,t7,g7,q7⟩⟩) λok s7 ⟨H7,I7,G7,t7,g7,q7⟩=>?_
   have t17:aQ H1 H7:=(tx.trans t6).trans t7
   -- what the π keep up to a later state
   have keepFp:∀{σ8:St} {H8:Hp} {s8:Shared},aC (im X N scope C fp s2 H2) ([(D,{ cls:= .type "list",data:= .seq its.toArray kk })]++iz fp s5.heap) σ8 H8 s8->tn (i+1) s8.heap/\(∀b∈fp,H8 b=none)/\H8 D=none/\s8.heap.get? D=some { cls:= .type "list",data:= .seq its.toArray kk }/\∀b∈fp,∃o,s8.heap.get? b=some o:=λ{σ8 H8 s8} I8=>by
    refine⟨T.keep _ _ _ st5 λb hb o e=>(I8.pin (b,o) (yex _ (yex _ (dz hb e)))).1,λb hb=>?_,(I8.pin (D,_) (yex _ (mem_append_left _ yby))).2.1,(I8.pin (D,_) (yex _ (mem_append_left _ yby))).1,λb hb=>?_⟩
    ·obtain⟨o,e,_⟩:=T.obj _ _ st5 b hb;exact(I8.pin (b,o) (yex _ (yex _ (dz hb e)))).2.1
    ·obtain⟨o,e,_⟩:=T.obj _ _ st5 b hb;exact⟨o,(I8.pin (b,o) (yex _ (yex _ (dz hb e)))).1⟩
   cases ok with
   | false=>
     rw[ycw ydx] at q7 ⊢;obtain⟨k1,k2,k3,k4,_⟩:=keepFp I7;exact⟨ws.length- (i+1),by (clear hD hCC hC hDC hDleC hi hl1 ed;lia),i+1,σ6,H7,τ6,G7,acc,vs,its,rfl,hlt,I7.pins_of λp hp=>absurd hp (by simp),k1,k2,k3,⟨kk,k4⟩,rv1,ra1.mono t17,t1.trans t17,rs6.mono t7,g7,q7,hl1⟩
   | true=>
     rw[ycv rfl] at q7 ⊢;refine bW (hte C _ s7 σ6 H7 (λv H8=>∃w8 G8,aQ H7 H8/\cf X.K H8 w8 v/\aI X.K H8 G8/\acc.length+1<=100000/\ci Cd g tt te (ws.drop (i+1)) τ6 G8 (acc++[w8]) q) I7
      ⟨τ6,G7,_,rs6.mono t7,g7,q7,λv H8 w8 G8 t8 r8 g8 q8=>⟨w8,G8,t8,r8,g8,q8⟩⟩) λu8 s8 ⟨v8,H8,I8,rv8,w8,G8,t8,r8,g8,hl8,q8⟩=>?_
     obtain⟨k1,k2,k3,k4,k5⟩:=keepFp I8;have t18:aQ H1 H8:=t17.trans t8;refine wpAny_list_append_plain ⟨kk,k4⟩ (λh9 pl9 sb9=>?_) (by rw[size_toArray,←rv1.length,←ra1.length];exact bI hl1);have I9:aC (im X N scope C fp s2 H2) [] σ6 H8 { s8 with heap:=h9 }:=(I8.pins_of (pins':=[]) λp hp=>absurd hp (by simp)).turned (t':=s8.toks) (λb o hb e=>(sb9.2 b hb).trans e) k3 hDC (.inr (by show s2.heap.objs.size<=D;rw[hD];exact ycx _)) (λx c e=>cD x c e) λp hp=>absurd (show p∈([]:List (Addr×Obj)) from hp) (by simp);refine⟨ws.length- (i+1),by (clear hD hCC hC hDC hDleC hi hl1 ed hl8;lia),i+1,σ6,H8,τ6,G8,acc++[w8],vs++[v8],its++[u8],rfl,hlt,I9,T.keep _ _ _ k1 λb hb o e=>(sb9.2 b (λz=>fD (z▸hb))).trans e,k2,k3,by simpa using pl9,rv1.append (.cons rv8 .nil),(ra1.mono t18).append (.cons r8 .nil),t1.trans t18,(rs6.mono t7).mono t8,g8,q8,by rw[length_append];exact hl8⟩
  ·have e:i=ws.length:=by (clear hD hCC hC hDC hDleC hl1;lia)
   subst e;rw[List.drop_length] at q1;refine bW (T.done (im X N scope C fp s2 H2) rfl rfl rfl hc _ _ s σ1 H1 nox J1p (fpX fr1 pnf) st1 (itn.stop _ H1 G1 t1 g1 q1.1 (ycx _))) λr s4 z9=>?_;obtain⟨hr,I4⟩:=z9;subst hr;have eD4:=(I4.pin (D,_) (yex _ yby)).1;have zl:vs.length<=sizeLine:=by rw[←ra1.length];exact bI hl1
   have hb2:∀b o,s2.heap.get? b=some o->b≠D:=λb o e=>by
    have:=ybv e;rw[hD] at this;exact ne_of_lt this
   refine hRR D C s4 ⟨upd H1 D (.lst vs),G1,acc,let ⟨m,hn,_⟩:=I4.loc;⟨m,hn⟩,?_,?_,by rw[hD];exact hDleC,t1.trans (aQ.new d1 _),?_,gr.fresh (I.hok.fresh (by rw[hD];exact ycx _)),g1.fresh d1,q1.2⟩
   ·refine I.call' (ch:=fp) I4.os ⟨λb o e n hb hx=>I4.base.keep b o e n hb hx,λb o e n hb hx=>I4.base.slot b o e n hb hx,λb o e n hx=>?_,λb o e hx=>I4.base.there b o e hx,λb xs e=>?_,λb o u e=>?_,λb ps e=>?_⟩ ?_ I4.bare λb hb=>⟨(hf b hb).2.2.2.1,(hf b hb).2.1,λx c e=>(hf b hb).2.2.2.2.1 x c e,λp hp=>(hf b hb).2.2.2.2.2 p hp⟩
    ·rw[aT (hb2 b o e)];exact I4.base.free b o e n hx
    ·rw[aT (bf (I4.base.tups b xs e) d1)];exact I4.base.tups b xs e
    ·rw[aT (bf (I4.base.frzs b o u e) d1)];exact I4.base.frzs b o u e
    ·obtain⟨more,e'⟩:=I4.base.tbls b ps e;exact⟨more,by rw[aT (bf e' d1)];exact e'⟩
    ·intro b u e
     by_cases hbD:b=D
     ·subst hbD;rw[bw] at e;cases e;exact⟨zl,its,kk,rv1,eD4⟩
     ·rw[aT hbD] at e;exact(I4.hok b u e).stay (λc v _ q=>q) (λc q=>by rw[aT (bf q d1)];exact q) λc xs q=>by rw[aT (bf q d1)];exact q
   ·rw[aT (Ne.symm hDC)];exact I4.free
   ·exact(g1.upd (aQ.new d1 _) (g1.fresh d1)).track bw (ra1.mono (aQ.new d1 _)) hl1
 exact codeAny_compStart_list loop (T.self _ 0 _ _ _ (T.keep _ _ _ st λb _ o e=>old b o e) loop)
noncomputable def rK (wi:WI) (fv:List (Option Nat)) (g:WG) (tt:WT) (te:WE):WE:=λτ G q=>wi τ G λws Cd G1=>ci Cd g tt te ws (dI fv τ) G1 [] λrs G2=>∀p,G1 p=none->q (.ref p) (aV G2 p (.lst rs))
theorem eB {wi:WI} (S:fU X scope N fv) (hc:X.calm=true) (hi:QI X tg iter wi) (hg:∀C fp s2 H2,QG (im X N scope C fp s2 H2) tg g) (htt:∀C fp s2 H2,yJ (im X N scope C fp s2 H2) ifs tt) (hte:∀C fp s2 H2,QE (im X N scope C fp s2 H2) elt te)
 (hs:∀x,foldedSetIterable iter X.env x=pure x:=by intro _;rfl):QE X (.ListComp elt [⟨tg,iter,ifs,0⟩] scope pos) (rK wi fv g tt te):=by
 rintro π s σ H Q I ⟨τ,G,q,hτ,hG,ht,hQ⟩;rw[eval_ListComp];refine wpAny_comprehension_free (use:=none) rfl hs (iK (S.cells I)) S.kind S.names (bW (hi π s σ H (λJ H1=>∃ws Cd G1,aQ H H1/\aI X.K H1 G1/\tM X.K J ws Cd H1/\ci Cd g tt te ws (dI fv τ) G1 [] λrs G2=>∀p,G1 p=none->q (.ref p) (aV G2 p (.lst rs))) I
  ⟨τ,G,_,hτ,hG,ht,λJ H1 ws C G1 t1 g1 it r1=>⟨ws,C,G1,t1,g1,it,r1⟩⟩) λv s1 h1=>bW h1 λitv s2 h2=>?_)
 obtain⟨it,fp,tn,J,H2,e,I2,T,st2,f2,ws,Cd,G1,t1,g1,itn,hw⟩:=h2;subst e;refine iL (RR:=λacc C=>compPost (model X.prog X.w) X.A X.xe none (EP X π σ Q) acc C) I2 S hc T st2 f2 (λC=>hg C fp s2 H2) (λC=>htt C fp s2 H2) (λC=>hte C fp s2 H2) itn (hτ.mono t1) g1 hw λD C s' z9=>?_;obtain⟨Hf,Gf,rs,⟨m,hn⟩,I5,hC,hCs,t5,g5,hD,hD2,q5⟩:=z9;refine⟨m,hn,λh' sb=>?_⟩;have hlt:C≠X.env.locals:=λz=>absurd I2.lt (not_lt.mpr (z▸hCs));have I6:aC X π σ Hf { s' with heap:=h' }:=I5.turned (t':=s'.toks) (λb o hb e=>(sb.2 b hb).trans e) hC hlt (.inr (ycy I2.sz hCs)) (λx c e z=>by
  obtain⟨v,o,ho,_⟩:=I2.cell x c e;exact absurd (ybv ho) (not_lt.mpr (z▸hCs))) λp hp z=>absurd (ybv (I2.pin p hp).1) (not_lt.mpr (z▸hCs))
 exact⟨.ref D,Hf,I6,rfl,hQ _ Hf _ _ (t1.trans t5) (.ref D) g5 (q5 D hD)⟩
theorem io (i:Nat) {y:Str} {py spos:Pos} {wi:WI} (S:fU X scope N fv) (hc:X.calm=true) (hN:X.N.Nodup) (hiN:X.N[i]?=some y) (hy:v7 X.env.scope y) (hi:QI X tg iter wi) (hg:∀C fp s2 H2,QG (im X N scope C fp s2 H2) tg g) (htt:∀C fp s2 H2,yJ (im X N scope C fp s2 H2) ifs tt) (hte:∀C fp s2 H2,QE (im X N scope C fp s2 H2) elt te)
 (hsw:swapsWith (.ListComp elt [⟨tg,iter,ifs,0⟩] scope pos) (some (.Name y py)) spos.line X.env=pure true:=by rfl) (hs:∀x,foldedSetIterable iter X.env x=pure x:=by intro _;rfl) (hfn:X.fn y=true∨X.env.scope.names.lookup y=some .local:=by first | exact .inl rfl | exact .inr rfl | assumption):
 QS X (.Assign [.Name y py] (.ListComp elt [⟨tg,iter,ifs,0⟩] scope pos) spos) (xL (rK wi fv g tt te) (eR i)):=by
 rintro π s σ H D0 I ⟨τ,G,d,hτ,hG,ht,l⟩;rw[exec_Assign_Name_used _ _ _ _ hsw];refine wax (wpAny_standAt (wax ?_));show wpAny _ _ (do let _ ←comprehension (.ListComp elt [⟨tg,iter,ifs,0⟩] scope pos) scope X.env _ (newList []) false (eval iter X.env) (some (assign (.Name y py) X.env))) _ _ s;refine wax (wpAny_mono (wpAny_comprehension_free (use:=some (assign (.Name y py) X.env)) (Q:=λ_ s'=>SP X π D0 .next s') rfl hs (iK (S.cells I)) S.kind S.names (bW (hi π s σ H (λJ H1=>∃ws Cd G1,aQ H H1/\aI X.K H1 G1/\tM X.K J ws Cd H1/\ci Cd g tt te ws (dI fv τ) G1 [] λrs G2=>∀p,G1 p=none->eR i (.ref p) τ (aV G2 p (.lst rs)) d.nx) I
  ⟨τ,G,_,hτ,hG,ht,λJ H1 ws C G1 t1 g1 it r1=>⟨ws,C,G1,t1,g1,it,r1⟩⟩) λv s1 h1=>bW h1 λitv s2 h2=>?_)) (λ_ s' hq=>wpAny_pure (wpAny_pure hq)) λ_ _ e=>e)
 obtain⟨it,fp,tn,J,H2,e,I2,T,st2,f2,ws,Cd,G1,t1,g1,itn,hw⟩:=h2;subst e;refine iL (RR:=λacc C=>compPost (model X.prog X.w) X.A X.xe (some (assign (.Name y py) X.env)) (λ_ s'=>SP X π D0 .next s') acc C) I2 S hc T st2 f2 (λC=>hg C fp s2 H2) (λC=>htt C fp s2 H2) (λC=>hte C fp s2 H2) itn (hτ.mono t1) g1 hw λD C s' z9=>?_;obtain⟨Hf,Gf,rs,⟨m,hn⟩,I5,hC,hCs,t5,g5,hD,hD2,q5⟩:=z9;have hlt:C≠X.env.locals:=λz=>absurd I2.lt (not_lt.mpr (z▸hCs));have hcell:∀x c,X.env.cells.lookup x=some c->c≠C:=λx c e z=>by
  obtain⟨v,o,ho,_⟩:=I2.cell x c e;exact absurd (ybv ho) (not_lt.mpr (z▸hCs))
 show wpAny _ _ (assign (.Name y py) X.env (.ref D)) _ _ s';refine wpAny_assign_Name (jl I5 hN hiN hy (v:= .ref D) rfl (λs6 I6 z9=>?_) hfn);obtain⟨a,sb6,ha⟩:=z9;have haC:C≠a:=by
  rcases ha with z | z
  ·rw[z];exact hlt
  ·exact Ne.symm (hcell y a z)
 refine⟨m,hn.sameBut sb6 haC,λh' sb=>?_⟩;have I7:aC X π (σ.set i (some (.ref D))) Hf { s6 with heap:=h' }:=I6.turned (t':=s6.toks) (λb o hb e=>(sb.2 b hb).trans e) hC hlt (.inr (ycy I2.sz hCs)) hcell λp hp z=>absurd (ybv (I2.pin p hp).1) (not_lt.mpr (z▸hCs));exact⟨_,Hf,I7,l.nx _ Hf _ _ (t1.trans t5) ((hτ.mono (t1.trans t5)).set (.ref D) i) g5 (q5 D hD)⟩
end
noncomputable def Dw (K:yav) (a b:Addr):It:=
 ⟨λi H=>∃xs ys x y,dq K H a xs/\dq K H b ys/\xs[i]?=some x/\ys[i]?=some y,
  λi H v H'=>∃p x y,H p=none/\(∀xs,dq K H a xs->xs[i]?=some x)/\(∀ys,dq K H b ys->ys[i]?=some y)/\v=.ref p/\H'=upd H p (.tup [x,y]),
  λi H=>∃xs ys,dq K H a xs/\dq K H b ys/\(xs.length<=i∨ys.length<=i)⟩
section
variable {P:Program} {w:World} {K:yav}
theorem rL {elts:List Expr} {z p r i j a b:Addr} (D:ZA z p r i j a b):mU P w K (.Tuple elts k pos) (Dw K a b) [z,p,r,i,j] z (λn h=>ZT z p r i j a b n .none h) where
 mem:=by simp
 obj:=λn h T c hc=>by
  obtain⟨hz,hp,⟨x,y,hr⟩,⟨oi,hi,_,di⟩,⟨oj,hj,_,dj⟩⟩:=T;simp only[mem_cons,mem_nil_iff,or_false] at hc;rcases hc with rfl | rfl | rfl | rfl | rfl
  ·exact⟨_,hz,λv q=>by cases q⟩
  ·exact⟨_,hp,λv q=>by cases q⟩
  ·exact⟨_,hr,λv q=>by cases q⟩
  ·exact⟨_,hi,λv q=>by rw[di] at q;cases q⟩
  ·exact⟨_,hj,λv q=>by rw[dj] at q;cases q⟩
 keep:=λn h h' T kk=>by
  obtain⟨hz,hp,⟨x,y,hr⟩,hi,hj⟩:=T;exact⟨kk z (by simp) _ hz,kk p (by simp) _ hp,⟨x,y,kk r (by simp) _ hr⟩,hi.at λo e=>kk i (by simp) o e,hj.at λo e=>kk j (by simp) o e⟩
 item:=by
  intro X hP hw hK hc n π s σ H E I hf T hg;subst hP hw hK;obtain⟨xs,ys,x,y,qa,qb,ex,ey⟩:=hg;obtain⟨its,rv,pa,hza⟩:=I.tuple qa;obtain⟨its2,rv2,pb,hzb⟩:=I.tuple qb;obtain⟨ux,eux,rx⟩:=rv.get ex;obtain⟨uy,euy,ry⟩:=rv2.get ey;refine pW D T (show s.heap.IsTuple a its.toArray from pa) (show s.heap.IsTuple b its2.toArray from pb) (by simpa using eux) (by simpa using euy) λh1 T1 t1 k1=>⟨_,rfl,?_⟩;refine wpAny_letOwnedTupleGo_zip T1.hz λh2 hz2 sb2=>?_;have lt:∀{c:Addr} {o:Obj},s.heap.get? c=some o->c≠s.heap.objs.size:=λe=>ne_of_lt (ybv e);have hnew:H s.heap.objs.size=none:=I.hok.fresh (ycx _);have zne:z≠s.heap.objs.size:=lt T.hz;have keep:∀c o,c≠z->c≠r->c≠i->c≠j->s.heap.get? c=some o->h2.get? c=some o:=λc o c1 c2 c3 c4 e=>sb2.extBut c o c1 (k1 c o c1 c2 c3 c4 e);have tn:h2.get? s.heap.objs.size=some { cls:= .type "tuple",data:= .seq #[ux,uy] }:=sb2.extBut _ _ (Ne.symm zne) t1;have inZ:∀c∈[z,r,i,j],c∈[z,p,r,i,j]:=λc hc=>by
   simp only[mem_cons,mem_nil_iff,or_false] at hc ⊢;rcases hc with h | h | h | h<;> simp[h]
  have notin:∀{c:Addr},c∉[z,r,i,j]->c≠z/\c≠r/\c≠i/\c≠j:=λ{c} hc=>by
   simp only[mem_cons,mem_nil_iff,or_false,not_or] at hc;exact hc
  have tracked:∀c u,H c=some u->c∉[z,r,i,j]:=λc u e hc=>by
   rw[(hf c (inZ c hc)).1] at e;cases e
  refine⟨.ref s.heap.objs.size,upd H s.heap.objs.size (.tup [x,y]),?_,rfl,⟨_,x,y,hnew,λzs hz=>by rw[I.tuple_inj hz qa];exact ex,λzs hz=>by rw[I.tuple_inj hz qb];exact ey,rfl,rfl⟩,⟨hz2,?_,?_,?_,?_⟩,λc hc=>?_⟩
  ·show aC X π σ _ { s with heap:=h2,gens:=s.gens,drawn:=s.drawn,toks:=s.toks };refine I.step (g':=s.gens) (d':=s.drawn) (t':=s.toks) (ch:=[z,r,i,j]) (λc hc=>?_) (λc o _ _ hc e _=>?_) (λc o _ _ hc e _=>⟨o.slots,?_⟩) (λc o _ e n=>?_) (λc o hc e=>⟨o,?_⟩) (λc xs e=>?_) (λc o u e=>?_) (λc ps e=>⟨#[],?_⟩) (λm hm=>?_) (λc u e=>?_) I.bare
   ·obtain⟨_,f1,_,f3,f4,f5⟩:=hf c (inZ c hc);exact⟨f3,f1,f4,f5⟩
   ·obtain⟨c1,c2,c3,c4⟩:=notin hc;exact keep c o c1 c2 c3 c4 e
   ·obtain⟨c1,c2,c3,c4⟩:=notin hc;exact keep c o c1 c2 c3 c4 e
   ·rw[aT (lt e)];exact n
   ·obtain⟨c1,c2,c3,c4⟩:=notin hc;exact keep c o c1 c2 c3 c4 e
   ·rw[aT (bf e hnew)];exact e
   ·rw[aT (bf e hnew)];exact e
   ·rw[aT (bf e hnew),e];simp
   ·obtain⟨o,es,ep,ho,rest⟩:=hm;have nl:∀c∈[z,r,i,j],X.env.locals≠c:=λc hc=>Ne.symm (hf c (inZ c hc)).2.1;exact⟨o,es,ep,keep _ o (nl z (by simp)) (nl r (by simp)) (nl i (by simp)) (nl j (by simp)) ho,rest⟩
   ·by_cases hcs:c=s.heap.objs.size
    ·subst hcs;rw[bw] at e;cases e;exact⟨by show 2<=sizeLine;decide,[ux,uy],.cons rx (.cons ry .nil),⟨_,tn,rfl,_,rfl⟩⟩
    ·rw[aT hcs] at e;refine(I.hok c u e).stay (λc' v hc' q=>?_) (λc' q=>by rw[aT (bf q hnew)];exact q) λc' xs q=>by rw[aT (bf q hnew)];exact q
     have nt:c'∉[z,r,i,j]:=by
      rcases hc' with rfl | hc'
      ·exact tracked _ _ e
      ·exact tracked _ _ hc'
     obtain⟨c1,c2,c3,c4⟩:=notin nt;exact keep c' v c1 c2 c3 c4 q
  ·exact sb2.extBut _ _ D.zp T1.hp
  ·obtain⟨x',y',hr⟩:=T1.hr;exact⟨x',y',sb2.extBut _ _ D.zr hr⟩
  ·exact T1.hi.extBut sb2.extBut D.zi
  ·exact T1.hj.extBut sb2.extBut D.zj
  ·obtain⟨o,e,_⟩:∃o,s.heap.get? c=some o/\True:=by
    obtain⟨hz,hp,⟨x,y,hr⟩,⟨oi,hi,_,di⟩,⟨oj,hj,_,dj⟩⟩:=T;simp only[mem_cons,mem_nil_iff,or_false] at hc;rcases hc with rfl | rfl | rfl | rfl | rfl
    ·exact⟨_,hz,trivial⟩
    ·exact⟨_,hp,trivial⟩
    ·exact⟨_,hr,trivial⟩
    ·exact⟨_,hi,trivial⟩
    ·exact⟨_,hj,trivial⟩
   rw[aT (lt e)];exact(hf c hc).1
 done:=by
  intro X hP hw hK hc n π s σ H E I hf T hg;subst hP hw hK;obtain⟨xs,ys,qa,qb,hl⟩:=hg;obtain⟨its,rv,pa,hza⟩:=I.tuple qa;obtain⟨its2,rv2,pb,hzb⟩:=I.tuple qb;have la:=rv.length;have lb:=rv2.length;have hx:its.toArray[n]?=none∨its2.toArray[n]?=none:=by
   rcases hl with h | h
   ·exact .inl (by simp;(clear hza hzb lb;lia))
   ·exact .inr (by simp;(clear hza hzb la;lia))
  refine rG (I.ok.hd hc) D T (show s.heap.IsTuple a its.toArray from pa) (show s.heap.IsTuple b its2.toArray from pb) hx λh' k1=>⟨rfl,?_⟩;have inZ:∀c∈[z,r,i,j],c∈[z,p,r,i,j]:=λc hc=>by
   simp only[mem_cons,mem_nil_iff,or_false] at hc ⊢;rcases hc with h | h | h | h<;> simp[h]
  have notin:∀{c:Addr},c∉[z,r,i,j]->c≠z/\c≠r/\c≠i/\c≠j:=λ{c} hc=>by
   simp only[mem_cons,mem_nil_iff,or_false,not_or] at hc;exact hc
  have tracked:∀c u,H c=some u->c∉[z,r,i,j]:=λc u e hc=>by
   rw[(hf c (inZ c hc)).1] at e;cases e
  have kk:∀c o,c∉[z,r,i,j]->s.heap.get? c=some o->h'.get? c=some o:=λc o hc e=>by
   obtain⟨c1,c2,c3,c4⟩:=notin hc;exact k1 c o c1 c2 c3 c4 e
  refine I.step (g':=s.gens) (d':=s.drawn) (t':=s.toks) (ch:=[z,r,i,j]) (λc hc=>?_) (λc o _ _ hc e _=>kk c o hc e) (λc o _ _ hc e _=>⟨o.slots,kk c o hc e⟩) (λ_ _ _ _ n=>n) (λc o hc e=>⟨o,kk c o hc e⟩) (λ_ _ e=>e) (λ_ _ _ e=>e) (λc ps e=>⟨#[],by rw[e];simp⟩) (λm hm=>?_) (λc u e=>?_) I.bare
  ·obtain⟨_,f1,_,f3,f4,f5⟩:=hf c (inZ c hc);exact⟨f3,f1,f4,f5⟩
  ·obtain⟨o,es,ep,ho,rest⟩:=hm;have nl:X.env.locals∉[z,r,i,j]:=λhc=>(hf _ (inZ _ hc)).2.1 rfl;exact⟨o,es,ep,kk _ o nl ho,rest⟩
  ·refine(I.hok c u e).stay (λc' v hc' q=>kk c' v ?_ q) (λ_ q=>q) λ_ _ q=>q;rcases hc' with rfl | hc'
   ·exact tracked _ _ e
   ·exact tracked _ _ hc'
 self:=λ_ _ _ _ _ T h=>wpAny_pyIter_zip T.hz h
end
noncomputable def dP:List W->List W->List W
 | x::xs,y::ys=> .tup [x,y]::dP xs ys
 | _,_=>[]
theorem lH:∀{xs ys:List W} {i:Nat} {w:W},(dP xs ys)[i]?=some w->∃x y,xs[i]?=some x/\ys[i]?=some y/\w=.tup [x,y]
 | [],_,_,_,e=>by simp[dP] at e
 | _::_,[],_,_,e=>by simp[dP] at e
 | x::xs,y::ys,0,w,e=>by simp[dP] at e;exact⟨x,y,rfl,rfl,e.symm⟩
 | x::xs,y::ys,i+1,w,e=>by
   obtain⟨a,b,h1,h2,h3⟩:=lH (xs:=xs) (ys:=ys) (i:=i) (w:=w) (by simpa[dP] using e);exact⟨a,b,by simpa using h1,by simpa using h2,h3⟩
theorem g9:∀(xs ys:List W),(dP xs ys).length=min xs.length ys.length
 | [],_=>by simp[dP]
 | _::_,[]=>by simp[dP]
 | _::xs,_::ys=>by simp only[dP,length_cons,g9 xs ys];exact(Nat.succ_min_succ _ _).symm
section
variable {X:Cx}
theorem uE {a b:Addr} {ws us:List W} {xs ys:List V} {H:Hp} (ha:H a=some (.tup xs)) (hb:H b=some (.tup ys)) (ra:aK K H ws xs) (rb:aK K H us ys):tM K (Dw K a b) (dP ws us) (λ_=>True) H where
 stop:=λi H1 G t g _ hl=>⟨xs,ys,dq.of (t.tup _ _ ha),dq.of (t.tup _ _ hb),by
  rw[g9] at hl;rw[←ra.length,←rb.length];lia⟩
 go:=λi w H1 G t g _ e=>by
  obtain⟨x,y,ex,ey,rfl⟩:=lH e;obtain⟨vx,e1,r1⟩:=ra.get ex;obtain⟨vy,e2,r2⟩:=rb.get ey;refine⟨⟨xs,ys,vx,vy,dq.of (t.tup _ _ ha),dq.of (t.tup _ _ hb),e1,e2⟩,λv H' z9=>?_⟩;obtain⟨p,x',y',hp,h1,h2,ev,eH⟩:=z9;have z1:=h1 _ (dq.of (t.tup _ _ ha));have z2:=h2 _ (dq.of (t.tup _ _ hb));rw[e1] at z1;cases z1;rw[e2] at z2;cases z2;subst ev eH;have tn:=aQ.new hp (HO.tup [vx,vy]);exact⟨tn,.tup bw (.cons ((r1.mono t).mono tn) (.cons ((r2.mono t).mono tn) .nil)),g.keep hp _⟩
noncomputable def zR (ta:WA):WI:=λτ G r=>ta τ G λws G1=>match ws with
 | [.tup xs,.tup ys]=>r (dP xs ys) (λ_=>True) G1
 | _=>False
theorem rM:bootBuiltins "zip"=some (.type "zip"):=by decide+kernel
theorem xU {ws:List W} {f:List W->List W->Prop} (h:match ws with | [.tup xs,.tup ys]=>f xs ys | _=>False):∃xs ys,ws=[.tup xs,.tup ys]/\f xs ys:=by
 rcases ws with _ | ⟨a,_ | ⟨b,r⟩⟩
 ·exact h.elim
 ·cases a<;> exact h.elim
 ·cases a with
  | tup i=>
    cases b with
    | tup j=>cases r with
      | nil=>exact⟨i,j,rfl,h⟩
      | cons _ _=>exact h.elim
    | _=>exact h.elim
  | _=>exact h.elim
theorem xV {elts:List Expr} {tp:Pos} {a b:Expr} {ta:WA} {p pos:Pos} (hg:Gl X "zip") (hm:X.mg "zip"=none) (ha:QA X [a,b] ta) (hs:starEach [a,b] X.env=[(false,eval a X.env),(false,eval b X.env)]:=by rfl) (hs2:starEach [b] X.env=[(false,eval b X.env)]:=by rfl):
 QI X (.Tuple elts k tp) (.Call (.Name "zip" p) [a,b] [] pos) (zR ta):=by
 rintro π s σ H R I ⟨τ,G,r,hτ,hG,ht,hR⟩;refine Call_ (iy I hg hm rM (PyProof.Rows.callWith_type1 (bW (ha pos π s σ H (λvs H1=>∃ws G1,aQ H H1/\aK X.K H1 ws vs/\aI X.K H1 G1/\match ws with | [.tup xs,.tup ys]=>r (dP xs ys) (λ_=>True) G1 | _=>False) I ⟨τ,G,_,hτ,hG,ht,λvs H1 ws G1 t1 r1 g1 q1=>⟨ws,G1,t1,r1,g1,q1⟩⟩) λus s1 ⟨vs,H1,I1,ru,ws,G1,t1,r1,g1,q1⟩=>?_) (by rw[hs,hs2]) (by rw[hs2];rfl)));obtain⟨xs,ys,rfl,q1⟩:=xU q1;obtain⟨v1,v2,rfl,ra,rb⟩:=r1.two;cases ra with
 | @tup pa _ xs' ha' ra=>
   cases rb with
   | @tup pb _ ys' hb' rb=>
     obtain⟨u1,u2,rfl,w1,w2⟩:=qJ ru;cases (show u1=Value.ref pa from w1);cases (show u2=Value.ref pb from w2);obtain⟨its,_,p1,_⟩:=I1.tuple (dq.of ha');obtain⟨its2,_,p2,_⟩:=I1.tuple (dq.of hb');refine pX (show s1.heap.IsTuple pa its.toArray from p1) (show s1.heap.IsTuple pb its2.toArray from p2) λh' T kk=>?_;refine wpAny_pyIter_zip T.hz ?_;have I2:aC X π σ H1 { s1 with heap:=h' }:=I1.kept (t':=s1.toks) kk;refine⟨_,[s1.heap.objs.size+4,s1.heap.objs.size+2,s1.heap.objs.size+3,s1.heap.objs.size,s1.heap.objs.size+1],_,_,H1,rfl,I2,rL (xS p1.lt p2.lt),T,λc hc=>?_,hR _ H1 _ _ G1 t1 g1 (uE ha' hb' ra rb) q1⟩;have hle:s1.heap.objs.size<=c:=by
      simp only[mem_cons,mem_nil_iff,or_false] at hc;rcases hc with rfl | rfl | rfl | rfl | rfl
      ·exact Nat.le_add_right _ _
      ·exact Nat.le_add_right _ _
      ·exact Nat.le_add_right _ _
      ·exact ycx _
      ·exact Nat.le_add_right _ _
     exact I1.fpOk hle (I1.hok.fresh hle)
noncomputable def zS (te:WE):WE:=λτ G q=>te τ G λx G1=>match x with | .int i=>q (.int (-i)) G1 | _=>False
theorem fV {a:Expr} {ta:WE} (ha:QE X a ta):QE X (.UnaryOp .USub a pos) (zS ta):=
 (yZ xl ha).imp λσ H Q z0=>z0.el λτ G q hs hg ht hQ=>⟨τ,G,_,hs,hg,ht,λv H1 w G1 t1 r1 g1 q1=>by
   split at q1
   ·cases r1;exact⟨_,rfl,hQ _ H1 _ G1 t1 (.int _) g1 q1⟩
   ·exact q1.elim⟩
noncomputable def Fx (P:Program) (w:World) (K:yav) (mg:yew) (base:Heap) (x:Str) (ps:List Str) (k:Nat) (sp:bM):Prop:=
 ∃(f:Addr) (fd:FuncData),cq P w K mg base k f fd ps sp/\mg x=some (.ref f)/\keepIn K (.ref f)=true/\bJ K fd ps []
theorem zT {sp:bM} {p pos:Pos} {t:WA} (F:Fx X.prog X.w X.K X.mg X.base x ps k sp) (hr:av k X.A) (hg:Gl X x) (ha:QA X (e::es) t) (hdb:(x==("__debug__":Str))=false:=by decide)
 (he:starEach (e::es) X.env=(false,eval e X.env)::starEach es X.env:=by rfl) (hpl:(backTo pos (starEach es X.env)).any (·.1)=false:=by rfl):QE X (.Call (.Name x p) (e::es) [] pos) (gY sp [] t):=by
 obtain⟨f,fd,h1,h2,h3,h4⟩:=F;exact ut h1 hr hg h2 h3 h4 ha hdb he hpl
theorem rN {sp:bM} {p pos:Pos} (F:Fx X.prog X.w X.K X.mg X.base x ps k sp) (hr:av k X.A) (hg:Gl X x) (hdb:(x==("__debug__":Str))=false:=by decide):QE X (.Call (.Name x p) [] [] pos) (gY sp [] rl):=by
 obtain⟨f,fd,h1,h2,h3,h4⟩:=F;exact rp h1 hr hg h2 h3 h4 hdb
noncomputable def rO (scope:Scope):List Str:=scope.names.map (·.1)
noncomputable def nv (N:List Str) (scope:Scope):List (Option Nat):=scope.names.map λy=>if y.2== .free then N.findIdx? (·==y.1) else none
noncomputable def rP (outer scope:Scope):Bool:=
 scope.kind== .function&&scope.names.all (λy=>y.2 !=.cell)&&scope.names.all (λy=>y.2 !=.local||scope.names.lookup y.1==some .local)&&
  scope.names.all (λy=>y.2 !=.free||(outer.names.lookup y.1==some .cell&&scope.names.lookup y.1 !=some .local))
theorem dE (h:rP X.env.scope scope=true):fU X scope (rO scope) (nv X.N scope):=by
 unfold rP at h;simp only[Bool.and_eq_true,all_eq_true,Bool.or_eq_true,bne_iff_ne,beq_iff_eq,ne_eq] at h;obtain⟨⟨⟨h1,h2⟩,h3⟩,h4⟩:=h;refine⟨h1,h2,λx hx hk=>(h3 x hx).resolve_left λz=>z hk,λy hy hk=>((h4 y hy).resolve_left λz=>z hk).1,λi j x e1 e2=>?_,by simp[rO,nv],λ{x} hx=>((h4 _ hx).resolve_left λz=>z rfl).2⟩;unfold rO at e1;unfold nv at e2;rw[List.getElem?_map] at e1 e2;cases e:scope.names[i]? with
 | none=>rw[e] at e1;cases e1
 | some y=>
   rw[e] at e1 e2;have e1':y.1=x:=Option.some.inj e1;have e2':(if (y.2==NameKind.free)=true then X.N.findIdx? (·==y.1) else none)=some j:=Option.some.inj e2;have hm:y∈scope.names:=List.mem_of_getElem? e;split at e2'
   ·rename_i hk;have hk':y.2=.free:=by simpa using hk
    have hy:y=(x,NameKind.free):=by rw[←e1',←hk']
    have:=List.findIdx?_eq_some_iff_getElem.mp e2';obtain⟨hj,hj2,_⟩:=this;refine⟨?_,?_,hy▸hm⟩
    ·rw[ycz hj];have:X.N[j]=y.1:=by simpa using hj2
     rw[this,e1']
    ·have:=((h4 y hm).resolve_left λz=>z hk').1;rw[e1'] at this;exact this
   ·cases e2'
theorem bY (i:Nat) {N:List Str} {C:Addr} {fp:List Addr} {s2:Shared} {H2:Hp} (hN:N.Nodup) (hi:N[i]?=some x) (hx:v7 (im X N scope C fp s2 H2).env.scope x) (hf:(im X N scope C fp s2 H2).fn x=true∨(im X N scope C fp s2 H2).env.scope.names.lookup x=some .local:=by first | exact .inl rfl | exact .inr rfl):
 QG (im X N scope C fp s2 H2) (.Name x pos) (eR i):=ck (X:=im X N scope C fp s2 H2) i hN hi hx hf
theorem eC:bootBuiltins "tuple"=some (.type "tuple"):=by decide+kernel
theorem wv:bootBuiltins "max"=some (.builtin "max"):=by decide+kernel
theorem rQ:bootBuiltins "sum"=some (.builtin "sum"):=by decide+kernel
theorem aM {R:WS->Prop} {t:WS} (h:mQ X body t) (g:R t):∃t,mQ X body t/\R t:=⟨t,h,g⟩
end
mutual
noncomputable def W.lt:W->W->Bool
 | .int i,.int j=>decide (i<j)
 | .tup xs,.tup ys=>W.lts xs ys
 | _,_=>false
noncomputable def W.lts:List W->List W->Bool
 | [],[]=>false
 | [],_::_=>true
 | _::_,[]=>false
 | x::xs,y::ys=>if W.eq x y=true then W.lts xs ys else W.lt x y
end
mutual
noncomputable def W.ord:W->W->Bool
 | .int _,.int _=>true
 | .tup xs,.tup ys=>W.ords xs ys
 | _,_=>false
noncomputable def W.ords:List W->List W->Bool
 | x::xs,y::ys=>if W.eq x y=true then W.ords xs ys else W.ord x y
 | _,_=>true
end
noncomputable def p0 (A:Around) (s:Shared) (y x:Value) (b:Bool):Prop:=
 ∀(prog:Program) (w:World) (E:yey) (Q:yey),Q (.bool b) s->wpAny (model prog w) A (richCompare .Lt y x) Q E s
inductive gG (A:Around) (s:Shared):List Value->List Value->Bool->Prop where
 | nn:gG A s [] [] false
 | nc {y:Value} {ys:yez}:gG A s [] (y::ys) true
 | cn {x:Value} {xs:yez}:gG A s (x::xs) [] false
 | eq {x y:Value} {xs ys:yez} {r:Bool} (h:SeqAt.EqAt A s x y true) (t:gG A s xs ys r):gG A s (x::xs) (y::ys) r
 | ne {x y:Value} {xs ys:yez} {r:Bool} (h:SeqAt.EqAt A s x y false) (t:p0 A s x y r):gG A s (x::xs) (y::ys) r
section
open PySem.SeqAt
open PySem.AutoSeq1 (wpAny_loadPart')
open PySem.MeetsSeq PySem.MeetsSeq2 PySem.MeetsSeq3
theorem nw (l b:Addr) (items items2:Array Value) (n n2:Nat) (dd dd2:Option Addr) (sl sl2:Array (Option Value)) (r:Bool):
 Meets (Builtin.«tuple.__lt__» ⟨[.ref l,.ref b],[]⟩)
  (λA R s=>s.heap.get? l=some { cls:= .type "tuple",dict:=dd,data:= .seq items n,slots:=sl }/\s.heap.get? b=some { cls:= .type "tuple",dict:=dd2,data:= .seq items2 n2,slots:=sl2 }/\
    gG A.in1 s items.toList items2.toList r/\R (.ok (.ret (.bool r))) s):=
 .of_wp λprog w A R s h=>by
  obtain⟨hp,g,d,tk,os⟩:=s;obtain⟨hl,hb,hc,h⟩:=h;have f2:=AutoSeq1.sub_tuple_tuple
  wp_walk using wpAny_loadPart' hl,wpAny_loadPart' hb,wpAny_forIn_list _ (λrest b s'=>b.1=none/\s'=⟨hp,g,d,tk,os⟩/\∃(vs ws:yez),rest=vs.zip ws/\
   gG A.in1 ⟨hp,g,d,tk,os⟩ vs ws r/\vs.length+items2.size=ws.length+items.size) _
  case turn=>
   rintro⟨y,x⟩ rest b s' ⟨hb',rfl,vs,ws,hz,hC,hlen⟩;cases hC with
   | nn=>rw[List.zip_nil_left] at hz;cases hz
   | nc=>rw[List.zip_nil_left] at hz;cases hz
   | cn=>rw[List.zip_nil_right] at hz;cases hz
   | eq he ht=>
     rw[zip_cons_cons] at hz;injection hz with hyx hrest
     injection hyx with hy hx
     subst hy hx;simp only[length_cons] at hlen;refine wax (he prog w _ _ ?_)
     wp_walk
     exact⟨rfl,rfl,_,_,hrest,ht,by lia⟩
   | ne he ht=>
     rw[zip_cons_cons] at hz;injection hz with hyx hrest
     injection hyx with hy hx
     subst hy hx;refine wax (he prog w _ _ ?_);have hri:=ht prog w
     wp_walk using hri
     exact⟨_,rfl,by simpa using h⟩
  case fin=>
   rintro⟨b1,b2⟩ s' ⟨hb',rfl,vs,ws,hz,hC,hlen⟩;simp only at hb';subst hb';have hv:r=decide (items.size<items2.size):=by
    cases hC with
    | nn=>simp only[length_nil] at hlen;exact(ydy (by lia)).symm
    | nc=>simp only[length_nil,length_cons] at hlen;exact(ydz (by lia)).symm
    | cn=>simp only[length_nil,length_cons] at hlen;exact(ydy (by lia)).symm
    | eq he ht=>rw[zip_cons_cons] at hz;cases hz
    | ne he ht=>rw[zip_cons_cons] at hz;cases hz
   rw[hv] at h
   wp_walk
   exact⟨_,rfl,by simpa[Builtin.Tuple.tupleCompareSizes] using h⟩
  case h=>
   exact⟨rfl,rfl,_,_,rfl,hc,by simp;lia⟩
end
theorem p0.tuples {l b:Addr} {items items2:Array Value} {r:Bool} (hl:s.heap.IsTuple l items) (hb:s.heap.IsTuple b items2) (hu:A.units<cLine)
 (hc:gG A.in1 s items.toList items2.toList r):p0 A s (.ref l) (.ref b) r:=λprog w E Q h=>by
 obtain⟨⟨cls,dd,data,sl⟩,ho,hcl,n,hd⟩:=id hl;obtain⟨⟨cls2,dd2,data2,sl2⟩,ho2,hc2,n2,hd2⟩:=id hb;simp only at hcl hd hc2 hd2;subst hcl hd hc2 hd2;exact richCompare_meets_room (op:= .Lt) ⟨_,ho,rfl⟩ ⟨_,ho2,rfl⟩ PySem.F.slot_tuple_lt PySem.F.entry_tuple_lt (PySem.F.args_tuple_lt_2 _ _) (nw l b items items2 n n2 dd dd2 sl sl2 r)
  ⟨ho,ho2,hc,show Value.bool r≠Value.notImplemented/\Q (.bool r) s from ⟨(λx=>nomatch x),h⟩⟩ hu
section
variable {X:Cx} {π:List (Addr×Obj)} {σ:St} {H:Hp} {s:Shared}
theorem uF (I:aC X π σ H s) (n:Nat) (A:Around)
 (ih:∀{w1 w2:W} {v1 v2:V} {u1 u2:Value},w1.dep<n->w1.flat=true->w2.flat=true->W.ord w1 w2=true->cf X.K H w1 v1->cf X.K H w2 v2->bg v1 u1->bg v2 u2->p0 A s u1 u2 (w1.lt w2)) (hu:A.units+n<cLine):
 ∀{ws us:List W} {xs ys:List V} {its its2:yez},W.deps ws<n->W.flats ws=true->W.flats us=true->W.ords ws us=true->aK X.K H ws xs->aK X.K H us ys->aS xs its->aS ys its2->gG A s its its2 (W.lts ws us):=by
 intro ws
 induction ws with
 | nil=>
   intro us xs ys its its2 hd f1 f2 ho r1 r2 q1 q2;cases r1;cases q1;cases r2 with
   | nil=>cases q2;simpa[W.lts] using gG.nn
   | cons _ _=>cases q2;simpa[W.lts] using gG.nc
 | cons x xs IH=>
   intro us vs1 vs2 its its2 hd f1 f2 ho r1 r2 q1 q2;cases r1 with
   | cons r1 s1=>
     cases q1 with
     | cons q1 t1=>
       cases r2 with
       | nil=>cases q2;simpa[W.lts] using gG.cn
       | @cons y ys _ _ r2 s2=>
         cases q2 with
         | cons q2 t2=>
           simp only[W.deps] at hd;simp only[W.flats,Bool.and_eq_true] at f1 f2;have e:=(fR I n A (w1:=x) (w2:=y) (by (clear hu;lia)) f1.1 f2.1 hu r1 r2 q1 q2).1;rw[W.ords] at ho;rw[W.lts];cases he:W.eq x y with
           | true=>
             rw[he] at e ho;rw[ycv rfl] at ho ⊢;exact .eq e (IH (by (clear hu;lia)) f1.2 f2.2 ho s1 s2 t1 t2)
           | false=>
             rw[he] at e ho;rw[ycw ydx] at ho ⊢;exact .ne e (ih (by (clear hu;lia)) f1.1 f2.1 ho r1 r2 q1 q2)
theorem xW (I:aC X π σ H s):∀(n:Nat) (A:Around) {w1 w2:W} {v1 v2:V} {u1 u2:Value},w1.dep<n->w1.flat=true->w2.flat=true->W.ord w1 w2=true->A.units+n<cLine->cf X.K H w1 v1->cf X.K H w2 v2->bg v1 u1->bg v2 u2->
 p0 A s u1 u2 (w1.lt w2):=by
 intro n
 induction n with
 | zero=>intro A w1 w2 v1 v2 u1 u2 h;lia
 | succ n ih=>
   intro A w1 w2 v1 v2 u1 u2 hd f1 f2 ho hu r1 r2 q1 q2;cases r1 with
   | ref a=>simp[W.flat] at f1
   | scr a=>simp[W.flat] at f1
   | non=>simp[W.ord] at ho
   | bl b=>simp[W.ord] at ho
   | str b=>simp[W.ord] at ho
   | int a=>
     cases r2 with
     | int b=>
       obtain⟨t,rfl⟩:=q1;obtain⟨t',rfl⟩:=q2;rw[W.lt];exact λprog w E Q h=>HT.rcLt_int A s a t b t' prog w E Q h
     | _=>simp[W.ord] at ho
   | @tup a ws xs h r=>
     cases r2 with
     | @tup b us ys h2 r2=>
       cases (show u1=Value.ref _ from q1);cases (show u2=Value.ref _ from q2);obtain⟨its,rv,p,_⟩:=aC.tupH I h;obtain⟨its2,rv2,p2,_⟩:=aC.tupH I h2;have g1:W.flats ws=true:=by simpa[W.flat] using f1
       have g2:W.flats us=true:=by simpa[W.flat] using f2
       have ho':W.ords ws us=true:=by simpa[W.ord] using ho
       have hd':W.deps ws<n:=by simp only[W.dep] at hd;(clear hu;lia)
       have hui:A.in1.units+n<cLine:=by show A.units+1+n<cLine;(clear hd hd';lia)
       rw[W.lt];exact p0.tuples p p2 (by (clear hd hd' hui;lia)) (uF I n A.in1 (λh1 h2 h3 h4=>ih A.in1 h1 h2 h3 h4 hui) hui hd' g1 g2 ho' r r2 rv rv2)
     | _=>simp[W.ord] at ho
end
section
variable {X:Cx}
noncomputable def uG:W2:=λx y G q=>match x,y with
 | .int i,.int j=>q (.bl (decide (i<j))) G
 | .tup xs,.tup ys=>W.flats xs=true/\W.flats ys=true/\W.deps xs<=149/\W.ords xs ys=true/\q (.bl (W.lts xs ys)) G
 | _,_=>False
theorem iM (hr:av k X.A):fm X (compareOp .Lt) uG:=by
 rintro π s σ H x y v u Q I rx ry ⟨wx,wy,G,q,r1,r2,g,h,hQ⟩;unfold uG at h;split at h
 ·cases r1;cases r2;exact y4 π s σ H _ _ v u Q I rx ry ⟨_,_,rfl,rfl,hQ _ H _ G (aQ.refl H) (.bl _) g h⟩
 ·rename_i xs ys;obtain⟨f1,f2,hd,ho,h⟩:=h;have z:=xW I 151 X.A (w1:= .tup xs) (w2:= .tup ys) (by simp only[W.dep];lia) (by simpa[W.flat] using f1) (by simpa[W.flat] using f2) (by simpa[W.ord] using ho) (by have:=hr.un;(clear hd;lia)) r1 r2 rx ry;rw[W.lt] at z;exact z X.prog X.w X.xe _ ⟨.bl _,H,I,rfl,hQ _ H _ G (aQ.refl H) (.bl _) g h⟩
 ·exact h.elim
end
section
variable {X:Cx}
end
section
variable {X:Cx} {π:List (Addr×Obj)} {σ:St} {H:Hp} {s:Shared}
theorem Ch (I:aC X π σ H s) {n:Nat} {ws us:List W} {xs ys:List V} {its its2:yez} (hd:W.deps ws<n) (g1:W.flats ws=true) (g2:W.flats us=true) (hu:A.in1.units+n<cLine) (r:aK X.K H ws xs) (r2:aK X.K H us ys) (rv:aS xs its) (rv2:aS ys its2):
 ∀j (h1:j<its.toArray.size) (h2:j<its2.toArray.size),SeqAt.EqAt A.in1 s its.toArray[j] its2.toArray[j] (iH ws us j):=λj j1 j2=>by
 have e1:its.length=ws.length:=by rw[←rv.length,r.length]
 have e2:its2.length=us.length:=by rw[←rv2.length,r2.length]
 rw[size_toArray] at j1 j2;have ea:ws[j]?=some ws[j]:=ycz (by (clear hd hu j2 e2;lia));have eb:us[j]?=some us[j]:=ycz (by lia);obtain⟨va,ea1,ra⟩:=r.get ea;obtain⟨vb,eb1,rb⟩:=r2.get eb;obtain⟨ua,ea2,qa⟩:=rv.get ea1;obtain⟨ub,eb2,qb⟩:=rv2.get eb1;have za:its.toArray[j]=ua:=by
  have:=(List.getElem?_eq_some_iff.mp ea2).2;simpa using this
 have zb:its2.toArray[j]=ub:=by
  have:=(List.getElem?_eq_some_iff.mp eb2).2;simpa using this
 rw[za,zb];have:=(fR I n A.in1 (w1:=ws[j]) (w2:=us[j]) (Nat.lt_of_le_of_lt (W.deps_get ea) hd) (W.flats_get g1 ea) (W.flats_get g2 eb) hu ra rb qa qb).1;unfold iH;rw[ea,eb];exact this
theorem kl {ws us:List W} (h:ws.length≠us.length):W.eqs ws us=false:=by
 cases e:W.eqs ws us with
 | false=>rfl
 | true=>exact absurd ((W.eqs_iff ws us).mp e).1 h
end
section
variable {X:Cx}
noncomputable def zU:W2:=λx y G q=>match x,y with
 | .ref a,.ref b=>∃xs ys,G a=some (.lst xs)/\G b=some (.lst ys)/\W.flats xs=true/\W.flats ys=true/\W.deps xs<=149/\q (.bl (W.eqs xs ys)) G
 | x,y=>uv x y G q
noncomputable def zV:W2:=λx y G q=>match x,y with
 | .ref a,.ref b=>∃xs ys,G a=some (.lst xs)/\G b=some (.lst ys)/\W.flats xs=true/\W.flats ys=true/\W.deps xs<=149/\q (.bl (!(W.eqs xs ys))) G
 | x,y=>uw x y G q
theorem zW (hr:av k X.A):fm X (compareOp .Eq) zU:=by
 rintro π s σ H x y v u Q I rx ry ⟨wx,wy,G,q,r1,r2,g,h,hQ⟩;unfold zU at h;split at h
 ·obtain⟨ws,us,ea,eb,f1,f2,hd,h⟩:=h;cases r1;cases r2;cases rx;cases ry;obtain⟨_,xs,e1,ra⟩:=g _ _ ea;obtain⟨_,ys,e2,rb⟩:=g _ _ eb;obtain⟨its,rv,p,_⟩:=I.list (dy.of e1);obtain⟨its2,rv2,p2,_⟩:=I.list (dy.of e2);have l1:its.length=ws.length:=by rw[←rv.length,ra.length]
  have l2:its2.length=us.length:=by rw[←rv2.length,rb.length]
  have hu:=hr.un;have fin:EP X π σ Q (.bool (W.eqs ws us)) s:=⟨.bl _,H,I,rfl,hQ _ H _ G (aQ.refl H) (.bl _) g h⟩
  by_cases hl:ws.length=us.length
  ·have c1:=SeqAt.RcAt.lists p.isList p2.isList (by rw[size_toArray,size_toArray,l1,l2,hl]) (A:=X.A) (by (clear hd l1 l2 hl;lia)) (Ch I (n:=150) (by (clear l1 l2 hu hl;lia)) f1 f2 (by show X.A.units+1+150<cLine;(clear hd l1 l2 hl;lia)) ra rb rv rv2);have er:=fq ws us;rw[←hl,Nat.min_self,beq_self_eq_true,Bool.and_true] at er;rw[size_toArray,l1,er] at c1;exact c1 X.prog X.w X.xe _ fin
  ·rw[kl hl] at fin;exact SeqAt.RcAt.lists_lengths p.isList p2.isList (by rw[size_toArray,size_toArray,l1,l2];simpa using hl) (A:=X.A) (by (clear hd l1 l2 hl;lia)) X.prog X.w X.xe _ fin
 ·exact xO hr π s σ H x y v u Q I rx ry ⟨wx,wy,G,q,r1,r2,g,h,hQ⟩
theorem zX (hr:av k X.A):fm X (compareOp .NotEq) zV:=by
 rintro π s σ H x y v u Q I rx ry ⟨wx,wy,G,q,r1,r2,g,h,hQ⟩;unfold zV at h;split at h
 ·obtain⟨ws,us,ea,eb,f1,f2,hd,h⟩:=h;cases r1;cases r2;cases rx;cases ry;obtain⟨_,xs,e1,ra⟩:=g _ _ ea;obtain⟨_,ys,e2,rb⟩:=g _ _ eb;obtain⟨its,rv,p,_⟩:=I.list (dy.of e1);obtain⟨its2,rv2,p2,_⟩:=I.list (dy.of e2);have l1:its.length=ws.length:=by rw[←rv.length,ra.length]
  have l2:its2.length=us.length:=by rw[←rv2.length,rb.length]
  have hu:=hr.un;have fin:EP X π σ Q (.bool (!(W.eqs ws us))) s:=⟨.bl _,H,I,rfl,hQ _ H _ G (aQ.refl H) (.bl _) g h⟩
  by_cases hl:ws.length=us.length
  ·have c1:=SeqAt.RcNeAt.lists p.isList p2.isList (by rw[size_toArray,size_toArray,l1,l2,hl]) (A:=X.A) (by (clear hd l1 l2 hl;lia)) (Ch I (n:=150) (by (clear l1 l2 hu hl;lia)) f1 f2 (by show X.A.units+1+150<cLine;(clear hd l1 l2 hl;lia)) ra rb rv rv2);have er:=fq ws us;rw[←hl,Nat.min_self,beq_self_eq_true,Bool.and_true] at er;rw[size_toArray,l1,er] at c1;exact c1 X.prog X.w X.xe _ fin
  ·rw[kl hl] at fin;exact SeqAt.RcNeAt.lists_lengths p.isList p2.isList (by rw[size_toArray,size_toArray,l1,l2];simpa using hl) (A:=X.A) (by (clear hd l1 l2 hl;lia)) X.prog X.w X.xe _ fin
 ·exact xP hr π s σ H x y v u Q I rx ry ⟨wx,wy,G,q,r1,r2,g,h,hQ⟩
end
structure EC (lo hi c:Int):Prop where
 c0:0<c
 c1:c<1000
 l0: -(2^40)<=lo
 l1:lo<2^40
 h0: -(2^40)<=hi
 h1:hi<2^40
section
variable {X:Cx} {tg:Expr}
end
section
variable {X:Cx}
noncomputable def zY (i j:Int):Prop:=i.natAbs<2^4000/\j.natAbs<2^4000
noncomputable def Ci (j:Int):Prop:=0<j/\j.natAbs<2^4000
noncomputable def oy (i j:Int):Prop:=tY i j∨zY i j
theorem oy.ok {i j:Int} (h:oy i j):IntMulOk i j:=by
 rcases h with h | ⟨h1,h2⟩
 ·exact h.ok
 ·have b1:=PyProof.Rows.intBits_le h1;have b2:=PyProof.Rows.intBits_le h2;unfold IntMulOk Builtin.Int.intTooBig;have:¬(((Builtin.Int.intBits i+Builtin.Int.intBits j:Int)) > bitsLine):=by
   have hb:(8000:Int)<=bitsLine:=by decide
   (clear h1 h2;lia)
  simp[this]
noncomputable def rR (i j:Int):Prop:=y3 i j∨Ci j
theorem rS:gf X (binaryOp .FloorDiv) (rI rR λi j=> .int (i/j)):=Bu λi j _ _ _ _ _ hc q=>by
 rcases hc with hc | ⟨h0,h1⟩
 ·have h1:(0:Int)<j:=hc.1;have h2:j<1073741824:=hc.2;exact floordiv_int (by lia) (by rw[Int.fdiv_eq_ediv_of_nonneg i (by lia)];exact q) (.inl (PyProof.noPylong_small (by lia)))
 ·refine floordiv_int (by (clear h1;lia)) (by rw[Int.fdiv_eq_ediv_of_nonneg i (by (clear h1;lia))];exact q) (.inl (PyProof.noPylong_of_log2 ?_));have hne:j.natAbs≠0:=by (clear h1;lia)
  exact ydw ((Nat.log2_lt hne).mpr h1) (by decide)
noncomputable abbrev zZ:W2:=pT rR λi j=> .int (i/j)
theorem km:fm X (binaryOp .FloorDiv) zZ:=nq rS
end
section
variable {X:Cx}
end
structure gH (K:yav) (x qual:Str) (st:Stmt) (f:Addr) (fd:FuncData) (T:Addr) (ds:yez):Prop where
 ex:∃(oc:Value) (od:Option Addr) (kV doc pm:Value) (an:Option Addr) (cdv ct:Value) (osl:Array (Option Value)) (ot:Obj) (nt:Nat),
  fd=fnOf x qual (au st) (ao st) (ak st) (.ref T) kV doc pm an cdv ct/\K.lookup f=some ⟨oc,od,.func fd,osl⟩/\codeIn K cdv qual=true/\K.lookup T=some ot/\ot.data=.seq ds.toArray nt
 kp:keepIn K (.ref f)=true
section
variable {P:Program} {w:World} {K:yav} {mg:yew} {base:Heap} {x qual:Str} {st:Stmt} {f T:Addr} {fd:FuncData} {ds:yez}
theorem kn {oc:Value} {od an:Option Addr} {osl:Array (Option Value)} {kV doc pm cdv ct:Value} {ot:Obj} {nt:Nat} (l:K.lookup f=some ⟨oc,od,.func (fnOf x qual (au st) (ao st) (ak st) (.ref T) kV doc pm an cdv ct),osl⟩)
 (c:codeIn K cdv qual=true) (k:keepIn K (.ref f)=true) (t:K.lookup T=some ot) (h:ot.data=.seq ds.toArray nt):gH K x qual st f (fnOf x qual (au st) (ao st) (ak st) (.ref T) kV doc pm an cdv ct) T ds:=
 ⟨⟨oc,od,kV,doc,pm,an,cdv,ct,osl,ot,nt,rfl,l,c,t,h⟩,k⟩
theorem gH.binds {es:yez} (F:gH K x qual st f fd T ds)
 (h:∀(kV doc pm:Value) (an:Option Addr) (cdv ct:Value) (us:yez),(us++es).length=ps.length->∃k,bindArgs (fnOf x qual (au st) (ao st) (ak st) (.ref T) kV doc pm an cdv ct) ⟨us,[]⟩=seqItems? (.ref T) >>= k/\k (some ds.toArray)=pure (ps.zip (us++es))):bJ K fd ps es:=by
 obtain⟨oc,od,kV,doc,pm,an,cdv,ct,osl,ot,nt,rfl,lk,hcd,ht,hd⟩:=F.ex;intro s us KX hl;obtain⟨k,h1,h2⟩:=h kV doc pm an cdv ct us hl;exact BindsTo.of_defaults (T:=T) rfl (KX _ _ ht) hd h1 h2
theorem xX {N ps:List Str} {sp:bM} (F:gH K x qual st f fd T ds) (S:bA N ps (ak st)) (len:∀ws G q e,sp ws G q e->ws.length=ps.length)
 (hbody:∀(cdv:Value) (A:Around) (outer:List Env) (s:Shared) (H:Hp) (E:XK),av k (A.deeper (envOfC qual (ak st) s.heap.objs.size f cdv))->
   ∃t,mQ (cV re P w K mg base N qual (ak st) f cdv A outer s H E).nox (ao st) t/\
    ∀(ws:List W) (G:Gp) (q:WK) (e:WX),sp ws G q e->t { nx:=λ_ G1=>∃G0,aL G0 G1/\q .non G0,rt:=λw G1=>∃G0,aL G0 G1/\q w G0 } (iF N ws) G):cq P w K mg base (k+1) f fd ps sp:=by
 obtain⟨oc,od,kV,doc,pm,an,cdv,ct,osl,ot,nt,rfl,lk,hcd,ht,hd⟩:=F.ex;refine qU lk hcd S (λvs H Q E ⟨ws,G,q,e,r,g,z,_⟩=>by rw[←r.length];exact len _ _ _ _ z) (λA outer s H vs Q E hr ⟨ws,G,q,e,r,g,z,hQ,_⟩=>?_);obtain⟨t,ht,hq⟩:=hbody cdv A outer s H E hr;have ht':kZ (cV re P w K mg base N qual (ak st) f cdv A outer s H E).nox (ao st) (LS K t):=ht;exact⟨_,ht'.nox,_,G,_,bq.start r,g,hq ws G q e z,⟨λσ1 H1 τ1 G1 t1 s1 g1 ⟨G0,l,q1⟩=>hQ .non H1 .non G0 t1 .non (g1.le l) q1,λv H1 w G1 t1 r1 g1 ⟨G0,l,q1⟩=>hQ v H1 w G0 t1 r1 (g1.le l) q1,λ_ _ _ _ _ _ _ z=>z.elim,λ_ _ _ _ _ _ _ z=>z.elim⟩⟩
noncomputable def Aa (P:Program) (w:World) (K:yav) (mg:yew) (base:Heap) (x:Str) (ps:List Str) (k:Nat) (sp:bM) (dws:List W):Prop:=
 ∃(f:Addr) (fd:FuncData) (ds:yez) (dvs:List V),cq P w K mg base k f fd ps sp/\mg x=some (.ref f)/\keepIn K (.ref f)=true/\bJ K fd ps ds/\aS dvs ds/\∀H,aK K H dws dvs
noncomputable def xY (K:yav) (mg:yew) (x:Str) (st:Stmt) (ps:List Str) (dws:List W):Prop:=
 ∃(f:Addr) (fd:FuncData) (T:Addr) (ds:yez) (dvs:List V),gH K x x st f fd T ds/\bJ K fd ps []/\bJ K fd ps ds/\mg x=some (.ref f)/\aS dvs ds/\∀H,aK K H dws dvs
theorem xY.fx {sp:bM} {dws:List W} (D:xY K mg x st ps dws) (h:∀(f:Addr) (fd:FuncData) (T:Addr) (ds:yez),gH K x x st f fd T ds->cq P w K mg base k f fd ps sp):Fx P w K mg base x ps k sp:=by
 obtain⟨f,fd,T,ds,dvs,F,b,b',m,_,_⟩:=D;exact⟨f,fd,h f fd T ds F,m,F.kp,b⟩
theorem xY.fxd {sp:bM} {dws:List W} (D:xY K mg x st ps dws) (h:∀(f:Addr) (fd:FuncData) (T:Addr) (ds:yez),gH K x x st f fd T ds->cq P w K mg base k f fd ps sp):Aa P w K mg base x ps k sp dws:=by
 obtain⟨f,fd,T,ds,dvs,F,b,b',m,v,r⟩:=D;exact⟨f,fd,ds,dvs,h f fd T ds F,m,F.kp,b',v,r⟩
end
section
variable {X:Cx}
theorem ay {sp:bM} {p pos:Pos} {t:WA} (F:Fx X.prog X.w X.K X.mg X.base x ps k sp) (hr:av k X.A) (hg:Gl X x) (ha:QA X (e::es) t) (_hn:(e::es).length=ps.length:=by rfl) (hdb:(x==("__debug__":Str))=false:=by decide)
 (he:starEach (e::es) X.env=(false,eval e X.env)::starEach es X.env:=by rfl) (hpl:(backTo pos (starEach es X.env)).any (·.1)=false:=by rfl):QE X (.Call (.Name x p) (e::es) [] pos) (gY sp [] t):=zT F hr hg ha hdb he hpl
theorem ny {sp:bM} {dws:List W} {p pos:Pos} {t:WA} (F:Aa X.prog X.w X.K X.mg X.base x ps k sp dws) (hr:av k X.A) (hg:Gl X x) (ha:QA X (e::es) t) (_hn:(e::es).length+dws.length=ps.length:=by rfl) (hdb:(x==("__debug__":Str))=false:=by decide)
 (he:starEach (e::es) X.env=(false,eval e X.env)::starEach es X.env:=by rfl) (hpl:(backTo pos (starEach es X.env)).any (·.1)=false:=by rfl):QE X (.Call (.Name x p) (e::es) [] pos) (gY sp dws t):=by
 obtain⟨f,fd,ds,dvs,h1,h2,h3,h4,h5,h6⟩:=F;exact(j9 h1 hr hg h2 h3 h4 h5 js ha hdb he hpl).imp λ_ _ _ h=>h.call h6
noncomputable def rT:WS:=λ_ _ _=>False
theorem lI:QS X st rT:=λ_ _ _ _ _ _ ⟨_,_,_,_,_,z,_⟩=>z.elim
end
variable {X:Cx}
noncomputable def rV:List W->Gp->WK->Prop:=λws G q=>match ws with
 | [.int i,.int j]=>q (.int (if j > i then j else i)) G
 | [.int i,.int j,.int k]=>q (.int (if j > i then (if k > j then k else j) else if k > i then k else i)) G
 | [.ref a]=>∃ns:List Int,G a=some (.lst (ns.map W.int))/\ns≠[]/\∀m:Int,m∈ns->(∀x,x∈ns->x<=m)->q (.int m) G
 | _=>False
theorem rW (hc:X.calm=true):dX X (.builtin "max") rV:=by
 rintro π s σ H xs us Q I r ⟨ws,G,q,rw',g,h,hQ⟩;unfold rV at h;split at h
 ·obtain⟨v,u,rfl,r1,r2⟩:=rw'.two;cases r1;cases r2;exact pH hc π s σ H _ us Q I r ⟨_,_,rfl,hQ _ H _ G (aQ.refl H) (.int _) g h⟩
 ·rename_i i j k;cases rw' with
  | cons r1 rw'=>
    cases rw' with
    | cons r2 rw'=>
      cases rw' with
      | cons r3 rw'=>
        cases rw';cases r1;cases r2;cases r3;cases r with
        | cons a1 r=>
          cases r with
          | cons a2 r=>
            cases r with
            | cons a3 r=>
              cases r;obtain⟨t1,rfl⟩:=a1;obtain⟨t2,rfl⟩:=a2;obtain⟨t3,rfl⟩:=a3;refine max_three_ints (I.ok.hd hc) λh' tk k'=>⟨.int (if j > i then (if k > j then k else j) else if k > i then k else i),H,I.kept k',?_,hQ _ H _ G (aQ.refl H) (.int _) g h⟩
              by_cases h1:j > i
              ·by_cases h2:k > j
               ·rw[ycv h1,ycv h2,ycv h1,ycv h2];exact⟨_,rfl⟩
               ·rw[ycv h1,ycw h2,ycv h1,ycw h2];exact⟨_,rfl⟩
              ·by_cases h2:k > i
               ·rw[ycw h1,ycv h2,ycw h1,ycv h2];exact⟨_,rfl⟩
               ·rw[ycw h1,ycw h2,ycw h1,ycw h2];exact⟨_,rfl⟩
 ·rename_i a;obtain⟨ns,e,hne,h⟩:=h;obtain⟨v,rfl,r1⟩:=rw'.one;cases r1;obtain⟨_,zs,e1,rr⟩:=g a _ e;obtain rfl:=rr.ints_of;obtain⟨u,rfl,ru⟩:=eQ r;cases (show u=Value.ref a from ru);obtain⟨its,rv,p,hz⟩:=I.list (dy.of e1);have hi:IntsAre its ns:=L2.intsAre_of rv;obtain⟨ys,ey⟩:=hi.allInts.items;have hn:(ys.toList.map (·.1))=ns:=by rw[←nums_intItems,←ey,←hi.numsOf]
  have hl:s.heap.IsList a (intItems ys):=by rw[←ey];exact p.isList
  have hsz:ys.size=ns.length:=by rw[←hn];simp
  have hpos:0<ys.size:=by
   rw[hsz];exact List.length_pos_iff.mpr hne
  refine max_intList (I.ok.hd hc) hl hpos λv h' tk hv hk=>?_;have ab:=argBest_gt (numAt ys) (ys.size-1);generalize argBest (λi j=>decide (numAt ys i > numAt ys j)) (ys.size-1)=ix at hv ab;have hix:ix<ys.size:=by (clear hz hv;lia)
  have hna:∀j (hj:j<ys.size),numAt ys j=ns[j]'(by (clear hz hpos hv ab hix;lia)):=λj hj=>by
   unfold numAt;rw[Array.getElem?_eq_getElem hj];simp[←hn]
  have hv2:v=Value.int (ys[ix].1) (ys[ix].2):=by
   unfold intItems at hv;rw[Array.getElem?_map,Array.getElem?_eq_getElem hix] at hv;simpa using hv.symm
  have hm:ys[ix].1=ns[ix]'(by (clear hz hpos hv ab hv2;lia)):=by
   have:=hna ix hix;unfold numAt at this;rw[Array.getElem?_eq_getElem hix] at this;simpa using this
  rw[hm] at hv2;subst hv2;refine⟨.int _,H,I.kept hk,⟨_,rfl⟩,hQ _ H _ G (aQ.refl H) (.int _) g (h _ (getElem_mem _) λx hx=>?_)⟩;obtain⟨j,hj,rfl⟩:=List.mem_iff_getElem.mp hx;have:=ab.2 j (by (clear hz ab hm hv;lia));rw[hna j (by (clear hz hpos ab hm hv this;lia)),hna ix hix] at this;exact this
 ·exact h.elim
theorem eE {i:Int} {t:Tok} (hg:Gl X x) (hm:X.mg x=some (.int i t)) (hd:(x==("__debug__":Str))=false:=by decide):QE X (.Name x pos) (wC (.int i)):=dW (n8 (v:= .int i) hg hm ⟨t,rfl⟩ hd) λ_=> .int i
end L2
namespace L2
open PySem PySem.Spec PyProof.Rows
theorem XC.of {C:Addr} (q:excIn K C Cb "ValueError.__new__"=true):∃bm,XC K C bm:=by
 unfold excIn at q;cases lk:List.lookup C K with
 | none=>rw[lk] at q;exact cR q
 | some o=>
   rw[lk] at q;obtain⟨cls,d1,data,⟨ls⟩⟩:=o;cases cls with
   | type s=>
     by_cases hs:s="type"
     ·subst hs;cases data with
      | cls cl=>
        obtain⟨nm,bs,mro,ns,qn,hd,sn,sb,ab,co,del⟩:=cl;rcases mro with _ | ⟨v,tl⟩
        ·exact cR q
        cases v with
        | ref C2=>
          rcases ls with _ | ⟨j0,_ | ⟨j1,_ | ⟨j2,_ | ⟨j3,_ | ⟨(_ | j4),r⟩⟩⟩⟩⟩
          any_goals first | exact cR q | skip
          cases j4 with
          | builtin id=>
            rcases r with _ | ⟨j5,_ | _⟩
            any_goals first | exact cR q | skip
            replace q:(C2==C&&id=="ValueError.__new__"&&!del&&W.tailIn K Cb tl&&W.nsOkIn K ns&&W.nsIn K ns (Str.ofString "__init__")==some none)=true:=q
            simp only[beq_iff_eq,Bool.not_eq_true',Bool.and_eq_true] at q;obtain⟨⟨⟨⟨⟨e1,e2⟩,e3⟩,e4⟩,e5⟩,e6⟩:=q;subst e1 e2;subst e3;refine⟨tl,λh X=>⟨ns,nm,qn,bs,hd,sn,sb,ab,co,d1,j0,j1,j2,j3,j5,_,X _ _ lk,.of_isNs (PySem.W.isNs_of_in X e5),PySem.W.nsMap_none_of_in X e5 e6,PySem.W.tail_of_in X e4⟩,λv=>?_⟩;unfold PySem.W.mroIn PySem.W.clsIn;rw[lk]
            rfl
          | _=>exact cR q
        | _=>exact cR q
      | _=>exact cR q
     ·delta PySem.W.excIn.match_6 at q
      change (dite (s="type") _ _:Bool)=true at q;rw[dif_neg hs] at q;exact cR q
   | _=>exact cR q
section
variable {M:Model} {A:Around} {E:yey} {K:yav} {C D a:Addr} {bm bmD:yez} {oe:Obj}
end
theorem fZ.none_of {H:Hp} {h:Heap} (x:fZ P w H h) (e:h.get? a=none):H a=none:=by
 cases q:H a with
 | none=>rfl
 | some o=>
   have y:=x a o q;cases o with
   | lst xs=>obtain⟨_,_,_,_,z⟩:=y;rw[e] at z;cases z
   | tup xs=>obtain⟨_,_,_,p,z,_⟩:=y;rw[e] at z;cases z
   | dK kvs=>obtain⟨_,_,_,_,o,_,_,z,_⟩:=y;rw[e] at z;cases z
   | dT kvs=>obtain⟨_,_,_,_,o,_,_,z,_⟩:=y;rw[e] at z;cases z
   | set S n=>obtain⟨o,_,_,_,z,_⟩:=y;rw[e] at z;cases z
   | ins C dx fs=>obtain⟨_,_,_,z,_⟩:=y;rw[e] at z;cases z
   | own y2=>obtain⟨_,z⟩:=y;rw[e] at z;cases z
   | xd fs=>obtain⟨_,⟨_,_,_,z,_⟩,_⟩:=y;rw[e] at z;cases z
   | rng lo hi=>obtain⟨_,_,_,z⟩:=y;rw[e] at z;cases z
   | frz ob u=>obtain⟨z,_⟩:=y;rw[e] at z;cases z
   | tbl ps=>have z:h.get? a=some _:=y;rw[e] at z;cases z
   | met f y2=>have z:h.get? a=some _:=y;rw[e] at z;cases z
   | ext φ=>obtain⟨_,⟨_,z⟩,_⟩:=y;rw[e] at z;cases z
theorem iN {h B:Heap} {m:List Addr}:∀{l:List Env},h.FunFrames B l->(∀b∈fA l,b∈m)->h.FunFrames (hideAll h m) l
 | [],_,_=>trivial
 | env::r,⟨e0,⟨L,o,e1,_,e3,e4⟩,e5⟩,hm=>
   have hl:fA (env::r)=L::fA r:=by unfold fA;rw[filterMap_cons,e1]
   ⟨e0,⟨L,o,e1,hideAll_none m (hm L (by rw[hl];exact .head _)),e3,e4⟩,iN e5 λb hb=>hm b (by rw[hl];exact .tail _ hb)⟩
structure Fl (P:Program) (w:World) (fs:List Addr) (H H':Hp) (h0 h:Heap) (a T:Addr) (c fl:Value):Prop where
 un:Un fs [] H H' h0 h
 hok:fZ P w H' h
 na:h0.get? a=none
 nT:h0.get? T=none
 ha:H' a=none
 hT:H' T=none
 tr:∃oe vs oT ts a0,h.get? a=some oe/\(oe.cls=c/\vs[0]?=some a0)/\oe.data=.fields vs/\vs[1]?=some (.ref T)/\T≠a/\h.get? T=some oT/\oT.data=.fields ts/\ts[3]?=some fl
section
variable {P:Program} {w:World} {fs:List Addr} {H H':Hp} {h0 h h':Heap} {a T:Addr} {c fl fl':Value}
theorem Fl.traced (F:Fl P w fs H H' h0 h a T c fl):∃a0,h.TracedAtW (hideAll h (a::T::fs)) a c a0 fl:=by
 obtain⟨oe,vs,oT,ts,a0,e1,e2,e3,e4,e5,e6,e7,e8⟩:=F.tr;exact⟨a0,oe,vs,T,oT,ts,e1,e2,e3,e4,hideAll_none _ (.tail _ (.head _)),e5,e6,e7,e8⟩
theorem Fl.move {a0:Value} (F:Fl P w fs H H' h0 h a T c fl) (hfs:∀b∈fs,H' b=none/\∃o,h.get? b=some o/\∀vs,o.data≠ .fields vs)
 (k1:(hideAll h (a::T::fs)).StaysIn h') (k3:h'.TracedAtW (hideAll h (a::T::fs)) a c a0 fl') (k4:h.UpToSlots h'):∃T',Fl P w fs H H' h0 h' a T' c fl':=by
 have keep:∀b o,b≠a->b≠T->b∉fs->h.get? b=some o->h'.get? b=some o:=λb o n1 n2 n3 e=>k1 b o (hideAll_get _ e (by simp[n1,n2,n3]));have slot:∀b o,b∈fs->h.get? b=some o->∃sl,h'.get? b=some { o with slots:=sl }:=λb o hb e=>by
  obtain⟨_,o2,e2,d2⟩:=hfs b hb;rw[e] at e2;cases e2;exact k4 b o e d2
 obtain⟨oe,vs,T',oT,ts,q1,q2,q3,q4,q5,q6,q7,q8,q9⟩:=k3;have hT':T'=T∨h.get? T'=none:=by
  by_cases z:T'=T
  ·exact .inl z
  ·refine .inr ?_;cases e:h.get? T' with
   | none=>rfl
   | some o=>
     by_cases zf:T'∈fs
     ·obtain⟨_,o2,e2,d2⟩:=hfs T' zf;obtain⟨sl,e3⟩:=k4 T' o2 e2 d2;rw[q7] at e3;cases e3;exact absurd q8 (d2 ts)
     ·rw[hideAll_get _ e (by simp[z,zf,q6])] at q5;cases q5
 have back:∀b,h.get? b=none->h0.get? b=none:=λb e=>by
  cases q:h0.get? b with
  | none=>rfl
  | some o=>
    obtain⟨o',e'⟩:=F.un.there b o q (by simp);rw[e] at e';cases e'
 refine⟨T',⟨⟨λb o q n hb hx=>?_,λb o q n hb hx=>?_,F.un.free,λb o q hx=>?_,F.un.tups,F.un.frzs,F.un.tbls⟩,λb u e=>?_,F.na,?_,F.ha,?_,⟨oe,vs,oT,ts,a0,q1,q2,q3,q4,q6,q7,q8,q9⟩⟩⟩
 ·exact keep b o (λz=>by rw[z,F.na] at q;cases q) (λz=>by rw[z,F.nT] at q;cases q) hb (F.un.keep b o q n hb hx)
 ·obtain⟨sl,e1⟩:=F.un.slot b o q n hb hx;obtain⟨sl2,e2⟩:=slot b _ hb e1;exact⟨sl2,e2⟩
 ·obtain⟨o1,e1⟩:=F.un.there b o q hx
  by_cases hb:b∈fs
  ·obtain⟨sl,e2⟩:=slot b o1 hb e1;exact⟨_,e2⟩
  ·exact⟨o1,keep b o1 (λz=>by rw[z,F.na] at q;cases q) (λz=>by rw[z,F.nT] at q;cases q) hb e1⟩
 ·have nn:∀x v,H' x=some v->x≠a/\x≠T/\x∉fs:=λx v e=>⟨λz=>(by rw[z,F.ha] at e;cases e),λz=>(by rw[z,F.hT] at e;cases e),λz=>(by rw[(hfs x z).1] at e;cases e)⟩;refine(F.hok b u e).stay (λx v hc q=>?_) (λ_ q=>q) λ_ _ q=>q;rcases hc with hc | hc
  ·obtain⟨z1,z2,z3⟩:=nn b u e;rw[hc] at q ⊢;exact keep b v z1 z2 z3 q
  ·obtain⟨z1,z2,z3⟩:=nn x _ hc;exact keep x v z1 z2 z3 q
 ·rcases hT' with z | z
  ·rw[z];exact F.nT
  ·exact back T' z
 ·rcases hT' with z | z
  ·rw[z];exact F.hT
  ·exact F.hok.none_of z
end
noncomputable def lg (P:Program) (w:World):pM:=λouter H s E e s'=>∃a T C H',e=.ref a/\s'.os=s.os/\AllBare s'.gens/\Fl P w (fA outer) H H' s.heap s'.heap a T (.ref C) .none/\E (.ref C) none H'
noncomputable abbrev ko (P:Program) (w:World) (K:yav) (mg:yew) (base:Heap) (k:Nat) (f:Addr) (fd:FuncData) (ps:List Str) (sp:bM):Prop:=fP P w K mg base (lg P w) k f fd ps (ur K sp)
section
variable {P:Program} {w:World} {K:yav} {mg:yew} {base:Heap} {N:List Str} {qual:Str} {scope:Scope} {f:Addr} {cdv:Value} {A:Around} {outer:List Env} {s:Shared} {H:Hp} {E:XK}
theorem xZ {σ:St} {H2:Hp} {s2:Shared} {h':Heap} {e C:Addr} {vs:yez} (I:aC (cV (lg P w) P w K mg base N qual scope f cdv A outer s H E) π σ H2 s2)
 (mx:Heap.MadeExcOf s2.heap h' e (.ref C) vs) (hE:E (.ref C) none H2):(cV (lg P w) P w K mg base N qual scope f cdv A outer s H E).xe (.ref e) { s2 with heap:=h' }:=by
 have ST:=I.stack;have SF:=I.stkFree;refine wpAny_leaves_madeW (base:=hideAll s2.heap (fA (envOfC qual scope s.heap.objs.size f cdv::outer))) (h:=s2.heap) (L:=s.heap.objs.size) I.ok.frames rfl (λb o q=>PySem.W.of_hideAll _ q) (iN ST λ_ z=>z) mx λh3 t fly _ _ ups=>?_;obtain⟨k1,_,_,k3⟩:=fly;obtain⟨oe,ws,T,oT,ts,q1,q2,q3,q4,q5,q6,q7,q8,q9⟩:=k3;have keep:∀b o,b∉fA (envOfC qual scope s.heap.objs.size f cdv::outer)->s2.heap.get? b=some o->h3.get? b=some o:=λb o hb q=>k1 b o (hideAll_get _ q hb);have slot:∀b o,b∈fA (envOfC qual scope s.heap.objs.size f cdv::outer)->s2.heap.get? b=some o->(∃sl,h3.get? b=some { o with slots:=sl })/\∀vs,o.data≠ .fields vs:=λb o hb q=>by
  obtain⟨_,o2,e2,d2⟩:=ST.mem hb;rw[q] at e2;cases e2;exact⟨ups b o (mx.keeps b o q) d2,d2⟩
 have nL:∀b o,s.heap.get? b=some o->b∉fA outer->b∉fA (envOfC qual scope s.heap.objs.size f cdv::outer):=λb o q hb z=>by
  rcases mem_cons.mp (show b∈s.heap.objs.size::fA outer from z) with z | z
  ·exact absurd (ybv q) (by rw[z];exact lt_irrefl _)
  ·exact hb z
 have back:∀b,s2.heap.get? b=none->s.heap.get? b=none:=λb q=>by
  cases z:s.heap.get? b with
  | none=>rfl
  | some o=>
    obtain⟨o',e'⟩:=I.base.there b o z (by intro y;cases y);rw[q] at e';cases e'
 have nT:s2.heap.get? T=none:=by
  cases z:s2.heap.get? T with
  | none=>rfl
  | some o=>
    by_cases zf:T∈fA (envOfC qual scope s.heap.objs.size f cdv::outer)
    ·obtain⟨⟨sl,e3⟩,d2⟩:=slot T o zf z;rw[q7] at e3;cases e3;exact absurd q8 (d2 ts)
    ·rw[hideAll_get _ z zf] at q5;cases q5
 refine⟨e,T,C,H2,rfl,I.os,I.bare,⟨⟨λb o q n hb hx=>?_,λb o q n hb hx=>?_,λb o q n hx=>I.base.free b o q n (by intro y;cases y),λb o q hx=>?_,I.base.tups,I.base.frzs,I.base.tbls⟩,λb u q=>?_,back e mx.new,back T nT,I.hok.none_of mx.new,I.hok.none_of nT,
  ⟨oe,ws,oT,ts,_,q1,q2,q3,q4,q6,q7,q8,q9⟩⟩,hE⟩
 ·exact keep b o (nL b o q hb) (I.base.keep b o q n hb (by intro y;cases y))
 ·obtain⟨sl,e1⟩:=I.base.slot b o q n hb (by intro y;cases y);obtain⟨⟨sl2,e2⟩,_⟩:=slot b _ (ybx _ hb) e1;exact⟨sl2,e2⟩
 ·obtain⟨o1,e1⟩:=I.base.there b o q (by intro y;cases y)
  by_cases hb:b∈fA (envOfC qual scope s.heap.objs.size f cdv::outer)
  ·obtain⟨⟨sl,e2⟩,_⟩:=slot b o1 hb e1;exact⟨_,e2⟩
  ·exact⟨o1,keep b o1 hb e1⟩
 ·have nn:∀x v,H2 x=some v->x∉fA (envOfC qual scope s.heap.objs.size f cdv::outer):=λx v q z=>by rw[SF x z] at q;cases q
  refine(I.hok b u q).stay (λx v hc q2=>?_) (λ_ q=>q) λ_ _ q=>q;rcases hc with hc | hc
  ·rw[hc] at q2 ⊢;exact keep b v (nn b u q) q2
  ·exact keep x v (nn x _ hc) q2
noncomputable def rX (C:Addr) (e:WX):WS:=λ_ _ G=>e (.ref C) G
theorem dZ {x msg:Str} {C:Addr} {e:WX} {np cpos pos p1:Pos} {j} (hm:mg x=some (.ref C)) (hC:XC K C bm) (hE:∀H1 G1,aQ H H1->aI K H1 G1->e (.ref C) G1->E (.ref C) none H1)
 (hg:Gl (cV (lg P w) P w K mg base N qual scope f cdv A outer s H E) x) (hd:(x==("__debug__":Str))=false:=by decide):
 QS (cV (lg P w) P w K mg base N qual scope f cdv A outer s H E) (.Raise (some (.Call (.Name x np) [.Constant (.str msg) j p1] [] cpos)) none pos) (rX C e):=by
 rintro π s2 σ H2 D I ⟨τ,G,d,hs,hgG,ht,l⟩;obtain⟨N1,n1,q1,b1,d1,s1,u1,a1,c1,f1,g0,g1,g2,g3,g5,m1,gC,gN,gi,gT⟩:=hC.obj _ I.ok.mod.kin;refine wpAny_Raise_call_subT (C:=C) (nm:=n1) (q:=q1) (N:=N1) (bs:=b1) (bm:=bm) (hdct:=d1) (sn:=s1) (sub:=u1) (ab:=a1) (col:=c1) (dd:=f1) (k0:=g0) (k1:=g1) (k2:=g2) (k3:=g3) (k5:=g5) PySem.F.excBase_ValueError (mN:=m1) (gT.hasType rfl) (I.ok.hd rfl) rfl gi
  (gd I hg hm ⟨rfl,?_⟩ hd)
 have ha:=(eh (X:=cV (lg P w) P w K mg base N qual scope f cdv A outer s H E) (j6 (x:=msg) (j:=j) (pos:=p1)) pa_nil) cpos π s2 σ H2 (λvs H'=>vs.length=1/\H'=H2) I ⟨rfl,rfl⟩;refine Calls.evalArgs_plain (wpAny_mono ha (λus s3 h3=>?_) λ_ _ y=>y);obtain⟨vs,H3,I3,rv,hl,rfl⟩:=h3;refine⟨rfl,?_,I3.bk _ _ gC,gN.keeps I3.bk,gT.keeps I3.bk,λh' a mx=>xZ I3 mx (hE _ G ⟨I3.base.tups,λb o u q=>I3.base.frzs b o _ q⟩ hgG ht)⟩;show us.length<=sizeLine;rw[←rv.length,hl];decide
end
noncomputable def oz:WS:=λ_ _ _=>False
theorem p7 {X:Cx} {st:List Stmt}:mQ X st oz:=λ_ _ _ _ _ _ ⟨_,_,_,_,_,z,_⟩=>z.elim
theorem nz {x qual:Str} {f:Addr} {N ps:List Str} {sp:bM} (F:cJ K x qual st f fd) (S:bA N ps (ak st)) (len:∀ws G q e,sp ws G q e->ws.length=ps.length)
 (hbody:∀(cdv:Value) (A:Around) (outer:List Env) (s:Shared) (H:Hp) (E:XK) (ws:List W) (G:Gp) (q:WK) (e:WX),av k (A.deeper (envOfC qual (ak st) s.heap.objs.size f cdv))->sp ws G q e->(∀c H1 G1,aQ H H1->aI K H1 G1->e c G1->E c none H1)->
   ∃t,mQ (cV (lg P w) P w K mg base N qual (ak st) f cdv A outer s H E) (ao st) t/\t { nx:=λ_ G1=>∃G0,aL G0 G1/\q .non G0,rt:=λw G1=>∃G0,aL G0 G1/\q w G0 } (iF N ws) G):ko P w K mg base (k+1) f fd ps sp:=by
 obtain⟨oc,od,kV,doc,pm,an,cdv,ct,osl,rfl,lk,hcd⟩:=F.ex;refine qU lk hcd S (λvs H Q E ⟨ws,G,q,e,r,g,z,_⟩=>by rw[←r.length];exact len _ _ _ _ z) (λA outer s H vs Q E hr ⟨ws,G,q,e,r,g,z,hQ,hX⟩=>?_);obtain⟨t,ht,hq⟩:=hbody cdv A outer s H E ws G q e hr z λc H1 G1 t1 g1 z1=>hX c none H1 G1 t1 g1 z1;exact⟨_,ht,_,G,_,bq.start r,g,hq,⟨λσ1 H1 τ1 G1 t1 s1 g1 ⟨G0,l,q1⟩=>hQ .non H1 .non G0 t1 .non (g1.le l) q1,λv H1 w G1 t1 r1 g1 ⟨G0,l,q1⟩=>hQ v H1 w G0 t1 r1 (g1.le l) q1,λ_ _ _ _ _ _ _ z=>z.elim,λ_ _ _ _ _ _ _ z=>z.elim⟩⟩
noncomputable def Rx (P:Program) (w:World) (K:yav) (mg:yew) (base:Heap) (x:Str) (ps:List Str) (k:Nat) (sp:bM) (dws:List W):Prop:=
 ∃(f:Addr) (fd:FuncData) (ds:yez) (dvs:List V),ko P w K mg base k f fd ps sp/\mg x=some (.ref f)/\keepIn K (.ref f)=true/\bJ K fd ps ds/\aS dvs ds/\∀H,aK K H dws dvs
section
variable {X:Cx} {π:List (Addr×Obj)} {σ:St} {H:Hp} {s:Shared} {a:Addr} {oe:Obj}
end
section
variable {X:Cx} {π:List (Addr×Obj)} {σ:St} {H0 H:Hp} {s0 s:Shared} {a T:Addr} {c fl:Value}
theorem Fl.inv (F:Fl X.prog X.w (fA X.stack) H0 H s0.heap s.heap a T c fl) (I:aC X π σ H0 s0) (os:s.os=s0.os) (bare:AllBare s.gens):aC X π σ H s:=I.call' (ch:=[]) os F.un F.hok bare λb z=>absurd z (by simp)
theorem aC.frmem (I:aC X π σ H s):∀b∈fA X.stack,H b=none/\∃o,s.heap.get? b=some o/\∀vs,o.data≠ .fields vs:=λb hb=>⟨I.stkFree b hb,(I.stack.mem hb).2⟩
variable {C D:Addr} {bm bmD:yez} {x:Str} {p pos:Pos} {name:Option Str} {body:List Stmt} {rest:List ExceptHandler} {b0:Stmt} {th:WS}
end
section
variable {X:Cx} {a:Addr} {oe:Obj} {C D:Addr} {bm bmD:yez}
theorem rY {x y:V} (r:aS [x,y] us):∃u v,us=[u,v]/\bg x u/\bg y v:=by
 cases r with
 | cons r1 r=>
   cases r with
   | cons r2 r=>cases r;exact⟨_,_,rfl,r1,r2⟩
end
section
variable {prog:Program} {w:World} {A:Around} {R:Result->Shared->Prop} {I:Addr} {fp wr:List Addr} {n:Nat} {P:Nat->Value->Prop} {St:Nat->Heap->Prop} {kw:List (Str×Value)}
end
section
variable {prog:Program} {w:World} {A:Around} {E:yey} {s:Shared} {l:Addr} {xs:Array (Int×Tok)} {d:Value}
end
section
variable {X:Cx}
end
section
variable {P:Program} {w:World} {K:yav} {mg:yew} {base:Heap} {N:List Str} {qual:Str} {scope:Scope} {f:Addr} {cdv:Value} {A:Around} {outer:List Env} {s:Shared} {H:Hp} {E:XK}
theorem oA {E':XK} (hE:∀C H1,aQ H H1->E' (.ref C) none H1->E (.ref C) none H1):ei (lg P w) (cV (lg P w) P w K mg base N qual scope f cdv A outer s H E) E':=by
 intro π σ H2 s2 e s3 I hx;obtain⟨a,T,C,H',rfl,os,bare,F,hw⟩:=hx;have I':=F.inv I os bare;obtain⟨a0,tr⟩:=F.traced;show wpAny _ _ (leaving (envOfC qual scope s.heap.objs.size f cdv) (.ref a)) _ _ s3;refine wpAny_leaving_nextW (base:=hideAll s3.heap (a::T::fA (envOfC qual scope s.heap.objs.size f cdv::outer))) (outer:=outer) (L:=s.heap.objs.size) I'.ok.frames (iN I'.stack λb z=> .tail _ (.tail _ z)) rfl tr (λb o q=>PySem.W.of_hideAll _ q) (hideAll_none _ (.head _)) λh3 left=>?_;obtain⟨k1,_,k3,k4⟩:=left;obtain⟨T',F'⟩:=F.move I'.frmem k1 k3 k4;have nL:∀b o,s.heap.get? b=some o->b∉fA outer->b∉fA (envOfC qual scope s.heap.objs.size f cdv::outer):=λb o q hb z=>by
  rcases mem_cons.mp (show b∈s.heap.objs.size::fA outer from z) with z | z
  ·exact absurd (ybv q) (by rw[z];exact lt_irrefl _)
  ·exact hb z
 have no:∀b:Addr,b∉(cV (lg P w) P w K mg base N qual scope f cdv A outer s H E).ex:=λb y=>nomatch y;have back:∀b,s2.heap.get? b=none->s.heap.get? b=none:=λb q=>by
  cases z:s.heap.get? b with
  | none=>rfl
  | some o=>
    obtain⟨o',e'⟩:=I.base.there b o z (no b);rw[q] at e';cases e'
 have tl:aQ H H':=⟨λb xs q=>F.un.tups b xs (I.base.tups b xs q),λb o u q=>F.un.frzs b o _ (I.base.frzs b o _ q)⟩;refine⟨a,T',C,H',rfl,os.trans I.os,bare,⟨⟨λb o q n hb hx=>?_,λb o q n hb hx=>?_,λb o q n hx=>?_,λb o q hx=>?_,λb xs q=>F.un.tups b xs (I.base.tups b xs q),λb o u q=>F.un.frzs b o u (I.base.frzs b o u q),λb ps q=>?_⟩,F'.hok,back a F'.na,back T' F'.nT,F'.ha,F'.hT,F'.tr⟩,hE C H' tl hw⟩
 ·exact F'.un.keep b o (I.base.keep b o q n hb (no b)) (I.base.free b o q n (no b)) (nL b o q hb) (by simp)
 ·obtain⟨sl,e1⟩:=I.base.slot b o q n hb (no b);obtain⟨sl2,e2⟩:=F'.un.slot b _ e1 (I.base.free b o q n (no b)) (ybx _ hb) (by simp);exact⟨sl2,e2⟩
 ·obtain⟨o',e'⟩:=I.base.there b o q (no b);exact F'.un.free b o' e' (I.base.free b o q n (no b)) (by simp)
 ·obtain⟨o',e'⟩:=I.base.there b o q (no b);exact F'.un.there b o' e' (by simp)
 ·obtain⟨m1,e1⟩:=I.base.tbls b ps q;obtain⟨m2,e2⟩:=F.un.tbls b _ e1;exact⟨m1++m2,by rw[e2,Array.append_assoc]⟩
noncomputable def rZ (sp:bM) (dws:List W) (t:WA) (e:WX):WE:=λτ G q=>t τ G λws G1=>sp (ws++dws) G1 q e
theorem r6 {sp:bM} {dws:List W} {p pos:Pos} {e0:Expr} {t:WA} {e:WX} (F:Rx P w K mg base x ps k sp dws) (hr:av k (A.deeper (envOfC qual scope s.heap.objs.size f cdv)))
 (hE:∀c H1 G1,aQ H H1->aI K H1 G1->e c G1->E c none H1) (hg:Gl (cV (lg P w) P w K mg base N qual scope f cdv A outer s H E) x) (ha:QA (cV (lg P w) P w K mg base N qual scope f cdv A outer s H E) (e0::es) t) (hdb:(x==("__debug__":Str))=false:=by decide)
 (he:starEach (e0::es) (envOfC qual scope s.heap.objs.size f cdv)=(false,eval e0 (envOfC qual scope s.heap.objs.size f cdv))::starEach es (envOfC qual scope s.heap.objs.size f cdv):=by rfl) (hpl:(backTo pos (starEach es (envOfC qual scope s.heap.objs.size f cdv))).any (·.1)=false:=by rfl):
 QE (cV (lg P w) P w K mg base N qual scope f cdv A outer s H E) (.Call (.Name x p) (e0::es) [] pos) (rZ sp dws t e):=by
 obtain⟨f1,fd,ds,dvs,F1,h2,h3,h4,h5,h6⟩:=F;refine(j9 (X:=cV (lg P w) P w K mg base N qual scope f cdv A outer s H E) (E:=λc _ H1=>∃G1,aI K H1 G1/\e c G1) F1 hr hg h2 h3 h4 h5 (oA λC H1 t1 z=>?_) ha hdb he hpl).imp λσ H2 Q h=>?_
 ·obtain⟨G1,g1,z1⟩:=z;exact hE _ H1 G1 t1 g1 z1
 ·obtain⟨τ,G,q,hs,hgG,ht,hQ⟩:=h;exact⟨τ,G,_,hs,hgG,ht,λvs H1 ws G1 t1 r1 g1 q1=>⟨ws++dws,G1,q,e,r1.append (h6 H1),g1,q1,λv H3 w G3 t3=>hQ v H3 w G3 (t1.trans t3),λc d H3 G3 _ g3 z=>⟨G3,g3,z⟩⟩⟩
end
section
variable {X:Cx} {π:List (Addr×Obj)} {σ:St} {H:Hp} {s:Shared}
end
section
variable {prog:Program} {w:World} {A:Around} {E:yey} {s:Shared} {I l:Addr} {items:Array Value}
end
section
variable {X:Cx}
end
section
variable {X:Cx} {tg:Expr}
noncomputable def Cj (i j:Int):Prop:=0<=j/\j<=1000/\i.natAbs<2^4000
noncomputable def r9 (i j:Int):Prop:=xh i j∨Cj i j
noncomputable abbrev Ab:W2:=pT r9 λi j=> .int (i^j.toNat)
theorem uH:gf X (binaryOp .Pow) (rI r9 λi j=> .int (i^j.toNat)):=Bu λi j _ _ _ _ _ hc q=>by
 rcases hc with hc | ⟨h0,h1,h2⟩
 ·exact pow_int_small hc.1 hc.2.1 hc.2.2 q
 ·refine pow_int h0 ?_ q;have b1:=PyProof.Rows.intBits_le h2;have b2:(Builtin.Int.intBits i:Int)*j<=4000*1000:=Int.mul_le_mul (by (clear h0 h1 h2;lia)) h1 h0 (by decide);have hb:(4000000:Int)<=bitsLine:=by decide
  first | (clear h0 h1 h2 b1 hb;lia) | (simp[Builtin.Int.intTooBig];lia)
theorem iO:fm X (binaryOp .Pow) Ab:=nq uH
end
section
variable {X:Cx} {C:Addr} {th:WS} {x:Str} {p pos:Pos}
end
theorem ko.none {f:Addr} {sp:bM} (h:∀ws G q e,¬sp ws G q e):ko P w K mg base k f fd ps sp:=
 ⟨λ_ _ _ _ ⟨_,_,_,_,_,_,z,_⟩=>absurd z (h _ _ _ _),λ_ _ _ _ _ _ _ _ _ _ _ _ _ ⟨_,_,_,_,_,_,z,_⟩=>absurd z (h _ _ _ _)⟩
section
variable {X:Cx}
end
theorem gI:fillsNumberSlot (.type "tuple") "mul"=pure false:=
 PySem.fillsNumberSlot_seq (id:="tuple.__mul__") (r:=some (.builtin "tuple.__rmul__")) F.slot_tuple_mul.lookup (by decide+kernel) F.slot_tuple_rmul.lookup (by decide+kernel)
theorem kq:seqRepeat? (.type "tuple")=pure (some (.builtin "tuple.__mul__")):=by
 unfold seqRepeat?;rw[PySem.seqSlot_of (T:="tuple") (name:="__mul__") (id:="tuple.__mul__") F.slot_tuple_mul.lookup (by decide+kernel),PySem.seqSlot_of (T:="tuple") (name:="__rmul__") (id:="tuple.__rmul__") F.slot_tuple_rmul.lookup (by decide+kernel)]
 rfl
theorem iP (a:Int) (t:Tok) (l:Addr) (items:Array Value) (n:Nat) (dd:Option Addr) (sl:Array (Option Value)):
 Meets (Builtin.«int.__rmul__» ⟨[.int a t,.ref l],[]⟩) (λ_ R s=>s.heap.get? l=some { cls:= .type "tuple",dict:=dd,data:= .seq items n,slots:=sl }/\R (.ok (.ret Value.notImplemented)) s):=
 .of_wp λprog w A R s h=>by obtain⟨hp,g,d,tk,os⟩:=s;obtain⟨hl,h⟩:=h;wp_walk;exact⟨_,rfl,h⟩
theorem nA (l:Addr) (items:Array Value) (n:Nat) (dd:Option Addr) (sl:Array (Option Value)) (u:Tok):
 Meets (Builtin.«tuple.__mul__» ⟨[.ref l,.int 1 u],[]⟩) (λ_ R s=>s.heap.get? l=some { cls:= .type "tuple",dict:=dd,data:= .seq items n,slots:=sl }/\R (.ok (.ret (.ref l))) s):=
 .of_wp λprog w A R s h=>by
  obtain⟨hp,g,d,tk,os⟩:=s;obtain⟨hl,h⟩:=h
  wp_walk
  exact⟨_,rfl,h⟩
theorem nB (l:Addr) (items:Array Value) (n:Nat) (dd:Option Addr) (sl:Array (Option Value)) (x:Int) (u:Tok) (h0:items.isEmpty=false) (h1:(x==1)=false) (h2:0<x) (hf:(decide (x< -(2^63))||decide (x≥2^63))=false) (hm:decide ((items.size:Int)*x > (2^63-1)/8)=false) (ht:Builtin.Tuple.tupleTooMany ((items.size:Int)*x)=false) (hsz:((List.replicate x.toNat items).foldl (·++ ·) #[]).size<=sizeLine):
 Meets (Builtin.«tuple.__mul__» ⟨[.ref l,.int x u],[]⟩) (λ_ R s=>s.heap.get? l=some { cls:= .type "tuple",dict:=dd,data:= .seq items n,slots:=sl }/\R (.ok (.ret (.ref s.heap.objs.size))) { s with heap:=s.heap.push { cls:= .type "tuple",data:= .seq ((List.replicate x.toNat items).foldl (·++ ·) #[]) } }):=
 .of_wp λprog w A R s h=>by
  obtain⟨hp,g,d,tk,os⟩:=s;obtain⟨hl,h⟩:=h;have c1:(items.isEmpty||x==1)=false:=by rw[h0,h1];rfl
  have c2:(decide (x<=0)||items.isEmpty)=false:=by rw[h0,ydy (by (clear hf hm hsz;lia))];rfl
  wp_walk
  refine wpAny_ite_false (by rw[hf];rfl) ?_
  wp_walk
  refine wpAny_ite_false hm ?_
  wp_walk
  exact⟨_,rfl,h⟩
theorem nC (l:Addr) (items:Array Value) (n:Nat) (dd:Option Addr) (sl:Array (Option Value)) (u:Tok) (h0:items.isEmpty=false):
 Meets (Builtin.«tuple.__mul__» ⟨[.ref l,.int 0 u],[]⟩) (λ_ R s=>s.heap.get? l=some { cls:= .type "tuple",dict:=dd,data:= .seq items n,slots:=sl }/\R (.ok (.ret (.ref s.heap.objs.size))) { s with heap:=s.heap.push { cls:= .type "tuple",data:= .seq #[] } }):=
 .of_wp λprog w A R s h=>by
  obtain⟨hp,g,d,tk,os⟩:=s;obtain⟨hl,h⟩:=h;have c1:(items.isEmpty||(0:Int)==1)=false:=by rw[h0];rfl
  wp_walk
  exact⟨_,rfl,h⟩
section
variable {X:Cx}
noncomputable def Ac (K:yav):R2:=λx y H Q=>∃a k xs,x=.ref a/\y=.int k/\dq K H a xs/\xs≠[]/\0<=k/\k<=100000/\xs.length*k.toNat<=sizeLine/\
 (k=1->Q (.ref a) H)/\(k≠1->∀p,H p=none->Q (.ref p) (upd H p (.tup (List.replicate k.toNat xs).flatten)))
theorem uI:gf X (binaryOp .Mult) (Ac X.K):=by
 intro π s σ H x y v u Q I rx ry h;obtain⟨a,k,xs,rfl,rfl,ha,hx,h0,h1,hz,q1,q2⟩:=h;cases rx;obtain⟨t,rfl⟩:=ry;obtain⟨its,r1,p1,_⟩:=I.tuple ha;have hl:=r1.length;obtain⟨⟨cls,dd,data,sl⟩,ho,hc,n,hd⟩:=id p1;simp only at hc hd;subst hc hd;have he:its.toArray.isEmpty=false:=by
  cases its with
  | nil=>exact absurd (r1.nil_iff.mp rfl) hx
  | cons _ _=>rfl
 refine wpAny_binaryOp_repeat_ref (T:="tuple") (U:="int") (by decide) ⟨_,ho,rfl⟩ (λs'=>typeIs_int s' k t) gI F.fills_int_mul F.slot_int_rmul kq F.slot_int_index.lookup
  (call_meets F.slot_int_rmul (typeIs_int s k t) F.entry_int_rmul (F.args_int_rmul_2 _ _) (iP k t a its.toArray n dd sl) ⟨ho,rfl,⟨_,ho,rfl⟩,?_⟩)
 by_cases hk1:k=1
 ·subst hk1;exact call_meets F.slot_tuple_mul ⟨_,ho,rfl⟩ F.entry_tuple_mul (F.args_tuple_mul_2 _ _) (nA a its.toArray n dd sl t) ⟨ho,⟨.ref a,H,I,rfl,q1 rfl⟩⟩
 ·by_cases hk0:k=0
  ·subst hk0;refine call_meets F.slot_tuple_mul ⟨_,ho,rfl⟩ F.entry_tuple_mul (F.args_tuple_mul_2 _ _) (nC a its.toArray n dd sl t he) ⟨ho,?_⟩;refine⟨.ref s.heap.objs.size,_,I.laid (t':=s.toks) (o:= .tup []) (λb ob q=>ybz _ q) (ycx _) ?_,rfl,q2 (by decide) _ (I.hok.fresh (ycx _))⟩;exact⟨zero_le _,[],.nil,IsTup.new _ _⟩
  ·have hsz:(its.toArray.size:Int)*k<=(sizeLine:Int):=by
    rw[size_toArray,←hl,←Int.toNat_of_nonneg h0]
    exact_mod_cast hz
   have hnew:List.foldl (λx1 x2=>x1++x2) #[] (List.replicate k.toNat its.toArray)=(List.replicate k.toNat its).flatten.toArray:=by
    have:=gD its k.toNat [];rw[nil_append] at this;exact this
   refine call_meets F.slot_tuple_mul ⟨_,ho,rfl⟩ F.entry_tuple_mul (F.args_tuple_mul_2 _ _) (nB a its.toArray n dd sl k t he (by simpa using hk1) (by (clear hz hl hk1 hsz;lia)) ?_ ?_ ?_ ?_) ⟨ho,?_⟩
   ·rw[ydy (by (clear hz hl hk1 hk0 hsz;lia)),ydy (by (clear hz hl hk1 hk0 hsz;lia))];rfl
   ·refine ydy (Int.not_lt.mpr (ydv hsz ?_));decide
   ·unfold Builtin.Tuple.tupleTooMany;exact ydy (Int.not_lt.mpr hsz)
   ·rw[hnew,size_toArray,ii,Nat.mul_comm,←hl];exact hz
   ·rw[hnew];refine⟨.ref s.heap.objs.size,_,I.laid (t':=s.toks) (o:= .tup (List.replicate k.toNat xs).flatten) (λb ob q=>ybz _ q) (ycx _) ?_,rfl,q2 hk1 _ (I.hok.fresh (ycx _))⟩;exact⟨by rw[ii,Nat.mul_comm];exact hz,_,r1.rep k.toNat,IsTup.new _ _⟩
end
section
variable {X:Cx}
end
noncomputable abbrev DM:=Addr->de->Gp->Prop
noncomputable def XP (X:Cx) (π:List (Addr×Obj)) (H:Hp) (ex:DM) (e:Value) (s':Shared):Prop:=
 ∃a T C H0 s0 σ H' τ G,e=.ref a/\aC X π σ H0 s0/\Fl X.prog X.w (fA X.stack) H0 H' s0.heap s'.heap a T (.ref C) .none/\s'.os=s0.os/\AllBare s'.gens/\aQ H H'/\bq X.K H' τ σ/\aI X.K H' G/\ex C τ G
section
variable {X:Cx} {x:Str} {p pos:Pos}
end
section
variable {prog:Program} {w:World} {A:Around} {E:yey} {s:Shared}
end
section
variable {prog:Program} {w:World} {A:Around} {E:yey} {s:Shared}
end
mutual
noncomputable def W.ge:W->W->Bool
 | .int i,.int j=>decide (i≥j)
 | .tup xs,.tup ys=>W.ges xs ys
 | _,_=>false
noncomputable def W.ges:List W->List W->Bool
 | [],[]=>true
 | [],_::_=>false
 | _::_,[]=>true
 | x::xs,y::ys=>if W.eq x y=true then W.ges xs ys else W.ge x y
end
noncomputable def Ck (A:Around) (s:Shared) (y x:Value) (b:Bool):Prop:=
 ∀(prog:Program) (w:World) (E:yey) (Q:yey),Q (.bool b) s->wpAny (model prog w) A (richCompare .GtE y x) Q E s
inductive p8 (A:Around) (s:Shared):List Value->List Value->Bool->Prop where
 | nn:p8 A s [] [] true
 | nc {y:Value} {ys:yez}:p8 A s [] (y::ys) false
 | cn {x:Value} {xs:yez}:p8 A s (x::xs) [] true
 | eq {x y:Value} {xs ys:yez} {r:Bool} (h:SeqAt.EqAt A s x y true) (t:p8 A s xs ys r):p8 A s (x::xs) (y::ys) r
 | ne {x y:Value} {xs ys:yez} {r:Bool} (h:SeqAt.EqAt A s x y false) (t:Ck A s x y r):p8 A s (x::xs) (y::ys) r
section
open PySem.SeqAt
open PySem.AutoSeq1 (wpAny_loadPart')
open PySem.MeetsSeq PySem.MeetsSeq2 PySem.MeetsSeq3
end
section
variable {X:Cx} {π:List (Addr×Obj)} {σ:St} {H:Hp} {s:Shared}
end
section
variable {X:Cx}
noncomputable def Cn:W2:=λx y G q=>match x,y with
 | .int i,.int j=>q (.bl (decide (i≥j))) G
 | .tup xs,.tup ys=>W.flats xs=true/\W.flats ys=true/\W.deps xs<=149/\W.ords xs ys=true/\q (.bl (W.ges xs ys)) G
 | _,_=>False
end
section
variable {X:Cx}
noncomputable def Ad (to te:WE):WE:=λτ G q=>to τ G λx G1=>match x with
 | .ref a=>(∃xs,G1 a=some (.lst xs))/\te τ G1 λy G2=>match y with
   | .ref b=>∃ys zs,G2 a=some (.lst ys)/\G2 b=some (.lst zs)/\ys.length+zs.length<=100000/\q .non (aV G2 a (.lst (ys++zs)))
   | _=>False
 | _=>False
theorem x3 {o e:Expr} {to te:WE} {apos cpos:Pos} (ho:QE X o to) (he:QE X e te)
 (hbase:attributeBase o "extend" X.env (eval o X.env)=eval o X.env:=by rfl)
 (hfew:((backTo cpos (starEach [e] X.env)).all (λx=>!x.1)&&(backToKw cpos (keywordEach [] X.env)).all (λx=>x.1.isSome)
   &&decide (([e]:List Expr).length+([]:List Keyword).length+(if ([]:List Keyword).isEmpty then 0 else 1)<30))=true:=by rfl)
 (hline:(apos.endLine==cpos.line)=true:=by rfl) (hs:starEach [e] X.env=(false,eval e X.env)::starEach [] X.env:=by rfl):
 QE X (.Call (.Attribute o "extend" apos) [e] [] cpos) (Ad to te):=
 (qZ PySem.F.plainAttrs_list PySem.F.slot_list_extend PySem.F.type_list_extend pQ ho (eh he pa_nil hs) hbase hfew hline hs rfl).imp λσ H Q z0=>z0.el λτ G q hs hg ht hQ=>
   ⟨τ,G,_,hs,hg,ht,λv H1 w G1 t1 r1 g1 q1=>by
     split at q1
     ·rename_i a;cases r1;obtain⟨⟨xs,e1⟩,q1⟩:=q1;obtain⟨_,xs',h1,_⟩:=g1 a _ e1;refine⟨.inl ⟨rfl,xs',dy.of h1⟩,τ,G1,_,hs.mono t1,g1,q1,λv2 H2 w2 G2 t2 r2 g2 q2=>?_⟩;split at q2
      ·rename_i b;cases r2;obtain⟨ys,zs,e2,e3,hl,q2⟩:=q2;obtain⟨_,ys',h2,rr⟩:=g2 a _ e2;obtain⟨_,zs',h3,rz⟩:=g2 b _ e3;refine⟨a,b,ys',zs',rfl,rfl,h2,h3,?_,?_⟩
       ·rw[←rr.length,←rz.length];exact bI hl
       ·exact hQ _ _ _ _ ((t1.trans t2).trans (aQ.lst h2 _)) .non (g2.put (aQ.lst h2 _) (rr.append rz) (by rw[length_append];exact hl)) q2
      ·exact q2.elim
     ·exact q1.elim⟩
end
section
variable {prog:Program} {w:World} {A:Around} {E:yey} {h:Heap} {g:Array GenState} {d:Drawn} {t:Nat} {os:OsState} {a C:Addr} {o:Obj} {K:yav} {bm:yez}
end
section
variable {prog:Program} {w:World} {A:Around} {E:yey} {s:Shared} {a C D:Addr} {o:Obj} {K:yav} {bm:yez}
end
section
variable {X:Cx} {a:Addr} {oe:Obj} {C D:Addr} {bm:yez}
end
theorem ko.calm {f:Addr} {sp sp':bM} (F:ko P w K mg base k f fd ps sp) (h:∀ws G q e,sp' ws G q e->sp ws G q λ_ _=>False):cq P w K mg base k f fd ps sp':=by
 refine⟨λvs H Q E ⟨ws,G,q,e,r,g,z,hQ,_⟩=>F.len vs H Q (λ_ _ _=>False) ⟨ws,G,q,λ_ _=>False,r,g,h _ _ _ _ z,hQ,λ_ _ _ _ _ _ z=>z.elim⟩,λA outer s H args us vs Q E hr he hb hv z9=>?_⟩;obtain⟨ws,G,q,e,r,g,z,hQ,_⟩:=z9;refine codeAny_mono (F.run A outer s H args us vs Q (λ_ _ _=>False) hr he hb hv ⟨ws,G,q,λ_ _=>False,r,g,h _ _ _ _ z,hQ,λ_ _ _ _ _ _ z=>z.elim⟩) λr s' hq=>?_;cases r with
 | ok fl=>
   cases fl with
   | ret u=>exact hq
   | next=>exact hq
   | brk=>exact hq
   | cont=>exact hq
 | error e=>
   obtain⟨a,T,C,H',_,_,_,_,z⟩:=hq;exact z.elim
section
variable {prog:Program} {w:World} {A:Around} {E:yey} {s:Shared} {I l:Addr} {items:Array Value}
end
section
variable {X:Cx}
end
section
variable {X:Cx}
end
section
variable {X:Cx} {π:List (Addr×Obj)} {σ:St} {H0 H:Hp} {s0 s:Shared} {a T C D:Addr}
variable {bm bmD:yez} {x:Str} {p pos:Pos} {name:Option Str} {body:List Stmt} {rest:List ExceptHandler} {b0:Stmt} {th:WS}
theorem aK.bools_of {K:yav} {H:Hp}:∀{bs:List Bool} {vs:List V},aK K H (bs.map W.bl) vs->vs=bs.map V.bl
 | [],_,r=>by cases r;rfl
 | n::ns,_,r=>by
   cases r with
   | cons r rs=>
     cases r;rw[aK.bools_of rs]
     rfl
theorem lJ {bs:List Bool}:∀{us:yez},aS (bs.map V.bl) us->LSm.BoolsAre us bs:=by
 induction bs with
 | nil=>intro us r;rw[map_nil] at r;cases r;exact .nil
 | cons n ns ih=>
   intro us r;rw[map_cons] at r;cases r with
   | @cons _ u _ _ r1 r2=>
     cases (show u=Value.bool n from r1);exact .cons n (ih r2)
end
structure Ae (k:Nat) (A:Around):Prop where
 dp:A.depth+3*k+5<recursionLimit
 un:A.units+16*k+200<cLine
structure ED (P:Program) (w:World) (K:yav) (mg:yew) (base:Heap) (CX:pM) (k:Nat) (f:Addr) (fd:FuncData) (ps:List Str) (sp:Sp):Prop where
 len:∀vs H Q E,sp vs H Q E->vs.length=ps.length
 run:∀(A:Around) (outer:List Env) (s:Shared) (H:Hp) (args:Args) (us:yez) (vs:List V) (Q:VK) (E:XK),Ae k A->lu P w K mg base A outer s H->BindsTo s fd args (ps.zip us)->aS vs us->sp vs H Q E->
  codeAny (model P w) A (.call (.ref f) args) (CR CX outer P w H s Q E) s
section
variable {X:Cx}
end
section
variable {P:Program} {w:World} {K:yav} {mg:yew} {base:Heap} {k:Nat} {f:Addr} {fd:FuncData} {ps:List Str} {sp sp':bM}
end
theorem aQ.ins {H:Hp} {p C dx:Addr} {fs:List (Str×V)} (hp:H p=some (.ins C dx fs)) (o:HO):aQ H (upd H p o):=
 ⟨λ_ _ h=>by rw[aT (jk h hp (by intro z;cases z))];exact h,λ_ _ _ h=>by rw[aT (jk h hp (by intro z;cases z))];exact h⟩
noncomputable def lK (f:Str) (v:W):List (Str×W)->List (Str×W)
 | []=>[(f,v)]
 | (g,x)::r=>if g=f then (g,v)::r else (g,x)::lK f v r
section
variable {K:yav} {H:Hp}
theorem hJ {f:Str} {w:W}:∀{fs:List (Str×W)} {fs':List (Str×V)},fs'.map (·.1)=fs.map (·.1)->aK K H (fs.map (·.2)) (fs'.map (·.2))->fs.lookup f=some w->∃v,fs'.lookup f=some v/\cf K H w v
 | [],_,_,_,e=>by cases e
 | (g,x)::r,[],n,_,_=>by cases n
 | (g,x)::r,(g',x')::r',n,rs,e=>by
   rw[map_cons,map_cons,List.cons.injEq] at n;obtain⟨n1,n2⟩:=n;have n1:g'=g:=n1;subst n1;cases rs with
   | cons r1 r2=>
     rw[lookup_cons] at e ⊢;cases h:f==g' with
     | true=>rw[h] at e;cases e;exact⟨x',rfl,r1⟩
     | false=>rw[h] at e;exact hJ n2 r2 e
theorem fu {f:Str}:∀{fs:List (Str×W)} {fs':List (Str×V)},fs'.map (·.1)=fs.map (·.1)->fs.lookup f=none->fs'.lookup f=none
 | [],[],_,_=>rfl
 | [],_::_,n,_=>by cases n
 | _::_,[],n,_=>by cases n
 | (g,x)::r,(g',x')::r',n,e=>by
   rw[map_cons,map_cons,List.cons.injEq] at n;obtain⟨n1,n2⟩:=n;have n1:g'=g:=n1;subst n1;rw[lookup_cons] at e ⊢;cases h:f==g' with
   | true=>rw[h] at e;cases e
   | false=>rw[h] at e;exact fu n2 e
theorem lL {f:Str} {w:W} {v:V} (rv:cf K H w v):∀{fs:List (Str×W)} {fs':List (Str×V)},fs'.map (·.1)=fs.map (·.1)->aK K H (fs.map (·.2)) (fs'.map (·.2))->(dS f v fs').map (·.1)=(lK f w fs).map (·.1)/\aK K H ((lK f w fs).map (·.2)) ((dS f v fs').map (·.2))/\(lK f w fs).length<=fs.length+1
 | [],[],_,_=>⟨rfl,.cons rv .nil,ycx _⟩
 | [],_::_,n,_=>by cases n
 | _::_,[],n,_=>by cases n
 | (g,x)::r,(g',x')::r',n,rs=>by
   rw[map_cons,map_cons,List.cons.injEq] at n;obtain⟨n1,n2⟩:=n;have n1:g'=g:=n1;subst n1;cases rs with
   | cons r1 r2=>
     obtain⟨a1,a2,a3⟩:=lL (f:=f) rv n2 r2;unfold dS lK
     by_cases h:g'=f
     ·rw[ycv h,ycv h];refine⟨?_,.cons rv r2,by simp⟩;rw[map_cons,map_cons,n2]
     ·rw[ycw h,ycw h];refine⟨?_,.cons r1 a2,by simp;assumption⟩;rw[map_cons,map_cons,a1]
end
section
variable {X:Cx}
noncomputable def Af (K:yav) (to:WE) (f:Str):WE:=λτ G q=>to τ G λx G1=>∃a C fs v,x=.ref a/\G1 a=some (.ins C fs)/\(lc K C/\cK K C f)/\fs.lookup f=some v/\q v G1
theorem cS {o:Expr} {to:WE} {f:Str} (ho:QE X o to) (hb:attributeBase o f X.env (eval o X.env)=eval o X.env:=by rfl):QE X (.Attribute o f pos) (Af X.K to f):=
 (xo ho hb).imp λσ H Q z0=>z0.el λτ G q hs hg ht hQ=>⟨τ,G,_,hs,hg,ht,λv H1 w G1 t1 r1 g1 q1=>by
   obtain⟨a,C,fs,v',rfl,hG,hc,hl,q1⟩:=q1;cases r1;obtain⟨_,dx,fs',hH,hn,hr⟩:=g1 a _ hG;obtain⟨v2,hv2,rv2⟩:=hJ hn hr hl;exact⟨a,C,dx,fs',v2,rfl,hH,hc.1,hc.2,hv2,hQ v2 H1 v' G1 t1 rv2 g1 q1⟩⟩
noncomputable def ww (K:yav) (to te:WE) (f:Str):WS:=λd τ G=>te τ G λy G1=>to τ G1 λx G2=>∃a C fs,x=.ref a/\G2 a=some (.ins C fs)/\(lc K C/\cK K C f)/\fs.length<100/\d.nx τ (aV G2 a (.ins C (lK f y fs)))
theorem iQ {o e:Expr} {to te:WE} {f:Str} {pos pos':Pos} (ho:QE X o to) (he:QE X e te) (hs:swapsWith e (some (.Attribute o f pos')) pos.line X.env=pure false:=by rfl):QS X (.Assign [.Attribute o f pos'] e pos) (ww X.K to te f):=
 (xp ho he hs).imp λD σ H z0=>z0.el λτ G d rs rg ht l=>⟨τ,G,_,rs,rg,ht,λy H1 w G1 t1 r1 g1 q1=>⟨τ,G1,_,rs.mono t1,g1,q1,λv H2 w2 G2 t2 r2 g2 q2=>by
   obtain⟨a,C,fs,rfl,hG,hc,hlen,q2⟩:=q2;cases r2;obtain⟨_,dx,fs',hH,hn,hr⟩:=g2 a _ hG;obtain⟨a1,a2,a3⟩:=lL (f:=f) (r1.mono t2) hn hr;have tl:=aQ.ins hH (.ins C dx (dS f y fs'));have hlen':fs'.length=fs.length:=by simpa using congrArg List.length hn
   refine⟨a,C,dx,fs',rfl,hH,hc.1,hc.2,by (clear a3;lia),l.nx σ _ τ _ ((t1.trans t2).trans tl) (((rs.mono t1).mono t2).mono tl) (g2.lay (g:= .ins C (lK f w fs)) tl ⟨by lia,dx,_,bw,a1,a2.mono tl⟩) q2⟩⟩⟩
noncomputable def oC (C:Addr) (sp:bM) (dws:List W) (t:WA):WE:=λτ G q=>t τ G λws G1=>∀p,G1 p=none->sp (.ref p::(ws++dws)) (aV G1 p (.ins C [])) (λv G2=>v=.non/\q (.ref p) G2) λ_ _=>False
theorem gE.make {C:Addr} {sp:bM} {dws:List W} {dvs:List V} {t:WA} {σ:St} {H:Hp} {Q:VK} {E:XK} (hd:∀H,aK K H dws dvs) (h:gE K (oC C sp dws t) σ H Q):wd C (ur K sp) dvs E (LA K t) σ H Q:=by
 obtain⟨τ,G,q,hs,hg,ht,hQ⟩:=h;refine⟨τ,G,_,hs,hg,ht,λvs H1 ws G1 t1 r1 g1 q1 x dx hx hdx hne=>?_⟩;have hdx':upd H1 dx (.own x) x=none:=by rw[aT (Ne.symm hne)];exact hx
 have tl:=(aQ.new hdx (.own x)).trans (aQ.new hdx' (.ins C dx []));have g2:aI K (upd (upd H1 dx (.own x)) x (.ins C dx [])) (aV G1 x (.ins C [])):=(g1.keep hdx (.own x)).lay (aQ.new hdx' _) ⟨by simp,dx,[],bw,rfl,.nil⟩;exact⟨.ref x::(ws++dws),_,_,_,.cons (.ref x) ((r1.mono tl).append (hd _)),g2,q1 x (g1.fresh hx),λv H2 w G2 t2 r2 g2 q2=>by
  obtain⟨e,q2⟩:=q2;subst e;cases r2;exact⟨rfl,hQ _ H2 _ G2 ((t1.trans tl).trans t2) (.ref x) g2 q2⟩,λ_ _ _ _ _ _ z=>z.elim⟩
theorem uJ {C f:Addr} {sp:bM} {p pos:Pos} {t:WA} (M:Mk X.K C f) (F:cq X.prog X.w X.K X.mg X.base k f fd ps sp) (hr:av (k+1) X.A) (hg:Gl X x) (hm:X.mg x=some (.ref C)) (hb:bJ X.K fd ps [])
 (ha:QA X (e::es) t) (hdb:(x==("__debug__":Str))=false:=by decide) (he:starEach (e::es) X.env=(false,eval e X.env)::starEach es X.env:=by rfl) (hpl:(backTo pos (starEach es X.env)).any (·.1)=false:=by rfl):
 QE X (.Call (.Name x p) (e::es) [] pos) (oC C sp [] t):=
 (ug (dvs:=[]) M F hr hg hm hb .nil (js (X:=X)) ha hdb he hpl).imp λ_ _ _ h=>gE.make (λ_=> .nil) h
noncomputable def oE (C:Addr) (m:Str) (sp:bM) (dws:List W) (to:WE) (t:WA):WE:=λτ G q=>to τ G λx G1=>∃a fs,x=.ref a/\G1 a=some (.ins C fs)/\fs.lookup m=none/\t τ G1 λws G2=>sp (x::(ws++dws)) G2 q λ_ _=>False
theorem gE.meth {C:Addr} {m:Str} {sp:bM} {dws:List W} {dvs:List V} {to:WE} {t:WA} {σ:St} {H:Hp} {Q:VK} {E:XK} (hd:∀H,aK K H dws dvs) (h:gE K (oE C m sp dws to t) σ H Q):qP C m (ur K sp) dvs E (gE K to) (LA K t) σ H Q:=by
 obtain⟨τ,G,q,hs,hg,ht,hQ⟩:=h;refine⟨τ,G,_,hs,hg,ht,λx H1 w G1 t1 r1 g1 q1=>?_⟩;obtain⟨a,fs,rfl,hG,hl,q1⟩:=q1;cases r1;obtain⟨_,dx,fs',hH,hn,_⟩:=g1 a _ hG;refine⟨a,dx,fs',rfl,hH,fu hn hl,τ,G1,_,hs.mono t1,g1,q1,λvs H2 ws G2 t2 r2 g2 q2=>?_⟩;exact⟨.ref a::(ws++dws),G2,q,_,.cons (.ref a) (r2.append (hd _)),g2,q2,λv H3 w3 G3 t3=>hQ v H3 w3 G3 ((t1.trans t2).trans t3),λ_ _ _ _ _ _ z=>z.elim⟩
structure Mt (P:Program) (w:World) (K:yav) (mg:yew) (base:Heap) (C:Addr) (m:Str) (ps:List Str) (k:Nat) (sp:bM) (dws:List W):Prop where
 ex:∃(f:Addr) (fd:FuncData) (ds:yez) (dvs:List V),pK K C m f/\cq P w K mg base k f fd ps sp/\bJ K fd ps ds/\aS dvs ds/\∀H,aK K H dws dvs
 cl:lc K C
theorem gm {C:Addr} {m:Str} {sp:bM} {dws:List W} {o e:Expr} {to:WE} {t:WA} {apos pos:Pos} {pl:Sem Bool} (ho:QE X o to) (M:Mt X.prog X.w X.K X.mg X.base C m ps k sp dws) (hr:av k X.A) (ha:QA X (e::es) t)
 (hst:starEach (e::es) X.env=(false,eval e X.env)::starEach es X.env:=by rfl) (hpl:(backTo pos (starEach es X.env)).any (·.1)=false:=by rfl)
 (ht:eval (.Call (.Attribute o m apos) (e::es) [] pos) X.env=(do
   let ov ←eval o X.env
   standAt apos.atName
   let (f,first) ←holding [ov] (getMethod ov m pl)
   callWith pos f first (backTo pos (starEach (e::es) X.env)) (backToKw pos (keywordEach [] X.env))):=by rfl):QE X (.Call (.Attribute o m apos) (e::es) [] pos) (oE C m sp dws to t):=by
 obtain⟨⟨f,fd,ds,dvs,hm,F,hb,hd,hrep⟩,c⟩:=M;exact(oa (pl:=pl) ho c hm F hr hb hd (js (X:=X)) ha hst hpl ht).imp λ_ _ _ h=>gE.meth hrep h
theorem e9 {C:Addr} {m:Str} {sp:bM} {dws:List W} {o:Expr} {to:WE} {apos pos:Pos} {pl:Sem Bool} (ho:QE X o to) (M:Mt X.prog X.w X.K X.mg X.base C m ps k sp dws) (hr:av k X.A)
 (ht:eval (.Call (.Attribute o m apos) [] [] pos) X.env=(do
   let ov ←eval o X.env
   standAt apos.atName
   let (f,first) ←holding [ov] (getMethod ov m pl)
   callWith pos f first (backTo pos (starEach [] X.env)) (backToKw pos (keywordEach [] X.env))):=by rfl):QE X (.Call (.Attribute o m apos) [] [] pos) (oE C m sp dws to rl):=by
 obtain⟨⟨f,fd,ds,dvs,hm,F,hb,hd,hrep⟩,c⟩:=M;refine(qR (pl:=pl) ho c hm F hr hb hd (js (X:=X)) ht).imp λσ H Q z0=>z0.el λτ G q hs hg ht hQ=>?_;refine⟨τ,G,_,hs,hg,ht,λx H1 w G1 t1 r1 g1 q1=>?_⟩;obtain⟨a,fs,rfl,hG,hl,q1⟩:=q1;cases r1;obtain⟨_,dx,fs',hH,hn,_⟩:=g1 a _ hG;exact⟨a,dx,fs',rfl,hH,fu hn hl,.ref a::([]++dws),G1,q,_,.cons (.ref a) (hrep _),g1,q1,λv H3 w3 G3 t3=>hQ v H3 w3 G3 (t1.trans t3),λ_ _ _ _ _ _ z=>z.elim⟩
noncomputable def x4 (to:WE):WE:=λτ G q=>to τ G λx G1=>match x with
 | .ref a=>∃ys y,G1 a=some (.lst (ys++[y]))/\q y (aV G1 a (.lst ys))
 | _=>False
theorem aK.snoc {K:yav} {H:Hp}:∀{ys:List W} {y:W} {xs:List V},aK K H (ys++[y]) xs->∃v,xs[xs.length-1]?=some v/\cf K H y v/\aK K H ys xs.dropLast
 | [],y,xs,r=>by
   obtain⟨v,rfl,rv⟩:=r.one;exact⟨v,rfl,rv,.nil⟩
 | w::ys,y,_,.cons (v:=v) (vs:=vs) r rs=>by
   obtain⟨u,h1,h2,h3⟩:=aK.snoc rs;have hl:=rs.length;cases vs with
   | nil=>simp at hl
   | cons v2 vs2=>
     refine⟨u,?_,h2,?_⟩
     ·simpa using h1
     ·rw[List.dropLast_cons₂];exact .cons r h3
theorem nD {o:Expr} {to:WE} {apos cpos:Pos} (ho:QE X o to)
 (hbase:attributeBase o "pop" X.env (eval o X.env)=eval o X.env:=by rfl) (hline:(apos.endLine==cpos.line)=true:=by rfl):QE X (.Call (.Attribute o "pop" apos) [] [] cpos) (x4 to):=
 (xy PySem.F.plainAttrs_list PySem.F.slot_list_pop PySem.F.type_list_pop xz ho hbase hline).imp λσ H Q z0=>z0.el λτ G q hs hg ht hQ=>
   ⟨τ,G,_,hs,hg,ht,λv H1 w G1 t1 r1 g1 q1=>by
     split at q1
     ·rename_i a;cases r1;obtain⟨ys,y,e1,q1⟩:=q1;obtain⟨hl,xs',h1,rr⟩:=g1 a _ e1;obtain⟨u,hu,ru,rd⟩:=rr.snoc;refine⟨.inl ⟨rfl,xs',dy.of h1⟩,a,xs',u,rfl,rfl,h1,hu,?_⟩;have tl:=aQ.lst h1 (.lst xs'.dropLast);exact hQ _ _ _ _ (t1.trans tl) (ru.mono tl) (g1.put tl rd (by simp at hl;lia)) q1
     ·exact q1.elim⟩
noncomputable def Co:Stmt->List Stmt
 | .ClassDef _ _ _ b _ _ _ _ _ _ _=>b
 | _=>[]
noncomputable def Md (K:yav) (C:Addr) (m qual:Str) (st:Stmt) (ps:List Str):Prop:=∃(f:Addr) (fd:FuncData),pK K C m f/\cJ K m qual st f fd/\bJ K fd ps []
noncomputable def Bx (K:yav) (C:Addr) (qual:Str) (st:Stmt) (ps:List Str):Prop:=∃(f:Addr) (fd:FuncData),Mk K C f/\cJ K "__init__" qual st f fd/\bJ K fd ps []
section
variable {P:Program} {w:World} {K:yav} {mg:yew} {base:Heap} {C:Addr} {m qual:Str} {st:Stmt} {ps:List Str} {k:Nat} {sp:bM} {dws:List W}
theorem Md.mt (D:Md K C m qual st ps) (c:lc K C) (h:∀(f:Addr) (fd:FuncData),cJ K m qual st f fd->cq P w K mg base k f fd ps sp):Mt P w K mg base C m ps k sp []:=by
 obtain⟨f,fd,hm,F,b⟩:=D;exact⟨⟨f,fd,[],[],hm,h f fd F,b,.nil,λ_=> .nil⟩,c⟩
noncomputable def Cp (P:Program) (w:World) (K:yav) (mg:yew) (base:Heap) (x:Str) (C:Addr) (ps:List Str) (k:Nat) (sp:bM):Prop:=∃(f:Addr) (fd:FuncData),Mk K C f/\cq P w K mg base k f fd ps sp/\mg x=some (.ref C)/\bJ K fd ps []
theorem Bx.new (D:Bx K C qual st ps) (hm:mg x=some (.ref C)) (h:∀(f:Addr) (fd:FuncData),cJ K "__init__" qual st f fd->cq P w K mg base k f fd ps sp):Cp P w K mg base x C ps k sp:=by
 obtain⟨f,fd,M,F,b⟩:=D;exact⟨f,fd,M,h f fd F,hm,b⟩
end
theorem x5 {C:Addr} {sp:bM} {p pos:Pos} {t:WA} (M:Cp X.prog X.w X.K X.mg X.base x C ps k sp) (hr:av (k+1) X.A) (hg:Gl X x)
 (ha:QA X (e::es) t) (hdb:(x==("__debug__":Str))=false:=by decide) (he:starEach (e::es) X.env=(false,eval e X.env)::starEach es X.env:=by rfl) (hpl:(backTo pos (starEach es X.env)).any (·.1)=false:=by rfl):
 QE X (.Call (.Name x p) (e::es) [] pos) (oC C sp [] t):=by
 obtain⟨f,fd,M,F,hm,b⟩:=M;exact uJ M F hr hg hm b ha hdb he hpl
theorem Fx.alias {x y:Str} {sp:bM} (F:Fx P w K mg base x ps k sp) (h:mg y=mg x):Fx P w K mg base y ps k sp:=by
 obtain⟨f,fd,h1,h2,h3,h4⟩:=F;exact⟨f,fd,h1,h.trans h2,h3,h4⟩
theorem du {α:Type} {p:List α->Prop} (h:p []) (us:List α) (e:us.length=0):p us:=by
 rw[List.eq_nil_of_length_eq_zero e];exact h
theorem cg {α:Type} {n:Nat} {p:List α->Prop} (h:∀a,∀us:List α,us.length=n->p (a::us)) (us:List α) (e:us.length=n+1):p us:=by
 cases us with
 | nil=>exact absurd e (Nat.succ_ne_zero n).symm
 | cons a us=>exact h a us (Nat.succ.inj e)
end
structure oF (P:Program) (w:World) (K:yav) (mg:yew) (base:Heap) (C:Addr) (m:Str) (ps:List Str) (k:Nat) (sp:bM) (dws:List W):Prop where
 ex:∃(f:Addr) (fd:FuncData) (ds:yez) (dvs:List V),pK K C m f/\ko P w K mg base k f fd ps sp/\bJ K fd ps ds/\aS dvs ds/\∀H,aK K H dws dvs
 cl:lc K C
section
variable {X:Cx} {x:Str} {p pos:Pos}
theorem uK {D:Addr} {y:Str} {p:Pos} (hg:Gl X y) (hm:X.mg y=some (.ref D)) (hd:(y==("__debug__":Str))=false:=by decide):QE X (.Name y p) (wC (.ref D)):=dW (v:= .ref D) (n8 (v:= .ref D) hg hm rfl hd) λ_=> .ref D
end
section
variable {X:Cx} {p pos:Pos}
noncomputable def x6:List W->Gp->WK->Prop:=λws G q=>match ws with
 | [.ref a]=>∃bs:List Bool,G a=some (.lst (bs.map W.bl))/\q (.bl (bs.all id)) G
 | _=>False
theorem wz (hc:X.calm=true):dX X (.builtin "all") x6:=by
 rintro π s σ H xs us Q I r ⟨ws,G,q,rw',g,h,hQ⟩;unfold x6 at h;split at h
 ·rename_i a;obtain⟨bs,e,h⟩:=h;obtain⟨v,rfl,r1⟩:=rw'.one;cases r1;obtain⟨_,zs,e1,rr⟩:=g a _ e;obtain rfl:=rr.bools_of;obtain⟨u,rfl,ru⟩:=eQ r;cases (show u=Value.ref a from ru);obtain⟨its,rv,p,hz⟩:=I.list (dy.of e1);have hb:=lJ rv;have hl:s.heap.IsList a its.toArray:=p.isList;have hlt:a<s.heap.objs.size:=by obtain⟨_,e,_⟩:=hl;exact ybv e
  refine call_all_walk (wpAny_pyIter_list hl ?_);refine⟨s.heap.objs.size,[s.heap.objs.size,a],[s.heap.objs.size],its.toArray.size,_,_,λi=>(bs[i]?).getD true,rfl,Walks.list (A:=X.A.in1) (I.ok.hd hc) _ a (ne_of_lt hlt) its.toArray,
   ⟨⟨_,ybw _ rfl,rfl,rfl⟩,hl.push _⟩,λi v s' Q' E' hP hQ=>?_,λh' tk hk=>?_⟩
  ·obtain⟨b,e,rfl⟩:=hb.get i v (by simpa using hP);simp only[e,Option.getD_some] at hQ;exact wpAny_truthy_bool hQ
  ·have e:((List.range its.toArray.size).all λi=>(bs[i]?).getD true)=bs.all id:=by
    rw[size_toArray,hb.length];exact LSm.range_all bs
   rw[e];exact⟨.bl _,H,I.kept (LSm.kept_iter hk),rfl,hQ _ H _ G (aQ.refl H) (.bl _) g h⟩
 ·exact h.elim
end
section
variable {X:Cx}
end
section
variable {P:Program} {w:World} {K:yav} {mg:yew} {base:Heap} {N:List Str} {qual:Str} {scope:Scope} {f:Addr} {cdv:Value} {A:Around} {outer:List Env} {s:Shared} {H:Hp} {E:XK}
noncomputable def eF (C:Addr) (m:Str) (sp:bM) (dws:List W) (to:WE) (t:WA) (e:WX):WE:=λτ G q=>to τ G λx G1=>∃a fs,x=.ref a/\G1 a=some (.ins C fs)/\fs.lookup m=none/\t τ G1 λws G2=>sp (x::(ws++dws)) G2 q e
theorem cX {C:Addr} {m:Str} {sp:bM} {dws:List W} {o e0:Expr} {to:WE} {t:WA} {apos pos:Pos} {pl:Sem Bool} {e:WX} (ho:QE (cV (lg P w) P w K mg base N qual scope f cdv A outer s H E) o to) (M:oF P w K mg base C m ps k sp dws) (hr:av k (A.deeper (envOfC qual scope s.heap.objs.size f cdv)))
 (hE:∀c H1 G1,aQ H H1->aI K H1 G1->e c G1->E c none H1) (ha:QA (cV (lg P w) P w K mg base N qual scope f cdv A outer s H E) (e0::es) t)
 (hst:starEach (e0::es) (envOfC qual scope s.heap.objs.size f cdv)=(false,eval e0 (envOfC qual scope s.heap.objs.size f cdv))::starEach es (envOfC qual scope s.heap.objs.size f cdv):=by rfl) (hpl:(backTo pos (starEach es (envOfC qual scope s.heap.objs.size f cdv))).any (·.1)=false:=by rfl)
 (ht:eval (.Call (.Attribute o m apos) (e0::es) [] pos) (envOfC qual scope s.heap.objs.size f cdv)=(do
   let ov ←eval o (envOfC qual scope s.heap.objs.size f cdv)
   standAt apos.atName
   let (fn,first) ←holding [ov] (getMethod ov m pl)
   callWith pos fn first (backTo pos (starEach (e0::es) (envOfC qual scope s.heap.objs.size f cdv))) (backToKw pos (keywordEach [] (envOfC qual scope s.heap.objs.size f cdv)))):=by rfl):QE (cV (lg P w) P w K mg base N qual scope f cdv A outer s H E) (.Call (.Attribute o m apos) (e0::es) [] pos) (eF C m sp dws to t e):=by
 obtain⟨⟨f1,fd,ds,dvs,hm,F,hb,hd,hrep⟩,c⟩:=M;refine(oa (X:=cV (lg P w) P w K mg base N qual scope f cdv A outer s H E) (E:=λc _ H1=>∃G1,aI K H1 G1/\e c G1) (pl:=pl) ho c hm F hr hb hd (oA λC H1 t1 z=>?_) ha hst hpl ht).imp λσ H2 Q h=>?_
 ·obtain⟨G1,g1,z1⟩:=z;exact hE _ H1 G1 t1 g1 z1
 ·obtain⟨τ,G,q,hs,hg,ht,hQ⟩:=h;refine⟨τ,G,_,hs,hg,ht,λx H1 w G1 t1 r1 g1 q1=>?_⟩;obtain⟨a,fs,rfl,hG,hl,q1⟩:=q1;cases r1;obtain⟨_,dx,fs',hH,hn,_⟩:=g1 a _ hG;refine⟨a,dx,fs',rfl,hH,fu hn hl,τ,G1,_,hs.mono t1,g1,q1,λvs H2 ws G2 t2 r2 g2 q2=>?_⟩;exact⟨.ref a::(ws++dws),G2,q,e,.cons (.ref a) (r2.append (hrep _)),g2,q2,λv H3 w3 G3 t3=>hQ v H3 w3 G3 ((t1.trans t2).trans t3),λc d H3 G3 _ g3 z=>⟨G3,g3,z⟩⟩
end
section
variable {X:Cx} {π:List (Addr×Obj)} {σ:St} {H:Hp} {s:Shared} {h':Heap} {ch:List Addr}
end
structure ZL (z p r i j a b:Addr) (n:Nat) (f:Value) (h:Heap):Prop where
 hz:IsZip h z p r f
 hp:IsPair h p (.ref i) (.ref j)
 hr:∃x y,IsPair h r x y
 hi:h.IsListIter i a n
 hj:h.IsListIter j b n
section
variable {P:Program} {w:World} {K:yav}
end
section
variable {X:Cx}
end
end L2
namespace Nm
inductive O where
 | z
 | c (e:O) (n:Int) (r:O)
 deriving DecidableEq
namespace O
noncomputable def cmp:O->O->Int
 | z,z=>0
 | z,c _ _ _=> -1
 | c _ _ _,z=>1
 | c e n r,c e' n' r'=>
   if cmp e e'≠0 then cmp e e' else if n<n' then -1 else if n'<n then 1 else cmp r r'
noncomputable def size:O->Nat
 | z=>0
 | c e _ r=>1+size e+size r
noncomputable def dp:O->Nat
 | z=>0
 | c e _ r=>max (dp e+1) (dp r)
noncomputable def len:O->Nat
 | z=>0
 | c _ _ r=>len r+1
noncomputable def app:O->O->O
 | z,b=>b
 | c e n r,b=>c e n (app r b)
noncomputable def filt (p:O->Int->Bool):O->O
 | z=>z
 | c e n r=>if p e n then c e n (filt p r) else filt p r
noncomputable def same (x:O):O->Int
 | z=>0
 | c e n r=>if e=x then n+same x r else same x r
noncomputable def withO (a e:O) (n:Int):O:=app (filt (λx _=>decide (0<cmp x e)) a) (c e (same e a+n) (filt (λx _=>decide (cmp x e<0)) a))
noncomputable def init:O->O
 | z=>z
 | c _ _ z=>z
 | c e n r=>c e n (init r)
noncomputable def last:O->O
 | z=>z
 | c e n z=>c e n z
 | c _ _ r=>last r
theorem cmp_self:∀a:O,cmp a a=0
 | z=>rfl
 | c e n r=>by simp[cmp,cmp_self e,cmp_self r]
theorem cmp_eq:∀a b:O,cmp a b=0->a=b
 | z,z,_=>rfl
 | z,c _ _ _,h=>by simp[cmp] at h
 | c _ _ _,z,h=>by simp[cmp] at h
 | c e n r,c e' n' r',h=>by
   unfold cmp at h
   by_cases he:cmp e e'=0
   ·rw[ycw (by simpa using he)] at h
    by_cases h1:n<n'
    ·rw[ycv h1] at h;(clear he h1;lia)
    ·rw[ycw h1] at h
     by_cases h2:n'<n
     ·rw[ycv h2] at h;(clear he h1 h2;lia)
     ·rw[ycw h2] at h;have:=cmp_eq e e' he;have:=cmp_eq r r' h;have:n=n':=by (clear h he;lia)
      subst_vars
      rfl
   ·rw[ycv he] at h;exact absurd h he
theorem cmp_range:∀a b:O,cmp a b= -1∨cmp a b=0∨cmp a b=1
 | z,z=>by simp[cmp]
 | z,c _ _ _=>by simp[cmp]
 | c _ _ _,z=>by simp[cmp]
 | c e n r,c e' n' r'=>by
   have h1:=cmp_range e e';have h2:=cmp_range r r';unfold cmp;split
   ·exact h1
   ·split
    ·exact .inl rfl
    ·split
     ·exact .inr (.inr rfl)
     ·exact h2
theorem aY:∀a b:O,cmp b a= -cmp a b
 | z,z=>rfl
 | z,c _ _ _=>rfl
 | c _ _ _,z=>rfl
 | c e n r,c e' n' r'=>by
   have h1:=aY e e';have h2:=aY r r';unfold cmp;rw[h1,h2]
   by_cases he:cmp e e'=0
   ·rcases Int.lt_trichotomy n n' with k | k | k
    ·have k':¬n'<n:=by (clear h1 h2 he;lia)
     simp[he,k,k']
    ·subst k;simp[he]
    ·have k':¬n<n':=by (clear h1 h2 he;lia)
     simp[he,k,k']
   ·have he':¬-cmp e e'=0:=by (clear h1 h2;lia)
    simp[he,he']
theorem bS:∀a b d:O,cmp a b<0->cmp b d<0->cmp a d<0
 | z,z,_,h,_=>by simp[cmp] at h
 | z,c _ _ _,z,_,h=>by simp[cmp] at h
 | z,c _ _ _,c _ _ _,_,_=>by simp[cmp]
 | c _ _ _,z,_,h,_=>by simp[cmp] at h
 | c _ _ _,c _ _ _,z,_,h=>by simp[cmp] at h
 | c e n r,c e' n' r',c f m t,h1,h2=>by
   have ih1:=bS e e' f;have ih2:=bS r r' t;have r1:=cmp_range e e';have r2:=cmp_range e' f;unfold cmp at h1 h2 ⊢
   by_cases k1:cmp e e'=0
   ·have e1:=cmp_eq e e' k1;subst e1;rw[ycw (by (clear r1 r2 h1 h2;lia))] at h1
    by_cases k2:cmp e f=0
    ·rw[ycw (by (clear r1 r2 h1 h2 k1;lia))] at h2 ⊢
     by_cases a1:n<n'
     ·by_cases a2:n'<m
      ·rw[ycv (by (clear r1 r2 h1 h2 k1 k2;lia))];(clear r1 r2 h1 h2 k1 k2 a1 a2;lia)
      ·rw[ycw a2] at h2
       by_cases a3:m<n'
       ·rw[ycv a3] at h2;(clear r1 r2 h1 k1 k2 a1 a2 a3;lia)
       ·rw[ycv (by (clear r1 r2 h1 h2 k1 k2;lia))];(clear r1 r2 h1 h2 k1 k2 a1 a2 a3;lia)
     ·rw[ycw a1] at h1
      by_cases a2:n'<n
      ·rw[ycv a2] at h1;(clear r1 r2 h2 k1 k2 a1 a2;lia)
      ·rw[ycw a2] at h1
       by_cases a3:n'<m
       ·rw[ycv (by (clear r1 r2 h1 h2 k1 k2;lia))];(clear r1 r2 h1 h2 k1 k2 a1 a2 a3;lia)
       ·rw[ycw a3] at h2
        by_cases a4:m<n'
        ·rw[ycv a4] at h2;(clear r1 r2 h1 k1 k2 a1 a2 a3 a4;lia)
        ·rw[ycw a4] at h2;rw[ycw (by (clear r1 r2 h1 h2 k1 k2;lia)),ycw (by (clear r1 r2 h1 h2 k1 k2;lia))];exact ih2 h1 h2
    ·rw[ycv k2] at h2 ⊢;exact h2
   ·rw[ycv k1] at h1
    by_cases k2:cmp e' f=0
    ·have e2:=cmp_eq e' f k2;subst e2;rw[ycv k1];exact h1
    ·rw[ycv k2] at h2;have:=ih1 h1 h2;rw[ycv (by (clear r1 r2 h1 h2 k1 k2;lia))];exact this
theorem dp_le_size:∀a:O,dp a<=size a
 | z=>ycx _
 | c e n r=>by
   have:=dp_le_size e;have:=dp_le_size r;simp only[dp,size];lia
theorem len_le_size:∀a:O,len a<=size a
 | z=>ycx _
 | c e n r=>by
   have:=len_le_size r;simp only[len,size];lia
theorem cY:∀a b:O,size (app a b)=size a+size b
 | z,b=>by simp[app,size]
 | c e n r,b=>by simp[app,size,cY r b];lia
theorem fy (p:O->Int->Bool):∀a:O,size (filt p a)<=size a
 | z=>ycx _
 | c e n r=>by
   have:=fy p r;unfold filt;split<;> simp only[size]<;> lia
theorem size_init:∀a:O,size (init a)<=size a
 | z=>ycx _
 | c _ _ z=>by simp[init,size]
 | c e n (c e' n' r')=>by
   have h:=size_init (c e' n' r');have e0:init (c e n (c e' n' r'))=c e n (init (c e' n' r')):=by simp[init]
   rw[e0];simp only[size] at h ⊢;lia
theorem size_last:∀a:O,size (last a)<=size a
 | z=>ycx _
 | c _ _ z=>by simp[last]
 | c e n (c e' n' r')=>by
   have h:=size_last (c e' n' r');have e0:last (c e n (c e' n' r'))=last (c e' n' r'):=by simp[last]
   rw[e0];simp only[size] at h ⊢;lia
noncomputable def Lt (e:O):O->Prop
 | z=>True
 | c x _ r=>cmp x e<0/\Lt e r
noncomputable def NF:O->Prop
 | z=>True
 | c e n r=>NF e/\1<=n/\Lt e r/\NF r
theorem Lt.app {e:O}:∀{a b:O},Lt e a->Lt e b->Lt e (app a b)
 | z,_,_,h=>h
 | c _ _ _,_,h1,h2=>⟨h1.1,Lt.app h1.2 h2⟩
theorem Lt.filt {e:O} (p:O->Int->Bool):∀{a:O},Lt e a->Lt e (O.filt p a)
 | z,_=>trivial
 | c _ _ _,h=>by
   unfold O.filt;split
   ·exact⟨h.1,Lt.filt p h.2⟩
   ·exact Lt.filt p h.2
theorem Lt.of_filt {e x:O} (hx:0<cmp x e):∀{a:O},Lt x (O.filt (λy _=>decide (cmp y e<0)) a)
 | z=>trivial
 | c y n r=>by
   unfold O.filt;split
   ·rename_i h;have h':cmp y e<0:=by simpa using h
    have hs:=aY x e;exact⟨bS y e x h' (by (clear h h';lia)),Lt.of_filt hx⟩
   ·exact Lt.of_filt hx
theorem Lt.below (e:O):∀{a:O},Lt e (O.filt (λy _=>decide (cmp y e<0)) a)
 | z=>trivial
 | c y n r=>by
   unfold O.filt;split
   ·rename_i h;exact⟨by simpa using h,Lt.below e⟩
   ·exact Lt.below e
theorem NF.filt (p:O->Int->Bool):∀{a:O},NF a->NF (O.filt p a)
 | z,_=>trivial
 | c _ _ _,h=>by
   unfold O.filt;split
   ·exact⟨h.1,h.2.1,h.2.2.1.filt p,NF.filt p h.2.2.2⟩
   ·exact NF.filt p h.2.2.2
theorem same_nonneg (x:O):∀{a:O},NF a->0<=same x a
 | z,_=>by simp[same]
 | c e n r,h=>by
   have h1:=h.2.1;have h2:=same_nonneg x h.2.2.2;unfold same;split<;> lia
theorem NF.join {e:O} {n:Int} {b:O} (he:NF e) (hn:1<=n) (hb:NF b) (hl:Lt e b) (hx:∀x,0<cmp x e->Lt x b):∀{a:O},NF a->NF (O.app (O.filt (λx _=>decide (0<cmp x e)) a) (c e n b))
 | z,_=>⟨he,hn,hl,hb⟩
 | c x k r,h=>by
   unfold O.filt;split
   ·rename_i hp;have hp':0<cmp x e:=by simpa using hp
    have hs:=aY x e;exact⟨h.1,h.2.1,Lt.app (h.2.2.1.filt _) ⟨by (clear hn hp;lia),hx x hp'⟩,NF.join he hn hb hl hx h.2.2.2⟩
   ·exact NF.join he hn hb hl hx h.2.2.2
theorem NF.withO {a e:O} {n:Int} (ha:NF a) (he:NF e) (hn:1<=n):NF (O.withO a e n):=by
 have:=same_nonneg e ha;exact NF.join he (by lia) (ha.filt _) (Lt.below e) (λx hx=>Lt.of_filt hx) ha
theorem Lt.init {e:O}:∀{a:O},Lt e a->Lt e (O.init a)
 | z,_=>trivial
 | c _ _ z,_=>trivial
 | c x n (c x' n' r'),h=>by
   have e0:O.init (c x n (c x' n' r'))=c x n (O.init (c x' n' r')):=by simp[O.init]
   rw[e0];exact⟨h.1,Lt.init h.2⟩
theorem NF.init:∀{a:O},NF a->NF (O.init a)
 | z,_=>trivial
 | c _ _ z,_=>trivial
 | c x n (c x' n' r'),h=>by
   have e0:O.init (c x n (c x' n' r'))=c x n (O.init (c x' n' r')):=by simp[O.init]
   rw[e0];exact⟨h.1,h.2.1,h.2.2.1.init,NF.init h.2.2.2⟩
theorem NF.last:∀{a:O},NF a->NF (O.last a)
 | z,_=>trivial
 | c _ _ z,h=>⟨h.1,h.2.1,trivial,trivial⟩
 | c x n (c x' n' r'),h=>by
   have e0:O.last (c x n (c x' n' r'))=O.last (c x' n' r'):=by simp[O.last]
   rw[e0];exact NF.last h.2.2.2
end O
namespace O
theorem cE (a:O):¬cmp a a<0:=by rw[cmp_self];lia
theorem iR (x:O):same x z=0:=rfl
theorem same_eq (e:O) (n:Int) (r:O):same e (c e n r)=n+same e r:=by simp[same]
theorem same_ne {x e:O} (h:e≠x) (n:Int) (r:O):same x (c e n r)=same x r:=by simp[same,h]
theorem bR {e x:O} (hx:¬cmp x e<0):∀{r:O},Lt e r->same x r=0
 | z,_=>rfl
 | c y n t,h=>by
   have hy:y≠x:=λk=>hx (k▸h.1);rw[same_ne hy];exact bR hx h.2
theorem same_self {e:O} {n:Int} {r:O} (h:Lt e r):same e (c e n r)=n:=by
 rw[same_eq,bR (cE e) h];lia
theorem bb {x e:O} {n:Int} {r:O} (h:Lt e r) (hx:0<cmp x e):same x (c e n r)=0:=by
 have hne:e≠x:=λk=>by subst k;rw[cmp_self] at hx;lia
 rw[same_ne hne,bR (by lia) h]
theorem lM:∀{a b:O},NF a->NF b->(∀x,same x a=same x b)->a=b
 | z,z,_,_,_=>rfl
 | z,c e n r,_,hb,h=>by
   have:=h e;rw[same_self hb.2.2.1,iR] at this;have:=hb.2.1;lia
 | c e n r,z,ha,_,h=>by
   have:=h e;rw[same_self ha.2.2.1,iR] at this;have:=ha.2.1;lia
 | c e n r,c e' n' r',ha,hb,h=>by
   rcases cmp_range e e' with k | k | k
   ·have h1:=h e';rw[same_self hb.2.2.1,bb ha.2.2.1 (by have:=aY e e';(clear h1;lia))] at h1;have:=hb.2.1
    (clear k;lia)
   ·have k':=cmp_eq _ _ k;subst k';have h1:=h e;rw[same_self ha.2.2.1,same_self hb.2.2.1] at h1;subst h1;have hr:r=r':=lM ha.2.2.2 hb.2.2.2 λx=>by
     by_cases hx:e=x
     ·subst hx;rw[bR (cE e) ha.2.2.1,bR (cE e) hb.2.2.1]
     ·have:=h x;rw[same_ne hx,same_ne hx] at this;exact this
    rw[hr]
   ·have h1:=h e;rw[same_self ha.2.2.1,bb hb.2.2.1 (by (clear h1;lia))] at h1;have:=ha.2.1
    (clear k;lia)
theorem fe {x:O}:∀{a b:O},NF a->NF b->same x a<same x b->(∀y,0<cmp y x->same y a=same y b)->cmp a b<0
 | z,z,_,_,h,_=>by simp[same] at h
 | z,c _ _ _,_,_,_,_=>by simp[cmp]
 | c e n r,z,ha,_,h,_=>by
   have:=same_nonneg x ha;rw[iR] at h;lia
 | c e n r,c e' n' r',ha,hb,h,hy=>by
   rcases cmp_range e e' with k | k | k
   ·rw[cmp,ycv (by (clear h;lia))];(clear h;lia)
   ·have k':=cmp_eq _ _ k;subst k';rw[cmp,ycw (by (clear h;lia))];rcases cmp_range x e with q | q | q
    ·have hne:e≠x:=λz=>by subst z;rw[cmp_self] at q;(clear k h;lia)
     have h1:=hy e (by have:=aY x e;(clear h k;lia));rw[same_self ha.2.2.1,same_self hb.2.2.1] at h1;subst h1;rw[ycw (by (clear k q h;lia)),ycw (by (clear k q h;lia))];rw[same_ne hne,same_ne hne] at h;refine fe ha.2.2.2 hb.2.2.2 h λy hyx=>?_
     by_cases hye:e=y
     ·subst hye;rw[bR (cE e) ha.2.2.1,bR (cE e) hb.2.2.1]
     ·have:=hy y hyx;rw[same_ne hye,same_ne hye] at this;exact this
    ·have q':=cmp_eq _ _ q;subst q';rw[same_self ha.2.2.1,same_self hb.2.2.1] at h;rw[ycv h];(clear h k q;lia)
    ·rw[bb ha.2.2.1 (by (clear h k;lia)),bb hb.2.2.1 (by (clear h k;lia))] at h
     (clear k q;lia)
   ·have hn:=ha.2.1;rcases cmp_range e x with q | q | q
    ·have qx:0<cmp x e:=by have:=aY e x;(clear h k hn;lia)
     have qx':0<cmp x e':=by
      have:=bS e' e x (by have:=aY e e';(clear h hn q qx;lia)) (by (clear h k hn qx;lia));have:=aY e' x
      (clear h k hn q qx;lia)
     rw[bb ha.2.2.1 qx,bb hb.2.2.1 qx'] at h
     (clear k hn q qx qx';lia)
    ·have q':=cmp_eq _ _ q;subst q';rw[same_self ha.2.2.1,bb hb.2.2.1 (by (clear hn h q;lia))] at h
     (clear k q;lia)
    ·have h1:=hy e (by (clear h k hn;lia));rw[same_self ha.2.2.1,bb hb.2.2.1 (by (clear h hn q h1;lia))] at h1
     (clear h k q;lia)
theorem dL:∀{a b:O},NF a->NF b->cmp a b<0->∃x,same x a<same x b/\∀y,0<cmp y x->same y a=same y b
 | z,z,_,_,h=>by simp[cmp] at h
 | z,c e n r,_,hb,_=>by
   refine⟨e,?_,λy hy=>?_⟩
   ·rw[same_self hb.2.2.1,iR];have:=hb.2.1;assumption
   ·rw[bb hb.2.2.1 hy,iR]
 | c _ _ _,z,_,_,h=>by simp[cmp] at h
 | c e n r,c e' n' r',ha,hb,h=>by
   rcases cmp_range e e' with k | k | k
   ·refine⟨e',?_,λy hy=>?_⟩
    ·rw[same_self hb.2.2.1,bb ha.2.2.1 (by have:=aY e e';(clear h;lia))];have:=hb.2.1;assumption
    ·have hy2:0<cmp y e:=by
      have:=bS e e' y (by (clear h hy;lia)) (by have:=aY y e';(clear h k;lia));have:=aY e y
      (clear h k hy;lia)
     rw[bb hb.2.2.1 hy,bb ha.2.2.1 hy2]
   ·have k':=cmp_eq _ _ k;subst k';rw[cmp,ycw (by (clear h;lia))] at h
    by_cases h1:n<n'
    ·refine⟨e,?_,λy hy=>?_⟩
     ·rw[same_self ha.2.2.1,same_self hb.2.2.1];exact h1
     ·rw[bb hb.2.2.1 hy,bb ha.2.2.1 hy]
    ·rw[ycw h1] at h
     by_cases h2:n'<n
     ·rw[ycv h2] at h;(clear k h1 h2;lia)
     ·rw[ycw h2] at h;have hn:n=n':=by (clear h k;lia)
      subst hn;obtain⟨x,hx,hy⟩:=dL ha.2.2.2 hb.2.2.2 h;have hxe:cmp x e<0:=by
       refine Classical.byContradiction λq=>?_;rw[bR q ha.2.2.1,bR q hb.2.2.1] at hx
       (clear h k h1 h2 q;lia)
      have hne:e≠x:=λz=>by subst z;rw[cmp_self] at hxe;(clear h k h1 h2 hx;lia)
      refine⟨x,by rw[same_ne hne,same_ne hne];exact hx,λy hyx=>?_⟩
      by_cases hye:e=y
      ·subst hye;rw[same_self ha.2.2.1,same_self hb.2.2.1]
      ·rw[same_ne hye,same_ne hye];exact hy y hyx
   ·rw[cmp,ycv (by (clear h;lia))] at h;lia
theorem nE {a b:O} (ha:NF a) (hb:NF b) (h:∀x,same x a<=same x b):cmp a b<=0:=by
 rcases cmp_range a b with k | k | k
 ·lia
 ·lia
 ·have hs:=aY a b;obtain⟨x,hx,_⟩:=dL hb ha (by lia);have:=h x
  (clear k hs;lia)
noncomputable def plusO:O->O->O
 | a,z=>a
 | a,c e n r=>app (filt (λx _=>decide (0<cmp x e)) a) (c e (same e a+n) r)
theorem lN:∀(x a b:O),same x (app a b)=same x a+same x b
 | x,z,b=>by simp[app,same]
 | x,c e n r,b=>by
   have:=lN x r b;show same x (c e n (app r b))=_
   by_cases h:e=x
   ·subst h;rw[same_eq,same_eq,this];(clear this;lia)
   ·rw[same_ne h,same_ne h,this]
theorem jx (p:O->Bool):∀(x a:O),same x (filt (λy _=>p y) a)=if p x then same x a else 0
 | x,z=>by simp[filt,same]
 | x,c e n r=>by
   have ih:=jx p x r;unfold filt
   by_cases hp:p e=true
   ·rw[ycv hp]
    by_cases h:e=x
    ·subst h;rw[same_eq,same_eq,ih,ycv hp,ycv hp]
    ·rw[same_ne h,same_ne h,ih]
   ·rw[ycw hp,ih]
    by_cases h:e=x
    ·subst h;rw[ycw hp,ycw hp]
    ·rw[same_ne h]
theorem NF.join' {e:O} {n:Int} {b:O} (he:NF e) (hn:1<=n) (hb:NF b) (hl:Lt e b) {a:O} (ha:NF a):NF (O.app (O.filt (λx _=>decide (0<cmp x e)) a) (c e n b)):=by
 refine NF.join he hn hb hl (λx hx=>?_) ha;have:∀{b:O},Lt e b->Lt x b:=by
  intro b
  induction b with
  | z=>exact λ_=>trivial
  | c y m t _ ih=>exact λh=>⟨bS y e x h.1 (by have:=aY x e;(clear hn;lia)),ih h.2⟩
 exact this hl
theorem NF.plus {a b:O} (ha:NF a) (hb:NF b):NF (plusO a b):=by
 cases b with
 | z=>exact ha
 | c e n r=>
   have:=same_nonneg e ha;exact NF.join' hb.1 (by have:=hb.2.1;lia) hb.2.2.2 hb.2.2.1 ha
theorem gJ {a e:O} {n:Int} {r:O} (hr:Lt e r) (x:O):same x (plusO a (c e n r))=if 0<cmp x e then same x a else if cmp x e<0 then same x (c e n r) else same x a+same x (c e n r):=by
 show same x (app _ _)=_;rw[lN,jx (λy=>decide (0<cmp y e))]
 by_cases h1:0<cmp x e
 ·rw[ycv (by simpa using h1),ycv h1,bb hr h1];(clear h1;lia)
 ·rw[ycw (by simpa using h1),ycw h1]
  by_cases h2:cmp x e<0
  ·have hne:e≠x:=λz=>by subst z;rw[cmp_self] at h2;(clear h1;lia)
   rw[ycv h2,same_ne hne,same_ne hne];(clear h1 h2;lia)
  ·have:cmp x e=0:=by lia
   have h3:=cmp_eq _ _ this;subst h3;rw[ycw h2,same_self hr,same_self hr];(clear h1 h2 this;lia)
end O
namespace O
noncomputable def lh (b y:O):Prop:=∃w,cmp y w<0/\same w b≠0
theorem Ag (y:O):¬lh z y:=λ⟨_,_,h⟩=>h rfl
theorem wA {e:O} {n:Int} {r y:O} (hn:1<=n) (hr:Lt e r):lh (c e n r) y↔cmp y e<0:=by
 constructor
 ·rintro⟨w,hw,hs⟩;have:¬0<cmp w e:=λk=>hs (bb hr k);rcases cmp_range w e with k | k | k
  ·exact bS y w e hw (by (clear hn hw hs this;lia))
  ·rw[cmp_eq _ _ k] at hw;exact hw
  ·(clear hn hw hs;lia)
 ·intro h;exact⟨e,h,by rw[same_self hr];(clear h;lia)⟩
theorem bo {a b y:O} (hb:NF b) (h:lh b y):same y (plusO a b)=same y b:=by
 cases b with
 | z=>exact absurd h (Ag y)
 | c e n r=>
   have h':=(wA hb.2.1 hb.2.2.1).mp h;rw[gJ hb.2.2.1,ycw (by lia),ycv h']
theorem ba {a b y:O} (hb:NF b) (h:¬lh b y):same y (plusO a b)=same y b+same y a:=by
 cases b with
 | z=>show same y a=0+same y a;lia
 | c e n r=>
   have h':¬cmp y e<0:=λk=>h ((wA hb.2.1 hb.2.2.1).mpr k);rw[gJ hb.2.2.1]
   by_cases k:0<cmp y e
   ·rw[ycv k,bb hb.2.2.1 k];(clear h' k;lia)
   ·rw[ycw k,ycw h'];(clear h' k;lia)
theorem iS {b d y:O} (hb:NF b) (hd:NF d):lh (plusO b d) y↔lh b y∨lh d y:=by
 constructor
 ·rintro⟨w,hw,hs⟩
  by_cases k:lh d w
  ·rw[bo hd k] at hs;exact .inr ⟨w,hw,hs⟩
  ·rw[ba hd k] at hs
   by_cases q:same w d=0
   ·exact .inl ⟨w,hw,by (clear hw;lia)⟩
   ·exact .inr ⟨w,hw,q⟩
 ·have right:lh d y->lh (plusO b d) y:=by
   rintro⟨w,hw,hs⟩;refine⟨w,hw,?_⟩
   by_cases k:lh d w
   ·rw[bo hd k];exact hs
   ·rw[ba hd k];have:=same_nonneg w hb;have:=same_nonneg w hd
    (clear hw;lia)
  rintro(⟨w,hw,hs⟩ | h)
  ·by_cases k:lh d w
   ·obtain⟨v,hv,hs'⟩:=k;exact right ⟨v,bS _ _ _ hw hv,hs'⟩
   ·refine⟨w,hw,?_⟩;rw[ba hd k];have:=same_nonneg w hb;have:=same_nonneg w hd
    (clear hw;lia)
  ·exact right h
theorem nF {a b d:O} (ha:NF a) (hb:NF b) (hd:NF d):plusO (plusO a b) d=plusO a (plusO b d):=by
 refine lM ((ha.plus hb).plus hd) (ha.plus (hb.plus hd)) λy=>?_
 by_cases k:lh d y
 ·rw[bo hd k,bo (hb.plus hd) ((iS hb hd).mpr (.inr k)),bo hd k]
 ·rw[ba hd k]
  by_cases q:lh b y
  ·rw[bo hb q,bo (hb.plus hd) ((iS hb hd).mpr (.inl q)),ba hd k]
  ·rw[ba hb q,ba (hb.plus hd) (λz=>((iS hb hd).mp z).elim q k),ba hd k];lia
theorem jy {b d x y:O} (h:∀y,0<cmp y x->same y b=same y d) (hy:¬cmp y x<0):lh b y↔lh d y:=by
 have go:∀w,cmp y w<0->0<cmp w x:=λw hw=>by
  have hs:=aY w x;rcases cmp_range y x with k | k | k
  ·(clear hw hs;lia)
  ·rw[cmp_eq _ _ k] at hw;(clear hy k;lia)
  ·have h3:=bS x y w (by have:=aY y x;(clear hy hw hs;lia)) hw
   (clear hy hw k;lia)
 constructor
 ·rintro⟨w,hw,hs⟩;exact⟨w,hw,by rw[←h w (go w hw)];exact hs⟩
 ·rintro⟨w,hw,hs⟩;exact⟨w,hw,by rw[h w (go w hw)];exact hs⟩
theorem oG {a b d:O} (ha:NF a) (hb:NF b) (hd:NF d) (h:cmp b d<0):cmp (plusO a b) (plusO a d)<0:=by
 obtain⟨x,hx,hy⟩:=dL hb hd h;refine fe (x:=x) (ha.plus hb) (ha.plus hd) ?_ λy hyx=>?_
 ·have q:=jy hy (cE x)
  by_cases k:lh b x
  ·rw[bo hb k,bo hd (q.mp k)];exact hx
  ·rw[ba hb k,ba hd (λz=>k (q.mpr z))];(clear h;lia)
 ·have q:=jy (y:=y) hy (by (clear h hx;lia))
  by_cases k:lh b y
  ·rw[bo hb k,bo hd (q.mp k)];exact hy y hyx
  ·rw[ba hb k,ba hd (λz=>k (q.mpr z)),hy y hyx]
theorem p9 {f:O->O} {b d:O} (h1:cmp b d<0->cmp (f b) (f d)<0) (h2:cmp d b<0->cmp (f d) (f b)<0):cmp (f b) (f d)=cmp b d:=by
 rcases cmp_range b d with k | k | k
 ·have:=h1 (by lia);rcases cmp_range (f b) (f d) with q | q | q<;> lia
 ·rw[cmp_eq _ _ k,cmp_self,cmp_self]
 ·have:=h2 (by have:=aY b d;lia);have:=aY (f d) (f b);rcases cmp_range (f b) (f d) with q | q | q<;> lia
theorem iT {a b d:O} (ha:NF a) (hb:NF b) (hd:NF d):cmp (plusO a b) (plusO a d)=cmp b d:=p9 (oG ha hb hd) (oG ha hd hb)
theorem Lt.mono {e f:O} (h:cmp e f<0):∀{r:O},Lt e r->Lt f r
 | z,_=>trivial
 | c _ _ _,k=>⟨bS _ _ _ k.1 h,Lt.mono h k.2⟩
end O
namespace O
noncomputable def getP:O->Nat->Option (O×Int)
 | z,_=>none
 | c e n _,0=>some (e,n)
 | c _ _ r,i+1=>getP r i
noncomputable def dropO:Nat->O->O
 | 0,a=>a
 | _+1,z=>z
 | i+1,c _ _ r=>dropO i r
theorem getP_none:∀{a:O} {i:Nat},getP a i=none↔a.len<=i
 | z,i=>by simp[getP,len]
 | c e n r,0=>by simp[getP,len]
 | c e n r,i+1=>by
   have:=getP_none (a:=r) (i:=i);simp only[getP,len,this];(clear this;lia)
theorem getP_some {a:O} (h:i<a.len):∃e n,getP a i=some (e,n):=by
 cases k:getP a i with
 | none=>rw[getP_none] at k;lia
 | some p=>exact⟨p.1,p.2,rfl⟩
theorem getP_size:∀{a:O} {i:Nat} {e:O} {n:Int},getP a i=some (e,n)->e.size<a.size/\e.dp<a.dp
 | z,_,_,_,h=>by simp[getP] at h
 | c e n r,0,_,_,h=>by simp[getP] at h;obtain⟨rfl,rfl⟩:=h;simp only[size,dp];lia
 | c e n r,i+1,x,m,h=>by
   have:=getP_size (a:=r) (i:=i) (e:=x) (n:=m) (by simpa[getP] using h);simp only[size,dp];lia
theorem oH:∀{a:O} {i:Nat} {e:O} {n:Int},NF a->getP a i=some (e,n)->NF e/\1<=n
 | z,_,_,_,_,h=>by simp[getP] at h
 | c e n r,0,_,_,ha,h=>by simp[getP] at h;obtain⟨rfl,rfl⟩:=h;exact⟨ha.1,ha.2.1⟩
 | c e n r,i+1,x,m,ha,h=>oH (a:=r) (i:=i) ha.2.2.2 (by simpa[getP] using h)
noncomputable def stay (e a:O):Nat:=(filt (λx _=>decide (0<cmp x e)) a).len
theorem cM {y e:O} (h:¬0<cmp y e):∀{r:O},Lt y r->filt (λx _=>decide (0<cmp x e)) r=z
 | z,_=>rfl
 | c x n t,k=>by
   have hx:¬0<cmp x e:=λq=>by
    have h1:=aY x e;have h2:=bS e x y (by (clear h;lia)) k.1;have h3:=aY e y
    (clear q h1;lia)
   unfold filt;rw[ycw (by simpa using hx)];exact cM h k.2
theorem filt_c (p:O->Int->Bool) (e:O) (n:Int) (r:O):filt p (c e n r)=if p e n then c e n (filt p r) else filt p r:=rfl
theorem eI {e y:O} {n:Int} {r:O} (h:0<cmp y e):stay e (c y n r)=stay e r+1:=by
 unfold stay;rw[filt_c,ycv (by simpa using h)]
 rfl
theorem eJ {e y:O} {n:Int} {r:O} (h:¬0<cmp y e) (hr:Lt y r):stay e (c y n r)=0:=by
 unfold stay;rw[filt_c,ycw (by simpa using h),cM h hr]
 rfl
theorem stay_le {e:O}:∀{a:O},stay e a<=a.len
 | z=>ycx _
 | c y n r=>by
   have:=stay_le (e:=e) (a:=r);unfold stay at this ⊢;unfold filt;split<;> simp only[len]<;> lia
theorem above_iff {e:O}:∀{a:O} {i:Nat} {x:O} {n:Int},NF a->getP a i=some (x,n)->(0<cmp x e↔i<stay e a)
 | z,_,_,_,_,h=>by simp[getP] at h
 | c y m r,0,x,n,ha,h=>by
   simp[getP] at h;obtain⟨rfl,rfl⟩:=h
   by_cases k:0<cmp y e
   ·rw[eI k];exact⟨λ_=>by (clear k;lia),λ_=>k⟩
   ·rw[eJ k ha.2.2.1];exact⟨λq=>absurd q k,λq=>by (clear k;lia)⟩
 | c y m r,i+1,x,n,ha,h=>by
   have h':getP r i=some (x,n):=by simpa[getP] using h
   have ih:=above_iff (e:=e) ha.2.2.2 h'
   by_cases k:0<cmp y e
   ·rw[eI k,ih];(clear ih k;lia)
   ·rw[eJ k ha.2.2.1];constructor
    ·intro q;have z0:stay e r=0:=by unfold stay;rw[cM k ha.2.2.1];rfl
     have:=ih.mp q
     (clear ih k q;lia)
    ·intro q;(clear ih k;lia)
theorem same_stay {e:O}:∀{a:O},NF a->same e a=match getP a (stay e a) with | some (x,m)=>if x=e then m else 0 | none=>0
 | z,_=>rfl
 | c y n r,ha=>by
   by_cases k:0<cmp y e
   ·have hne:y≠e:=λq=>by subst q;rw[cmp_self] at k;lia
    rw[eI k,same_ne hne,same_stay ha.2.2.2]
    rfl
   ·rw[eJ k ha.2.2.1];show _=if y=e then n else 0
    by_cases q:y=e
    ·subst q;rw[ycv rfl,same_self ha.2.2.1]
    ·rw[ycw q,same_ne q];refine bR (λhl=>?_) ha.2.2.1;have h1:=aY e y;lia
noncomputable def takeO:Nat->O->O
 | 0,_=>z
 | _+1,z=>z
 | i+1,c e n r=>c e n (takeO i r)
theorem take_stay {e:O}:∀{a:O},NF a->takeO (stay e a) a=filt (λx _=>decide (0<cmp x e)) a
 | z,_=>rfl
 | c y n r,ha=>by
   by_cases k:0<cmp y e
   ·rw[eI k,filt_c,ycv (by simpa using k),takeO,take_stay ha.2.2.2]
   ·rw[eJ k ha.2.2.1,filt_c,ycw (by simpa using k),cM k ha.2.2.1]
    rfl
theorem qc (a b:O):(plusO a b).size<=a.size+b.size:=by
 cases b with
 | z=>show a.size<=_;lia
 | c e n r=>
   show(app _ _).size<=_;rw[cY];have:=fy (λx _=>decide (0<cmp x e)) a;simp only[size];lia
theorem size_with (a e:O) (n:Int):(withO a e n).size<=2*a.size+e.size+1:=by
 unfold withO;rw[cY];have h1:=fy (λx _=>decide (0<cmp x e)) a;have h2:=fy (λx _=>decide (cmp x e<0)) a;simp only[size];lia
end O
namespace O
noncomputable def mx:O->Int
 | z=>0
 | c e n r=>max n (max (mx e) (mx r))
theorem mx_c (e:O) (n:Int) (r:O):mx (c e n r)=max n (max (mx e) (mx r)):=rfl
theorem mx_hn {e:O} {n:Int} {r:O}:n<=mx (c e n r):=Int.le_max_left _ _
theorem mx_he {e:O} {n:Int} {r:O}:mx e<=mx (c e n r):=ydv (Int.le_max_left _ _) (Int.le_max_right _ _)
theorem mx_hr {e:O} {n:Int} {r:O}:mx r<=mx (c e n r):=ydv (Int.le_max_right _ _) (Int.le_max_right _ _)
theorem kr {e:O} {n:Int} {r:O} {B:Int} (h1:n<=B) (h2:mx e<=B) (h3:mx r<=B):mx (c e n r)<=B:=Int.max_le.mpr ⟨h1,Int.max_le.mpr ⟨h2,h3⟩⟩
theorem mx_nonneg:∀a:O,0<=mx a
 | z=>Int.le_refl _
 | c _ _ r=>ydv (mx_nonneg r) mx_hr
theorem ff:∀a b:O,mx (app a b)=max (mx a) (mx b)
 | z,b=>by have:=mx_nonneg b;show mx b=max 0 (mx b);lia
 | c e n r,b=>by
   show mx (c e n (app r b))=_;rw[mx_c,ff r b,mx_c,Int.max_assoc,Int.max_assoc]
theorem ip (p:O->Int->Bool):∀a:O,mx (filt p a)<=mx a
 | z=>Int.le_refl _
 | c e n r=>by
   have:=ip p r;rw[filt_c];split
   ·exact kr mx_hn mx_he (ydv this mx_hr)
   ·exact ydv this mx_hr
theorem same_le_mx (x:O):∀{a:O},NF a->same x a<=mx a
 | z,_=>Int.le_refl _
 | c e n r,h=>by
   have h1:=same_le_mx x h.2.2.2;rw[mx_c]
   by_cases k:e=x
   ·subst k;rw[same_self h.2.2.1];(clear h1;lia)
   ·rw[same_ne k];lia
theorem uL {a e:O} {n:Int} (ha:NF a):mx (withO a e n)<=max (mx a+max n 0) (mx e):=by
 unfold withO;have h1:=ip (λx _=>decide (0<cmp x e)) a;have h2:=ip (λx _=>decide (cmp x e<0)) a;have h3:=same_le_mx e ha;have h4:=mx_nonneg a;rw[ff,mx_c]
 (clear h4;lia)
theorem oI:∀a:O,mx (init a)<=mx a
 | z=>Int.le_refl _
 | c _ _ z=>by simp only[init];exact mx_nonneg _
 | c e n (c e' n' r')=>by
   have h:=oI (c e' n' r');have e0:init (c e n (c e' n' r'))=c e n (init (c e' n' r')):=by simp[init]
   rw[e0,mx_c,mx_c e];lia
theorem oJ:∀a:O,mx (last a)<=mx a
 | z=>Int.le_refl _
 | c _ _ z=>by simp[last]
 | c e n (c e' n' r')=>by
   have h:=oJ (c e' n' r');have e0:last (c e n (c e' n' r'))=last (c e' n' r'):=by simp[last]
   rw[e0,mx_c e];lia
theorem oK:∀{a:O} {i:Nat} {e:O} {n:Int},getP a i=some (e,n)->mx e<=mx a/\n<=mx a
 | z,_,_,_,h=>by simp[getP] at h
 | c e n r,0,_,_,h=>by simp[getP] at h;obtain⟨rfl,rfl⟩:=h;rw[mx_c];lia
 | c e n r,i+1,x,m,h=>by
   have:=oK (a:=r) (i:=i) (e:=x) (n:=m) (by simpa[getP] using h);rw[mx_c];lia
theorem gK:∀a b:O,dp (app a b)=max (dp a) (dp b)
 | z,b=>by show dp b=max 0 (dp b);lia
 | c e n r,b=>by
   show dp (c e n (app r b))=_;simp only[dp,gK r b];rw[Nat.max_assoc]
theorem dp_filt (p:O->Int->Bool):∀a:O,dp (filt p a)<=dp a
 | z=>ycx _
 | c e n r=>by
   have:=dp_filt p r;rw[filt_c];split<;> simp only[dp]<;> lia
theorem dp_with (a e:O) (n:Int):dp (withO a e n)<=max (dp a) (dp e+1):=by
 unfold withO;have h1:=dp_filt (λx _=>decide (0<cmp x e)) a;have h2:=dp_filt (λx _=>decide (cmp x e<0)) a;rw[gK];simp only[dp];lia
theorem dp_plus (a b:O):dp (plusO a b)<=max (dp a) (dp b):=by
 cases b with
 | z=>show dp a<=_;lia
 | c e n r=>
   show dp (app _ _)<=_;rw[gK];have:=dp_filt (λx _=>decide (0<cmp x e)) a;simp only[dp];lia
structure Good (B:Int) (o:O):Prop where
 nf:NF o
 sz:o.size<=24
 mx:O.mx o<=B
theorem Good.dp {B:Int} {o:O} (h:Good B o):o.dp<=24:=ycy (dp_le_size o) h.sz
theorem Good.mono {B B':Int} {o:O} (h:Good B o) (k:B<=B'):Good B' o:=⟨h.nf,h.sz,ydv h.mx k⟩
theorem Good.init {B:Int} {o:O} (h:Good B o):Good B (O.init o):=⟨h.nf.init,ycy (size_init o) h.sz,ydv (oI o) h.mx⟩
theorem Good.last {B:Int} {o:O} (h:Good B o):Good B (O.last o):=⟨h.nf.last,ycy (size_last o) h.sz,ydv (oJ o) h.mx⟩
theorem Good.whole {B n:Int} (h1:1<=n) (h2:n<=B):Good B (c z n z):=⟨⟨trivial,h1,trivial,trivial⟩,by simp[size],by rw[mx_c];show max n (max 0 0)<=B;lia⟩
theorem Good.part {B:Int} {o e:O} {n:Int} (h:Good B o) (k:getP o i=some (e,n)):Good B e/\1<=n/\n<=B:=by
 have h1:=getP_size k;have h2:=oH h.nf k;have h3:=oK k;have:=h.mx;have:=h.sz;exact⟨⟨h2.1,by (clear h2 h3;lia),by (clear h1 h2 this;lia)⟩,h2.2,by (clear h1 h2 this;lia)⟩
theorem Good.with {B n:Int} {o e:O} (h:Good B o) (he:Good B e) (hn:1<=n) (hs:(withO o e n).size<=24):Good (B+n) (withO o e n):=
 ⟨h.nf.withO he.nf hn,hs,by have:=uL (e:=e) (n:=n) h.nf;have:=h.mx;have:=he.mx;(clear hs;lia)⟩
end O
namespace O
theorem nG:∀a:O,plusO z a=a
 | z=>rfl
 | c e n r=>by
   simp[plusO,filt,app,same]
theorem nH (a:O):plusO a z=a:=rfl
theorem plus_c (a e:O) (n:Int) (r:O):plusO a (c e n r)=app (filt (λx _=>decide (0<cmp x e)) a) (c e (same e a+n) r):=rfl
noncomputable def cO:O->O->O
 | a,z=>a
 | z,_=>z
 | c e n r,c e' n' r'=>if e=e' then (if n=n' then cO r r' else c e (n-n') r) else c e n r
theorem kt (a:O):cO a z=a:=by cases a<;> rfl
theorem Lt.minus {g:O}:∀{a b:O},Lt g a->Lt g (cO a b)
 | a,z,h=>by rw[kt];exact h
 | z,c _ _ _,h=>h
 | c e n r,c e' n' r',h=>by
   unfold cO;split
   ·split
    ·exact Lt.minus h.2
    ·exact h
   ·exact h
theorem NF.minus:∀{a b:O},NF a->cmp b a<=0->NF (cO a b)
 | a,z,h,_=>by rw[kt];exact h
 | z,c _ _ _,h,_=>h
 | c e n r,c e' n' r',h,k=>by
   unfold cO;split
   ·rename_i q;subst q;rw[cmp,ycw (by rw[cmp_self];simp)] at k;split
    ·rename_i q2;subst q2;rw[ycw (by (clear k;lia)),ycw (by (clear k;lia))] at k;exact NF.minus h.2.2.2 k
    ·rename_i q2;have:n'<n:=by
      rcases Int.lt_trichotomy n' n with j | j | j
      ·exact j
      ·exact absurd j.symm q2
      ·rw[ycw (by (clear k q2;lia)),ycv j] at k;(clear q2 j;lia)
     exact⟨h.1,by (clear k q2;lia),h.2.2.1,h.2.2.2⟩
   ·exact h
theorem hV {e:O} {n:Int} {r:O} (hr:Lt e r) {f:O} (h:cmp e f<=0):filt (λx _=>decide (0<cmp x f)) (c e n r)=z:=by
 rw[filt_c,ycw (by simp;assumption),cM (by lia) hr]
theorem fW:∀{a b:O},NF a->NF b->cmp b a<=0->plusO b (cO a b)=a
 | a,z,_,_,_=>by rw[kt,nG]
 | z,c _ _ _,_,_,h=>by simp[cmp] at h
 | c e n r,c e' n' r',ha,hb,h=>by
   unfold cO
   by_cases q:e=e'
   ·subst q;rw[cmp,ycw (by rw[cmp_self];simp)] at h;rw[ycv rfl]
    by_cases q2:n=n'
    ·subst q2;rw[ycw (by (clear h;lia)),ycw (by (clear h;lia))] at h;rw[ycv rfl];have ih:=fW ha.2.2.2 hb.2.2.2 h;have hl:Lt e (cO r r'):=ha.2.2.1.minus;cases k:cO r r' with
     | z=>
       rw[k,nH] at ih;rw[nH,ih]
     | c f m t=>
       rw[k] at ih hl;have hf:0<cmp e f:=by have:=aY e f;have:=hl.1;(clear h;lia)
       have hne:e≠f:=λz=>by subst z;rw[cmp_self] at hf;(clear h;lia)
       rw[plus_c] at ih ⊢;rw[filt_c,ycv (by simpa using hf),same_ne hne];show c e n (app _ _)=_;rw[ih]
    ·rw[ycw q2];have hlt:n'<n:=by
      rcases Int.lt_trichotomy n' n with j | j | j
      ·exact j
      ·exact absurd j.symm q2
      ·rw[ycw (by (clear h q2;lia)),ycv j] at h;(clear q2 j;lia)
     rw[plus_c,hV hb.2.2.1 (by rw[cmp_self];(clear h q2 hlt;lia)),same_self hb.2.2.1];show c e (n'+(n-n')) r=_;have e1:n'+(n-n')=n:=by (clear h q2 hlt;lia)
     rw[e1]
   ·rw[ycw q];have hk:cmp e' e<0:=by
     rcases cmp_range e' e with j | j | j
     ·(clear h;lia)
     ·exact absurd (cmp_eq _ _ j).symm q
     ·rw[cmp,ycv (by (clear h;lia))] at h;lia
    rw[plus_c,hV hb.2.2.1 (by (clear h;lia)),bb hb.2.2.1 (by have:=aY e' e;(clear h;lia))];show c e (0+n) r=_;rw[Int.zero_add]
theorem uM {a:O} (h:a≠z):cmp z a<0:=by
 cases a with
 | z=>exact absurd rfl h
 | c _ _ _=>simp[cmp]
theorem oM {e f:O} (he:NF e) (hf:NF f) (h:f≠z):cmp e (plusO e f)<0:=by
 have:=iT (b:=z) he trivial hf;rw[nH] at this;have:=uM h;lia
noncomputable def mulP (e:O) (n:Int) (r:O):O->O
 | z=>z
 | c f d t=>if f=z then c e (n*d) r else c (plusO e f) d (mulP e n r t)
noncomputable def timesO:O->O->O
 | z,_=>z
 | c e n r,b=>mulP e n r b
theorem mulP_c (e:O) (n:Int) (r f:O) (d:Int) (t:O):mulP e n r (c f d t)=if f=z then c e (n*d) r else c (plusO e f) d (mulP e n r t):=rfl
theorem oN {e:O} {n:Int} {r:O} (he:NF e) (hr:Lt e r) {f:O} (hf:NF f) (h0:f≠z):∀{t:O},NF t->Lt f t->Lt (plusO e f) (mulP e n r t)
 | z,_,_=>trivial
 | c g d u,ht,hl=>by
   rw[mulP_c];split
   ·exact⟨oM he hf h0,hr.mono (oM he hf h0)⟩
   ·exact⟨by rw[iT he ht.1 hf];exact hl.1,oN he hr hf h0 ht.2.2.2 hl.2⟩
theorem nI {a b:Int} (ha:1<=a) (hb:1<=b):1<=a*b:=by
 have:=Int.mul_le_mul ha hb (by (clear ha hb;lia)) (by (clear hb;lia));simpa using this
theorem oO {e:O} {n:Int} {r:O} (h:NF (c e n r)):∀{t:O},NF t->NF (mulP e n r t)
 | z,_=>trivial
 | c g d u,ht=>by
   rw[mulP_c];split
   ·exact⟨h.1,nI h.2.1 ht.2.1,h.2.2.1,h.2.2.2⟩
   ·rename_i hg;exact⟨h.1.plus ht.1,ht.2.1,oN h.1 h.2.2.1 ht.1 hg ht.2.2.2 ht.2.2.1,oO h ht.2.2.2⟩
theorem NF.times {a b:O} (ha:NF a) (hb:NF b):NF (timesO a b):=by
 cases a with
 | z=>exact trivial
 | c e n r=>exact oO ha hb
theorem Lt_z {t:O} (h:Lt z t):t=z:=by
 cases t with
 | z=>rfl
 | c x _ _=>
   have:=h.1;cases x<;> simp[cmp] at this
section
variable {e:O} {n:Int} {r:O}
end
end O
namespace O
section
variable {e:O} {n:Int} {r:O}
end
theorem qd {a:O}:timesO a (c z 1 z)=a:=by
 cases a with
 | z=>rfl
 | c e n r=>show mulP e n r (c z 1 z)=_;rw[mulP_c,ycv rfl,Int.mul_one]
theorem one_mul:∀{a:O},NF a->mulP z 1 z a=a
 | z,_=>rfl
 | c f k t,h=>by
   rw[mulP_c]
   by_cases q:f=z
   ·subst q;rw[ycv rfl,Lt_z h.2.2.1,Int.one_mul]
   ·rw[ycw q,nG,one_mul h.2.2.2]
theorem jz {a:O} (h:NF a):timesO (c z 1 z) a=a:=one_mul h
end O
namespace O
end O
namespace O
noncomputable def hw:O->Nat
 | z=>0
 | c e _ r=>max (len r+1) (max (hw e) (hw r))
theorem hw_c (e:O) (n:Int) (r:O):hw (c e n r)=max (len r+1) (max (hw e) (hw r)):=rfl
theorem len_le_hw:∀a:O,len a<=hw a
 | z=>ycx _
 | c e n r=>by rw[hw_c];simp only[len];lia
theorem hw_le_size:∀a:O,hw a<=size a
 | z=>ycx _
 | c e n r=>by
   have h1:=hw_le_size e;have h2:=hw_le_size r;have h3:=len_le_size r;rw[hw_c];simp only[size];lia
theorem jA (p:O->Int->Bool):∀a:O,(a.filt p).len<=a.len
 | z=>ycx _
 | c e n r=>by
   have:=jA p r;rw[filt_c];split<;> simp only[len]<;> lia
theorem hw_filt (p:O->Int->Bool):∀a:O,hw (filt p a)<=hw a
 | z=>ycx _
 | c e n r=>by
   have ih:=hw_filt p r;have h:=jA p r;rw[filt_c];split
   ·rw[hw_c,hw_c];exact Nat.max_le.mpr ⟨ycy (Nat.succ_le_succ h) (le_max_left _ _),ycy (Nat.max_le.mpr ⟨le_max_left _ _,ycy ih (le_max_right _ _)⟩) (le_max_right _ _)⟩
   ·exact ycy ih (ycy (le_max_right _ _) (le_max_right _ _))
theorem uN {a b:O} (ha:NF a):mx (plusO a b)<=mx a+mx b:=by
 have h0:=mx_nonneg a;cases b with
 | z=>show mx a<=mx a+0;(clear h0;lia)
 | c e n r=>
   rw[plus_c,ff,mx_c,mx_c];have h2:=ip (λx _=>decide (0<cmp x e)) a;have h3:=same_le_mx e ha;have e1:n<=max n (max (mx e) (mx r)):=mx_hn (e:=e) (r:=r);have e2:max (mx e) (mx r)<=max n (max (mx e) (mx r)):=Int.le_max_right _ _;have e3:0<=max n (max (mx e) (mx r)):=mx_nonneg (c e n r);generalize max n (max (mx e) (mx r))=M at e1 e2 e3 ⊢;refine Int.max_le.mpr ⟨ydv h2 (Int.le_add_of_nonneg_right e3),Int.max_le.mpr ⟨Int.add_le_add h3 e1,ydv e2 (Int.le_add_of_nonneg_left h0)⟩⟩
end O
namespace O
noncomputable def jB:O->O
 | z=>z
 | c e n z=>if n=1 then z else c e (n-1) z
 | c e n (c e' n' r')=>c e n (jB (c e' n' r'))
noncomputable def hW:O->O
 | z=>z
 | c e _ z=>e
 | c _ _ (c e' n' r')=>hW (c e' n' r')
theorem sd:∀a:O,app a z=a
 | z=>rfl
 | c e n r=>by show c e n (app r z)=_;rw[sd r]
noncomputable def Dx (a:O):Prop:=a≠z/\same z a=0
inductive yK:O->Int->O->Prop where
 | suc {a:O} {n:Int} (h0:a≠z) (h:hW a=z):yK a n (jB a)
 | lim {a:O} {n:Int} {o:O} (h0:a≠z) (h:Dx (hW a)) (k:yK (hW a) n o):yK a n (app (jB a) (c o 1 z))
 | one {a:O} {n:Int} (h0:a≠z) (h:hW a≠z) (h':¬Dx (hW a)):yK a n (app (jB a) (if n=0 then z else c (jB (hW a)) n z))
end O
namespace O
end O
namespace O
structure Rg (a b:O) (n:Int):Prop where
 pos:0<=n
 pass:∀o,yK a n o->cmp b o<0
 least:0<n->∀o,yK a (n-1) o->¬cmp b o<0
end O
namespace O
end O
namespace O
end O
namespace O
noncomputable def wh (m:Int):O:=if m=0 then z else c z m z
theorem x8 {m:Int} (h:0<m):wh m=c z m z:=by unfold wh;rw[ycw (by lia)]
theorem sg {e:O} {n:Int} {r:O} {m:Int} (h:0<m):timesO (c e n r) (wh m)=c e (n*m) r:=by
 rw[x8 h];show mulP e n r (c z m z)=_;rw[mulP_c,ycv rfl]
theorem x9 {a b:O} (ha:NF a) (hb:NF b) (h:cmp a b<0):cmp (plusO a (c z 1 z)) b<=0:=by
 have n1:NF (c z 1 z):=⟨trivial,by (clear h;lia),trivial,trivial⟩;have sm:∀y,same y (plusO a (c z 1 z))=same y a+(if y=z then 1 else 0):=λy=>by
  rw[gJ (show Lt z z from trivial)]
  by_cases q:y=z
  ·subst q;rw[cmp_self,ycw (by (clear h;lia)),ycw (by (clear h;lia)),same_eq,ycv rfl]
   rfl
  ·have:0<cmp y z:=by have:=uM q;have:=aY z y;(clear h;lia)
   rw[ycv this,ycw q]
   (clear h this;lia)
 obtain⟨x,h1,h2⟩:=dL ha hb h
 by_cases q:x=z
 ·subst q;refine nE (ha.plus n1) hb λy=>?_;rw[sm]
  by_cases q:y=z
  ·subst q;rw[ycv rfl];assumption
  ·have:0<cmp y z:=by have:=uM q;have:=aY z y;(clear h h1;lia)
   rw[ycw q,h2 y this]
   (clear h h1 this;lia)
 ·have:cmp (plusO a (c z 1 z)) b<0:=by
   refine fe (x:=x) (ha.plus n1) hb (by rw[sm,ycw q];(clear h;lia)) λy hy=>?_;have hyz:y≠z:=λk=>by subst k;cases x<;> simp[cmp] at hy
   rw[sm,ycw hyz,h2 y hy]
   (clear h h1 hy;lia)
  (clear h h1;lia)
end O
namespace O
noncomputable abbrev one:O:=c z 1 z
theorem NF.one:NF one:=⟨trivial,by lia,trivial,trivial⟩
theorem gL {f:O} (hf:NF f) (h:f≠z):cmp one f<=0:=by
 have:=x9 (a:=z) trivial hf (uM h);rw[nG] at this;exact this
theorem sh {e x y:O} (he:NF e) (hx:NF x) (hy:NF y) (h1:cmp e x<=0) (h2:cmp e y<=0) (h:cmp y x<0):cmp (cO y e) (cO x e)<0:=by
 have p1:=fW hx he h1;have p2:=fW hy he h2;have:=iT he (hy.minus h2) (hx.minus h1);rw[p1,p2] at this
 (clear h1 h2;lia)
noncomputable def Lm:O->Prop
 | z=>True
 | c f _ t=>f≠z/\Lm t
theorem Lm.filt:∀(b:O),Lm (O.filt (λy _=>decide (¬y=z)) b)
 | z=>trivial
 | c f d t=>by
   rw[filt_c];split
   ·rename_i h;exact⟨by simpa using h,Lm.filt t⟩
   ·exact Lm.filt t
noncomputable def decr:O->O
 | z=>z
 | c f d t=>c (cO f one) d (decr t)
theorem oP {f:O} (hf:NF f) (h0:f≠z):∀{t:O},NF t->Lm t->Lt f t->Lt (cO f one) (decr t)
 | z,_,_,_=>trivial
 | c g d t,ht,hl,h=>⟨sh NF.one hf ht.1 (gL hf h0) (gL ht.1 hl.1) h.1,oP hf h0 ht.2.2.2 hl.2 h.2⟩
theorem NF.decr:∀{t:O},NF t->Lm t->NF (O.decr t)
 | z,_,_=>trivial
 | c f d t,ht,hl=>⟨ht.1.minus (gL ht.1 hl.1),ht.2.1,oP ht.1 hl.1 ht.2.2.2 hl.2 ht.2.2.1,NF.decr ht.2.2.2 hl.2⟩
noncomputable def npow (a:O):Nat->O
 | 0=>one
 | n+1=>timesO (npow a n) a
theorem NF.npow {a:O} (ha:NF a):∀n:Nat,NF (O.npow a n)
 | 0=>NF.one
 | n+1=>(NF.npow ha n).times ha
noncomputable def endP (e L:O):O:=if e=z then c (decr L) 1 z else c (timesO e L) 1 z
noncomputable abbrev lim (b:O):O:=filt (λy _=>decide (¬y=z)) b
noncomputable def genP (a e b:O):O:=timesO (endP e (lim b)) (npow a (same z b).toNat)
noncomputable def powO (a b:O):O:=
 if b=z then one else if a=one then a else match a with
 | z=>z
 | c e n z=>if e=z then genP (c e n z) e b else c (timesO e b) (if 0<same z b then n else 1) z
 | c e n r=>genP (c e n r) e b
theorem pow_z (a:O):powO a z=one:=by unfold powO;rw[ycv rfl]
theorem pow_part {e:O} {n:Int} {b:O} (he:e≠z) (hb:b≠z):powO (c e n z) b=c (timesO e b) (if 0<same z b then n else 1) z:=by
 unfold powO;rw[ycw hb,ycw (by simp[one];intro k;exact absurd k he)];simp only;rw[ycw he]
theorem uO {e:O} {n:Int} {r b:O} (hb:b≠z) (ha:c e n r≠one) (h:e=z∨r≠z):powO (c e n r) b=genP (c e n r) e b:=by
 unfold powO;rw[ycw hb,ycw ha];cases r with
 | z=>
   have he:e=z:=by
    rcases h with h | h
    ·exact h
    ·exact absurd rfl h
   simp only;rw[ycv he]
 | c f d t=>rfl
theorem lO {a b:O} (hb:b≠z) (h:a=z∨a=one):powO a b=a:=by
 unfold powO;rw[ycw hb];rcases h with rfl | rfl
 ·rw[ycw (by simp[one])]
 ·rw[ycv rfl]
theorem NF.endP {e L:O} (he:NF e) (hL:NF L) (hl:Lm L):NF (O.endP e L):=by
 unfold O.endP;split
 ·exact⟨hL.decr hl,by lia,trivial,trivial⟩
 ·exact⟨he.times hL,by lia,trivial,trivial⟩
theorem NF.genP {a e b:O} (ha:NF a) (he:NF e) (hb:NF b):NF (O.genP a e b):=
 (he.endP (hb.filt _) (Lm.filt b)).times (ha.npow _)
theorem NF.pow {a b:O} (ha:NF a) (hb:NF b):NF (powO a b):=by
 by_cases h1:b=z
 ·rw[h1,pow_z];exact NF.one
 ·by_cases h2:a=O.one
  ·rw[lO h1 (.inr h2)];exact ha
  ·cases a with
   | z=>rw[lO h1 (.inl rfl)];exact trivial
   | c e n r=>
     by_cases h3:e=z∨r≠z
     ·rw[uO h1 h2 h3];exact ha.genP ha.1 hb
     ·have he:e≠z:=λk=>h3 (.inl k);have hr:r=z:=Classical.byContradiction λk=>h3 (.inr k);subst hr;rw[pow_part he h1];exact⟨ha.1.times hb,by have:=ha.2.1;split<;> lia,trivial,trivial⟩
end O
namespace O
section
variable {x:O} {n m:Int}
end
end O
namespace O
noncomputable abbrev w1:O:=c one 1 z
end O
namespace O
end O
namespace O
noncomputable def ot:O->Int
 | z=>0
 | c _ n r=>max n (ot r)
end O
namespace O
end O
namespace O
noncomputable def val (b:Nat):O->Nat
 | z=>0
 | c e n r=>n.toNat*b^val b e+val b r
structure Wr (b:Nat) (a:O):Prop where
 nf:NF a
 mx:O.mx a<b
end O
namespace O
noncomputable def tp (b:Nat):O->Nat
 | z=>0
 | c e _ _=>val b e+1
end O
namespace O
open Classical in
noncomputable def rep (b s:Nat):O:=if h:∃o,Wr b o/\val b o=s then choose h else z
noncomputable def tl (b:Nat):Nat->O
 | 0=>z
 | s+1=>c (rep b s) ((b:Int)-1) (tl b s)
noncomputable def dn (b:Nat) (a:O):O:=app (jB a) (tl b (val b (hW a)))
end O
open O
mutual
inductive Rw (α:Type) where
 | set (b:α) (n:Int)
 | copy (b o:α)
 | add (b o:α)
 | less (b:α)
 | times (b:α) (rs:si α)
 | count (rs:si α) (n:Int)
inductive si (α:Type) where
 | nil
 | cons (r:Rw α) (rs:si α)
end
noncomputable def om:O:= .c (O.wh 1) 1 .z
section
variable {α:Type}
mutual
noncomputable def Rw.hb:Rw α->Nat
 | .times _ rs=>rs.hb+2
 | .count rs _=>rs.hb+3
 | _=>1
noncomputable def si.hb:si α->Nat
 | .nil=>0
 | .cons r rs=>rs.hb+r.hb
end
mutual
noncomputable def Rw.mb:Rw α->Nat
 | .times _ rs=>(rs.mb+2)*2
 | .count rs n=>(rs.mb+2)*(n.toNat+1)+1
 | _=>1
noncomputable def si.mb:si α->Nat
 | .nil=>0
 | .cons r rs=>rs.mb+r.mb
end
mutual
noncomputable def Rw.lb:Rw α->Nat
 | .count rs _=>rs.lb+2
 | _=>1
noncomputable def si.lb:si α->Nat
 | .nil=>0
 | .cons r rs=>rs.lb+r.lb
end
mutual
noncomputable def Rw.nn:Rw α->Prop
 | .times _ rs=>rs.nn
 | .count rs n=>rs.nn/\0<=n
 | _=>True
noncomputable def si.nn:si α->Prop
 | .nil=>True
 | .cons r rs=>r.nn/\rs.nn
end
structure Wb (o:O) (h m l:Nat):Prop where
 nf:o.NF
 dp:o.dp<=3
 hw:O.hw o<=h
 mx:O.mx o<=m
 ln:o.len<=l
end
inductive cr where
 | num (a:O)
 | nam (l:List Nat)
 | op (y:Nat)
deriving DecidableEq
noncomputable def cF (y:Nat):Bool:=decide (48<=y/\y<=57)
noncomputable def fK (y:Nat):Bool:=decide (97<=y/\y<=122)
noncomputable def fL (y:Nat):Bool:=cF y||fK y
noncomputable def dF:List Nat->List Nat
 | []=>[]
 | y::l=>if fL y then y::dF l else []
noncomputable def nJ:List Nat->List Nat
 | []=>[]
 | y::l=>if fL y then nJ l else y::l
theorem fz:∀l,dF l++nJ l=l
 | []=>rfl
 | y::l=>by
   unfold dF nJ;split
   ·show y::(dF l++nJ l)=_;rw[fz l]
   ·rfl
noncomputable def lP (l:List Nat):Nat:=l.foldl (λa y=>a*10+(y-48)) 0
noncomputable def bU (l:List Nat):Bool:=decide (1<=l.length/\l.length<=60)&&l.all cF&&(decide (l=[48])||decide (l.head?≠some 48))
noncomputable def d0 (l:List Nat):Bool:=decide (1<=l.length/\l.length<=8)&&decide (l≠[119])&&l.all fK
noncomputable def nK (l:List Nat):Option cr:=
 if l=[119] then some (.num om) else if bU l then some (.num (O.wh (lP l))) else if d0 l then some (.nam l) else none
noncomputable abbrev Rd:=Option (List cr×List Nat)
noncomputable def aU (rd:List Nat->Rd):List Nat->Rd
 | 40::l=>match rd l with
   | some (s,41::r)=>some (s,r)
   | _=>none
 | l=>match nK (dF l) with
   | some x=>some ([x],nJ l)
   | none=>none
noncomputable def bO (rd:List Nat->Rd) (l:List Nat):Rd:=
 match aU rd l with
 | some (s,94::r)=>match aU rd r with
   | some (s2,r2)=>some (s++s2++[.op 94],r2)
   | none=>none
 | x=>x
noncomputable def bd (one:List Nat->Rd) (y:Nat):Nat->List cr->List Nat->Rd
 | 0,s,l=>some (s,l)
 | n+1,s,l=>if l.head?=some y then match one l.tail with
    | some (s2,r)=>bd one y n (s++s2++[.op y]) r
    | none=>none
   else some (s,l)
noncomputable def bv (rd:List Nat->Rd) (l:List Nat):Rd:=
 match bO rd l with
 | some (s,r)=>bd (bO rd) 42 r.length s r
 | none=>none
noncomputable def cz (rd:List Nat->Rd) (l:List Nat):Rd:=
 match bv rd l with
 | some (s,r)=>bd (bv rd) 43 r.length s r
 | none=>none
noncomputable def cx:Nat->List Nat->Rd
 | 0=>cz λ_=>none
 | d+1=>cz (cx d)
noncomputable def cZ (l:List Nat):Option (List cr):=
 match cx 20 l with
 | some (s,[])=>some s
 | _=>none
structure dQ (fg:Nat->List Nat):Prop where
 ok:∀m,m<10^60->bU (fg m)=true
 val:∀m,lP (fg m)=m
noncomputable def mS (e:O):Bool:=match e with
 | z=>true
 | c z _ z=>true
 | _=>false
section
variable (fg:Nat->List Nat)
noncomputable def eS (e:O) (te:List Nat):List Nat:=
 if e=c z 1 z then [119] else if mS e=true∨e=om then 119::94::te else 119::94::40::(te++[41])
noncomputable def dc (e:O) (n:Int) (te:List Nat):List Nat:=
 if e=z then fg n.toNat else if n=1 then eS e te else eS e te++42::fg n.toNat
noncomputable def bH:O->List Nat
 | z=>[48]
 | c e n r=>dc fg e n (bH e)++(match r with | z=>[] | c _ _ _=>43::bH r)
end
noncomputable def nM (e:O) (se:List cr):List cr:=if e=c z 1 z then [.num om] else .num om::(se++[.op 94])
noncomputable def iU (e:O) (n:Int) (se:List cr):List cr:=
 if e=z then [.num (wh n)] else if n=1 then nM e se else nM e se++[.num (wh n),.op 42]
mutual
noncomputable def dR:O->List cr
 | z=>[.num z]
 | c e n r=>iU e n (dR e)++ku r
noncomputable def ku:O->List cr
 | z=>[]
 | c e n r=>iU e n (dR e)++ .op 43::ku r
end
noncomputable def hZ:O->Nat
 | z=>0
 | c e _ r=>max (if mS e=true∨e=om then 0 else hZ e+1) (hZ r)
noncomputable def Nx (cs:List Nat) (l:List Nat):Prop:=∀x,l.head?=some x->fL x=false/\x∉cs
theorem Nx.nil {cs:List Nat}:Nx cs []:=λx h=>by cases h
theorem Nx.cons {cs:List Nat} {x:Nat} {l:List Nat} (h1:fL x=false) (h2:x∉cs):Nx cs (x::l):=λy h=>by cases h;exact⟨h1,h2⟩
theorem Nx.less {cs ds:List Nat} {l:List Nat} (h:Nx cs l) (hs:∀x,x∈ds->x∈cs):Nx ds l:=λx hx=>⟨(h x hx).1,λz=>(h x hx).2 (hs x z)⟩
theorem oQ:∀{t rest:List Nat},(∀x,x∈t->fL x=true)->Nx [] rest->dF (t++rest)=t/\nJ (t++rest)=rest
 | [],[],_,_=>⟨rfl,rfl⟩
 | [],x::rest,_,h=>by
   have:=(h x rfl).1;show dF (x::rest)=[]/\nJ (x::rest)=x::rest;unfold dF nJ;rw[this];exact⟨rfl,rfl⟩
 | y::t,rest,ht,h=>by
   obtain⟨a,b⟩:=oQ (t:=t) (λx hx=>ht x (ybx _ hx)) h;have:=ht y yby;show dF (y::(t++rest))=y::t/\nJ (y::(t++rest))=rest;unfold dF nJ;rw[this,ycv rfl,ycv rfl,a,b];exact⟨rfl,rfl⟩
theorem gn {rd:List Nat->Rd} {t rest:List Nat} {x:cr} (ht:∀y,y∈t->fL y=true) (hx:nK t=some x) (hn:Nx [] rest):aU rd (t++rest)=some ([x],rest):=by
 obtain⟨a,b⟩:=oQ ht hn;have h40:∀l',t++rest≠40::l':=λl' e=>by
  cases t with
  | nil=>simp[nK,bU,d0] at hx
  | cons y t=>
    cases e;have:=ht 40 yby;exact absurd this (by decide)
 unfold aU;split
 ·rename_i l e;exact absurd e (h40 l)
 ·rw[a,b,hx]
theorem nN {rd:List Nat->Rd} {t rest:List Nat} {s:List cr} (h:rd (t++41::rest)=some (s,41::rest)):aU rd (40::(t++[41])++rest)=some (s,rest):=by
 have e:40::(t++[41])++rest=40::(t++41::rest):=by simp
 rw[e];show(match rd (t++41::rest) with | some (s,41::r)=>some (s,r) | _=>none)=_;rw[h]
 rfl
theorem uP {t:List Nat} (h:bU t=true):∀y,y∈t->fL y=true:=λy hy=>by
 unfold bU at h;simp only[Bool.and_eq_true,all_eq_true] at h;unfold fL;rw[h.1.2 y hy]
 rfl
theorem uQ {t:List Nat} (h:bU t=true):nK t=some (.num (wh (lP t))):=by
 have h1:t≠[119]:=λe=>by rw[e] at h;exact absurd h (by decide)
 unfold nK;rw[ycw h1,ycv h]
theorem sj {fg:Nat->List Nat} (F:dQ fg) {rd:List Nat->Rd} {n:Int} (h0:0<=n) (h1:n<10^60) {rest:List Nat} (hn:Nx [] rest):aU rd (fg n.toNat++rest)=some ([.num (wh n)],rest):=by
 have hm:n.toNat<10^60:=by lia
 have:=gn (rd:=rd) (uP (F.ok _ hm)) (uQ (F.ok _ hm)) hn;rw[F.val,Int.toNat_of_nonneg h0] at this;exact this
theorem uR {rd:List Nat->Rd} {rest:List Nat} (hn:Nx [] rest):aU rd (119::rest)=some ([.num om],rest):=
 gn (t:=[119]) (λy hy=>by cases mem_singleton.mp hy;rfl) rfl hn
theorem fh {rd:List Nat->Rd} {l:List Nat} {s:List cr} {rest:List Nat} (h:aU rd l=some (s,rest)) (hn:Nx [94] rest):bO rd l=some (s,rest):=by
 unfold bO;rw[h];split
 ·rename_i s' r e;cases e;exact absurd yby (hn 94 rfl).2
 ·rfl
theorem oS {rd:List Nat->Rd} {l m:List Nat} {s s2:List cr} {rest:List Nat} (h:aU rd l=some (s,94::m)) (h2:aU rd m=some (s2,rest)):bO rd l=some (s++s2++[.op 94],rest):=by
 unfold bO;rw[h];show(match aU rd m with | some (s2,r2)=>some (s++s2++[cr.op 94],r2) | none=>none)=_;rw[h2]
theorem cA {one:List Nat->Rd} {x:Nat} {s:List cr} {l:List Nat} (hn:Nx [x] l):∀k,bd one x k s l=some (s,l)
 | 0=>rfl
 | k+1=>by
   unfold bd;rw[if_neg];intro e;exact(hn x e).2 yby
theorem d3 {one:List Nat->Rd} {x k:Nat} {s s2:List cr} {l r:List Nat} (h:one l=some (s2,r)):bd one x (k+1) s (x::l)=bd one x k (s++s2++[.op x]) r:=by
 conv=>lhs;unfold bd
 rw[ycv (show(x::l).head?=some x from rfl)];show(match one l with | some (s2,r)=>bd one x k (s++s2++[cr.op x]) r | none=>none)=_;rw[h]
noncomputable def Tm:O->Prop
 | z=>True
 | c e n r=>Tm e/\(1<=n/\n<10^60)/\Tm r
section
variable {fg:Nat->List Nat}
noncomputable def bZ (fg:Nat->List Nat):O->List Nat
 | z=>[]
 | c e n r=>43::bH fg (c e n r)
theorem fM (e:O) (n:Int) (r:O):bH fg (c e n r)=dc fg e n (bH fg e)++bZ fg r:=by
 cases r<;> rfl
noncomputable def bn:Nat->List Nat->Rd
 | 0=>λ_=>none
 | d+1=>cx d
theorem dG (d:Nat):cx d=cz (bn d):=by cases d<;> rfl
noncomputable def PP (fg:Nat->List Nat) (a:O):Prop:=∀(d:Nat) (rest:List Nat),hZ a<=d->Tm a->Nx [42,43,94] rest->cx d (bH fg a++rest)=some (dR a,rest)
theorem sk (F:dQ fg) {e:O} (he:e≠z) (hT:Tm e) (ih:PP fg e) {d:Nat} (hd:(if mS e=true∨e=om then 0 else hZ e+1)<=d) {rest:List Nat} (hn:Nx [94] rest):bO (bn d) (eS e (bH fg e)++rest)=some (nM e (dR e),rest):=by
 unfold eS nM
 by_cases h1:e=c z 1 z
 ·rw[ycv h1,ycv h1];exact fh (uR (hn.less λx hx=>by cases hx)) hn
 ·rw[ycw h1,ycw h1];have w94:∀l,Nx [] (94::l):=λl=>Nx.cons (by decide) (λh=>by cases h)
  by_cases h2:mS e=true∨e=om
  ·rw[ycv h2];refine oS (s:=[.num om]) (s2:=dR e) (uR (w94 _)) ?_;rcases h2 with h2 | h2
   ·match e,he,h2,hT with
    | c z m z,_,_,hT=>
      show aU (bn d) (bH fg (c z m z)++rest)=some (dR (c z m z),rest);have e1:bH fg (c z m z)=fg m.toNat:=by
       rw[fM];show dc fg z m _++[]=_;unfold dc;rw[ycv rfl,append_nil]
      have e2:dR (c z m z)=[.num (wh m)]:=by
       unfold dR ku iU;rw[ycv rfl]
       rfl
      rw[e1,e2];exact sj F (by have:=hT.2.1.1;(clear hd;lia)) hT.2.1.2 (hn.less λx hx=>by cases hx)
   ·subst h2;have e1:bH fg om=[119]:=by
     show bH fg (c (wh 1) 1 z)=_;rw[fM]
     rfl
    rw[e1];exact uR (hn.less λx hx=>by cases hx)
  ·rw[ycw h2] at hd ⊢;obtain⟨d,rfl⟩:∃d',d=d'+1:=⟨d-1,by lia⟩;have hx:=ih d (41::rest) (by lia) hT (Nx.cons (by decide) (by decide));have:=nN (rd:=bn (d+1)) (t:=bH fg e) (rest:=rest) (s:=dR e) hx;refine oS (s:=[.num om]) (s2:=dR e) (m:=40::(bH fg e++[41])++rest) ?_ this;exact uR (w94 _)
theorem kx (F:dQ fg) {e:O} {n:Int} (hn1:1<=n) (hn2:n<10^60) (hT:Tm e) (ih:PP fg e) {d:Nat} (hd:(if mS e=true∨e=om then 0 else hZ e+1)<=d) {rest:List Nat} (hn:Nx [42,94] rest):bv (bn d) (dc fg e n (bH fg e)++rest)=some (iU e n (dR e),rest):=by
 have hw:Nx [] rest:=hn.less λx hx=>by cases hx
 have h94:Nx [94] rest:=hn.less λx hx=>by rw[mem_singleton.mp hx];decide
 have h42:Nx [42] rest:=hn.less λx hx=>by rw[mem_singleton.mp hx];decide
 have hf:bO (bn d) (fg n.toNat++rest)=some ([.num (wh n)],rest):=fh (sj F (by (clear hd;lia)) hn2 hw) h94;unfold dc iU bv
 by_cases he:e=z
 ·rw[ycv he,ycv he,hf];exact cA h42 _
 ·rw[ycw he,ycw he]
  by_cases h1:n=1
  ·rw[ycv h1,ycv h1,sk F he hT ih hd h94];exact cA h42 _
  ·rw[ycw h1,ycw h1];have e1:eS e (bH fg e)++42::fg n.toNat++rest=eS e (bH fg e)++(42::(fg n.toNat++rest)):=by simp
   rw[e1,sk F he hT ih hd (Nx.cons (by decide) (by decide))];show bd (bO (bn d)) 42 (42::(fg n.toNat++rest)).length (nM e (dR e)) (42::(fg n.toNat++rest))=_;rw[length_cons,d3 hf,cA h42];simp
noncomputable def TT (fg:Nat->List Nat) (r:O):Prop:=∀(d k:Nat) (s:List cr) (rest:List Nat),hZ r<=d->Tm r->Nx [42,43,94] rest->(bZ fg r++rest).length<=k->bd (bv (bn d)) 43 k s (bZ fg r++rest)=some (s++ku r,rest)
theorem oU {r:O} {rest:List Nat} (hn:Nx [42,43,94] rest):Nx [42,94] (bZ fg r++rest):=by
 cases r with
 | z=>exact hn.less λx hx=>by simp at hx ⊢;rcases hx with h | h<;> simp[h]
 | c e n r=>exact Nx.cons (by decide) (by decide)
mutual
theorem gM (F:dQ fg):∀a:O,PP fg a
 | z=>λd rest _ _ hn=>by
   have hw:Nx [] rest:=hn.less λx hx=>by cases hx
   have h94:Nx [94] rest:=hn.less λx hx=>by rw[mem_singleton.mp hx];decide
   have h42:Nx [42] rest:=hn.less λx hx=>by rw[mem_singleton.mp hx];decide
   have h43:Nx [43] rest:=hn.less λx hx=>by rw[mem_singleton.mp hx];decide
   have h1:bO (bn d) ([48]++rest)=some ([.num z],rest):=fh (gn (t:=[48]) (x:= .num z) (λy hy=>by cases mem_singleton.mp hy;rfl) rfl hw) h94;rw[dG];show cz (bn d) ([48]++rest)=some ([.num z],rest);unfold cz bv;rw[h1];show(match bd (bO (bn d)) 42 rest.length [.num z] rest with | some (s,r)=>bd (bv (bn d)) 43 r.length s r | none=>none)=_;rw[cA h42];exact cA h43 _
 | c e n r=>λd rest hd hT hn=>by
   have hd1:(if mS e=true∨e=om then 0 else hZ e+1)<=d:=ycy (le_max_left _ _) hd;have hd2:hZ r<=d:=ycy (le_max_right _ _) hd;rw[dG,fM,append_assoc];unfold cz;rw[kx F hT.2.1.1 hT.2.1.2 hT.1 (gM F e) hd1 (oU hn)];show bd (bv (bn d)) 43 (bZ fg r++rest).length (iU e n (dR e)) (bZ fg r++rest)=_;rw[ky F r d _ _ rest hd2 hT.2.2 hn (ycx _)]
   conv=>rhs;unfold dR
theorem ky (F:dQ fg):∀r:O,TT fg r
 | z=>λd k s rest _ _ hn _=>by
   have h43:Nx [43] rest:=hn.less λx hx=>by rw[mem_singleton.mp hx];decide
   show bd (bv (bn d)) 43 k s rest=some (s++ku z,rest);rw[cA h43];unfold ku;rw[append_nil]
 | c e n r=>λd k s rest hd hT hn hk=>by
   have hd1:(if mS e=true∨e=om then 0 else hZ e+1)<=d:=ycy (le_max_left _ _) hd;have hd2:hZ r<=d:=ycy (le_max_right _ _) hd;have e1:bZ fg (c e n r)++rest=43::(dc fg e n (bH fg e)++(bZ fg r++rest)):=by
    show 43::bH fg (c e n r)++rest=_;rw[fM];simp
   rw[e1] at hk ⊢;rw[length_cons,length_append] at hk;obtain⟨k,rfl⟩:∃k',k=k'+1:=⟨k-1,by (clear hd hd1 hd2;lia)⟩;rw[d3 (kx F hT.2.1.1 hT.2.1.2 hT.1 (gM F e) hd1 (oU hn)),ky F r d k _ rest hd2 hT.2.2 hn (by (clear hd hd1 hd2;lia))]
   conv=>rhs;unfold ku
   simp
end
end
noncomputable def fB (a:O):Prop:=size a<=400/\mx a<10^100/\dp a<=30
noncomputable instance (a:O):Decidable (fB a):=by unfold fB;infer_instance
noncomputable def bt (x:Nat) (a b:O):O:=if x=43 then plusO a b else if x=42 then timesO a b else powO a b
noncomputable def cu:List cr->List O->Option (List O)
 | [],st=>some st
 | .num a::s,st=>cu s (a::st)
 | .op x::s,b::a::st=>if fB (bt x a b)/\(x=94->a=om) then cu s (bt x a b::st) else none
 | _,_=>none
theorem iq {e:O} {n:Int} {r:O} (h:fB (c e n r)):fB e/\fB r/\∀m:Int,m<=n->fB (c e m z):=by
 obtain⟨h1,h2,h3⟩:=h;have s1:size (c e n r)=1+size e+size r:=rfl;have d1:dp e+1<=dp (c e n r):=le_max_left _ _;have d2:dp r<=dp (c e n r):=le_max_right _ _;refine⟨⟨by (clear h2 h3 d1 d2;lia),Int.lt_of_le_of_lt mx_he h2,by (clear h1 h2 s1 d2;lia)⟩,⟨by (clear h2 h3 d1 d2;lia),Int.lt_of_le_of_lt mx_hr h2,by (clear h1 h2 s1 d1;lia)⟩,λm hm=>⟨?_,?_,?_⟩⟩
 ·show 1+size e+0<=400
  (clear h2 h3 d1 d2 hm;lia)
 ·refine Int.lt_of_le_of_lt (kr (ydv hm mx_hn) mx_he ?_) h2;exact ydv (mx_nonneg e) mx_he
 ·show max (dp e+1) 0<=30
  (clear h1 h2 s1 d2 hm;lia)
theorem uS {a e:O} {n:Int} {r:O} (h:fB (app a (c e n r))):fB (app a (c e n z)):=by
 obtain⟨h1,h2,h3⟩:=h;rw[cY] at h1;rw[ff] at h2;rw[gK] at h3;refine⟨?_,?_,?_⟩
 ·rw[cY];have s1:size (c e n r)=1+size e+size r:=rfl;have s2:size (c e n z)=1+size e+0:=rfl
  (clear h2 h3;lia)
 ·rw[ff];refine Int.lt_of_le_of_lt (Int.max_le.mpr ⟨Int.le_max_left _ _,ydv (kr mx_hn mx_he ?_) (Int.le_max_right _ _)⟩) h2;exact ydv (mx_nonneg e) mx_he
 ·rw[gK];refine ycy (Nat.max_le.mpr ⟨le_max_left _ _,?_⟩) h3;exact ycy (Nat.max_le.mpr ⟨le_max_left _ _,zero_le _⟩) (le_max_right _ _)
theorem ir:∀a b d:O,app (app a b) d=app a (app b d)
 | z,_,_=>rfl
 | c e n r,b,d=>by
   show c e n (app (app r b) d)=c e n (app r (app b d));rw[ir r b d]
theorem oV {x:O}:∀{a b:O},Lt x (app a b)->Lt x b
 | z,_,h=>h
 | c _ _ _,_,h=>oV h.2
theorem lQ:∀{a e:O} {n:Int} {r:O},NF (app a (c e n r))->filt (λx _=>decide (0<cmp x e)) a=a/\same e a=0
 | z,_,_,_,_=>⟨rfl,rfl⟩
 | c x m a,e,n,r,h=>by
   obtain⟨_,_,h3,h4⟩:=h;obtain⟨i1,i2⟩:=lQ h4;have lt:cmp e x<0:=(oV h3).1;have gt:0<cmp x e:=by rw[aY];(clear i1 i2;lia)
   have ne:x≠e:=λz=>by rw[z,cmp_self] at gt;(clear i1 i2 lt;lia)
   refine⟨?_,?_⟩
   ·rw[filt_c,ycv (ydz gt),i1]
   ·rw[same_ne ne,i2]
theorem oW {a e:O} {n:Int} {r:O} (h:NF (app a (c e n r))):plusO a (c e n z)=app a (c e n z):=by
 obtain⟨h1,h2⟩:=lQ h;rw[plus_c,h1,h2,Int.zero_add]
noncomputable def RR (a:O):Prop:=NF a->fB a->∀(s:List cr) (st:List O),cu (dR a++s) st=cu s (a::st)
theorem ya {e:O} (he:e≠z) (hn:NF e):powO om e=c e 1 z:=by
 show powO (c (wh 1) 1 z) e=_;have h1:wh 1=c z 1 z:=rfl;rw[h1,pow_part (λh=>by cases h) he,jz hn];split<;> rfl
theorem oY {e:O} (he:e≠z) (hn:NF e) (ih:RR e) (hf:fB (c e 1 z)) (s:List cr) (st:List O):cu (nM e (dR e)++s) st=cu s (c e 1 z::st):=by
 unfold nM
 by_cases h1:e=c z 1 z
 ·rw[ycv h1,h1]
  rfl
 ·rw[ycw h1];show cu (dR e++[.op 94]++s) (om::st)=_;rw[append_assoc,ih hn (iq hf).1];show(if fB (bt 94 om e)/\(94=94->om=om) then cu s (bt 94 om e::st) else none)=_;have:bt 94 om e=c e 1 z:=by
   unfold bt;rw[ycw (by decide),ycw (by decide)];exact ya he hn
  rw[this,ycv ⟨hf,λ_=>rfl⟩]
theorem kz {e:O} {n:Int} (hn1:1<=n) (hn:NF e) (ih:RR e) (hf:fB (c e n z)) (s:List cr) (st:List O):cu (iU e n (dR e)++s) st=cu s (c e n z::st):=by
 unfold iU;have hw:wh n=c z n z:=ycw (by lia)
 by_cases he:e=z
 ·rw[ycv he,he];show cu s (wh n::st)=_;rw[hw]
 ·rw[ycw he];have hf1:=(iq hf).2.2 1 hn1
  by_cases h1:n=1
  ·rw[ycv h1,h1];exact oY he hn ih hf1 s st
  ·rw[ycw h1,append_assoc,oY he hn ih hf1];show(if fB (bt 42 (c e 1 z) (wh n))/\(42=94->c e 1 z=om) then cu s (bt 42 (c e 1 z) (wh n)::st) else none)=_;have:bt 42 (c e 1 z) (wh n)=c e n z:=by
    unfold bt;rw[ycw (by decide),ycv rfl,sg (by assumption),Int.one_mul]
   rw[this,ycv ⟨hf,λh=>absurd h (by decide)⟩]
noncomputable def MM (r:O):Prop:=∀a:O,NF (app a r)->fB (app a r)->∀(s:List cr) (st:List O),cu (ku r++s) (a::st)=cu s (app a r::st)
theorem kA:∀{a b:O},NF (app a b)->NF b
 | z,_,h=>h
 | c _ _ _,_,h=>kA h.2.2.2
theorem su {a e:O} {n:Int} {r:O} (h:fB (app a (c e n r))):fB (c e n r):=by
 obtain⟨h1,h2,h3⟩:=h;rw[cY] at h1;rw[ff] at h2;rw[gK] at h3;exact⟨by (clear h2 h3;lia),Int.lt_of_le_of_lt (Int.le_max_right _ _) h2,ycy (le_max_right _ _) h3⟩
mutual
theorem eK:∀a:O,RR a
 | z=>λ_ _ s st=>by unfold dR;rfl
 | c e n r=>λhn hf s st=>by
   unfold dR;obtain⟨f1,f2,f3⟩:=iq hf;rw[append_assoc,kz hn.2.1 hn.1 (eK e) (f3 n (Int.le_refl _)),lR r (c e n z) hn hf]
   rfl
theorem lR:∀r:O,MM r
 | z=>λa _ _ s st=>by
   unfold ku;rw[sd]
   rfl
 | c e n r=>λa hn hf s st=>by
   unfold ku;have hc:=kA hn;have fc:=su hf;rw[append_assoc,kz hc.2.1 hc.1 (eK e) ((iq fc).2.2 n (Int.le_refl _))];show(if fB (bt 43 a (c e n z))/\(43=94->a=om) then cu (ku r++s) (bt 43 a (c e n z)::st) else none)=_;have:bt 43 a (c e n z)=app a (c e n z):=by
    unfold bt;rw[ycv rfl,oW hn]
   have e1:app (app a (c e n z)) r=app a (c e n r):=by rw[ir];rfl
   rw[this,ycv ⟨uS hf,λh=>absurd h (by decide)⟩,lR r (app a (c e n z)) (by rw[e1];exact hn) (by rw[e1];exact hf),e1]
end
section
variable {fg:Nat->List Nat}
noncomputable def Cq:O->List cr
 | z=>[.num z,.op 43]
 | c e n r=>ku (c e n r)
theorem lS (F:dQ fg):∀(r:O) (d k:Nat) (s:List cr) (rest:List Nat),hZ r<=d->Tm r->Nx [42,94] rest->(bZ fg r++rest).length<=k->∃k',rest.length<=k'/\bd (bv (bn d)) 43 k s (bZ fg r++rest)=bd (bv (bn d)) 43 k' (s++ku r) rest
 | z,d,k,s,rest,_,_,hn,hk=>⟨k,hk,by
   show bd (bv (bn d)) 43 k s rest=_;unfold ku;rw[append_nil]⟩
 | c e n r,d,k,s,rest,hd,hT,hn,hk=>by
   have hd1:(if mS e=true∨e=om then 0 else hZ e+1)<=d:=ycy (le_max_left _ _) hd;have hd2:hZ r<=d:=ycy (le_max_right _ _) hd;have e1:bZ fg (c e n r)++rest=43::(dc fg e n (bH fg e)++(bZ fg r++rest)):=by
    show 43::bH fg (c e n r)++rest=_;rw[fM];simp
   rw[e1] at hk ⊢;rw[length_cons,length_append] at hk;obtain⟨k,rfl⟩:∃k',k=k'+1:=⟨k-1,by (clear hd hd1 hd2;lia)⟩;have hn2:Nx [42,94] (bZ fg r++rest):=by
    cases r with
    | z=>exact hn
    | c e n r=>exact Nx.cons (by decide) (by decide)
   rw[d3 (kx F hT.2.1.1 hT.2.1.2 hT.1 (gM F e) hd1 hn2)];obtain⟨k',h1,h2⟩:=lS F r d k (s++iU e n (dR e)++[.op 43]) rest hd2 hT.2.2 hn (by (clear hd hd1 hd2;lia));refine⟨k',h1,?_⟩;rw[h2]
   congr 1
   conv=>rhs;unfold ku
   simp
theorem oZ (d:Nat) {rest:List Nat} (hn:Nx [42,94] rest):bv (bn d) (48::rest)=some ([.num z],rest):=by
 have hw:Nx [] rest:=hn.less λx hx=>by cases hx
 have h94:Nx [94] rest:=hn.less λx hx=>by rw[mem_singleton.mp hx];decide
 have h42:Nx [42] rest:=hn.less λx hx=>by rw[mem_singleton.mp hx];decide
 have h1:bO (bn d) ([48]++rest)=some ([.num z],rest):=fh (gn (t:=[48]) (x:= .num z) (λy hy=>by cases mem_singleton.mp hy;rfl) rfl hw) h94;unfold bv;rw[show 48::rest=[48]++rest from rfl,h1];exact cA h42 _
theorem sw (F:dQ fg) (a:O) {d:Nat} {rest:List Nat} (hd:hZ a<=d) (hT:Tm a) (hn:Nx [42,94] rest):∃k',rest.length<=k'/\cx d (bH fg a++rest)=bd (bv (bn d)) 43 k' (dR a) rest:=by
 rw[dG];unfold cz;cases a with
 | z=>
   refine⟨_,ycx _,?_⟩;rw[show bH fg z++rest=48::rest from rfl,oZ d hn];unfold dR
   rfl
 | c e n r=>
   have hd1:(if mS e=true∨e=om then 0 else hZ e+1)<=d:=ycy (le_max_left _ _) hd;have hd2:hZ r<=d:=ycy (le_max_right _ _) hd;have hn2:Nx [42,94] (bZ fg r++rest):=by
    cases r with
    | z=>exact hn
    | c e n r=>exact Nx.cons (by decide) (by decide)
   rw[fM,append_assoc,kx F hT.2.1.1 hT.2.1.2 hT.1 (gM F e) hd1 hn2];obtain⟨k',h1,h2⟩:=lS F r d _ (iU e n (dR e)) rest hd2 hT.2.2 hn (ycx _);refine⟨k',h1,?_⟩;show bd (bv (bn d)) 43 (bZ fg r++rest).length (iU e n (dR e)) (bZ fg r++rest)=_;rw[h2]
   conv=>rhs;unfold dR
theorem uT (F:dQ fg) (a b:O) {d:Nat} {rest:List Nat} (hd:hZ a<=d) (hT:Tm a) (hd2:hZ b<=d) (hT2:Tm b) (hn:Nx [42,43,94] rest):cx d (bH fg a++(43::(bH fg b++rest)))=some (dR a++Cq b,rest):=by
 have h43:Nx [43] rest:=hn.less λx hx=>by rw[mem_singleton.mp hx];decide
 have hn2:Nx [42,94] rest:=hn.less λx hx=>by simp at hx ⊢;rcases hx with h | h<;> simp[h]
 obtain⟨k',h1,h2⟩:=sw F a (rest:=43::(bH fg b++rest)) hd hT (Nx.cons (by decide) (by decide));rw[h2];cases b with
 | z=>
   rw[length_cons] at h1;obtain⟨k,rfl⟩:∃k,k'=k+1:=⟨k'-1,by (clear hd hd2;lia)⟩;rw[show bH fg z++rest=48::rest from rfl,d3 (oZ d hn2),cA h43];show some (dR a++[.num z]++[.op 43],rest)=_;simp[Cq]
 | c e n r=>exact ky F (c e n r) d k' (dR a) rest hd2 hT2 hn h1
theorem sy (F:dQ fg) (a:O) {d:Nat} (hd:hZ a<=d) (hT:Tm a) {rest:List Nat}:aU (bn (d+1)) (40::(bH fg a++[41])++rest)=some (dR a,rest):=
 nN (gM F a d (41::rest) hd hT (Nx.cons (by decide) (by decide)))
theorem dM {d:Nat} {l rest:List Nat} {s:List cr} (h:bv (bn d) l=some (s,rest)) (hn:Nx [43] rest):cx d l=some (s,rest):=by
 rw[dG];unfold cz;rw[h];exact cA hn _
theorem fN {d:Nat} {l rest:List Nat} {s:List cr} (h:aU (bn d) l=some (s,rest)) (hn:Nx [42,94] rest):bv (bn d) l=some (s,rest):=by
 have h94:Nx [94] rest:=hn.less λx hx=>by rw[mem_singleton.mp hx];decide
 have h42:Nx [42] rest:=hn.less λx hx=>by rw[mem_singleton.mp hx];decide
 unfold bv;rw[fh h h94];exact cA h42 _
theorem sA (F:dQ fg) (a:O) {d:Nat} (hd:hZ a<=d) (hT:Tm a) {rest:List Nat} (hn:Nx [42,43,94] rest):cx (d+1) (40::(bH fg a++[41])++rest)=some (dR a,rest):=
 dM (fN (sy F a hd hT) (hn.less λx hx=>by simp at hx ⊢;rcases hx with h | h<;> simp[h])) (hn.less λx hx=>by rw[mem_singleton.mp hx];decide)
theorem uU (F:dQ fg) (a:O) {d:Nat} (hd:hZ a<=d) (hT:Tm a) {rest:List Nat} (hn:Nx [42,43,94] rest):cx (d+2) (40::((40::(bH fg a++[41]))++[41])++rest)=some (dR a,rest):=by
 have h1:=sA F a hd hT (rest:=41::rest) (Nx.cons (by decide) (by decide));exact dM (fN (nN (rd:=bn (d+2)) h1) (hn.less λx hx=>by simp at hx ⊢;rcases hx with h | h<;> simp[h])) (hn.less λx hx=>by rw[mem_singleton.mp hx];decide)
theorem sB (d:Nat) {rest:List Nat} (hn:Nx [94] rest):bO (bn d) (49::rest)=some ([.num (wh 1)],rest):=
 fh (gn (t:=[49]) (x:= .num (wh 1)) (λy hy=>by cases mem_singleton.mp hy;rfl) rfl (hn.less λx hx=>by cases hx)) hn
theorem uV (F:dQ fg) (a:O) {d:Nat} (hd:hZ a<=d) (hT:Tm a):cx (d+1) (49::42::(40::(bH fg a++[41])))=some (.num (wh 1)::dR a++[.op 42],[]):=by
 have h1:bO (bn (d+1)) (40::(bH fg a++[41]))=some (dR a,[]):=fh (by have:=sy F a hd hT (rest:=[]);rwa [append_nil] at this) Nx.nil;refine dM ?_ Nx.nil;unfold bv;rw[sB (d+1) (Nx.cons (by decide) (by decide))];show bd (bO (bn (d+1))) 42 (42::(40::(bH fg a++[41]))).length [.num (wh 1)] (42::(40::(bH fg a++[41])))=_;rw[length_cons,d3 h1,cA Nx.nil]
 rfl
theorem uW (F:dQ fg) (a:O) {d:Nat} (hd:hZ a<=d) (hT:Tm a):cx (d+1) (40::(bH fg a++[41])++[42,49])=some (dR a++[.num (wh 1),.op 42],[]):=by
 have h1:bO (bn (d+1)) (40::(bH fg a++[41])++[42,49])=some (dR a,[42,49]):=fh (sy F a hd hT) (Nx.cons (by decide) (by decide));refine dM ?_ Nx.nil;unfold bv;rw[h1];show bd (bO (bn (d+1))) 42 2 (dR a) [42,49]=_;rw[d3 (sB (d+1) Nx.nil),cA Nx.nil];simp
end
noncomputable def gz (l r:List Nat):Prop:=∃p,l=p++r
theorem gz.refl (l:List Nat):gz l l:=⟨[],rfl⟩
theorem gz.trans {l m r:List Nat} (h:gz l m) (g:gz m r):gz l r:=by
 obtain⟨p,rfl⟩:=h;obtain⟨q,rfl⟩:=g;exact⟨p++q,by rw[append_assoc]⟩
theorem gz.cons (x:Nat) (l:List Nat):gz (x::l) l:=⟨[x],rfl⟩
theorem gz.len {l r:List Nat} (h:gz l r):r.length<=l.length:=by
 obtain⟨p,rfl⟩:=h;rw[length_append];lia
theorem gz.drop {l r:List Nat} (h:gz l r):l.drop (l.length-r.length)=r:=by
 obtain⟨p,rfl⟩:=h;rw[length_append,Nat.add_sub_cancel];simp
noncomputable def qe (f:List Nat->Rd):Prop:=∀l s r,f l=some (s,r)->gz l r/\s.length+r.length<=l.length
theorem uX (l:List Nat):gz l (nJ l):=⟨dF l,(fz l).symm⟩
theorem sC {l:List Nat} {x:cr} (h:nK l=some x):1<=l.length:=by
 cases l with
 | nil=>simp[nK,bU,d0] at h
 | cons y l=>simp
theorem jC {rd:List Nat->Rd} (h:qe rd):qe (aU rd):=λl s r e=>by
 unfold aU at e;split at e
 ·rename_i l';split at e
  ·rename_i s' r' e';cases e;obtain⟨h1,h2⟩:=h _ _ _ e';refine⟨(gz.cons 40 l').trans (h1.trans (gz.cons 41 r)),?_⟩;rw[length_cons] at h2 ⊢;lia
  ·cases e
 ·split at e
  ·rename_i x e';cases e;refine⟨uX l,?_⟩;have h1:=sC e';have h2:=congrArg List.length (fz l);rw[length_append] at h2;simp only[length_cons,length_nil];lia
  ·cases e
theorem kB {rd:List Nat->Rd} (h:qe rd):qe (bO rd):=λl s r e=>by
 have ht:=jC h;unfold bO at e;split at e
 ·rename_i s1 r1 e1;obtain⟨a1,a2⟩:=ht _ _ _ e1;split at e
  ·rename_i s2 r2 e2;cases e;obtain⟨b1,b2⟩:=ht _ _ _ e2;refine⟨a1.trans ((gz.cons 94 r1).trans b1),?_⟩;rw[length_cons] at a2;simp only[length_append,length_cons,length_nil];lia
  ·cases e
 ·exact ht _ _ _ e
theorem iV {one:List Nat->Rd} (h:qe one) (x:Nat):∀(k:Nat) (s0:List cr) (l:List Nat) (s:List cr) (r:List Nat),bd one x k s0 l=some (s,r)->gz l r/\s.length+r.length<=s0.length+l.length
 | 0,s0,l,s,r,e=>by cases e;exact⟨gz.refl _,ycx _⟩
 | k+1,s0,l,s,r,e=>by
   unfold bd at e;split at e
   ·rename_i hx;split at e
    ·rename_i s2 r2 e2;obtain⟨a1,a2⟩:=h _ _ _ e2;obtain⟨b1,b2⟩:=iV h x k _ _ _ _ e;cases l with
     | nil=>cases hx
     | cons y l=>
       refine⟨(gz.cons y l).trans (a1.trans b1),?_⟩;simp only[length_append,length_cons,length_nil,List.tail_cons] at a2 b2 ⊢;lia
    ·cases e
   ·cases e;exact⟨gz.refl _,ycx _⟩
theorem iW {rd:List Nat->Rd} (h:qe rd):qe (bv rd):=λl s r e=>by
 unfold bv at e;split at e
 ·rename_i s1 r1 e1;obtain⟨a1,a2⟩:=kB h _ _ _ e1;obtain⟨b1,b2⟩:=iV (kB h) 42 _ _ _ _ _ e;exact⟨a1.trans b1,ycy b2 a2⟩
 ·cases e
theorem qf {rd:List Nat->Rd} (h:qe rd):qe (cz rd):=λl s r e=>by
 unfold cz at e;split at e
 ·rename_i s1 r1 e1;obtain⟨a1,a2⟩:=iW h _ _ _ e1;obtain⟨b1,b2⟩:=iV (iW h) 43 _ _ _ _ _ e;exact⟨a1.trans b1,ycy b2 a2⟩
 ·cases e
theorem dw:∀d,qe (bn d)
 | 0=>λ_ _ _ e=>by cases e
 | d+1=>by
   show qe (cx d);rw[dG];exact qf (dw d)
noncomputable def ie:cr->Prop
 | .num a=>a.NF/\fB a
 | .nam l=>d0 l=true
 | .op x=>x=43∨x=42∨x=94
noncomputable def sE (f:List Nat->Rd):Prop:=∀l s r,f l=some (s,r)->∀x,x∈s->ie x
theorem o0:∀(l:List Nat) (a:Nat),l.all cF=true->l.foldl (λa c=>a*10+(c-48)) a<(a+1)*10^l.length
 | [],a,_=>by simp
 | x::l,a,h=>by
   rw[all_cons,Bool.and_eq_true] at h;have hx:x<=57:=(of_decide_eq_true h.1).2;have:=o0 l (a*10+(x-48)) h.2;rw[foldl_cons,length_cons];refine ydw this ?_;rw[Nat.pow_succ,Nat.mul_comm (10^l.length) 10,←Nat.mul_assoc];exact Nat.mul_le_mul_right _ (by (clear this;lia))
theorem yb {n:Int} (h0:0<=n) (h1:n<10^100):(wh n).NF/\fB (wh n):=by
 by_cases hz:n=0
 ·subst hz;exact⟨trivial,by decide⟩
 ·have e:wh n=c z n z:=ycw hz;rw[e];refine⟨⟨trivial,by lia,trivial,trivial⟩,show 1+0+0<=400 by decide,?_,show max (0+1) 0<=30 by decide⟩;rw[mx_c];simp only[mx]
  (clear hz;lia)
theorem yc {l:List Nat} {x:cr} (h:nK l=some x):ie x:=by
 unfold nK at h;split at h
 ·cases h;exact⟨⟨⟨trivial,by decide,trivial,trivial⟩,by decide,trivial,trivial⟩,by decide⟩
 ·split at h
  ·rename_i hf;cases h;refine yb (Int.natCast_nonneg _) ?_;unfold bU at hf;simp only[Bool.and_eq_true,decide_eq_true_eq] at hf;have h1:=o0 l 0 hf.1.2;have h2:(0+1)*10^l.length<=10^60:=by rw[Nat.zero_add,Nat.one_mul];exact Nat.pow_le_pow_right (by decide) hf.1.1.2
   have h3:lP l<10^60:=ydw h1 h2;have h4:((lP l:Nat):Int)<((10^60:Nat):Int):=Int.ofNat_lt.mpr h3;exact Int.lt_of_lt_of_le h4 (by decide)
  ·split at h
   ·rename_i hn;cases h;exact hn
   ·cases h
theorem qg {rd:List Nat->Rd} (h:sE rd):sE (aU rd):=λl s r e x hx=>by
 unfold aU at e;split at e
 ·split at e
  ·rename_i s' r' e';cases e;exact h _ _ _ e' x hx
  ·cases e
 ·split at e
  ·rename_i y e';cases e;rw[mem_singleton.mp hx];exact yc e'
  ·cases e
theorem o3 {rd:List Nat->Rd} (h:sE rd):sE (bO rd):=λl s r e x hx=>by
 have ht:=qg h;unfold bO at e;split at e
 ·rename_i s1 r1 e1;split at e
  ·rename_i s2 r2 e2;cases e;rcases mem_append.mp hx with hx | hx
   ·rcases mem_append.mp hx with hx | hx
    ·exact ht _ _ _ e1 x hx
    ·exact ht _ _ _ e2 x hx
   ·rw[mem_singleton.mp hx];exact Or.inr (.inr rfl)
  ·cases e
 ·exact ht _ _ _ e x hx
theorem iX {one:List Nat->Rd} (h:sE one) {y:Nat} (hy:ie (.op y)):∀(k:Nat) (s0:List cr) (l:List Nat) (s:List cr) (r:List Nat),bd one y k s0 l=some (s,r)->(∀x,x∈s0->ie x)->∀x,x∈s->ie x
 | 0,s0,l,s,r,e,h0=>by cases e;exact h0
 | k+1,s0,l,s,r,e,h0=>by
   unfold bd at e;split at e
   ·split at e
    ·rename_i s2 r2 e2;refine iX h hy k _ _ _ _ e λx hx=>?_;rcases mem_append.mp hx with hx | hx
     ·rcases mem_append.mp hx with hx | hx
      ·exact h0 x hx
      ·exact h _ _ _ e2 x hx
     ·rw[mem_singleton.mp hx];exact hy
    ·cases e
   ·cases e;exact h0
theorem lT {rd:List Nat->Rd} (h:sE rd):sE (bv rd):=λl s r e=>by
 unfold bv at e;split at e
 ·rename_i s1 r1 e1;exact iX (o3 h) (Or.inr (.inl rfl)) _ _ _ _ _ e (o3 h _ _ _ e1)
 ·cases e
theorem qh {rd:List Nat->Rd} (h:sE rd):sE (cz rd):=λl s r e=>by
 unfold cz at e;split at e
 ·rename_i s1 r1 e1;exact iX (lT h) (Or.inl rfl) _ _ _ _ _ e (lT h _ _ _ e1)
 ·cases e
theorem jD:∀d,sE (bn d)
 | 0=>λ_ _ _ e=>by cases e
 | d+1=>by
   show sE (cx d);rw[dG];exact qh (jD d)
theorem uY {l:List Nat} {s:List cr} (h:cZ l=some s):∀x,x∈s->ie x:=by
 unfold cZ at h;split at h
 ·rename_i s' e;cases h;exact jD 21 _ _ _ e
 ·cases h
noncomputable def kC (nm:List Nat->Option O):List cr->Option (List cr)
 | []=>some []
 | .nam l::s=>match nm l with
   | some b=>(kC nm s).map (.num b:: ·)
   | none=>none
 | x::s=>(kC nm s).map (x:: ·)
noncomputable def cv (a:O):Prop:=a.NF/\a.size<=12/\mx a<=10^52
theorem big12:(10:Int)^52<10^60/\(10:Int)^52+10^52<10^100:=by decide
theorem cv.pt {e r:O} {n:Int} (h:cv (c e n r)):cv e/\cv r/\1<=n/\n<=10^52:=by
 obtain⟨h1,h2,h3⟩:=h;have hs:size (c e n r)=1+size e+size r:=rfl;exact⟨⟨h1.1,by (clear h3;lia),ydv mx_he h3⟩,⟨h1.2.2.2,by (clear h3;lia),ydv mx_hr h3⟩,h1.2.1,ydv mx_hn h3⟩
theorem cv.tm:∀{a:O},cv a->Tm a
 | z,_=>trivial
 | c e n r,h=>by
   obtain⟨h1,h2,h3,h4⟩:=h.pt;exact⟨h1.tm,⟨h3,Int.lt_of_le_of_lt h4 big12.1⟩,h2.tm⟩
theorem eL:∀a:O,hZ a<=a.size
 | z=>ycx _
 | c e n r=>by
   have h1:=eL e;have h2:=eL r;have hs:size (c e n r)=1+size e+size r:=rfl;show max (if mS e=true∨e=om then 0 else hZ e+1) (hZ r)<=_;split<;> lia
theorem cv.fts {a:O} (h:cv a):fB a:=by
 have h1:=dp_le_size a;have h2:=h.2.1;exact⟨by lia,Int.lt_of_le_of_lt h.2.2 (by decide),by lia⟩
theorem uZ {a b:O} (ha:cv a) (hb:cv b):fB (plusO a b):=by
 have h1:=qc a b;have h2:=dp_plus a b;have h3:=uN (b:=b) ha.1;have d1:=dp_le_size a;have d2:=dp_le_size b;have s1:=ha.2.1;have s2:=hb.2.1;exact⟨by (clear h2 h3 d1 d2;lia),Int.lt_of_le_of_lt h3 (Int.lt_of_le_of_lt (Int.add_le_add ha.2.2 hb.2.2) big12.2),by (clear h1 h3;lia)⟩
theorem o4 {x:O}:∀{a b:O},Lt x (app a b)->Lt x a
 | z,_,_=>trivial
 | c _ _ _,_,h=>⟨h.1,o4 h.2⟩
theorem kD:∀{a b:O},NF (app a b)->NF a
 | z,_,_=>trivial
 | c _ _ _,_,h=>⟨h.1,h.2.1,o4 h.2.2.1,kD h.2.2.2⟩
theorem cv.cut {p e r:O} {n:Int} (h:cv (app p (c e n r))):cv (app p (c e n z))/\cv (c e n r):=by
 obtain⟨h1,h2,h3⟩:=h;rw[cY] at h2;rw[ff] at h3;have hs:size (c e n r)=1+size e+size r:=rfl;have hc:mx (c e n z)<=mx (c e n r):=kr mx_hn mx_he (ydv (mx_nonneg e) mx_he);refine⟨⟨?_,?_,?_⟩,kA h1,by (clear h3 hc;lia),ydv (Int.le_max_right _ _) h3⟩
 ·have e1:app (app p (c e n z)) r=app p (c e n r):=by rw[ir];rfl
  rw[←e1] at h1;exact kD h1
 ·rw[cY];show size p+(1+size e+0)<=12
  (clear h3 hc;lia)
 ·rw[ff];exact ydv (Int.max_le.mpr ⟨Int.le_max_left _ _,ydv hc (Int.le_max_right _ _)⟩) h3
theorem lU {a:O} (ha:cv a):∀(r p:O),cv (app p r)->∀(s:List cr) (st:List O),cu (ku r++s) (plusO a p::st)=cu s (plusO a (app p r)::st)
 | z,p,_,s,st=>by
   unfold ku;rw[sd]
   rfl
 | c e n r,p,h,s,st=>by
   unfold ku;obtain⟨h1,h2⟩:=h.cut;obtain⟨he,hr,hn1,hn2⟩:=h2.pt;have hc:cv (c e n z):=by
    have:=cv.cut (p:=z) (e:=e) (n:=n) (r:=r) h2;exact this.1
   rw[append_assoc,kz hn1 he.1 (eK e) hc.fts];show(if fB (bt 43 (plusO a p) (c e n z))/\(43=94->plusO a p=om) then cu (ku r++s) (bt 43 (plusO a p) (c e n z)::st) else none)=_;have e2:bt 43 (plusO a p) (c e n z)=plusO a (app p (c e n z)):=by
    unfold bt;rw[ycv rfl,nF ha.1 (kD h.1) hc.1,oW h.1]
   have e1:app (app p (c e n z)) r=app p (c e n r):=by rw[ir];rfl
   rw[e2,ycv ⟨uZ ha h1,λh=>absurd h (by decide)⟩,lU ha r (app p (c e n z)) (by rw[e1];exact h),e1]
section
variable {fg:Nat->List Nat} (F:dQ fg) {a b:O}
theorem d4 {l:List Nat} {s:List cr} (h:cx 20 l=some (s,[])):cZ l=some s:=by unfold cZ;rw[h]
theorem o5 (F:dQ fg) (h:cv a):cZ (bH fg a)=some (dR a)/\cu (dR a) []=some [a]:=by
 have hb:=eL a;have hs:=h.2.1;refine⟨d4 ?_,?_⟩
 ·have:=gM F a 20 [] (by lia) h.tm Nx.nil
  rwa [append_nil] at this
 ·have:=eK a h.1 h.fts [] []
  rwa [append_nil] at this
theorem o6 (F:dQ fg) (h:cv a) (h2:cv b):∃s,cZ (bH fg a++43::bH fg b)=some s/\cu s []=some [plusO a b]:=by
 have hb:=eL a;have hs:=h.2.1;have hb2:=eL b;have hs2:=h2.2.1;refine⟨dR a++Cq b,d4 ?_,?_⟩
 ·have:=uT F a b (d:=20) (rest:=[]) (by (clear hb2 hs2;lia)) h.tm (by (clear hb hs;lia)) h2.tm Nx.nil
  rwa [append_nil] at this
 ·rw[eK a h.1 h.fts];cases b with
  | z=>
    show(if fB (bt 43 a z)/\(43=94->a=om) then cu [] (bt 43 a z::[]) else none)=_;have e:bt 43 a z=a:=rfl;rw[e,ycv ⟨h.fts,λh=>absurd h (by decide)⟩]
    rfl
  | c e n r=>
    have:=lU h (c e n r) z h2 [] [];rw[append_nil] at this;exact this
theorem Ah (F:dQ fg) (h:cv a):cZ (40::(bH fg a++[41]))=some (dR a):=by
 have hb:=eL a;have hs:=h.2.1;have:=sA F a (d:=19) (by lia) h.tm (rest:=[]) Nx.nil;rw[append_nil] at this;exact d4 this
theorem yd (F:dQ fg) (h:cv a):cZ (40::40::(bH fg a++[41,41]))=some (dR a):=by
 have hb:=eL a;have hs:=h.2.1;have:=uU F a (d:=18) (by lia) h.tm (rest:=[]) Nx.nil;rw[append_nil] at this;refine d4 ?_;rw[←this];simp
theorem u0 (F:dQ fg) (h:cv a):∃s,cZ (49::42::40::(bH fg a++[41]))=some s/\cu s []=some [a]:=by
 have hb:=eL a;have hs:=h.2.1;refine⟨_,d4 (uV F a (d:=19) (by lia) h.tm),?_⟩;show cu (dR a++[.op 42]) [wh 1]=_;rw[eK a h.1 h.fts];show(if fB (bt 42 (wh 1) a)/\(42=94->wh 1=om) then cu [] (bt 42 (wh 1) a::[]) else none)=_;have e:bt 42 (wh 1) a=a:=jz h.1;rw[e,ycv ⟨h.fts,λh=>absurd h (by decide)⟩]
 rfl
theorem u3 (F:dQ fg) (h:cv a):∃s,cZ (40::(bH fg a++[41,42,49]))=some s/\cu s []=some [a]:=by
 have hb:=eL a;have hs:=h.2.1;have h1:=uW F a (d:=19) (by lia) h.tm;refine⟨_,d4 (by rw[←h1];simp),?_⟩;rw[eK a h.1 h.fts];show(if fB (bt 42 a (wh 1))/\(42=94->a=om) then cu [] (bt 42 a (wh 1)::[]) else none)=_;have e:bt 42 a (wh 1)=a:=qd;rw[e,ycv ⟨h.fts,λh=>absurd h (by decide)⟩]
 rfl
end
noncomputable def lV (p:Nat->Bool):List Nat->Nat
 | []=>0
 | cc::l=>if p cc then lV p l+1 else 0
noncomputable def Ai (l:List Nat):Option Nat:=
 if 0<lV fK l/\lV fK l<=8 then some (lV fK l)
 else if 0<lV cF l/\lV cF l<=60/\(l.head?≠some 48∨lV cF l=1) then some (lV cF l)
 else none
noncomputable def Cr (l:List Nat) (f:List (List Nat)):List (List Nat):=if l.head?.any fK=true/\l≠[119] then l::f else f
noncomputable def qi:Nat->Bool->List Bool->Bool->List Nat->Option (List (List Nat))
 | _,w,ab,_,[]=>if w=true∨ab≠[] then none else some []
 | 0,_,_,_,_::_=>none
 | n+1,w,ab,x,cc::l=>
   if cc=40 then (if w=true/\ab.length<20 then qi n true (x::ab) false l else none)
   else if w=true then match Ai (cc::l) with
    | some k=>(qi n false ab x ((cc::l).drop k)).map (Cr ((cc::l).take k))
    | none=>none
   else if cc=41 then match ab with
    | y::ab=>qi n false ab y l
    | []=>none
   else if cc=94 then (if x=true then none else qi n true ab true l)
   else if cc=43∨cc=42 then qi n true ab false l
   else none
noncomputable def sc (w:Bool) (ab:List Bool) (x:Bool) (l:List Nat):Option (List (List Nat)):=qi l.length w ab x l
end Nm
namespace L2
open PySem PySem.Spec PyProof.Rows Nm
noncomputable def am:O->List W
 | .z=>[]
 | .c e n r=> .tup [.tup (am e),.int n]::am r
noncomputable def eT (o:O):W:= .tup (am o)
noncomputable def dm (e:O) (n:Int):W:= .tup [eT e,.int n]
theorem ye:am .z=[]:=rfl
theorem bu (e:O) (n:Int) (r:O):am (.c e n r)=dm e n::am r:=rfl
theorem aB:∀a:O,(am a).length=a.len
 | .z=>rfl
 | .c e n r=>by rw[bu,length_cons,aB r];rfl
theorem sF {e:O} {n:Int} (h:W.flats (am e)=true):(dm e n).flat=true:=by
 simp[dm,eT,W.flat,W.flats,h]
theorem cG:∀a:O,W.flats (am a)=true
 | .z=>by simp[am,W.flats]
 | .c e n r=>by
   rw[bu];simp[W.flats,sF (cG e),cG r]
theorem sG (a:O):(eT a).flat=true:=by simp[eT,W.flat,cG a]
theorem gq:∀a:O,W.deps (am a)<=2*a.dp
 | .z=>by simp[am,W.deps]
 | .c e n r=>by
   have h1:=gq e;have h2:=gq r;rw[bu];simp only[W.deps,dm,eT,W.dep,O.dp];lia
theorem u4 (a:O):(eT a).dep<=2*a.dp+1:=by
 have:=gq a;simp only[eT,W.dep];lia
theorem iu:∀a b:O,W.eqs (am a) (am b)=decide (a=b)
 | .z,.z=>by simp[am,W.eqs]
 | .z,.c _ _ _=>by simp[am,W.eqs]
 | .c _ _ _,.z=>by simp[am,W.eqs]
 | .c e n r,.c e' n' r'=>by
   have h1:=iu e e';have h2:=iu r r';simp only[am,W.eqs,W.eq_tup,W.eq_int,h1,h2,Bool.and_true];rw[Bool.eq_iff_iff];simp only[Bool.and_eq_true,decide_eq_true_eq,beq_iff_eq,O.c.injEq];constructor
   ·rintro⟨⟨a,b⟩,c⟩;exact⟨a,b,c⟩
   ·rintro⟨a,b,c⟩;exact⟨⟨a,b⟩,c⟩
theorem nO (a b:O):(eT a).eq (eT b)=decide (a=b):=iu a b
theorem yf (e e':O) (n n':Int):(dm e n).eq (dm e' n')=(decide (e=e')&&decide (n=n')):=by
 have:=nO e e';simp only[dm,W.eq_tup,W.eq_int,W.eqs,this,Bool.and_true]
 congr 1
theorem dH (a b:O):(W.tup (am a)).eq (W.tup (am b))=decide (a=b):=nO a b
theorem aD (a:O):(W.tup (am a)).flat=true:=sG a
theorem bD (a:O):(W.tup (am a)).dep<=2*a.dp+1:=u4 a
noncomputable def gP (n m:Int):Int:=if n<m then -1 else if m<n then 1 else 0
noncomputable def nP (e:O) (n:Int) (e':O) (n':Int):Int:=if O.cmp e e'≠0 then O.cmp e e' else gP n n'
theorem wB (e:O) (n:Int) (r e':O) (n':Int) (r':O):O.cmp (.c e n r) (.c e' n' r')=if nP e n e' n'≠0 then nP e n e' n' else O.cmp r r':=by
 unfold nP gP;rw[O.cmp]
 by_cases h:O.cmp e e'=0
 ·rcases Int.lt_trichotomy n n' with k | k | k
  ·have k':¬n'<n:=by (clear h;lia)
   simp[h,k]
  ·subst k;simp[h]
  ·have k':¬n<n':=by (clear h;lia)
   simp[h,k,k']
 ·simp[h]
theorem o7 (n m:Int):b2i (decide (m<n))-b2i (decide (n<m))=gP n m:=by
 unfold gP;rcases Int.lt_trichotomy n m with k | k | k
 ·have k':¬m<n:=by lia
  simp[b2i,k,k']
 ·subst k;simp[b2i]
 ·have k':¬n<m:=by lia
  simp[b2i,k,k']
theorem sH {a b:O} (h:am a=am b):a=b:=by
 have:=iu a b;rw[h,W.eqs_refl _ (cG b)] at this;simpa using this.symm
theorem d5:∀a b:O,am (a.app b)=am a++am b
 | .z,b=>by simp[O.app,am]
 | .c e n r,b=>by
   show am (.c e n (r.app b))=_;rw[bu,bu,d5 r b]
   rfl
theorem Aj {α:Type} (x:α) (xs:List α):eg (x::xs) 0=some x:=by
 simp[eg,qX]
theorem Ak {α:Type} (x y:α) (xs:List α):eg (x::y::xs) 1=some y:=by
 have h:(1:Int)<((xs.length:Int)+1+1):=by lia
 simp[eg,qX,h]
theorem sI (i:Int):(W.int i).flat=true:=by simp[W.flat]
theorem u5 (i:Int):(W.int i).dep=0:=by simp[W.dep]
theorem nQ (i j:Int):(W.int i).eq (W.int j)=(i==j):=rfl
theorem sJ:(W.tup []).flat=true:=by simp[W.flat,W.flats]
theorem u6:(W.tup []).dep=1:=by simp[W.dep,W.deps]
theorem bh (a:O):(W.tup (am a)).eq (W.tup [])=decide (a=.z):=nO a .z
theorem Cs (i j:Int):(i==j)=decide (i=j):=by
 by_cases h:i=j<;> simp[h]
theorem aL.done {G:Gp} {q:Gp->Prop} (h:q G):∃G0,aL G0 G/\q G0:=⟨G,aL.refl G,h⟩
theorem ca {C:Gp->Prop} {g:WG} {tb:WS} {d:dU} (Iv:List W->de->Gp->Prop) (stop:∀τ G,Iv [] τ G->C G/\d.nx τ G)
 (step:∀w ws τ G (k:de->Gp->Prop),Iv (w::ws) τ G->(∀τ3 G3,Iv ws τ3 G3->k τ3 G3)->C G/\g w τ G λτ2 G2=>tb { d with nx:=k,ct:=k,bk:=d.nx } τ2 G2):∀ws τ G,Iv ws τ G->iJ C g tb d ws τ G
 | [],τ,G,h=>stop τ G h
 | w::ws,τ,G,h=>step w ws τ G _ h λτ3 G3 h3=>ca Iv stop step ws τ3 G3 h3
theorem u7 {x y:O} (h:dP (am x) (am y)=[]):x=.z∨y=.z:=by
 cases x with
 | z=>exact .inl rfl
 | c e n r=>
   cases y with
   | z=>exact .inr rfl
   | c e' n' r'=>simp[am,dP] at h
theorem sK {x y:O} {w:W} {ws:List W} (h:dP (am x) (am y)=w::ws):∃e n r e' n' r',x=.c e n r/\y=.c e' n' r'/\w=.tup [dm e n,dm e' n']/\ws=dP (am r) (am r'):=by
 cases x with
 | z=>simp[am,dP] at h
 | c e n r=>
   cases y with
   | z=>simp[am,dP] at h
   | c e' n' r'=>
     rw[bu,bu] at h;simp only[dP,List.cons.injEq] at h;exact⟨e,n,r,e',n',r',rfl,rfl,h.1.symm,h.2.symm⟩
theorem kE {n m:Int} (h:n<m):gP n m= -1:=by unfold gP;rw[ycv h]
theorem kF {n m:Int} (h:m<n):gP n m=1:=by unfold gP;rw[ycw (by lia),ycv h]
theorem jE (n:Int):gP n n=0:=by unfold gP;simp
theorem lW {x y:O} (h:x=.z∨y=.z):O.cmp x y=gP x.len y.len:=by
 rcases h with rfl | rfl
 ·cases y with
  | z=>rfl
  | c e n r=>rw[kE (by simp only[O.len];lia)];rfl
 ·cases x with
  | z=>rfl
  | c e n r=>rw[kF (by simp only[O.len];lia)];rfl
theorem nR {a b x y:Nat} (h:a+y=b+x):gP (a:Int) (b:Int)=gP (x:Int) (y:Int):=by
 rcases Nat.lt_trichotomy x y with k | k | k
 ·rw[kE (by lia),kE (by (clear h;lia))]
 ·have:a=b:=by lia
  subst k this;rw[jE,jE]
 ·rw[kF (by lia),kF (by (clear h;lia))]
theorem iY:∀(a:O) (i:Nat),(am a)[i]?=(a.getP i).map λp=>dm p.1 p.2
 | .z,i=>by simp[am,O.getP]
 | .c e n r,0=>by rw[bu];rfl
 | .c e n r,i+1=>by
   rw[bu];simpa[O.getP] using iY r i
theorem kG {a:O} {e:O} {n:Int} (h:a.getP i=some (e,n)):eg (am a) (i:Int)=some (dm e n):=cL (by rw[iY,h];rfl)
theorem jF:∀(i:Nat) (a:O),(am a).drop i=am (O.dropO i a)
 | 0,a=>rfl
 | i+1,.z=>by simp[am,O.dropO]
 | i+1,.c e n r=>by
   rw[bu];simpa[O.dropO] using jF i r
theorem gQ:∀(i:Nat) (a:O),(am a).take i=am (O.takeO i a)
 | 0,a=>by simp[O.takeO,am]
 | i+1,.z=>by simp[am,O.takeO]
 | i+1,.c e n r=>by
   rw[bu,List.take_succ_cons,gQ i r]
   rfl
theorem sL (xs:List W) (k:Nat):dt xs none (some (k:Int))=xs.take k:=by
 unfold dt;rw[HT.sIx_none,HT.sIx_nat,drop_zero,Nat.sub_zero];rcases Nat.le_total k xs.length with h | h
 ·rw[Nat.min_eq_left h]
 ·rw[Nat.min_eq_right h,take_length,take_of_length_le h]
theorem iZ (xs:List W) (k:Nat):dt xs (some (k:Int)) none=xs.drop k:=by
 unfold dt;rw[HT.sIx_none,HT.sIx_nat];rcases Nat.le_total k xs.length with h | h
 ·rw[Nat.min_eq_left h];exact take_of_length_le (by rw[length_drop];(clear h;lia))
 ·rw[Nat.min_eq_right h,List.drop_length,List.drop_of_length_le h];simp
theorem u9 (xs:List W):dt xs none (some (-1))=xs.take (xs.length-1):=by
 unfold dt;have e:HT.sIx xs.length xs.length (some (-1))=xs.length-1:=by
  show(if (-1:Int)<0 then ((-1:Int)+(xs.length:Int)).toNat else min (-1:Int).toNat xs.length)=_;rw[ycv (by lia)];lia
 rw[HT.sIx_none,e,drop_zero,Nat.sub_zero]
theorem qj (xs:List W):dt xs (some (-1)) none=xs.drop (xs.length-1):=by
 unfold dt;have e:HT.sIx xs.length 0 (some (-1))=xs.length-1:=by
  show(if (-1:Int)<0 then ((-1:Int)+(xs.length:Int)).toNat else min (-1:Int).toNat xs.length)=_;rw[ycv (by lia)];lia
 rw[HT.sIx_none,e];exact take_of_length_le (by rw[length_drop];(clear e;lia))
theorem jG:∀a:O,O.takeO (a.len-1) a=O.init a
 | .z=>rfl
 | .c _ _ .z=>rfl
 | .c e n (.c e' n' r')=>by
   have h:=jG (.c e' n' r');simp only[O.len,Nat.add_sub_cancel] at h ⊢;rw[O.takeO,h];simp[O.init]
theorem jH:∀a:O,O.dropO (a.len-1) a=O.last a
 | .z=>rfl
 | .c _ _ .z=>rfl
 | .c e n (.c e' n' r')=>by
   have h:=jH (.c e' n' r');simp only[O.len,Nat.add_sub_cancel] at h ⊢;rw[O.dropO,h];simp[O.last]
theorem lX (a:O):dt (am a) none (some (-1))=am (O.init a):=by rw[u9,aB,gQ,jG]
theorem sM (a:O):dt (am a) (some (-1)) none=am (O.last a):=by rw[qj,aB,jF,jH]
theorem nS:∀{a:O},a≠ .z->∃e n,O.last a=.c e n .z/\a.getP (a.len-1)=some (e,n)
 | .z,h=>absurd rfl h
 | .c e n .z,_=>⟨e,n,rfl,rfl⟩
 | .c e n (.c e' n' r'),_=>by
   obtain⟨x,m,h1,h2⟩:=nS (a:= .c e' n' r') (by simp);refine⟨x,m,?_,?_⟩
   ·rw[←h1];simp[O.last]
   ·simp only[O.len,Nat.add_sub_cancel] at h2 ⊢;rw[←h2];simp[O.getP]
theorem sN {xs:List W} {w:W} (h:xs[xs.length-1]?=some w):eg xs (-1)=some w:=by
 have hl:xs.length-1<xs.length:=(List.getElem?_eq_some_iff.mp h).1;unfold eg qX;rw[ycw (by (clear h hl;lia)),ycv (by (clear h;lia))];show xs[((-1:Int)+(xs.length:Int)).toNat]?=some w;rw[←h]
 congr 1
 (clear h;lia)
theorem eM {a:O} {e:O} {n:Int} (h:a.getP (a.len-1)=some (e,n)):eg (am a) (-1)=some (dm e n):=sN (by rw[aB,iY,h];rfl)
theorem i4:∀a b:O,W.ords (am a) (am b)=true/\W.lts (am a) (am b)=decide (O.cmp a b<0)
 | .z,.z=>by simp[am,W.ords,W.lts,O.cmp]
 | .z,.c _ _ _=>by simp[am,W.ords,W.lts,O.cmp]
 | .c _ _ _,.z=>by simp[am,W.ords,W.lts,O.cmp]
 | .c e n r,.c e' n' r'=>by
   obtain⟨o1,l1⟩:=i4 e e';obtain⟨o2,l2⟩:=i4 r r';rw[bu,bu,W.ords,W.lts,yf]
   by_cases h:(decide (e=e')&&decide (n=n'))=true
   ·rw[ycv h,ycv h];have h':e=e'/\n=n':=by simpa using h
    obtain⟨rfl,rfl⟩:=h';refine⟨o2,?_⟩;rw[l2,O.cmp,ycw (by rw[O.cmp_self];simp),ycw (by (clear l2 l1 h;lia)),ycw (by (clear l2 l1 h;lia))]
   ·rw[ycw h,ycw h];have ee:(W.tup (am e)).eq (W.tup (am e'))=decide (e=e'):=dH e e';unfold dm eT;rw[W.ord,W.lt,W.ords,W.lts,ee]
    by_cases q:e=e'
    ·subst q;rw[ycv (by simp),ycv (by simp),W.ords,W.lts];have hn:¬n=n':=λz=>h (by simp[z]);rw[nQ,ycw (by simpa using hn),ycw (by simpa using hn),W.ord,W.lt];refine⟨rfl,?_⟩;rw[O.cmp,ycw (by rw[O.cmp_self];simp)]
     by_cases k:n<n'
     ·rw[ycv k];simp[k]
     ·rw[ycw k,ycv (by (clear l2 l1 h;lia))];simp[k]
    ·rw[ycw (by simpa using q),ycw (by simpa using q),W.ord,W.lt];refine⟨o1,?_⟩;rw[l1,O.cmp,ycv (λz=>q (O.cmp_eq _ _ z))]
theorem jI (a:O) (h:a.dp<=70):W.deps (am a)<=149:=by
 have:=gq a;lia
noncomputable def Df (K:yav) (mg:yew) (x:Str) (st:Stmt) (ps:List Str):Prop:=∃(f:Addr) (fd:FuncData),cJ K x x st f fd/\bJ K fd ps []/\mg x=some (.ref f)
theorem Df.fx {sp:bM} (D:Df K mg x st ps) (h:∀(f:Addr) (fd:FuncData),cJ K x x st f fd->cq P w K mg base k f fd ps sp):Fx P w K mg base x ps k sp:=by
 obtain⟨f,fd,F,b,m⟩:=D;exact⟨f,fd,h f fd F,m,F.kp,b⟩
noncomputable def jJ:bM:=λws _ q _=>∃ns:List Int,ws=[.scr ns]/\ns.length<=63/\∀G',q (.bl true) G'
theorem yg {H:Hp} {ns:List Int} (hO:q0 H) (hS:dy K H a (ns.map V.int)):we K H a ns:=by
 rcases hS with(h | h) | h
 ·rcases hO a with z | ⟨o,xs,z⟩
  ·rw[z] at h;cases h
  ·rw[z] at h;cases h
 ·exact .inl h
 ·exact .inr h
theorem qk {H:Hp} {ns:List Int} (hO:q0 H) (hS:dy K H a (ns.map V.int)) (hl:ns.length<=63):ur K jJ [.ref a] H (λv _=>v=.bl true) λ_ _ _=>False:=
 ⟨[.scr ns],λ_=>none,λw _=>w=.bl true,λ_ _=>False,.cons (.scr (yg hO hS)) .nil,λ_ _ e=>(by cases e),⟨ns,rfl,hl,λ_=>rfl⟩,λv H1 w G1 _ r _ e=>(by subst e;cases r;rfl),λ_ _ _ _ _ _ z=>z⟩
noncomputable def bX (os:List O):List W:=os.map λo=> .tup (am o)
theorem bE (os:List O):(bX os).length=os.length:=length_map _
theorem lY {os:List O} {o:O} (h:os[i]?=some o):(bX os)[i]?=some (.tup (am o)):=by
 unfold bX;rw[List.getElem?_map,h];rfl
theorem vc {os:List O} {i:Int} (h0:0<=i) (h1:i<os.length):∃o,o∈os/\eg (bX os) i=some (.tup (am o)):=by
 have hl:i.toNat<os.length:=by lia
 have e:((i.toNat:Nat):Int)=i:=Int.toNat_of_nonneg h0;have q:=cL (lY (ycz hl));rw[e] at q;exact⟨_,getElem_mem hl,q⟩
theorem d6 (os:List O) (o:O):bX os++[.tup (am o)]=bX (os++[o]):=by simp[bX]
theorem sO {i j:Int} (h:0<j):0<=i%j/\i%j<j:=⟨Int.emod_nonneg _ (by lia),Int.emod_lt_of_pos _ h⟩
theorem i6 {os:List O} {X n:Int} {R:W->Prop} (hn:n=(os.length:Int)) (h0:0<os.length) (hR:∀o,o∈os->R (.tup (am o))):∃w,eg (bX os) (X%n)=some w/\R w:=by
 have h:=sO (i:=X) (j:=n) (by lia);obtain⟨o,m,e⟩:=vc (os:=os) (i:=X%n) h.1 (by (clear h0;lia));exact⟨_,e,hR o m⟩
theorem sP {os:List O} {R:W->Prop} (h:i<os.length) (hR:∀o,o∈os->os[i]?=some o->R (.tup (am o))):∃w,eg (bX os) (i:Int)=some w/\R w:=
 ⟨_,cL (lY (ycz h)),hR _ (getElem_mem h) (ycz h)⟩
theorem sQ {A B X lo hi:Int} {R:W->Prop} (hA:lo<=A/\A<hi) (hB:lo<=B/\B<hi) (hR:∀m,lo<=m->m<hi->R (.int m)):∃w,eg [W.int A,W.int B] (X%2)=some w/\R w:=by
 have h:=sO (i:=X) (j:=2) (by (clear hA hB;lia));have k:X%2=0∨X%2=1:=by (clear hA hB;lia)
 rcases k with k | k
 ·rw[k];exact⟨_,Aj _ _,hR A hA.1 hA.2⟩
 ·rw[k];exact⟨_,Ak _ _ _,hR B hB.1 hB.2⟩
theorem yh (j:Int):xh 10 j=(0<=j/\j<=1000000):=by
 unfold xh;have:(10:Int).natAbs<2^64:=by decide
 simp[this]
theorem aN {t u:WS} {d:dU} {τ:de} {G:Gp} (h:∀U:WS,U=u->t { d with nx:=U d } τ G):xJ t u d τ G:=h u rfl
theorem bF {G:Gp} {a b:Addr} {g g':GO} (h:G b=some g') (ha:G a=none):aV G a g b=some g':=by
 rw[aO (λz=>by rw[z,ha] at h;cases h)];exact h
theorem d7 (p:O->Int->Bool):∀a:O,(a.filt p).len<=a.len
 | .z=>ycx _
 | .c e n r=>by
   have:=d7 p r;rw[O.filt_c];split<;> simp only[O.len]<;> lia
theorem wD {xs:List W} {i:Int} {R:List W->W->Prop} (h:∃w,eg xs i=some w/\R xs w):∃xs' w,xs=xs'/\eg xs' i=some w/\R xs' w:=by
 obtain⟨w,e,r⟩:=h;exact⟨xs,w,rfl,e,r⟩
theorem fi {g:Option GO} {xs:List W} {i:Int} {R:List W->W->Prop} (e:g=some (.lst xs)) (h:∃w,eg xs i=some w/\R xs w):∃xs' w,g=some (.lst xs')/\eg xs' i=some w/\R xs' w:=by
 obtain⟨w,e',r⟩:=h;exact⟨xs,w,e,e',r⟩
theorem vd (G:Gp) (i:Int):pV G (.int i)=some "int":=rfl
theorem yi (G:Gp) (b:Bool):pV G (.bl b)=some "bool":=rfl
theorem ve (G:Gp) (ws:List W):pV G (.tup ws)=some "tuple":=rfl
theorem vf (G:Gp):pV G .non=some "NoneType":=rfl
theorem vg:fS "int" "int"=true:=by decide
theorem vh:fS "int" "bool"=false:=by decide
theorem vi:fS "int" "tuple"=false:=by decide
theorem vj:fS "bool" "int"=true:=by decide
theorem vk:fS "bool" "bool"=true:=by decide
theorem vm:fS "bool" "tuple"=false:=by decide
theorem vn:fS "tuple" "tuple"=true:=by decide
theorem vo:fS "tuple" "int"=false:=by decide
theorem vp:fS "tuple" "bool"=false:=by decide
theorem vq:fS "list" "list"=true:=by decide
theorem vt:fS "NoneType" "tuple"=false:=by decide
theorem yj:((0:Nat):Int)=0:=rfl
theorem yk:((1:Nat):Int)=1:=rfl
theorem ym:((2:Nat):Int)=2:=rfl
theorem yn:((3:Nat):Int)=3:=rfl
theorem kH {c:WT} {tb:WS} {d:dU} {τ:de} {G:Gp} (I:Nat->de->Gp->Prop) (h0:∃m,I m τ G)
 (h:∀m τ G,I m τ G->∀B:WS,B=tb->c τ G λb G1=>if b=true then ∃N:de->Gp->Prop,(∀τ1 G1,N τ1 G1->∃m1,m1<m/\I m1 τ1 G1)/\B { d with nx:=N,ct:=N,bk:=d.nx } τ G1 else d.nx τ G1):ro c tb d τ G:=
 ⟨I,h0,λm τ G hI=>h m τ G hI tb rfl⟩
theorem Ct {α:Type} (x y v:α) (xs:List α):eg (x::y::v::xs) 2=some v:=cL (j:=2) rfl
theorem lZ (n i:Nat) (h:i<n):(qy n).drop i=.int (i:Int)::(qy n).drop (i+1):=by
 have hl:i<(qy n).length:=by simp[qy,h]
 rw[drop_eq_getElem_cons hl]
 congr 1
 simp[qy]
theorem vv {C:Gp->Prop} {g:WG} {tb:WS} {d:dU} {τ:de} {G:Gp} (n:Nat) (Iv:Nat->de->Gp->Prop) (h0:Iv 0 τ G) (stop:∀τ G,Iv n τ G->C G/\d.nx τ G)
 (step:∀(i:Nat) τ G (k:de->Gp->Prop),i<n->Iv i τ G->(∀τ3 G3,Iv (i+1) τ3 G3->k τ3 G3)->C G/\g (.int (i:Int)) τ G λτ2 G2=>tb { d with nx:=k,ct:=k,bk:=d.nx } τ2 G2):iJ C g tb d (qy n) τ G:=by
 refine ca (λws τ G=>∃i,i<=n/\ws=(qy n).drop i/\Iv i τ G) ?_ ?_ _ _ _ ⟨0,zero_le _,rfl,h0⟩
 ·rintro τ G ⟨i,hi,hw,hI⟩;have:i=n:=by
   rcases Nat.lt_or_ge i n with k | k
   ·rw[lZ n i k] at hw;cases hw
   ·lia
  subst this;exact stop τ G hI
 ·rintro w ws τ G k ⟨i,hi,hw,hI⟩ hk;have hlt:i<n:=by
   rcases Nat.lt_or_ge i n with j | j
   ·exact j
   ·rw[List.drop_of_length_le (by simp[qy];assumption)] at hw;cases hw
  rw[lZ n i hlt] at hw;cases hw;exact step i τ G k hlt hI λτ3 G3 h3=>hk τ3 G3 ⟨i+1,hlt,rfl,h3⟩
noncomputable def jg (Pd:O->Int->Prop):O->Prop
 | .z=>True
 | .c e n r=>Pd e n/\jg Pd r
theorem jg.imp {Pd Pd':O->Int->Prop} (h:∀e n,Pd e n->Pd' e n):∀{a:O},jg Pd a->jg Pd' a
 | .z,_=>trivial
 | .c _ _ _,k=>⟨h _ _ k.1,jg.imp h k.2⟩
theorem dN:∀a:O,jg (λe _=>e.dp<a.dp/\e.size<a.size) a
 | .z=>trivial
 | .c e n r=>⟨by simp only[O.dp,O.size];lia,(dN r).imp λx m h=>by simp only[O.dp,O.size];lia⟩
theorem o8:∀a:O,jg (λe _=>e.dp<a.dp/\O.hw e<=O.hw a) a
 | .z=>trivial
 | .c e n r=>⟨by rw[O.hw_c];simp only[O.dp];lia,(o8 r).imp λx m h=>by rw[O.hw_c];simp only[O.dp];lia⟩
noncomputable def mapP (p:O->Int->Bool) (f:O->Int->W):O->List W
 | .z=>[]
 | .c e n r=>if p e n then f e n::mapP p f r else mapP p f r
theorem gs (p:O->Int->Bool):∀a:O,mapP p dm a=am (a.filt p)
 | .z=>rfl
 | .c e n r=>by
   rw[mapP,O.filt_c,gs p r];split
   ·rw[bu]
   ·rfl
theorem jK:∀a:O,∃ns:List Int,mapP (λ_ _=>true) (λe _=> .int e.size) a=ns.map W.int/\(a.len:Int)+ns.sum=a.size
 | .z=>⟨[],rfl,rfl⟩
 | .c e n r=>by
   obtain⟨ns,h1,h2⟩:=jK r;refine⟨(e.size:Int)::ns,by rw[mapP,h1];rfl,?_⟩;simp only[O.len,O.size,List.sum_cons];lia
theorem gR (x:O):∀a:O,∃ns:List Int,mapP (λe _=>decide (e=x)) (λ_ n=> .int n) a=ns.map W.int/\ns.sum=O.same x a
 | .z=>⟨[],rfl,rfl⟩
 | .c e n r=>by
   obtain⟨ns,h1,h2⟩:=gR x r
   by_cases h:e=x
   ·subst h;refine⟨n::ns,by rw[mapP,ycv (by simp),h1];rfl,?_⟩;rw[O.same_eq,List.sum_cons,h2]
   ·refine⟨ns,by rw[mapP,ycw (by simpa using h),h1],?_⟩;rw[O.same_ne h,h2]
theorem cy {C:Gp->Prop} {tt:WT} {te:WE} {i:Nat} {τ0:de} {G:Gp} {q:List W->Gp->Prop} {Pd:O->Int->Prop} (p:O->Int->Bool) (f:O->Int->W) (hC:C G):∀{a:O} {acc:List W} {τ:de},jg Pd a->
 (∀e n,Pd e n->∀k:Bool->Gp->Prop,k (p e n) G->tt (τ0.set i (some (dm e n))) G k)->(∀e n,Pd e n->p e n=true->∀k:W->Gp->Prop,k (f e n) G->te (τ0.set i (some (dm e n))) G k)->acc.length+a.len<=100000->(∀x,τ.set i x=τ0.set i x)->
 q (acc++mapP p f a) G->ci C (eR i) tt te (am a) τ G acc q
 | .z,acc,τ,_,_,_,_,_,hq=>⟨hC,by simpa[mapP] using hq⟩
 | .c e n r,acc,τ,hP,ht,he,hl,hτ,hq=>by
   rw[bu];refine⟨hC,?_⟩;show tt (τ.set i (some (dm e n))) G _;rw[hτ];refine ht e n hP.1 _ ?_;have hτ':∀x,(τ0.set i (some (dm e n))).set i x=τ0.set i x:=λx=>set_set ..;simp only[O.len] at hl;rw[mapP] at hq;cases hp:p e n with
   | true=>
     rw[ycv rfl];refine he e n hP.1 hp _ ⟨by lia,?_⟩;rw[hp,ycv rfl] at hq;exact cy p f hC hP.2 ht he (by rw[length_append];simp;lia) hτ' (by simpa using hq)
   | false=>
     rw[ycw ydx];rw[hp,ycw ydx] at hq;exact cy p f hC hP.2 ht he (by lia) hτ' hq
theorem aL.put {G G1:Gp} {p:Addr} {g:GO} (h:aL G G1) (hp:G p=none):aL G (aV G1 p g):=λa u e=>by
 have:=h a u e;unfold aV;split
 ·rename_i q;subst q;rw[hp] at e;cases e
 ·exact this
noncomputable def ql:Int:=(10^172)^7
theorem o9 {i:Int} (h0:0<=i) (h:i<=ql):i.natAbs<2^4000:=by
 have h2:ql<((2^4000:Nat):Int):=by decide+kernel
 generalize (2:Nat)^4000=B at h2 ⊢;lia
theorem Cu {i j:Int} (h1:0<=i) (h2:i<=ql) (h3:0<=j) (h4:j<=ql):zY i j:=⟨o9 h1 h2,o9 h3 h4⟩
theorem sR:(10:Int)^200<=ql:=by decide+kernel
end L2
namespace Nm
namespace O
end O
end Nm
namespace L2
open PySem PySem.Spec PyProof.Rows Nm
section
variable {P:Program} {w:World} {K:yav} {mg:yew} {base:Heap} {x:Str} {st:Stmt} {ps:List Str} {k:Nat} {sp:bM}
theorem Df.rx (D:Df K mg x st ps) (h:∀(f:Addr) (fd:FuncData),cJ K x x st f fd->ko P w K mg base k f fd ps sp):Rx P w K mg base x ps k sp []:=by
 obtain⟨f,fd,F,b,m⟩:=D;exact⟨f,fd,[],[],h f fd F,m,F.kp,b,.nil,λ_=> .nil⟩
end
open PySem PySem.Spec PyProof.Rows PySem.W
@[irreducible] def DN (i:Int):Prop:=i.natAbs<2^1048576
@[irreducible] def Wide (i:Int):Prop:=i.natAbs<2^1048577
set_option exponentiation.threshold 500 in
noncomputable def Al (i j:Int):Prop:=(Wide i/\j.natAbs<2^4000)∨(i.natAbs<2^4000/\Wide j)
noncomputable def jL (i j:Int):Prop:=oy i j∨Al i j
theorem jL.ok {i j:Int} (h:jL i j):IntMulOk i j:=by
 have key:∀{x y:Int},Wide x->y.natAbs<2^4000->¬(((Builtin.Int.intBits x+Builtin.Int.intBits y:Int)) > bitsLine):=λ{x y} h1 h2=>by
  unfold Wide at h1;have b1:=PyProof.Rows.intBits_le h1;have b2:=PyProof.Rows.intBits_le h2;have hb:(1053000:Int)<=bitsLine:=by decide
  (clear h1 h2;lia)
 rcases h with h | ⟨h1,h2⟩ | ⟨h1,h2⟩
 ·exact h.ok
 ·have:=key h1 h2;unfold IntMulOk Builtin.Int.intTooBig;simp[this]
 ·have:=key h2 h1;rw[Int.add_comm] at this;unfold IntMulOk Builtin.Int.intTooBig;simp[this]
section
variable {X:Cx}
theorem vw:gf X (binaryOp .Mult) (rI jL λi j=> .int (i*j)):=Bu λ_ _ _ _ _ _ _ hc q=>mul_int q hc.ok
end
open PySem PySem.Spec PyProof.Rows
theorem aK.rep {K:yav} {H:Hp} {ws:List W} {vs:List V} (r:aK K H ws vs):∀k:Nat,aK K H (List.replicate k ws).flatten (List.replicate k vs).flatten
 | 0=> .nil
 | k+1=>by
   rw[replicate_succ,flatten_cons,replicate_succ,flatten_cons];exact r.append (aK.rep r k)
section
variable {X:Cx}
noncomputable def wE:W2:=λx y G q=>match x,y with
 | .int i,.int j=>jL i j/\q (.int (i*j)) G
 | .ref a,.int k=>∃xs,G a=some (.lst xs)/\0<=k/\k<=100000/\xs.length*k.toNat<=100000/\∀p,G p=none->q (.ref p) (aV G p (.lst (List.replicate k.toNat xs).flatten))
 | .tup xs,.int k=>xs≠[]/\0<=k/\k<=100000/\xs.length*k.toNat<=100000/\q (.tup (List.replicate k.toNat xs).flatten) G
 | _,_=>False
theorem yo:fm X (binaryOp .Mult) wE:=by
 rintro π s σ H x y v u Q I rx ry ⟨wx,wy,G,q,r1,r2,g,h,hQ⟩;cases r2 with
 | int k=>
   cases r1 with
   | int i=>exact vw π s σ H _ _ v u Q I rx ry ⟨_,_,rfl,rfl,h.1,hQ _ H _ G (aQ.refl H) (.int _) g h.2⟩
   | ref a=>
     obtain⟨xs,ea,h0,h1,hl,h⟩:=h;obtain⟨_,xs',ha,ra⟩:=g _ _ ea;refine xB π s σ H _ _ v u Q I rx ry ⟨_,_,_,rfl,rfl,ha,ydv (by decide) h0,Int.lt_of_le_of_lt h1 (by decide),by rw[←ra.length];exact bI hl,λp hp=>?_⟩;exact hQ _ _ _ _ (aQ.new hp _) (.ref p) (g.put (aQ.new hp _) (ra.rep _) (by rw[ii,Nat.mul_comm];exact hl)) (h p (g.fresh hp))
   | @tup a ws xs ha ra=>
     obtain⟨hne,h0,h1,hl,h⟩:=h;refine uI π s σ H _ _ v u Q I rx ry ⟨a,_,_,rfl,rfl,dq.of ha,λz=>?_,h0,h1,by rw[←ra.length];exact bI hl,λe=>?_,λ_ p hp=>?_⟩
     ·subst z;cases ra;exact hne rfl
     ·subst e;have e1:∀zs:List W,(List.replicate (Int.toNat 1) zs).flatten=zs:=λzs=>by simp
      rw[e1] at h;exact hQ _ H _ G (aQ.refl H) (.tup ha ra) g h
     ·exact hQ _ _ _ G (aQ.new hp _) (.tup bw ((ra.rep _).mono (aQ.new hp _))) (g.keep hp _) h
   | _=>exact False.elim h
 | _=>cases r1<;> exact False.elim h
end
end L2
namespace Nm
namespace O
end O
end Nm
namespace L2
open PySem PySem.Spec PyProof.Rows
section
variable {X:Cx}
theorem pc (z:Str):z.cps.toList.length=z.length:=by simp[Str.length]
noncomputable def jM:W2:=λx y G q=>match x,y with
 | .str a,.str b=>a.length+b.length<=100000/\q (.str (a++b)) G
 | x,y=>zB x y G q
theorem aX:fm X (binaryOp .Add) jM:=by
 rintro π s σ H x y v u Q I rx ry ⟨wx,wy,G,q,r1,r2,g,h,hQ⟩;unfold jM at h;split at h
 ·cases r1;cases r2;exact mY π s σ H _ _ v u Q I rx ry ⟨_,_,rfl,rfl,bI h.1,hQ _ H _ G (aQ.refl H) (.str _) g h.2⟩
 ·exact zC π s σ H x y v u Q I rx ry ⟨wx,wy,G,q,r1,r2,g,h,hQ⟩
noncomputable def jN:W2:=λx y G q=>match x,y with
 | .str a,.int k=>0<=k/\k<=100000/\a.length*k.toNat<=100000/\∀z:Str,z.length<=a.length*k.toNat->q (.str z) G
 | x,y=>wE x y G q
theorem jO (a:Array Nat):∀(n:Nat) (b:Array Nat),(List.foldl (λx1 x2=>x1++x2) b (List.replicate n a)).size=b.size+a.size*n
 | 0,b=>by simp
 | n+1,b=>by
   rw[replicate_succ,foldl_cons,jO a n,Array.size_append,Nat.mul_succ];lia
theorem vz (x:Str) {n:Int} (h:0<=n):(Txt.mul x n).length<=x.length*n.toNat:=by
 unfold Txt.mul;split
 ·exact zero_le _
 ·split
  ·rename_i h1 h2;have:1<=n.toNat:=by (clear h;lia)
   exact Nat.le_mul_of_pos_right _ this
  ·show Array.size _<=x.cps.size*n.toNat;rw[jO];simp
theorem kI:fm X (binaryOp .Mult) jN:=by
 rintro π s σ H x y v u Q I rx ry ⟨wx,wy,G,q,r1,r2,g,h,hQ⟩;unfold jN at h;split at h
 ·rename_i a k;obtain⟨h0,h1,hl,h⟩:=h;cases r1;cases r2;obtain⟨t,rfl⟩:=rx;obtain⟨t',rfl⟩:=ry;refine SB.mul ?_ λt' tk=>⟨.str _,H,I.tok _,⟨_,rfl⟩,hQ _ H _ G (aQ.refl H) (.str _) g (h _ (vz a h0))⟩;have hk:(k.toNat:Int)=k:=by (clear hl;lia)
  refine⟨?_,λh2 h3=>?_,λh2 h3=>?_⟩
  ·have e1:decide (k< -(2^63:Int))=false:=ydy (by (clear hl;lia));have e2:decide (k≥2^63)=false:=ydy (by (clear hl e1;lia));rw[e1,e2,Bool.or_false]
  ·have h4:((a.length*k.toNat:Nat):Int)<=((100000:Nat):Int):=Int.ofNat_le.mpr hl;rw[Int.natCast_mul,hk] at h4;have h5:(a.length:Int)<=(2^63-1)/k:=by
    rw[Int.le_ediv_iff_mul_le (by (clear hl h4;lia))];exact ydv h4 (by decide)
   exact Int.not_lt.mpr h5
  ·exact ydy (not_lt.mpr (bI hl))
 ·exact yo π s σ H x y v u Q I rx ry ⟨wx,wy,G,q,r1,r2,g,h,hQ⟩
noncomputable def sS:W2:=λx y G q=>match x,y with
 | .str z,.int i=>z.length<=100000/\∃c,eg z.cps.toList i=some c/\q (.str ⟨#[c]⟩) G
 | x,y=>zF x y G q
theorem Am:zo X sS:=by
 rintro value slice π s σ H x y v u Q I rx ry ⟨wx,wy,G,q,r1,r2,g,h,hQ⟩ hsl;unfold sS at h;split at h
 ·obtain⟨hz,c,e,h⟩:=h;cases r1;cases r2;exact xx value slice π s σ H _ _ v u Q I rx ry ⟨_,_,c,rfl,rfl,bI hz,e,hQ _ H _ G (aQ.refl H) (.str _) g h⟩ hsl
 ·exact Cf value slice π s σ H x y v u Q I rx ry ⟨wx,wy,G,q,r1,r2,g,h,hQ⟩ hsl
noncomputable def sT:List W->Gp->WK->Prop:=λws G q=>match ws with
 | [.str z]=>z.length<=100000/\q (.int z.length) G
 | ws=>zz ws G q
theorem yp:dX X (.builtin "len") sT:=by
 rintro π s σ H xs us Q I r ⟨ws,G,q,rw',g,h,hQ⟩;unfold sT at h;split at h
 ·obtain⟨v,rfl,r1⟩:=rw'.one;cases r1;exact kf π s σ H _ us Q I r ⟨_,rfl,bI h.1,hQ _ H _ G (aQ.refl H) (.int _) g h.2⟩
 ·exact wp π s σ H xs us Q I r ⟨ws,G,q,rw',g,h,hQ⟩
noncomputable def Cv (x:Str):It:=⟨λi _=>i<x.cps.toList.length,λi H y H'=>H'=H/\∃c,x.cps.toList[i]?=some c/\y=.str ⟨#[c]⟩,λi _=>x.cps.toList.length<=i⟩
theorem jP (hA:A.handled=none) (it:Addr) (x:Str) (t:Tok):Walks P w A it [it] [it] x.cps.size (SignAt x) (λi h=>h.IsStrIter it (strIterType x) x t i):=by
 unfold strIterType;split
 ·exact Walks.strAscii hA it x t
 ·exact Walks.strWide hA it x t
theorem sU {tg:Expr} (it:Addr) (x:Str) (t:Tok):mU P w K tg (Cv x) [it] it (λi h=>i<=x.cps.size/\h.IsStrIter it (strIterType x) x t i) where
 mem:=by simp
 obj:=λi h st b hb=>by
  have e:b=it:=by simpa using hb
  subst e;obtain⟨_,o,e1,e2,e3⟩:=st;exact⟨_,e1,λv z=>by rw[e3] at z;cases z⟩
 keep:=λi h h' st k=>by
  obtain⟨hi,o,e1,e2,e3⟩:=st;exact⟨hi,o,k it (by simp) _ e1,e2,e3⟩
 item:=by
  intro X hP hw hK hc i π s σ H E I hf st hg;subst hP hw hK;obtain⟨f0,f1,f2,f3,f4,f5⟩:=hf it (by simp);have hg':i<x.cps.size:=by
   have h:i<x.cps.toList.length:=hg;simpa using h
  refine(jP (I.ok.hd hc) it x t).item i s _ _ hg' st.2 λv h' tk hv st' kk=>?_;obtain⟨c,u,e,rfl⟩:=hv;have I1:aC X π σ H { s with heap:=h',toks:=tk }:=I.turned (λb o hb e=>kk b o (by simpa using hb) e) f0 f1 f3 f4 f5;obtain⟨o,e1,e2,e3⟩:=id st';refine⟨_,rfl,n9 (s:={ s with heap:=h',toks:=tk }) (n:=strIterType x) e1 e2 e3 ?_ ⟨.str ⟨#[c]⟩,H,I1,⟨u,rfl⟩,⟨rfl,c,by simpa using e,rfl⟩,⟨hg',st'⟩,λb hb=>(hf b hb).1⟩⟩;unfold strIterType;split<;> decide
 done:=by
  intro X hP hw hK hc i π s σ H E I hf st hg;subst hP hw hK;obtain⟨f0,f1,f2,f3,f4,f5⟩:=hf it (by simp);have hg':x.cps.size<=i:=by
   have h:x.cps.toList.length<=i:=hg;simpa using h
  have hi:i=x.cps.size:=Nat.le_antisymm st.1 hg';subst hi;exact(jP (I.ok.hd hc) it x t).done s _ _ st.2 λh' tk kk=>⟨rfl,I.turned (t':=tk) (λb o hb e=>kk b o (by simpa using hb) e) f0 f1 f3 f4 f5⟩
 self:=λA i s Q E st h=>by
  obtain⟨_,o,e1,e2,e3⟩:=st;unfold strIterType at e2;split at e2
  ·exact wpAny_pyIter_striter_ascii ⟨o,e1,e2,e3⟩ h
  ·exact wpAny_pyIter_striter_wide ⟨o,e1,e2,e3⟩ h
noncomputable def By (l:List Nat):List W:=l.map λc=> .str ⟨#[c]⟩
theorem vA {H:Hp}:tM K (Cv x) (By x.cps.toList) (λ_=>True) H where
 stop:=λi H1 G t g _ hl=>by
  have h:x.cps.toList.length<=i:=by simpa[By] using hl
  exact h
 go:=λi w H1 G t g _ e=>by
  unfold By at e;rw[List.getElem?_map] at e;cases h:x.cps.toList[i]? with
  | none=>rw[h] at e;cases e
  | some c=>
    rw[h] at e;cases e;refine⟨(List.getElem?_eq_some_iff.mp h).1,λy H' ⟨eH,c',hc,hy⟩=>?_⟩;subst eH hy;rw[h] at hc;cases hc;exact⟨aQ.refl _,.str _,g⟩
variable {tg:Expr}
theorem vB {l:Expr} {tl:TE} (hl:PE X l tl):PI X tg l (λσ H R=>tl σ H λx H1=>(∃z,x=.str z/\R (Cv z) H1)∨∃a,x=.ref a/\(((∃xs,dy X.K H1 a xs)/\R (Bs X.K a) H1)∨((∃xs,dq X.K H1 a xs)/\R (BP X.K a) H1))):=by
 intro π s σ H R I h;refine bW (hl π s σ H _ I h) λv s1 z9=>?_;obtain⟨x,H1,I1,r1,q1⟩:=z9;rcases q1 with⟨z,rfl,q⟩ | ⟨a,e,q1⟩
 ·obtain⟨t,rfl⟩:=r1;refine wpAny_pyIter_strU ?_;refine⟨s1.heap.objs.size,[s1.heap.objs.size],_,_,H1,rfl,I1.kept (t':=s1.toks) λb o e=>ybz _ e,sU _ z t,⟨zero_le _,_,ybw _ rfl,rfl,rfl⟩,λb hb=>?_,q⟩;have e:b=s1.heap.objs.size:=by simpa using hb
  subst e;exact I1.fpOk (ycx _) (I1.hok.fresh (ycx _))
 ·subst e;cases r1;rcases q1 with⟨⟨xs,hq⟩,q⟩ | ⟨⟨xs,hq⟩,q⟩
  ·obtain⟨its,rv,p,hz⟩:=I1.list hq;refine wpAny_pyIter_list p.isList ?_;refine⟨s1.heap.objs.size,[s1.heap.objs.size],_,_,H1,rfl,I1.kept (t':=s1.toks) λb o e=>ybz _ e,pE a _,⟨_,ybw _ rfl,rfl,rfl⟩,λb hb=>?_,q⟩;have e:b=s1.heap.objs.size:=by simpa using hb
   subst e;exact I1.fpOk (ycx _) (I1.hok.fresh (ycx _))
  ·obtain⟨its,rv,p,hz⟩:=I1.tuple hq;refine wpAny_pyIter_tuple (show s1.heap.IsTuple a its.toArray from p) ?_;refine⟨s1.heap.objs.size,[s1.heap.objs.size],_,_,H1,rfl,I1.kept (t':=s1.toks) λb o e=>ybz _ e,mV a _,⟨_,ybw _ rfl,rfl,rfl⟩,λb hb=>?_,q⟩;have e:b=s1.heap.objs.size:=by simpa using hb
   subst e;exact I1.fpOk (ycx _) (I1.hok.fresh (ycx _))
noncomputable def wF (te:WE):WI:=λτ G r=>te τ G λx G1=>match x with
 | .str z=>r (By z.cps.toList) (λ_=>True) G1
 | .tup ws=>r ws (λ_=>True) G1
 | .scr ns=>r (ns.map W.int) (λ_=>True) G1
 | .ref a=>∃ws,G1 a=some (.lst ws)/\r ws (λG=>G a=some (.lst ws)) G1
 | _=>False
theorem bK {l:Expr} {te:WE} (hl:QE X l te):QI X tg l (wF te):=
 (vB hl).imp λσ H R ⟨τ,G,r,hs,hg,ht,hR⟩=>⟨τ,G,_,hs,hg,ht,λv H1 w G1 t1 r1 g1 q1=>by
   split at q1
   ·cases r1;exact .inl ⟨_,rfl,hR _ H1 _ _ G1 t1 g1 vA q1⟩
   ·cases r1 with
    | tup h rr=>exact .inr ⟨_,rfl,.inr ⟨⟨_,dq.of h⟩,hR _ H1 _ _ G1 t1 g1 (uz h rr) q1⟩⟩
   ·cases r1 with
    | scr h=>exact .inr ⟨_,rfl,.inl ⟨⟨_,h.sq⟩,hR _ H1 _ _ G1 t1 g1 (uB h) q1⟩⟩
   ·obtain⟨ws,e,q1⟩:=q1;cases r1;obtain⟨_,xs,h1,_⟩:=g1 _ _ e;exact .inr ⟨_,rfl,.inl ⟨⟨xs,dy.of h1⟩,hR _ H1 _ _ G1 t1 g1 uA q1⟩⟩
   ·exact q1.elim⟩
theorem md:∀{ts:List Str} {its:yez},aS (ts.map V.str) its->StrsAre its ts
 | [],_,h=>by cases h;exact .nil
 | t::ts,_,h=>by
   cases h with
   | cons r rs=>
     obtain⟨k,rfl⟩:=r;exact .cons _ _ (md rs)
theorem mf {K:yav} {H:Hp}:∀{ts:List Str} {vs:List V},aK K H (ts.map W.str) vs->vs=ts.map V.str
 | [],_,h=>by cases h;rfl
 | t::ts,_,h=>by
   cases h with
   | cons r rs=>
     cases r;rw[mf rs]
     rfl
theorem vC (a b:Str):(a++b).length=a.length+b.length:=by
 show(a.cps++b.cps).size=_;simp[Str.length]
end
open PySem PySem.Spec PyProof.Rows Nm
theorem kJ {β:Type} {C:Gp->Prop} {te:WE} {i:Nat} {τ0:de} {G:Gp} {q:List W->Gp->Prop} (key val:β->W) (hC:C G):∀{ps:List β} {acc:List W} {τ:de},
 (∀p,p∈ps->∀k:W->Gp->Prop,k (val p) G->te (τ0.set i (some (key p))) G k)->acc.length+ps.length<=100000->(∀x,τ.set i x=τ0.set i x)->q (acc++ps.map val) G->ci C (eR i) ox te (ps.map key) τ G acc q
 | [],acc,τ,_,_,_,hq=>⟨hC,by simpa using hq⟩
 | p::ps,acc,τ,ht,hl,hτ,hq=>by
   refine⟨hC,?_⟩;show te (τ.set i (some (key p))) G _;rw[hτ];refine ht p yby _ ?_;rw[length_cons] at hl;refine⟨by lia,kJ key val hC (λu hu=>ht u (ybx _ hu)) (by rw[length_append];simp only[length_cons,length_nil];lia) (λx=>?_) (by simpa using hq)⟩;rw[set_set]
theorem fX {G:Gp} {p:Addr} {g g':GO}:aV (aV G p g) p g'=aV G p g':=by
 funext b
 unfold aV;split<;> rfl
theorem cP {c A B:Prop} {d:Decidable c} (h1:c->A) (h2:¬c->B): @ite Prop c d A B:=by
 cases d with
 | isTrue h=>exact h1 h
 | isFalse h=>exact h2 h
section
variable {X:Cx} {π:List (Addr×Obj)} {σ:St} {H:Hp} {s:Shared} {a:Addr} {o:Obj} {kvs:List (bG×V)}
variable {tg:Expr}
end
noncomputable def fC (kvs:List (bG×W)) (k:bG):Option W:=(kvs.find? λkv=>decide (kv.1=k)).map (·.2)
noncomputable def i7 (kvs:List (bG×W)) (k:bG) (w:W):List (bG×W):=
 if (kvs.any λkv=>decide (kv.1=k))=true then kvs.map (λkv=>if kv.1=k then (kv.1,w) else kv) else kvs++[(k,w)]
inductive DP (K:yav) (H:Hp):List (bG×W)->List (bG×V)->Prop where
 | nil:DP K H [] []
 | cons {k:bG} {w:W} {v:V} {kvs:List (bG×W)} {us:List (bG×V)} (r:cf K H w v) (t:DP K H kvs us):DP K H ((k,w)::kvs) ((k,v)::us)
section
variable {K:yav} {H H1:Hp}
theorem DP.of:∀{kvs:List (bG×W)} {us:List (bG×V)},us.map (·.1)=kvs.map (·.1)->aK K H (kvs.map (·.2)) (us.map (·.2))->DP K H kvs us
 | [],[],_,_=> .nil
 | [],_::_,h,_=>by simp at h
 | _::_,[],h,_=>by simp at h
 | (k,w)::kvs,(k',v)::us,h,r=>by
   simp only[map_cons,List.cons.injEq] at h;obtain⟨rfl,h⟩:=h;cases r with
   | cons r rs=>exact .cons r (DP.of h rs)
theorem DP.keys {kvs:List (bG×W)} {us:List (bG×V)} (d:DP K H kvs us):us.map (·.1)=kvs.map (·.1):=by
 induction d with
 | nil=>rfl
 | cons r t ih=>rw[map_cons,map_cons,ih]
theorem DP.vals {kvs:List (bG×W)} {us:List (bG×V)} (d:DP K H kvs us):aK K H (kvs.map (·.2)) (us.map (·.2)):=by
 induction d with
 | nil=>exact .nil
 | cons r t ih=>exact .cons r ih
theorem DP.len {kvs:List (bG×W)} {us:List (bG×V)} (d:DP K H kvs us):us.length=kvs.length:=by
 have:=congrArg List.length d.keys;simpa using this
theorem DP.mono {kvs:List (bG×W)} {us:List (bG×V)} (t:aQ H H1) (d:DP K H kvs us):DP K H1 kvs us:=DP.of d.keys (d.vals.mono t)
theorem DP.val {kvs:List (bG×W)} {us:List (bG×V)} (d:DP K H kvs us) (k:bG):(fC kvs k=none/\kg us k=none)∨∃w v,fC kvs k=some w/\kg us k=some v/\cf K H w v:=by
 induction d with
 | nil=>exact .inl ⟨rfl,rfl⟩
 | @cons k' w v kvs us r t ih=>
   by_cases e:k'=k
   ·exact .inr ⟨w,v,by simp[fC,List.find?_cons,e],lB e,r⟩
   ·rw[show fC ((k',w)::kvs) k=fC kvs k by simp[fC,List.find?_cons,e],lC (p:=(k',v)) e];exact ih
theorem DP.any {kvs:List (bG×W)} {us:List (bG×V)} (d:DP K H kvs us) (k:bG):(us.any λkv=>decide (kv.1=k))=kvs.any λkv=>decide (kv.1=k):=by
 induction d with
 | nil=>rfl
 | cons r t ih=>rw[any_cons,any_cons,ih]
theorem DP.put {kvs:List (bG×W)} {us:List (bG×V)} (d:DP K H kvs us) (k:bG) {w:W} {v:V} (r:cf K H w v):DP K H (i7 kvs k w) (iD us k v):=by
 unfold i7 iD;rw[d.any k]
 by_cases e:(kvs.any λkv=>decide (kv.1=k))=true
 ·rw[ycv e,ycv e];clear e
  induction d with
  | nil=>exact .nil
  | @cons k' w' v' kvs us r' t ih=>
    rw[map_cons,map_cons]
    by_cases e:k'=k
    ·rw[ycv e,ycv e];exact .cons r ih
    ·rw[ycw e,ycw e];exact .cons r' ih
 ·rw[ycw e,ycw e];clear e
  induction d with
  | nil=>exact .cons r .nil
  | cons r' t ih=>exact .cons r' ih
end
theorem sV (kvs:List (bG×W)) (k:bG) (w:W):(i7 kvs k w).length<=kvs.length+1:=by
 unfold i7;split
 ·rw[length_map];lia
 ·rw[length_append,length_cons,length_nil];lia
noncomputable def GD (G:Gp) (a:Addr) (kvs:List (bG×W)):Prop:=G a=some (.dic kvs)∨∃o us,G a=some (.fdc o us kvs)
section
variable {K:yav} {H:Hp} {G:Gp} {a:Addr} {kvs:List (bG×W)}
theorem GD.rd (h:GD G a kvs) (g:aI K H G):kvs.length<=100000/\∃us,Rd H a (.dK us)/\DP K H kvs us:=by
 rcases h with h | ⟨o,us,h⟩
 ·obtain⟨l,us,e,n,r⟩:=g a _ h;exact⟨l,us,.inl e,DP.of n r⟩
 ·obtain⟨l,e,n,r⟩:=g a _ h;exact⟨l,us,.inr ⟨o,e⟩,DP.of n r⟩
theorem aQ.dk {us:List (bG×V)} (hp:H a=some (.dK us)) (o:HO):aQ H (upd H a o):=
 ⟨λ_ _ h=>by rw[aT (jk h hp (by intro z;cases z))];exact h,λ_ _ _ h=>by rw[aT (jk h hp (by intro z;cases z))];exact h⟩
end
section
variable {X:Cx} {π:List (Addr×Obj)} {σ:St} {H:Hp} {s:Shared} {A:Around} {E:yey}
noncomputable def nU:W2:=λx y G q=>match x,y with
 | .ref a,.str z=>∃kvs w,GD G a kvs/\fC kvs (.inr z)=some w/\q w G
 | x,y=>sS x y G q
theorem aH:zo X nU:=by
 rintro value slice π s σ H x y v u Q I rx ry ⟨wx,wy,G,q,r1,r2,g,h,hQ⟩ hsl;unfold nU at h;split at h
 ·rename_i a z;obtain⟨kvs,w,hd,hv,h⟩:=h;cases r1;cases r2;cases rx;obtain⟨_,us,rd,dp⟩:=hd.rd g;obtain⟨hl,hm,vs,rel,dd⟩:=fH I.hok rd;rcases dp.val (.inr z) with⟨e,_⟩ | ⟨w',v',e,e',r⟩
  ·rw[e] at hv;cases hv
  ·rw[e] at hv;cases hv;obtain⟨u',hw,ru⟩:=fO.some_of (v:=v') (o:=valueAt vs (.inr z)) (by rw[←e'];exact rel.val (.inr z));exact tail_any dd.typeIs PySem.F.slot_dict_getitem.lookup (wpAny_getItem_of (rf (P:=X.prog) (w:=X.w) (k:= .inr z) ry) dd.mapOf hw ⟨v',H,I.tok _,ru,hQ _ H _ G (aQ.refl H) r g h⟩) hsl
 ·exact Am value slice π s σ H x y v u Q I rx ry ⟨wx,wy,G,q,r1,r2,g,h,hQ⟩ hsl
structure Dy (ws:List W) (x:W):Prop where
 fx:x.flat=true
 fs:W.flats ws=true
 hd:W.deps ws<=149
inductive Cw (G:Gp) (a:Addr):W->Bool->Prop where
 | dic {kvs:List (bG×W)} {z:Str} (h:GD G a kvs):Cw G a (.str z) (fC kvs (.inr z)).isSome
 | lst {ws:List W} {x:W} (h:G a=some (.lst ws)) (l:Dy ws x):Cw G a x (ws.any λw=>w.eq x)
noncomputable def yq:W2:=λx y G q=>match y with
 | .ref a=>∃b,Cw G a x b/\q (.bl b) G
 | _=>False
theorem DP.isSome {kvs:List (bG×W)} {us:List (bG×V)} (d:DP K H kvs us) (k:bG):(kg us k).isSome=(fC kvs k).isSome:=by
 rcases d.val k with⟨e,e'⟩ | ⟨w',v',e,e',r⟩
 ·rw[e,e'];rfl
 ·rw[e,e'];rfl
open Classical in
theorem yr (hr:av k X.A) {wx:W} {x:V} {v:Value} {ws:List W} {G:Gp} (I:aC X π σ H s) (rx:bg x v) (r1:cf X.K H wx x) (g:aI X.K H G) (ea:G a=some (.lst ws)) (l:Dy ws wx):
 ∃(e:Value->Bool) (its:yez),s.heap.IsList a its.toArray/\(∀y,y∈its.toArray->SeqAt.EqAt X.A.in1 s y v (e y))/\(its.toArray.any e=ws.any λw=>w.eq wx)/\its.length=ws.length/\∀(i:Nat) (w:W) (z:Value),ws[i]?=some w->its[i]?=some z->e z=w.eq wx:=by
 obtain⟨_,xs,e1,ra⟩:=g _ _ ea;obtain⟨its,rv,p,_⟩:=I.list (dy.of e1);have l1:its.length=ws.length:=by rw[←rv.length,ra.length]
 have hu:=hr.un;have hd:=l.hd;have key:∀(i:Nat) (w:W) (z:Value),ws[i]?=some w->its[i]?=some z->decide (∃w',w'∈ws/\(∃v',cf X.K H w' v'/\bg v' z)/\w'.eq wx=true)=w.eq wx/\SeqAt.EqAt X.A.in1 s z v (w.eq wx):=λi w z ew ez=>by
  obtain⟨va,ea1,rva⟩:=ra.get ew;obtain⟨ua,eua,qa⟩:=rv.get ea1;rw[ez] at eua;cases eua;have fw:=W.flats_get l.fs ew;refine⟨?_,(fR I 150 X.A.in1 (w1:=w) (w2:=wx) (Nat.lt_of_le_of_lt (W.deps_get ew) (by (clear l1 hu ew ez ea1;lia))) fw l.fx (by show X.A.units+1+150<cLine;(clear l1 hd ew ez ea1;lia)) rva r1 qa rx).1⟩
  by_cases hw:w.eq wx=true
  ·rw[hw];exact ydz ⟨w,List.mem_of_getElem? ew,⟨va,rva,qa⟩,hw⟩
  ·have:¬∃w',w'∈ws/\(∃v',cf X.K H w' v'/\bg v' z)/\w'.eq wx=true:=λ⟨w',hm,⟨v',rv',qv'⟩,he⟩=>by
    obtain⟨j,hj⟩:=List.getElem?_of_mem hm;have hv:=qv'.inj qa;subst hv;have:=cf.inj (W.flats_get l.fs hj) fw rv' rva;subst this;exact hw he
   rw[ydy this];simpa using hw
 refine⟨λz=>decide (∃w',w'∈ws/\(∃v',cf X.K H w' v'/\bg v' z)/\w'.eq wx=true),its,p.isList,λz hz=>?_,?_,l1,λi w z ew ez=>(key i w z ew ez).1⟩
 ·obtain⟨i,hi⟩:=List.getElem?_of_mem (show z∈its by simpa using hz);have hi2:i<ws.length:=by rw[←l1];exact(List.getElem?_eq_some_iff.mp hi).1
  obtain⟨k1,k2⟩:=key i _ z (ycz hi2) hi;show SeqAt.EqAt _ s z v (decide _);rw[k1];exact k2
 ·rw[show its.toArray.any (λz=>decide (∃w',w'∈ws/\(∃v',cf X.K H w' v'/\bg v' z)/\w'.eq wx=true))=its.any (λz=>decide (∃w',w'∈ws/\(∃v',cf X.K H w' v'/\bg v' z)/\w'.eq wx=true)) by simp];rw[Bool.eq_iff_iff,List.any_eq_true,List.any_eq_true];constructor
  ·rintro⟨z,hz,he⟩;obtain⟨w',hm,_,he'⟩:=of_decide_eq_true he;exact⟨w',hm,he'⟩
  ·rintro⟨w,hm,he⟩;obtain⟨i,hi⟩:=List.getElem?_of_mem hm;have hi2:i<its.length:=by rw[l1];exact(List.getElem?_eq_some_iff.mp hi).1
   have k1:=(key i w its[i] hi (ycz hi2)).1;exact⟨its[i],getElem_mem hi2,k1.trans he⟩
theorem An (hr:av k X.A):fm X (compareOp .In) yq:=by
 rintro π s σ H x y v u Q I rx ry ⟨wx,wy,G,q,r1,r2,g,h,hQ⟩;unfold yq at h;split at h
 ·obtain⟨b,hb,h⟩:=h;cases r2;cases ry;cases hb with
  | dic hd=>
    cases r1;obtain⟨_,us,rd,dp⟩:=hd.rd g;obtain⟨hl,hm,vs,rel,dd⟩:=fH I.hok rd;refine wpAny_in_of (rf (P:=X.prog) (w:=X.w) (k:= .inr _) rx) hm dd.mapOf ⟨.bl _,H,I.tok _,rfl,hQ _ H _ G (aQ.refl H) ?_ g h⟩;rw[←(rel.val _).isSome_eq,dp.isSome];exact .bl _
  | lst ea l=>
    obtain⟨e,its,p,he,ha,_⟩:=yr hr I rx r1 g ea l;refine SeqAt.in_listAt e p he ?_;rw[ha];exact⟨.bl _,H,I,rfl,hQ _ H _ G (aQ.refl H) (.bl _) g h⟩
 ·exact h.elim
noncomputable def wG:WE:=λ_ G q=>∀p,G p=none->q (.ref p) (aV G p (.dic []))
theorem pd:QE X (.Dict [] [] pos) wG:=
 pe_dnewK.imp λσ H Q z0=>z0.el λτ G q hs hg ht hQ p hp=>hQ _ _ _ _ (aQ.new hp _) (.ref p) (hg.lay (g:= .dic []) (aQ.new hp _) ⟨zero_le _,[],bw,rfl,.nil⟩) (ht p (hg.fresh hp))
noncomputable def kW:bG->W
 | .inl i=> .int i
 | .inr x=> .str x
variable {tg:Expr}
end
section
variable {X:Cx} {elts:List Expr} {k:Nat} {tp:Pos}
end
section
variable {X:Cx} {π:List (Addr×Obj)} {σ:St} {H:Hp} {s:Shared}
inductive vD (G:Gp) (a:Addr):Nat->Prop where
 | lst {ws:List W} (h:G a=some (.lst ws)):vD G a ws.length
 | dic {kvs:List (bG×W)} (h:GD G a kvs):vD G a kvs.length
noncomputable def jQ:List W->Gp->WK->Prop:=λws G q=>match ws with
 | [.ref a]=>∃n:Nat,vD G a n/\q (.int n) G
 | ws=>sT ws G q
theorem cj:dX X (.builtin "len") jQ:=by
 rintro π s σ H xs us Q I r ⟨ws,G,q,rw',g,h,hQ⟩;unfold jQ at h;split at h
 ·obtain⟨n,hn,h⟩:=h;cases hn with
  | lst e=>exact wp π s σ H xs us Q I r ⟨_,G,q,rw',g,⟨_,e,h⟩,hQ⟩
  | dic hd=>
    obtain⟨v,rfl,r1⟩:=rw'.one;cases r1;obtain⟨u,rfl,ru⟩:=eQ r;cases ru;obtain⟨_,us,rd,dp⟩:=hd.rd g;refine zm I rd λt s' I'=>⟨.int us.length,H,I',⟨t,rfl⟩,hQ _ H _ G (aQ.refl H) ?_ g h⟩;rw[dp.len];exact .int _
 ·exact yp π s σ H xs us Q I r ⟨ws,G,q,rw',g,h,hQ⟩
inductive Ao (G:Gp) (a:Addr):List W->Prop where
 | lst {ws:List W} (h:G a=some (.lst ws)):Ao G a ws
 | dic {kvs:List (bG×W)} (h:GD G a kvs):Ao G a (kvs.map λp=>kW p.1)
inductive jR (G:Gp):W->W->Prop where
 | int (i:Int):jR G (.int i) (.int i)
 | lst {a b:Addr} {ws us:List W} (ea:G a=some (.lst ws)) (eb:G b=some (.lst us)) (f1:W.flats ws=true) (f2:W.flats us=true) (hd:W.deps ws<=8) (he:W.eqs ws us=true):jR G (.ref a) (.ref b)
inductive Ap (G:Gp) (a b:Addr):Bool->Prop where
 | lst {ws us:List W} (ea:G a=some (.lst ws)) (eb:G b=some (.lst us)) (f1:W.flats ws=true) (f2:W.flats us=true) (hd:W.deps ws<=149):Ap G a b (W.eqs ws us)
 | dic {kvs us:List (bG×W)} (ea:GD G a kvs) (eb:GD G b us) (hl:kvs.length=us.length) (hv:∀p,p∈kvs->∃w',fC us p.1=some w'/\jR G p.2 w'):Ap G a b true
noncomputable def Aq:W2:=λx y G q=>match x,y with
 | .ref a,.ref b=>∃r,Ap G a b r/\q (.bl r) G
 | x,y=>uv x y G q
noncomputable def Ar:W2:=λx y G q=>match x,y with
 | .ref a,.ref b=>∃r,Ap G a b r/\q (.bl (!r)) G
 | x,y=>uw x y G q
theorem vE (hu:A.units+20<cLine) {G:Gp} {w1 w2:W} {v1 v2:V} {u1 u2:Value} (I:aC X π σ H s) (g:aI X.K H G) (h:jR G w1 w2) (r1:cf X.K H w1 v1) (r2:cf X.K H w2 v2) (q1:bg v1 u1) (q2:bg v2 u2):SeqAt.EqAt A s u1 u2 true:=by
 cases h with
 | int i=>
   cases r1;cases r2;have:=(fR I 10 A (w1:= .int i) (w2:= .int i) (by show 0<10;decide) rfl rfl (by lia) (.int i) (.int i) q1 q2).1;rw[nQ] at this;simpa using this
 | @lst a b ws us ea eb f1 f2 hd he=>
   cases r1;cases r2;cases q1;cases q2
   by_cases hne:a=b
   ·subst hne;exact SeqAt.EqAt.same _
   obtain⟨_,xs,e1,ra⟩:=g _ _ ea;obtain⟨_,ys,e2,rb⟩:=g _ _ eb;obtain⟨its,rv,p,_⟩:=I.list (dy.of e1);obtain⟨its2,rv2,p2,_⟩:=I.list (dy.of e2);have l1:its.length=ws.length:=by rw[←rv.length,ra.length]
   have l2:its2.length=us.length:=by rw[←rv2.length,rb.length]
   have hl:ws.length=us.length:=by
    by_cases hl:ws.length=us.length
    ·exact hl
    ·rw[kl hl] at he;cases he
   have c1:=SeqAt.RcAt.lists p.isList p2.isList (by rw[size_toArray,size_toArray,l1,l2,hl]) (A:=A) (by (clear hd l1 l2 hl;lia)) (Ch I (n:=10) (by (clear hu l1 l2 hl;lia)) f1 f2 (by show A.units+1+10<cLine;(clear hd l1 l2 hl;lia)) ra rb rv rv2);have er:=fq ws us;rw[←hl,Nat.min_self,beq_self_eq_true,Bool.and_true] at er;rw[size_toArray,l1,er,he] at c1;exact SeqAt.EqAt.of_refs hne c1
theorem kK (hu:A.units+20<cLine) {G:Gp} (I:aC X π σ H s) (g:aI X.K H G) {kb:List (bG×Value)} {us:List (bG×W)} {ub:List (bG×V)} (db:DP X.K H us ub) (rb:KV ub kb):
 ∀{kvs:List (bG×W)} {ua:List (bG×V)} {ka:List (bG×Value)},DP X.K H kvs ua->KV ua ka->(∀p,p∈kvs->∃w',fC us p.1=some w'/\jR G p.2 w')->PySem.W.KeqHits A s kb ka true:=by
 intro kvs ua ka d
 induction d generalizing ka with
 | nil=>
   intro r _;cases r;exact .nil
 | @cons k w v kvs ua rw' t ih=>
   intro r hv;cases r with
   | @cons _ b _ bs r1 rt=>
     obtain⟨b1,b2⟩:=b;obtain⟨e1,r2⟩:=r1;cases (show k=b1 from e1);obtain⟨w',hw,sv⟩:=hv _ yby;rcases db.val k with⟨e,_⟩ | ⟨w2,v2,e,e',r3⟩
     ·rw[e] at hw;cases hw
     ·rw[e] at hw;cases hw;obtain⟨y,hy,ry⟩:=fO.some_of (v:=v2) (o:=valueAt kb k) (by rw[←e'];exact rb.val k);exact .hit (e:=true) (b:=true) hy (vE hu I g sv rw' r3 r2 ry) (ih rt λp hp=>hv p (ybx _ hp))
theorem As (hr:av k X.A):fm X (compareOp .Eq) Aq:=by
 rintro π s σ H x y v u Q I rx ry ⟨wx,wy,G,q,r1,r2,g,h,hQ⟩;unfold Aq at h;split at h
 ·obtain⟨r,he,h⟩:=h;cases he with
  | lst ea eb f1 f2 hd=>exact zW hr π s σ H x y v u Q I rx ry ⟨_,_,G,q,r1,r2,g,⟨_,_,ea,eb,f1,f2,hd,h⟩,hQ⟩
  | dic ea eb hl hv=>
    cases r1;cases r2;cases rx;cases ry;have hu:=hr.un;obtain⟨_,ua,ra,da⟩:=ea.rd g;obtain⟨_,ub,rb,db⟩:=eb.rd g;obtain⟨_,ma,ka,qa,dda⟩:=fH I.hok ra;obtain⟨_,mb,kb,qb,ddb⟩:=fH I.hok rb;have hlen:ka.length=kb.length:=by rw[←qa.length,←qb.length,da.len,db.len,hl]
    refine PySem.W.keq_eq ma mb dda ddb (by (clear hl hlen;lia)) (λ_=>kK (A:=X.A.in1) (by show X.A.units+1+20<cLine;(clear hl hlen;lia)) I g db qb da qa hv) ?_;rw[hlen,beq_self_eq_true,Bool.true_and];exact⟨.bl _,H,I,rfl,hQ _ H _ G (aQ.refl H) (.bl _) g h⟩
 ·exact xO hr π s σ H x y v u Q I rx ry ⟨wx,wy,G,q,r1,r2,g,h,hQ⟩
theorem At (hr:av k X.A):fm X (compareOp .NotEq) Ar:=by
 rintro π s σ H x y v u Q I rx ry ⟨wx,wy,G,q,r1,r2,g,h,hQ⟩;unfold Ar at h;split at h
 ·obtain⟨r,he,h⟩:=h;cases he with
  | lst ea eb f1 f2 hd=>exact zX hr π s σ H x y v u Q I rx ry ⟨_,_,G,q,r1,r2,g,⟨_,_,ea,eb,f1,f2,hd,h⟩,hQ⟩
  | dic ea eb hl hv=>
    cases r1;cases r2;cases rx;cases ry;have hu:=hr.un;obtain⟨_,ua,ra,da⟩:=ea.rd g;obtain⟨_,ub,rb,db⟩:=eb.rd g;obtain⟨_,ma,ka,qa,dda⟩:=fH I.hok ra;obtain⟨_,mb,kb,qb,ddb⟩:=fH I.hok rb;have hlen:ka.length=kb.length:=by rw[←qa.length,←qb.length,da.len,db.len,hl]
    refine PySem.W.keq_ne ma mb dda ddb (by (clear hl hlen;lia)) (λ_=>kK (A:=X.A.in1) (by show X.A.units+1+20<cLine;(clear hl hlen;lia)) I g db qb da qa hv) ?_;rw[hlen,beq_self_eq_true,Bool.true_and];exact⟨.bl _,H,I,rfl,hQ _ H _ G (aQ.refl H) (.bl _) g h⟩
 ·exact xP hr π s σ H x y v u Q I rx ry ⟨wx,wy,G,q,r1,r2,g,h,hQ⟩
structure EE (ws:List W) (x:W) (j:Nat):Prop where
 hit:∃w,ws[j]?=some w/\w.eq x=true
 no:∀m w,m<j->ws[m]?=some w->w.eq x=false
end
section
variable {prog:Program} {w:World} {A:Around} {R:Result->Shared->Prop} {I:Addr} {fp wr:List Addr} {Gn:Array GenState->Array GenState->Prop} {n:Nat} {P:Nat->Value->Prop} {St:Nat->Shared->Prop}
end
section
variable {prog:Program} {w:World} {A:Around} {E:yey} {s:Shared}
set_option maxHeartbeats 3200000 in
end
section
variable {X:Cx}
end
section
variable {X:Cx} {π:List (Addr×Obj)} {σ:St} {H:Hp} {s:Shared}
set_option maxHeartbeats 4000000 in
inductive Au (G:Gp) (a:Addr) (kvs:List (bG×W)):Prop where
 | dic (h:GD G a kvs):Au G a kvs
 | lst {ps:List (bG×W)} (h:G a=some (.lst (ps.map λp=> .tup [kW p.1,p.2]))) (e:kvs=ps.foldl (λa p=>i7 a p.1 p.2) []):Au G a kvs
end
section
variable {prog:Program} {w:World} {A:Around} {s:Shared}
noncomputable def i8 (prog:Program) (w:World) (A:Around) (s:Shared) (u v:Value):Prop:=∀(E:yey) (Q:Bool->Shared->Prop),Q true s->wpAny (model prog w) A (eqBool u v) Q E s
theorem i8.of {u v:Value} (h:SeqAt.EqAt A s u v true):i8 prog w A s u v:=λE Q q=>h prog w E Q q
theorem i8.refs {l b:Addr} (h:l≠b->∀(E:yey) (Q:yey),Q (.bool true) s->wpAny (model prog w) A (richCompare .Eq (.ref l) (.ref b)) Q E s):i8 prog w A s (.ref l) (.ref b):=by
 by_cases hne:l=b
 ·subst hne;exact .of (SeqAt.EqAt.same _)
 ·exact λE Q q=>wpAny_holding (wpAny_ite_split (λhab=>absurd (by have:=eq_of_beq hab;injection this) hne) λ_=>wax (h hne E _ (wpAny_truthy_bool q)))
theorem vF {l b:Addr} {x1 x2 y1 y2:Value} (hl:s.heap.IsTuple l #[x1,x2]) (hb:s.heap.IsTuple b #[y1,y2]) (hu:A.units<cLine) (h1:i8 prog w A.in1 s x1 y1) (h2:i8 prog w A.in1 s x2 y2) (E:yey) (Q:yey) (q:Q (.bool true) s):
 wpAny (model prog w) A (richCompare .Eq (.ref l) (.ref b)) Q E s:=by
 obtain⟨o1,e1,c1,n1,d1⟩:=id hl;obtain⟨o2,e2,c2,n2,d2⟩:=id hb;refine wpAny_richCompare_same_room (T:="tuple") ⟨o1,e1,c1⟩ ⟨o2,e2,c2⟩ PySem.F.slot_tuple_eq (wpAny_call_entry PySem.F.slot_tuple_eq ⟨o1,e1,c1⟩ PySem.F.entry_tuple_eq ?_ (PySem.F.args_tuple_eq_2 _ _)) hu;unfold Builtin.«tuple.__eq__»
 k_delta "compare"
 refine wax ?_;unfold slotArgs;refine wpAny_ite_false (by rfl) (wpAny_ite_false (by rfl) (wpAny_pure ?_));dsimp only;refine wax (wpAny_isInstance (T:="tuple") (b:=true) ⟨o2,e2,c2⟩ (by rfl) ?_);refine wpAny_ite_false (by rfl) ?_;refine wax (wpAny_tupleItemsOf e1 d1 ?_);refine wax (wpAny_tupleItemsOf e2 d2 ?_);rw[show(#[x1,x2]:Array Value).toList.zip (#[y1,y2]:Array Value).toList=[(x1,y1),(x2,y2)] from rfl];simp only[forIn_cons,List.forIn_nil];refine wax (wax (wax (h1 _ _ ?_)));refine wpAny_ite_false (by rfl) (wpAny_pure ?_);dsimp only;refine wax (wax (h2 _ _ ?_));refine wpAny_ite_false (by rfl) (wpAny_pure ?_);refine wpAny_pure ?_;dsimp only;exact wpAny_pure ⟨.bool true,rfl,(λz=>nomatch z),q⟩
theorem kL {c:Int} {r:Bool} (hc:(c=2/\r=true)∨(c=3/\r=false)) {l b:Addr} {items items2:Array Value} {o1 o2:Obj} {n1 n2:Nat} (e1:s.heap.get? l=some o1) (d1:o1.data=.seq items n1) (e2:s.heap.get? b=some o2) (d2:o2.data=.seq items2 n2) (hz:items.size=items2.size) {R:Result->Shared->Prop}
 (he:∀(j:Nat) (u v:Value),items[j]?=some u->items2[j]?=some v->i8 prog w A.in1 s u v) (hR:R (.ok (.ret (.bool r))) s):
 ∀(m i:Nat) (t t':Tok),i+m=items.size->codeAny (model prog w) A (.builtin "list.__eq__.loop" ⟨[.ref l,.ref b,.int (i:Int) t,.int c t'],[]⟩) R s
 | 0,i,t,t',hi=>by
   refine codeAny_builtin PySem.MeetsSeq3.entry_eq_loop ?_;have n1:items[i]?=none:=by simp;(clear hc;lia)
   unfold Builtin.«list.__eq__.loop»
   k_delta "cmpOps"
   rcases hc with⟨rfl,rfl⟩ | ⟨rfl,rfl⟩
   ·dsimp only;rw[show(([CmpOp.Lt,CmpOp.LtE,CmpOp.Eq,CmpOp.NotEq,CmpOp.Gt,CmpOp.GtE]:List CmpOp)[Int.toNat 2]?)=some CmpOp.Eq from rfl];refine wax (wpAny_listItems e1 d1 (wax (wpAny_listItems e2 d2 ?_)));rw[Int.toNat_natCast,n1];refine wax (wpAny_listItems e1 d1 (wax (wpAny_listItems e2 d2 ?_)));refine wpAny_pure ?_;show R (Except.ok (Flow.ret (Value.bool (items.size==items2.size)))) s;rw[hz,beq_self_eq_true];exact hR
   ·dsimp only;rw[show(([CmpOp.Lt,CmpOp.LtE,CmpOp.Eq,CmpOp.NotEq,CmpOp.Gt,CmpOp.GtE]:List CmpOp)[Int.toNat 3]?)=some CmpOp.NotEq from rfl];refine wax (wpAny_listItems e1 d1 (wax (wpAny_listItems e2 d2 ?_)));rw[Int.toNat_natCast,n1];refine wax (wpAny_listItems e1 d1 (wax (wpAny_listItems e2 d2 ?_)));refine wpAny_pure ?_;show R (Except.ok (Flow.ret (Value.bool (items.size !=items2.size)))) s;rw[hz,bne_self_eq_false];exact hR
 | m+1,i,t,t',hi=>by
   have ih:=kL hc e1 d1 e2 d2 hz he hR m (i+1) 0 0 (by (clear hc;lia));refine codeAny_builtin PySem.MeetsSeq3.entry_eq_loop ?_;have l1:i<items.size:=by (clear hc;lia)
   have n1:items[i]?=some items[i]:=by simp
   have n2:items2[i]?=some (items2[i]'(by (clear hc l1 n1;lia))):=by simp
   unfold Builtin.«list.__eq__.loop»
   k_delta "cmpOps"
   rcases hc with⟨rfl,rfl⟩ | ⟨rfl,rfl⟩
   ·dsimp only;rw[show(([CmpOp.Lt,CmpOp.LtE,CmpOp.Eq,CmpOp.NotEq,CmpOp.Gt,CmpOp.GtE]:List CmpOp)[Int.toNat 2]?)=some CmpOp.Eq from rfl];refine wax (wpAny_listItems e1 d1 (wax (wpAny_listItems e2 d2 ?_)));rw[Int.toNat_natCast,n1,n2];refine wax (he i _ _ n1 n2 _ _ ?_);refine wpAny_ite_true (by rfl) ?_;exact wpAny_pure ⟨PySem.plainId_quiet PySem.MeetsSeq3.plain_eq_loop _,ih⟩
   ·dsimp only;rw[show(([CmpOp.Lt,CmpOp.LtE,CmpOp.Eq,CmpOp.NotEq,CmpOp.Gt,CmpOp.GtE]:List CmpOp)[Int.toNat 3]?)=some CmpOp.NotEq from rfl];refine wax (wpAny_listItems e1 d1 (wax (wpAny_listItems e2 d2 ?_)));rw[Int.toNat_natCast,n1,n2];refine wax (he i _ _ n1 n2 _ _ ?_);refine wpAny_ite_true (by rfl) ?_;exact wpAny_pure ⟨PySem.plainId_quiet PySem.MeetsSeq3.plain_eq_loop _,ih⟩
theorem vG {op:CmpOp} {r:Bool} (hop:(op=.Eq/\r=true)∨(op=.NotEq/\r=false)) {l b:Addr} {items items2:Array Value} (hl:s.heap.IsList l items) (hb:s.heap.IsList b items2) (hz:items.size=items2.size) (hu:A.units<cLine)
 (he:∀(j:Nat) (u v:Value),items[j]?=some u->items2[j]?=some v->i8 prog w A.in1 s u v) (E:yey) (Q:yey) (q:Q (.bool r) s):
 wpAny (model prog w) A (richCompare op (.ref l) (.ref b)) Q E s:=by
 obtain⟨o1,e1,c1,n1,d1⟩:=id hl;obtain⟨o2,e2,c2,n2,d2⟩:=id hb;rcases hop with⟨rfl,rfl⟩ | ⟨rfl,rfl⟩
 ·refine wpAny_richCompare_same_room (T:="list") ⟨o1,e1,c1⟩ ⟨o2,e2,c2⟩ PySem.F.slot_list_eq (call_meetsIn PySem.F.slot_list_eq ⟨o1,e1,c1⟩ PySem.F.entry_list_eq (PySem.F.args_list_eq_2 _ _) (S:=λA' R s'=>A'=A/\s'=s/\R (.ok (.ret (.bool true))) s) ?_ ⟨rfl,rfl,(λz=>nomatch z),q⟩) hu;rintro A' R s' ⟨rfl,rfl,hR⟩;unfold Builtin.«list.__eq__»
  k_delta "listCompare"
  refine wax ?_;unfold slotArgs;refine wpAny_ite_false (by rfl) (wpAny_ite_false (by rfl) (wpAny_pure ?_));dsimp only;refine wax (wpAny_isInstance (T:="list") (b:=true) ⟨o2,e2,c2⟩ PySem.AutoSeq1.sub_list_list ?_);refine wpAny_ite_false (by rfl) ?_;refine wpAny_ite_true (by rfl) ?_;refine wax (wpAny_listItems e1 d1 (wax (wpAny_listItems e2 d2 ?_)));refine wpAny_ite_false (by rw[hz,bne_self_eq_false];rfl) ?_;exact wpAny_pure ⟨PySem.plainId_quiet PySem.MeetsSeq3.plain_eq_loop _,kL (.inl ⟨rfl,rfl⟩) e1 d1 e2 d2 hz he hR items.size 0 0 0 (by (clear hz hu;lia))⟩
 ·refine wpAny_richCompare_same_room (T:="list") ⟨o1,e1,c1⟩ ⟨o2,e2,c2⟩ PySem.F.slot_list_ne (call_meetsIn PySem.F.slot_list_ne ⟨o1,e1,c1⟩ PySem.F.entry_list_ne (PySem.F.args_list_ne_2 _ _) (S:=λA' R s'=>A'=A/\s'=s/\R (.ok (.ret (.bool false))) s) ?_ ⟨rfl,rfl,(λz=>nomatch z),q⟩) hu;rintro A' R s' ⟨rfl,rfl,hR⟩;unfold Builtin.«list.__ne__»
  k_delta "listCompare"
  refine wax ?_;unfold slotArgs;refine wpAny_ite_false (by rfl) (wpAny_ite_false (by rfl) (wpAny_pure ?_));dsimp only;refine wax (wpAny_isInstance (T:="list") (b:=true) ⟨o2,e2,c2⟩ PySem.AutoSeq1.sub_list_list ?_);refine wpAny_ite_false (by rfl) ?_;refine wpAny_ite_true (by rfl) ?_;refine wax (wpAny_listItems e1 d1 (wax (wpAny_listItems e2 d2 ?_)));refine wpAny_ite_false (by rw[hz,bne_self_eq_false];rfl) ?_;exact wpAny_pure ⟨PySem.plainId_quiet PySem.MeetsSeq3.plain_eq_loop _,kL (.inr ⟨rfl,rfl⟩) e1 d1 e2 d2 hz he hR items.size 0 0 0 (by (clear hz hu;lia))⟩
end
section
variable {X:Cx} {π:List (Addr×Obj)} {σ:St} {H:Hp} {s:Shared}
inductive gv (G:Gp):Nat->W->W->Prop where
 | flat {n:Nat} {x y:W} (f1:x.flat=true) (f2:y.flat=true) (hd:x.dep<=140) (he:x.eq y=true):gv G n x y
 | same {n:Nat} {a:Addr}:gv G n (.ref a) (.ref a)
 | dic {n:Nat} {a b:Addr} {kvs us:List (bG×W)} (ea:GD G a kvs) (eb:GD G b us) (hl:kvs.length=us.length) (hv:∀p,p∈kvs->∃w',fC us p.1=some w'/\jR G p.2 w'):gv G n (.ref a) (.ref b)
 | pair {n:Nat} {x1 x2 y1 y2:W} (h1:gv G n x1 y1) (h2:gv G n x2 y2):gv G (n+1) (.tup [x1,x2]) (.tup [y1,y2])
theorem qm {G:Gp} (I:aC X π σ H s) (g:aI X.K H G) {n:Nat} {w1 w2:W} (h:gv G n w1 w2):∀{A:Around} {v1 v2:V} {u1 u2:Value},A.units+n+160<cLine->cf X.K H w1 v1->cf X.K H w2 v2->bg v1 u1->bg v2 u2->i8 X.prog X.w A s u1 u2:=by
 induction h with
 | @flat n x y f1 f2 hd he=>
   intro A v1 v2 u1 u2 hu r1 r2 q1 q2;have:=(fR I 150 A (w1:=x) (w2:=y) (by (clear hu;lia)) f1 f2 (by (clear hd;lia)) r1 r2 q1 q2).1;rw[he] at this;exact .of this
 | same=>
   intro A v1 v2 u1 u2 hu r1 r2 q1 q2;cases r1;cases r2;cases q1;cases q2;exact .of (SeqAt.EqAt.same _)
 | @dic n a b kvs us ea eb hl hv=>
   intro A v1 v2 u1 u2 hu r1 r2 q1 q2;cases r1;cases r2;cases q1;cases q2;obtain⟨_,ua,ra,da⟩:=ea.rd g;obtain⟨_,ub,rb,db⟩:=eb.rd g;obtain⟨_,ma,ka,qa,dda⟩:=fH I.hok ra;obtain⟨_,mb,kb,qb,ddb⟩:=fH I.hok rb;have hlen:ka.length=kb.length:=by rw[←qa.length,←qb.length,da.len,db.len,hl]
   refine i8.refs λhne E Q q=>?_;refine PySem.W.keq_eq ma mb dda ddb (by (clear hl hlen;lia)) (λ_=>kK (A:=A.in1) (by show A.units+1+20<cLine;(clear hl hlen;lia)) I g db qb da qa hv) ?_;rw[hlen,beq_self_eq_true,Bool.true_and];exact q
 | @pair n x1 x2 y1 y2 h1 h2 ih1 ih2=>
   intro A v1 v2 u1 u2 hu r1 r2 q1 q2;cases r1 with
   | @tup a _ xs hT rr=>
     cases r2 with
     | @tup b _ ys hT2 rr2=>
       cases (show u1=Value.ref a from q1);cases (show u2=Value.ref b from q2);obtain⟨its,rv,hp,_⟩:=I.tuple (dq.of hT);obtain⟨its2,rv2,hp2,_⟩:=I.tuple (dq.of hT2);cases rr with
       | cons a1 rr=>
         cases rr with
         | cons a2 rr=>
           cases rr;cases rr2 with
           | cons b1 rr2=>
             cases rr2 with
             | cons b2 rr2=>
               cases rr2;obtain⟨p1,p2,rfl,c1,c2⟩:=rY rv;obtain⟨t1,t2,rfl,d1,d2⟩:=rY rv2;exact i8.refs λhne E Q q=>vF hp hp2 (by lia) (ih1 (A:=A.in1) (by show A.units+1+n+160<cLine;lia) a1 b1 c1 d1) (ih2 (A:=A.in1) (by show A.units+1+n+160<cLine;lia) a2 b2 c2 d2) E Q q
inductive yt (G:Gp) (a b:Addr):Bool->Prop where
 | old {r:Bool} (h:Ap G a b r):yt G a b r
 | nil {ws:List W} (ea:G a=some (.lst ws)) (eb:G b=some (.lst [])):yt G a b ws.isEmpty
 | deep {ws us:List W} (ea:G a=some (.lst ws)) (eb:G b=some (.lst us)) (hl:ws.length=us.length) (he:∀(j:Nat) (x y:W),ws[j]?=some x->us[j]?=some y->gv G 9 x y):yt G a b true
noncomputable def kM:W2:=λx y G q=>match x,y with
 | .ref a,.ref b=>∃r,yt G a b r/\q (.bl r) G
 | x,y=>uv x y G q
noncomputable def mh:W2:=λx y G q=>match x,y with
 | .ref a,.ref b=>∃r,yt G a b r/\q (.bl (!r)) G
 | x,y=>uw x y G q
theorem iv (hr:av k X.A) {op:CmpOp} {r:Bool} (hop:(op=.Eq/\r=true)∨(op=.NotEq/\r=false)) {G:Gp} (I:aC X π σ H s) (g:aI X.K H G) {a b:Addr} {ws us:List W} (ea:G a=some (.lst ws)) (eb:G b=some (.lst us)) (hl:ws.length=us.length)
 (he:∀(j:Nat) (x y:W),ws[j]?=some x->us[j]?=some y->gv G 9 x y) (E:yey) (Q:yey) (q:Q (.bool r) s):wpAny (model X.prog X.w) X.A (richCompare op (.ref a) (.ref b)) Q E s:=by
 have hu:=hr.un;obtain⟨_,xs,e1,ra⟩:=g _ _ ea;obtain⟨_,ys,e2,rb⟩:=g _ _ eb;obtain⟨its,rv,p,_⟩:=I.list (dy.of e1);obtain⟨its2,rv2,p2,_⟩:=I.list (dy.of e2);have l1:its.length=ws.length:=by rw[←rv.length,ra.length]
 have l2:its2.length=us.length:=by rw[←rv2.length,rb.length]
 refine vG hop p.isList p2.isList (by rw[size_toArray,size_toArray,l1,l2,hl]) (by (clear hl l1 l2;lia)) (λj u v hj hv=>?_) E Q q;rw[List.getElem?_toArray] at hj hv;have j1:j<ws.length:=by
  rw[←l1];exact(List.getElem?_eq_some_iff.mp hj).1
 have gw:=ycz j1;have gu:=ycz (show j<us.length by (clear hu hj hv gw;lia));obtain⟨x,hx,rx⟩:=ra.get gw;obtain⟨y,hy,ry⟩:=rb.get gu;obtain⟨u',hu',qu⟩:=rv.get hx;obtain⟨v',hv',qv⟩:=rv2.get hy;rw[hj] at hu';rw[hv] at hv';cases hu';cases hv';exact qm I g (he j _ _ gw gu) (A:=X.A.in1) (by show X.A.units+1+9+160<cLine;lia) rx ry qu qv
theorem sW (hr:av k X.A) {G:Gp} (I:aC X π σ H s) (g:aI X.K H G) {a b:Addr} {x:W} {ws:List W} (ea:G a=some (.lst (x::ws))) (eb:G b=some (.lst [])) (E:yey) (Q:yey):
 (Q (.bool false) s->wpAny (model X.prog X.w) X.A (richCompare .Eq (.ref a) (.ref b)) Q E s)/\(Q (.bool true) s->wpAny (model X.prog X.w) X.A (richCompare .NotEq (.ref a) (.ref b)) Q E s):=by
 have hu:=hr.un;obtain⟨_,xs,e1,ra⟩:=g _ _ ea;obtain⟨_,ys,e2,rb⟩:=g _ _ eb;obtain⟨its,rv,p,_⟩:=I.list (dy.of e1);obtain⟨its2,rv2,p2,_⟩:=I.list (dy.of e2);have l1:its.length=(x::ws).length:=by rw[←rv.length,ra.length]
 have l2:its2.length=([]:List W).length:=by rw[←rv2.length,rb.length]
 have ne:(its.toArray.size !=its2.toArray.size)=true:=by rw[size_toArray,size_toArray,l1,l2];simp
 exact⟨λq=>SeqAt.RcAt.lists_lengths p.isList p2.isList (by simpa using ne) (A:=X.A) (by (clear l1 l2;lia)) X.prog X.w E Q q,λq=>SeqAt.RcNeAt.lists_lengths p.isList p2.isList (by simpa using ne) (A:=X.A) (by (clear l1 l2;lia)) X.prog X.w E Q q⟩
theorem bx (hr:av k X.A):fm X (compareOp .Eq) kM:=by
 rintro π s σ H x y v u Q I rx ry ⟨wx,wy,G,q,r1,r2,g,h,hQ⟩;unfold kM at h;split at h
 ·rename_i a b;obtain⟨r,he,h⟩:=h;have fin:EP X π σ Q (.bool r) s:=⟨.bl _,H,I,rfl,hQ _ H _ G (aQ.refl H) (.bl _) g h⟩;cases he with
  | old he=>exact As hr π s σ H x y v u Q I rx ry ⟨_,_,G,q,r1,r2,g,⟨r,he,h⟩,hQ⟩
  | @nil ws ea eb=>
    cases r1;cases r2;cases rx;cases ry;cases ws with
    | nil=>exact iv hr (.inl ⟨rfl,rfl⟩) I g ea eb rfl (λj x y z=>by cases z) X.xe _ fin
    | cons x ws=>exact(sW hr I g ea eb X.xe _).1 fin
  | deep ea eb hl he=>
    cases r1;cases r2;cases rx;cases ry;exact iv hr (.inl ⟨rfl,rfl⟩) I g ea eb hl he X.xe _ fin
 ·exact xO hr π s σ H x y v u Q I rx ry ⟨wx,wy,G,q,r1,r2,g,h,hQ⟩
theorem d8 (hr:av k X.A):fm X (compareOp .NotEq) mh:=by
 rintro π s σ H x y v u Q I rx ry ⟨wx,wy,G,q,r1,r2,g,h,hQ⟩;unfold mh at h;split at h
 ·rename_i a b;obtain⟨r,he,h⟩:=h;have fin:EP X π σ Q (.bool (!r)) s:=⟨.bl _,H,I,rfl,hQ _ H _ G (aQ.refl H) (.bl _) g h⟩;cases he with
  | old he=>exact At hr π s σ H x y v u Q I rx ry ⟨_,_,G,q,r1,r2,g,⟨r,he,h⟩,hQ⟩
  | @nil ws ea eb=>
    cases r1;cases r2;cases rx;cases ry;cases ws with
    | nil=>exact iv hr (.inr ⟨rfl,rfl⟩) I g ea eb rfl (λj x y z=>by cases z) X.xe _ fin
    | cons x ws=>exact(sW hr I g ea eb X.xe _).2 fin
  | deep ea eb hl he=>
    cases r1;cases r2;cases rx;cases ry;exact iv hr (.inr ⟨rfl,rfl⟩) I g ea eb hl he X.xe _ fin
 ·exact xP hr π s σ H x y v u Q I rx ry ⟨wx,wy,G,q,r1,r2,g,h,hQ⟩
end
section
variable {X:Cx} {pos:Pos}
noncomputable abbrev wH:=de->Gp->(List (Str×W)->Gp->Prop)->Prop
noncomputable def DO (K:yav) (t:wH) (σ:St) (H:Hp) (Q:List (V×V)->Hp->Prop):Prop:=
 ∃τ G q,bq K H τ σ/\aI K H G/\t τ G q/\∀(kvs:List (Str×V)) (H1:Hp) (kws:List (Str×W)) (G1:Gp),aQ H H1->kvs.map (·.1)=kws.map (·.1)->aK K H1 (kws.map (·.2)) (kvs.map (·.2))->aI K H1 G1->q kws G1->Q (kvs.map λp=>(.str p.1,p.2)) H1
noncomputable def Bz (X:Cx) (pos:Pos) (keys:List (Option Expr)) (values:List Expr) (t:wH):Prop:=
 ∀(π:List (Addr×Obj)) (s:Shared) (σ:St) (H:Hp) (Q:List (V×V)->Hp->Prop),aC X π σ H s->DO X.K t σ H Q->
  wpAny (model X.prog X.w) X.A (evalPairs (pairTrees keys values X.env pos)) (λvs s'=>∃ps H',aC X π σ H' s'/\VV ps vs/\Q ps H') X.xe s
noncomputable def Dz:wH:=λ_ G q=>q [] G
noncomputable def DA (z:Str) (tv:WE) (tr:wH):wH:=λτ G q=>tv τ G λw G1=>tr τ G1 λkws G2=>q ((z,w)::kws) G2
theorem vH:Bz X pos [] [] Dz:=λπ s σ H Q I ⟨τ,G,q,hs,hg,ht,hQ⟩=>pairTrees_nil_walk ⟨[],H,I,.nil,hQ [] H [] G (aQ.refl H) rfl .nil hg ht⟩
theorem mm {z:Str} {j} {kp:Pos} {v:Expr} {ks:List (Option Expr)} {vs:List Expr} {tv:WE} {tr:wH} (hv:QE X v tv) (hr:Bz X pos ks vs tr):Bz X pos (some (.Constant (.str z) j kp)::ks) (v::vs) (DA z tv tr):=
 λπ s σ H Q I ⟨τ,G,q,hs,hg,ht,hQ⟩=>
  pairTrees_cons_walk (bW (j6 (X:=X) (x:=z) (j:=j) (pos:=kp) π s σ H (λv H1=>v=.str z/\H1=H) I ⟨rfl,rfl⟩) λu s1 ⟨x,H1,I1,rx,e1,e2⟩=>by
   subst e1 e2;refine bW (hv π s1 σ H1 (λv H2=>∃w G2,aQ H1 H2/\cf X.K H2 w v/\aI X.K H2 G2/\tr τ G2 λkws G3=>q ((z,w)::kws) G3) I1 ⟨τ,G,_,hs,hg,ht,λv H2 w G2 t2 r2 g2 q2=>⟨w,G2,t2,r2,g2,q2⟩⟩) λw2 s2 z9=>?_;obtain⟨y,H2,I2,ry,w,G2,t2,r2,g2,q2⟩:=z9;refine bW (hr π s2 σ H2 (λps H3=>Q ((.str z,y)::ps) H3) I2 ⟨τ,G2,_,hs.mono t2,g2,q2,λkvs H3 kws G3 t3 e3 r3 g3 q3=>?_⟩) λws s3 ⟨ps,H3,I3,rel,q3⟩=>⟨_,H3,I3,.cons ⟨rx,ry⟩ rel,q3⟩;exact hQ ((z,y)::kvs) H3 ((z,w)::kws) G3 (t2.trans t3) (by rw[map_cons,map_cons,e3]) (.cons (r2.mono t3) r3) g3 q3)
noncomputable def putAll (a:List (bG×W)) (kws:List (Str×W)):List (bG×W):=kws.foldl (λa p=>i7 a (.inr p.1) p.2) a
theorem sX {K:yav} {H:Hp}:∀{kws:List (Str×W)} {kvs:List (Str×V)} {a:List (bG×W)} {b:List (bG×V)},DP K H a b->kvs.map (·.1)=kws.map (·.1)->aK K H (kws.map (·.2)) (kvs.map (·.2))->DP K H (putAll a kws) (fQ b (kvs.map λp=>(.inr p.1,p.2)))
 | [],[],_,_,d,_,_=>d
 | [],_::_,_,_,_,e,_=>by cases e
 | _::_,[],_,_,_,e,_=>by cases e
 | p::kws,r::kvs,a,b,d,e,rr=>by
   rw[map_cons,map_cons] at e rr;obtain⟨e1,e2⟩:=List.cons.inj e;cases rr with
   | cons r1 r2=>
     have:=sX (d.put (.inr p.1) r1) e2 r2;show DP K H (putAll (i7 a (.inr p.1) p.2) kws) (fQ (iD b (.inr r.1) r.2) _);rw[e1];exact this
theorem i9:∀(kws:List (Str×W)) (a:List (bG×W)),(putAll a kws).length<=a.length+kws.length
 | [],a=>ycx _
 | p::kws,a=>by
   have h1:=i9 kws (i7 a (.inr p.1) p.2);have h2:=sV a (.inr p.1) p.2;show(putAll (i7 a (.inr p.1) p.2) kws).length<=_;rw[length_cons];lia
noncomputable def wI (t:wH):WE:=λτ G q=>∀p,G p=none->t τ (aV G p (.dic [])) λkws G2=>G2 p=some (.dic [])/\kws.length<=15/\q (.ref p) (aV G2 p (.dic (putAll [] kws)))
theorem vI {keys:List (Option Expr)} {values:List Expr} {t:wH} (h:Bz X pos keys values t) (hall:keys.all (·.isSome)=true:=by rfl) (hl:keys.length=values.length:=by rfl) (h0:keys≠[]:=by exact λz=>nomatch z)
 (h15:keys.length<=15:=by decide):QE X (.Dict keys values pos) (wI t):=by
 rintro π s σ H Q I ⟨τ,G,q,hs,hg,ht,hQ⟩;have hn:=I.hok.fresh (ycx s.heap.objs.size);have I1:=I.laid (a:=s.heap.objs.size) (o:= .dK []) (h':=s.heap.push { cls:= .type "dict",data:= .dict #[] }) (t':=s.toks) (λ_ _ q=>ybz _ q) (ycx _) (jt s.heap I.bigD);have t1:aQ H (upd H s.heap.objs.size (.dK [])):=aQ.new hn _;have g1:aI X.K (upd H s.heap.objs.size (.dK [])) (aV G s.heap.objs.size (.dic [])):=hg.lay (g:= .dic []) t1 ⟨zero_le _,[],bw,rfl,.nil⟩;refine wpAny_Dict_walk (knd:=cU X.prog X.w) hall hl h0 h15 (bW (h π _ σ _ (λps H2=>∃(kvs:List (Str×V)) (kws:List (Str×W)) (G2:Gp),ps=kvs.map (λp=>(.str p.1,p.2))/\aQ (upd H s.heap.objs.size (.dK [])) H2/\kvs.map (·.1)=kws.map (·.1)/\aK X.K H2 (kws.map (·.2)) (kvs.map (·.2))/\aI X.K H2 G2/\G2 s.heap.objs.size=some (.dic [])/\kws.length<=15/\q (.ref s.heap.objs.size) (aV G2 s.heap.objs.size (.dic (putAll [] kws)))) I1 ⟨τ,_,_,hs.mono t1,g1,ht _ (hg.fresh hn),λkvs H2 kws G2 t2 e2 r2 g2 q2=>⟨kvs,kws,G2,rfl,t2,e2,r2,g2,q2⟩⟩) λws s2 z9=>?_);obtain⟨ps,H2,I2,rel,kvs,kws,G2,ep,t2,e2,r2,g2,gp,lk,q2⟩:=z9;subst ep;have lv:kvs.length=kws.length:=by have:=congrArg List.length e2;rwa [length_map,length_map] at this
 have em:(kvs.map λp=>((.str p.1:V),p.2))=(kvs.map λp=>((.inr p.1:bG),p.2)).map (λkv=>(kV kv.1,kv.2)):=by rw[map_map];rfl
 rw[em] at rel;obtain⟨rs,c,rk⟩:=iE (P:=X.prog) (w:=X.w) rel;obtain⟨_,us,e,n4,_⟩:=g2 _ _ gp;have eu:us=[]:=List.map_eq_nil_iff.mp n4;subst eu;obtain⟨z,hd,vs0,r0,dd⟩:=zk I2.hok e;cases r0;have t3:=aQ.dk e (.dK (fQ [] (kvs.map λp=>((.inr p.1:bG),p.2))));have dp:=(sX (K:=X.K) (H:=H2) (a:=[]) (b:=[]) (DP.of rfl .nil) e2 r2).mono t3;refine⟨rs,c,dd,λh' dd' hs'=>⟨.ref s.heap.objs.size,_,?_,rfl,hQ _ _ _ _ ((t1.trans t2).trans t3) (.ref _) (g2.lay (g:= .dic _) t3 ⟨?_,_,bw,dp.keys,dp.vals⟩) q2⟩⟩
 ·have hz:(fQ [] (kvs.map λp=>((.inr p.1:bG),p.2))).length<=sizeLine:=by
   have h1:=fI (kvs.map λp=>((.inr p.1:bG),p.2)) [];rw[length_nil,length_map] at h1;rw[sizeLine_eq];(clear hl h15 z;lia)
  have he:∃q,h'.get? s.heap.objs.size=some q:=let ⟨q,_,_,hq,_⟩:=dd';⟨q,hq⟩;exact uo I2 (by rw[e];exact True.intro) hs' he (xD hz hd (rk.merge .nil) dd')
 ·have:=i9 kws [];rw[length_nil] at this
  (clear hl h15 z;lia)
end
section
variable {X:Cx} {tg:Expr}
end
section
variable {P:Program} {w:World} {K:yav} {mg:yew} {base:Heap} {N:List Str} {qual:Str} {scope:Scope} {f:Addr} {cdv:Value} {A:Around} {outer:List Env} {s:Shared} {H:Hp} {E:XK}
end
section
variable {X:Cx} {pos:Pos}
end
mutual
inductive Cy (h:Heap):Nat->W->Value->Prop where
 | int {d:Nat} (n:Int) (t:Tok):Cy h d (.int n) (.int n t)
 | tup {d:Nat} {a:Addr} {o:Obj} {items:Array Value} {n:Nat} {ws:List W} (gO:h.get? a=some o) (hc:o.cls=.type "tuple") (dO:o.data=.seq items n) (hs:vJ h d ws items.toList):Cy h (d+1) (.tup ws) (.ref a)
inductive vJ (h:Heap):Nat->List W->List Value->Prop where
 | nil {d:Nat}:vJ h d [] []
 | cons {d:Nat} {w:W} {v:Value} {ws:List W} {vs:yez} (r:Cy h d w v) (rs:vJ h d ws vs):vJ h d (w::ws) (v::vs)
end
section
variable {h h':Heap}
end
section
variable (P:Program) (w:World)
end
section
variable {prog:Program} {w:World}
inductive Sh:W->W->Prop where
 | int (n m:Int):Sh (.int n) (.int m)
 | tup {xs ys:List W} (h:∀p,p∈xs.zip ys->Sh p.1 p.2):Sh (.tup xs) (.tup ys)
end
section
variable {X:Cx} {π:List (Addr×Obj)} {σ:St} {H:Hp} {s:Shared}
end
inductive Cz (K:yav) (H:Hp):List (O×W)->List (O×Addr×Value)->Prop where
 | nil:Cz K H [] []
 | cons {k:O} {a:Addr} {w:W} {v:V} {u:Value} {kvs:List (O×W)} {xs:List (O×Addr×Value)} (rk:cf K H (.tup (am k)) (.ref a)) (rv:cf K H w v) (ru:bg v u) (t:Cz K H kvs xs):Cz K H ((k,w)::kvs) ((k,a,u)::xs)
section
variable {X:Cx} {π:List (Addr×Obj)} {σ:St} {H:Hp} {s:Shared}
end
open PySem PySem.Spec PyProof.Rows Nm PySem.W
section
variable {X:Cx} {π:List (Addr×Obj)} {σ:St} {H:Hp} {s:Shared}
end
section
variable {prog:Program} {w:World} {A:Around} {E:yey} {s:Shared} {it d:Addr} {i ep:Nat} {es:Array DictEntry}
end
end L2
set_option maxHeartbeats 1000000
namespace L2
open PySem PySem.Spec PyProof.Rows Nm PySem.W
inductive NV (K:yav) (H:Hp):List O->List Value->Prop where
 | nil:NV K H [] []
 | cons {o:O} {a:Addr} {os:List O} {us:yez} (r:cf K H (.tup (am o)) (.ref a)) (hd:o.dp<=3) (t:NV K H os us):NV K H (o::os) (.ref a::us)
section
variable {X:Cx} {π:List (Addr×Obj)} {σ:St} {H:Hp} {s:Shared}
end
section
variable {X:Cx} {π:List (Addr×Obj)} {σ:St} {H:Hp} {s:Shared}
end
open PySem PySem.Spec PyProof.Rows
section
variable {G:Gp} {q:WK} {a b:Addr} {i j:Int} {xs ys:List W} {z z':PySem.Str} {ns:List Int} {y:W} {c d:Bool}
theorem DQ:jM (.int i) (.int j) G q=q (.int (i+j)) G:=rfl
theorem DR:jM (.tup xs) (.tup ys) G q=(xs.length+ys.length<=100000/\q (.tup (xs++ys)) G):=rfl
theorem DS:jM (.ref a) (.ref b) G q=(∃xs ys,G a=some (.lst xs)/\G b=some (.lst ys)/\xs.length+ys.length<=100000/\∀p,G p=none->q (.ref p) (aV G p (.lst (xs++ys)))):=rfl
theorem DT:jM (.str z) (.str z') G q=(z.length+z'.length<=100000/\q (.str (z++z')) G):=rfl
theorem DU:jN (.int i) (.int j) G q=(jL i j/\q (.int (i*j)) G):=rfl
theorem DV:jN (.ref a) (.int j) G q=(∃xs,G a=some (.lst xs)/\0<=j/\j<=100000/\xs.length*j.toNat<=100000/\∀p,G p=none->q (.ref p) (aV G p (.lst (List.replicate j.toNat xs).flatten))):=rfl
theorem DW:jN (.tup xs) (.int j) G q=(xs≠[]/\0<=j/\j<=100000/\xs.length*j.toNat<=100000/\q (.tup (List.replicate j.toNat xs).flatten) G):=rfl
theorem DX:jN (.str z) (.int j) G q=(0<=j/\j<=100000/\z.length*j.toNat<=100000/\∀z':PySem.Str,z'.length<=z.length*j.toNat->q (.str z') G):=rfl
theorem DY:nU (.ref a) (.str z) G q=(∃kvs w,GD G a kvs/\fC kvs (.inr z)=some w/\q w G):=rfl
theorem DZ:nU (.str z) (.int i) G q=(z.length<=100000/\∃c,eg z.cps.toList i=some c/\q (.str ⟨#[c]⟩) G):=rfl
theorem D1:nU (.tup xs) (.int i) G q=(∃w,eg xs i=some w/\q w G):=rfl
theorem D2:nU (.scr ns) (.int i) G q=(∃n,eg ns i=some n/\q (.int n) G):=rfl
theorem D3:nU (.ref a) (.int i) G q=(∃xs w,G a=some (.lst xs)/\eg xs i=some w/\q w G):=rfl
theorem D4:kM (.ref a) (.ref b) G q=(∃r,yt G a b r/\q (.bl r) G):=rfl
theorem D5:kM (.tup xs) y G q=((W.tup xs).flat=true/\y.flat=true/\(W.tup xs).dep<=150/\q (.bl ((W.tup xs).eq y)) G):=rfl
theorem D6:kM (.int i) y G q=((W.int i).flat=true/\y.flat=true/\(W.int i).dep<=150/\q (.bl ((W.int i).eq y)) G):=rfl
theorem D7:kM (.str z) y G q=((W.str z).flat=true/\y.flat=true/\(W.str z).dep<=150/\q (.bl ((W.str z).eq y)) G):=rfl
theorem D8:kM (.bl c) y G q=((W.bl c).flat=true/\y.flat=true/\(W.bl c).dep<=150/\q (.bl ((W.bl c).eq y)) G):=rfl
theorem D9:kM .non y G q=(W.non.flat=true/\y.flat=true/\W.non.dep<=150/\q (.bl (W.non.eq y)) G):=rfl
theorem Ea:mh (.ref a) (.ref b) G q=(∃r,yt G a b r/\q (.bl (!r)) G):=rfl
theorem Eb:mh (.tup xs) y G q=((W.tup xs).flat=true/\y.flat=true/\(W.tup xs).dep<=150/\q (.bl (!(W.tup xs).eq y)) G):=rfl
theorem Ec:mh (.int i) y G q=((W.int i).flat=true/\y.flat=true/\(W.int i).dep<=150/\q (.bl (!(W.int i).eq y)) G):=rfl
theorem Ed:mh (.str z) y G q=((W.str z).flat=true/\y.flat=true/\(W.str z).dep<=150/\q (.bl (!(W.str z).eq y)) G):=rfl
theorem Ee:mh (.bl c) y G q=((W.bl c).flat=true/\y.flat=true/\(W.bl c).dep<=150/\q (.bl (!(W.bl c).eq y)) G):=rfl
theorem Ef:mh .non y G q=(W.non.flat=true/\y.flat=true/\W.non.dep<=150/\q (.bl (!W.non.eq y)) G):=rfl
theorem Eg:uG (.int i) (.int j) G q=q (.bl (decide (i<j))) G:=rfl
theorem Eh:uG (.tup xs) (.tup ys) G q=(W.flats xs=true/\W.flats ys=true/\W.deps xs<=149/\W.ords xs ys=true/\q (.bl (W.lts xs ys)) G):=rfl
theorem Ei:rB (.int i) (.int j) G q=q (.int (i-j)) G:=rfl
theorem Ej:rB (.bl c) (.bl d) G q=q (.int (b2i c-b2i d)) G:=rfl
theorem Ek {C:Int->Int->Prop} {f:Int->Int->W}:pT C f (.int i) (.int j) G q=(C i j/\q (f i j) G):=rfl
theorem El {f:Int->Int->W}:jv f (.int i) (.int j) G q=q (f i j) G:=rfl
theorem Em:jQ [.ref a] G q=(∃n:Nat,vD G a n/\q (.int n) G):=rfl
theorem Eo:jQ [.str z] G q=(z.length<=100000/\q (.int z.length) G):=rfl
theorem Ep:jQ [.tup xs] G q=q (.int xs.length) G:=rfl
theorem Er:jQ [.scr ns] G q=q (.int ns.length) G:=rfl
theorem Es:Cn (.int i) (.int j) G q=q (.bl (decide (i≥j))) G:=rfl
theorem Et:kM (.ref a) (.int i) G q=((W.ref a).flat=true/\(W.int i).flat=true/\(W.ref a).dep<=150/\q (.bl ((W.ref a).eq (.int i))) G):=rfl
end
section
variable {τ:de} {G:Gp} {d:dU} {i:Nat} {k:Int} {a b:Str} {ws:List W} {t u v:WS} {c:WT}
end
section
variable {X:Cx} {pos:Pos}
noncomputable def kN (r r':W2) (ta tb tc:WE):WE:=λτ G q=>ta τ G λx G1=>tb τ G1 λy G2=>r x y G2 λz G3=>∃k,z=.bl k/\(if k=true then tc τ G3 λv G4=>r' y v G4 q else q (.bl false) G3)
theorem gE.chain {r r':W2} {ta tb tc:WE} {σ:St} {H:Hp} {Q:VK} (h:gE K (kN r r' ta tb tc) σ H Q):mX (LR K r) (LR K r') (gE K ta) (gE K tb) (gE K tc) σ H Q:=by
 obtain⟨τ,G,q,hs,hg,ht,hQ⟩:=h;refine⟨τ,G,_,hs,hg,ht,λv H1 w G1 t1 r1 g1 q1=>?_⟩;refine⟨τ,G1,_,hs.mono t1,g1,q1,λv2 H2 w2 G2 t2 r2 g2 q2=>?_⟩;refine⟨w,w2,G2,_,r1.mono t2,r2,g2,q2,λv3 H3 w3 G3 t3 r3 g3 q3=>?_⟩;obtain⟨k,rfl,q3⟩:=q3;cases r3;refine⟨k,rfl,?_⟩;have tt:=(t1.trans t2).trans t3;cases k with
 | false=>exact hQ _ H3 _ G3 tt (.bl false) g3 q3
 | true=>
   refine⟨τ,G3,_,hs.mono tt,g3,q3,λv4 H4 w4 G4 t4 r4 g4 q4=>?_⟩;exact⟨w2,w4,G4,q,(r2.mono t3).mono t4,r4,g4,q4,λv5 H5 w5 G5 t5 r5 g5 q5=>hQ v5 H5 w5 G5 ((tt.trans t4).trans t5) r5 g5 q5⟩
theorem mq {op op':CmpOp} {r r':W2} {a b c:Expr} {ta tb tc:WE} (ho:fm X (compareOp op) r) (ho':fm X (compareOp op') r') (ha:QE X a ta) (hb:QE X b tb) (hc:QE X c tc)
 (hm:lastMarks [op,op'] [b,c]=false:=by with_unfolding_all rfl):QE X (.Compare a [op,op'] [b,c] pos) (kN r r' ta tb tc):=
 (qH ho ho' ha hb hc hm).imp λ_ _ _ h=>h.chain
theorem mv {op op':CmpOp} {r r':W2} {a b c:Expr} {ta tb tc:WE} (ho:fm X (compareOp op) r) (ho':fm X (compareOp op') r') (ha:QE X a ta) (hb:QE X b tb) (hc:QE X c tc)
 (hm:lastMarks [op,op'] [b,c]=false:=by with_unfolding_all rfl):QT X (.Compare a [op,op'] [b,c] pos) (lF (kN r r' ta tb tc)):=
 (qI ho ho' ha hb hc hm).imp λσ H Q h=>by
   obtain⟨τ,G,q,hs,hg,ht,hQ⟩:=h.test;exact gE.chain ⟨τ,G,q,hs,hg,ht,hQ⟩
noncomputable def vK:W2:=λx y G q=>match x,y with
 | .str a,.str b=>q (.bl (!decide (b.cps.toList<a.cps.toList))) G
 | .int i,.int j=>q (.bl (decide (i<=j))) G
 | _,_=>False
theorem ia:fm X (compareOp .LtE) vK:=by
 rintro π s σ H x y v u Q I rx ry ⟨wx,wy,G,q,r1,r2,g,h,hQ⟩;unfold vK at h;split at h
 ·cases r1;cases r2;obtain⟨t,rfl⟩:=rx;obtain⟨t',rfl⟩:=ry;exact P.le_str ⟨.bl _,H,I,rfl,hQ _ H _ G (aQ.refl H) (.bl _) g h⟩
 ·exact zD π s σ H x y v u Q I rx ry ⟨_,_,G,q,r1,r2,g,h,hQ⟩
 ·exact h.elim
end
section
variable {X:Cx} {pos:Pos}
noncomputable def aF (m:Nat):List Nat:=(Nat.toDigits 10 m).map Char.toNat
theorem mw (m:Nat):PySem.Str.ofString (toString ((m:Nat):Int))=⟨(aF m).toArray⟩:=by
 have h:=W.KIN.signs_num m;generalize PySem.Str.ofString (toString ((m:Nat):Int))=z at h ⊢;obtain⟨a⟩:=z;show Str.mk a=_;have h:a.toList=aF m:=h;rw[←h]
noncomputable def Av:List W->Gp->WK->Prop:=λws G q=>match ws with
 | [.int i]=>∃m:Nat,i=(m:Int)/\m<2^1900/\q (.str ⟨(aF m).toArray⟩) G
 | _=>False
theorem log2_lt {m:Nat} (h:m<2^1900):m.log2<1920:=by
 by_cases h0:m=0
 ·rw[h0];decide
 ·exact Nat.lt_trans ((Nat.log2_lt h0).mpr h) (by decide)
theorem sY:dX X (.type "str") Av:=by
 rintro π s σ H xs us Q I r ⟨ws,G,q,rw',g,h,hQ⟩;cases rw' with
 | nil=>exact False.elim h
 | cons r1 rr'=>
   cases rr' with
   | cons _ _=>cases r1<;> exact False.elim h
   | nil=>
     cases r1 with
     | int i=>
       obtain⟨m,rfl,hm,hq⟩:=h;obtain⟨u,rfl,t,rfl⟩:=eQ r;refine PySem.P.str_of_int (log2_lt hm) ⟨.str _,H,I.tok _,⟨_,rfl⟩,hQ _ H _ G (aQ.refl H) ?_ g hq⟩;rw[mw];exact .str _
     | _=>exact False.elim h
noncomputable def sZ:List W->Gp->WK->Prop:=λws G q=>match ws with
 | [.str z]=>PySem.NumText.AllDigits z.cps.toList/\z.cps.toList≠[]/\z.length<=600/\q (.int ((PySem.NumText.digitsVal z.cps.toList:Nat):Int)) G
 | ws=>xM ws G q
theorem yu:dX X (.type "int") sZ:=by
 rintro π s σ H xs us Q I r ⟨ws,G,q,rw',g,h,hQ⟩;unfold sZ at h;split at h
 ·rename_i z;obtain⟨h1,h2,h3,h4⟩:=h;cases rw' with
  | cons r1 rr'=>
    cases rr';cases r1;obtain⟨u,rfl,t,rfl⟩:=eQ r;exact W.KIN.call_text (PySem.intText_digits h1 h2 (ycy h3 (by decide))) (ycy h3 (by decide)) ⟨.int _,H,I.tok _,⟨_,rfl⟩,hQ _ H _ G (aQ.refl H) (.int _) g h4⟩
 ·exact zA π s σ H xs us Q I r ⟨_,G,q,rw',g,h,hQ⟩
end
section
variable {G:Gp} {q:WK} {a b:Str} {i j:Int}
theorem Eu:vK (.str a) (.str b) G q=q (.bl (!decide (b.cps.toList<a.cps.toList))) G:=rfl
theorem Ev:vK (.int i) (.int j) G q=q (.bl (decide (i<=j))) G:=rfl
end
section
variable {P:Program} {w:World} {K:yav} {mg:yew} {base:Heap} {u x:Str} {st:Stmt} {ps:List Str} {k:Nat} {sp:bM}
end
theorem kO {a b:Int} {p m:Nat} (ha:a=(p:Int)) (hb:b=(m:Int)):sliceRange a b 1=(List.range (m-p)).map λk=>p+k:=by
 subst ha hb;unfold sliceRange;simp only[show(1:Int) > 0 by decide,if_true];have ec:(if (p:Int)<(m:Int) then ((m:Int)-p+1-1)/1 else 0).toNat=m-p:=by split<;> lia
 rw[ec];apply List.map_congr_left;intro k _
 (clear ec;lia)
theorem clip_n {p n:Nat}:max 0 (min (if (p:Int)<0 then (p:Int)+n else p) n)=((min p n:Nat):Int):=by
 rw[ycw (by lia)];lia
theorem s9 (lo hi:Option Int) (p q n:Nat) (hp:p<=n) (h1:(lo=none/\p=0)∨lo=some (p:Int)) (h2:(hi=none/\n<=q)∨hi=some (q:Int)):Builtin.Str.strSliceIndices lo hi 1 n=(List.range (min q n-p)).map λk=>p+k:=by
 have hp':min p n=p:=Nat.min_eq_left hp;rcases h1 with⟨rfl,rfl⟩ | rfl<;> rcases h2 with⟨rfl,h⟩ | rfl
 ·exact kO rfl (show(n:Int)=((min q n:Nat):Int) by rw[Nat.min_eq_right h])
 ·exact kO rfl clip_n
 ·exact kO (clip_n.trans (by rw[hp'])) (show(n:Int)=((min q n:Nat):Int) by rw[Nat.min_eq_right h])
 ·exact kO (clip_n.trans (by rw[hp'])) clip_n
theorem jS (l:List Nat) (p:Nat):∀m,p+m<=l.length->((List.range m).map λk=>p+k).filterMap (l.toArray[·]?)=(l.drop p).take m
 | 0,_=>by simp
 | m+1,h=>by
   rw[List.range_succ,map_append,List.filterMap_append,jS l p m (by lia)];have hg:(l.drop p)[m]?=some l[p+m]:=by rw[List.getElem?_drop,ycz (by assumption)]
   rw[List.take_succ,hg];simp[ycz (show p+m<l.length by assumption)]
theorem qo (l:List Nat) (lo hi:Option Int) (p q:Nat) (hp:p<=l.length) (h1:(lo=none/\p=0)∨lo=some (p:Int)) (h2:(hi=none/\l.length<=q)∨hi=some (q:Int)):Txt.slice ⟨l.toArray⟩ lo hi=⟨((l.drop p).take (q-p)).toArray⟩:=by
 unfold Txt.slice;have hn:(⟨l.toArray⟩:Str).length=l.length:=by simp[Str.length]
 rw[hn,s9 lo hi p q l.length hp h1 h2];have hl:((List.range (min q l.length-p)).map λk=>p+k).length=min q l.length-p:=by simp
 rw[hl];have et:(l.drop p).take (q-p)=(l.drop p).take (min q l.length-p):=by
  rcases Nat.le_total q l.length with h | h
  ·rw[Nat.min_eq_left h]
  ·rw[Nat.min_eq_right h,take_of_length_le (by rw[length_drop];(clear h1 h2 hl;lia)),take_of_length_le (by rw[length_drop];exact ycx _)]
 rw[et];split
 ·rename_i h;have h:min q l.length-p=l.length:=by simpa using h
  have h0:(l.drop p).take (min q l.length-p)=l:=by
   rw[h];rcases Nat.eq_zero_or_pos p with rfl | hp0
   ·rw[drop_zero,take_length]
   ·have:l.length=0:=by (clear hp h1 h2;lia)
    rw[List.length_eq_zero_iff.mp this]
    rfl
  rw[h0]
 ·rw[jS l p _ (by (clear h1 h2 hl;lia))]
section
variable {X:Cx} {pos:Pos}
noncomputable def nV:W3:=λx lo hi G k=>match x with
 | .str z=>z.length<=100000/\∃p q:Nat,p<=z.length/\((lo=none/\p=0)∨lo=some (p:Int))/\((hi=none/\z.length<=q)∨hi=some (q:Int))/\k (.str ⟨((z.cps.toList.drop p).take (q-p)).toArray⟩) G
 | x=>nr x lo hi G k
theorem Aw:zc X (Dv X.K nV):=by
 rintro π s σ H x v vl vu lo hi sl Q I rx hs pl pu ⟨w,G,q,r,g,h,hQ⟩;unfold nV at h;split at h
 ·rename_i z;obtain⟨hz,p,qq,hp,h1,h2,h⟩:=h;have ez:(⟨z.cps.toList.toArray⟩:Str)=z:=by cases z;simp
  have hs0:=qo z.cps.toList lo hi p qq (by rw[pc];exact hp) h1 (by rw[pc];exact h2);rw[ez] at hs0;rw[←hs0] at h;cases r;obtain⟨t,rfl⟩:=rx;refine⟨"str",_,slot_str_getitem.lookup,typeIs_str s z t,?_⟩;have hl:∃l:Option (Int×Tok),vl=partValue l/\l.map (·.1)=lo:=by
   cases pl with
   | none=>exact⟨none,rfl,rfl⟩
   | int i t=>exact⟨some (i,t),rfl,rfl⟩
  have hu:∃u:Option (Int×Tok),vu=partValue u/\u.map (·.1)=hi:=by
   cases pu with
   | none=>exact⟨none,rfl,rfl⟩
   | int i t=>exact⟨some (i,t),rfl,rfl⟩
  obtain⟨l,rfl,el⟩:=hl;obtain⟨u,rfl,eu⟩:=hu;refine wpAny_getItem_str_slice (l:=l) (u:=u) (st:=none) ?_ rfl ?_
  ·obtain⟨o,e1,e2,e3⟩:=hs;exact⟨o,e1,e2,e3⟩
  ·have hle:=Txt.slice_le z lo hi;rw[←el,←eu] at h hle;unfold sliceMade;split
   ·rename_i hy;have e:Txt.slice z (l.map (·.1)) (u.map (·.1))=z:=ycv hy;rw[e] at h;exact⟨.str z,H,I,⟨_,rfl⟩,hQ _ H _ G (aQ.refl H) (.str _) g h⟩
   ·rename_i hn;have e:=show Txt.slice z (l.map (·.1)) (u.map (·.1))=_ from ycw hn
    rw[e] at h hle;exact⟨ycy hle (bI hz),.str _,H,I.tok _,⟨_,rfl⟩,hQ _ H _ G (aQ.refl H) (.str _) g h⟩
 ·exact Cg π s σ H x v vl vu lo hi sl Q I rx hs pl pu ⟨w,G,q,r,g,h,hQ⟩
noncomputable def Ax (te:WE) (tl th:WO):WE:=λτ G q=>te τ G λx G1=>tl τ G1 λl G2=>th τ G2 λu G3=>nV x l u G3 q
theorem bV {lo hi:Option Expr} {te:WE} {tl th:WO} {pos p2:Pos} (he:QE X e te) (hl:QO X lo tl) (hu:QO X hi th):QE X (.Subscript e (.Slice lo hi none p2) pos) (Ax te tl th):=
 (qW Aw he hl hu).imp λσ H Q z0=>z0.el λτ G q hs hg ht hQ=>⟨τ,G,_,hs,hg,ht,λv H1 w G1 t1 r1 g1 q1=>⟨τ,G1,_,hs.mono t1,g1,q1,λl H2 G2 t2 g2 q2=>
   ⟨τ,G2,_,(hs.mono t1).mono t2,g2,q2,λu H3 G3 t3 g3 q3=>⟨w,G3,q,(r1.mono t2).mono t3,g3,q3,λv4 H4 w4 G4 t4=>hQ v4 H4 w4 G4 (((t1.trans t2).trans t3).trans t4)⟩⟩⟩⟩
theorem Ew {z:Str} {lo hi:Option Int} {G:Gp} {k:WK}:nV (.str z) lo hi G k=(z.length<=100000/\∃p q:Nat,p<=z.length/\((lo=none/\p=0)∨lo=some (p:Int))/\((hi=none/\z.length<=q)∨hi=some (q:Int))/\k (.str ⟨((z.cps.toList.drop p).take (q-p)).toArray⟩) G):=rfl
theorem CA {xs:List W} {lo hi:Option Int} {G:Gp} {k:WK}:nV (.tup xs) lo hi G k=nr (.tup xs) lo hi G k:=rfl
theorem Ex {lo hi:Option Int} {G:Gp} {k:WK}:nV (.ref a) lo hi G k=nr (.ref a) lo hi G k:=rfl
theorem Ey {ns:List Int} {lo hi:Option Int} {G:Gp} {k:WK}:nV (.scr ns) lo hi G k=nr (.scr ns) lo hi G k:=rfl
end
section
variable {X:Cx}
noncomputable def CB (K:yav) (a:Addr) (ts:List Str):Prop:=∃(d:Option Addr) (n:Nat) (sl:Array (Option Value)) (us:yez),K.lookup a=some ⟨.type "tuple",d,.seq us.toArray n,sl⟩/\aS (ts.map V.str) us
noncomputable def CC (a:Addr) (ts:List Str):W2:=λx y G q=>∃z,x=.str z/\y=.ref a/\q (.bl (ts.any λt=>t==z)) G
noncomputable def vL (z:Str):Value->Bool
 | .str t _=>t==z
 | _=>false
theorem pe (z:Str):∀{ts:List Str} {us:yez},aS (ts.map V.str) us->us.any (vL z)=ts.any (λt=>t==z)/\∀y,y∈us->∃t k,y=Value.str t k
 | [],[],_=>⟨rfl,λy h=>by cases h⟩
 | [],_::_,h=>by cases h
 | _::_,[],h=>by cases h
 | t::ts,u::us,h=>by
   cases h with
   | cons h1 h2=>
     obtain⟨k,rfl⟩:=h1;obtain⟨i1,i2⟩:=pe z h2;refine⟨?_,λy hy=>?_⟩
     ·rw[any_cons,any_cons,i1]
      rfl
     ·rcases mem_cons.mp hy with rfl | hy
      ·exact⟨t,k,rfl⟩
      ·exact i2 y hy
theorem Ay {ts:List Str} (hK:CB X.K a ts):fm X (compareOp .In) (CC a ts):=by
 rintro π s σ H x y v u Q I rx ry ⟨wx,wy,G,q,r1,r2,g,h,hQ⟩;obtain⟨z,e1,e2,h⟩:=h;subst e1 e2;cases r1;cases r2;obtain⟨t,rfl⟩:=rx;cases ry;obtain⟨d,n,sl,us,hk,hv⟩:=hK;obtain⟨i1,i2⟩:=pe z hv;have hh:=I.kIn _ _ hk;refine SeqAt.in_tupleAt (vL z) ⟨_,hh,rfl,n,rfl⟩ (λy hy=>?_) ?_
 ·obtain⟨t',k,rfl⟩:=i2 y (by simpa using hy);exact SeqAt.EqAt.str_str _ _ _ _
 ·rw[show us.toArray.any (vL z)=us.any (vL z) by simp,i1];exact⟨.bl _,H,I,rfl,hQ _ H _ G (aQ.refl H) (.bl _) g h⟩
end
section
variable {X:Cx}
noncomputable abbrev WF:=Str->de->Gp->(Str->Gp->Prop)->Prop
noncomputable def Az:WF:=λout _ G q=>q out G
noncomputable def AA (b:Str) (t:WF):WF:=λout τ G q=>(out++b).length<=100000/\t (out++b) τ G q
noncomputable def AB (x:W) (z:Str):Prop:=x=.str z∨∃m:Nat,x=.int (m:Int)/\m<2^1900/\z=⟨(aF m).toArray⟩
noncomputable def AC (te:WE) (t:WF):WF:=λout τ G q=>te τ G λx G1=>∃z,AB x z/\(out++z).length<=100000/\t (out++z) τ G1 q
noncomputable def QF (X:Cx) (es:List Expr) (t:WF):Prop:=∀(π:List (Addr×Obj)) (s:Shared) (σ:St) (H:Hp) (out:Str) (Q:VK) (τ:de) (G:Gp) (q:Str->Gp->Prop),aC X π σ H s->bq X.K H τ σ->aI X.K H G->t out τ G q->
 (∀z H1 G1,aQ H H1->aI X.K H1 G1->q z G1->Q (.str z) H1)->out.length<=100000->wpAny (model X.prog X.w) X.A (joinParts out (evalEach es X.env)) (EP X π σ Q) X.xe s
theorem nW:QF X [] Az:=λπ s σ H out Q τ G q I hs hg ht hQ hl=>joinParts_nilE (joinParts_nil ⟨.str _,H,I.tok _,⟨_,rfl⟩,hQ _ H G (aQ.refl H) hg ht⟩ (bI hl))
theorem gy {b:Str} {j:Nat} {p:Pos} {t:WF} (h:QF X es t):QF X (.Constant (.str b) j p::es) (AA b t):=λπ s σ H out Q τ G q I hs hg ht hQ hl=>by
 refine joinParts_consE (joinParts_cons (Calls.Constant_str ?_));exact⟨bI ht.1,h π _ σ H _ Q τ G q (I.tok _) hs hg ht.2 hQ ht.1⟩
theorem kP {te:WE} {p:Pos} {t:WF} (he:QE X e te) (h:QF X es t):QF X (.FormattedValue e (-1) none p::es) (AC te t):=λπ s σ H out Q τ G q I hs hg ht hQ hl=>by
 have key:=he π s σ H (λv H1=>∃w G1,aQ H H1/\cf X.K H1 w v/\aI X.K H1 G1/\∃z,AB w z/\(out++z).length<=100000/\t (out++z) τ G1 q) I ⟨τ,G,_,hs,hg,ht,λv H1 w G1 t1 r1 g1 q1=>⟨w,G1,t1,r1,g1,q1⟩⟩;refine joinParts_consE (joinParts_cons (FormattedValue_plain (bW key λv s1 z9=>?_)));obtain⟨x,H1,I2,r1,w,G1,t1,rw',g1,z,hw,hl1,q1⟩:=z9;have fin:∀s2:Shared,aC X π σ H1 s2->(out++z).length<=sizeLine/\wpAny (model X.prog X.w) X.A (joinParts (out++z) (evalEach es X.env)) (EP X π σ Q) X.xe s2:=λs2 I3=>
  ⟨bI hl1,h π s2 σ H1 _ Q τ G1 q I3 (hs.mono t1) g1 q1 (λz' H2 G2 t2=>hQ z' H2 G2 (t1.trans t2)) hl1⟩
 rcases hw with rfl | ⟨m,rfl,hm,rfl⟩
 ·cases rw';obtain⟨k,rfl⟩:=r1;exact wpAny_formatField_str (fin _ I2) (fin _ (I2.tok _)) (bI (by have:=vC out z;lia))
 ·cases rw';obtain⟨k,rfl⟩:=r1;refine wpAny_formatField_int (log2_lt hm) ?_;rw[mw];exact fin _ ((I2.tok _).tok _)
noncomputable def AD (t:WF):WE:=λτ G q=>t Str.empty τ G λz G1=>q (.str z) G1
theorem tf {e1 e2:Expr} {t:WF} (h:QF X (e1::e2::es) t):QE X (.JoinedStr (e1::e2::es) pos) (AD t):=by
 rintro π s σ H Q I ⟨τ,G,q,hs,hg,ht,hQ⟩;exact JoinedStr_many (h π s σ H Str.empty Q τ G _ I hs hg ht (λz H1 G1 t1 g1 q1=>hQ _ H1 _ G1 t1 (.str _) g1 q1) (by decide))
noncomputable def fj (sep:List Nat):List (List Nat)->List Nat
 | []=>[]
 | [l]=>l
 | l::m::r=>l++sep++fj sep (m::r)
theorem kQ (sep l:List Nat) (r:List (List Nat)) (h:r≠[]):fj sep (l::r)=l++sep++fj sep r:=by
 cases r with
 | nil=>exact absurd rfl h
 | cons m r=>rfl
theorem jT (sep:List Nat):∀(r:List (List Nat)) (b:List Nat),List.foldl (λacc (p:Str)=>acc++sep.toArray++p.cps) b.toArray (r.map λl=>(⟨l.toArray⟩:Str))=(fj sep (b::r)).toArray
 | [],b=>by simp[fj]
 | l::r,b=>by
   rw[map_cons,foldl_cons,kQ sep b (l::r) (by simp)];have e:b.toArray++sep.toArray++(⟨l.toArray⟩:Str).cps=(b++sep++l).toArray:=by simp
   rw[e,jT sep r];cases r with
   | nil=>simp[fj]
   | cons m r=>rw[kQ sep _ (m::r) (by simp),kQ sep l (m::r) (by simp)];simp
theorem ti (sep:List Nat) (ls:List (List Nat)):Txt.join ⟨sep.toArray⟩ (ls.map λl=>(⟨l.toArray⟩:Str))=⟨(fj sep ls).toArray⟩:=by
 unfold Txt.join Builtin.Str.glued;cases ls with
 | nil=>rfl
 | cons l ls=>
   show Str.mk (List.foldl (λacc (p:Str)=>acc++sep.toArray++p.cps) l.toArray (ls.map λl=>(⟨l.toArray⟩:Str)))=_;rw[jT]
noncomputable def yv (K:yav) (sep:List Nat):V->List V->Hp->VK->Prop:=λx vs H Q=>∃l ls,x=.str ⟨sep.toArray⟩/\vs=[.ref l]/\dy K H l ((ls.map λl=>(⟨l.toArray⟩:Str)).map V.str)/\(ls.map List.length).sum+ls.length*sep.length<=100000/\Q (.str ⟨(fj sep ls).toArray⟩) H
theorem tj {sep:List Nat}:B0 X "str.join" (yv X.K sep):=by
 intro π s σ H x vs v us Q I rx rv h;obtain⟨l,ls,rfl,rfl,hl,hs,q⟩:=h;obtain⟨t,rfl⟩:=rx;obtain⟨u1,rfl,r1⟩:=eQ rv;cases r1;obtain⟨its,rv,p,hz⟩:=I.list hl;refine join_list (ys:=ls.map λl=>(⟨l.toArray⟩:Str)) p.isList (md rv) ?_ λt' k=>?_
 ·have e1:((ls.map λl=>(⟨l.toArray⟩:Str)).map (·.length)).sum=(ls.map List.length).sum:=by
   rw[map_map]
   congr 1
  have e2:(Str.mk sep.toArray).length=sep.length:=by simp[Str.length]
  rw[e1,e2,length_map];exact ycy hs (by decide)
 ·rw[ti];exact⟨.str _,H,I.tok _,⟨_,rfl⟩,q⟩
noncomputable def nX (sep:List Nat) (te:WE):WE:=λτ G q=>te τ G λy G2=>∃a ls,y=.ref a/\G2 a=some (.lst (ls.map λl=>W.str ⟨l.toArray⟩))/\(ls.map List.length).sum+ls.length*sep.length<=100000/\q (.str ⟨(fj sep ls).toArray⟩) G2
theorem my (sep:List Nat) {z:Str} {op:Pos} {te:WE} {apos cpos:Pos} (he:QE X e te) (hz:z=⟨sep.toArray⟩:=by rfl)
 (hbase:attributeBase (.Constant (.str z) k op) "join" X.env (eval (.Constant (.str z) k op) X.env)=eval (.Constant (.str z) k op) X.env:=by rfl)
 (hfew:((backTo cpos (starEach [e] X.env)).all (λx=>!x.1)&&(backToKw cpos (keywordEach [] X.env)).all (λx=>x.1.isSome)
   &&decide (([e]:List Expr).length+([]:List Keyword).length+(if ([]:List Keyword).isEmpty then 0 else 1)<30))=true:=by rfl)
 (hline:(apos.endLine==cpos.line)=true:=by rfl) (hs:starEach [e] X.env=(false,eval e X.env)::starEach [] X.env:=by rfl) (hpl:(backTo cpos (starEach [] X.env)).any (·.1)=false:=by rfl):
 QE X (.Call (.Attribute (.Constant (.str z) k op) "join" apos) [e] [] cpos) (nX sep te):=
 (qZ PySem.F.plainAttrs_str PySem.F.slot_str_join PySem.F.type_str_join (tj (sep:=sep)) j6 (eh he pa_nil hs) hbase hfew hline hs hpl).imp λσ H Q z0=>z0.el λτ G q hs hg ht hQ=>by
   subst hz;refine⟨rfl,τ,G,_,hs,hg,ht,λv2 H2 w2 G2 t2 r2 g2 q2=>?_⟩;obtain⟨a,ls,rfl,e2,hl,q2⟩:=q2;cases r2;obtain⟨_,xs,h1,rr⟩:=g2 _ _ e2;have rr':aK X.K H2 ((ls.map λl=>(⟨l.toArray⟩:Str)).map W.str) xs:=by rw[map_map];exact rr
   rw[mf rr'] at h1;exact⟨_,ls,rfl,rfl,dy.of h1,hl,hQ _ _ _ _ t2 (.str _) g2 q2⟩
end
open PySem PySem.Spec PyProof.Rows Nm
theorem mB:∀d:Nat,d<10->(Nat.digitChar d).toNat=48+d:=by decide
theorem pf (m:Nat):aF m=if m<10 then [48+m] else aF (m/10)++[48+m%10]:=by
 unfold aF;rw[Nat.toDigits_eq_if (by decide)];split
 ·rename_i h;rw[map_cons,map_nil,mB m h]
 ·rw[map_append,map_cons,map_nil,mB _ (Nat.mod_lt _ (by decide))]
theorem ja:∀(n m:Nat),m<=n->(aF m).all cF=true/\lP (aF m)=m/\(m≠0->(aF m).head?≠some 48)/\aF m≠[]
 | 0,m,h=>by
   have:m=0:=by lia
   subst this;rw[pf];exact⟨rfl,rfl,λh=>absurd rfl h,by simp⟩
 | n+1,m,h=>by
   rw[pf];split
   ·rename_i hm;refine⟨?_,?_,λh0 hh=>?_,by simp⟩
    ·simp only[all_cons,List.all_nil,Bool.and_true];exact ydz ⟨by (clear h;lia),by (clear h;lia)⟩
    ·show 0*10+(48+m-48)=m
     (clear h;lia)
    ·have:=Option.some.inj hh
     (clear h hm;lia)
   ·rename_i hm;obtain⟨h1,h2,h3,h4⟩:=ja n (m/10) (by lia);refine⟨?_,?_,λh0 hh=>?_,by simp⟩
    ·rw[List.all_append,h1];simp only[all_cons,List.all_nil,Bool.and_true,Bool.true_and];exact ydz ⟨by (clear h hm h2;lia),by have:=Nat.mod_lt m (y:=10) (by decide);(clear h hm h2 this;lia)⟩
    ·unfold lP at h2 ⊢;rw[List.foldl_append,h2];show m/10*10+(48+m%10-48)=m
     (clear h hm h2;lia)
    ·rw[List.head?_append] at hh;cases e:(aF (m/10)).head? with
     | none=>exact h4 (List.head?_eq_none_iff.mp e)
     | some y=>
       rw[e] at hh;exact h3 (by (clear h h2 h0;lia)) (e.trans hh)
theorem jb {m k:Nat} (hk:0<k) (h:m<10^k):(aF m).length<=k:=by
 unfold aF;rw[length_map];exact(Nat.length_toDigits_le_iff (by decide) hk).mpr h
theorem mD:dQ aF:=⟨λm hm=>by
 obtain⟨h1,h2,h3,h4⟩:=ja m m (ycx _);have hl:=jb (k:=60) (by decide) hm;have h0:1<=(aF m).length:=List.length_pos_iff.mpr h4;unfold bU;rw[h1,ydz ⟨h0,hl⟩,Bool.true_and,Bool.true_and,Bool.or_eq_true]
 by_cases hz:m=0
 ·subst hz;exact .inl rfl
 ·exact .inr (ydz (h3 hz)),λm=>(ja m m (ycx _)).2.1⟩
theorem kR {n:Int} (h0:0<=n) (h1:n<10^300):n.toNat<2^1900/\(aF n.toNat).length<=300:=by
 have h2:((n.toNat:Nat):Int)<((10^300:Nat):Int):=by
  rw[Int.toNat_of_nonneg h0];exact Int.lt_of_lt_of_le h1 (by decide+kernel)
 have h3:n.toNat<10^300:=Int.ofNat_lt.mp h2;exact⟨Nat.lt_trans h3 (by decide+kernel),jb (by decide) h3⟩
theorem kS:∀a:O,a.NF->O.mx a<10^300->(bH aF a).length<=320*a.size+1
 | .z,_,_=>by decide
 | .c e n r,hn,hm=>by
   have h1:=kS e hn.1 (Int.lt_of_le_of_lt O.mx_he hm);have h2:=kS r hn.2.2.2 (Int.lt_of_le_of_lt O.mx_hr hm);have hn1:=hn.2.1;have h3:=(kR (n:=n) (by (clear hm h1 h2;lia)) (Int.lt_of_le_of_lt O.mx_hn hm)).2;have h4:(eS e (bH aF e)).length<=(bH aF e).length+4:=by
    unfold eS;split
    ·simp
    ·split<;> simp
   have h5:(dc aF e n (bH aF e)).length<=(bH aF e).length+305:=by
    unfold dc;split
    ·lia
    ·split
     ·(clear hm h1 h2 hn1 h3;lia)
     ·simp only[length_append,length_cons]
      (clear hm h1 h2 hn1;lia)
   have h6:(bZ aF r).length<=(bH aF r).length+1:=by
    cases r with
    | z=>simp[bZ]
    | c e' n' r'=>simp[bZ]
   rw[fM,length_append];have hs:O.size (.c e n r)=1+O.size e+O.size r:=rfl
   (clear hm hn1 h3 h4;lia)
theorem fE {x qual:Str} {f:Addr} {N ps:List Str} {sp:bM} (F:cJ K x qual st f fd) (S:bA N ps (ak st)) (len:∀ws G q e,sp ws G q e->ws.length=ps.length) (hb:∀(cdv:Value) (A:Around) (outer:List Env) (s:Shared) (H:Hp) (E:XK),N.Nodup->av k (A.deeper (envOfC qual (ak st) s.heap.objs.size f cdv))->∃t,mQ (cV re P w K mg base N qual (ak st) f cdv A outer s H E).nox (ao st) t/\∀(ws:List W) (G:Gp) (q:WK) (e:WX),sp ws G q e->t { nx:=λ_ G1=>∃G0,aL G0 G1/\q .non G0,rt:=λw G1=>∃G0,aL G0 G1/\q w G0 } (iF N ws) G):cq P w K mg base (k+1) f fd ps sp:=zy F S len λ_ _ _ _ _ _ hr=>hb _ _ _ _ _ _ S.nd hr
end L2
open PySem PySem.Spec PyProof.Rows L2 Nm
seal QE QT QW QA QS mQ QG zn QI QO yJ fm zo dX
seal PySem.compareOp PySem.binaryOp PySem.unaryOp
set_option bootstrap.genMatcherCode true
set_option compiler.extract_closed false
local macro_rules | `(tactic| walk_at "s") => `(tactic| exact ⟨rfl, rfl, rfl, by decide +kernel, rfl, by decide +kernel, by decide +kernel⟩)
local macro_rules | `(tactic| walk_at "l") => `(tactic| (intro ws G q e h; repeat (first | (obtain ⟨h1, _⟩ := h; subst h1; rfl) | obtain ⟨_, h⟩ := h)))
local macro_rules | `(tactic| walk_at "R") => `(tactic| simp (config := { failIfUnchanged := false, maxSteps := 2000000 }) only [x6, yq, wG, wF, x4, Af, ww, oC, oE, x4, lK, iF, xJ, Du, lF, yH, uq, wC, zS, xK, wm, xL, rT, oz, rX, r9, rZ, eR, gY, Bv, wk, rl, zw, zx, zI, zq, Dt, zt, wg, zu, wj, zv, wn, wt, ow, zM, zL, zR, Ad, rK, zK, ox, rn, ju, rm, zG, nr, rq, xR, xM, rV, List.map_cons, List.map_nil, List.length_cons, List.length_nil, List.replicate_succ, List.replicate_zero, List.cons_append, List.nil_append, List.append_nil, List.getElem?_cons_zero, List.getElem?_cons_succ, List.set_cons_zero, List.set_cons_succ, Nat.reduceAdd, Nat.reduceSub, Nat.zero_add, Nat.add_zero, Nat.sub_self, Nat.sub_zero, Aj, Ak, Ct, Option.some.injEq, exists_eq_left', sI, u5, nQ, sJ, u6, Cs, decide_eq_true_eq, Bool.not_eq_true', decide_eq_false_iff_not, true_and, Nat.zero_le, yh, jL, oy, rR, tY, y3, Int.reduceLE, Int.reduceLT, Nat.reducePow, Nat.reduceLT, Nat.reduceLeDiff, Int.reduceToNat, Int.reducePow, Int.reduceNeg, and_true, or_true, true_or, and_self, vd, yi, ve, vf, vg, vh, vi, vj, vk, vm, vn, vo, vp, vq, vt, Int.toNat_natCast, if_true, if_false, Bool.false_eq_true, Bool.true_eq_false, Bool.not_true, Bool.not_false, eq_self, not_true_eq_false, not_false_eq_true, yj, yk, ym, yn, DQ, DR, DS, DT, DU, DV, DW, DX, DY, DZ, D1, D2, D3, D4, D5, D6, D7, D8, D9, Ea, Eb, Ec, Ed, Ee, Ef, Eg, Eh, Ei, Ej, Ek, El, Em, Eo, Ep, Er, Es, Et, kN, Av, sZ, Eu, Ev, Ax, Ew, CA, Ex, Ey])
local macro_rules | `(tactic| walk_at "om") => `(tactic| first | assumption | lia | lia)
local macro_rules | `(tactic| walk_at "s") => `(tactic| exact ⟨rfl, rfl, rfl, by decide +kernel, rfl, by decide +kernel, by decide +kernel⟩)
namespace Lw
open PySem PySem.Spec PyProof.Rows L2 Nm
set_option hygiene false
local macro_rules | `(tactic| walk_at "a") => `(tactic| (subst hU; refine aN fun U hU => ?_; walk_at "R"))
local macro_rules | `(tactic| walk_at "a0") => `(tactic| (refine aN fun U hU => ?_; walk_at "R"))
local macro_rules | `(tactic| walk_at "b") => `(tactic| (subst hU1; refine aN fun U1 hU1 => ?_; walk_at "R"))
set_option hygiene true
noncomputable def ax (i:Nat):Stmt:=PySem.Challenge.pw_hydrahouse_k71_shown_and_read.main.body.getD i (.Pass ⟨0,0,0,0⟩)
noncomputable def cB (i j:Nat):Stmt:=(Co (ax i)).getD j (.Pass ⟨0,0,0,0⟩)
structure Txt (K:yav) (mg:yew):Prop where
 d_is_whole:xY K mg "is_whole" (ax 8) ["thing","least"] [.int 0]
 d_whole:Df K mg "whole" (ax 9) ["n"]
 d_endless:Df K mg "endless" (ax 10) []
 d_raised:xY K mg "raised" (ax 11) ["exponent","times"] [.int 1]
 d_compare:Df K mg "compare" (ax 12) ["a","b"]
 d_whole_part:Df K mg "whole_part" (ax 13) ["a"]
 d_without_whole:Df K mg "without_whole" (ax 14) ["a"]
 d_greatest:Df K mg "greatest" (ax 15) ["a"]
 d_deep:Df K mg "deep" (ax 16) ["a"]
 d_plus:Df K mg "plus" (ax 18) ["a","b"]
 d_parts_above:Df K mg "parts_above" (ax 19) ["a","exponent"]
 d_times:Df K mg "times" (ax 23) ["a","b"]
 d_power:Df K mg "power" (ax 27) ["a","b"]
 d_power_of_part:Df K mg "power_of_part" (ax 28) ["part","b"]
 d_is_figure:Df K mg "is_figure" (ax 41) ["sign"]
 d_is_letter:Df K mg "is_letter" (ax 42) ["sign"]
 d_is_figures:Df K mg "is_figures" (ax 43) ["text"]
 d_is_name:Df K mg "is_name" (ax 44) ["text"]
 d_thing_of:Df K mg "thing_of" (ax 45) ["word"]
 d_steps_of:Df K mg "steps_of" (ax 47) ["text"]
 d_looked_up:Df K mg "looked_up" (ax 48) ["steps","names"]
 d_reckoned:Df K mg "reckoned" (ax 49) ["steps"]
 d_joined:Df K mg "joined" (ax 50) ["first","sign","second"]
 d_is_too_great:Df K mg "is_too_great" (ax 51) ["a"]
 d_has_many_parts:Df K mg "has_many_parts" (ax 53) ["a"]
 d_shown:Df K mg "shown" (ax 55) ["a"]
 d_part_shown:Df K mg "part_shown" (ax 56) ["exponent","many"]
 d_power_shown:Df K mg "power_shown" (ax 57) ["exponent"]
 d_read:xY K mg "read" (ax 58) ["text","names"] [.non]
 d__law_compare:Df K mg "_law_compare" (ax 60) ["_law_a","_law_b"]
 d__law_with:Df K mg "_law_with" (ax 61) ["_law_number","_law_exponent","_law_many"]
 d__law_size:Df K mg "_law_size" (ax 62) ["_law_number"]
 d__law_next:Df K mg "_law_next" (ax 63) ["_law_pool_here","_law_cell"]
 d__law_pool:Df K mg "_law_pool" (ax 64) ["_law_script"]
 d__law_pure:Df K mg "_law_pure" (ax 65) ["_law_number"]
 d__law_is:Df K mg "_law_is" (ax 66) ["_law_found","_law_due"]
 d__law_shown:Df K mg "_law_shown" (ax 67) ["_law_number"]
 d__law_plus:Df K mg "_law_plus" (ax 68) ["_law_a","_law_b"]
 a_is_too_great_readings:mg "is_too_great_readings"=mg "is_too_great"
 k_Reading:∃C:Addr,mg "Reading"=some (.ref C)/\lc K C/\cK K C "text"/\cK K C "place"/\cK K C "steps"/\Bx K C "Reading.__init__" (cB 46 0) ["self","text"]/\Md K C "read_sum" "Reading.read_sum" (cB 46 1) ["self","within"]/\Md K C "read_product" "Reading.read_product" (cB 46 2) ["self","within"]/\Md K C "read_power" "Reading.read_power" (cB 46 3) ["self","within"]/\Md K C "read_thing" "Reading.read_thing" (cB 46 4) ["self","within"]/\Md K C "word" "Reading.word" (cB 46 5) ["self"]/\Md K C "pass_by" "Reading.pass_by" (cB 46 6) ["self","sign"]/\Md K C "sign" "Reading.sign" (cB 46 7) ["self"]
 x_:∃c0 c1 c2:Addr,(mg "HydraError"=some (.ref c0)/\excIn K c0 [.type "ValueError",.type "Exception",.type "BaseException",.type "object"] "ValueError.__new__"=true)/\(mg "NoText"=some (.ref c1)/\excIn K c1 [.type "ValueError",.type "Exception",.type "BaseException",.type "object"] "ValueError.__new__"=true)/\(mg "NoName"=some (.ref c2)/\excIn K c2 [.type "ValueError",.type "Exception",.type "BaseException",.type "object"] "ValueError.__new__"=true)
 c_MOST_FACTORS:∃t:Tok,mg "MOST_FACTORS"=some (.int 24 t)
 c_MOST_PARTS_powers:∃t:Tok,mg "MOST_PARTS_powers"=some (.int 24 t)
 c_MOST_SIGNS:∃t:Tok,mg "MOST_SIGNS"=some (.int 2000 t)
 c_MOST_FIGURES:∃t:Tok,mg "MOST_FIGURES"=some (.int 60 t)
 c_MOST_LETTERS:∃t:Tok,mg "MOST_LETTERS"=some (.int 8 t)
 c_MOST_BRACKETS:∃t:Tok,mg "MOST_BRACKETS"=some (.int 20 t)
 c_MOST_PARTS_readings:∃t:Tok,mg "MOST_PARTS_readings"=some (.int 400 t)
 c_MOST_DEEP:∃t:Tok,mg "MOST_DEEP"=some (.int 40 t)
 g_JOINING:∃a:Addr,mg "JOINING"=some (.ref a)/\CB K a ["+","*","^"]
 z_ValueError:mg "ValueError"=none
 z_all:mg "all"=none
 z_bool:mg "bool"=none
 z_int:mg "int"=none
 z_isinstance:mg "isinstance"=none
 z_len:mg "len"=none
 z_max:mg "max"=none
 z_range:mg "range"=none
 z_str:mg "str"=none
 z_sum:mg "sum"=none
 z_tuple:mg "tuple"=none
 z_zip:mg "zip"=none
section
variable {P:Program} {w:World} {K:yav} {mg:yew} {base:Heap} {f:Addr} {fd:FuncData}
set_option maxHeartbeats 0
noncomputable def AE:bM:=λws G q _=>∃a b:O,ws=[.tup (am a),.tup (am b)]/\a.dp<=60/\q (.int (O.cmp a b)) G
noncomputable def AF:bM:=λws G q _=>∃a x:O,ws=[.tup (am a),.tup (am x)]/\a.NF/\a.dp<=60/\a.len<=1000/\q (.int (O.stay x a)) G
noncomputable def yw:bM:=λws G q _=>∃a b:O,ws=[.tup (am a),.tup (am b)]/\a.NF/\a.dp<=60/\b.dp<=60/\a.len<=1000/\b.len<=1000/\q (.tup (am (O.plusO a b))) G
theorem CD (F:cJ K "compare" "compare" (ax 12) f fd):cq P w K mg base 1 f fd ["a","b"] AE:=by
 refine fE F (N:=["a","b"]) (by walk_at "s") (by walk_at "l") λ_ _ _ _ _ _ nd hr=>?_;apply aM
 ·exact(ac (aW (aw (bx hr) (aa 0) (aa 1)) (ac (aq ah) af) af) (ac (aq (gj (aw (iM hr) (aa 0) (aa 1)) (fV ah) ah)) af))
 ·rintro ws G q e ⟨a,b,rfl,hx,hq⟩;walk_at "R";have h1:=i4 a b;have hd:=bD a;rw[dH,h1.2];refine⟨aD a,aD b,by (clear h1;lia),?_⟩;rcases O.cmp_range a b with k | k | k
  ·rw[ycw (by simp;intro z;rw[z,O.cmp_self] at k;(clear hx h1 hd;lia)),ycv (by simp;(clear hx h1 hd;lia))];exact⟨cG a,cG b,jI a (by walk_at "om"),h1.1,aL.done (by rw[k] at hq;exact hq)⟩
  ·rw[ycv (by simpa using O.cmp_eq _ _ k)];exact aL.done (by rw[k] at hq;exact hq)
  ·rw[ycw (by simp;intro z;rw[z,O.cmp_self] at k;(clear hx h1 hd;lia)),ycw (by simp;(clear hx h1 hd;lia))];exact⟨cG a,cG b,jI a (by walk_at "om"),h1.1,aL.done (by rw[k] at hq;exact hq)⟩
theorem CF (F:cJ K "parts_above" "parts_above" (ax 19) f fd) (F1:Fx P w K mg base "compare" ["a","b"] 1 AE) (ml:mg "len"=none):cq P w K mg base 2 f fd ["a","exponent"] AF:=by
 refine fE F (N:=["a","exponent","low","high","middle"]) (by walk_at "s") (by walk_at "l") λ_ _ _ _ _ _ nd hr=>?_;apply aM
 ·exact(ac (aA 2 nd rfl (.inl rfl) ah) (ac (aA 3 nd rfl (.inl rfl) (bc cj rfl ml PySem.boot_len (ae (aa 0) ag))) (ac (eX PySem.PassesOwn.never (aw (iM hr) (aa 2) (aa 3)) (ac (aA 4 nd rfl (.inl rfl) (aE km (aE aX (aa 2) (aa 3)) ah)) (ac (aW (aw iG (ay F1 (av.mono hr (by lia)) rfl (ae (aG aH (aG aH (aa 0) (aa 4)) ah) (ae (aa 1) ag))) ah) (ac (aA 2 nd rfl (.inl rfl) (aE aX (aa 4) ah)) af) (ac (aA 3 nd rfl (.inl rfl) (aa 4)) af)) af))) (ac (aq (aa 2)) af))))
 ·rintro ws G q e ⟨a,x,rfl,hn,hx,hl,hq⟩;walk_at "a0";walk_at "a";rw[aB];subst hU;refine aN λU hU=>?_;refine⟨λm τ G'=>G'=G/\∃(lo hi:Nat) (t4:Option W),τ=[some (.tup (am a)),some (.tup (am x)),some (.int (lo:Int)),some (.int (hi:Int)),t4]/\lo<=O.stay x a/\O.stay x a<=hi/\hi<=a.len/\m=hi-lo,⟨a.len,rfl,0,a.len,none,rfl,zero_le _,O.stay_le,ycx _,rfl⟩,?_⟩;rintro m τ G' ⟨rfl,lo,hi,t4,rfl,h1,h2,h3,rfl⟩;walk_at "R";split
  ·rename_i hlt;refine⟨λτ1 G1=>G1=G'/\∃(lo' hi':Nat) (t4:Option W),τ1=[some (.tup (am a)),some (.tup (am x)),some (.int (lo':Int)),some (.int (hi':Int)),t4]/\lo'<=O.stay x a/\O.stay x a<=hi'/\hi'<=a.len/\hi'-lo'<hi-lo,?_,?_⟩
   ·rintro τ1 G1 ⟨rfl,lo',hi',t4,rfl,k1,k2,k3,k4⟩;exact⟨_,k4,rfl,lo',hi',t4,rfl,k1,k2,k3,rfl⟩
   ·have em:((lo:Int)+hi)/2=(((lo+hi)/2:Nat):Int):=by (clear hx hl h1 h2 h3 hlt;lia)
    obtain⟨y,n,hp⟩:=O.getP_some (a:=a) (i:=(lo+hi)/2) (by (clear hx hl h1 h2;lia));rw[em];refine⟨_,kG hp,?_⟩;have hs:=O.getP_size hp;have hab:=O.above_iff (e:=x) hn hp;unfold dm eT;walk_at "R";refine⟨y,x,rfl,by (clear hl h1 h2 h3 hlt em hab;lia),?_⟩;walk_at "R";split
    ·rename_i hc;have:=hab.mp hc;exact⟨(lo+hi)/2+1,hi,_,rfl,by assumption,h2,h3,by (clear hx h1 h2 hs hab hc this;lia)⟩
    ·rename_i hc;have:=λz=>hc (hab.mpr z);exact⟨lo,(lo+hi)/2,_,rfl,h1,by (clear hx hl h1 h2 h3 hlt em hs;lia),by (clear hx hl h1 h2 hs hab hc;lia),by (clear hx h1 h2 hs hab hc;lia)⟩
  ·subst hU;walk_at "R";have:(lo:Int)=O.stay x a:=by (clear hx hl h3;lia)
   rw[this];exact aL.done hq
theorem CG (F:cJ K "plus" "plus" (ax 18) f fd) (F1:Fx P w K mg base "parts_above" ["a","exponent"] 2 AF) (ml:mg "len"=none):cq P w K mg base 3 f fd ["a","b"] yw:=by
 refine fE F (N:=["a","b","exponent","stay","both"]) (by walk_at "s") (by walk_at "l") λ_ _ _ _ _ _ nd hr=>?_;apply aM
 ·exact(ac (aW (aw (bx hr) (aa 1) (aJ ag)) (ac (aq (aa 0)) af) af) (ac (aA 2 nd rfl (.inl rfl) (aG aH (aG aH (aa 1) ah) ah)) (ac (aA 3 nd rfl (.inl rfl) (ay F1 (av.mono hr (by lia)) rfl (ae (aa 0) (ae (aa 2) ag)))) (ac (aW (eW (gF (aw (iM hr) (aa 3) (bc cj rfl ml PySem.boot_len (ae (aa 0) ag))) (fo (aw (bx hr) (aG aH (aG aH (aa 0) (aa 3)) ah) (aa 2))))) (ac (aA 4 nd rfl (.inl rfl) (aJ (ae (aa 2) (ae (aE aX (aG aH (aG aH (aa 0) (aa 3)) ah) (aG aH (aG aH (aa 1) ah) ah)) ag)))) (ac (aq (aE aX (aE aX (bV (aa 0) dr (cm (aa 3))) (aJ (ae (aa 4) ag))) (bV (aa 1) (cm ah) dr))) af)) af) (ac (aq (aE aX (bV (aa 0) dr (cm (aa 3))) (aa 1))) af)))))
 ·rintro ws G q e ⟨a,b,rfl,hn,hx,hy,hl,hl2,hq⟩;have hd:=bD b;walk_at "a0";refine⟨aD b,by (clear hx hl hl2;lia),?_⟩;rw[bh];cases b with
  | z=>
    rw[ycv (by simp)];exact aL.done hq
  | c e n r=>
    rw[ycw (by simp)];simp only[O.len] at hl2;have hde:e.dp<=60:=by simp only[O.dp] at hy;(clear hx hl hl2 hd;lia)
    subst hU;refine aN λU hU=>?_;rw[bu];unfold dm eT;walk_at "R";walk_at "a";refine⟨a,e,rfl,hn,hx,hl,?_⟩;subst hU;have hst:=O.stay_le (e:=e) (a:=a);have hsame:=O.same_stay (e:=e) hn;have htake:=O.take_stay (e:=e) hn;have e1:dt (W.tup [W.tup (am e),W.int n]::am r) (some 1) none=am r:=by rw[show(1:Int)=((1:Nat):Int) from rfl,iZ];rfl
    have e2:dt (am a) none (some (O.stay e a:Int))=am (O.filt (λx _=>decide (0<O.cmp x e)) a):=by rw[sL,gQ,htake]
    have l1:=d7 (λx _=>decide (0<O.cmp x e)) a;have hq':q (.tup (am (O.filt (λx _=>decide (0<O.cmp x e)) a)++(dm e (O.same e a+n)::am r))) G:=by
     rw[O.plus_c,d5,bu] at hq;exact hq
    refine aN λU hU=>?_;have other:O.same e a=0->U { nx:=λx G1=>∃G0,aL G0 G1/\q W.non G0,rt:=λw G1=>∃G0,aL G0 G1/\q w G0 } [some (W.tup (am a)),some (W.tup (W.tup [W.tup (am e),W.int n]::am r)),some (W.tup (am e)),some (W.int (O.stay e a)),none] G:=λhz=>by
     subst hU;walk_at "R";rw[e2];refine⟨by rw[aB,aB];(clear hx hy hd hde hst hsame htake e2 hz;lia),aL.done ?_⟩;rw[hz,Int.zero_add] at hq';exact hq'
    walk_at "R";rw[aB];split
    ·rename_i hlt;obtain⟨y,m,hp⟩:=O.getP_some (a:=a) (i:=O.stay e a) (by (clear hx hl hy hl2 hd hde hst hsame htake e2 l1;lia));have hs:=O.getP_size hp;have hdy:=bD y;refine⟨_,kG hp,?_⟩;rw[hp] at hsame;have hsame':O.same e a=if y=e then m else 0:=hsame
     unfold dm eT;walk_at "R";refine⟨aD y,aD e,by (clear hl hy hl2 hd hde hst htake e2 l1 hlt hsame hsame';lia),?_⟩;rw[dH]
     by_cases hye:y=e
     ·rw[ycv (by simpa using hye)];refine⟨_,kG hp,?_⟩;unfold dm eT;walk_at "R";rw[e1,e2];rw[ycv hye] at hsame';refine⟨by rw[aB];(clear hx hy hl2 hd hde hst htake e2 hlt hsame hs hdy hsame';lia),by rw[length_append,aB,aB];simp;(clear hx hy hd hde hst htake e2 hlt hsame hs hdy hsame';lia),aL.done ?_⟩;rw[hsame'] at hq';rw[append_assoc];exact hq'
     ·rw[ycw (by simpa using hye)];rw[ycw hye] at hsame';exact other hsame'
    ·rename_i hlt;rw[O.getP_none.mpr (by (clear hx hl hy hl2 hd hde hsame htake e2 l1;lia))] at hsame;exact other hsame
theorem jc:∀{a:O} {x:O} {n:Int},a.NF->O.last a=.c x n .z->O.same .z a=if x=.z then n else 0
 | .z,_,_,_,h=>by cases h
 | .c e m .z,x,n,ha,h=>by
   have:O.last (.c e m .z)=.c e m .z:=rfl;rw[this] at h;injection h with h1 h2 _
   subst h1 h2
   by_cases k:e=.z
   ·subst k;rw[ycv rfl,O.same_self ha.2.2.1]
   ·rw[ycw k,O.same_ne k];rfl
 | .c e m (.c e' m' r'),x,n,ha,h=>by
   have e0:O.last (.c e m (.c e' m' r'))=O.last (.c e' m' r'):=by simp[O.last]
   rw[e0] at h;have hne:e≠ .z:=λz=>by
    subst z;have:=ha.2.2.1.1;cases e'<;> simp[O.cmp] at this
   rw[O.same_ne hne];exact jc ha.2.2.2 h
theorem mE:∀{a:O},a.NF->O.same .z a=0->O.filt (λy _=>decide (¬y=.z)) a=a
 | .z,_,_=>rfl
 | .c e m r,ha,h=>by
   have hne:e≠ .z:=λz=>by
    subst z;rw[O.same_self ha.2.2.1] at h;have:=ha.2.1;lia
   rw[O.same_ne hne] at h;rw[O.filt_c,ycv (by simpa using hne),mE ha.2.2.2 h]
theorem jd:∀{a:O},a.NF->O.same .z a≠0->O.filt (λy _=>decide (¬y=.z)) a=O.init a
 | .z,_,h=>absurd rfl h
 | .c e m .z,ha,h=>by
   have:e=.z:=Classical.byContradiction λk=>h (by rw[O.same_ne k];rfl);subst this
   rfl
 | .c e m (.c e' m' r'),ha,h=>by
   have hne:e≠ .z:=λz=>by
    subst z;have:=ha.2.2.1.1;cases e'<;> simp[O.cmp] at this
   rw[O.same_ne hne] at h;have e0:O.init (.c e m (.c e' m' r'))=.c e m (O.init (.c e' m' r')):=by simp[O.init]
   rw[O.filt_c,ycv (by simpa using hne),jd ha.2.2.2 h,e0]
noncomputable def vM:bM:=λws G q _=>∃a:O,ws=[.tup (am a)]/\a.NF/\a.dp<=60/\q (.int (O.same .z a)) G
noncomputable def vN:bM:=λws G q _=>∃a:O,ws=[.tup (am a)]/\a.NF/\a.dp<=60/\q (.tup (am (O.filt (λy _=>decide (¬y=.z)) a))) G
theorem CH (F:cJ K "whole_part" "whole_part" (ax 13) f fd):cq P w K mg base 1 f fd ["a"] vM:=by
 refine fE F (N:=["a"]) (by walk_at "s") (by walk_at "l") λ_ _ _ _ _ _ nd hr=>?_;apply aM
 ·exact(ac (aW (eW (eV (aw (bx hr) (aa 0) (aJ ag)) (dB (aw (d8 hr) (aG aH (aG aH (aa 0) (fV ah)) ah) (aJ ag))))) (ac (aq ah) af) af) (ac (aq (aG aH (aG aH (aa 0) (fV ah)) ah)) af))
 ·rintro ws G q e ⟨a,rfl,ha,hd,hq⟩;have hd2:=bD a;walk_at "R";refine⟨aD a,by walk_at "om",?_⟩;rw[bh]
  by_cases hz:a=.z
  ·subst hz;rw[ycv (by simp)];exact aL.done hq
  ·rw[ycw (by simpa using hz)];obtain⟨x,n,h1,h2⟩:=nS hz;have hw:=jc ha h1;have hs:=O.getP_size h2;have hdx:=bD x;refine⟨_,eM h2,?_⟩;unfold dm eT;walk_at "R";refine⟨aD x,by (clear hd2 hw;lia),?_⟩;rw[bh]
   by_cases hx:x=.z
   ·rw[ycw (by simpa using hx)];rw[ycv hx] at hw;have h3:=eM h2;unfold dm eT at h3;refine⟨_,h3,?_⟩;walk_at "R";rw[hw] at hq;exact aL.done hq
   ·rw[ycv (by simpa using hx)];rw[ycw hx] at hw;rw[hw] at hq;exact aL.done hq
theorem CI (F:cJ K "without_whole" "without_whole" (ax 14) f fd) (F1:Fx P w K mg base "whole_part" ["a"] 1 vM):cq P w K mg base 2 f fd ["a"] vN:=by
 refine fE F (N:=["a"]) (by walk_at "s") (by walk_at "l") λ_ _ _ _ _ _ nd hr=>?_;apply aM
 ·exact(ac (aW (aw (bx hr) (ay F1 (av.mono hr (by lia)) rfl (ae (aa 0) ag)) ah) (ac (aq (aa 0)) af) af) (ac (aq (bV (aa 0) dr (cm (fV ah)))) af))
 ·rintro ws G q e ⟨a,rfl,ha,hd,hq⟩;walk_at "R";refine⟨a,rfl,ha,hd,?_⟩;walk_at "R";split
  ·rename_i h;rw[mE ha h] at hq;exact aL.done hq
  ·rename_i h;rw[jd ha h] at hq;rw[lX];exact aL.done hq
noncomputable def jh (e:O):O->O
 | .z=> .z
 | .c f d t=> .c (O.plusO e f) d (jh e t)
theorem jU (e:O):∀b:O,mapP (λ_ _=>true) (λx m=>dm (O.plusO e x) m) b=am (jh e b)
 | .z=>rfl
 | .c f d t=>by rw[mapP,ycv rfl,jU e t];rfl
theorem mF (e:O):∀b:O,(jh e b).len=b.len
 | .z=>rfl
 | .c f d t=>by simp only[jh,O.len,mF e t]
theorem jV {e:O} {n:Int} {r:O}:∀{b:O},b.NF->O.mulP e n r b=O.app (jh e (O.filt (λy _=>decide (¬y=.z)) b)) (if O.same .z b=0 then .z else .c e (n*O.same .z b) r)
 | .z,_=>rfl
 | .c f d t,hb=>by
   rw[O.mulP_c,O.filt_c]
   by_cases k:f=.z
   ·subst k;have hd:=hb.2.1;rw[ycv rfl,ycw (by simp),O.Lt_z hb.2.2.1,O.same_self (r:= .z) trivial,ycw (by walk_at "om")]
    rfl
   ·rw[ycw k,ycv (by simpa using k),O.same_ne k,jV hb.2.2.2]
    rfl
noncomputable def yx:bM:=λws G q _=>∃a b:O,ws=[.tup (am a),.tup (am b)]/\a.NF/\b.NF/\a.dp<=40/\b.dp<=40/\O.hw a<=1000/\O.hw b<=1000/\O.mx a<=ql/\O.mx b<=ql/\q (.tup (am (O.timesO a b))) G
theorem CJ (F:cJ K "times" "times" (ax 23) f fd) (F1:Fx P w K mg base "whole_part" ["a"] 1 vM) (F2:Fx P w K mg base "without_whole" ["a"] 2 vN) (F3:Fx P w K mg base "plus" ["a","b"] 3 yw) (mt:mg "tuple"=none):cq P w K mg base 4 f fd ["a","b"] yx:=by
 refine fE F (N:=["a","b","exponent","parts","many"]) (by walk_at "s") (by walk_at "l") λ_ _ _ _ _ _ nd hr=>?_;apply aM
 ·exact(ac (aW (eW (eV (aw (bx hr) (aa 0) (aJ ag)) (dB (aw (bx hr) (aa 1) (aJ ag))))) (ac (aq (aJ ag)) af) af) (ac (aA 2 nd rfl (.inr rfl) (aG aH (aG aH (aa 0) ah) ah)) (ac (io 3 (dE (by first | rfl | decide+kernel)) rfl nd rfl (.inl rfl) (bK (ay F2 (av.mono hr (by lia)) rfl (ae (aa 1) ag))) (λ_ _ _ _=>(bY 1 (by first | assumption | decide+kernel | rfl) rfl (.inl rfl))) (λ_ _ _ _=>ft) (λ_ _ _ _=>(aJ (ae (ay F3 (av.mono hr (by lia)) rfl (ae (aa 3 rfl (.inr (.inl rfl))) (ae (aG aH (aa 1) ah) ag))) (ae (aG aH (aa 1) ah) ag))))) (ac (aA 4 nd rfl (.inl rfl) (ay F1 (av.mono hr (by lia)) rfl (ae (aa 1) ag))) (ac (aW (aw (bx hr) (aa 4) ah) (ac (aq (cC il rfl mt eC (ae (aa 3) ag))) af) af) (ac (aq (aE aX (aE aX (cC il rfl mt eC (ae (aa 3) ag)) (aJ (ae (aJ (ae (aa 2 rfl (.inr (.inl rfl))) (ae (aE kI (aG aH (aG aH (aa 0) ah) ah) (aa 4)) ag))) ag))) (bV (aa 0) (cm ah) dr))) af))))))
 ·rintro ws G q e ⟨a,b,rfl,na,nb,da,db,sa,sb,ma,mb,hq⟩;have hda:=bD a;have hdb:=bD b;have la:=O.len_le_hw a;have lb:=O.len_le_hw b;walk_at "a0";refine⟨aD a,by (clear db sa sb ma mb hdb la lb;lia),?_⟩;rw[bh];cases a with
  | z=>
    rw[ycv (by simp)];exact aL.done hq
  | c e n r=>
    rw[ycw (by simp)];refine⟨aD b,by (clear sb mb lb da sa ma hda la;lia),?_⟩;rw[bh]
    by_cases hb0:b=.z
    ·subst hb0;rw[ycv (by simp)];exact aL.done hq
    ·rw[ycw (by simpa using hb0)];subst hU;rw[O.hw_c] at sa;simp only[O.dp,O.len] at da la;have le1:=O.len_le_hw e;have lr1:=O.len_le_hw r;rw[bu];unfold dm eT;walk_at "a0";walk_at "a";refine⟨b,rfl,nb,by walk_at "om",?_⟩;walk_at "R";show ci _ _ _ _ _ [none,none,none,some (W.tup (am e))] G [] _;have lf:=d7 (λy _=>decide (¬y=O.z)) b;have df:=O.dp_filt (λy _=>decide (¬y=O.z)) b;have sf:=O.hw_filt (λy _=>decide (¬y=O.z)) b;refine cy (λ_ _=>true) (λx m=>dm (O.plusO e x) m) trivial (o8 _) (λy m hy k hk=>?_) (λy m hy _ k hk=>?_) (by rw[length_nil];(clear db mb hdb da sa ma hda la le1 lr1 df sf;lia)) (λ_=>rfl) λp1 hp1=>?_
     ·walk_at "R";exact hk
     ·have ly:=O.len_le_hw y;unfold dm eT at hk ⊢;walk_at "R";exact⟨e,y,rfl,na.1,by (clear db sb mb hdb lb sa ma hda la le1 lf df sf hy ly;lia),by (clear sb mb hdb lb da sa ma hda la le1 lr1 lf sf ly;lia),by (clear db sb mb hdb lb da ma hda la lf df sf hy ly;lia),by (clear db mb hdb lb da sa ma hda la le1 lr1 lf df;lia),hk⟩
     rw[nil_append,jU];have hG1:=al (G:=G) (a:=p1) (g:=GO.lst (am (jh e (O.filt (λy _=>decide (¬y=O.z)) b))));have le:aL G (aV G p1 (GO.lst (am (jh e (O.filt (λy _=>decide (¬y=O.z)) b))))):=aL.new hp1;generalize aV G p1 (GO.lst (am (jh e (O.filt (λy _=>decide (¬y=O.z)) b))))=G1 at hG1 le ⊢;walk_at "a";refine⟨b,rfl,nb,by walk_at "om",?_⟩;have hsp:O.timesO (.c e n r) b=_:=jV (e:=e) (n:=n) (r:=r) nb;rw[hsp] at hq;have hn:=na.2.1;have hsm:=O.same_le_mx .z nb;have hs0:=O.same_nonneg .z nb;rw[O.mx_c] at ma;have lm:=mF e (O.filt (λy _=>decide (¬y=O.z)) b);walk_at "a";split
     ·rename_i h0;refine⟨_,hG1,G,le,?_⟩;rw[ycv h0] at hq;have:O.app (jh e (O.filt (λy _=>decide (¬y=O.z)) b)) .z=jh e (O.filt (λy _=>decide (¬y=O.z)) b):=sH (by rw[d5,ye,append_nil]);rw[this] at hq;exact hq
     ·rename_i h0;rw[ycw h0,d5,bu] at hq;subst hU;have e1:dt (W.tup [W.tup (am e),W.int n]::am r) (some 1) none=am r:=by rw[show(1:Int)=((1:Nat):Int) from rfl,iZ];rfl
      walk_at "R";rw[e1];refine⟨_,hG1,.inl (.inr (Cu (by (clear db sb mb hdb lb da sa ma hda la le1 lr1 lf df sf hsp hsm hs0 lm h0;lia)) (by (clear db sb mb hdb lb da sa hda la le1 lr1 lf df sf hsp hn hsm lm;lia)) (by assumption) (by (clear db sb hdb lb da sa ma hda la le1 lr1 lf df sf hsp hn hs0 lm h0;lia)))),by rw[aB,lm];(clear db mb hdb da sa ma hda la le1 lr1 df sf hsp hn hsm hs0 h0;lia),by rw[length_append,aB,aB,length_cons,length_nil,lm];(clear db mb hdb da ma hda la le1 lr1 df sf hsp hn hsm;lia),G,le,?_⟩;rw[append_assoc];exact hq
noncomputable def AG:bM:=λws G q _=>∃n k:Int,ws=[.int n,.int k]/\q (.bl (decide (k<=n))) G
theorem scWh:bA ["thing","least"] ["thing","least"] (ak (ax 8)):=by walk_at "s"
theorem CK {T:Addr} {ds:yez} (F:gH K "is_whole" "is_whole" (ax 8) f fd T ds) (mi:mg "isinstance"=none) (mn:mg "int"=none) (mb:mg "bool"=none):cq P w K mg base 1 f fd ["thing","least"] AG:=by
 have nd:=scWh.nd;refine xX F scWh (λws G q e h=>by obtain⟨_,_,rfl,_⟩:=h;rfl) (λcdv A outer s H E hr=>?_);apply aM
 ·exact(ac (aq (ki (eY (T:="int") (x:="int") (by first | simp[iI] | assumption | decide+kernel) PyProof.Rows.boot_int mn rfl mi rfl (aa 0)) (ki (xI (eY (T:="bool") (x:="bool") (by first | simp[iI] | assumption | decide+kernel) PyProof.Rows.boot_bool mb rfl mi rfl (aa 0))) (kh (dA zE (aa 0) (aa 1)))))) af)
 ·rintro ws G q e ⟨n,k,rfl,hq⟩;walk_at "R";exact aL.done hq
noncomputable def vO:bM:=λws G q _=>∃(x:O) (n:Int),ws=[.tup (am x),.int n]/\0<=n/\q (.tup (am (if n=0 then .z else .c x n .z))) G
theorem scRs:bA ["exponent","times"] ["exponent","times"] (ak (ax 11)):=by walk_at "s"
theorem AH {T:Addr} {ds:yez} (F:gH K "raised" "raised" (ax 11) f fd T ds) (F1:Aa P w K mg base "is_whole" ["thing","least"] 1 AG [.int 0]):cq P w K mg base 2 f fd ["exponent","times"] vO:=by
 have nd:=scRs.nd;refine xX F scRs (λws G q e h=>by obtain⟨_,_,rfl,_⟩:=h;rfl) (λcdv A outer s H E hr=>?_);apply aM
 ·exact(ac (aW (dg (bQ (ny F1 (av.mono hr (by lia)) rfl (ae (aa 1) ag)))) (ac lI af) af) (ac (aW (aw (bx hr) (aa 1) ah) (ac (aq (aJ ag)) af) af) (ac (aq (aJ (ae (aJ (ae (aa 0) (ae (aa 1) ag))) ag))) af)))
 ·rintro ws G q e ⟨x,n,rfl,hn,hq⟩;walk_at "R";refine⟨n,0,rfl,?_⟩;walk_at "R";rw[ycw (by walk_at "om")];split
  ·rename_i h;rw[ycv h] at hq;exact aL.done hq
  ·rename_i h;rw[ycw h,bu] at hq;exact aL.done hq
noncomputable def qp:bM:=λws G q _=>∃n:Int,ws=[.int n]/\0<=n/\q (.tup (am (O.wh n))) G
theorem CL (F:cJ K "whole" "whole" (ax 9) f fd) (F1:Fx P w K mg base "raised" ["exponent","times"] 2 vO):cq P w K mg base 3 f fd ["n"] qp:=by
 refine fE F (N:=["n"]) (by walk_at "s") (by walk_at "l") λ_ _ _ _ _ _ nd hr=>?_;apply aM
 ·exact(ac (aq (ay F1 (av.mono hr (by lia)) rfl (ae (aJ ag) (ae (aa 0) ag)))) af)
 ·rintro ws G q e ⟨n,rfl,hn,hq⟩;walk_at "R";exact⟨.z,n,rfl,hn,aL.done hq⟩
noncomputable def AI:bM:=λws G q _=>∃(e:O) (n:Int) (b:O),ws=[dm e n,.tup (am b)]/\e.NF/\b.NF/\1<=n/\e.dp<=40/\b.dp<=40/\O.hw e<=1000/\O.hw b<=1000/\O.mx e<=ql/\O.mx b<=ql/\q (.tup (am (.c (O.timesO e b) (if 0<O.same .z b then n else 1) .z))) G
theorem CM (F:cJ K "power_of_part" "power_of_part" (ax 28) f fd) (F1:Fx P w K mg base "whole_part" ["a"] 1 vM) (F2:Fx P w K mg base "times" ["a","b"] 4 yx) (F3:Fx P w K mg base "raised" ["exponent","times"] 2 vO):cq P w K mg base 5 f fd ["part","b"] AI:=by
 refine fE F (N:=["part","b","many"]) (by walk_at "s") (by walk_at "l") λ_ _ _ _ _ _ nd hr=>?_;apply aM
 ·exact(ac (aA 2 nd rfl (.inl rfl) (gj (aw iG (ay F1 (av.mono hr (by lia)) rfl (ae (aa 1) ag)) ah) (aG aH (aa 0) ah) ah)) (ac (aq (ay F3 (av.mono hr (by lia)) rfl (ae (ay F2 (av.mono hr (by lia)) rfl (ae (aG aH (aa 0) ah) (ae (aa 1) ag))) (ae (aa 2) ag)))) af))
 ·rintro ws G q e0 ⟨e,n,b,rfl,ne,nb,hn,hde,hdb,hwe,hwb,hme,hmb,hq⟩;unfold dm eT;refine aN λU hU=>?_;have fin:∀k:Int,1<=k->k=(if 0<O.same .z b then n else 1)->U { nx:=λx G1=>∃G0,aL G0 G1/\q W.non G0,rt:=λw G1=>∃G0,aL G0 G1/\q w G0 } [some (.tup [.tup (am e),.int n]),some (.tup (am b)),some (.int k)] G:=λk hk ek=>by
   subst hU;walk_at "R";refine⟨e,b,rfl,ne,nb,hde,hdb,hwe,hwb,hme,hmb,_,k,rfl,by (clear hn hde hdb hwe hwb hme hmb;lia),?_⟩;rw[ycw (by (clear hn hde hdb hwe hwb hme hmb;lia)),ek];exact aL.done hq
  walk_at "R";refine⟨b,rfl,nb,by walk_at "om",?_⟩;walk_at "R";split
  ·rename_i h;exact fin n hn (by rw[ycv h])
  ·rename_i h;exact fin 1 (by (clear hn hde hdb hwe hwb hme hmb h;lia)) (by rw[ycw h])
noncomputable def AJ:bM:=λws G q _=>∃a b:O,ws=[.tup (am a),.tup (am b)]/\a.NF/\b.NF/\a.dp<=30/\b.dp<=30/\O.hw a<=24/\O.hw b<=400/\O.mx a<=10^150/\O.mx b<=10^100/\(∃e n,a=.c e n .z/\e≠ .z)/\q (.tup (am (O.powO a b))) G
theorem CN (F:cJ K "power" "power" (ax 27) f fd) (F1:Fx P w K mg base "whole" ["n"] 3 qp) (F2:Fx P w K mg base "power_of_part" ["part","b"] 5 AI) (ml:mg "len"=none):cq P w K mg base 6 f fd ["a","b"] AJ:=by
 refine fE F (N:=["a","b"]) (by walk_at "s") (by walk_at "l") λ_ _ _ _ _ _ nd hr=>?_;apply aM
 ·refine' ac ?s1 (ac ?s2 (ac ?s3 p7))
  case s1=>exact(aW (aw (bx hr) (aa 1) (aJ ag)) (ac (aq (ay F1 (av.mono hr (by lia)) rfl (ae ah ag))) af) af)
  case s2=>exact(aW (eW (eV (aw (bx hr) (aa 0) (aJ ag)) (dB (aw (bx hr) (aa 0) (ay F1 (av.mono hr (by lia)) rfl (ae ah ag)))))) (ac (aq (aa 0)) af) af)
  case s3=>exact(aW (eW (gF (aw (bx hr) (bc cj rfl ml PySem.boot_len (ae (aa 0) ag)) ah) (fo (aw (d8 hr) (aG aH (aG aH (aa 0) ah) ah) (aJ ag))))) (ac (aq (ay F2 (av.mono hr (by lia)) rfl (ae (aG aH (aa 0) ah) (ae (aa 1) ag)))) af) af)
 ·rintro ws G q e0 ⟨a,b,rfl,na,nb,hda,hdb,hwa,hwb,hma,hmb,⟨e,n,rfl,he⟩,hq⟩;have ha':=bD (.c e n .z);have hb':=bD b;have hcap:=sR;walk_at "a0";refine⟨aD b,by (clear hwb hmb hda hwa hma ha' hcap;lia),?_⟩;rw[bh]
  by_cases hb0:b=.z
  ·rw[ycv (by simpa using hb0)];rw[hb0,O.pow_z] at hq;exact⟨1,rfl,by (clear hdb hwb hmb hda hwa hma ha' hb' hcap;lia),aL.done hq⟩
  rw[ycw (by simpa using hb0)];walk_at "a";refine⟨aD _,by (clear hdb hwb hmb hwa hma hb' hcap;lia),?_⟩;rw[bh,ycw (by simp)];refine⟨1,rfl,by (clear hdb hwb hmb hda hwa hma ha' hb' hcap;lia),?_⟩;have e1:O.wh 1=O.one:=rfl;rw[e1];refine⟨aD _,aD O.one,by (clear hdb hwb hmb hwa hma hb' hcap;lia),?_⟩;rw[dH,ycw (by intro z;have:=of_decide_eq_true z;cases this;exact he rfl)];subst hU;refine aN λU hU=>?_;have hde:=bD e;have h1:O.hw e<=O.hw (.c e n .z):=by rw[O.hw_c];(clear hdb hwb hmb hda hwa hma ha' hb' hcap hde;lia)
  simp only[O.dp] at hda;rw[O.pow_part he hb0] at hq;rw[bu];unfold dm eT;walk_at "R";rw[ycv (by rfl)];refine⟨aD e,by (clear hdb hwb hmb hwa hma ha' hb' hcap h1;lia),?_⟩;rw[bh,ycv (by simpa using he)];have me:O.mx e<=ql:=ydv (ydv O.mx_he hma) (ydv (by decide+kernel) hcap);have mb:O.mx b<=ql:=ydv hmb (ydv (by decide+kernel) hcap);exact⟨e,n,b,rfl,na.1,nb,na.2.1,by (clear hdb hwb hmb hwa hma ha' hb' hcap hde h1 me mb;lia),by walk_at "om",by (clear hdb hwb hmb hda hma ha' hb' hcap hde me mb;lia),by walk_at "om",me,mb,aL.done hq⟩
noncomputable abbrev bL (l:List Nat):Str:=⟨l.toArray⟩
theorem ph (l m:List Nat):bL l++bL m=bL (l++m):=by
 show Str.mk (l.toArray++m.toArray)=_;simp
theorem aP (l:List Nat):(bL l).length=l.length:=by simp[Str.length]
theorem yy (x y:Str):(W.str x).eq (.str y)=decide (x=y):=by
 simp only[W.eq];rw[Bool.eq_iff_iff,beq_iff_eq,decide_eq_true_eq]
theorem pk {l m:List Nat}:bL l=bL m↔l=m:=⟨λh=>by have:=congrArg (λz:Str=>z.cps.toList) h;simpa using this,λh=>by rw[h]⟩
theorem eO (l m:List Nat):(W.str (bL l)).eq (.str (bL m))=decide (l=m):=by
 rw[yy];exact decide_eq_decide.mpr pk
noncomputable def vP:List Nat->Bool
 | [x]=>cF x
 | _=>false
noncomputable def vQ:List Nat->Bool
 | [x]=>fK x
 | _=>false
noncomputable def nY:bM:=λws G q _=>∃l:List Nat,ws=[.str (bL l)]/\l.length<=1/\q (.bl (vP l)) G
noncomputable def nZ:bM:=λws G q _=>∃l:List Nat,ws=[.str (bL l)]/\l.length<=1/\q (.bl (vQ l)) G
theorem kT (a x:Nat):(!decide (([x]:List Nat)<[a]))=decide (a<=x):=by
 rw[Bool.eq_iff_iff];simp[List.cons_lt_cons_iff]
theorem mG (a x:Nat):(!decide (([a]:List Nat)<[x]))=decide (x<=a):=kT x a
theorem CO (F:cJ K "is_figure" "is_figure" (ax 41) f fd):cq P w K mg base 1 f fd ["sign"] nY:=by
 refine fE F (N:=["sign"]) (by walk_at "s") (by walk_at "l") λ_ _ _ _ _ _ nd hr=>?_;apply aM
 ·exact(ac (aq (mq ia ia aZ (aa 0) aZ)) af)
 ·rintro ws G q e ⟨l,rfl,hl,hq⟩;walk_at "R";refine⟨_,rfl,?_⟩;rw[show(Str.ofString "0").cps.toList=[48] from rfl,show(Str.ofString "9").cps.toList=[57] from rfl]
  match l,hl with
  | [],_=>exact aL.done hq
  | [x],_=>
    rw[kT,mG];refine cP (λh=>?_) λh=>?_
    ·rw[show decide (x<=57)=vP [x] from ?_]
     ·exact aL.done hq
     ·show _=decide (48<=x/\x<=57);exact decide_eq_decide.mpr ⟨λz=>⟨of_decide_eq_true h,z⟩,λz=>z.2⟩
    ·rw[show false=vP [x] from ?_]
     ·exact aL.done hq
     ·show _=decide (48<=x/\x<=57);exact(ydy λz=>h (ydz z.1)).symm
theorem CP (F:cJ K "is_letter" "is_letter" (ax 42) f fd):cq P w K mg base 1 f fd ["sign"] nZ:=by
 refine fE F (N:=["sign"]) (by walk_at "s") (by walk_at "l") λ_ _ _ _ _ _ nd hr=>?_;apply aM
 ·exact(ac (aq (mq ia ia aZ (aa 0) aZ)) af)
 ·rintro ws G q e ⟨l,rfl,hl,hq⟩;walk_at "R";refine⟨_,rfl,?_⟩;rw[show(Str.ofString "a").cps.toList=[97] from rfl,show(Str.ofString "z").cps.toList=[122] from rfl]
  match l,hl with
  | [],_=>exact aL.done hq
  | [x],_=>
    rw[kT,mG];refine cP (λh=>?_) λh=>?_
    ·rw[show decide (x<=122)=vQ [x] from ?_]
     ·exact aL.done hq
     ·show _=decide (97<=x/\x<=122);exact decide_eq_decide.mpr ⟨λz=>⟨of_decide_eq_true h,z⟩,λz=>z.2⟩
    ·rw[show false=vQ [x] from ?_]
     ·exact aL.done hq
     ·show _=decide (97<=x/\x<=122);exact(ydy λz=>h (ydz z.1)).symm
noncomputable def AK:bM:=λws G q _=>∃l:List Nat,ws=[.str (bL l)]/\l.length<=5000/\∀G',aL G G'->q (.bl (bU l)) G'
theorem CQ {t1:Tok} (F:cJ K "is_figures" "is_figures" (ax 43) f fd) (F1:Fx P w K mg base "is_figure" ["sign"] 1 nY) (hm:mg "MOST_FIGURES"=some (.int 60 t1)) (ml:mg "len"=none) (ma:mg "all"=none):cq P w K mg base 2 f fd ["text"] AK:=by
 refine fE F (N:=["text"]) (by walk_at "s") (by walk_at "l") λ_ _ _ _ _ _ nd hr=>?_;apply aM
 ·exact(ac (aW (eW (eV (dg (mv ia ia ah (bc cj rfl ml PySem.boot_len (ae (aa 0) ag)) (eE rfl hm))) (dB (dg (bQ (bc (wz rfl) rfl ma PyProof.Rows.boot_all (ae (eB (dE (by first | rfl | decide+kernel)) rfl (bK (aa 0)) (λ_ _ _ _=>(bY 1 (by first | assumption | decide+kernel | rfl) rfl (.inl rfl))) (λ_ _ _ _=>ft) (λ_ _ _ _=>(ay F1 (av.mono hr (by lia)) rfl (ae (aa 1) ag)))) ag))))))) (ac (aq eU) af) af) (ac (aq (rh (dA (bx hr) (aa 0) aZ) (kh (dA (d8 hr) (aG aH (aa 0) ah) aZ)))) af))
 ·rintro ws G q e ⟨l,rfl,hl,hq⟩;walk_at "a0";have nope:∀{c:Prop},¬c->(bU l=true->c)->∀G',aL G G'->∃G0,aL G0 G'/\q (.bl false) G0:=λhc hi G' le=>by
   have:bU l=false:=Bool.eq_false_iff.mpr λz=>hc (hi z);rw[←this];exact aL.done (hq G' le)
  have fst:bU l=true->1<=l.length/\l.length<=60/\l.all cF=true:=λh=>by
   unfold bU at h;simp only[Bool.and_eq_true,decide_eq_true_eq] at h;exact⟨h.1.1.1,h.1.1.2,h.1.2⟩
  refine⟨by rw[aP];lia,_,rfl,?_⟩;rw[aP];refine cP (λh1=>?_) λh1=>nope (c:=1<=l.length) (λz=>h1 (ydz (by (clear h1;lia)))) (λz=>(fst z).1) _ (aL.refl _);refine cP (λh2=>nope (c:=l.length<=60) (λz=>h2 (by (clear h1;lia))) (λz=>(fst z).2.1) _ (aL.refl _)) λh2=>?_;have h1:1<=l.length:=by have:=of_decide_eq_true h1;(clear h1;lia)
  have h2:l.length<=60:=by have:=Decidable.of_not_not h2;(clear this;lia)
  refine kJ (i:=1) (λc:Nat=>W.str (bL [c])) (λc=>W.bl (cF c)) (τ0:=dI _ _) trivial (λc hc k hk=>?_) (by show 0+_<=_;(clear h2;lia)) (λ_=>rfl) λp hp=>⟨l.map cF,?_,?_⟩
  ·walk_at "R";exact⟨[c],rfl,ycx _,hk⟩
  ·rw[al,nil_append,map_map]
   rfl
  have ea:(l.map cF).all id=l.all cF:=by rw[List.all_map];rfl
  rw[ea];have le1:=aL.new (g:=GO.lst ([]++l.map λc=>W.bl (cF c))) hp;generalize aV G p (GO.lst ([]++l.map λc=>W.bl (cF c)))=G1 at le1 ⊢;refine cP (λh3=>nope (c:=l.all cF=true) (λz=>by rw[z] at h3;cases h3) (λz=>(fst z).2.2) _ le1) λh3=>?_;have h3:l.all cF=true:=by cases e:l.all cF with | true=>rfl | false=>exact absurd e h3
  have ef:bU l=(decide (l=[48])||decide (l.head?≠some 48)):=by
   unfold bU;rw[h3,ydz ⟨h1,h2⟩]
   rfl
  subst hU;walk_at "R";refine⟨rfl,rfl,zero_le _,?_⟩;rw[show Str.ofString "0"=bL [48] from rfl,eO];refine cP (λh4=>?_) λh4=>?_
  ·have:bU l=true:=by rw[ef,h4];rfl
   rw[←this];exact aL.done (hq _ le1)
  ·cases l with
   | nil=>exact absurd h1 (by decide)
   | cons x l=>
     refine⟨by rw[aP];lia,x,cL (j:=0) rfl,rfl,rfl,zero_le _,?_⟩;rw[show({ cps:= #[x] }:Str)=bL [x] from rfl,eO];have h4:decide (x::l=[48])=false:=Bool.eq_false_iff.mpr h4;have:(!decide ([x]=[48]))=bU (x::l):=by
      rw[ef,h4,Bool.false_or,Bool.eq_iff_iff];simp
     rw[this];exact aL.done (hq _ le1)
noncomputable def AL:bM:=λws G q _=>∃l:List Nat,ws=[.str (bL l)]/\l.length<=5000/\∀G',aL G G'->q (.bl (d0 l)) G'
theorem CS {t1:Tok} (F:cJ K "is_name" "is_name" (ax 44) f fd) (F1:Fx P w K mg base "is_letter" ["sign"] 1 nZ) (hm:mg "MOST_LETTERS"=some (.int 8 t1)) (ml:mg "len"=none) (ma:mg "all"=none):cq P w K mg base 2 f fd ["text"] AL:=by
 refine fE F (N:=["text"]) (by walk_at "s") (by walk_at "l") λ_ _ _ _ _ _ nd hr=>?_;apply aM
 ·exact(ac (aW (eW (eV (dg (mv ia ia ah (bc cj rfl ml PySem.boot_len (ae (aa 0) ag)) (eE rfl hm))) (dB (aw (bx hr) (aa 0) aZ)))) (ac (aq eU) af) af) (ac (aq (bc (wz rfl) rfl ma PyProof.Rows.boot_all (ae (eB (dE (by first | rfl | decide+kernel)) rfl (bK (aa 0)) (λ_ _ _ _=>(bY 1 (by first | assumption | decide+kernel | rfl) rfl (.inl rfl))) (λ_ _ _ _=>ft) (λ_ _ _ _=>(ay F1 (av.mono hr (by lia)) rfl (ae (aa 1) ag)))) ag))) af))
 ·rintro ws G q e ⟨l,rfl,hl,hq⟩;walk_at "a0";have nope:∀{c:Prop},¬c->(d0 l=true->c)->∀G',aL G G'->∃G0,aL G0 G'/\q (.bl false) G0:=λhc hi G' le=>by
   have:d0 l=false:=Bool.eq_false_iff.mpr λz=>hc (hi z);rw[←this];exact aL.done (hq G' le)
  have fst:d0 l=true->1<=l.length/\l.length<=8/\l≠[119]:=λh=>by
   unfold d0 at h;simp only[Bool.and_eq_true,decide_eq_true_eq] at h;exact⟨h.1.1.1,h.1.1.2,h.1.2⟩
  refine⟨by rw[aP];lia,_,rfl,?_⟩;rw[aP];refine cP (λh1=>?_) λh1=>nope (c:=1<=l.length) (λz=>h1 (ydz (by (clear h1;lia)))) (λz=>(fst z).1) _ (aL.refl _);refine cP (λh2=>nope (c:=l.length<=8) (λz=>h2 (by (clear h1;lia))) (λz=>(fst z).2.1) _ (aL.refl _)) λh2=>?_;have h1:1<=l.length:=by have:=of_decide_eq_true h1;(clear h1;lia)
  have h2:l.length<=8:=by have:=Decidable.of_not_not h2;(clear this;lia)
  refine⟨rfl,rfl,zero_le _,?_⟩;rw[show Str.ofString "w"=bL [119] from rfl,eO];refine cP (λh3=>nope (c:=l≠[119]) (λz=>z (of_decide_eq_true h3)) (λz=>(fst z).2.2) _ (aL.refl _)) λh3=>?_;have h3:l≠[119]:=λz=>h3 (ydz z);subst hU;walk_at "R";refine kJ (i:=1) (λc:Nat=>W.str (bL [c])) (λc=>W.bl (fK c)) (τ0:=dI _ _) trivial (λc hc k hk=>?_) (by show 0+_<=_;(clear h2;lia)) (λ_=>rfl) λp hp=>⟨l.map fK,?_,?_⟩
  ·walk_at "R";exact⟨[c],rfl,ycx _,hk⟩
  ·rw[al,nil_append,map_map]
   rfl
  have ea:(l.map fK).all id=d0 l:=by
   rw[List.all_map];unfold d0;rw[ydz ⟨h1,h2⟩,ydz h3]
   rfl
  rw[ea];exact aL.done (hq _ (aL.new hp))
noncomputable def cI:cr->W
 | .num a=> .tup (am a)
 | .nam l=> .str (bL l)
 | .op x=> .str (bL [x])
noncomputable def vR:bM:=λws G q _=>ws=[]/\q (.tup (am om)) G
theorem CT (F:cJ K "endless" "endless" (ax 10) f fd) (F1:Fx P w K mg base "whole" ["n"] 3 qp) (F2:Aa P w K mg base "raised" ["exponent","times"] 2 vO [.int 1]):cq P w K mg base 4 f fd [] vR:=by
 refine fE F (N:=[]) (by walk_at "s") (by walk_at "l") λ_ _ _ _ _ _ nd hr=>?_;apply aM
 ·exact(ac (aq (ny F2 (av.mono hr (by lia)) rfl (ae (ay F1 (av.mono hr (by lia)) rfl (ae ah ag)) ag))) af)
 ·rintro ws G q e ⟨rfl,hq⟩;walk_at "R";refine⟨1,rfl,by decide,O.wh 1,1,rfl,by decide,aL.done ?_⟩;exact hq
noncomputable def tq (C:Addr):bM:=λws G q e=>∃l:List Nat,ws=[.str (bL l)]/\l.length<=5000/\(∀x,nK l=some x->∀G',aL G G'->q (cI x) G')/\(nK l=none->∀G',aL G G'->e (.ref C) G')
theorem scTo:bA ["word"] ["word"] (ak (ax 45)):=by walk_at "s"
theorem CU {C:Addr} {bC:yez} (F:cJ K "thing_of" "thing_of" (ax 45) f fd) (F1:Fx P w K mg base "endless" [] 4 vR) (F2:Fx P w K mg base "is_figures" ["text"] 2 AK) (F3:Fx P w K mg base "is_name" ["text"] 2 AL) (F4:Fx P w K mg base "whole" ["n"] 3 qp) (mC:mg "NoText"=some (.ref C)) (xC:XC K C bC) (mi:mg "int"=none):ko P w K mg base 5 f fd ["word"] (tq C):=by
 have nd:=scTo.nd;refine nz (k:=4) F scTo (λws G q e h=>by obtain⟨_,rfl,_⟩:=h;rfl) (λcdv A outer s H E ws G q e hr hsp hE=>?_);obtain⟨l,rfl,hl,hgood,hbad⟩:=hsp;apply aM
 ·refine' ac ?s1 (ac ?s2 (ac ?s3 (bp (dZ mC xC (λH1 G1=>hE _ H1 G1) rfl))))
  case s1=>exact(aW (aw (bx hr) (aa 0) aZ) (ac (aq (rN F1 (av.mono hr (by lia)) rfl)) af) af)
  case s2=>exact(aW (bQ (ay F2 (av.mono hr (by lia)) rfl (ae (aa 0) ag))) (ac (aq (ay F4 (av.mono hr (by lia)) rfl (ae (cC yu rfl mi PyProof.Rows.boot_int (ae (aa 0) ag)) ag))) af) af)
  case s3=>exact(aW (bQ (ay F3 (av.mono hr (by lia)) rfl (ae (aa 0) ag))) (ac (aq (aa 0)) af) af)
 ·walk_at "a0";refine⟨rfl,rfl,zero_le _,?_⟩;rw[show Str.ofString "w"=bL [119] from rfl,eO];refine cP (λh1=>?_) λh1=>?_
  ·have h1:l=[119]:=of_decide_eq_true h1;refine⟨rfl,aL.done (hgood (.num om) ?_ G (aL.refl _))⟩;rw[h1]
   rfl
  have h1:l≠[119]:=λz=>h1 (ydz z);walk_at "a";refine⟨l,rfl,hl,λG1 le1=>?_⟩;walk_at "R";refine cP (λh2=>?_) λh2=>?_
  ·have h4:l.all cF=true/\1<=l.length/\l.length<=60:=by
    unfold bU at h2;simp only[Bool.and_eq_true,decide_eq_true_eq] at h2;exact⟨h2.1.2,h2.1.1⟩
   refine⟨λc hc=>?_,λz=>?_,by rw[aP];lia,_,rfl,Int.natCast_nonneg _,aL.done ?_⟩
   ·have:=all_eq_true.mp h4.1 c hc;exact of_decide_eq_true this
   ·rw[z] at h4;exact absurd h4.2.1 (by decide)
   ·refine hgood (.num (O.wh (lP l))) ?_ G1 le1;unfold nK;rw[ycw h1,ycv h2]
  walk_at "a";refine⟨l,rfl,hl,λG2 le2=>?_⟩;walk_at "R";have h2:bU l=false:=Bool.eq_false_iff.mpr h2;refine cP (λh3=>?_) λh3=>?_
  ·refine aL.done (hgood (.nam l) ?_ G2 (le1.trans le2));unfold nK;rw[ycw h1,h2,ycw (by decide),ycv h3]
  ·subst hU;walk_at "R";refine hbad ?_ G2 (le1.trans le2);unfold nK;rw[ycw h1,h2,ycw (by decide),ycw h3]
noncomputable def kU (l:List Nat) (p:Nat) (a:Addr):List (Str×W):=[("text",.str (bL l)),("place",.int (p:Int)),("steps",.ref a)]
structure BA (C:Addr) (G:Gp) (r a:Addr) (l:List Nat) (p:Nat) (s:List cr):Prop where
 hr:G r=some (.ins C (kU l p a))
 ha:G a=some (.lst (s.map cI))
 pl:p<=l.length
 ll:l.length<=2000
 sl:s.length+l.length<=6000+p
structure vS (K:yav) (C:Addr):Prop where
 c:lc K C
 t:cK K C "text"
 p:cK K C "place"
 s:cK K C "steps"
noncomputable def tu (C:Addr):bM:=λws G q _=>∃(r a:Addr) (l:List Nat) (p:Nat),ws=[.ref r]/\G r=some (.ins C (kU l p a))/\p<=l.length/\l.length<=2000/\q (.str (bL ((l.drop p).take 1))) G
theorem scSg:bA ["self"] ["self"] (ak (cB 46 7)):=by walk_at "s"
theorem CV {C:Addr} (hC:vS K C) (F:cJ K "sign" "Reading.sign" (cB 46 7) f fd):cq P w K mg base 1 f fd ["self"] (tu C):=by
 have nd:=scSg.nd;obtain⟨hc,ct,cp,cs⟩:=hC;refine zy F scSg (λws G q e h=>by obtain⟨_,_,_,_,rfl,_⟩:=h;rfl) (λcdv A outer s H E hr=>?_);apply aM
 ·exact(ac (aq (bV (cS (aa 0)) (cm (cS (aa 0))) (cm (aE aX (cS (aa 0)) ah)))) af)
 ·rintro ws G q e ⟨r,a,l,p,rfl,hr,hp,hl,hq⟩;walk_at "R";refine⟨r,C,_,_,rfl,hr,⟨hc,ct⟩,rfl,r,C,_,_,rfl,hr,⟨hc,cp⟩,rfl,?_⟩;walk_at "R";refine⟨r,C,_,_,rfl,hr,⟨hc,cp⟩,rfl,?_⟩;walk_at "R";refine⟨by rw[aP];lia,p,p+1,by rw[aP];exact hp,.inr rfl,.inr rfl,aL.done ?_⟩;rw[Nat.add_sub_cancel_left];exact hq
noncomputable def qr (C:Addr):bM:=λws G q _=>∃(r a:Addr) (l:List Nat) (p x:Nat),ws=[.ref r,.str (bL [x])]/\G r=some (.ins C (kU l p a))/\p<=l.length/\l.length<=2000/\
 ((l.drop p).head?=some x->q (.bl true) (aV G r (.ins C (kU l (p+1) a))))/\((l.drop p).head?≠some x->q (.bl false) G)
theorem mH (l:List Nat) (x:Nat):l.take 1=[x]↔l.head?=some x:=by
 cases l with
 | nil=>simp
 | cons y l=>simp
theorem scPb:bA ["self","sign"] ["self","sign"] (ak (cB 46 6)):=by walk_at "s"
theorem CW {C:Addr} (hC:vS K C) (F:cJ K "pass_by" "Reading.pass_by" (cB 46 6) f fd) (M1:Mt P w K mg base C "sign" ["self"] 1 (tu C) []):cq P w K mg base 2 f fd ["self","sign"] (qr C):=by
 have nd:=scPb.nd;obtain⟨hc,ct,cp,cs⟩:=hC;refine zy F scPb (λws G q e h=>by obtain⟨_,_,_,_,_,rfl,_⟩:=h;rfl) (λcdv A outer s H E hr=>?_);apply aM
 ·exact(ac (aW (aw (d8 hr) (e9 (aa 0) M1 (av.mono hr (by lia))) (aa 1)) (ac (aq eU) af) af) (ac (iQ (aa 0) (aE aX (cS (aa 0)) ah)) (ac (aq eU) af)))
 ·rintro ws G q e ⟨r,a,l,p,x,rfl,hr,hp,hl,hyes,hno⟩;walk_at "a0";refine⟨r,_,rfl,hr,rfl,r,a,l,p,rfl,hr,hp,hl,?_⟩;walk_at "R";refine⟨rfl,rfl,zero_le _,?_⟩;rw[eO];refine cP (λh=>?_) λh=>?_
  ·exact aL.done (hno λz=>by rw[ydz ((mH _ _).mpr z)] at h;cases h)
  ·have hx:(l.drop p).head?=some x:=(mH _ _).mp (by
    cases e0:decide (List.take 1 (List.drop p l)=[x]) with
    | true=>exact of_decide_eq_true e0
    | false=>exact absurd e0 h)
   walk_at "a";refine⟨r,C,_,_,rfl,hr,⟨hc,cp⟩,rfl,?_⟩;walk_at "R";refine⟨r,C,_,rfl,hr,⟨hc,cp⟩,by simp[kU],?_⟩;subst hU;walk_at "R";refine aL.done ?_;exact hyes hx
theorem vT {G:Gp} {r:Addr} {g:GO} (h:G r=some g):aV G r g=G:=by
 funext x
 by_cases e:x=r
 ·rw[e,al,h]
 ·rw[aO e]
theorem vU (l:List Nat):(dF l).length<=l.length:=by
 have:=congrArg List.length (fz l);rw[length_append] at this;lia
theorem tw (l:List Nat):l.take (dF l).length=dF l:=by
 have:l.take (dF l).length=(dF l++nJ l).take (dF l).length:=by rw[fz]
 rw[this,List.take_append_of_le_length (ycx _),take_length]
theorem tz {l:List Nat}:(vP (l.take 1)||vQ (l.take 1))=decide (dF l≠[]):=by
 cases l with
 | nil=>rfl
 | cons x l=>
   show fL x=_;unfold dF;cases fL x<;> simp
theorem tD {l:List Nat} (h:dF l≠[]):dF (l.drop 1)=(dF l).drop 1:=by
 cases l with
 | nil=>exact absurd rfl h
 | cons x l=>
   unfold dF at h;show dF l=(dF (x::l)).drop 1
   conv=>rhs;unfold dF
   split
   ·rfl
   ·rename_i hx;rw[ycw hx] at h;exact absurd rfl h
noncomputable def yz (C:Addr):bM:=λws G q _=>∃(r a:Addr) (l:List Nat) (p:Nat),ws=[.ref r]/\G r=some (.ins C (kU l p a))/\p<=l.length/\l.length<=2000/\q (.str (bL (dF (l.drop p)))) (aV G r (.ins C (kU l (p+(dF (l.drop p)).length) a)))
theorem scWd:bA ["self","first"] ["self"] (ak (cB 46 5)):=by walk_at "s"
theorem CY {C:Addr} (hC:vS K C) (F:cJ K "word" "Reading.word" (cB 46 5) f fd) (M1:Mt P w K mg base C "sign" ["self"] 1 (tu C) []) (F1:Fx P w K mg base "is_figure" ["sign"] 1 nY) (F2:Fx P w K mg base "is_letter" ["sign"] 1 nZ):cq P w K mg base 2 f fd ["self"] (yz C):=by
 have nd:=scWd.nd;obtain⟨hc,ct,cp,cs⟩:=hC;refine zy F scWd (λws G q e h=>by obtain⟨_,_,_,_,rfl,_⟩:=h;rfl) (λcdv A outer s H E hr=>?_);apply aM
 ·exact(ac (aA 1 nd rfl (.inl rfl) (cS (aa 0))) (ac (eX PySem.PassesOwn.never (eW (eV (bQ (ay F1 (av.mono hr (by lia)) rfl (ae (e9 (aa 0) M1 (av.mono hr (by lia))) ag))) (dB (bQ (ay F2 (av.mono hr (by lia)) rfl (ae (e9 (aa 0) M1 (av.mono hr (by lia))) ag)))))) (ac (iQ (aa 0) (aE aX (cS (aa 0)) ah)) af)) (ac (aq (bV (cS (aa 0)) (cm (aa 1)) (cm (cS (aa 0))))) af)))
 ·rintro ws G q e ⟨r,a,l,p,rfl,hr,hp,hl,hq⟩;have wl:=vU (l.drop p);rw[length_drop] at wl;walk_at "a0";refine⟨r,C,_,_,rfl,hr,⟨hc,cp⟩,rfl,?_⟩;subst hU;refine aN λU hU=>?_;refine kH (λj τ G'=>∃i:Nat,i<=(dF (l.drop p)).length/\j=(dF (l.drop p)).length-i/\τ=[some (.ref r),some (.int (p:Int))]/\G'=aV G r (.ins C (kU l (p+i) a))/\dF (l.drop (p+i))=(dF (l.drop p)).drop i) ⟨_,0,zero_le _,rfl,rfl,(vT hr).symm,rfl⟩ ?_;rintro j τ G' ⟨i,hi,rfl,rfl,rfl,hw⟩ B hB;have hr':aV G r (.ins C (kU l (p+i) a)) r=some (.ins C (kU l (p+i) a)):=al;have len1:((l.drop (p+i)).take 1).length<=1:=by rw[length_take];exact Nat.min_le_left _ _
  have hd:=tz (l:=l.drop (p+i));have go:dF (l.drop (p+i))≠[]->∃N:de->Gp->Prop,(∀τ1 G1,N τ1 G1->∃m1,m1<(dF (l.drop p)).length-i/\∃i,i<=(dF (l.drop p)).length/\m1=(dF (l.drop p)).length-i/\τ1=[some (.ref r),some (.int (p:Int))]/\G1=aV G r (.ins C (kU l (p+i) a))/\dF (l.drop (p+i))=(dF (l.drop p)).drop i)/\B { nx:=N,rt:=λw G1=>∃G0,aL G0 G1/\q w G0,bk:=U { nx:=λx G1=>∃G0,aL G0 G1/\q W.non G0,rt:=λw G1=>∃G0,aL G0 G1/\q w G0 },ct:=N } [some (.ref r),some (.int (p:Int))] (aV G r (.ins C (kU l (p+i) a))):=λhne=>by
   have hi2:i<(dF (l.drop p)).length:=by
    rcases Nat.lt_or_ge i (dF (l.drop p)).length with z | z
    ·exact z
    ·rw[hw,List.drop_eq_nil_of_le z] at hne;exact absurd rfl hne
   refine⟨λτ1 G1=>τ1=[some (.ref r),some (.int (p:Int))]/\G1=aV G r (.ins C (kU l (p+(i+1)) a)),?_,?_⟩
   ·rintro τ1 G1 ⟨rfl,rfl⟩;refine⟨_,by (clear hp hl wl hi len1;lia),i+1,hi2,rfl,rfl,rfl,?_⟩;have:=tD hne;rw[List.drop_drop,hw,List.drop_drop] at this;exact this
   ·subst hB;walk_at "R";refine⟨r,C,_,_,rfl,hr',⟨hc,cp⟩,rfl,?_⟩;walk_at "R";refine⟨r,C,_,rfl,hr',⟨hc,cp⟩,by simp[kU],?_⟩;rw[fX]
    rfl
  walk_at "R";refine⟨r,_,rfl,hr',rfl,r,a,l,p+i,rfl,hr',by (clear hl len1;lia),hl,_,rfl,len1,?_⟩;dsimp only;refine cP (λh=>go ?_) λh=>?_
  ·rw[h,Bool.true_or] at hd;exact of_decide_eq_true hd.symm
  rw[Bool.eq_false_iff.mpr h,Bool.false_or] at hd;refine⟨r,_,rfl,hr',rfl,r,a,l,p+i,rfl,hr',by (clear hl len1;lia),hl,_,rfl,len1,?_⟩;dsimp only;refine cP (λh=>go ?_) λh=>?_
  ·rw[h] at hd;exact of_decide_eq_true hd.symm
  rw[Bool.eq_false_iff.mpr h] at hd;have hz:dF (l.drop (p+i))=[]:=Decidable.of_not_not (of_decide_eq_false hd.symm);have hie:i=(dF (l.drop p)).length:=by
   have:=congrArg List.length (hw.symm.trans hz);rw[length_drop] at this;have:(dF (l.drop p)).length-i=0:=this
   (clear hp hl wl len1;lia)
  subst hU;walk_at "R";refine⟨r,C,_,_,rfl,hr',⟨hc,ct⟩,rfl,r,C,_,_,rfl,hr',⟨hc,cp⟩,rfl,?_⟩;walk_at "R";refine⟨by rw[aP];lia,p,p+i,by rw[aP];assumption,.inr rfl,.inr rfl,aL.done ?_⟩;rw[Nat.add_sub_cancel_left,hie];show q (.str (bL ((l.drop p).take (dF (l.drop p)).length))) _;rw[tw];exact hq
noncomputable def ib (G G':Gp) (r a:Addr):Prop:=∀x g,x≠r->x≠a->G x=some g->G' x=some g
theorem ib.trans {G G1 G2:Gp} {r a:Addr} (h:ib G G1 r a) (g:ib G1 G2 r a):ib G G2 r a:=λx y h1 h2 e=>g x y h1 h2 (h x y h1 h2 e)
theorem ib.r (G:Gp) (r a:Addr) (g:GO):ib G (aV G r g) r a:=λx y h1 _ e=>(aO h1).trans e
theorem ib.aq (G:Gp) (r a:Addr) (g:GO):ib G (aV G a g) r a:=λx y _ h2 e=>(aO h2).trans e
noncomputable def fF (C NT:Addr) (fn:List Nat->Rd) (w:Nat):bM:=λws G q e=>∃(r a:Addr) (l:List Nat) (p:Nat) (s:List cr),ws=[.ref r,.int (w:Int)]/\BA C G r a l p s/\r≠a/\
 (∀s' rest,fn (l.drop p)=some (s',rest)->∀G',ib G G' r a->BA C G' r a l (l.length-rest.length) (s++s')->q .non G')/\(fn (l.drop p)=none->∀G',ib G G' r a->e (.ref NT) G')
noncomputable def AM:WS:=λd _ G=>d.rt .non G
theorem AN {rd:List Nat->Rd} {m:List Nat} (h:m.head?≠some 40):aU rd m=match nK (dF m) with | some x=>some ([x],nJ m) | none=>none:=by
 unfold aU;split
 ·exact absurd rfl h
 ·rfl
theorem AO {rd:List Nat->Rd} {m:List Nat} (h:rd m=none):aU rd (40::m)=none:=by
 show(match rd m with | some (s,41::r)=>some (s,r) | _=>none)=none;rw[h]
theorem AQ {rd:List Nat->Rd} {m r:List Nat} {s':List cr} (h:rd m=some (s',41::r)):aU rd (40::m)=some (s',r):=by
 show(match rd m with | some (s,41::r)=>some (s,r) | _=>none)=_;rw[h]
 rfl
theorem AR {rd:List Nat->Rd} {m r:List Nat} {s':List cr} (h:rd m=some (s',r)) (hh:r.head?≠some 41):aU rd (40::m)=none:=by
 show(match rd m with | some (s,41::r)=>some (s,r) | _=>none)=none;rw[h];split
 ·next e=>cases e;exact absurd rfl hh
 ·rfl
theorem d9 {l:List Nat} {p x:Nat} (h:(l.drop p).head?=some x):p<l.length/\l.drop p=x::l.drop (p+1):=by
 have hp:p<l.length:=Decidable.by_contra λn=>by rw[List.drop_eq_nil_of_le (by walk_at "om")] at h;exact nomatch h
 refine⟨hp,?_⟩;rw[drop_eq_getElem_cons hp] at h ⊢;rw[Option.some.inj h]
unseal QS in
theorem vV {X:Cx}:QS X (.Return none pos) AM:=ps_retN.imp λD σ H z0=>z0.el λτ G d hs hg ht l=>l.rt .non H .non G (aQ.refl H) .non hg ht
theorem scRt:bA ["self","within"] ["self","within"] (ak (cB 46 4)):=by walk_at "s"
theorem CZ {C NT:Addr} {bC:yez} {t1:Tok} {d k:Nat} (hd:d<=20) (hk5:5<=k) (hC:vS K C) (F:cJ K "read_thing" "Reading.read_thing" (cB 46 4) f fd) (M1:Mt P w K mg base C "pass_by" ["self","sign"] 2 (qr C) []) (M2:Mt P w K mg base C "word" ["self"] 2 (yz C) []) {spX:bM} (M3:oF P w K mg base C "read_sum" ["self","within"] k spX []) (hX:1<=d->spX=fF C NT (bn d) (21-d)) (R1:Rx P w K mg base "thing_of" ["word"] 5 (tq NT) []) (hm:mg "MOST_BRACKETS"=some (.int 20 t1)) (mC:mg "NoText"=some (.ref NT)) (xC:XC K NT bC):ko P w K mg base (k+1) f fd ["self","within"] (fF C NT (aU (bn d)) (20-d)):=by
 have nd:=scRt.nd;obtain⟨hc,ct,cp,cs⟩:=hC;refine nz (k:=k) F scRt (λws G q e h=>by obtain⟨_,_,_,_,_,rfl,_⟩:=h;rfl) (λcdv A outer s0 H E ws G q e hr hsp hE=>?_);obtain⟨r,a,l,p,s,rfl,X,ra,hgood,hbad⟩:=hsp;apply aM
 ·refine' ac (aW ?c1 ?b1 af) (ac (aW ?c2 (bp (dZ mC xC (λH1 G1=>hE _ H1 G1) rfl)) af) (ac ?s3 (bp (aW ?c4 (bp (dZ mC xC (λH1 G1=>hE _ H1 G1) rfl)) af))))
  case c1=>exact(dg (bQ (gm (aa 0) M1 (av.mono hr (by lia)) (ae aZ ag))))
  case b1=>
   refine' ac ?e1 (bp ?e2)
   case e1=>exact bB (dh (by exact(cS (aa 0))) (r6 R1 (av.mono hr (by assumption)) hE rfl (by exact(ae (e9 (aa 0) M2 (av.mono hr (by lia))) ag))))
   case e2=>exact vV
  case c2=>exact(aw (bx hr) (aa 1) (eE rfl hm))
  case s3=>exact bB (cX (aa 0) M3 (av.mono hr (by (clear hd hk5;lia))) hE (by exact(ae (aE aX (aa 1) ah) ag)))
  case c4=>exact(dg (bQ (gm (aa 0) M1 (av.mono hr (by lia)) (ae aZ ag))))
 ·walk_at "a0";refine⟨r,_,rfl,X.hr,rfl,r,a,l,p,40,rfl,X.hr,X.pl,X.ll,λhh=>?_,λhh=>?_⟩
  ·obtain⟨hp,hdr⟩:=d9 hh;dsimp only;rw[ycw (by decide)];subst hU;walk_at "R";have hG1:(aV G r (.ins C (kU l (p+1) a))) r=some (.ins C (kU l (p+1) a)):=al;refine cP (λh=>?_) λh=>?_
   ·have hd0:d=0:=by (clear hk5 hp;lia)
    subst hd0;exact hbad (by rw[hdr];rfl) _ (ib.r G r a _)
   obtain rfl:=hX (by (clear hk5 hp;lia));unfold eF;walk_at "R";have hll:=X.ll;have hsl:=X.sl;refine⟨r,_,rfl,hG1,rfl,r,a,l,p+1,s,by rw[show((21-d:Nat):Int)=((20-d:Nat):Int)+1 by (clear hk5 hp h hll hsl;lia)],⟨hG1,(aO ra.symm).trans X.ha,hp,hll,by (clear hd hk5 hp h hll;lia)⟩,ra,λs' rest hrd G' hK X'=>?_,λhn G' hK=>hbad (by rw[hdr];exact AO hn) G' ((ib.r G r a _).trans hK)⟩;have hdp:l.drop (l.length-rest.length)=rest:=(gz.trans ⟨l.take (p+1),(take_append_drop _ _).symm⟩ (dw d _ _ _ hrd).1).drop;refine⟨r,_,rfl,X'.hr,rfl,r,a,l,l.length-rest.length,41,rfl,X'.hr,X'.pl,X'.ll,λh2=>?_,λh2=>?_⟩
   ·obtain⟨hp2,hd2⟩:=d9 h2;have hX:=X'.sl;dsimp only;rw[ycw (by decide)];rw[hdp] at hd2;refine⟨_,aL.refl _,hgood s' _ (by rw[hdr];exact AQ (hrd.trans (congrArg (λz=>some (s',z)) hd2))) _ (((ib.r G r a _).trans hK).trans (ib.r G' r a _)) ⟨?_,(aO ra.symm).trans X'.ha,by (clear hd hk5 h hll hsl hp2 hX;lia),hll,?_⟩⟩
    ·rw[length_drop,show l.length- (l.length- (l.length-rest.length+1))=l.length-rest.length+1 by (clear hd hk5 h;lia)];exact al
    ·rw[length_drop]
     (clear hd hk5 hp h hll hsl;lia)
   ·dsimp only;rw[ycv rfl];rw[hdp] at h2;exact hbad (by rw[hdr];exact AR hrd h2) G' ((ib.r G r a _).trans hK)
  ·dsimp only;rw[ycv rfl];have hrd:=AN (rd:=bn d) hh;have hla:=congrArg List.length (fz (l.drop p));rw[length_append,length_drop] at hla;have hpl:=X.pl;have hll:=X.ll;have hsl:=X.sl;refine⟨r,C,_,.ref a,rfl,X.hr,⟨hc,cs⟩,rfl,⟨_,X.ha⟩,r,_,rfl,X.hr,rfl,r,a,l,p,rfl,X.hr,X.pl,X.ll,dF (l.drop p),rfl,by (clear hd hk5 hsl;lia),λx hx G' hG=>?_,λhn G' hG=>?_⟩
   ·rw[hx] at hrd;have h1:=sC hx;refine⟨_,hG _ _ ((aO ra.symm).trans X.ha),by rw[length_map];(clear hd hk5 hla hll h1;lia),?_⟩;refine⟨_,aL.refl _,hgood [x] (nJ (l.drop p)) hrd _ (λz g h1 h2 e=>(aO h2).trans (hG _ _ ((aO h1).trans e))) ⟨?_,?_,by (clear hd hk5 hla hpl hsl h1;lia),hll,?_⟩⟩
    ·rw[aO ra,show l.length- (nJ (l.drop p)).length=p+(dF (l.drop p)).length by (clear hd hk5 hsl;lia)];exact hG _ _ al
    ·rw[map_append];exact al
    ·rw[length_append,length_singleton]
     (clear hd hk5 hll;lia)
   ·rw[hn] at hrd;exact hbad hrd G' λz g h1 h2 e=>hG _ _ ((aO h1).trans e)
theorem AS {rd:List Nat->Rd} {m r r2:List Nat} {s' s2:List cr} (h:aU rd m=some (s',94::r)) (h2:aU rd r=some (s2,r2)):bO rd m=some (s'++s2++[.op 94],r2):=by
 unfold bO;rw[h];show(match aU rd r with | some (s2,r2)=>some (s'++s2++[cr.op 94],r2) | none=>none)=_;rw[h2]
theorem AT {rd:List Nat->Rd} {m r:List Nat} {s':List cr} (h:aU rd m=some (s',94::r)) (h2:aU rd r=none):bO rd m=none:=by
 unfold bO;rw[h];show(match aU rd r with | some (s2,r2)=>some (s'++s2++[cr.op 94],r2) | none=>none)=_;rw[h2]
theorem AU {rd:List Nat->Rd} {m r:List Nat} {s':List cr} (h:aU rd m=some (s',r)) (hh:r.head?≠some 94):bO rd m=some (s',r):=by
 unfold bO;rw[h];split
 ·next e=>cases e;exact absurd rfl hh
 ·rfl
theorem scRp:bA ["self","within"] ["self","within"] (ak (cB 46 3)):=by walk_at "s"
theorem C0 {C NT:Addr} {d k:Nat} (hk5:5<=k) (hC:vS K C) (F:cJ K "read_power" "Reading.read_power" (cB 46 3) f fd) (M1:Mt P w K mg base C "pass_by" ["self","sign"] 2 (qr C) []) (M3:oF P w K mg base C "read_thing" ["self","within"] k (fF C NT (aU (bn d)) (20-d)) []):ko P w K mg base (k+1) f fd ["self","within"] (fF C NT (bO (bn d)) (20-d)):=by
 have nd:=scRp.nd;obtain⟨hc,ct,cp,cs⟩:=hC;refine nz (k:=k) F scRp (λws G q e h=>by obtain⟨_,_,_,_,_,rfl,_⟩:=h;rfl) (λcdv A outer s0 H E ws G q e hr hsp hE=>?_);obtain⟨r,a,l,p,s,rfl,X,ra,hgood,hbad⟩:=hsp;have hrt:=jC (dw d);apply aM
 ·refine' ac ?s1 (bp (aW ?c2 (ac ?s3 (bp ?s4)) af))
  case s1=>exact bB (cX (aa 0) M3 (av.mono hr (by (clear hk5;lia))) hE (by exact(ae (aa 1) ag)))
  case c2=>exact(bQ (gm (aa 0) M1 (av.mono hr (by lia)) (ae aZ ag)))
  case s3=>exact bB (cX (aa 0) M3 (av.mono hr (by (clear hk5;lia))) hE (by exact(ae (aa 1) ag)))
  case s4=>exact bB (dh (by exact(cS (aa 0))) (by exact aZ))
 ·walk_at "a0";unfold eF;walk_at "R";refine⟨r,_,rfl,X.hr,rfl,r,a,l,p,s,rfl,X,ra,λs' rest hrd G' hK X'=>?_,λhn G' hK=>hbad (by unfold bO;rw[hn]) G' hK⟩;have hdp:l.drop (l.length-rest.length)=rest:=(gz.trans ⟨l.take p,(take_append_drop _ _).symm⟩ (hrt _ _ _ hrd).1).drop;subst hU;walk_at "R";have hpl:=X.pl;have hll:=X.ll;have hsl:=X.sl;refine⟨r,_,rfl,X'.hr,rfl,r,a,l,l.length-rest.length,94,rfl,X'.hr,X'.pl,X'.ll,λh2=>?_,λh2=>?_⟩
  ·obtain⟨hp2,hd2⟩:=d9 h2;have hX:=X'.sl;rw[hdp] at hd2;have hrd':=hrd.trans (congrArg (λz=>some (s',z)) hd2);have hkp:ib G (aV G' r (.ins C (kU l (l.length-rest.length+1) a))) r a:=hK.trans (ib.r G' r a _);dsimp only;rw[ycv rfl];unfold eF;walk_at "R";refine⟨r,_,rfl,al,rfl,r,a,l,l.length-rest.length+1,s++s',rfl,⟨al,(aO ra.symm).trans X'.ha,hp2,hll,by (clear hk5 hpl hll hsl hp2;lia)⟩,ra,λs2 rest2 hr2 G2 hK2 X2=>?_,λhn G2 hK2=>hbad (AT hrd' hn) G2 (hkp.trans hK2)⟩;have h3:=X2.sl;have l1:=(hrt _ _ _ hrd).2;have l2:=(hrt _ _ _ hr2).2;have l3:=(hrt _ _ _ hrd).1.len;have l4:=(hrt _ _ _ hr2).1.len;simp only[length_drop,length_append] at l1 l2 l3 l4 h3;refine⟨r,C,_,.ref a,rfl,X2.hr,⟨hc,cs⟩,rfl,⟨_,X2.ha⟩,_,X2.ha,by simp only[length_map,length_append];(clear hk5 hpl hsl hp2 hX l1 l2 l3 l4;lia),_,aL.refl _,hgood _ rest2 (AS hrd' hr2) _ ((hkp.trans hK2).trans (ib.aq G2 r a _)) ⟨(aO ra).trans X2.hr,?_,X2.pl,hll,?_⟩⟩
   ·rw[al];simp only[map_append,append_assoc]
    rfl
   ·simp only[length_append,length_singleton]
    (clear hk5 hll hX;lia)
  ·dsimp only;rw[ycw (by decide)];rw[hdp] at h2;exact⟨_,aL.refl _,hgood s' rest (AU hrd h2) G' hK X'⟩
noncomputable def eP (one:List Nat->Rd) (c:Nat) (l:List Nat):Rd:=
 match one l with
 | some (s,r)=>bd one c r.length s r
 | none=>none
theorem mI {one:List Nat->Rd} {c:Nat} {l r:List Nat} {s:List cr} (h:one l=some (s,r)):eP one c l=bd one c r.length s r:=by unfold eP;rw[h]
theorem mJ {one:List Nat->Rd} {c:Nat} {l:List Nat} (h:one l=none):eP one c l=none:=by unfold eP;rw[h]
theorem mK {one:List Nat->Rd} {c:Nat} {l:List Nat} (h:l.head?≠some c) (n:Nat) (s:List cr):bd one c n s l=some (s,l):=by
 cases n with
 | zero=>rfl
 | succ n=>unfold bd;rw[ycw h]
theorem tE {one:List Nat->Rd} {c:Nat} {l r:List Nat} {s2:List cr} (h:one l=some (s2,r)) (n:Nat) (s:List cr):bd one c (n+1) s (c::l)=bd one c n (s++s2++[.op c]) r:=by
 show(if (c::l).head?=some c then match one l with | some (s2,r)=>bd one c n (s++s2++[.op c]) r | none=>none else some (s,c::l))=_;rw[ycv (List.head?_cons ..),h]
theorem tF {one:List Nat->Rd} {c:Nat} {l:List Nat} (h:one l=none) (n:Nat) (s:List cr):bd one c (n+1) s (c::l)=none:=by
 show(if (c::l).head?=some c then match one l with | some (s2,r)=>bd one c n (s++s2++[.op c]) r | none=>none else some (s,c::l))=_;rw[ycv (List.head?_cons ..),h]
noncomputable def pp (C:Addr) (G:Gp) (r a:Addr) (l:List Nat) (p:Nat) (s:List cr) (one:List Nat->Rd) (c:Nat) (v:Int) (m:Nat) (τ:de) (G':Gp):Prop:=
 ∃s' rest,rest.length<=m/\τ=[some (.ref r),some (.int v)]/\ib G G' r a/\BA C G' r a l (l.length-rest.length) (s++s')/\gz l rest/\s'.length+rest.length<=l.length-p/\eP one c (l.drop p)=bd one c m s' rest
theorem scRpd:bA ["self","within"] ["self","within"] (ak (cB 46 2)):=by walk_at "s"
theorem AV {C NT:Addr} {one:List Nat->Rd} {w0 k:Nat} (hone:qe one) (hk5:5<=k) (hC:vS K C) (F:cJ K "read_product" "Reading.read_product" (cB 46 2) f fd) (M1:Mt P w K mg base C "pass_by" ["self","sign"] 2 (qr C) []) (M3:oF P w K mg base C "read_power" ["self","within"] k (fF C NT one w0) []):ko P w K mg base (k+1) f fd ["self","within"] (fF C NT (eP one 42) w0):=by
 have nd:=scRpd.nd;obtain⟨hc,ct,cp,cs⟩:=hC;refine nz (k:=k) F scRpd (λws G q e h=>by obtain⟨_,_,_,_,_,rfl,_⟩:=h;rfl) (λcdv A outer s0 H E ws G q e hr hsp hE=>?_);obtain⟨r,a,l,p,s,rfl,X,ra,hgood,hbad⟩:=hsp;apply aM
 ·refine' ac ?s1 (bp (eX PassesOwn.leaving ?c2 (ac ?s3 (bp ?s4))))
  case s1=>exact bB (cX (aa 0) M3 (av.mono hr (by (clear hk5;lia))) hE (by exact(ae (aa 1) ag)))
  case c2=>exact(bQ (gm (aa 0) M1 (av.mono hr (by lia)) (ae aZ ag)))
  case s3=>exact bB (cX (aa 0) M3 (av.mono hr (by (clear hk5;lia))) hE (by exact(ae (aa 1) ag)))
  case s4=>exact bB (dh (by exact(cS (aa 0))) (by exact aZ))
 ·walk_at "a0";unfold eF;walk_at "R";have hpl:=X.pl;have hll:=X.ll;have hsl:=X.sl;refine⟨r,_,rfl,X.hr,rfl,r,a,l,p,s,rfl,X,ra,λs' rest hrd G' hK X'=>?_,λhn G' hK=>hbad (mJ hn) G' hK⟩;have hok:=hone _ _ _ hrd;subst hU;refine kH (pp C G r a l p s one 42 (w0:Int)) ⟨rest.length,s',rest,ycx _,rfl,hK,X',gz.trans ⟨l.take p,(take_append_drop _ _).symm⟩ hok.1,by rw[←length_drop];exact hok.2,mI hrd⟩ ?_;rintro n τ G1 ⟨s1,r1,hn,rfl,hK1,X1,hS1,hl1,hrd1⟩ B hB;have hdp:=hS1.drop;have hx1:=X1.sl;have hs1:=hS1.len;walk_at "R";refine⟨r,_,rfl,X1.hr,rfl,r,a,l,l.length-r1.length,42,rfl,X1.hr,X1.pl,X1.ll,λh2=>?_,λh2=>?_⟩
  ·obtain⟨hp2,hd2⟩:=d9 h2;rw[hdp] at hd2;have hr1:=congrArg List.length hd2;rw[length_cons,length_drop] at hr1;obtain⟨n,rfl⟩:∃n',n=n'+1:=⟨n-1,by (clear hk5 hpl hll hsl hok hl1 hx1 hs1 hp2;lia)⟩;rw[hd2] at hrd1;have hkp:ib G (aV G1 r (.ins C (kU l (l.length-r1.length+1) a))) r a:=hK1.trans (ib.r G1 r a _);dsimp only;rw[ycv rfl];refine⟨λτ1 G3=>∃m1,m1<n+1/\pp C G r a l p s one 42 (w0:Int) m1 τ1 G3,λ_ _ h=>h,?_⟩;subst hB;unfold eF;walk_at "R";refine⟨r,_,rfl,al,rfl,r,a,l,l.length-r1.length+1,s++s1,rfl,⟨al,(aO ra.symm).trans X1.ha,hp2,hll,by (clear hk5 hpl hll hsl hok hl1 hs1 hp2 hr1 hn;lia)⟩,ra,λs2 rest2 hr2 G2 hK2 X2=>?_,λhn G2 hK2=>hbad (hrd1.trans (tF hn _ _)) G2 (hkp.trans hK2)⟩;have h3:=X2.sl;have hok2:=hone _ _ _ hr2;have l2:=hok2.2;have l4:=hok2.1.len;simp only[length_drop,length_append] at l2 l4 h3 hx1;refine⟨r,C,_,.ref a,rfl,X2.hr,⟨hc,cs⟩,rfl,⟨_,X2.ha⟩,_,X2.ha,by simp only[length_map,length_append];(clear hk5 hok hl1 hn hok2 l4 h3;lia),n,Nat.lt_succ_self n,s1++s2++[.op 42],rest2,by (clear hk5 hpl hll hsl hok hl1 hs1 hp2 hok2 l2 h3 hx1;lia),rfl,(hkp.trans hK2).trans (ib.aq G2 r a _),⟨(aO ra).trans X2.hr,?_,X2.pl,hll,?_⟩,gz.trans ⟨l.take (l.length-r1.length+1),(take_append_drop _ _).symm⟩ hok2.1,?_,hrd1.trans (tE hr2 _ _)⟩
   ·rw[al];simp only[map_append,append_assoc]
    rfl
   ·simp only[length_append,length_singleton]
    (clear hk5 hpl hll hsl hok hl1 hn hok2;lia)
   ·simp only[length_append,length_singleton]
    (clear hk5 hpl hll hsl hok hs1 hp2 hn hok2 l4 h3 hx1;lia)
  ·dsimp only;rw[ycw (by decide)];rw[hdp] at h2;exact⟨_,aL.refl _,hgood s1 r1 (hrd1.trans (mK h2 _ _)) G1 hK1 X1⟩
theorem scRsm:bA ["self","within"] ["self","within"] (ak (cB 46 1)):=by walk_at "s"
theorem AW {C NT:Addr} {one:List Nat->Rd} {w0 k:Nat} (hone:qe one) (hk5:5<=k) (hC:vS K C) (F:cJ K "read_sum" "Reading.read_sum" (cB 46 1) f fd) (M1:Mt P w K mg base C "pass_by" ["self","sign"] 2 (qr C) []) (M3:oF P w K mg base C "read_product" ["self","within"] k (fF C NT one w0) []):ko P w K mg base (k+1) f fd ["self","within"] (fF C NT (eP one 43) w0):=by
 have nd:=scRsm.nd;obtain⟨hc,ct,cp,cs⟩:=hC;refine nz (k:=k) F scRsm (λws G q e h=>by obtain⟨_,_,_,_,_,rfl,_⟩:=h;rfl) (λcdv A outer s0 H E ws G q e hr hsp hE=>?_);obtain⟨r,a,l,p,s,rfl,X,ra,hgood,hbad⟩:=hsp;apply aM
 ·refine' ac ?s1 (bp (eX PassesOwn.leaving ?c2 (ac ?s3 (bp ?s4))))
  case s1=>exact bB (cX (aa 0) M3 (av.mono hr (by (clear hk5;lia))) hE (by exact(ae (aa 1) ag)))
  case c2=>exact(bQ (gm (aa 0) M1 (av.mono hr (by lia)) (ae aZ ag)))
  case s3=>exact bB (cX (aa 0) M3 (av.mono hr (by (clear hk5;lia))) hE (by exact(ae (aa 1) ag)))
  case s4=>exact bB (dh (by exact(cS (aa 0))) (by exact aZ))
 ·walk_at "a0";unfold eF;walk_at "R";have hpl:=X.pl;have hll:=X.ll;have hsl:=X.sl;refine⟨r,_,rfl,X.hr,rfl,r,a,l,p,s,rfl,X,ra,λs' rest hrd G' hK X'=>?_,λhn G' hK=>hbad (mJ hn) G' hK⟩;have hok:=hone _ _ _ hrd;subst hU;refine kH (pp C G r a l p s one 43 (w0:Int)) ⟨rest.length,s',rest,ycx _,rfl,hK,X',gz.trans ⟨l.take p,(take_append_drop _ _).symm⟩ hok.1,by rw[←length_drop];exact hok.2,mI hrd⟩ ?_;rintro n τ G1 ⟨s1,r1,hn,rfl,hK1,X1,hS1,hl1,hrd1⟩ B hB;have hdp:=hS1.drop;have hx1:=X1.sl;have hs1:=hS1.len;walk_at "R";refine⟨r,_,rfl,X1.hr,rfl,r,a,l,l.length-r1.length,43,rfl,X1.hr,X1.pl,X1.ll,λh2=>?_,λh2=>?_⟩
  ·obtain⟨hp2,hd2⟩:=d9 h2;rw[hdp] at hd2;have hr1:=congrArg List.length hd2;rw[length_cons,length_drop] at hr1;obtain⟨n,rfl⟩:∃n',n=n'+1:=⟨n-1,by (clear hk5 hpl hll hsl hok hl1 hx1 hs1 hp2;lia)⟩;rw[hd2] at hrd1;have hkp:ib G (aV G1 r (.ins C (kU l (l.length-r1.length+1) a))) r a:=hK1.trans (ib.r G1 r a _);dsimp only;rw[ycv rfl];refine⟨λτ1 G3=>∃m1,m1<n+1/\pp C G r a l p s one 43 (w0:Int) m1 τ1 G3,λ_ _ h=>h,?_⟩;subst hB;unfold eF;walk_at "R";refine⟨r,_,rfl,al,rfl,r,a,l,l.length-r1.length+1,s++s1,rfl,⟨al,(aO ra.symm).trans X1.ha,hp2,hll,by (clear hk5 hpl hll hsl hok hl1 hs1 hp2 hr1 hn;lia)⟩,ra,λs2 rest2 hr2 G2 hK2 X2=>?_,λhn G2 hK2=>hbad (hrd1.trans (tF hn _ _)) G2 (hkp.trans hK2)⟩;have h3:=X2.sl;have hok2:=hone _ _ _ hr2;have l2:=hok2.2;have l4:=hok2.1.len;simp only[length_drop,length_append] at l2 l4 h3 hx1;refine⟨r,C,_,.ref a,rfl,X2.hr,⟨hc,cs⟩,rfl,⟨_,X2.ha⟩,_,X2.ha,by simp only[length_map,length_append];(clear hk5 hok hl1 hn hok2 l4 h3;lia),n,Nat.lt_succ_self n,s1++s2++[.op 43],rest2,by (clear hk5 hpl hll hsl hok hl1 hs1 hp2 hok2 l2 h3 hx1;lia),rfl,(hkp.trans hK2).trans (ib.aq G2 r a _),⟨(aO ra).trans X2.hr,?_,X2.pl,hll,?_⟩,gz.trans ⟨l.take (l.length-r1.length+1),(take_append_drop _ _).symm⟩ hok2.1,?_,hrd1.trans (tE hr2 _ _)⟩
   ·rw[al];simp only[map_append,append_assoc]
    rfl
   ·simp only[length_append,length_singleton]
    (clear hk5 hpl hll hsl hok hl1 hn hok2;lia)
   ·simp only[length_append,length_singleton]
    (clear hk5 hpl hll hsl hok hs1 hp2 hn hok2 l4 h3 hx1;lia)
  ·dsimp only;rw[ycw (by decide)];rw[hdp] at h2;exact⟨_,aL.refl _,hgood s1 r1 (hrd1.trans (mK h2 _ _)) G1 hK1 X1⟩
noncomputable def AX (C:Addr):bM:=λws G q _=>∃(r:Addr) (l:List Nat),ws=[.ref r,.str (bL l)]/\G r=some (.ins C [])/\l.length<=2000/\∀(a:Addr) (G':Gp),G a=none->r≠a->(∀x g,x≠r->G x=some g->G' x=some g)->BA C G' r a l 0 []->q .non G'
theorem scRi:bA ["self","text"] ["self","text"] (ak (cB 46 0)):=by walk_at "s"
theorem C1 {C:Addr} (hC:vS K C) (F:cJ K "__init__" "Reading.__init__" (cB 46 0) f fd):cq P w K mg base 1 f fd ["self","text"] (AX C):=by
 have nd:=scRi.nd;obtain⟨hc,ct,cp,cs⟩:=hC;refine zy F scRi (λws G q e h=>by obtain⟨_,_,rfl,_⟩:=h;rfl) (λcdv A outer s H E hr=>?_);apply aM
 ·exact(ac (iQ (aa 0) (aa 1)) (ac (iQ (aa 0) ah) (ac (iQ (aa 0) (dC ag)) af)))
 ·rintro ws G q e ⟨r,l,rfl,hr,hl,hq⟩;walk_at "a0";refine⟨r,C,[],rfl,hr,⟨hc,ct⟩,by simp,?_⟩;walk_at "a";refine⟨r,C,_,rfl,al,⟨hc,cp⟩,by simp only[length_cons,length_nil];decide,?_⟩;subst hU;walk_at "R";rw[ycw (show ¬Str.ofString "text"=Str.ofString "place" by decide)];intro a ha;have ra:r≠a:=λz=>by rw[←z,al] at ha;cases ha
  have ha':G a=none:=by rw[aO ra.symm,aO ra.symm] at ha;exact ha
  refine⟨r,C,_,rfl,by rw[aO ra];exact al,⟨hc,cs⟩,by simp only[length_cons,length_nil];decide,aL.done (hq a _ ha' ra (λx g hx hg=>?_) ⟨?_,?_,zero_le _,hl,?_⟩)⟩
  ·have xa:x≠a:=λz=>by rw[z,ha'] at hg;cases hg
   rw[aO hx,aO xa,aO hx,aO hx];exact hg
  ·rw[al]
   rfl
  ·rw[aO ra.symm];exact al
  ·simp only[length_nil];lia
theorem Md.rmt {C:Addr} {m qual:Str} {sp:bM} (D:Md K C m qual st ps) (c:lc K C) (h:∀(f:Addr) (fd:FuncData),cJ K m qual st f fd->ko P w K mg base k f fd ps sp):oF P w K mg base C m ps k sp []:=by
 obtain⟨f,fd,hm,F,b⟩:=D;exact⟨⟨f,fd,[],[],hm,h f fd F,b,.nil,λ_=> .nil⟩,c⟩
structure wJ (K:yav) (mg:yew) (C NT:Addr):Prop where
 cl:vS K C
 m0:Bx K C "Reading.__init__" (cB 46 0) ["self","text"]
 m1:Md K C "read_sum" "Reading.read_sum" (cB 46 1) ["self","within"]
 m2:Md K C "read_product" "Reading.read_product" (cB 46 2) ["self","within"]
 m3:Md K C "read_power" "Reading.read_power" (cB 46 3) ["self","within"]
 m4:Md K C "read_thing" "Reading.read_thing" (cB 46 4) ["self","within"]
 m5:Md K C "word" "Reading.word" (cB 46 5) ["self"]
 m6:Md K C "pass_by" "Reading.pass_by" (cB 46 6) ["self","sign"]
 m7:Md K C "sign" "Reading.sign" (cB 46 7) ["self"]
 mr:mg "Reading"=some (.ref C)
 mb:∃t,mg "MOST_BRACKETS"=some (.int 20 t)
 mC:mg "NoText"=some (.ref NT)
 xC:∃bC,XC K NT bC
theorem qt (d:Nat):eP (bv (bn d)) 43=cx d:=by rw[dG];rfl
section
variable {C NT:Addr} (D:wJ K mg C NT) (F1:Fx P w K mg base "is_figure" ["sign"] 1 nY) (F2:Fx P w K mg base "is_letter" ["sign"] 1 nZ) (R1:Rx P w K mg base "thing_of" ["word"] 5 (tq NT) [])
theorem yA (D:wJ K mg C NT):Mt P w K mg base C "sign" ["self"] 1 (tu C) []:=D.m7.mt D.cl.c λ_ _ F=>CV D.cl F
theorem vW (D:wJ K mg C NT):Mt P w K mg base C "pass_by" ["self","sign"] 2 (qr C) []:=D.m6.mt D.cl.c λ_ _ F=>CW D.cl F (yA D)
theorem C3 (D:wJ K mg C NT) (F1:Fx P w K mg base "is_figure" ["sign"] 1 nY) (F2:Fx P w K mg base "is_letter" ["sign"] 1 nZ):Mt P w K mg base C "word" ["self"] 2 (yz C) []:=D.m5.mt D.cl.c λ_ _ F=>CY D.cl F (yA D) F1 F2
theorem wK (D:wJ K mg C NT) (F1:Fx P w K mg base "is_figure" ["sign"] 1 nY) (F2:Fx P w K mg base "is_letter" ["sign"] 1 nZ) (R1:Rx P w K mg base "thing_of" ["word"] 5 (tq NT) []) {d k:Nat} (hd:d<=20) (hk5:5<=k) {spX:bM} (M:oF P w K mg base C "read_sum" ["self","within"] k spX []) (hX:1<=d->spX=fF C NT (bn d) (21-d)):oF P w K mg base C "read_sum" ["self","within"] (k+4) (fF C NT (cx d) (20-d)) []:=by
 obtain⟨t,mb⟩:=D.mb;obtain⟨bC,xC⟩:=D.xC;have A1:oF P w K mg base C "read_thing" ["self","within"] (k+1) (fF C NT (aU (bn d)) (20-d)) []:=Md.rmt D.m4 D.cl.c λ_ _ F=>CZ hd hk5 D.cl F (vW D) (C3 D F1 F2) M hX R1 mb D.mC xC;have A2:oF P w K mg base C "read_power" ["self","within"] (k+2) (fF C NT (bO (bn d)) (20-d)) []:=Md.rmt D.m3 D.cl.c λ_ _ F=>C0 (Nat.le_succ_of_le hk5) D.cl F (vW D) A1;have A3:oF P w K mg base C "read_product" ["self","within"] (k+3) (fF C NT (bv (bn d)) (20-d)) []:=Md.rmt D.m2 D.cl.c λ_ _ F=>AV (kB (dw d)) (by (clear hd;lia)) D.cl F (vW D) A2;have A4:oF P w K mg base C "read_sum" ["self","within"] (k+4) (fF C NT (eP (bv (bn d)) 43) (20-d)) []:=Md.rmt D.m1 D.cl.c λ_ _ F=>AW (iW (dw d)) (by (clear hd;lia)) D.cl F (vW D) A3;rw[qt] at A4;exact A4
theorem tG (D:wJ K mg C NT) (F1:Fx P w K mg base "is_figure" ["sign"] 1 nY) (F2:Fx P w K mg base "is_letter" ["sign"] 1 nZ) (R1:Rx P w K mg base "thing_of" ["word"] 5 (tq NT) []):∀d,d<=20->oF P w K mg base C "read_sum" ["self","within"] (4*d+9) (fF C NT (cx d) (20-d)) []
 | 0,hd=>wK D F1 F2 R1 hd (k:=5) (ycx _) (spX:=λ_ _ _ _=>False) (Md.rmt D.m1 D.cl.c λ_ _ _=>ko.none λ_ _ _ _ h=>h) λh=>absurd h (by decide)
 | d+1,hd=>wK D F1 F2 R1 hd (k:=4*d+9) (by walk_at "om") (tG D F1 F2 R1 d (by walk_at "om")) λ_=>by rw[show 21- (d+1)=20-d by walk_at "om"];rfl
end
noncomputable def AY (l:List Nat):Option (List cr):=if l.length<=2000 then cZ l else none
noncomputable def AZ (NT:Addr):bM:=λws G q e=>∃l:List Nat,ws=[.str (bL l)]/\l.length<=100000/\(∀s,AY l=some s->∀(a:Addr) (G':Gp),aL G G'->G' a=some (.lst (s.map cI))->s.length<=8000->q (.ref a) G')/\(AY l=none->∀G',aL G G'->e (.ref NT) G')
theorem scSo:bA ["text","reading"] ["text"] (ak (ax 47)):=by walk_at "s"
theorem C4 {C NT:Addr} {t1:Tok} (D:wJ K mg C NT) (F:cJ K "steps_of" "steps_of" (ax 47) f fd) (N1:Cp P w K mg base "Reading" C ["self","text"] 1 (AX C)) (M1:Mt P w K mg base C "sign" ["self"] 1 (tu C) []) (M3:oF P w K mg base C "read_sum" ["self","within"] 89 (fF C NT (cx 20) 0) []) (hm:mg "MOST_SIGNS"=some (.int 2000 t1)) (ml:mg "len"=none) (mi:mg "isinstance"=none) (ms:mg "str"=none):ko P w K mg base 90 f fd ["text"] (AZ NT):=by
 have nd:=scSo.nd;obtain⟨bC,xC⟩:=D.xC;obtain⟨hc,ct,cp,cs⟩:=D.cl;have mC:=D.mC;refine nz (k:=89) F scSo (λws G q e h=>by obtain⟨_,rfl,_⟩:=h;rfl) (λcdv A outer s0 H E ws G q e hr hsp hE=>?_);obtain⟨l,rfl,hl,hgood,hbad⟩:=hsp;apply aM
 ·refine' ac (aW ?c1 (bp (dZ mC xC (λH1 G1=>hE _ H1 G1) rfl)) af) (ac ?s2 (ac ?s3 (ac (aW ?c4 (bp (dZ mC xC (λH1 G1=>hE _ H1 G1) rfl)) af) (bp ?s5))))
  case c1=>exact(eW (eV (dg (bQ (eY (T:="str") (x:="str") (by first | simp[iI] | assumption | decide+kernel) PyProof.Rows.boot_str ms rfl mi rfl (aa 0)))) (dB (aw iG (bc cj rfl ml PySem.boot_len (ae (aa 0) ag)) (eE rfl hm)))))
  case s2=>exact(aA 1 nd rfl (.inl rfl) (x5 N1 (av.mono hr (by lia)) rfl (ae (aa 0) ag)))
  case s3=>exact bB (cX (aa 1) M3 (av.mono hr (by (clear hl;lia))) hE (by exact(ae ah ag)))
  case c4=>exact(aw (d8 hr) (e9 (aa 1) M1 (av.mono hr (by lia))) aZ)
  case s5=>exact(aq (cS (aa 1)))
 ·walk_at "a0";refine⟨by rw[aP];assumption,?_⟩;rw[aP];refine cP (λh1=>hbad (by unfold AY;rw[ycw (by walk_at "om")]) G (aL.refl _)) λh1=>?_;have h1:l.length<=2000:=by walk_at "om"
  have hT:AY l=cZ l:=ycv h1;rw[hT] at hgood hbad;walk_at "a";intro r hr0;refine⟨r,l,rfl,al,h1,λa G1 ha ra hk X=>⟨rfl,?_⟩⟩;have ga:G a=none:=by rw[aO ra.symm] at ha;exact ha
  have ne:∀{x g},G x=some g->x≠r/\x≠a:=λhx=>⟨λz=>(by rw[z,hr0] at hx;cases hx),λz=>(by rw[z,ga] at hx;cases hx)⟩;have le1:∀{G2},ib G1 G2 r a->aL G G2:=λhK x g hx=>hK x g (ne hx).1 (ne hx).2 (hk x g (ne hx).1 ((aO (ne hx).1).trans hx));walk_at "a";unfold eF;walk_at "R";refine⟨r,_,rfl,X.hr,rfl,r,a,l,0,[],rfl,X,ra,λs' rest hrd G2 hK X2=>?_,λhn G2 hK=>hbad ?_ G2 (le1 hK)⟩
  ·have hrd:cx 20 l=some (s',rest):=hrd;have hdp:l.drop (l.length-rest.length)=rest:=by
    have:=dw 21 l s' rest hrd;exact this.1.drop
   walk_at "a";refine⟨r,_,rfl,X2.hr,rfl,r,a,l,l.length-rest.length,rfl,X2.hr,X2.pl,X2.ll,?_⟩;walk_at "R";refine⟨rfl,rfl,zero_le _,?_⟩;rw[show Str.ofString ""=bL [] from rfl,eO,hdp];refine cP (λh=>?_) λh=>?_
   ·refine hbad ?_ G2 (le1 hK);unfold cZ;rw[hrd];cases rest with
    | nil=>cases h
    | cons x rest=>rfl
   ·have hz:rest=[]:=by
     cases rest with
     | nil=>rfl
     | cons x rest=>exact absurd rfl h
    subst hz;subst hU;walk_at "R";have h3:=X2.sl;simp only[nil_append,length_nil] at h3;refine⟨r,C,_,.ref a,rfl,X2.hr,⟨hc,cs⟩,rfl,aL.done (hgood s' ?_ a G2 (le1 hK) X2.ha (by (clear h1;lia)))⟩;unfold cZ;rw[hrd]
  ·have hn:cx 20 l=none:=hn;unfold cZ;rw[hn]
noncomputable def tH (kvs:List (bG×W)) (nm:List Nat->Option O):Prop:=∀l,fC kvs (.inr (bL l))=(nm l).map λb=> .tup (am b)
noncomputable def A0 (NN:Addr):bM:=λws G q e=>∃(a d:Addr) (s:List cr) (kvs:List (bG×W)) (nm:List Nat->Option O),ws=[.ref a,.ref d]/\G a=some (.lst (s.map cI))/\GD G d kvs/\tH kvs nm/\s.length<=8000/\(∀x,x∈s->ie x)/\
 (∀s',kC nm s=some s'->∀(b:Addr) (G':Gp),aL G G'->G' b=some (.lst (s'.map cI))->q (.ref b) G')/\(kC nm s=none->∀G',aL G G'->e (.ref NN) G')
theorem GD.le {G G':Gp} {kvs:List (bG×W)} (h:GD G a kvs) (l:aL G G'):GD G' a kvs:=by
 rcases h with h | ⟨o,us,h⟩
 ·exact .inl (l _ _ h)
 ·exact .inr ⟨o,us,l _ _ h⟩
theorem kX {l:List Nat} (h:d0 l=true):∀x,l=[x]->x≠43/\x≠42/\x≠94:=λx e=>by
 subst e;unfold d0 at h;simp only[Bool.and_eq_true,all_cons] at h;have:97<=x/\x<=122:=of_decide_eq_true h.2.1
 (clear h;lia)
noncomputable def joinG:List Str:=["+","*","^"]
theorem mL (l:List Nat):(joinG.any λt=>t==bL l)=decide (l=[43]∨l=[42]∨l=[94]):=by
 have e:joinG=[bL [43],bL [42],bL [94]]:=rfl;rw[e,Bool.eq_iff_iff];simp only[any_cons,List.any_nil,Bool.or_eq_true,beq_iff_eq,pk,decide_eq_true_eq,Bool.false_eq_true,or_false];constructor
 ·rintro(h | h | h)
  ·exact .inl h.symm
  ·exact .inr (.inl h.symm)
  ·exact .inr (.inr h.symm)
 ·rintro(h | h | h)
  ·exact .inl h.symm
  ·exact .inr (.inl h.symm)
  ·exact .inr (.inr h.symm)
theorem scLu:bA ["steps","names","found","step"] ["steps","names"] (ak (ax 48)):=by walk_at "s"
theorem C5 {NN aj:Addr} {bN:yez} (F:cJ K "looked_up" "looked_up" (ax 48) f fd) (mj:mg "JOINING"=some (.ref aj)) (hj:CB K aj joinG) (mC:mg "NoName"=some (.ref NN)) (xC:XC K NN bN) (mi:mg "isinstance"=none) (mt:mg "tuple"=none):ko P w K mg base 2 f fd ["steps","names"] (A0 NN):=by
 have nd:=scLu.nd;refine nz (k:=1) F scLu (λws G q e h=>by obtain⟨_,_,_,_,_,rfl,_⟩:=h;rfl) (λcdv A outer s0 H E ws G q e hr hsp hE=>?_);obtain⟨a,d,s,kvs,nm,rfl,ha,hd,hnm,hsl,hok,hgood,hbad⟩:=hsp;apply aM
 ·refine' ac ?s1 (ac (eA PassesOwn.leaving rfl ?it ?tg (bp (aW (eW (eV ?c1 (dB (aw (Ay hj) ?x1 (uK ?g1 mj) rfl)))) ?b1 (bp (aW ?c2 ?b2 (bp (dZ mC xC (λH1 G1=>hE _ H1 G1) rfl))))))) (bp ?s3))
  case s1=>exact(aA 2 nd rfl (.inl rfl) (dC ag))
  case it=>exact(bK (aa 0))
  case tg=>exact(ck 3 nd rfl (.inl rfl))
  case c1=>exact(bQ (eY (T:="tuple") (x:="tuple") (by first | simp[iI] | assumption | decide+kernel) eC mt rfl mi rfl (aa 3)))
  case x1=>exact(aa 3)
  case g1=>rfl
  case b1=>exact(ac (bB (dh (aa 2) (aa 3))) af)
  case c2=>exact(aw (An hr) (aa 3) (aa 1) rfl)
  case b2=>exact(ac (bB (dh (aa 2) (aG aH (aa 1) (aa 3)))) af)
  case s3=>exact(aq (aa 2))
 ·walk_at "a0";intro p hp;have ap:a≠p:=λz=>by rw[z,hp] at ha;cases ha
  walk_at "a";refine⟨_,(aO ap).trans ha,?_⟩;refine ca (λws τ G'=>∃(s1 acc:List cr) (t3:Option W),ws=s1.map cI/\τ=[some (.ref a),some (.ref d),some (.ref p),t3]/\aL G G'/\G' p=some (.lst (acc.map cI))/\acc.length+s1.length<=8000/\(∀x,x∈s1->ie x)/\kC nm s=(kC nm s1).map (acc++ ·)) ?_ ?_ _ _ _ ⟨s,[],_,rfl,rfl,aL.new hp,al,by simpa using hsl,hok,by cases kC nm s<;> rfl⟩
  ·rintro τ G' ⟨s1,acc,t3,hw,rfl,hle,hG,hl,_,hlk⟩;cases s1 with
   | cons x s1=>cases hw
   | nil=>
     refine⟨hle _ _ ha,?_⟩;subst hU;walk_at "R";refine aL.done (hgood acc ?_ p G' hle hG);rw[hlk];show some (acc++[])=_;rw[append_nil]
  ·rintro w1 ws τ G' kk ⟨s1,acc,t3,hw,rfl,hle,hG,hl,hok1,hlk⟩ hk;cases s1 with
   | nil=>cases hw
   | cons x s1=>
     cases hw;refine⟨hle _ _ ha,?_⟩;rw[length_cons] at hl;have hx:=hok1 x yby;have next:∀(y:cr) (v:W),v=cI y->kC nm s=(kC nm s1).map ((acc++[y])++ ·)->(∃xs,G' p=some (GO.lst xs))/\∃ys,G' p=some (.lst ys)/\ys.length<=99999/\kk [some (.ref a),some (.ref d),some (.ref p),some (cI x)] (aV G' p (.lst (ys++[v]))):=λy v hv hl2=>by
      subst hv;refine⟨⟨_,hG⟩,_,hG,by rw[length_map];(clear hsl;lia),hk _ _ ⟨s1,acc++[y],_,rfl,rfl,aL.put hle hp,?_,?_,λz hz=>hok1 z (ybx _ hz),hl2⟩⟩
      ·rw[al,map_append]
       rfl
      ·rw[length_append,length_singleton]
       (clear hsl;lia)
     have lk1:∀{y:cr},kC nm (x::s1)=(kC nm s1).map (y:: ·)->kC nm s=(kC nm s1).map ((acc++[y])++ ·):=λh=>by
      rw[hlk,h,Option.map_map]
      congr 1
      funext z
      simp
     cases x with
     | num b=>
       unfold cI;walk_at "R";exact next (.num b) _ rfl (lk1 rfl)
     | op y=>
       unfold cI;walk_at "R";simp only[pV];rw[ycw (by decide)];refine⟨_,rfl,rfl,?_⟩;dsimp only;rw[mL,ycv (ydz (by rcases hx with h | h | h<;> rw[h]<;> simp))];exact next (.op y) _ rfl (lk1 rfl)
     | nam l=>
       unfold cI;walk_at "R";simp only[pV];rw[ycw (by decide)];refine⟨_,rfl,rfl,?_⟩;dsimp only;rw[mL,ycw (λh=>by
        rcases of_decide_eq_true h with h | h | h
        ·exact(kX hx _ h).1 rfl
        ·exact(kX hx _ h).2.1 rfl
        ·exact(kX hx _ h).2.2 rfl)]
       refine⟨_,.dic (GD.le hd hle),?_⟩;rw[hnm];have lk2:kC nm (.nam l::s1)=match nm l with | some b=>(kC nm s1).map (.num b:: ·) | none=>none:=rfl
       cases eN:nm l with
       | none=>
         rw[eN] at lk2;rw[lk2] at hlk;rw[ycw (by simp)];exact hbad hlk G' hle
       | some b=>
         rw[eN] at lk2;rw[ycv (show(Option.map (λb=>W.tup (am b)) (some b)).isSome=true from rfl)];obtain⟨h1,h2⟩:=next (.num b) (.tup (am b)) rfl (lk1 lk2);exact⟨h1,kvs,.tup (am b),GD.le hd hle,by rw[hnm,eN];rfl,h2⟩
noncomputable def ji:O->List O
 | .z=>[]
 | .c e _ r=>e::ji r
noncomputable def pq (os:List O):Nat:=(os.map O.size).sum
theorem jW:∀a:O,mapP (λ_ _=>true) (λe _=> .tup (am e)) a=bX (ji a)
 | .z=>rfl
 | .c e n r=>by rw[mapP,ycv rfl,jW r];rfl
theorem mM:∀a:O,(ji a).length=a.len
 | .z=>rfl
 | .c e n r=>by simp only[ji,length_cons,mM r,O.len]
theorem pv:∀a:O,pq (ji a)+a.len=a.size
 | .z=>rfl
 | .c e n r=>by
   have:=pv r;simp only[ji,pq,map_cons,List.sum_cons,O.len,O.size] at this ⊢;lia
theorem pw:∀(a:O) (x:O),x∈ji a->x.dp<=a.dp
 | .z,x,h=>by cases h
 | .c e n r,x,h=>by
   simp only[O.dp];rcases mem_cons.mp h with rfl | h
   ·lia
   ·have:=pw r x h;lia
theorem iw (a b:List O):pq (a++b)=pq a+pq b:=by simp[pq]
noncomputable def DB (G:Gp) (a:O) (p:Addr) (j:Nat) (τ:de) (G':Gp):Prop:=∃(os:List O) (m:Nat) (t3:Option W),j=pq os+os.length/\τ=[some (.tup (am a)),some (.int (m:Int)),some (.ref p),t3]/\aL G G'/\G' p=some (.lst (bX os))/\m+pq os=a.size/\os.length<=m+1/\∀x,x∈os->x.dp<=60
noncomputable def A5:bM:=λws G q _=>∃a:O,ws=[.tup (am a)]/\a.dp<=60/\a.size<=50000/\∀G',aL G G'->q (.bl (decide (400<a.size))) G'
theorem C6 {t1:Tok} (F:cJ K "has_many_parts" "has_many_parts" (ax 53) f fd) (hm:mg "MOST_PARTS_readings"=some (.int 400 t1)) (ml:mg "len"=none):cq P w K mg base 1 f fd ["a"] A5:=by
 refine fE F (N:=["a","many","left","number"]) (by walk_at "s") (by walk_at "l") λ_ _ _ _ _ _ nd hr=>?_;apply aM
 ·exact(ac (aA 1 nd rfl (.inl rfl) ah) (ac (aA 2 nd rfl (.inl rfl) (dC (ae (aa 0) ag))) (ac (eX PySem.PassesOwn.never (eW (gF (aw (d8 hr) (aa 2) (dC ag)) (fo (aw zD (aa 1) (eE rfl hm))))) (ac (aA 3 nd rfl (.inl rfl) (nD (aa 2))) (ac (aA 1 nd rfl (.inl rfl) (aE aX (aa 1) (bc cj rfl ml PySem.boot_len (ae (aa 3) ag)))) (ac (bB (x3 (aa 2) (eB (dE (by first | rfl | decide+kernel)) rfl (bK (aa 3)) (λ_ _ _ _=>(bY 1 (by first | assumption | decide+kernel | rfl) rfl (.inl rfl))) (λ_ _ _ _=>ft) (λ_ _ _ _=>(aG aH (aa 1) ah))))) af)))) (ac (aq (dA iG (aa 1) (eE rfl hm))) af))))
 ·rintro ws G q e ⟨a,rfl,hd,hs,hq⟩;walk_at "a0";walk_at "a";intro p hp;subst hU;refine aN λU hU=>?_;refine kH (DB G a p) ⟨_,[a],0,none,rfl,rfl,aL.new hp,al,by simp[pq],by simp,λx hx=>by rw[mem_singleton.mp hx];exact hd⟩ ?_;rintro j τ G' ⟨os,m,t3,rfl,rfl,hle,hG,hsz,hlen,hdp⟩ B hB;have fin:(os=[]∨400<m)->∀G2,aL G G2->U { nx:=λx G1=>∃G0,aL G0 G1/\q W.non G0,rt:=λw G1=>∃G0,aL G0 G1/\q w G0 } [some (W.tup (am a)),some (W.int ↑m),some (W.ref p),t3] G2:=λh G2 le2=>by
   subst hU;walk_at "R";have e1:decide ((400:Int)<(m:Int))=decide (400<a.size):=by
    apply decide_eq_decide.mpr;rcases h with h | h
    ·subst h;simp[pq] at hsz
     (clear hd hlen;lia)
    ·(clear hd hlen;lia)
   rw[e1];exact aL.done (hq G2 le2)
  walk_at "R";intro p1 hp1;refine⟨_,.nil (bF hG hp1) al,?_⟩;rcases List.eq_nil_or_concat os with e | ⟨os,o,e⟩
  ·subst e;rw[ycw (by decide)];exact fin (.inl rfl) _ (hle.trans (aL.new hp1))
  ·subst e;rw[List.concat_eq_append] at*;rw[ycv (by simp[bX])];refine cP (λh4=>?_) λh4=>fin (.inr (by (clear hd hs hsz hlen;lia))) _ (hle.trans (aL.new hp1));have hG1:=bF (g:=GO.lst []) hG hp1;have le1:=hle.trans (aL.new (g:=GO.lst []) hp1);generalize aV G' p1 (GO.lst [])=G1 at hG1 le1 ⊢;rw[iw] at hsz;rw[length_append,length_singleton] at hlen;have hso:pq [o]=o.size:=by simp[pq]
   have ho:=pv o;have hl:=mM o;have hdo:=hdp o (by simp);refine⟨λτ1 G1=>∃m1,m1<pq (os++[o])+(os++[o]).length/\DB G a p m1 τ1 G1,λ_ _ h=>h,?_⟩;subst hB;walk_at "a0";refine⟨bX os,.tup (am o),by rw[d6];exact hG1,?_⟩;walk_at "a";have hP:G p=none:=hp;have le2:aL G (aV G1 p (GO.lst (bX os))):=aL.put le1 hp;have hG2:aV G1 p (GO.lst (bX os)) p=some (.lst (bX os)):=al;have hlo:(am o).length=o.len:=aB o;rw[hlo];generalize aV G1 p (GO.lst (bX os))=G2 at le2 hG2 ⊢;subst hU;walk_at "R";refine⟨⟨_,hG2⟩,?_⟩;show ci _ _ _ _ _ [none,none] G2 [] _;refine cy (λ_ _=>true) (λe _=> .tup (am e)) trivial (dN o) (λy m hy k hk=>?_) (λy m _ _ k hk=>?_) (by rw[length_nil];(clear hd h4 hdo;lia)) (λ_=>rfl) λp2 hp2=>?_
   ·walk_at "R";exact hk
   ·unfold dm eT;walk_at "R";exact hk
   ·rw[nil_append,jW];refine⟨_,_,bF hG2 hp2,al,?_,?_⟩
    ·simp only[bX,length_map]
     (clear hd h4 hdo;lia)
    ·refine⟨pq (os++ji o)+(os++ji o).length,?_,os++ji o,m+o.len,some (.tup (am o)),rfl,?_,aL.put (le2.trans (aL.new hp2)) hp,?_,?_,?_,?_⟩
     ·rw[iw,iw,length_append,length_append,length_singleton]
      (clear hd hs hsz hlen h4 hdo hlo;lia)
     ·rw[Int.natCast_add]
     ·rw[al];simp[bX]
     ·rw[iw]
      (clear hd hs hlen h4 hl hdo hlo;lia)
     ·rw[length_append]
      (clear hd hs hsz h4 hso ho hdo hlo;lia)
     ·intro x hx;rcases mem_append.mp hx with h | h
      ·exact hdp x (mem_append_left _ h)
      ·exact ycy (pw o x h) hdo
noncomputable def vX (d:Nat):bM:=λws G q _=>∃a:O,ws=[.tup (am a)]/\a.dp<d/\q (.int (O.mx a)) G
theorem C7 {d k:Nat} (F:cJ K "greatest" "greatest" (ax 15) f fd) (F1:Fx P w K mg base "greatest" ["a"] k (vX d)) (mx:mg "max"=none):cq P w K mg base (k+1) f fd ["a"] (vX (d+1)):=by
 refine fE F (N:=["a","found","exponent","times"]) (by walk_at "s") (by walk_at "l") λ_ _ _ _ _ _ nd hr=>?_;apply aM
 ·exact(ac (aA 1 nd rfl (.inl rfl) ah) (ac (eA PySem.PassesOwn.never rfl (bK (aa 0)) (kj rfl (cW (ck 2 nd rfl (.inl rfl)) (cW (ck 3 nd rfl (.inl rfl)) ik))) (ac (aA 1 nd rfl (.inl rfl) (bc (rW rfl) rfl mx wv (ae (aa 1) (ae (aa 3) (ae (ay F1 (av.mono hr (by lia)) rfl (ae (aa 2) ag)) ag))))) af)) (ac (aq (aa 1)) af)))
 ·rintro ws G q e ⟨a,rfl,hx,hq⟩;have h0:=O.mx_nonneg a;walk_at "a0";walk_at "a";refine ca (λws τ G'=>G'=G/\∃(r:O) (m:Int) (t2 t3:Option W),ws=am r/\τ=[some (.tup (am a)),some (.int m),t2,t3]/\max m (O.mx r)=O.mx a/\0<=m/\r.dp<d+1) ?_ ?_ _ _ _ ⟨rfl,a,0,none,none,rfl,rfl,by (clear hx;lia),by (clear hx h0;lia),hx⟩
  ·rintro τ G' ⟨rfl,r,m,t2,t3,hw,rfl,hm,hm0,_⟩;refine⟨trivial,?_⟩;cases r with
   | z=>
     subst hU;walk_at "R";simp only[O.mx] at hm;rw[show m=O.mx a by (clear hx;lia)];exact aL.done hq
   | c y n r=>cases hw
  ·rintro w1 ws τ G' kk ⟨rfl,r,m,t2,t3,hw,rfl,hm,hm0,hd⟩ hk;cases r with
   | z=>cases hw
   | c y n r=>
     rw[bu] at hw;cases hw;refine⟨trivial,?_⟩;simp only[O.dp] at hd;rw[O.mx_c] at hm;unfold dm eT;walk_at "R";refine⟨y,rfl,by (clear hx h0 hm0 hm;lia),?_⟩;walk_at "R";refine hk _ _ ⟨rfl,r,_,_,_,rfl,rfl,?_,?_,by (clear hx h0 hm0 hm;lia)⟩
     ·have:=O.mx_nonneg y;split<;> split<;> (clear hx h0 hm0 hd this;lia)
     ·split<;> split<;> lia
theorem A6 (T:Txt K mg):∀d:Nat,Fx P w K mg base "greatest" ["a"] d (vX d)
 | 0=>T.d_greatest.fx λf fd F=>cq.none λws G q e ⟨a,_,h,_⟩=>by walk_at "om"
 | d+1=>T.d_greatest.fx λf fd F=>C7 F (A6 T d) T.z_max
noncomputable def vY (d:Nat):bM:=λws G q _=>∃a:O,ws=[.tup (am a)]/\a.dp<d/\q (.int (a.dp:Int)) G
theorem C8 {d k:Nat} (F:cJ K "deep" "deep" (ax 16) f fd) (F1:Fx P w K mg base "deep" ["a"] k (vY d)) (mx:mg "max"=none):cq P w K mg base (k+1) f fd ["a"] (vY (d+1)):=by
 refine fE F (N:=["a","found","part"]) (by walk_at "s") (by walk_at "l") λ_ _ _ _ _ _ nd hr=>?_;apply aM
 ·exact(ac (aA 1 nd rfl (.inl rfl) ah) (ac (eA PySem.PassesOwn.never rfl (bK (aa 0)) (ck 2 nd rfl (.inl rfl)) (ac (aA 1 nd rfl (.inl rfl) (bc (rW rfl) rfl mx wv (ae (aa 1) (ae (aE aX (ay F1 (av.mono hr (by lia)) rfl (ae (aG aH (aa 2) ah) ag)) ah) ag)))) af)) (ac (aq (aa 1)) af)))
 ·rintro ws G q e ⟨a,rfl,hx,hq⟩;walk_at "a0";walk_at "a";refine ca (λws τ G'=>G'=G/\∃(r:O) (m:Int) (t2:Option W),ws=am r/\τ=[some (.tup (am a)),some (.int m),t2]/\max m (r.dp:Int)=a.dp/\0<=m/\r.dp<d+1) ?_ ?_ _ _ _ ⟨rfl,a,0,none,rfl,rfl,by (clear hx;lia),by (clear hx;lia),hx⟩
  ·rintro τ G' ⟨rfl,r,m,t2,hw,rfl,hm,hm0,_⟩;refine⟨trivial,?_⟩;cases r with
   | z=>
     subst hU;walk_at "R";simp only[O.dp] at hm;rw[show m=(a.dp:Int) by (clear hx;lia)];exact aL.done hq
   | c y n r=>cases hw
  ·rintro w1 ws τ G' kk ⟨rfl,r,m,t2,hw,rfl,hm,hm0,hd⟩ hk;cases r with
   | z=>cases hw
   | c y n r=>
     rw[bu] at hw;cases hw;refine⟨trivial,?_⟩;simp only[O.dp] at hd hm;unfold dm eT;walk_at "R";refine⟨y,rfl,by (clear hx hm0 hm;lia),?_⟩;walk_at "R";exact hk _ _ ⟨rfl,r,_,_,rfl,rfl,by split<;> (clear hx hm0 hd;lia),by split<;> lia,by (clear hx hm0 hm;lia)⟩
theorem A7 (T:Txt K mg):∀d:Nat,Fx P w K mg base "deep" ["a"] d (vY d)
 | 0=>T.d_deep.fx λf fd F=>cq.none λws G q e ⟨a,_,h,_⟩=>by walk_at "om"
 | d+1=>T.d_deep.fx λf fd F=>C8 F (A7 T d) T.z_max
noncomputable def n0 (a:O):Prop:=400<a.size∨10^300<=O.mx a∨40<a.dp
noncomputable instance (a:O):Decidable (n0 a):=by unfold n0;infer_instance
noncomputable def A8:bM:=λws G q _=>∃a:O,ws=[.tup (am a)]/\a.dp<=60/\a.size<=50000/\∀G',aL G G'->q (.bl (decide (n0 a))) G'
theorem C9 {t1:Tok} (F:cJ K "is_too_great" "is_too_great" (ax 51) f fd) (F1:Fx P w K mg base "has_many_parts" ["a"] 1 A5) (F2:Fx P w K mg base "greatest" ["a"] 61 (vX 61)) (F3:Fx P w K mg base "deep" ["a"] 61 (vY 61)) (hm:mg "MOST_DEEP"=some (.int 40 t1)):cq P w K mg base 62 f fd ["a"] A8:=by
 refine fE F (N:=["a"]) (by walk_at "s") (by walk_at "l") λ_ _ _ _ _ _ nd hr=>?_;apply aM
 ·exact(ac (aq (rh (ay F1 (av.mono hr (by lia)) rfl (ae (aa 0) ag)) (rh (dA zE (ay F2 (av.mono hr (by lia)) rfl (ae (aa 0) ag)) (aE iO (aE iO ah ah) ah)) (kh (dA iG (ay F3 (av.mono hr (by lia)) rfl (ae (aa 0) ag)) (eE rfl hm)))))) af)
 ·rintro ws G q e ⟨a,rfl,hd,hs,hq⟩;walk_at "R";refine⟨a,rfl,hd,hs,λG1 le1=>?_⟩;walk_at "R";have e5:((10:Int)^60)^5=10^300:=by decide+kernel
  simp only[Int.reducePow] at e5;refine cP (λh1=>?_) λh1=>?_
  ·rw[show true=decide (n0 a) from (ydz (.inl h1)).symm];exact aL.done (hq G1 le1)
  refine⟨a,rfl,by (clear hs e5 h1;lia),?_⟩;walk_at "R";refine⟨.inr ⟨by decide,by decide,by decide+kernel⟩,?_⟩;rw[e5];refine @cP _ _ _ _ (λh2=>?_) λh2=>?_
  ·rw[show true=decide (n0 a) from (ydz (.inr (.inl h2))).symm];exact aL.done (hq G1 le1)
  refine⟨a,rfl,by (clear hs e5 h1 h2;lia),?_⟩;walk_at "R";have e1:decide ((40:Int)<(a.dp:Int))=decide (n0 a):=by
   apply decide_eq_decide.mpr;constructor
   ·intro h;exact .inr (.inr (by (clear hs e5 h1 h2;lia)))
   ·intro h;rcases h with h | h | h
    ·exact absurd h h1
    ·exact absurd h h2
    ·(clear hs e5 h1 h2;lia)
  rw[e1];exact aL.done (hq G1 le1)
noncomputable def A9:bM:=λws G q _=>∃(x:Nat) (a b:O),ws=[.tup (am a),.str (bL [x]),.tup (am b)]/\a.NF/\b.NF/\fB a/\fB b/\(x=43∨x=42∨x=94)/\(x=94->a=om)/\fB (bt x a b)/\∀G',aL G G'->q (.tup (am (bt x a b))) G'
theorem Da (F:cJ K "joined" "joined" (ax 50) f fd) (F1:Fx P w K mg base "plus" ["a","b"] 3 yw) (F2:Fx P w K mg base "times" ["a","b"] 4 yx) (F3:Fx P w K mg base "power" ["a","b"] 6 AJ) (F4:Fx P w K mg base "is_too_great_readings" ["a"] 62 A8):cq P w K mg base 63 f fd ["first","sign","second"] A9:=by
 refine fE F (N:=["first","sign","second","found"]) (by walk_at "s") (by walk_at "l") λ_ _ _ _ _ _ nd hr=>?_;apply aM
 ·exact(ac (aW (aw (bx hr) (aa 1) aZ) (ac (aA 3 nd rfl (.inl rfl) (ay F1 (av.mono hr (by lia)) rfl (ae (aa 0) (ae (aa 2) ag)))) af) (ac (aW (aw (bx hr) (aa 1) aZ) (ac (aA 3 nd rfl (.inl rfl) (ay F2 (av.mono hr (by lia)) rfl (ae (aa 0) (ae (aa 2) ag)))) af) (ac (aA 3 nd rfl (.inl rfl) (ay F3 (av.mono hr (by lia)) rfl (ae (aa 0) (ae (aa 2) ag)))) af)) af)) (ac (aW (bQ (ay F4 (av.mono hr (by lia)) rfl (ae (aa 3) ag))) (ac lI af) af) (ac (aq (aa 3)) af)))
 ·rintro ws G q e ⟨x,a,b,rfl,na,nb,fa,fb,hx,hp,hf,hq⟩;have ha:=O.len_le_size a;have hb:=O.len_le_size b;have wa:=O.hw_le_size a;have wb:=O.hw_le_size b;obtain⟨a1,a2,a3⟩:=fa;obtain⟨b1,b2,b3⟩:=fb;have hc:=sR;have h12:(10:Int)^100<=10^200:=by decide
  have a4:O.mx a<=ql:=ydv (Int.le_of_lt a2) (ydv h12 hc);have b4:O.mx b<=ql:=ydv (Int.le_of_lt b2) (ydv h12 hc);refine aN λU hU=>?_;have go:U { nx:=λx G1=>∃G0,aL G0 G1/\q W.non G0,rt:=λw G1=>∃G0,aL G0 G1/\q w G0 } [some (.tup (am a)),some (.str (bL [x])),some (.tup (am b)),some (.tup (am (bt x a b)))] G:=by
   have f1:=hf.1;have f3:=hf.2.2;have nt:¬n0 (bt x a b):=λh=>by
    rcases h with h | h | h
    ·(clear hx ha hb wa wb a1 a2 a3 b1 b2 b3 hc h12 a4 b4 f3;lia)
    ·have h1:(10:Int)^100<=10^300:=by decide+kernel
     exact absurd (Int.lt_of_le_of_lt (ydv h1 h) hf.2.1) (Int.lt_irrefl _)
    ·(clear hx ha hb wa wb a1 a2 a3 b1 b2 b3 hc h12 a4 b4 f1;lia)
   walk_at "a";refine⟨_,rfl,by walk_at "om",by walk_at "om",λG' hG=>?_⟩;walk_at "R";rw[ycw nt];subst hU;walk_at "R";exact aL.done (hq G' hG)
  walk_at "R";refine⟨rfl,rfl,zero_le _,?_⟩;rw[show Str.ofString "+"=bL [43] from rfl,eO];refine cP (λh=>?_) λh=>?_
  ·have h:=(of_decide_eq_true h:[x]=[43]);cases h;refine⟨a,b,rfl,na,by walk_at "om",by walk_at "om",by (clear hb wa wb a2 a3 b1 b2 b3 hc h12 a4 b4 hx;lia),by (clear ha wa wb a1 a2 a3 b2 b3 hc h12 a4 b4 hx;lia),?_⟩;exact go
  refine⟨rfl,rfl,zero_le _,?_⟩;rw[show Str.ofString "*"=bL [42] from rfl,eO];refine cP (λh=>?_) λh2=>?_
  ·have h:=(of_decide_eq_true h:[x]=[42]);cases h;refine⟨a,b,rfl,na,nb,by walk_at "om",by walk_at "om",by (clear ha hb wb a2 a3 b1 b2 b3 hc h12 a4 b4 hx;lia),by (clear ha hb wa a1 a2 a3 b2 b3 hc h12 a4 b4 hx;lia),a4,b4,?_⟩;exact go
  ·have h3:x=94:=by
    rcases hx with z | z | z
    ·rw[z] at h;exact absurd rfl h
    ·rw[z] at h2;exact absurd rfl h2
    ·exact z
   subst h3;have hom:=hp rfl;subst hom;refine⟨om,b,rfl,na,nb,by assumption,by assumption,by decide,by (clear hb b2 b3 hc h12 b4 hx ha wa a1 a2 a3 a4;lia),by decide,Int.le_of_lt b2,⟨O.wh 1,1,rfl,λz=>by cases z⟩,?_⟩;exact go
noncomputable def yB:bM:=λws G q _=>∃(a:Addr) (s:List cr) (r:O),ws=[.ref a]/\G a=some (.lst (s.map cI))/\s.length<=8000/\(∀x,x∈s->ie x)/\cu s []=some [r]/\∀G',aL G G'->q (.tup (am r)) G'
theorem tI {x:Nat} {a b:O} (ha:a.NF) (hb:b.NF):(bt x a b).NF:=by
 unfold bt;split
 ·exact O.NF.plus ha hb
 ·split
  ·exact O.NF.times ha hb
  ·exact O.NF.pow ha hb
theorem Db (F:cJ K "reckoned" "reckoned" (ax 49) f fd) (F1:Fx P w K mg base "joined" ["first","sign","second"] 63 A9) (mi:mg "isinstance"=none) (mt:mg "tuple"=none):cq P w K mg base 64 f fd ["steps"] yB:=by
 refine fE F (N:=["steps","left","step","second","first"]) (by walk_at "s") (by walk_at "l") λ_ _ _ _ _ _ nd hr=>?_;apply aM
 ·exact(ac (aA 1 nd rfl (.inl rfl) (dC ag)) (ac (eA PySem.PassesOwn.never rfl (bK (aa 0)) (ck 2 nd rfl (.inl rfl)) (ac (aW (bQ (eY (T:="tuple") (x:="tuple") (by first | simp[iI] | assumption | decide+kernel) eC mt rfl mi rfl (aa 2))) (ac (bB (dh (aa 1) (aa 2))) af) (ac (aA 3 nd rfl (.inl rfl) (nD (aa 1))) (ac (aA 4 nd rfl (.inl rfl) (nD (aa 1))) (ac (bB (dh (aa 1) (ay F1 (av.mono hr (by lia)) rfl (ae (aa 4) (ae (aa 2) (ae (aa 3) ag)))))) af)))) af)) (ac (aq (aG aH (aa 1) ah)) af)))
 ·rintro ws G q e ⟨a,s,r,rfl,ha,hs,hok,hrun,hq⟩;walk_at "a0";intro p hp;have ap:a≠p:=λz=>by rw[z,hp] at ha;cases ha
  walk_at "a";refine⟨_,(aO ap).trans ha,?_⟩;refine ca (λws τ G'=>∃(s1:List cr) (st:List O) (t2 t3 t4:Option W),ws=s1.map cI/\τ=[some (.ref a),some (.ref p),t2,t3,t4]/\aL G G'/\G' p=some (.lst (bX st.reverse))/\st.length+s1.length<=8000/\(∀x,x∈s1->ie x)/\(∀o,o∈st->o.NF/\fB o)/\cu s1 st=some [r]) ?_ ?_ _ _ _ ⟨s,[],_,_,_,rfl,rfl,aL.new hp,al,by simpa using hs,hok,(λo h=>by cases h),hrun⟩
  ·rintro τ G' ⟨s1,st,t2,t3,t4,hw,rfl,hle,hG,hl,_,_,hr1⟩;cases s1 with
   | cons x s1=>cases hw
   | nil=>
     refine⟨hle _ _ ha,?_⟩;have hst:st=[r]:=Option.some.inj hr1;subst hst;subst hU;walk_at "R";exact⟨_,_,hG,cL (j:=0) rfl,aL.done (hq G' hle)⟩
  ·rintro w1 ws τ G' kk ⟨s1,st,t2,t3,t4,hw,rfl,hle,hG,hl,hok1,hst,hr1⟩ hk;cases s1 with
   | nil=>cases hw
   | cons x s1=>
     cases hw;refine⟨hle _ _ ha,?_⟩;rw[length_cons] at hl;have hx:=hok1 x yby;have hok2:∀z,z∈s1->ie z:=λz hz=>hok1 z (ybx _ hz);cases x with
     | nam l=>cases hr1
     | num b=>
       unfold cI;walk_at "R";refine⟨⟨_,hG⟩,_,hG,by simp only[bX,length_map,List.length_reverse];(clear hs;lia),hk _ _ ⟨s1,b::st,_,_,_,rfl,rfl,aL.put hle hp,?_,?_,hok2,λo ho=>?_,hr1⟩⟩
       ·rw[al,reverse_cons,d6]
       ·rw[length_cons]
        (clear hs;lia)
       ·rcases mem_cons.mp ho with rfl | ho
        ·exact hx
        ·exact hst o ho
     | op y=>
       match st,hst,hl,hG,hr1 with
       | [],_,_,_,hr1=>cases hr1
       | [_],_,_,_,hr1=>cases hr1
       | b::a'::st,hst,hl,hG,hr1=>
         unfold cI;walk_at "R";simp only[pV];rw[ycw (by decide)];have hr2:(if fB (bt y a' b)/\(y=94->a'=om) then cu s1 (bt y a' b::st) else none)=some [r]:=hr1
         by_cases hc:fB (bt y a' b)/\(y=94->a'=om)
         ·rw[ycv hc] at hr2;have gb:=hst b yby;have ga:=hst a' (ybx _ yby);refine⟨bX (a'::st).reverse,.tup (am b),by rw[hG,reverse_cons,d6],bX st.reverse,.tup (am a'),by rw[al,reverse_cons,d6],?_⟩;rw[fX];refine⟨⟨_,al⟩,y,a',b,rfl,ga.1,gb.1,ga.2,gb.2,hx,hc.2,hc.1,λG3 hG3=>?_⟩;have g3:=hG3 _ _ al;refine⟨_,g3,by simp only[bX,length_map,List.length_reverse];simp only[length_cons] at hl;(clear hs hc;lia),hk _ _ ⟨s1,bt y a' b::st,_,_,_,rfl,rfl,aL.put ((aL.put hle hp).trans hG3) hp,?_,?_,hok2,λo ho=>?_,hr2⟩⟩
          ·rw[al,reverse_cons,d6]
          ·simp only[length_cons] at hl ⊢
           (clear hs hc;lia)
          ·rcases mem_cons.mp ho with rfl | ho
           ·exact⟨tI ga.1 gb.1,hc.1⟩
           ·exact hst o (ybx _ (ybx _ ho))
         ·rw[ycw hc] at hr2;cases hr2
theorem Dc {α:Type} (l:List α) (i j:Nat) (a b x y:α):(((l.set i a).set j b).set i x).set j y=(l.set i x).set j y:=by
 by_cases e:i=j
 ·subst e;rw[set_set,set_set,set_set,set_set]
 ·rw[List.set_comm _ _ (λz=>e z),set_set,List.set_comm _ _ (λz=>e z),set_set]
  first | rfl | rw[List.set_comm _ _ (λz=>e z)]
theorem jX {C:Gp->Prop} {te:WE} {i j:Nat} {τ0:de} {G:Gp} {q:List W->Gp->Prop} {Pd:O->Int->Prop} (f:O->Int->W) (hC:C G):∀{a:O} {acc:List W} {τ:de},jg Pd a->
 (∀e n,Pd e n->∀k:W->Gp->Prop,k (f e n) G->te ((τ0.set i (some (.tup (am e)))).set j (some (.int n))) G k)->acc.length+a.len<=100000->(∀x y,(τ.set i x).set j y=(τ0.set i x).set j y)->
 q (acc++mapP (λ_ _=>true) f a) G->ci C (rn 2 (ju (eR i) (ju (eR j) rm))) ox te (am a) τ G acc q
 | .z,acc,τ,_,_,_,_,hq=>⟨hC,by simpa[mapP] using hq⟩
 | .c e n r,acc,τ,hP,he,hl,hτ,hq=>by
   rw[bu];refine⟨hC,?_⟩;refine⟨rfl,?_⟩;show te ((τ.set i (some (.tup (am e)))).set j (some (.int n))) G _;rw[hτ];refine he e n hP.1 _ ?_;simp only[O.len] at hl;refine⟨by walk_at "om",jX f hC hP.2 he (by rw[length_append];simp only[length_cons,length_nil];lia) (λx y=>?_) (by simpa[mapP] using hq)⟩;rw[Dc];exact hτ x y
theorem yC (l:List Nat):Str.empty++bL l=bL l:=(ph [] l).trans rfl
theorem dv (l m:List Nat):bL l++bL m=bL (l++m):=ph l m
noncomputable def qw (a:O):Prop:=a.NF/\a.size<=300/\O.mx a<10^300
theorem qw.pt {e r:O} {n:Int} (h:qw (.c e n r)):qw e/\qw r/\1<=n/\n<10^300:=by
 obtain⟨h1,h2,h3⟩:=h;have hs:O.size (.c e n r)=1+O.size e+O.size r:=rfl;exact⟨⟨h1.1,by (clear h3;lia),Int.lt_of_le_of_lt O.mx_he h3⟩,⟨h1.2.2.2,by (clear h3;lia),Int.lt_of_le_of_lt O.mx_hr h3⟩,h1.2.1,Int.lt_of_le_of_lt O.mx_hn h3⟩
theorem qw.len {a:O} (h:qw a):(bH aF a).length<=96001:=by
 have:=kS a h.1 h.2.2;have:=h.2.1;lia
noncomputable def mO (d:Nat):bM:=λws G q _=>∃a:O,ws=[.tup (am a)]/\qw a/\a.dp<d/\d<=60/\q (.str (bL (bH aF a))) G
noncomputable def Ba (d:Nat):bM:=λws G q _=>∃(e:O) (n:Int),ws=[.tup (am e),.int n]/\qw e/\e.dp<d/\d<=60/\1<=n/\n<10^300/\q (.str (bL (dc aF e n (bH aF e)))) G
noncomputable def Bb (d:Nat):bM:=λws G q _=>∃e:O,ws=[.tup (am e)]/\qw e/\e.dp<d/\d<=60/\e≠ .z/\q (.str (bL (eS e (bH aF e)))) G
noncomputable def fk:O->List (List Nat)
 | .z=>[]
 | .c e n r=>dc aF e n (bH aF e)::fk r
theorem jY:∀a:O,mapP (λ_ _=>true) (λe n=>W.str (bL (dc aF e n (bH aF e)))) a=(fk a).map λl=>W.str ⟨l.toArray⟩
 | .z=>rfl
 | .c e n r=>by rw[mapP,ycv rfl,jY r];rfl
theorem gS:∀a:O,a≠ .z->fj [43] (fk a)=bH aF a
 | .z,h=>absurd rfl h
 | .c e n r,_=>by
   rw[fM];cases r with
   | z=>show dc aF e n (bH aF e)=dc aF e n (bH aF e)++[];rw[append_nil]
   | c e' n' r'=>
     have:=gS (.c e' n' r') (by simp);show dc aF e n (bH aF e)++[43]++fj [43] (fk (.c e' n' r'))=dc aF e n (bH aF e)++43::bH aF (.c e' n' r');rw[this];simp
theorem je:∀a:O,a≠ .z->((fk a).map List.length).sum+(fk a).length=(bH aF a).length+1
 | .z,h=>absurd rfl h
 | .c e n r,_=>by
   rw[fM,length_append];cases r with
   | z=>simp[fk,bZ]
   | c e' n' r'=>
     have:=je (.c e' n' r') (by simp);have e1:(bZ aF (.c e' n' r')).length=(bH aF (.c e' n' r')).length+1:=by simp[bZ]
     rw[e1];show(dc aF e n (bH aF e)).length+((fk (.c e' n' r')).map List.length).sum+((fk (.c e' n' r')).length+1)=_
     (clear e1;lia)
theorem tJ:∀{e:O},e.NF->mS e=decide (O.filt (λy _=>decide (¬y=.z)) e=.z)
 | .z,_=>rfl
 | .c .z n r,h=>by
   have hr:=O.Lt_z h.2.2.1;subst hr
   rfl
 | .c (.c x m y) n r,h=>by
   rw[O.filt_c,ycv (by simp)];simp[mS]
theorem px:∀{a:O} {d:Nat},qw a->a.dp<d+1->jg (λe n=>qw e/\e.dp<d/\1<=n/\n<10^300) a
 | .z,_,_,_=>trivial
 | .c e n r,d,h,hd=>by
   obtain⟨h1,h2,h3,h4⟩:=h.pt;simp only[O.dp] at hd;exact⟨⟨h1,by (clear h3 h4;lia),h3,h4⟩,px h2 (by (clear h3 h4;lia))⟩
theorem Dd {d k:Nat} (F:cJ K "shown" "shown" (ax 55) f fd) (F1:Fx P w K mg base "part_shown" ["exponent","many"] k (Ba d)):cq P w K mg base (k+1) f fd ["a"] (mO (d+1)):=by
 refine fE F (N:=["a"]) (by walk_at "s") (by walk_at "l") λ_ _ _ _ _ _ nd hr=>?_;apply aM
 ·refine' ac ?s1 (bp (aq (my [43] ?e1)))
  case s1=>exact(aW (aw (bx hr) (aa 0) (aJ ag)) (ac (aq aZ) af) af)
  case e1=>exact(eB (dE (by first | rfl | decide+kernel)) rfl (bK (aa 0)) (λ_ _ _ _=>(kj rfl (cW (bY 1 (by first | assumption | decide+kernel | rfl) rfl (.inl rfl)) (cW (bY 2 (by first | assumption | decide+kernel | rfl) rfl (.inl rfl)) ik)))) (λ_ _ _ _=>ft) (λ_ _ _ _=>(ay F1 (av.mono hr (by lia)) rfl (ae (aa 1) (ae (aa 2) ag)))))
 ·rintro ws G q e ⟨a,rfl,hS,hd,hd60,hq⟩;have hda:=bD a;have hla:=O.len_le_size a;have hs:=hS.2.1;have hln:=hS.len;walk_at "a0";refine⟨aD a,by (clear hla hs hln;lia),?_⟩;rw[bh]
  by_cases h:a=.z
  ·subst h;rw[ycv (by simp)];exact aL.done hq
  rw[ycw (by simpa using h)];subst hU;unfold nX;walk_at "R";refine jX (τ0:=[none,none,none,none]) (λe n=>W.str (bL (dc aF e n (bH aF e)))) trivial (px hS hd) (λe n he kc hkc=>?_) (by simp only[length_nil];(clear hd hd60 hda hln;lia)) (λ_ _=>rfl) λp hp=>?_
  ·walk_at "R";exact⟨e,n,rfl,he.1,he.2.1,by (clear hd hda hla hs hln he;lia),he.2.2.1,he.2.2.2,hkc⟩
  ·rw[nil_append,jY];have:=je a h;refine⟨p,fk a,rfl,al,by (clear hd hd60 hda hla hs;lia),G,aL.new hp,?_⟩;rw[gS a h];exact hq
theorem Dg {d k:Nat} (F:cJ K "part_shown" "part_shown" (ax 56) f fd) (F1:Fx P w K mg base "power_shown" ["exponent"] k (Bb d)) (ms:mg "str"=none):cq P w K mg base (k+1) f fd ["exponent","many"] (Ba d):=by
 refine fE F (N:=["exponent","many","text"]) (by walk_at "s") (by walk_at "l") λ_ _ _ _ _ _ nd hr=>?_;apply aM
 ·refine' ac ?s1 (ac ?s2 (bp (aq (gj ?c3 ?e3 (tf (kP ?v1 (gy (kP ?v2 nW))))))))
  case s1=>exact(aW (aw (bx hr) (aa 0) (aJ ag)) (ac (aq (cC sY rfl ms PyProof.Rows.boot_str (ae (aa 1) ag))) af) af)
  case s2=>exact(aA 2 nd rfl (.inl rfl) (ay F1 (av.mono hr (by lia)) rfl (ae (aa 0) ag)))
  case c3=>exact(aw (bx hr) (aa 1) ah)
  case e3=>exact(aa 2)
  case v1=>exact(aa 2)
  case v2=>exact(aa 1)
 ·rintro ws G q e ⟨x,n,rfl,hS,hd,hd60,hn1,hn2,hq⟩;have hda:=bD x;have hln:=hS.len;obtain⟨f1,f2⟩:=kR (n:=n) (by (clear hd hd60 hda hln;lia)) hn2;have hnn:((n.toNat:Nat):Int)=n:=Int.toNat_of_nonneg (by (clear hd hd60 hda hln f1 f2;lia));walk_at "a0";refine⟨aD x,by (clear hn1 hn2 hln f1 f2 hnn;lia),?_⟩;rw[bh]
  by_cases h:x=.z
  ·rw[ycv (by simpa using h)];unfold dc at hq;rw[ycv h] at hq;exact⟨n.toNat,hnn.symm,f1,aL.done hq⟩
  ·rw[ycw (by simpa using h)];unfold dc at hq;rw[ycw h] at hq;walk_at "a";refine⟨x,rfl,hS,hd,hd60,h,?_⟩;subst hU;walk_at "R";refine cP (λh1=>?_) λh1=>?_
   ·rw[ycv h1] at hq;exact aL.done hq
   ·rw[ycw h1] at hq;unfold AD AC AA Az;walk_at "R";have l1:(eS x (bH aF x)).length<=96005:=by
     unfold eS;split
     ·decide
     ·split<;> simp only[length_cons,length_append,length_nil]<;> (clear hd hd60 hn1 hn2 hda f1 f2 hnn h1;lia)
    refine⟨_,.inl rfl,?_,?_,_,.inr ⟨n.toNat,congrArg W.int hnn.symm,f1,rfl⟩,?_⟩
    all_goals rw[yC (eS x (bH aF x))]
    ·rw[aP];lia
    ·rw[show Str.ofString "*"=bL [42] from rfl,dv (eS x (bH aF x)) [42],aP,length_append,length_singleton]
     (clear hd hd60 hn1 hn2 hda hln f1 f2 hnn h1;lia)
    ·rw[show Str.ofString "*"=bL [42] from rfl,dv (eS x (bH aF x)) [42]];have e2:=dv (eS x (bH aF x)++[42]) (aF n.toNat);rw[e2,aP,length_append,length_append,length_singleton,append_assoc];exact⟨by (clear hd hd60 hn1 hn2 hda hln f1 hnn h1;lia),aL.done hq⟩
theorem Dh {d k:Nat} (hk:5<=k) (F:cJ K "power_shown" "power_shown" (ax 57) f fd) (F1:Fx P w K mg base "shown" ["a"] k (mO d)) (F2:Fx P w K mg base "whole" ["n"] 3 qp) (F3:Fx P w K mg base "endless" [] 4 vR) (F4:Fx P w K mg base "without_whole" ["a"] 2 vN):cq P w K mg base (k+1) f fd ["exponent"] (Bb d):=by
 refine fE F (N:=["exponent","text"]) (by walk_at "s") (by walk_at "l") λ_ _ _ _ _ _ nd hr=>?_;apply aM
 ·refine' ac ?s1 (ac ?s2 (ac (aW ?c3 (bp (aq (tf (gy (kP ?v1 nW))))) af) (bp (aq (tf (gy (kP ?v2 (gy nW))))))))
  case s1=>exact(aW (aw (bx hr) (aa 0) (ay F2 (av.mono hr (by lia)) rfl (ae ah ag))) (ac (aq aZ) af) af)
  case s2=>exact(aA 1 nd rfl (.inl rfl) (ay F1 (av.mono hr (by lia)) rfl (ae (aa 0) ag)))
  case c3=>exact(eW (eV (aw (bx hr) (ay F4 (av.mono hr (by lia)) rfl (ae (aa 0) ag)) (aJ ag)) (dB (aw (bx hr) (aa 0) (rN F3 (av.mono hr (by lia)) rfl)))))
  case v1=>exact(aa 1)
  case v2=>exact(aa 1)
 ·rintro ws G q e ⟨x,rfl,hS,hd,hd60,hz,hq⟩;have hda:=bD x;have hln:=hS.len;unfold eS at hq;walk_at "a0";refine⟨1,rfl,by decide,aD x,aD _,by (clear hk hln;lia),?_⟩;rw[dH];refine cP (λh1=>?_) λh1=>?_
  ·rw[ycv (show x=.c .z 1 .z from of_decide_eq_true h1)] at hq;exact aL.done hq
  rw[ycw (λz:x=.c .z 1 .z=>h1 (ydz z))] at hq;walk_at "a";refine⟨x,rfl,hS,hd,hd60,?_⟩;subst hU;refine aN λU hU=>?_;have short:mS x=true∨x=om->xK (AD (AA (Str.ofString "w^") (AC (uq 1) Az))) { nx:=U { nx:=λx G1=>∃G0,aL G0 G1/\q W.non G0,rt:=λw G1=>∃G0,aL G0 G1/\q w G0 },rt:=λw G1=>∃G0,aL G0 G1/\q w G0 } [some (W.tup (am x)),some (.str (bL (bH aF x)))] G:=λh=>by
   rw[ycv h] at hq;unfold AD AC AA Az;walk_at "R";rw[show Str.ofString "w^"=bL [119,94] from rfl,yC [119,94],aP];refine⟨by decide,_,.inl rfl,?_⟩;rw[dv [119,94] (bH aF x),aP];refine⟨?_,aL.done hq⟩;simp only[length_append,length_cons,length_nil]
   (clear hk hd hd60 hda;lia)
  have hWo:=tJ hS.1;walk_at "R";refine⟨x,rfl,hS.1,by (clear hk hda hln;lia),aD _,?_⟩;have hfd:=bD (O.filt (λy _=>decide (¬y=.z)) x);have hfl:=O.dp_filt (λy _=>decide (¬y=.z)) x;refine⟨rfl,by (clear hk hda hln;lia),?_⟩;rw[bh];dsimp only;refine cP (λh2=>short (.inl (hWo.trans h2))) λh2=>?_;refine⟨rfl,aD x,aD om,by (clear hk hln hfd hfl;lia),?_⟩;rw[dH];refine cP (λh3=>short (.inr (of_decide_eq_true h3))) λh3=>?_;rw[ycw (λz=>by
   rcases z with z | z
   ·exact h2 (hWo.symm.trans z)
   ·exact h3 (ydz z))] at hq
  subst hU;unfold AD AC AA Az;walk_at "R";rw[show Str.ofString "w^("=bL [119,94,40] from rfl,yC [119,94,40],aP];refine⟨by decide,_,.inl rfl,?_⟩;rw[show Str.ofString ")"=bL [41] from rfl,dv [119,94,40] (bH aF x),dv ([119,94,40]++bH aF x) [41],aP,aP,length_append,length_append];exact⟨by simp only[length_cons,length_nil];(clear hk hd hd60 hda hfd hfl;lia),by simp only[length_append,length_cons,length_nil];(clear hk hd hd60 hda hfd hfl;lia),aL.done hq⟩
theorem Bc (T:Txt K mg) (F2:Fx P w K mg base "whole" ["n"] 3 qp) (F3:Fx P w K mg base "endless" [] 4 vR) (F4:Fx P w K mg base "without_whole" ["a"] 2 vN):∀d:Nat,Fx P w K mg base "shown" ["a"] (3*d+5) (mO d)
 | 0=>T.d_shown.fx λf fd F=>cq.none λws G q e ⟨a,_,_,h,_⟩=>by walk_at "om"
 | d+1=>T.d_shown.fx λf fd F=>Dd F (T.d_part_shown.fx λf fd F=>Dg F (T.d_power_shown.fx λf fd F=>Dh (by walk_at "om") F (Bc T F2 F3 F4 d) F2 F3 F4) T.z_str)
theorem n5 (nm:List Nat->Option O):∀(s:List cr) (st:List O) {r:List O},cu s st=some r->kC nm s=some s
 | [],_,_,_=>rfl
 | .num a::s,st,r,h=>by
   show(kC nm s).map _=_;rw[n5 nm s (a::st) h]
   rfl
 | .nam l::s,st,r,h=>by cases h
 | .op x::s,st,r,h=>by
   match st,h with
   | [],h=>cases h
   | [_],h=>cases h
   | b::a::st,h=>
     have h:(if fB (bt x a b)/\(x=94->a=om) then cu s (bt x a b::st) else none)=some r:=h;split at h
     ·show(kC nm s).map _=_;rw[n5 nm s _ h]
      rfl
     ·cases h
noncomputable def wL:bM:=λws G q _=>∃(l:List Nat) (s:List cr),ws=[.str (bL l)]/\l.length<=100000/\AY l=some s/\∀(a:Addr) (G':Gp),aL G G'->G' a=some (.lst (s.map cI))->s.length<=8000->q (.ref a) G'
theorem Bd {NT:Addr} (F:ko P w K mg base 90 f fd ["text"] (AZ NT)):cq P w K mg base 90 f fd ["text"] wL:=
 F.calm λws G q e ⟨l,s,h1,h2,h3,h4⟩=>⟨l,h1,h2,λs' h=>by rw[h3] at h;cases h;exact h4,λh=>by rw[h3] at h;cases h⟩
noncomputable def tK:bM:=λws G q _=>∃(a d:Addr) (s s':List cr) (kvs:List (bG×W)) (nm:List Nat->Option O),ws=[.ref a,.ref d]/\G a=some (.lst (s.map cI))/\GD G d kvs/\tH kvs nm/\s.length<=8000/\(∀x,x∈s->ie x)/\kC nm s=some s'/\∀(b:Addr) (G':Gp),aL G G'->G' b=some (.lst (s'.map cI))->q (.ref b) G'
theorem Be {NN:Addr} (F:ko P w K mg base 2 f fd ["steps","names"] (A0 NN)):cq P w K mg base 2 f fd ["steps","names"] tK:=
 F.calm λws G q e ⟨a,d,s,s',kvs,nm,h1,h2,h3,h4,h5,h6,h7,h8⟩=>⟨a,d,s,kvs,nm,h1,h2,h3,h4,h5,h6,λs1 h=>by rw[h7] at h;cases h;exact h8,λh=>by rw[h7] at h;cases h⟩
noncomputable def Ez (G:Gp) (v:W):Prop:=v=.non∨∃d kvs nm,v=.ref d/\GD G d kvs/\tH kvs nm
noncomputable def yD:bM:=λws G q _=>∃(l:List Nat) (v:W) (s:List cr) (r:O),ws=[.str (bL l),v]/\Ez G v/\l.length<=2000/\cZ l=some s/\cu s []=some [r]/\q (.tup (am r)) G
theorem scRe:bA ["text","names"] ["text","names"] (ak (ax 58)):=by walk_at "s"
theorem Bf {T:Addr} {ds:yez} (F:gH K "read" "read" (ax 58) f fd T ds) (F1:Fx P w K mg base "steps_of" ["text"] 90 wL) (F2:Fx P w K mg base "looked_up" ["steps","names"] 2 tK) (F3:Fx P w K mg base "reckoned" ["steps"] 64 yB):cq P w K mg base 91 f fd ["text","names"] yD:=by
 have nd:=scRe.nd;refine xX F scRe (λws G q e h=>by obtain⟨_,_,_,_,rfl,_⟩:=h;rfl) (λcdv A outer s H E hr=>?_);apply aM
 ·exact(ac (aq (ay F3 (av.mono hr (by lia)) rfl (ae (ay F2 (av.mono hr (by lia)) rfl (ae (ay F1 (av.mono hr (by lia)) rfl (ae (aa 0) ag)) (ae (gj (aw zH (aa 1) xH) pd (aa 1)) ag))) ag))) af)
 ·rintro ws G q e ⟨l,v,s,r,rfl,hv,hl,hrd,hrun,hq⟩;walk_at "R";refine⟨l,s,rfl,by walk_at "om",(ycv hl).trans hrd,λa G1 le1 ga hs=>?_⟩;walk_at "R";have hok:=uY hrd;have go:∀(d:Addr) (kvs:List (bG×W)) (nm:List Nat->Option O) (G2:Gp),aL G G2->G2 a=some (.lst (s.map cI))->GD G2 d kvs->tH kvs nm->tK [.ref a,.ref d] G2 (λx G1=>yB [x] G1 (λw G1=>∃G0,aL G0 G1/\q w G0) λx x_1=>False) λx x_1=>False:=λd kvs nm G2 le2 ga2 hd hn=>
   ⟨a,d,s,s,kvs,nm,rfl,ga2,hd,hn,hs,hok,n5 nm s [] hrun,λb G3 le3 gb=>⟨b,s,r,rfl,gb,hs,hok,hrun,λG4 le4=>⟨G,(le2.trans le3).trans le4,hq⟩⟩⟩
  rcases hv with rfl | ⟨d,kvs,nm,rfl,hd,hn⟩
  ·rw[ycv (by rfl)];intro p hp;exact go p [] (λ_=>none) _ (le1.trans (aL.new hp)) (bF ga hp) (.inl al) λ_=>rfl
  ·rw[ycw (show ¬(false ^^ ou (.ref d))=true from λh=>Bool.noConfusion h)];exact go d kvs nm G1 le1 ga (GD.le hd le1) hn
noncomputable def tL (d:Nat):bM:=λws G q _=>∃a b:O,ws=[.tup (am a),.tup (am b)]/\a.dp<d/\q (.int (O.cmp a b)) G
noncomputable def Bg:bM:=λws G q _=>∃(a x:O) (n:Int),ws=[.tup (am a),.tup (am x),.int n]/\a.dp<=60/\a.size<=1000/\q (.tup (am (O.withO a x n))) G
noncomputable def vZ (d:Nat):bM:=λws G q _=>∃a:O,ws=[.tup (am a)]/\a.dp<d/\a.size<=1000/\q (.int a.size) G
noncomputable def cQ:List O:=[.z,.c .z 1 .z,.c (.c .z 1 .z) 1 .z]
noncomputable def tN (B:Int) (o:O):Prop:=O.Good B o/\o.size<=12
theorem tN.mono {B B':Int} {o:O} (h:tN B o) (k:B<=B'):tN B' o:=⟨h.1.mono k,h.2⟩
noncomputable def Bh:bM:=λws G q _=>∃(p:Addr) (pool:List O) (cell B:Int),ws=[.ref p,.int cell]/\G p=some (.lst (bX pool))/\0<pool.length/\pool.length<=100/\1<=B/\(∀o,o∈pool->tN B o)/\∀o,tN (B+10^50) o->q (.tup (am o)) G
noncomputable def Bi:bM:=λws G q _=>∃ns:List Int,ws=[.scr ns]/\ns.length<=63/\∀(p:Addr) (more:List O),G p=none->more.length<=12->(∀o,o∈cQ++more->tN (10^52) o)->q (.ref p) (aV G p (.lst (bX (cQ++more))))
noncomputable def v0 (d:Nat):bM:=λws G q _=>∃a:O,ws=[.tup (am a)]/\a.dp<d/\q (.bl true) G
noncomputable def Bj:bM:=λws G q _=>∃a b:O,ws=[.tup (am a),.tup (am b)]/\a.dp<=50/\q (.bl (decide (a=b))) G
theorem Di {d k:Nat} (hd:d<=60) (F:cJ K "_law_compare" "_law_compare" (ax 60) f fd) (F1:Fx P w K mg base "_law_compare" ["_law_a","_law_b"] k (tL d)) (ml:mg "len"=none) (mz:mg "zip"=none):cq P w K mg base (k+1) f fd ["_law_a","_law_b"] (tL (d+1)):=by
 refine fE F (N:=["_law_a","_law_b","_law_one","_law_other","_law_side"]) (by walk_at "s") (by walk_at "l") λ_ _ _ _ _ _ nd hr=>?_;apply aM
 ·exact(ac (eA PySem.PassesOwn.never rfl (xV rfl mz (ae (aa 0) (ae (aa 1) ag))) (kj rfl (cW (ck 2 nd rfl (.inl rfl)) (cW (ck 3 nd rfl (.inl rfl)) ik))) (ac (aA 4 nd rfl (.inl rfl) (ay F1 (av.mono hr (by lia)) rfl (ae (aG aH (aa 2) ah) (ae (aG aH (aa 3) ah) ag)))) (ac (aW (aw (bx hr) (aa 4) ah) (ac (aA 4 nd rfl (.inl rfl) (aE wq (dA iG (aG aH (aa 2) ah) (aG aH (aa 3) ah)) (dA (iM hr) (aG aH (aa 2) ah) (aG aH (aa 3) ah)))) af) af) (ac (aW (aw (d8 hr) (aa 4) ah) (ac (aq (aa 4)) af) af) af)))) (ac (aq (aE wq (dA iG (bc cj rfl ml PySem.boot_len (ae (aa 0) ag)) (bc cj rfl ml PySem.boot_len (ae (aa 1) ag))) (dA (iM hr) (bc cj rfl ml PySem.boot_len (ae (aa 0) ag)) (bc cj rfl ml PySem.boot_len (ae (aa 1) ag))))) af))
 ·rintro ws G q e ⟨a,b,rfl,hx,hq⟩;walk_at "R";refine ca (λws τ G'=>G'=G/\∃x y t2 t3 t4,ws=dP (am x) (am y)/\τ=[some (.tup (am a)),some (.tup (am b)),t2,t3,t4]/\O.cmp a b=O.cmp x y/\a.len+y.len=b.len+x.len/\x.dp<d+1) ?_ ?_ _ _ _ ⟨rfl,a,b,none,none,none,rfl,rfl,rfl,by (clear hd hx;lia),hx⟩
  ·rintro τ G' ⟨rfl,x,y,t2,t3,t4,hz,rfl,hc,hl,hx'⟩;refine⟨trivial,?_⟩;walk_at "R";refine aL.done ?_;rw[aB,aB,o7,nR hl,←lW (u7 hz.symm),←hc];exact hq
  ·rintro w1 ws τ G' k1 ⟨rfl,x,y,t2,t3,t4,hz,rfl,hc,hl,hx'⟩ hk;obtain⟨x1,n,r,x1',n',r',rfl,rfl,rfl,rfl⟩:=sK hz.symm;refine⟨trivial,?_⟩;unfold dm eT;walk_at "R";have hx2:x1.dp<d:=by simp only[O.dp] at hx';(clear hd hx hc hl;lia)
   refine⟨x1,x1',rfl,hx2,?_⟩;walk_at "R";have again:nP x1 n x1' n'=0->∀t2 t3 t4,k1 [some (.tup (am a)),some (.tup (am b)),t2,t3,t4] G':=λz t2 t3 t4=>by
    rw[wB,ycw (by simpa using z)] at hc;refine hk _ _ ⟨rfl,r,r',_,_,_,rfl,rfl,hc,?_,?_⟩
    ·simp only[O.len] at hl;(clear hd hx hx' hc hx2 z;lia)
    ·simp only[O.dp] at hx';(clear hd hx hc hl hx2 z;lia)
   have leave:nP x1 n x1' n'≠0->q (.int (nP x1 n x1' n')) G':=λz=>by
    rw[hc,wB,ycv z] at hq;exact hq
   unfold nP at again leave;rw[o7];split
   ·rename_i h;rw[ycw (by simpa using h)] at again leave;split
    ·rename_i h2;exact aL.done (leave h2)
    ·rename_i h2;exact again (by simpa using h2) _ _ _
   ·rename_i h;rw[ycv h] at leave;exact aL.done (leave h)
theorem Bk (T:Txt K mg):∀d:Nat,d<=60->Fx P w K mg base "_law_compare" ["_law_a","_law_b"] d (tL d)
 | 0,_=>T.d__law_compare.fx λf fd F=>cq.none λws G q e ⟨a,b,_,h,_⟩=>by walk_at "om"
 | d+1,h=>T.d__law_compare.fx λf fd F=>Di (by walk_at "om") F (Bk T d (by walk_at "om")) T.z_len T.z_zip
theorem Dj (F:cJ K "_law_with" "_law_with" (ax 61) f fd) (F1:Fx P w K mg base "_law_compare" ["_law_a","_law_b"] 60 (tL 60)) (ms:mg "sum"=none) (mt:mg "tuple"=none):cq P w K mg base 61 f fd ["_law_number","_law_exponent","_law_many"] Bg:=by
 refine fE F (N:=["_law_number","_law_exponent","_law_many","_law_above","_law_below","_law_same"]) (by walk_at "s") (by walk_at "l") λ_ _ _ _ _ _ nd hr=>?_;apply aM
 ·exact(ac (io 3 (dE (by first | rfl | decide+kernel)) rfl nd rfl (.inl rfl) (bK (aa 0)) (λ_ _ _ _=>(bY 1 (by first | assumption | decide+kernel | rfl) rfl (.inl rfl))) (λ_ _ _ _=>(gl (aw iG (ay F1 (av.mono hr (by lia)) rfl (ae (aG aH (aa 1) ah) (ae (aa 3 rfl (.inr (.inl rfl))) ag))) ah))) (λ_ _ _ _=>(aa 1))) (ac (io 4 (dE (by first | rfl | decide+kernel)) rfl nd rfl (.inl rfl) (bK (aa 0)) (λ_ _ _ _=>(bY 1 (by first | assumption | decide+kernel | rfl) rfl (.inl rfl))) (λ_ _ _ _=>(gl (aw (iM hr) (ay F1 (av.mono hr (by lia)) rfl (ae (aG aH (aa 1) ah) (ae (aa 3 rfl (.inr (.inl rfl))) ag))) ah))) (λ_ _ _ _=>(aa 1))) (ac (aA 5 nd rfl (.inl rfl) (bc (rE rfl) rfl ms rQ (ae (eB (dE (by first | rfl | decide+kernel)) rfl (bK (aa 0)) (λ_ _ _ _=>(bY 1 (by first | assumption | decide+kernel | rfl) rfl (.inl rfl))) (λ_ _ _ _=>(gl (aw (bx hr) (aG aH (aa 1) ah) (aa 2 rfl (.inr (.inl rfl)))))) (λ_ _ _ _=>(aG aH (aa 1) ah))) ag))) (ac (aq (cC il rfl mt eC (ae (aE aX (aE aX (aa 3) (dC (ae (aJ (ae (aa 1 rfl (.inr (.inl rfl))) (ae (aE aX (aa 5) (aa 2)) ag))) ag))) (aa 4)) ag))) af))))
 ·rintro ws G q e ⟨a,x,n,rfl,hx,hsz,hq⟩;have hl:a.len<=1000:=ycy (O.len_le_size a) hsz;walk_at "a0";show ci _ _ _ _ _ [none,none,none,some (W.tup (am x))] G [] _;refine cy (λe _=>decide (0<O.cmp e x)) dm trivial (dN a) (λy m hy k hk=>?_) (λy m _ _ k hk=>?_) (by simp;lia) (λ_=>rfl) λp1 hp1=>?_
  ·unfold dm eT;walk_at "R";exact⟨y,x,rfl,by (clear hsz hl;lia),hk⟩
  ·walk_at "R";exact hk
  subst hU;rw[nil_append,gs];walk_at "a0";show ci _ _ _ _ _ [none,none,none,some (W.tup (am x))] _ [] _;refine cy (λe _=>decide (O.cmp e x<0)) dm trivial (dN a) (λy m hy k hk=>?_) (λy m _ _ k hk=>?_) (by simp;lia) (λ_=>rfl) λp2 hp2=>?_
  ·unfold dm eT;walk_at "R";exact⟨y,x,rfl,by (clear hsz hl;lia),hk⟩
  ·walk_at "R";exact hk
  subst hU;rw[nil_append,gs];walk_at "a0";show ci _ _ _ _ _ [none,none,some (W.tup (am x))] _ [] _;refine cy (λe _=>decide (e=x)) (λ_ n=> .int n) trivial (dN a) (λy m hy k hk=>?_) (λy m _ _ k hk=>?_) (by simp;lia) (λ_=>rfl) λp3 hp3=>?_
  ·unfold dm eT;walk_at "R";have:=bD y;refine⟨aD y,aD x,by (clear hsz hl hp2;lia),?_⟩;rw[dH];exact hk
  ·unfold dm eT;walk_at "R";exact hk
  obtain⟨ns,h1,h2⟩:=gR x a;rw[nil_append,h1];refine⟨ns,al,?_⟩;subst hU;rw[h2];have c1:G p1=none:=hp1;have g1:=al (G:=G) (a:=p1) (g:=GO.lst (am (O.filt (λe _=>decide (0<e.cmp x)) a)));have g1':=bF (g:=GO.lst (am (O.filt (λe _=>decide (e.cmp x<0)) a))) g1 hp2;have g2:=al (G:=aV G p1 (GO.lst (am (O.filt (λe _=>decide (0<e.cmp x)) a)))) (a:=p2) (g:=GO.lst (am (O.filt (λe _=>decide (e.cmp x<0)) a)));have k1:=bF (g:=GO.lst (ns.map W.int)) g1' hp3;have k2:=bF (g:=GO.lst (ns.map W.int)) g2 hp3;have le:aL G (aV (aV (aV G p1 (GO.lst (am (O.filt (λe _=>decide (0<e.cmp x)) a)))) p2 (GO.lst (am (O.filt (λe _=>decide (e.cmp x<0)) a)))) p3 (GO.lst (ns.map W.int))):=((aL.new hp1).trans (aL.new hp2)).trans (aL.new hp3);generalize aV (aV (aV G p1 (GO.lst (am (O.filt (λe _=>decide (0<e.cmp x)) a)))) p2 (GO.lst (am (O.filt (λe _=>decide (e.cmp x<0)) a)))) p3 (GO.lst (ns.map W.int))=G3 at k1 k2 le ⊢;walk_at "R";intro p4 h4;have l1:=d7 (λe _=>decide (0<O.cmp e x)) a;have l2:=d7 (λe _=>decide (O.cmp e x<0)) a;refine⟨_,_,bF k1 h4,al,by rw[aB];simp;(clear hx hsz hp2 hp3 h2 g1 g1' g2 k1 k2 l2;lia),λp5 h5=>⟨_,_,al,bF (bF k2 h4) h5,by rw[length_append,aB,aB];simp;(clear hx hsz hp2 hp3 h2 g1 g1' g2 k1 k2;lia),λp6 h6=>⟨_,al,G,le.trans ((aL.new h4).trans ((aL.new h5).trans (aL.new h6))),?_⟩⟩⟩;unfold O.withO at hq;rw[d5,bu] at hq;rw[append_assoc];exact hq
theorem Dk {d k:Nat} (F:cJ K "_law_size" "_law_size" (ax 62) f fd) (F1:Fx P w K mg base "_law_size" ["_law_number"] k (vZ d)) (ml:mg "len"=none) (ms:mg "sum"=none):cq P w K mg base (k+1) f fd ["_law_number"] (vZ (d+1)):=by
 refine fE F (N:=["_law_number"]) (by walk_at "s") (by walk_at "l") λ_ _ _ _ _ _ nd hr=>?_;apply aM
 ·exact(ac (aq (aE aX (bc cj rfl ml PySem.boot_len (ae (aa 0) ag)) (bc (rE rfl) rfl ms rQ (ae (eB (dE (by first | rfl | decide+kernel)) rfl (bK (aa 0)) (λ_ _ _ _=>(bY 1 (by first | assumption | decide+kernel | rfl) rfl (.inl rfl))) (λ_ _ _ _=>ft) (λ_ _ _ _=>(ay F1 (av.mono hr (by lia)) rfl (ae (aG aH (aa 1) ah) ag)))) ag)))) af)
 ·rintro ws G q e ⟨a,rfl,hx,hsz,hq⟩;have hl:a.len<=1000:=ycy (O.len_le_size a) hsz;walk_at "R";show ci _ _ _ _ _ [none,none,none] G [] _;refine cy (λ_ _=>true) (λe _=> .int e.size) trivial (dN a) (λy m hy k hk=>?_) (λy m hy _ k hk=>?_) (by simp;lia) (λ_=>rfl) λp1 hp1=>?_
  ·walk_at "R";exact hk
  ·unfold dm eT;walk_at "R";exact⟨y,rfl,by (clear hsz hl;lia),by (clear hx hl;lia),hk⟩
  obtain⟨ns,h1,h2⟩:=jK a;rw[nil_append,h1];refine⟨ns,al,G,aL.new hp1,?_⟩;rw[aB,h2];exact hq
theorem Bl (T:Txt K mg):∀d:Nat,Fx P w K mg base "_law_size" ["_law_number"] d (vZ d)
 | 0=>T.d__law_size.fx λf fd F=>cq.none λws G q e ⟨a,_,h,_⟩=>by walk_at "om"
 | d+1=>T.d__law_size.fx λf fd F=>Dk F (Bl T d) T.z_len T.z_sum
theorem Dl (F:cJ K "_law_next" "_law_next" (ax 63) f fd) (F1:Fx P w K mg base "_law_with" ["_law_number","_law_exponent","_law_many"] 61 Bg) (F2:Fx P w K mg base "_law_size" ["_law_number"] 60 (vZ 60)) (ml:mg "len"=none):cq P w K mg base 62 f fd ["_law_pool_here","_law_cell"] Bh:=by
 refine fE F (N:=["_law_pool_here","_law_cell","_law_one","_law_other","_law_many","_law_way","_law_made"]) (by walk_at "s") (by walk_at "l") λ_ _ _ _ _ _ nd hr=>?_;apply aM
 ·exact(ac (aA 1 nd rfl (.inl rfl) (aE dY (aa 1) (aE iO ah ah))) (ac (aA 2 nd rfl (.inl rfl) (aG aH (aa 0) (aE dY (aE dY (aE kI (aa 1) ah) ah) (bc cj rfl ml PySem.boot_len (ae (aa 0) ag))))) (ac (aA 3 nd rfl (.inl rfl) (aG aH (aa 0) (aE dY (aE dY (aE kI (aa 1) ah) ah) (bc cj rfl ml PySem.boot_len (ae (aa 0) ag))))) (ac (aA 4 nd rfl (.inl rfl) (aE aX ah (aG aH (dC (ae (aE dY (aE km (aa 1) ah) ah) (ae (aE dY (aE km (aa 1) ah) (aE iO ah ah)) ag))) (aE dY (aE km (aa 1) ah) ah)))) (ac (aA 5 nd rfl (.inl rfl) (aE dY (aa 1) ah)) (ac (aW (aw (bx hr) (aa 5) ah) (ac (aq (bV (aa 2) dr (cm (fV ah)))) af) af) (ac (aW (aw (bx hr) (aa 5) ah) (ac (aq (bV (aa 2) (cm (fV ah)) dr)) af) af) (ac (aW (aw (bx hr) (aa 5) ah) (ac (aq (aJ (ae (aJ (ae (aJ ag) (ae (aa 4) ag))) ag))) af) af) (ac (aW (eW (gF (aw (bx hr) (aa 5) ah) (fo (aw (d8 hr) (aa 2) (aJ ag))))) (ac (aA 3 nd rfl (.inl rfl) (aG aH (aG aH (aa 2) (fV ah)) ah)) (ac (aA 4 nd rfl (.inl rfl) ah) af)) af) (ac (aA 6 nd rfl (.inl rfl) (ay F1 (av.mono hr (by lia)) rfl (ae (aa 2) (ae (aa 3) (ae (aa 4) ag))))) (ac (aW (aw iG (ay F2 (av.mono hr (by lia)) rfl (ae (aa 6) ag)) ah) (ac (aq (aa 2)) af) af) (ac (aq (aa 6)) af))))))))))))
 ·rintro ws G q e ⟨p,pool,cell,B,rfl,hG,h0,hl,hB,hg,hq⟩;walk_at "a0";subst hU;generalize hc:cell%_=cl;walk_at "a0";simp only[hG,Option.some.injEq,GO.lst.injEq,exists_eq_left',bE];refine⟨_,.lst hG,by rw[bE];(clear hB hc;lia),?_⟩;rw[bE];refine wD<|i6 rfl h0 λo1 m1=>?_;walk_at "a";simp only[hG,Option.some.injEq,GO.lst.injEq,exists_eq_left',bE];refine⟨_,.lst hG,by rw[bE];(clear hB hc;lia),?_⟩;rw[bE];refine wD<|i6 rfl h0 λo2 m2=>?_;walk_at "a";intro p1 h1;refine fi al (sQ (lo:=0) (hi:=100000000000000000000000000000000000000000000000000) (by (clear h0 hl hB hc;lia)) (by (clear h0 hl hB hc;lia)) λm hm1 hm2=>?_);walk_at "R";have le:aL G (aV G p1 (GO.lst [W.int (cl/8%5),W.int (cl/16%100000000000000000000000000000000000000000000000000)])):=aL.new h1;generalize aV G p1 (GO.lst [W.int (cl/8%5),W.int (cl/16%100000000000000000000000000000000000000000000000000)])=G1 at le ⊢;have g1:=(hg o1 m1).1;have s1:=(hg o1 m1).2;have g2:=(hg o2 m2).1;have ret:∀o,O.Good (B+10^50) o->o.size<=12->∃G0,aL G0 G1/\q (.tup (am o)) G0:=λo ho hs=>⟨G,le,hq o ⟨ho,hs⟩⟩;walk_at "a";subst hU;generalize hw:cl%8=way
  -- way 4
  walk_at "a0";split
  ·rw[lX];exact ret _ (g1.init.mono (by (clear h0 hl hB hc hm1 hm2 s1 hw;lia))) (ycy (O.size_init o1) s1)
  subst hU
  -- way 5
  walk_at "a0";split
  ·rw[sM];exact ret _ (g1.last.mono (by (clear h0 hl hB hc hm1 hm2 s1 hw;lia))) (ycy (O.size_last o1) s1)
  subst hU
  -- way 6
  walk_at "a0";split
  ·exact ret (.c .z (1+m) .z) (.whole (by (clear h0 hl hB hc s1 hw;lia)) (by (clear h0 hl hc s1 hw;lia))) (show 1+0+0<=12 by decide)
  subst hU
  -- way 7, and the end
  refine aN λU hU=>?_;have fin:∀(o:O) (n:Int),O.Good B o->1<=n->n<=100000000000000000000000000000000000000000000000000->U { nx:=λx G1=>∃G0,aL G0 G1/\q W.non G0,rt:=λw G1=>∃G0,aL G0 G1/\q w G0 } [some (W.ref p),some (W.int cl),some (W.tup (am o1)),some (W.tup (am o)),some (W.int n),some (W.int way),none] G1:=λo n ho hn1 hn2=>by
   walk_at "a";have hd1:=g1.dp;have hd2:=ho.dp;have hs1:=g1.sz;have hs2:=ho.sz;refine⟨o1,o,n,rfl,by walk_at "om",by walk_at "om",?_⟩;subst hU;have hs3:=O.size_with o1 o n;have hd3:=O.dp_with o1 o n;walk_at "R";refine⟨_,rfl,by (clear h0 hl hB hc hm1 hm2 s1 hw hn1 hn2 hs1 hs2 hs3;lia),by (clear h0 hl hB hc hm1 hm2 hw hn1 hn2 hd1 hd2 hs1 hd3;lia),?_⟩;walk_at "R";split
   ·exact ret _ (g1.mono (by (clear h0 hl hB hc hm1 hm2 s1 hw hn1 hn2 hd1 hd2 hs1 hs2 hs3 hd3;lia))) s1
   ·exact ret _ ((g1.with ho hn1 (by (clear h0 hl hB hc hm1 hm2 s1 hw hn1 hn2 hd1 hd2 hs1 hs2 hs3 hd3;lia))).mono (by (clear h0 hl hB hc hm1 hm2 s1 hw hd1 hd2 hs1 hs2 hs3 hd3;lia))) (by (clear h0 hl hB hc hm1 hm2 s1 hw hn1 hn2 hd1 hd2 hs1 hs2 hs3 hd3;lia))
  walk_at "R";have plain:=fin o2 (1+m) g2 (by (clear h0 hl hB hc s1 hw;lia)) (by (clear h0 hl hB hc s1 hw;lia));split
  ·have hd1:=bD o1;have hd2:=g1.dp;refine⟨aD o1,by (clear h0 hl hB hc hm1 hm2 s1 hw;lia),?_⟩;rw[bh];split
   ·rename_i hz;have hz':o1≠ .z:=by simpa using hz
    obtain⟨x,n,_,hp⟩:=nS hz';refine⟨_,eM hp,?_⟩;unfold dm eT;walk_at "R";exact fin x 1 (g1.part hp).1 (by (clear h0 hl hB hc hm1 hm2 s1 hw hd1 hd2;lia)) (by (clear h0 hl hB hc hm1 hm2 s1 hw hd1 hd2;lia))
   ·exact plain
  ·exact plain
theorem Dm {d k:Nat} (F:cJ K "_law_pure" "_law_pure" (ax 65) f fd) (F1:Fx P w K mg base "_law_pure" ["_law_number"] k (v0 d)) (mi:mg "isinstance"=none) (mb:mg "bool"=none):cq P w K mg base (k+1) f fd ["_law_number"] (v0 (d+1)):=by
 refine fE F (N:=["_law_number","_law_part"]) (by walk_at "s") (by walk_at "l") λ_ _ _ _ _ _ nd hr=>?_;apply aM
 ·exact(ac (eA PySem.PassesOwn.never rfl (bK (aa 0)) (ck 1 nd rfl (.inl rfl)) (ac (aW (eW (eV (bQ (eY (T:="bool") (x:="bool") (by first | simp[iI] | assumption | decide+kernel) PyProof.Rows.boot_bool mb rfl mi rfl (aG aH (aa 1) ah))) (dB (dg (bQ (ay F1 (av.mono hr (by lia)) rfl (ae (aG aH (aa 1) ah) ag))))))) (ac (aq eU) af) af) af)) (ac (aq eU) af))
 ·rintro ws G q e ⟨a,rfl,hx,hq⟩;walk_at "a0";refine ca (λws τ G'=>G'=G/\∃(r:O) (t:Option W),ws=am r/\τ=[some (.tup (am a)),t]/\r.dp<d+1) ?_ ?_ _ _ _ ⟨rfl,a,none,rfl,rfl,hx⟩
  ·rintro τ G' ⟨rfl,r,t,hw,rfl,hd⟩;refine⟨trivial,?_⟩;subst hU;walk_at "R";exact aL.done hq
  ·rintro w1 ws τ G' kk ⟨rfl,r,t,hw,rfl,hd⟩ hk;cases r with
   | z=>cases hw
   | c y m r=>
     rw[bu] at hw;cases hw;refine⟨trivial,?_⟩;simp only[O.dp] at hd;unfold dm eT;walk_at "R";refine⟨y,rfl,by (clear hx;lia),?_⟩;walk_at "R";exact hk _ _ ⟨rfl,r,_,rfl,rfl,by (clear hx;lia)⟩
theorem Bm (T:Txt K mg):∀d:Nat,Fx P w K mg base "_law_pure" ["_law_number"] d (v0 d)
 | 0=>T.d__law_pure.fx λf fd F=>cq.none λws G q e ⟨a,_,h,_⟩=>by walk_at "om"
 | d+1=>T.d__law_pure.fx λf fd F=>Dm F (Bm T d) T.z_isinstance T.z_bool
theorem Dn (F:cJ K "_law_is" "_law_is" (ax 66) f fd) (F1:Fx P w K mg base "_law_pure" ["_law_number"] 60 (v0 60)) (mi:mg "isinstance"=none) (mt:mg "tuple"=none):cq P w K mg base 61 f fd ["_law_found","_law_due"] Bj:=by
 refine fE F (N:=["_law_found","_law_due"]) (by walk_at "s") (by walk_at "l") λ_ _ _ _ _ _ nd hr=>?_;apply aM
 ·exact(ac (aq (ki (eY (T:="tuple") (x:="tuple") (by first | simp[iI] | assumption | decide+kernel) eC mt rfl mi rfl (aa 0)) (ki (dA (bx hr) (aa 0) (aa 1)) (kh (ay F1 (av.mono hr (by lia)) rfl (ae (aa 0) ag)))))) af)
 ·rintro ws G q e ⟨a,b,rfl,hx,hq⟩;have hd:=bD a;walk_at "R";refine⟨aD a,aD b,by walk_at "om",?_⟩;rw[dH]
  by_cases h:a=b
  ·subst h;rw[ydz rfl] at hq;rw[ycv (by simp)];exact⟨a,rfl,by (clear hd;lia),aL.done hq⟩
  ·rw[ydy h] at hq;rw[ycw (by simpa using h)];exact aL.done hq
noncomputable def Bn:bM:=λws G q _=>∃a b:O,ws=[.tup (am a),.tup (am b)]/\a.dp<=50/\b.dp<=50/\a.len<=1000/\b.len<=1000/\q (.tup (am (O.plusO a b))) G
theorem Do (F:cJ K "_law_plus" "_law_plus" (ax 68) f fd) (F1:Fx P w K mg base "_law_compare" ["_law_a","_law_b"] 60 (tL 60)) (ms:mg "sum"=none) (mt:mg "tuple"=none):cq P w K mg base 61 f fd ["_law_a","_law_b"] Bn:=by
 refine fE F (N:=["_law_a","_law_b","_law_head","_law_kept","_law_same"]) (by walk_at "s") (by walk_at "l") λ_ _ _ _ _ _ nd hr=>?_;apply aM
 ·exact(ac (aW (aw (bx hr) (aa 1) (aJ ag)) (ac (aq (aa 0)) af) af) (ac (aA 2 nd rfl (.inr rfl) (aG aH (aG aH (aa 1) ah) ah)) (ac (io 3 (dE (by first | rfl | decide+kernel)) rfl nd rfl (.inl rfl) (bK (aa 0)) (λ_ _ _ _=>(bY 1 (by first | assumption | decide+kernel | rfl) rfl (.inl rfl))) (λ_ _ _ _=>(gl (aw iG (ay F1 (av.mono hr (by lia)) rfl (ae (aG aH (aa 1) ah) (ae (aa 3 rfl (.inr (.inl rfl))) ag))) ah))) (λ_ _ _ _=>(aa 1))) (ac (aA 4 nd rfl (.inl rfl) (bc (rE rfl) rfl ms rQ (ae (eB (dE (by first | rfl | decide+kernel)) rfl (bK (aa 0)) (λ_ _ _ _=>(bY 1 (by first | assumption | decide+kernel | rfl) rfl (.inl rfl))) (λ_ _ _ _=>(gl (aw (bx hr) (aG aH (aa 1) ah) (aa 2 rfl (.inr (.inl rfl)))))) (λ_ _ _ _=>(aG aH (aa 1) ah))) ag))) (ac (aq (aE aX (aE aX (cC il rfl mt eC (ae (aa 3) ag)) (aJ (ae (aJ (ae (aa 2 rfl (.inr (.inl rfl))) (ae (aE aX (aa 4) (aG aH (aG aH (aa 1) ah) ah)) ag))) ag))) (bV (aa 1) (cm ah) dr))) af)))))
 ·rintro ws G q e ⟨a,b,rfl,hx,hy,hl,hl2,hq⟩;have hd:=bD b;walk_at "a0";refine⟨aD b,by (clear hx hl hl2;lia),?_⟩;rw[bh];cases b with
  | z=>
    rw[ycv (by simp)];exact aL.done hq
  | c e n r=>
    rw[ycw (by simp)];simp only[O.len] at hl2;have hde:e.dp<=50:=by simp only[O.dp] at hy;(clear hx hl hl2 hd;lia)
    subst hU;refine aN λU hU=>?_;rw[bu];unfold dm eT;walk_at "R";subst hU;have e1:dt (W.tup [W.tup (am e),W.int n]::am r) (some 1) none=am r:=by rw[show(1:Int)=((1:Nat):Int) from rfl,iZ];rfl
    walk_at "a0";show ci _ _ _ _ _ [none,none,none,some (W.tup (am e))] G [] _;refine cy (λx _=>decide (0<O.cmp x e)) dm trivial (dN a) (λy m hy k hk=>?_) (λy m _ _ k hk=>?_) (by simp;lia) (λ_=>rfl) λp1 hp1=>?_
    ·unfold dm eT;walk_at "R";exact⟨y,e,rfl,by (clear hl hl2 hd hde;lia),hk⟩
    ·walk_at "R";exact hk
    subst hU;rw[nil_append,gs];have g1:=al (G:=G) (a:=p1) (g:=GO.lst (am (O.filt (λx _=>decide (0<O.cmp x e)) a)));have le:aL G (aV G p1 (GO.lst (am (O.filt (λx _=>decide (0<O.cmp x e)) a)))):=aL.new hp1;generalize aV G p1 (GO.lst (am (O.filt (λx _=>decide (0<O.cmp x e)) a)))=G1 at g1 le ⊢;walk_at "a0";show ci _ _ _ _ _ [none,none,some (W.tup (am e))] _ [] _;refine cy (λx _=>decide (x=e)) (λ_ n=> .int n) trivial (dN a) (λy m hy k hk=>?_) (λy m _ _ k hk=>?_) (by simp;lia) (λ_=>rfl) λp2 hp2=>?_
    ·unfold dm eT;walk_at "R";have:=bD y;refine⟨aD y,aD e,by (clear hl hl2 hd hde g1;lia),?_⟩;rw[dH];exact hk
    ·unfold dm eT;walk_at "R";exact hk
    obtain⟨ns,h1,h2⟩:=gR e a;rw[nil_append,h1];refine⟨ns,al,?_⟩;subst hU;rw[h2];have k1:=bF (g:=GO.lst (ns.map W.int)) g1 hp2;have le2:aL G (aV G1 p2 (GO.lst (ns.map W.int))):=le.trans (aL.new hp2);generalize aV G1 p2 (GO.lst (ns.map W.int))=G2 at k1 le2 ⊢;have l1:=d7 (λx _=>decide (0<O.cmp x e)) a;walk_at "R";rw[e1];refine⟨_,k1,by rw[aB];(clear hx hy hl2 hd hde g1 h2 k1;lia),by rw[length_append,aB,aB];simp;(clear hx hy hd hde g1 h2 k1;lia),G,le2,?_⟩;rw[O.plus_c,d5,bu] at hq;rw[append_assoc];exact hq
theorem Dp (F:cJ K "_law_pool" "_law_pool" (ax 64) f fd) (F1:Fx P w K mg base "_law_next" ["_law_pool_here","_law_cell"] 62 Bh):cq P w K mg base 63 f fd ["_law_script"] Bi:=by
 refine fE F (N:=["_law_script","_law_pool_here","_law_cell"]) (by walk_at "s") (by walk_at "l") λ_ _ _ _ _ _ nd hr=>?_;apply aM
 ·exact(ac (aA 1 nd rfl (.inl rfl) (dC (ae (aJ ag) (ae (aJ (ae (aJ (ae (aJ ag) (ae ah ag))) ag)) (ae (aJ (ae (aJ (ae (aJ (ae (aJ (ae (aJ ag) (ae ah ag))) ag)) (ae ah ag))) ag)) ag))))) (ac (eA PySem.PassesOwn.never rfl (bK (bV (aa 0) dr (cm ah))) (ck 2 nd rfl (.inl rfl)) (ac (bB (dh (aa 1) (ay F1 (av.mono hr (by lia)) rfl (ae (aa 1) (ae (aa 2) ag))))) af)) (ac (aq (aa 1)) af)))
 ·rintro ws G q e ⟨ns,rfl,hl,hq⟩;walk_at "a0";intro p hp;walk_at "a";have e12:dt (ns.map W.int) none (some 12)=(ns.take 12).map W.int:=by rw[show(12:Int)=((12:Nat):Int) from rfl,sL,List.map_take]
  rw[e12];refine⟨by walk_at "om",λp2 hp2=>⟨_,al,?_⟩⟩;have h3:[W.tup [],W.tup [W.tup [W.tup [],W.int 1]],W.tup [W.tup [W.tup [W.tup [W.tup [],W.int 1]],W.int 1]]]=bX (cQ++[]):=rfl;rw[h3] at hp2 ⊢;have hne:p2≠p:=λz=>by rw[z,al] at hp2;cases hp2
  have g3:∀o,o∈cQ++([]:List O)->tN (1+(([]:List O).length:Int)*10^50) o:=λo ho=>by
   simp[cQ] at ho;rcases ho with rfl | rfl | rfl
   ·exact⟨⟨trivial,by simp[O.size],by first | decide | (simp[O.mx];lia)⟩,by decide⟩
   ·exact⟨⟨⟨trivial,by (clear hl;lia),trivial,trivial⟩,by simp[O.size],by first | decide | (simp[O.mx];lia)⟩,by decide⟩
   ·exact⟨⟨⟨⟨trivial,by (clear hl;lia),trivial,trivial⟩,by (clear hl;lia),trivial,trivial⟩,by simp[O.size],by first | decide | (simp[O.mx];lia)⟩,by decide⟩
  refine ca (λws τ G'=>∃(cs:List Int) (more:List O) (t:Option W),ws=cs.map W.int/\τ=[some (.scr ns),some (.ref p),t]/\G' p=some (.lst (bX (cQ++more)))/\G' p2=some (.lst ((ns.take 12).map W.int))/\aL G G'/\cs.length+more.length<=12/\∀o,o∈cQ++more->tN (1+(more.length:Int)*10^50) o) ?_ ?_ _ _ _
   ⟨ns.take 12,[],none,rfl,rfl,by rw[aO (Ne.symm hne)];exact al,al,(aL.new hp).trans (aL.new hp2),by simp;lia,g3⟩
  ·rintro τ G' ⟨cs,more,t,hw,rfl,k1,k2,le,hlen,hg⟩;refine⟨k2,?_⟩;subst hU;walk_at "R";refine⟨aV G p (.lst (bX (cQ++more))),λa g ea=>?_,hq p more hp (by (clear hl;lia)) λo ho=>(hg o ho).mono ?_⟩
   ·by_cases hb:a=p
    ·subst hb;rw[al] at ea;rw[k1,ea]
    ·rw[aO hb] at ea;exact le a g ea
   ·have:more.length<=12:=by (clear hl;lia)
    (clear hl hlen;lia)
  ·rintro w1 ws τ G' kk ⟨cs,more,t,hw,rfl,k1,k2,le,hlen,hg⟩ hk;cases cs with
   | nil=>cases hw
   | cons c0 cs=>
     cases hw;refine⟨k2,?_⟩;simp only[length_cons] at hlen;walk_at "R";refine⟨⟨_,k1⟩,p,cQ++more,c0,_,rfl,k1,by simp[cQ],by simp[cQ];(clear hl;lia),?_,hg,λo ho=>⟨_,k1,by rw[bE];simp[cQ];(clear hl;lia),?_⟩⟩
     ·(clear hl hlen;lia)
     ·rw[d6,append_assoc];refine hk _ _ ⟨cs,more++[o],_,rfl,rfl,al,by rw[aO hne];exact k2,λa g ea=>?_,by simp;(clear hl;lia),λo' ho'=>?_⟩
      ·rw[aO (λz=>by rw[z,hp] at ea;cases ea)];exact le a g ea
      ·have hc:((more++[o]).length:Int)=more.length+1:=by simp
       rw[hc];rw[←append_assoc] at ho';rcases mem_append.mp ho' with h | h
       ·exact(hg o' h).mono (by (clear hl hlen hc;lia))
       ·have:o'=o:=by simpa using h
        subst this;exact ho.mono (by (clear hl hlen hc;lia))
noncomputable def fY (e:O) (te:List Nat):List Nat:=if e=.z∨e=.c .z 1 .z then [] else if mS e=true∨e=om then 94::te else 94::40::(te++[41])
theorem pz {e:O} {te:List Nat} (h:e≠ .z):eS e te=119::fY e te:=by
 unfold eS fY
 by_cases h1:e=.c .z 1 .z
 ·rw[ycv h1,ycv (.inr h1)]
 ·rw[ycw h1,ycw (show ¬(e=.z∨e=.c .z 1 .z) from λz=>z.elim h h1)];split<;> rfl
theorem pA (e:O) (te:List Nat):(fY e te).length<=te.length+3:=by
 unfold fY;split
 ·simp
 ·split<;> simp
theorem Bo {y r:O} {m:Int} (h:(O.c y m r).NF):mS (.c y m r)=decide (y=.z):=by
 cases y with
 | z=>
   have hr:=O.Lt_z h.2.2.1;subst hr
   rfl
 | c a b d=>simp[mS]
theorem n6:∀a:O,(fk a).length=a.len
 | .z=>rfl
 | .c e n r=>by simp only[fk,length_cons,n6 r,O.len]
theorem Dq {d k:Nat} (F:cJ K "_law_shown" "_law_shown" (ax 67) f fd) (F1:Fx P w K mg base "_law_shown" ["_law_number"] k (mO d)) (ms:mg "str"=none):cq P w K mg base (k+1) f fd ["_law_number"] (mO (d+1)):=by
 refine fE F (N:=["_law_number","_law_parts","_law_exponent","_law_many","_law_inside"]) (by walk_at "s") (by walk_at "l") λ_ _ _ _ _ _ nd hr=>?_;apply aM
 ·refine' ac ?s1 (ac ?s2 (ac ?s3 (bp (aq (my [43] ?e1)))))
  case s1=>exact(aA 1 nd rfl (.inl rfl) (dC ag))
  case s2=>exact(eA PySem.PassesOwn.never rfl (bK (aa 0)) (kj rfl (cW (ck 2 nd rfl (.inl rfl)) (cW (ck 3 nd rfl (.inl rfl)) ik))) (ac (aA 4 nd rfl (.inl rfl) aZ) (ac (aW (eW (gF (aw (d8 hr) (aa 2) (aJ ag)) (fo (aw (d8 hr) (aa 2) (aJ (ae (aJ (ae (aJ ag) (ae ah ag))) ag)))))) (ac (aA 4 nd rfl (.inl rfl) (ay F1 (av.mono hr (by lia)) rfl (ae (aa 2) ag))) (ac (aW (eW (gF (aw (d8 hr) (aG aH (aG aH (aa 2) ah) ah) (aJ ag)) (fo (aw (d8 hr) (aa 2) (aJ (ae (aJ (ae (aJ (ae (aJ (ae (aJ ag) (ae ah ag))) ag)) (ae ah ag))) ag)))))) (ac (aA 4 nd rfl (.inl rfl) (aE aX (aE aX aZ (aa 4)) aZ)) af) af) (ac (aA 4 nd rfl (.inl rfl) (aE aX aZ (aa 4))) af))) af) (ac (aW (aw (bx hr) (aa 2) (aJ ag)) (ac (bB (dh (aa 1) (cC sY rfl ms PyProof.Rows.boot_str (ae (aa 3) ag)))) af) (ac (aW (aw iG (aa 3) ah) (ac (bB (dh (aa 1) (aE aX (aE aX (aE aX aZ (aa 4)) aZ) (cC sY rfl ms PyProof.Rows.boot_str (ae (aa 3) ag))))) af) (ac (bB (dh (aa 1) (aE aX aZ (aa 4)))) af)) af)) af))))
  case s3=>exact(aW (aw (bx hr) (aa 1) (dC ag)) (ac (aq aZ) af) af)
  case e1=>exact(aa 1)
 ·rintro ws G q e ⟨a,rfl,hS,hd,hd60,hq⟩;have hla:=O.len_le_size a;have hs:=hS.2.1;have hln:=hS.len;walk_at "a0";intro p hp;subst hU;refine aN λU0 hU0=>?_;walk_at "R";refine ca (λws τ G'=>∃(r:O) (dn:List (List Nat)) (t2 t3 t4:Option W),ws=am r/\τ=[some (.tup (am a)),some (.ref p),t2,t3,t4]/\aL G G'/\G' p=some (.lst (dn.map λl=>W.str ⟨l.toArray⟩))/\dn++fk r=fk a/\qw r/\r.dp<d+1) ?_ ?_ _ _ _ ⟨a,[],_,_,_,rfl,rfl,aL.new hp,al,rfl,hS,hd⟩
  ·rintro τ G' ⟨r,dn,t2,t3,t4,hw,rfl,hle,hG,hdn,_,_⟩;cases r with
   | c y n r=>cases hw
   | z=>
     refine⟨trivial,?_⟩;have hdn:dn=fk a:=by rw[←hdn];exact(append_nil _).symm
     subst hdn;subst hU0;dsimp only;walk_at "a0";intro p1 hp1;refine⟨_,.nil (bF hG hp1) al,?_⟩;cases a with
     | z=>
       rw[ycv (by rfl)];exact⟨G,hle.trans (aL.new hp1),hq⟩
     | c x n r=>
       rw[ycw (by simp[fk])];subst hU;unfold nX;walk_at "R";have h1:=je (.c x n r) (by simp);refine⟨p,fk (.c x n r),rfl,bF hG hp1,by (clear hd60 hd hla hs;lia),G,hle.trans (aL.new hp1),?_⟩;rw[gS _ (by simp)];exact hq
  ·rintro w1 ws τ G' kk ⟨r,dn,t2,t3,t4,hw,rfl,hle,hG,hdn,hSr,hdr⟩ hk;cases r with
   | z=>cases hw
   | c x n r=>
     rw[bu] at hw;cases hw;refine⟨trivial,?_⟩;obtain⟨sx,sr,hn1,hn2⟩:=hSr.pt;simp only[O.dp] at hdr;have hlx:=sx.len;have hil:=pA x (bH aF x);have hda:=bD x;obtain⟨f1,f2⟩:=kR (n:=n) (by (clear hd hd60 hla hs hln hdr hlx hil hda;lia)) hn2;have hnn:((n.toNat:Nat):Int)=n:=Int.toNat_of_nonneg (by (clear hd hd60 hla hs hln hdr hlx hil hda f1 f2;lia));have hdl:=congrArg List.length hdn;rw[length_append,n6,n6] at hdl;have next:∀t2 t3 t4,(∃xs,G' p=some (GO.lst xs))/\∃ys,G' p=some (.lst ys)/\ys.length<=99999/\kk [some (.tup (am a)),some (.ref p),t2,t3,t4] (aV G' p (.lst (ys++[.str (bL (dc aF x n (bH aF x)))]))):=λt2 t3 t4=>by
      refine⟨⟨_,hG⟩,_,hG,by rw[length_map];(clear hd hd60 hln hdr hn1 hn2 hlx hil hda f1 f2 hnn;lia),hk _ _ ⟨r,dn++[dc aF x n (bH aF x)],_,_,_,rfl,rfl,aL.put hle hp,?_,?_,sr,by (clear hd hd60 hla hs hln hlx hil hda f1 f2 hdl;lia)⟩⟩
      ·rw[al,map_append]
       rfl
      ·rw[append_assoc];exact hdn
     unfold dm eT;simp only[rn,ju,rm,eR,List.set_cons_succ,List.set_cons_zero];refine⟨rfl,?_⟩;walk_at "a0";subst hU;refine aN λU hU=>?_;have fin:∀D:dU,D.nx=kk->U D [some (.tup (am a)),some (.ref p),some (.tup (am x)),some (.int n),some (.str (bL (fY x (bH aF x))))] G':=λD hD=>by
      subst hD;subst hU;walk_at "R";refine⟨aD x,by (clear hd hla hs hln hlx hil f1 f2 hdl;lia),?_⟩;rw[bh];unfold dc at next
      by_cases hz:x=.z
      ·rw[ycv (by simpa using hz)];rw[ycv hz] at next;obtain⟨h1,h2⟩:=next (some (.tup (am x))) (some (.int n)) (some (.str (bL (fY x (bH aF x)))));exact⟨h1,n.toNat,hnn.symm,f1,h2⟩
      ·rw[ycw (by simpa using hz)];rw[ycw hz,pz hz] at next;refine cP (λh1=>?_) λh1=>?_
       ·rw[ycw (by (clear hd hd60 hla hs hln hdr hlx hil hda f1 f2 hdl;lia))] at next;obtain⟨h1,h2⟩:=next (some (.tup (am x))) (some (.int n)) (some (.str (bL (fY x (bH aF x)))));refine⟨h1,by rw[show Str.ofString "w"=bL [119] from rfl,aP,aP,length_singleton];(clear hd hd60 hla hs hln hdr hn1 hn2 hda f1 f2 hnn hdl;lia),?_⟩;rw[show Str.ofString "w"=bL [119] from rfl,show Str.ofString "*"=bL [42] from rfl,dv [119] (fY x (bH aF x)),dv ([119]++fY x (bH aF x)) [42]];refine⟨by rw[aP,aP];simp only[length_append,length_cons,length_nil];(clear hd hd60 hla hs hln hdr hn1 hn2 hda f1 f2 hnn hdl;lia),n.toNat,hnn.symm,f1,?_⟩;have e2:=dv ([119]++fY x (bH aF x)++[42]) (aF n.toNat);rw[e2];have e3:[119]++fY x (bH aF x)++[42]++aF n.toNat=119::fY x (bH aF x)++42::aF n.toNat:=by simp
        rw[e3];refine⟨?_,h2⟩;have e4:=aP (aF n.toNat);rw[e4,aP];simp only[length_append,length_cons,length_nil]
        (clear hd hd60 hla hs hln hdr hn1 hn2 hda f1 hnn hdl;lia)
       ·rw[ycv (by (clear hd hd60 hla hs hln hdr hlx hil hda f1 f2 hdl;lia))] at next;obtain⟨h1,h2⟩:=next (some (.tup (am x))) (some (.int n)) (some (.str (bL (fY x (bH aF x)))));refine⟨h1,by rw[show Str.ofString "w"=bL [119] from rfl,aP,aP,length_singleton];(clear hd hd60 hla hs hln hdr hn1 hn2 hda f1 f2 hnn hdl;lia),?_⟩;rw[show Str.ofString "w"=bL [119] from rfl,dv [119] (fY x (bH aF x))];exact h2
     generalize hD:({ nx:=kk,rt:=λw G1=>∃G0,aL G0 G1/\q w G0,bk:=U0 { nx:=λx G1=>∃G0,aL G0 G1/\q W.non G0,rt:=λw G1=>∃G0,aL G0 G1/\q w G0 },ct:=kk }:dU)=D;have fin:=fin D (by rw[←hD]);walk_at "R";refine⟨aD x,by (clear hd hla hs hln hlx hil f1 f2 hdl;lia),?_⟩;rw[bh];unfold fY at fin
     by_cases hz:x=.z
     ·rw[ycw (by simpa using hz)];rw[ycv (.inl hz)] at fin;exact fin
     rw[ycv (by simpa using hz)];refine⟨aD x,by rfl,by (clear hd hla hs hln hlx hil f1 f2 hdl;lia),?_⟩;rw[show W.tup [W.tup [W.tup [],W.int 1]]=W.tup (am (.c .z 1 .z)) from rfl,dH]
     by_cases h1:x=.c .z 1 .z
     ·rw[ycw (by simpa using h1)];rw[ycv (.inr h1)] at fin;exact fin
     rw[ycv (by simpa using h1)];rw[ycw (show ¬(x=.z∨x=.c .z 1 .z) from λz=>z.elim hz h1)] at fin;refine⟨x,rfl,sx,by (clear hd hd60 hla hs hln hlx hil hda f1 f2 hdl;lia),by (clear hd hla hs hln hdr hn1 hn2 hlx hil hda f1 f2 hnn hdl;lia),?_⟩;cases x with
     | z=>exact absurd rfl hz
     | c y m r'=>
       have hy:=bD y;rw[Bo sx.1] at fin;refine⟨_,cL (j:=0) rfl,?_⟩;walk_at "R";simp only[O.dp] at hdr hda;have short:(y=.z∨O.c y m r'=om)->(Str.ofString "^").length+(bL (bH aF (.c y m r'))).length<=100000/\U D [some (W.tup (am a)),some (W.ref p),some (W.tup (am (.c y m r'))),some (W.int n),some (W.str (Str.ofString "^"++bL (bH aF (.c y m r'))))] G':=λh=>by
        rw[ycv (h.imp (λz=>ydz z) id)] at fin;rw[show Str.ofString "^"=bL [94] from rfl,dv [94] (bH aF (.c y m r')),aP,aP,length_singleton];exact⟨by (clear hd hd60 hla hs hln hn1 hn2 f1 f2 hnn hdr hil hda hdl hy;lia),fin⟩
       refine⟨aD y,by (clear hd hla hs hln hn1 hn2 f1 f2 hnn hlx hil hda hdl;lia),?_⟩;rw[bh]
       by_cases hy0:y=.z
       ·rw[ycw (by simpa using hy0)];exact short (.inl hy0)
       rw[ycv (by simpa using hy0)];refine⟨aD _,by rfl,by (clear hd hla hs hln hn1 hn2 f1 f2 hnn hlx hil hdl hy;lia),?_⟩;rw[show W.tup [W.tup [W.tup (am (O.z.c 1 O.z)),W.int 1]]=W.tup (am om) from rfl,dH]
       by_cases hyo:O.c y m r'=om
       ·rw[ycw (by simpa using hyo)];exact short (.inr hyo)
       rw[ycv (by simpa using hyo)];rw[ycw (λz=>z.elim (λz=>hy0 (of_decide_eq_true z)) hyo)] at fin;rw[show Str.ofString "^"=bL [94] from rfl,show Str.ofString "("=bL [40] from rfl,show Str.ofString ")"=bL [41] from rfl,dv [40] (bH aF (.c y m r')),dv ([40]++bH aF (.c y m r')) [41],dv [94] ([40]++bH aF (.c y m r')++[41])];simp only[aP,length_append,length_cons,length_nil];exact⟨by (clear hd hd60 hla hs hln hn1 hn2 f1 f2 hnn hdr hil hda hdl hy;lia),by (clear hd hd60 hla hs hln hn1 hn2 f1 f2 hnn hdr hil hda hdl hy;lia),by (clear hd hd60 hla hs hln hn1 hn2 f1 f2 hnn hdr hil hda hdl hy;lia),fin⟩
theorem Bp (T:Txt K mg):∀d:Nat,Fx P w K mg base "_law_shown" ["_law_number"] d (mO d)
 | 0=>T.d__law_shown.fx λf fd F=>cq.none λws G q e ⟨a,_,_,h,_⟩=>by walk_at "om"
 | d+1=>T.d__law_shown.fx λf fd F=>Dq F (Bp T d) T.z_str
theorem kY (k:Nat) (hk:0<k):∀a:O,a.NF->(∀n:Int,n<=O.mx a->n.toNat<10^k)->(bH aF a).length<=(k+7)*a.size+1
 | .z,_,_=>by rw[show bH aF .z=[48] from rfl];simp
 | .c e n r,hn,hm=>by
   have h1:=kY k hk e hn.1 λm h=>hm m (ydv h O.mx_he);have h2:=kY k hk r hn.2.2.2 λm h=>hm m (ydv h O.mx_hr);have h3:=jb hk (hm n O.mx_hn);have h4:=pA e (bH aF e);have h5:(dc aF e n (bH aF e)).length<=(bH aF e).length+(k+5):=by
    unfold dc;split
    ·(clear hk h1 h2 h4;lia)
    ·rename_i he;rw[pz he];split
     ·simp only[length_cons]
      (clear h1 h2 h3;lia)
     ·simp only[length_append,length_cons]
      (clear hk h1 h2;lia)
   have h6:(bZ aF r).length<=(bH aF r).length+1:=by
    cases r with
    | z=>simp[bZ]
    | c e' n' r'=>simp[bZ]
   rw[fM,length_append];have hs:O.size (.c e n r)=1+O.size e+O.size r:=rfl;rw[hs,Nat.mul_add,Nat.mul_add]
   (clear hk h3 h4 hs;lia)
theorem yE {a:O} (h:cv a):(bH aF a).length<=721:=by
 have:=kY 53 (by decide) a h.1 λn hn=>by
  have h1:n<=10^52:=ydv hn h.2.2;have h2:(10:Int)^52<((10^53:Nat):Int):=by decide
  (clear hn h2;lia)
 have:=h.2.1;lia
theorem cv.sm {a:O} (h:cv a):qw a:=⟨h.1,by have:=h.2.1;lia,Int.lt_of_le_of_lt h.2.2 (by decide+kernel)⟩
theorem tN.sm {o:O} (h:tN (10^52) o):cv o:=⟨h.1.nf,h.2,h.1.mx⟩
theorem mP {P:W->Prop} {k:bG} {v:W} {kvs:List (bG×W)} (h:∀x,x∈kvs->P x.2) (hv:P v):∀x,x∈i7 kvs k v->P x.2:=λx hx=>by
 unfold i7 at hx;split at hx
 ·obtain⟨y,hy,rfl⟩:=List.mem_map.mp hx;split
  ·exact hv
  ·exact h y hy
 ·rcases mem_append.mp hx with hx | hx
  ·exact h x hx
  ·rw[mem_singleton.mp hx];exact hv
theorem Bq {kvs:List (bG×W)} (h:∀x,x∈kvs->∃o,x.2=.tup (am o)):∃nm,tH kvs nm:=by
 have h2:∀l:List Nat,∃o:Option O,fC kvs (.inr (bL l))=o.map λb=> .tup (am b):=λl=>by
  unfold fC;cases e:kvs.find? λkv=>decide (kv.1=.inr (bL l)) with
  | none=>exact⟨none,rfl⟩
  | some x=>
    obtain⟨o,ho⟩:=h x (List.mem_of_find?_eq_some e);exact⟨some o,congrArg some ho⟩
 exact⟨λl=>(h2 l).choose,λl=>(h2 l).choose_spec⟩
theorem v6 {xs:List W} {R:W->Prop} (c:Int) {n:Int} (hn:n=(xs.length:Int)) (h0:0<xs.length) (hR:∀x,x∈xs->R x):∃x,eg xs (c%n)=some x/\R x:=by
 have h1:=Int.emod_nonneg c (b:=n) (by walk_at "om");have h2:=Int.emod_lt_of_pos c (b:=n) (by (clear h1;lia));obtain⟨j,hj⟩:∃j:Nat,c%n=(j:Int):=⟨(c%n).toNat,(Int.toNat_of_nonneg h1).symm⟩;have hj2:j<xs.length:=by (clear h0 h1;lia)
 rw[hj];exact⟨xs[j],cL (ycz hj2),hR _ (getElem_mem hj2)⟩
noncomputable def EA (l:List Nat) (o:O):Prop:=l.length<=2000/\∃s,cZ l=some s/\cu s []=some [o]
theorem yF {o:O} (so:cv o):∀l,l∈[[40]++bH aF o++[41],bH aF o++[43,48],[40,40]++bH aF o++[41,41],[49,42,40]++bH aF o++[41],[40]++bH aF o++[41,42,49]]->EA l o:=λl hl=>by
 have lo:=yE so;obtain⟨ts,rs⟩:=o5 mD so;simp only[mem_cons,List.not_mem_nil,or_false] at hl;rcases hl with rfl | rfl | rfl | rfl | rfl
 ·exact⟨by simp only[length_append,length_cons,length_nil];lia,_,(by rw[←Ah mD so];simp),rs⟩
 ·obtain⟨s,h1,h2⟩:=o6 mD so (b:= .z) ⟨trivial,by decide,by decide⟩;exact⟨by simp only[length_append,length_cons,length_nil];lia,s,h1,h2⟩
 ·exact⟨by simp only[length_append,length_cons,length_nil];lia,_,(by rw[←yd mD so];simp),rs⟩
 ·obtain⟨s,h1,h2⟩:=u0 mD so;exact⟨by simp only[length_append,length_cons,length_nil];lia,s,(by rw[←h1];simp),h2⟩
 ·obtain⟨s,h1,h2⟩:=u3 mD so;exact⟨by simp only[length_append,length_cons,length_nil];lia,s,(by rw[←h1];simp),h2⟩
theorem Dr (F:cJ K "law" "law" (ax 69) f fd) (F1:Fx P w K mg base "_law_pool" ["_law_script"] 63 Bi) (F2:Fx P w K mg base "_law_shown" ["_law_number"] 13 (mO 13)) (F3:Fx P w K mg base "shown" ["a"] 44 (mO 13)) (F4:Fx P w K mg base "read" ["text","names"] 91 yD) (F5:Aa P w K mg base "read" ["text","names"] 91 yD [.non]) (F6:Fx P w K mg base "_law_is" ["_law_found","_law_due"] 61 Bj) (F7:Fx P w K mg base "_law_plus" ["_law_a","_law_b"] 61 Bn) (ml:mg "len"=none) (mr:mg "range"=none) (mi:mg "isinstance"=none) (ms:mg "str"=none):cq P w K mg base 100 f fd ["_law_script"] jJ:=by
 refine fE F (N:=["_law_script","_law_pool_here","_law_k","_law_cell","_law_due","_law_found","_law_other","_law_one"]) (by walk_at "s") (by walk_at "l") λ_ _ _ _ _ _ nd hr=>?_;apply aM
 ·refine' ac ?s1 (ac (eA PassesOwn.never rfl ?it ?tg (ac ?b1 (ac ?b2 (ac ?b3 (ac ?b4 (ac ?b5 (ac ?b6 (ac ?b7 (ac (aW (dg (bQ (ay F6 (av.mono hr (by walk_at "om")) rfl (ae (ay F4 (av.mono hr (by walk_at "om")) rfl (ae ?x1 (ae (vI (mm ?p1 (mm ?p2 vH))) ag))) (ae ?x2 ag))))) ?r8 af) (ac ?b9 (bp ?b10))))))))))) (bp ?s3))
  case s1=>exact(aA 1 nd rfl (.inl rfl) (ay F1 (av.mono hr (by lia)) rfl (ae (aa 0) ag)))
  case it=>exact(rF rfl mr (ae (bc cj rfl ml PySem.boot_len (ae (aa 1) ag)) ag))
  case tg=>exact(ck 2 nd rfl (.inl rfl))
  case b1=>exact(aA 3 nd rfl (.inl rfl) ah)
  case b2=>exact(aW (aw (iM hr) (aa 2) (bc cj rfl ml PySem.boot_len (ae (aa 0) ag))) (ac (aA 3 nd rfl (.inl rfl) (aE dY (aG aH (aa 0) (aa 2)) (aE iO ah ah))) af) af)
  case b3=>exact(aA 4 nd rfl (.inl rfl) (ay F2 (av.mono hr (by lia)) rfl (ae (aG aH (aa 1) (aa 2)) ag)))
  case b4=>exact(aA 5 nd rfl (.inl rfl) (ay F3 (av.mono hr (by lia)) rfl (ae (aG aH (aa 1) (aa 2)) ag)))
  case b5=>exact(aW (eW (eV (dg (bQ (eY (T:="str") (x:="str") (by first | simp[iI] | assumption | decide+kernel) PyProof.Rows.boot_str ms rfl mi rfl (aa 5)))) (dB (aw (d8 hr) (aa 5) (aa 4))))) (ac (aq eU) af) af)
  case b6=>exact(aW (dg (bQ (ay F6 (av.mono hr (by lia)) rfl (ae (ny F5 (av.mono hr (by lia)) rfl (ae (aa 5) ag)) (ae (aG aH (aa 1) (aa 2)) ag))))) (ac (aq eU) af) af)
  case b7=>exact(aA 6 nd rfl (.inl rfl) (aG aH (dC (ae (aE aX (aE aX aZ (aa 4)) aZ) (ae (aE aX (aa 4) aZ) (ae (aE aX (aE aX aZ (aa 4)) aZ) (ae (aE aX (aE aX aZ (aa 4)) aZ) (ae (aE aX (aE aX aZ (aa 4)) aZ) ag)))))) (aE dY (aa 3) ah)))
  case x1=>exact(aa 6)
  case p1=>exact(aG aH (aa 1) ah)
  case p2=>exact(aG aH (aa 1) ah)
  case x2=>exact(aG aH (aa 1) (aa 2))
  case r8=>exact(ac (aq eU) af)
  case b9=>exact(aA 7 nd rfl (.inl rfl) (aG aH (aa 1) (aE dY (aE dY (aE kI (aa 3) ah) ah) (bc cj rfl ml PySem.boot_len (ae (aa 1) ag)))))
  case b10=>exact(aW (dg (bQ (ay F6 (av.mono hr (by lia)) rfl (ae (ay F4 (av.mono hr (by lia)) rfl (ae (aE aX (aE aX (aa 4) aZ) (ay F2 (av.mono hr (by lia)) rfl (ae (aa 7) ag))) (ae pd ag))) (ae (ay F7 (av.mono hr (by lia)) rfl (ae (aG aH (aa 1) (aa 2)) (ae (aa 7) ag))) ag))))) (ac (aq eU) af) af)
  case s3=>exact(aq eU)
 ·rintro ws G q e ⟨ns,rfl,hl,hq⟩;walk_at "a0";refine⟨ns,rfl,hl,λp more hp hm hg=>?_⟩;have hG:aV G p (.lst (bX (cQ++more))) p=some (.lst (bX (cQ++more))):=al;generalize aV G p (.lst (bX (cQ++more)))=G1 at hG ⊢;generalize hpool:cQ++more=pool at hg hG ⊢;have h0:3<=pool.length:=by rw[←hpool];simp[cQ]
  have hsz:pool.length<=15:=by rw[←hpool];simp[cQ];assumption
  walk_at "a";refine⟨_,.lst hG,by (clear hl hm h0 hsz;lia),by rw[bE];(clear hl hm;lia),?_⟩;rw[bE];refine vv pool.length (λi τ G'=>G' p=some (.lst (bX pool))/\∃t2 t3 t4 t5 t6 t7,τ=[some (.scr ns),some (.ref p),t2,t3,t4,t5,t6,t7]) ⟨hG,_,_,_,_,_,_,rfl⟩ ?_ ?_
  ·rintro τ G' ⟨hG,t2,t3,t4,t5,t6,t7,rfl⟩;refine⟨trivial,?_⟩;subst hU;walk_at "R";exact aL.done (hq _)
  ·rintro i τ G' kk hi ⟨hG,t2,t3,t4,t5,t6,t7,rfl⟩ hk;refine⟨trivial,?_⟩;simp only[eR,List.set_cons_succ,List.set_cons_zero];generalize hD:({ nx:=kk,rt:=λw G1=>∃G0,aL G0 G1/\q w G0,bk:=U { nx:=λx G1=>∃G0,aL G0 G1/\q W.non G0,rt:=λw G1=>∃G0,aL G0 G1/\q w G0 },ct:=kk }:dU)=D;have hDn:D.nx=kk:=by rw[←hD]
   obtain⟨o,mo,eo⟩:∃o,o∈pool/\pool[i]?=some o:=⟨_,getElem_mem hi,ycz hi⟩;have dI:∀(R:W->Prop),R (.tup (am o))->∃w,eg (bX pool) (i:Int)=some w/\R w:=λR h=>sP hi λa ma ea=>by rw[eo] at ea;cases ea;exact h
   have so:=(hg o mo).sm;have lo:=yE so;have do':o.dp<=12:=ycy (O.dp_le_size o) so.2.1;refine aN λU1 hU1=>?_;walk_at "R";subst hU1;refine aN λU1 hU1=>?_;have rest:∀c:Int,U1 D [some (.scr ns),some (.ref p),some (.int i),some (.int c),t4,t5,t6,t7] G':=λc=>by
    walk_at "b";refine fi hG (dI _ ⟨o,rfl,cv.sm so,by (clear hl hm h0 hsz hi eo lo;lia),by decide,?_⟩);walk_at "b";refine fi hG (dI _ ⟨o,rfl,cv.sm so,by (clear hl hm h0 hsz hi eo lo;lia),by decide,?_⟩);walk_at "b";simp only[pV];rw[ycw (by decide)];refine⟨rfl,rfl,zero_le _,?_⟩;rw[eO,ycw (by simp)];walk_at "b";obtain⟨ts,rs⟩:=o5 mD so;refine⟨_,_,_,o,rfl,.inl rfl,by walk_at "om",ts,rs,?_⟩;refine fi hG (dI _ ⟨o,o,rfl,by walk_at "om",?_⟩);rw[ydz rfl];walk_at "R";walk_at "b";have oth:=yF so;generalize hSo:bH aF o=S at lo oth ⊢;rw[show Str.ofString "("=bL [40] from rfl,show Str.ofString ")"=bL [41] from rfl,show Str.ofString "+0"=bL [43,48] from rfl,show Str.ofString "(("=bL [40,40] from rfl,show Str.ofString "))"=bL [41,41] from rfl,show Str.ofString "1*("=bL [49,42,40] from rfl,show Str.ofString ")*1"=bL [41,42,49] from rfl,
     dv [40] S,dv ([40]++S) [41],dv S [43,48],dv [40,40] S,dv ([40,40]++S) [41,41],dv [49,42,40] S,dv ([49,42,40]++S) [41],dv ([40]++S) [41,42,49]]
    simp only[aP];refine⟨by simp only[length_cons,length_nil];(clear hl hm h0 hsz hi eo do';lia),by simp only[length_append,length_cons,length_nil];(clear hl hm h0 hsz hi eo do';lia),by simp only[length_cons,length_nil];(clear hl hm h0 hsz hi eo do';lia),by simp only[length_cons,length_nil];(clear hl hm h0 hsz hi eo do';lia),by simp only[length_append,length_cons,length_nil];(clear hl hm h0 hsz hi eo do';lia),by simp only[length_cons,length_nil];(clear hl hm h0 hsz hi eo do';lia),by simp only[length_append,length_cons,length_nil];(clear hl hm h0 hsz hi eo do';lia),by simp only[length_cons,length_nil];(clear hl hm h0 hsz hi eo do';lia),by simp only[length_append,length_cons,length_nil];(clear hl hm h0 hsz hi eo do';lia),λp1 hp1=>?_⟩;have hG2:=λg:GO=>bF (g:=g) hG hp1;refine fi al (v6 c (by rfl) (by simp) λx hx=>?_);obtain⟨l2,hl2,rfl⟩:∃l,l∈[[40]++S++[41],S++[43,48],[40,40]++S++[41,41],[49,42,40]++S++[41],[40]++S++[41,42,49]]/\W.str (bL l)=x:=by
     simp only[mem_cons,List.not_mem_nil,or_false] at hx;rcases hx with rfl | rfl | rfl | rfl | rfl
     ·exact⟨_,by simp,rfl⟩
     ·exact⟨_,by simp,rfl⟩
     ·exact⟨_,by simp,rfl⟩
     ·exact⟨_,by simp,rfl⟩
     ·exact⟨_,by simp,rfl⟩
    obtain⟨ll2,s2,hs2,hr2⟩:=oth l2 hl2;have hG2:=hG2 (GO.lst [W.str (bL ([40]++S++[41])),W.str (bL (S++[43,48])),W.str (bL ([40,40]++S++[41,41])),W.str (bL ([49,42,40]++S++[41])),W.str (bL ([40]++S++[41,42,49]))]);generalize aV G' p1 (GO.lst [W.str (bL ([40]++S++[41])),W.str (bL (S++[43,48])),W.str (bL ([40,40]++S++[41,41])),W.str (bL ([49,42,40]++S++[41])),W.str (bL ([40]++S++[41,42,49]))])=G2 at hG2 ⊢;walk_at "b";simp only[wI,DA,Dz];walk_at "R";intro p2 hp2;have hG3:aV G2 p2 (GO.dic []) p=some (.lst (bX pool)):=bF hG2 hp2;obtain⟨o1,e1⟩:∃o,pool[1]?=some o:=⟨_,ycz (by (clear hl hm hi eo do' lo ll2;lia))⟩;obtain⟨o2,e2⟩:∃o,pool[2]?=some o:=⟨_,ycz (by assumption)⟩;refine⟨_,.tup (am o1),hG3,cL (j:=1) (by rw[bX,List.getElem?_map,e1];rfl),_,.tup (am o2),hG3,cL (j:=2) (by rw[bX,List.getElem?_map,e2];rfl),al,?_⟩;rw[fX];obtain⟨kvs,hkvs⟩:∃kvs,kvs=L2.putAll [] [(Str.ofString "a",W.tup (am o1)),(Str.ofString "wx",W.tup (am o2))]:=⟨_,rfl⟩;rw[←hkvs];have hG4:aV G2 p2 (GO.dic kvs) p=some (.lst (bX pool)):=bF hG2 hp2;obtain⟨nm,hnm⟩:=Bq (kvs:=kvs) (by
     rw[hkvs];unfold L2.putAll;simp only[foldl_cons,List.foldl_nil];exact mP (P:=λx=>∃o,x=.tup (am o)) (mP (P:=λx=>∃o,x=.tup (am o)) (kvs:=[]) (λx hx=>by cases hx) ⟨o1,rfl⟩) ⟨o2,rfl⟩)
    refine⟨l2,_,s2,o,rfl,.inr ⟨p2,_,nm,rfl,.inl al,hnm⟩,ll2,hs2,hr2,?_⟩;generalize aV G2 p2 (GO.dic kvs)=G3 at hG4 ⊢;refine fi hG4 (dI _ ⟨o,o,rfl,by walk_at "om",?_⟩);rw[ydz rfl];walk_at "R";walk_at "b";refine⟨_,.lst hG4,by rw[bE];(clear hl hm hi eo do' lo ll2 e1 e2;lia),?_⟩;rw[bE];refine fi hG4 (i6 rfl (by (clear hl hm hi eo do' lo ll2 e1 e2;lia)) λb mb=>?_);have sb:=(hg b mb).sm;have lb:=yE sb;have db:b.dp<=12:=ycy (O.dp_le_size b) sb.2.1;subst hU1;walk_at "R";rw[show Str.ofString "+"=bL [43] from rfl,dv S [43],aP,aP,length_singleton];refine⟨by (clear hl hm h0 hsz hi eo do' ll2 e1 e2 lb db;lia),b,rfl,cv.sm sb,by (clear hl hm h0 hsz hi eo do' lo ll2 e1 e2 lb;lia),by decide,?_⟩;walk_at "R";rw[aP,aP,length_append,length_singleton];refine⟨by (clear hl hm h0 hsz hi eo do' ll2 e1 e2 db;lia),λp3 hp3=>?_⟩;have e5:=dv (S++[43]) (bH aF b);rw[e5];obtain⟨s3,h3,r3⟩:=o6 mD so sb;rw[hSo] at h3;have hG5:aV G3 p3 (GO.dic []) p=some (.lst (bX pool)):=bF hG4 hp3;refine⟨_,_,s3,O.plusO o b,rfl,.inr ⟨p3,[],λ_=>none,rfl,.inl al,λ_=>rfl⟩,by simp only[length_append,length_cons,length_nil];(clear hl hm h0 hsz hi eo do' ll2 e1 e2 db;lia),by rw[←h3];simp,r3,?_⟩;have hls:=O.len_le_size o;have hlb:=O.len_le_size b;have ss:=so.2.1;have ss2:=sb.2.1;have dpp:=O.dp_plus o b;refine fi hG5 (dI _ ⟨o,b,rfl,by walk_at "om",by walk_at "om",by (clear hl hm h0 hsz hi eo do' lo ll2 e1 e2 lb db hlb ss2 dpp;lia),by (clear hl hm h0 hsz hi eo do' lo ll2 e1 e2 lb db hls ss dpp;lia),_,_,rfl,by (clear hl hm h0 hsz hi eo lo ll2 e1 e2 lb hls hlb ss ss2;lia),?_⟩);rw[ydz rfl];walk_at "R";rw[hDn];exact hk _ _ ⟨hG5,_,_,_,_,_,_,rfl⟩
   walk_at "R";refine cP (λh=>⟨ns[i]'(by (clear hl hm h0 hsz hi eo lo do';lia)),cL (ycz (by (clear hl hm h0 hsz hi eo lo do';lia))),rest _⟩) λ_=>rest _
theorem yG (T:Txt K mg) (F:cJ K "law" "law" (ax 69) f fd):cq P w K mg base 100 f fd ["_law_script"] jJ:=by
 obtain⟨cH,cT,cN,_,⟨mT,qT⟩,⟨mN,qN⟩⟩:=T.x_;obtain⟨bT,xT⟩:=XC.of qT;obtain⟨bN,xN⟩:=XC.of qN;obtain⟨t3,h3⟩:=T.c_MOST_SIGNS;obtain⟨t4,h4⟩:=T.c_MOST_FIGURES;obtain⟨t5,h5⟩:=T.c_MOST_LETTERS;obtain⟨t6,h6⟩:=T.c_MOST_PARTS_readings;obtain⟨t7,h7⟩:=T.c_MOST_DEEP;obtain⟨aj,mj,hj⟩:=T.g_JOINING;obtain⟨C,mR,hC,a1,a2,a3,m0,m1,m2,m3,m4,m5,m6,m7⟩:=T.k_Reading;have D:wJ K mg C cT:=⟨⟨hC,a1,a2,a3⟩,m0,m1,m2,m3,m4,m5,m6,m7,mR,T.c_MOST_BRACKETS,mT,bT,xT⟩;have L:=Bk (P:=P) (w:=w) (base:=base) T 60 (by decide);have Z:=Bl (P:=P) (w:=w) (base:=base) T 60;have W:=T.d__law_with.fx λf fd F=>Dj F L T.z_sum T.z_tuple;have N:=T.d__law_next.fx λf fd F=>Dl F W Z T.z_len;have Po:=T.d__law_pool.fx λf fd F=>Dp F N;have Pu:=Bm (P:=P) (w:=w) (base:=base) T 60;have Is:=T.d__law_is.fx λf fd F=>Dn F Pu T.z_isinstance T.z_tuple;have Lp:=T.d__law_plus.fx λf fd F=>Do F L T.z_sum T.z_tuple;have Wh:=T.d_is_whole.fxd (P:=P) (w:=w) (base:=base) λf fd T' ds F=>CK F T.z_isinstance T.z_int T.z_bool;have Rs:=T.d_raised.fx (P:=P) (w:=w) (base:=base) λf fd T' ds F=>AH F Wh;have Rd:=T.d_raised.fxd (P:=P) (w:=w) (base:=base) λf fd T' ds F=>AH F Wh;have Wl:=T.d_whole.fx λf fd F=>CL F Rs;have En:=T.d_endless.fx λf fd F=>CT F Wl Rd;have Cm:=T.d_compare.fx (P:=P) (w:=w) (base:=base) λf fd F=>CD F;have Pa:=T.d_parts_above.fx λf fd F=>CF F Cm T.z_len;have Ps:=T.d_plus.fx λf fd F=>CG F Pa T.z_len;have Wp:=T.d_whole_part.fx (P:=P) (w:=w) (base:=base) λf fd F=>CH F;have Wo:=T.d_without_whole.fx λf fd F=>CI F Wp;have Ti:=T.d_times.fx λf fd F=>CJ F Wp Wo Ps T.z_tuple;have Pp:=T.d_power_of_part.fx λf fd F=>CM F Wp Ti Rs;have Pw:=T.d_power.fx λf fd F=>CN F Wl Pp T.z_len;have Hm:=T.d_has_many_parts.fx (P:=P) (w:=w) (base:=base) λf fd F=>C6 F h6 T.z_len;have Gt:=A6 (P:=P) (w:=w) (base:=base) T 61;have De:=A7 (P:=P) (w:=w) (base:=base) T 61;have Tq:=(T.d_is_too_great.fx λf fd F=>C9 F Hm Gt De h7).alias T.a_is_too_great_readings;have Jn:=T.d_joined.fx λf fd F=>Da F Ps Ti Pw Tq;have Rk:=T.d_reckoned.fx λf fd F=>Db F Jn T.z_isinstance T.z_tuple;have Fg:=T.d_is_figure.fx (P:=P) (w:=w) (base:=base) λf fd F=>CO F;have Lt:=T.d_is_letter.fx (P:=P) (w:=w) (base:=base) λf fd F=>CP F;have Fs:=T.d_is_figures.fx λf fd F=>CQ F Fg h4 T.z_len T.z_all;have Nm:=T.d_is_name.fx λf fd F=>CS F Lt h5 T.z_len T.z_all;have To:=T.d_thing_of.rx λf fd F=>CU F En Fs Nm Wl mT xT T.z_int;have Sm:=tG D Fg Lt To 20 (by decide);have So:=T.d_steps_of.fx λf fd F=>Bd (C4 D F (D.m0.new mR λf fd F=>C1 D.cl F) (yA D) Sm h3 T.z_len T.z_isinstance T.z_str);have Lu:=T.d_looked_up.fx (P:=P) (w:=w) (base:=base) λf fd F=>Be (C5 F mj hj mN xN T.z_isinstance T.z_tuple);have Re:=T.d_read.fx λf fd T' ds F=>Bf F So Lu Rk;have Red:=T.d_read.fxd λf fd T' ds F=>Bf F So Lu Rk;have Sw:=Bc T Wl En Wo 13;have Ls:=Bp (P:=P) (w:=w) (base:=base) T 13;exact Dr F Po Ls Sw Re Red Is Lp T.z_len T.z_range T.z_isinstance T.z_str
end
noncomputable abbrev oL (x y:Str) (t:Stmt) (d a b c:Value) (n:Option Addr) (e g:Value) (o:Value) (p:Option Addr) (r:Array (Option Value)):Option Obj:=some ⟨o,p,.func (fnOf x y (au t) (ao t) (ak t) d a b c n e g),r⟩
noncomputable abbrev oR (a:Addr):Option (Option Value):=some (some (.ref a))
noncomputable abbrev oB (a:String):Option (Option Value):=some (some (.builtin a))
set_option maxHeartbeats 0 in
theorem all_mk {l:PySem.W.OpenLaw} {h:Heap} {fa f1 f2 f3 f4 f5 f6 f7 f8 f9 co cp cs ct cw cD cH cN cT c0 da db dd df bi di dj dk dl bj ds dx dK dO dT dV d1 d2 ea ec:Addr} (X:K.In h) (G:h.Ns mainGlobals mg) (zj:mg "law"=some (.ref fa))
 {zl zp zr zs z0 A1 A2 A3 A4 BT Cd Cl Cm CX C2 De DN D0 k0 la lb ld lf lk ll lm ln lo ls lt lv ly l0 ma mb mc me mi mj mk ml mn mo mp mr ms mt mu mz mA mC mN mR mT m0 m1 m2 m3 m4 m5 m6 m7 na nb nc nd ne nf nl nm nn no np ns nt nx nL ed:Option Addr} {En EF EG EH EI EJ EK EL EM nT n1 n2 n3 n4 n7 ob oc od oe of oi oj ok ol on op or os ov oD oT oX o1 o2 pa pb pg pi pj:Array (Option Value)} {EN EO EQ ER j4 ES ET EU EV EW j5 EX EY EZ E1 E2 ka E3 E4 E5 E6 E7 kb E8 E9 Fa Fb Fc kc Fd Fe Ff Fg Fh kk Fi Fj Fk Fm Fn kp Fo Fp Fq Fr Fs ks Ft Fu Fv Fw Fy kv Fz pl pm pn po ee pr pt pu py p1 ef p2 p3 p4 p5 p6 ej qa qb qn qq qs ek qu qv qx qN qT el q1 q2 q3 q4 q5 em q6 q7 q8 q9 ra eo rb rd rg ri rj ep rk rr rs rt ru eq rv rw rx ry rz er r0 r1 r2 r3 r4 es r5 r7 r8 sa sb et se sf sl sm sn eu so sp sq sr ss ev sv sx sz sD s0 ew s1 s2 s3 s4 s5 ex s6 s7 s8 ta tb ey tc td te tg th ez tk tm tn to tr eD ts tt tv tx ty eG tA t0 t2 t3 t5 eH t6 t7 t8 ua ub eN un up ux uy u1 e0 u2 u8 va vb vl e2 vr vs vu vx vy e3 v1 v2 v3 v4 v5 e5 v8 wa wb wi wl e6 wr ws wx wy w0 e7 w2 w3 w4 w5 w7 e8 w8 xa fb fc fg cn fl:Value} {T1:Addr} {FA:Value} {FB:Option Addr} {FC:Nat} {FD:Array (Option Value)} {a0:Tok} {T4:Addr} {FE:Value} {FF:Option Addr} {FG:Nat} {FH:Array (Option Value)} {be:Tok} {eb:Addr} {xd:Value} {xe:Option Addr} {xr:Nat} {xs:Array (Option Value)} {ab:Addr} {ad:Addr} {hS fn:Option Addr} {fp:Array (Option Value)} {fr fs fv fw bk fx:Value} {ai:Addr} {hT fD:Option Addr} {f0:Array (Option Value)} {ga gb gc ge bl gg:Value} {aj:Addr} {hU gi:Option Addr} {go:Array (Option Value)} {gp gr gt gu bm gw:Value} {an:Addr} {hX gx:Option Addr} {gC:Array (Option Value)} {gN gO gT gV br g0:Value} {ap:Addr} {hY g1:Option Addr} {g2:Array (Option Value)} {g3 g4 g5 g6 bs g7:Value} {ar:Addr} {h0 g8:Option Addr} {ha:Array (Option Value)} {hb hc hd he bz hf:Value} {as:Addr} {h1 hg:Option Addr} {hh:Array (Option Value)} {hi hj hk hm bC hn:Value} {az:Addr} {h2 ho:Option Addr} {hp:Array (Option Value)} {hq hr hs ht bN hu:Value} {xC:Tok} {xN:Tok} {xT:Tok} {x0:Tok} {x1:Tok} {x2:Tok} {x7:Tok} {yl:Tok} {hv:Addr} {FI:Option Addr} {FJ:Nat} {FK:Array (Option Value)} {h3 h4 h5:Tok} {hx:Addr} {hy:Addr} {hz:Addr}
 (a1:nsIn K mainGlobals "is_whole"=oR f1) (l1:K.lookup f1=oL "is_whole" "is_whole" (ax 8) (.ref T1) EO EQ ER zp j4 ES EN zl En) (c1:codeIn K j4 "is_whole"=true) (k1:keepIn K (.ref f1)=true)
 (a2:nsIn K mainGlobals "whole"=oR f2) (l2:K.lookup f2=oL "whole" "whole" (ax 9) .none EU EV EW zs j5 EX ET zr EF) (c2:codeIn K j5 "whole"=true) (k2:keepIn K (.ref f2)=true)
 (a3:nsIn K mainGlobals "endless"=oR f3) (l3:K.lookup f3=oL "endless" "endless" (ax 10) .none EZ E1 E2 A1 ka E3 EY z0 EG) (c3:codeIn K ka "endless"=true) (k3:keepIn K (.ref f3)=true)
 (a4:nsIn K mainGlobals "raised"=oR f4) (l4:K.lookup f4=oL "raised" "raised" (ax 11) (.ref T4) E5 E6 E7 A3 kb E8 E4 A2 EH) (c4:codeIn K kb "raised"=true) (k4:keepIn K (.ref f4)=true)
 (a5:nsIn K mainGlobals "compare"=oR f5) (l5:K.lookup f5=oL "compare" "compare" (ax 12) .none Fa Fb Fc BT kc Fd E9 A4 EI) (c5:codeIn K kc "compare"=true) (k5:keepIn K (.ref f5)=true)
 (a6:nsIn K mainGlobals "whole_part"=oR f6) (l6:K.lookup f6=oL "whole_part" "whole_part" (ax 13) .none Ff Fg Fh Cl kk Fi Fe Cd EJ) (c6:codeIn K kk "whole_part"=true) (k6:keepIn K (.ref f6)=true)
 (a7:nsIn K mainGlobals "without_whole"=oR f7) (l7:K.lookup f7=oL "without_whole" "without_whole" (ax 14) .none Fk Fm Fn CX kp Fo Fj Cm EK) (c7:codeIn K kp "without_whole"=true) (k7:keepIn K (.ref f7)=true)
 (a8:nsIn K mainGlobals "greatest"=oR f8) (l8:K.lookup f8=oL "greatest" "greatest" (ax 15) .none Fq Fr Fs De ks Ft Fp C2 EL) (c8:codeIn K ks "greatest"=true) (k8:keepIn K (.ref f8)=true)
 (a9:nsIn K mainGlobals "deep"=oR f9) (l9:K.lookup f9=oL "deep" "deep" (ax 16) .none Fv Fw Fy D0 kv Fz Fu DN EM) (c9:codeIn K kv "deep"=true) (k9:keepIn K (.ref f9)=true)
 (FL:nsIn K mainGlobals "plus"=oR co) (FM:K.lookup co=oL "plus" "plus" (ax 18) .none pm pn po la ee pr pl k0 nT) (FN:codeIn K ee "plus"=true) (FO:keepIn K (.ref co)=true)
 (FP:nsIn K mainGlobals "parts_above"=oR cp) (FQ:K.lookup cp=oL "parts_above" "parts_above" (ax 19) .none pu py p1 ld ef p2 pt lb n1) (FR:codeIn K ef "parts_above"=true) (FS:keepIn K (.ref cp)=true)
 (FT:nsIn K mainGlobals "times"=oR cs) (FU:K.lookup cs=oL "times" "times" (ax 23) .none p4 p5 p6 lk ej qa p3 lf n2) (FV:codeIn K ej "times"=true) (FW:keepIn K (.ref cs)=true)
 (FX:nsIn K mainGlobals "power"=oR ct) (FY:K.lookup ct=oL "power" "power" (ax 27) .none qn qq qs lm ek qu qb ll n3) (FZ:codeIn K ek "power"=true) (F0:keepIn K (.ref ct)=true)
 (Ga:nsIn K mainGlobals "power_of_part"=oR cw) (Gb:K.lookup cw=oL "power_of_part" "power_of_part" (ax 28) .none qx qN qT lo el q1 qv ln n4) (Gc:codeIn K el "power_of_part"=true) (Gd:keepIn K (.ref cw)=true)
 (Ge:nsIn K mainGlobals "is_figure"=oR cD) (Gf:K.lookup cD=oL "is_figure" "is_figure" (ax 41) .none q3 q4 q5 lt em q6 q2 ls n7) (Gg:codeIn K em "is_figure"=true) (Gh:keepIn K (.ref cD)=true)
 (Gi:nsIn K mainGlobals "is_letter"=oR cH) (Gj:K.lookup cH=oL "is_letter" "is_letter" (ax 42) .none q8 q9 ra ly eo rb q7 lv ob) (Gk:codeIn K eo "is_letter"=true) (Gm:keepIn K (.ref cH)=true)
 (Gn:nsIn K mainGlobals "is_figures"=oR cN) (Go:K.lookup cN=oL "is_figures" "is_figures" (ax 43) .none rg ri rj ma ep rk rd l0 oc) (Gq:codeIn K ep "is_figures"=true) (Gr:keepIn K (.ref cN)=true)
 (Gs:nsIn K mainGlobals "is_name"=oR cT) (Gt:K.lookup cT=oL "is_name" "is_name" (ax 44) .none rs rt ru mc eq rv rr mb od) (Gu:codeIn K eq "is_name"=true) (Gv:keepIn K (.ref cT)=true)
 (Gw:nsIn K mainGlobals "thing_of"=oR c0) (Gx:K.lookup c0=oL "thing_of" "thing_of" (ax 45) .none rx ry rz mi er r0 rw me oe) (Gy:codeIn K er "thing_of"=true) (Gz:keepIn K (.ref c0)=true)
 (GA:nsIn K mainGlobals "steps_of"=oR da) (GB:K.lookup da=oL "steps_of" "steps_of" (ax 47) .none r2 r3 r4 mk es r5 r1 mj of) (GC:codeIn K es "steps_of"=true) (GF:keepIn K (.ref da)=true)
 (GG:nsIn K mainGlobals "looked_up"=oR db) (GH:K.lookup db=oL "looked_up" "looked_up" (ax 48) .none r8 sa sb mn et se r7 ml oi) (GI:codeIn K et "looked_up"=true) (GJ:keepIn K (.ref db)=true)
 (GK:nsIn K mainGlobals "reckoned"=oR dd) (GL:K.lookup dd=oL "reckoned" "reckoned" (ax 49) .none sl sm sn mp eu so sf mo oj) (GM:codeIn K eu "reckoned"=true) (GN:keepIn K (.ref dd)=true)
 (GP:nsIn K mainGlobals "joined"=oR df) (GQ:K.lookup df=oL "joined" "joined" (ax 50) .none sq sr ss ms ev sv sp mr ok) (GR:codeIn K ev "joined"=true) (GS:keepIn K (.ref df)=true)
 (kw:nsIn K mainGlobals "is_too_great"=oR bi) (GU:K.lookup bi=oL "is_too_great" "is_too_great" (ax 51) .none sz sD s0 mu ew s1 sx mt ol) (GV:codeIn K ew "is_too_great"=true) (GW:keepIn K (.ref bi)=true)
 (GX:nsIn K mainGlobals "has_many_parts"=oR di) (GY:K.lookup di=oL "has_many_parts" "has_many_parts" (ax 53) .none s3 s4 s5 mA ex s6 s2 mz on) (GZ:codeIn K ex "has_many_parts"=true) (G0:keepIn K (.ref di)=true)
 (G1:nsIn K mainGlobals "shown"=oR dj) (G2:K.lookup dj=oL "shown" "shown" (ax 55) .none s8 ta tb mN ey tc s7 mC op) (G3:codeIn K ey "shown"=true) (G4:keepIn K (.ref dj)=true)
 (G5:nsIn K mainGlobals "part_shown"=oR dk) (G6:K.lookup dk=oL "part_shown" "part_shown" (ax 56) .none te tg th mT ez tk td mR or) (G7:codeIn K ez "part_shown"=true) (G8:keepIn K (.ref dk)=true)
 (G9:nsIn K mainGlobals "power_shown"=oR dl) (Ha:K.lookup dl=oL "power_shown" "power_shown" (ax 57) .none tn to tr m1 eD ts tm m0 os) (Hb:codeIn K eD "power_shown"=true) (Hc:keepIn K (.ref dl)=true)
 (Hd:nsIn K mainGlobals "read"=oR bj) (He:K.lookup bj=oL "read" "read" (ax 58) (.ref eb) tv tx ty m3 eG tA tt m2 ov) (Hf:codeIn K eG "read"=true) (Hg:keepIn K (.ref bj)=true)
 (Hh:nsIn K mainGlobals "_law_compare"=oR ds) (Hi:K.lookup ds=oL "_law_compare" "_law_compare" (ax 60) .none t2 t3 t5 m5 eH t6 t0 m4 oD) (Hj:codeIn K eH "_law_compare"=true) (Hk:keepIn K (.ref ds)=true)
 (Hl:nsIn K mainGlobals "_law_with"=oR dx) (Hm:K.lookup dx=oL "_law_with" "_law_with" (ax 61) .none t8 ua ub m7 eN un t7 m6 oT) (Hn:codeIn K eN "_law_with"=true) (Ho:keepIn K (.ref dx)=true)
 (Hq:nsIn K mainGlobals "_law_size"=oR dK) (Hr:K.lookup dK=oL "_law_size" "_law_size" (ax 62) .none ux uy u1 nb e0 u2 up na oX) (Hs:codeIn K e0 "_law_size"=true) (Ht:keepIn K (.ref dK)=true)
 (Hu:nsIn K mainGlobals "_law_next"=oR dO) (Hv:K.lookup dO=oL "_law_next" "_law_next" (ax 63) .none va vb vl nd e2 vr u8 nc o1) (Hw:codeIn K e2 "_law_next"=true) (Hx:keepIn K (.ref dO)=true)
 (Hy:nsIn K mainGlobals "_law_pool"=oR dT) (Hz:K.lookup dT=oL "_law_pool" "_law_pool" (ax 64) .none vu vx vy nf e3 v1 vs ne o2) (HA:codeIn K e3 "_law_pool"=true) (HB:keepIn K (.ref dT)=true)
 (HC:nsIn K mainGlobals "_law_pure"=oR dV) (HD:K.lookup dV=oL "_law_pure" "_law_pure" (ax 65) .none v3 v4 v5 nm e5 v8 v2 nl pa) (HE:codeIn K e5 "_law_pure"=true) (HF:keepIn K (.ref dV)=true)
 (HG:nsIn K mainGlobals "_law_is"=oR d1) (HH:K.lookup d1=oL "_law_is" "_law_is" (ax 66) .none wb wi wl no e6 wr wa nn pb) (HI:codeIn K e6 "_law_is"=true) (HJ:keepIn K (.ref d1)=true)
 (HK:nsIn K mainGlobals "_law_shown"=oR d2) (HL:K.lookup d2=oL "_law_shown" "_law_shown" (ax 67) .none wx wy w0 ns e7 w2 ws np pg) (HM:codeIn K e7 "_law_shown"=true) (HN:keepIn K (.ref d2)=true)
 (HP:nsIn K mainGlobals "_law_plus"=oR ea) (HQ:K.lookup ea=oL "_law_plus" "_law_plus" (ax 68) .none w4 w5 w7 nx e8 w8 w3 nt pi) (HR:codeIn K e8 "_law_plus"=true) (HS:keepIn K (.ref ea)=true)
 (HU:nsIn K mainGlobals "law"=oR ec) (HV:K.lookup ec=oL "law" "law" (ax 69) .none fb fc fg ed cn fl xa nL pj) (HW:codeIn K cn "law"=true) (HX:keepIn K (.ref ec)=true)
 (t1:K.lookup T1=some ⟨FA,FB,.seq #[.int 0 a0] FC,FD⟩)
 (t4:K.lookup T4=some ⟨FE,FF,.seq #[.int 1 be] FG,FH⟩)
 (HY:K.lookup eb=some ⟨xd,xe,.seq #[.none] xr,xs⟩)
 (HZ:nsIn K mainGlobals "MOST_FACTORS"=some (some (.int 24 xC)))
 (H0:nsIn K mainGlobals "MOST_PARTS_powers"=some (some (.int 24 xN)))
 (H1:nsIn K mainGlobals "MOST_SIGNS"=some (some (.int 2000 xT)))
 (H2:nsIn K mainGlobals "MOST_FIGURES"=some (some (.int 60 x0)))
 (H3:nsIn K mainGlobals "MOST_LETTERS"=some (some (.int 8 x1)))
 (H4:nsIn K mainGlobals "MOST_BRACKETS"=some (some (.int 20 x2)))
 (H5:nsIn K mainGlobals "MOST_PARTS_readings"=some (some (.int 400 x7)))
 (H6:nsIn K mainGlobals "MOST_DEEP"=some (some (.int 40 yl)))
 (ys:nsIn K mainGlobals "JOINING"=oR hv) (y1:K.lookup hv=some ⟨.type "tuple",FI,.seq [.str "+" h3,.str "*" h4,.str "^" h5].toArray FJ,FK⟩)
 (H7:nsIn K mainGlobals "HydraError"=oR hx) (H8:excIn K hx [.type "ValueError",.type "Exception",.type "BaseException",.type "object"] "ValueError.__new__"=true)
 (H9:nsIn K mainGlobals "NoText"=oR hy) (Ia:excIn K hy [.type "ValueError",.type "Exception",.type "BaseException",.type "object"] "ValueError.__new__"=true)
 (Ib:nsIn K mainGlobals "NoName"=oR hz) (Ic:excIn K hz [.type "ValueError",.type "Exception",.type "BaseException",.type "object"] "ValueError.__new__"=true)
 (Ie:nsIn K mainGlobals "is_too_great_readings"=oR bi)
 (If:nsIn K mainGlobals "Reading"=oR ab) (y2:plainGet K ab Str.empty=true) (y5:hasDictIn K ab=true) (za:PySem.W.plainOver K ab=true) (zb:findIn K (.ref ab) "__setattr__"=oB "object.__setattr__") (zf:PySem.W.makesIn K ab=true) (zi:keepIn K (.ref ab)=true) (h6:findIn K (.ref ab) "text"=some none) (h7:findIn K (.ref ab) "place"=some none) (h8:findIn K (.ref ab) "steps"=some none) (h9:findIn K (.ref ab) "__init__"=oR ad) (hA:isFn K (.ref ad)=true) (id:K.lookup ad=oL "__init__" "Reading.__init__" (cB 46 0) .none fs fv fw fn bk fx fr hS fp) (hB:codeIn K bk "Reading.__init__"=true) (hC:keepIn K (.ref ad)=true) (ih:findIn K (.ref ab) "read_sum"=oR ai) (hD:isFn K (.ref ai)=true) (ij:K.lookup ai=oL "read_sum" "Reading.read_sum" (cB 46 1) .none gb gc ge fD bl gg ga hT f0) (hE:codeIn K bl "Reading.read_sum"=true) (bT:keepIn K (.ref ai)=true) (is:findIn K (.ref ab) "read_product"=oR aj) (hF:isFn K (.ref aj)=true) (it:K.lookup aj=oL "read_product" "Reading.read_product" (cB 46 2) .none gr gt gu gi bm gw gp hU go) (hG:codeIn K bm "Reading.read_product"=true) (b0:keepIn K (.ref aj)=true) (ix:findIn K (.ref ab) "read_power"=oR an) (hH:isFn K (.ref an)=true) (i0:K.lookup an=oL "read_power" "Reading.read_power" (cB 46 3) .none gO gT gV gx br g0 gN hX gC) (hI:codeIn K br "Reading.read_power"=true) (cb:keepIn K (.ref an)=true) (i1:findIn K (.ref ab) "read_thing"=oR ap) (hK:isFn K (.ref ap)=true) (i2:K.lookup ap=oL "read_thing" "Reading.read_thing" (cB 46 4) .none g4 g5 g6 g1 bs g7 g3 hY g2) (hL:codeIn K bs "Reading.read_thing"=true) (cc:keepIn K (.ref ap)=true) (i3:findIn K (.ref ab) "word"=oR ar) (hM:isFn K (.ref ar)=true) (i5:K.lookup ar=oL "word" "Reading.word" (cB 46 5) .none hc hd he g8 bz hf hb h0 ha) (hN:codeIn K bz "Reading.word"=true) (cd:keepIn K (.ref ar)=true) (j0:findIn K (.ref ab) "pass_by"=oR as) (hO:isFn K (.ref as)=true) (j1:K.lookup as=oL "pass_by" "Reading.pass_by" (cB 46 6) .none hj hk hm hg bC hn hi h1 hh) (hP:codeIn K bC "Reading.pass_by"=true) (ch:keepIn K (.ref as)=true) (j2:findIn K (.ref ab) "sign"=oR az) (hQ:isFn K (.ref az)=true) (j3:K.lookup az=oL "sign" "Reading.sign" (cB 46 7) .none hr hs ht ho bN hu hq h2 hp) (hR:codeIn K bN "Reading.sign"=true) (cl:keepIn K (.ref az)=true)
 (z1:nsIn K mainGlobals "ValueError"=some none) (z2:nsIn K mainGlobals "all"=some none) (z3:nsIn K mainGlobals "bool"=some none) (z4:nsIn K mainGlobals "int"=some none) (z5:nsIn K mainGlobals "isinstance"=some none) (z6:nsIn K mainGlobals "len"=some none) (z7:nsIn K mainGlobals "max"=some none) (z8:nsIn K mainGlobals "range"=some none) (z9:nsIn K mainGlobals "str"=some none) (Ig:nsIn K mainGlobals "sum"=some none) (Ih:nsIn K mainGlobals "tuple"=some none) (Ii:nsIn K mainGlobals "zip"=some none):
 ∃fd:FuncData,(∀(s:Shared) (v:Value),BindsTo s fd ⟨[v],[]⟩ [("_law_script",v)])/\∀base:Heap,K.In base->base.Ns mainGlobals mg->fP l.prog w K mg base re 100 fa fd ["_law_script"] (ur K jJ):=by
 have e:=zj.symm.trans (mg_of X G HU);cases e;have F1:gH K "is_whole" "is_whole" (ax 8) f1 _ T1 [.int 0 a0]:=kn l1 c1 k1 t1 rfl;have b1:bJ K _ ["thing","least"] []:=F1.binds λ_ _ _ _ _ _ us hl=>(λ(q:us.length=2)=>by clear hl;revert us;refine cg (λ_=>cg (λ_=>du ?_));exact⟨_,rfl,rfl⟩) (by simpa using hl);have e1:bJ K _ ["thing","least"] [.int 0 a0]:=F1.binds λ_ _ _ _ _ _ us hl=>(λ(q:us.length=1)=>by clear hl;revert us;refine cg (λ_=>du ?_);exact⟨_,rfl,rfl⟩) (by simpa using hl);have F2:=aR (st:=ax 9) l2 c2 k2;have b2:=F2.binds (ps:=["n"]) λ_ _ _ _ _ _=>cg (λ_=>du rfl);have F3:=aR (st:=ax 10) l3 c3 k3;have b3:=F3.binds (ps:=[]) λ_ _ _ _ _ _=>du rfl;have F4:gH K "raised" "raised" (ax 11) f4 _ T4 [.int 1 be]:=kn l4 c4 k4 t4 rfl;have b4:bJ K _ ["exponent","times"] []:=F4.binds λ_ _ _ _ _ _ us hl=>(λ(q:us.length=2)=>by clear hl;revert us;refine cg (λ_=>cg (λ_=>du ?_));exact⟨_,rfl,rfl⟩) (by simpa using hl);have e4:bJ K _ ["exponent","times"] [.int 1 be]:=F4.binds λ_ _ _ _ _ _ us hl=>(λ(q:us.length=1)=>by clear hl;revert us;refine cg (λ_=>du ?_);exact⟨_,rfl,rfl⟩) (by simpa using hl);have F5:=aR (st:=ax 12) l5 c5 k5;have b5:=F5.binds (ps:=["a","b"]) λ_ _ _ _ _ _=>cg (λ_=>cg (λ_=>du rfl));have F6:=aR (st:=ax 13) l6 c6 k6;have b6:=F6.binds (ps:=["a"]) λ_ _ _ _ _ _=>cg (λ_=>du rfl);have F7:=aR (st:=ax 14) l7 c7 k7;have b7:=F7.binds (ps:=["a"]) λ_ _ _ _ _ _=>cg (λ_=>du rfl);have F8:=aR (st:=ax 15) l8 c8 k8;have b8:=F8.binds (ps:=["a"]) λ_ _ _ _ _ _=>cg (λ_=>du rfl);have F9:=aR (st:=ax 16) l9 c9 k9;have b9:=F9.binds (ps:=["a"]) λ_ _ _ _ _ _=>cg (λ_=>du rfl);have F10:=aR (st:=ax 18) FM FN FO;have b10:=F10.binds (ps:=["a","b"]) λ_ _ _ _ _ _=>cg (λ_=>cg (λ_=>du rfl));have F11:=aR (st:=ax 19) FQ FR FS;have b11:=F11.binds (ps:=["a","exponent"]) λ_ _ _ _ _ _=>cg (λ_=>cg (λ_=>du rfl));have F12:=aR (st:=ax 23) FU FV FW;have b12:=F12.binds (ps:=["a","b"]) λ_ _ _ _ _ _=>cg (λ_=>cg (λ_=>du rfl));have F13:=aR (st:=ax 27) FY FZ F0;have b13:=F13.binds (ps:=["a","b"]) λ_ _ _ _ _ _=>cg (λ_=>cg (λ_=>du rfl));have F14:=aR (st:=ax 28) Gb Gc Gd;have b14:=F14.binds (ps:=["part","b"]) λ_ _ _ _ _ _=>cg (λ_=>cg (λ_=>du rfl));have F15:=aR (st:=ax 41) Gf Gg Gh;have b15:=F15.binds (ps:=["sign"]) λ_ _ _ _ _ _=>cg (λ_=>du rfl);have F16:=aR (st:=ax 42) Gj Gk Gm;have b16:=F16.binds (ps:=["sign"]) λ_ _ _ _ _ _=>cg (λ_=>du rfl);have F17:=aR (st:=ax 43) Go Gq Gr;have b17:=F17.binds (ps:=["text"]) λ_ _ _ _ _ _=>cg (λ_=>du rfl);have F18:=aR (st:=ax 44) Gt Gu Gv;have b18:=F18.binds (ps:=["text"]) λ_ _ _ _ _ _=>cg (λ_=>du rfl);have F19:=aR (st:=ax 45) Gx Gy Gz;have b19:=F19.binds (ps:=["word"]) λ_ _ _ _ _ _=>cg (λ_=>du rfl);have F20:=aR (st:=ax 47) GB GC GF;have b20:=F20.binds (ps:=["text"]) λ_ _ _ _ _ _=>cg (λ_=>du rfl);have F21:=aR (st:=ax 48) GH GI GJ;have b21:=F21.binds (ps:=["steps","names"]) λ_ _ _ _ _ _=>cg (λ_=>cg (λ_=>du rfl));have F22:=aR (st:=ax 49) GL GM GN;have b22:=F22.binds (ps:=["steps"]) λ_ _ _ _ _ _=>cg (λ_=>du rfl);have F23:=aR (st:=ax 50) GQ GR GS;have b23:=F23.binds (ps:=["first","sign","second"]) λ_ _ _ _ _ _=>cg (λ_=>cg (λ_=>cg (λ_=>du rfl)));have F24:=aR (st:=ax 51) GU GV GW;have b24:=F24.binds (ps:=["a"]) λ_ _ _ _ _ _=>cg (λ_=>du rfl);have F25:=aR (st:=ax 53) GY GZ G0;have b25:=F25.binds (ps:=["a"]) λ_ _ _ _ _ _=>cg (λ_=>du rfl);have F26:=aR (st:=ax 55) G2 G3 G4;have b26:=F26.binds (ps:=["a"]) λ_ _ _ _ _ _=>cg (λ_=>du rfl);have F27:=aR (st:=ax 56) G6 G7 G8;have b27:=F27.binds (ps:=["exponent","many"]) λ_ _ _ _ _ _=>cg (λ_=>cg (λ_=>du rfl));have F28:=aR (st:=ax 57) Ha Hb Hc;have b28:=F28.binds (ps:=["exponent"]) λ_ _ _ _ _ _=>cg (λ_=>du rfl);have F29:gH K "read" "read" (ax 58) bj _ eb [.none]:=kn He Hf Hg HY rfl;have b29:bJ K _ ["text","names"] []:=F29.binds λ_ _ _ _ _ _ us hl=>(λ(q:us.length=2)=>by clear hl;revert us;refine cg (λ_=>cg (λ_=>du ?_));exact⟨_,rfl,rfl⟩) (by simpa using hl);have e29:bJ K _ ["text","names"] [.none]:=F29.binds λ_ _ _ _ _ _ us hl=>(λ(q:us.length=1)=>by clear hl;revert us;refine cg (λ_=>du ?_);exact⟨_,rfl,rfl⟩) (by simpa using hl);have F30:=aR (st:=ax 60) Hi Hj Hk;have b30:=F30.binds (ps:=["_law_a","_law_b"]) λ_ _ _ _ _ _=>cg (λ_=>cg (λ_=>du rfl));have F31:=aR (st:=ax 61) Hm Hn Ho;have b31:=F31.binds (ps:=["_law_number","_law_exponent","_law_many"]) λ_ _ _ _ _ _=>cg (λ_=>cg (λ_=>cg (λ_=>du rfl)));have F32:=aR (st:=ax 62) Hr Hs Ht;have b32:=F32.binds (ps:=["_law_number"]) λ_ _ _ _ _ _=>cg (λ_=>du rfl);have F33:=aR (st:=ax 63) Hv Hw Hx;have b33:=F33.binds (ps:=["_law_pool_here","_law_cell"]) λ_ _ _ _ _ _=>cg (λ_=>cg (λ_=>du rfl));have F34:=aR (st:=ax 64) Hz HA HB;have b34:=F34.binds (ps:=["_law_script"]) λ_ _ _ _ _ _=>cg (λ_=>du rfl);have F35:=aR (st:=ax 65) HD HE HF;have b35:=F35.binds (ps:=["_law_number"]) λ_ _ _ _ _ _=>cg (λ_=>du rfl);have F36:=aR (st:=ax 66) HH HI HJ;have b36:=F36.binds (ps:=["_law_found","_law_due"]) λ_ _ _ _ _ _=>cg (λ_=>cg (λ_=>du rfl));have F37:=aR (st:=ax 67) HL HM HN;have b37:=F37.binds (ps:=["_law_number"]) λ_ _ _ _ _ _=>cg (λ_=>du rfl);have F38:=aR (st:=ax 68) HQ HR HS;have b38:=F38.binds (ps:=["_law_a","_law_b"]) λ_ _ _ _ _ _=>cg (λ_=>cg (λ_=>du rfl));have F39:=aR (st:=ax 69) HV HW HX;have FM0_0:=aR (st:=cB 46 0) id hB hC;have bM0_0:=FM0_0.binds (ps:=["self","text"]) λ_ _ _ _ _ _=>cg (λ_=>cg (λ_=>du rfl));have FM0_1:=aR (st:=cB 46 1) ij hE bT;have bM0_1:=FM0_1.binds (ps:=["self","within"]) λ_ _ _ _ _ _=>cg (λ_=>cg (λ_=>du rfl));have FM0_2:=aR (st:=cB 46 2) it hG b0;have bM0_2:=FM0_2.binds (ps:=["self","within"]) λ_ _ _ _ _ _=>cg (λ_=>cg (λ_=>du rfl));have FM0_3:=aR (st:=cB 46 3) i0 hI cb;have bM0_3:=FM0_3.binds (ps:=["self","within"]) λ_ _ _ _ _ _=>cg (λ_=>cg (λ_=>du rfl));have FM0_4:=aR (st:=cB 46 4) i2 hL cc;have bM0_4:=FM0_4.binds (ps:=["self","within"]) λ_ _ _ _ _ _=>cg (λ_=>cg (λ_=>du rfl));have FM0_5:=aR (st:=cB 46 5) i5 hN cd;have bM0_5:=FM0_5.binds (ps:=["self"]) λ_ _ _ _ _ _=>cg (λ_=>du rfl);have FM0_6:=aR (st:=cB 46 6) j1 hP ch;have bM0_6:=FM0_6.binds (ps:=["self","sign"]) λ_ _ _ _ _ _=>cg (λ_=>cg (λ_=>du rfl));have FM0_7:=aR (st:=cB 46 7) j3 hR cl;have bM0_7:=FM0_7.binds (ps:=["self"]) λ_ _ _ _ _ _=>cg (λ_=>du rfl);have T:Txt K mg:=⟨⟨f1,_,T1,_,[.int 0],F1,b1,e1,mg_of X G a1,(.cons ⟨_,rfl⟩ .nil),λ_=>(.cons (.int _) .nil)⟩,⟨f2,_,F2,b2,mg_of X G a2⟩,⟨f3,_,F3,b3,mg_of X G a3⟩,⟨f4,_,T4,_,[.int 1],F4,b4,e4,mg_of X G a4,(.cons ⟨_,rfl⟩ .nil),λ_=>(.cons (.int _) .nil)⟩,⟨f5,_,F5,b5,mg_of X G a5⟩,⟨f6,_,F6,b6,mg_of X G a6⟩,⟨f7,_,F7,b7,mg_of X G a7⟩,⟨f8,_,F8,b8,mg_of X G a8⟩,⟨f9,_,F9,b9,mg_of X G a9⟩,⟨co,_,F10,b10,mg_of X G FL⟩,⟨cp,_,F11,b11,mg_of X G FP⟩,⟨cs,_,F12,b12,mg_of X G FT⟩,⟨ct,_,F13,b13,mg_of X G FX⟩,⟨cw,_,F14,b14,mg_of X G Ga⟩,⟨cD,_,F15,b15,mg_of X G Ge⟩,⟨cH,_,F16,b16,mg_of X G Gi⟩,⟨cN,_,F17,b17,mg_of X G Gn⟩,⟨cT,_,F18,b18,mg_of X G Gs⟩,⟨c0,_,F19,b19,mg_of X G Gw⟩,⟨da,_,F20,b20,mg_of X G GA⟩,⟨db,_,F21,b21,mg_of X G GG⟩,⟨dd,_,F22,b22,mg_of X G GK⟩,⟨df,_,F23,b23,mg_of X G GP⟩,⟨bi,_,F24,b24,mg_of X G kw⟩,⟨di,_,F25,b25,mg_of X G GX⟩,⟨dj,_,F26,b26,mg_of X G G1⟩,⟨dk,_,F27,b27,mg_of X G G5⟩,⟨dl,_,F28,b28,mg_of X G G9⟩,⟨bj,_,eb,_,[.non],F29,b29,e29,mg_of X G Hd,(.cons rfl .nil),λ_=>(.cons .non .nil)⟩,⟨ds,_,F30,b30,mg_of X G Hh⟩,⟨dx,_,F31,b31,mg_of X G Hl⟩,⟨dK,_,F32,b32,mg_of X G Hq⟩,⟨dO,_,F33,b33,mg_of X G Hu⟩,⟨dT,_,F34,b34,mg_of X G Hy⟩,⟨dV,_,F35,b35,mg_of X G HC⟩,⟨d1,_,F36,b36,mg_of X G HG⟩,⟨d2,_,F37,b37,mg_of X G HK⟩,⟨ea,_,F38,b38,mg_of X G HP⟩,(mg_of X G Ie).trans (mg_of X G kw).symm,⟨ab,mg_of X G If,⟨y2,y5,za,zb⟩,h6,h7,h8,⟨ad,_,⟨zf,h9,hA,zi⟩,FM0_0,bM0_0⟩,⟨ai,_,⟨ih,hD,bT⟩,FM0_1,bM0_1⟩,⟨aj,_,⟨is,hF,b0⟩,FM0_2,bM0_2⟩,⟨an,_,⟨ix,hH,cb⟩,FM0_3,bM0_3⟩,⟨ap,_,⟨i1,hK,cc⟩,FM0_4,bM0_4⟩,⟨ar,_,⟨i3,hM,cd⟩,FM0_5,bM0_5⟩,⟨as,_,⟨j0,hO,ch⟩,FM0_6,bM0_6⟩,⟨az,_,⟨j2,hQ,cl⟩,FM0_7,bM0_7⟩⟩,⟨hx,hy,hz,⟨mg_of X G H7,H8⟩,⟨mg_of X G H9,Ia⟩,⟨mg_of X G Ib,Ic⟩⟩,⟨_,mg_of X G HZ⟩,⟨_,mg_of X G H0⟩,⟨_,mg_of X G H1⟩,⟨_,mg_of X G H2⟩,⟨_,mg_of X G H3⟩,⟨_,mg_of X G H4⟩,⟨_,mg_of X G H5⟩,⟨_,mg_of X G H6⟩,⟨hv,mg_of X G ys,_,_,_,_,y1,(.cons ⟨_,rfl⟩ (.cons ⟨_,rfl⟩ (.cons ⟨_,rfl⟩ .nil)))⟩,mg_none_of X G z1,mg_none_of X G z2,mg_none_of X G z3,mg_none_of X G z4,mg_none_of X G z5,mg_none_of X G z6,mg_none_of X G z7,mg_none_of X G z8,mg_none_of X G z9,mg_none_of X G Ig,mg_none_of X G Ih,mg_none_of X G Ii⟩;exact⟨fnOf "law" "law" (au (ax 69)) (ao (ax 69)) (ak (ax 69)) .none fb fc fg ed cn fl,λs v=> .of_eq rfl,λbase _ _=>yG T F39⟩
theorem walk {l:PySem.W.OpenLaw} {q:Program} {loose:List Str} {XP:(Str->Option Value)->Heap->Prop} {YP:World->Heap->Prop} {d:DefRec} {K:Params->yav} (hn:l.most=some 63) (hdf:d.params.defaults=[])
 (hY:∀(w:World) (h:Heap),YP w h->(K w.params).In h)
 (F:∀(w:World) (mg:yew) (fa:Addr) (h:Heap),(K w.params).In h->h.Ns mainGlobals mg->mg d.name=some (.ref fa)->
   ∃fd:FuncData,(∀(s:Shared) (u:Value),BindsTo s fd ⟨[u],[]⟩ [("_law_script",u)])/\∀base:Heap,(K w.params).In base->base.Ns mainGlobals mg->fP l.prog w (K w.params) mg base re 100 fa fd ["_law_script"] (ur (K w.params) jJ)):
 PySem.W.WalkO q loose XP YP l.row.toRowW d [] (λf vs=>PySem.call f vs):=
 L2.walk_of (n:=63) (k:=100) (x:="_law_script") (CX:=λ_=>re) (sp:=λw=>ur (K w.params) jJ) hn (by decide) hdf ⟨rfl,by decide,by decide⟩ hY F (λ_ _ _ _ hl hO hS=>qk hO hS hl) λ_ _ _ _ _ z=>z
end Lw
namespace PySem.W.Fast
theorem te7273006248408664053:0=0:=rfl
theorem te13483528759275667654:0=0:=rfl
theorem te6975869333519729673:0=0:=rfl
theorem te16502433898987675985:0=0:=rfl
theorem te4944120827166167161:0=0:=rfl
theorem te597891272509234155:0=0:=rfl
theorem te14188144054356627638:0=0:=rfl
theorem te7650585822947267205:0=0:=rfl
theorem te7876323163924962567:0=0:=rfl
theorem te12101133507618338009:0=0:=rfl
theorem te6271937885970969328:0=0:=rfl
theorem te1090107930834128232:0=0:=rfl
theorem te14313766514864739300:0=0:=rfl
theorem te13456027351837883811:0=0:=rfl
theorem te16330423042565675136:0=0:=rfl
theorem te10847728158990546042:0=0:=rfl
theorem te11094918379536828796:0=0:=rfl
theorem te10051066431835811313:0=0:=rfl
theorem te2858122669535777106:0=0:=rfl
theorem te3611567395172911590:0=0:=rfl
theorem te3397441668136522991:0=0:=rfl
theorem te5417815354214168456:0=0:=rfl
theorem te14366010787265988371:0=0:=rfl
theorem te9410841099964841361:0=0:=rfl
theorem te5171417971509407671:0=0:=rfl
theorem te120477439782639175:0=0:=rfl
theorem te11243628318668876348:0=0:=rfl
theorem te8806105064926115198:0=0:=rfl
theorem te7678874609468643789:0=0:=rfl
theorem te1470703074665976570:0=0:=rfl
theorem te8509795960103094575:0=0:=rfl
theorem te13328672600784413542:0=0:=rfl
theorem te17416402918931138833:0=0:=rfl
theorem te3610398964758545179:0=0:=rfl
theorem te12822441754968782708:0=0:=rfl
theorem te3897780006115587204:0=0:=rfl
theorem te7383019640737745177:0=0:=rfl
theorem te5843918473075051718:0=0:=rfl
theorem te5350308664069928014:0=0:=rfl
theorem te17174677592364021237:0=0:=rfl
theorem te9853929505920115922:0=0:=rfl
theorem te9562543408074008912:0=0:=rfl
theorem te13627648007484214886:0=0:=rfl
theorem te14788552382669840906:0=0:=rfl
theorem te7280691650951743605:0=0:=rfl
theorem te7316353283033407886:0=0:=rfl
theorem te16769617655536544708:0=0:=rfl
theorem te7628647671782011591:0=0:=rfl
theorem te10997105473805541290:0=0:=rfl
theorem te11111695101571762133:0=0:=rfl
theorem te6864211281179675332:0=0:=rfl
theorem te15177679703318044604:0=0:=rfl
theorem te85688002870676858:0=0:=rfl
theorem te8399843613122257408:0=0:=rfl
theorem te10786869602860508338:0=0:=rfl
theorem te2604005826675782284:0=0:=rfl
theorem te14202658706684680482:0=0:=rfl
theorem te15119475939334995977:0=0:=rfl
theorem te17200871817402988372:0=0:=rfl
theorem te13457028133522306264:0=0:=rfl
theorem te16008617928011473977:0=0:=rfl
theorem te14251616243212517915:0=0:=rfl
theorem te272305309077563627:0=0:=rfl
theorem te11121382335994520959:0=0:=rfl
theorem te14890630455734780428:0=0:=rfl
theorem te14723018370462839914:0=0:=rfl
theorem te10946217520062274215:0=0:=rfl
theorem te12215690039441789319:0=0:=rfl
theorem te1732725771912433612:0=0:=rfl
theorem te13609572313972198246:0=0:=rfl
theorem te17555919217728757131:0=0:=rfl
theorem te18177245045583529536:0=0:=rfl
theorem te13052548290552240675:0=0:=rfl
theorem te15171329990887036898:0=0:=rfl
theorem te598825716308058780:0=0:=rfl
theorem te12361558710595069604:0=0:=rfl
theorem te4714537513895481817:0=0:=rfl
theorem te15757413713899693663:0=0:=rfl
theorem te13667772108141635015:0=0:=rfl
theorem te15385018026339142500:0=0:=rfl
theorem te12479083006227467666:0=0:=rfl
theorem te16265203119137277880:0=0:=rfl
theorem te9697194337118857624:0=0:=rfl
theorem te15085599585665192025:0=0:=rfl
theorem te4684953819118745170:0=0:=rfl
theorem te8480332320764032113:0=0:=rfl
theorem te16892688855081233421:0=0:=rfl
theorem te7473972653830833005:0=0:=rfl
theorem te14414489776297665072:0=0:=rfl
theorem te5216636279103013489:0=0:=rfl
theorem te16558850439440464839:0=0:=rfl
theorem te9930632888815724291:0=0:=rfl
theorem te8139343153468298882:0=0:=rfl
theorem te5738519232349397251:0=0:=rfl
theorem te15952413978111121578:0=0:=rfl
theorem te15674582313157900750:0=0:=rfl
theorem te2809924058958944397:0=0:=rfl
theorem te3019678703712310920:0=0:=rfl
theorem te728650274725685047:0=0:=rfl
theorem te3873497846263795958:0=0:=rfl
theorem te6850355951875511127:0=0:=rfl
theorem te9880731993264307239:0=0:=rfl
theorem te15416306370568074481:0=0:=rfl
theorem te2971589017181667961:0=0:=rfl
theorem te13621559597198887561:0=0:=rfl
theorem te286658277610498663:0=0:=rfl
theorem te8051023571057529344:0=0:=rfl
theorem te4576481145023615484:0=0:=rfl
theorem te8421034832623646860:0=0:=rfl
theorem te89595958480092204:0=0:=rfl
theorem te18304638480467323762:0=0:=rfl
theorem te6636018201521116113:0=0:=rfl
theorem te2710727579372616364:0=0:=rfl
theorem te8204595505953380523:0=0:=rfl
theorem te6113733250198148051:0=0:=rfl
theorem te1042185997433593718:0=0:=rfl
theorem te17153913830807557042:0=0:=rfl
theorem te13929804508416325753:0=0:=rfl
theorem te6564863798559482495:0=0:=rfl
theorem te8742755208082258666:0=0:=rfl
theorem te5180467646691282100:0=0:=rfl
theorem te14921068069679788183:0=0:=rfl
theorem te2340670934931351377:0=0:=rfl
theorem te5441997086596686395:0=0:=rfl
theorem te5203176732523209171:0=0:=rfl
theorem te10016531349973702308:0=0:=rfl
theorem te16708932561325908043:0=0:=rfl
theorem te6729481813056752362:0=0:=rfl
theorem te17684210935982145138:0=0:=rfl
theorem te11377687945133174495:0=0:=rfl
theorem te11112193292870216369:0=0:=rfl
theorem te5990846537820453630:0=0:=rfl
theorem te15153477933320783932:0=0:=rfl
theorem te17481745200413251356:0=0:=rfl
theorem te5384801249354447886:0=0:=rfl
theorem te11915746912690793506:0=0:=rfl
theorem te12921893178370928204:0=0:=rfl
theorem te18166742675593369399:0=0:=rfl
theorem te17948085857831018188:0=0:=rfl
theorem te8956154768935369612:0=0:=rfl
theorem te17813789250869695123:0=0:=rfl
theorem te17171432318144631856:0=0:=rfl
theorem te12208872859984844059:0=0:=rfl
theorem te13953045672711977317:0=0:=rfl
theorem te16047047565085002251:0=0:=rfl
theorem te12043011415937253798:0=0:=rfl
theorem te15324231484634481383:0=0:=rfl
theorem te18241477539578429605:0=0:=rfl
theorem te4796691025359249111:0=0:=rfl
theorem te13858465946919190466:0=0:=rfl
theorem te7848013062742623329:0=0:=rfl
theorem te6286814902096101893:0=0:=rfl
theorem te14188206352645087442:0=0:=rfl
theorem te14787160667630913885:0=0:=rfl
theorem te5407505904240064906:0=0:=rfl
theorem te11362200135538321415:0=0:=rfl
theorem te995225602354209774:0=0:=rfl
theorem te553168416799225115:0=0:=rfl
theorem te9423365426310311155:0=0:=rfl
theorem te17139002770557119856:0=0:=rfl
theorem te14300836845835957647:0=0:=rfl
theorem te9522943502138032584:0=0:=rfl
theorem te1505133699087148363:0=0:=rfl
theorem te5885920889616105859:0=0:=rfl
theorem te10539988612599016834:0=0:=rfl
theorem te14827436888986397989:0=0:=rfl
theorem te12402246249949547002:0=0:=rfl
theorem te6109827367635851971:0=0:=rfl
theorem te12172295724729991151:0=0:=rfl
theorem te7760832402818921590:0=0:=rfl
theorem te16566304764515250658:0=0:=rfl
theorem te11248099084098350616:0=0:=rfl
theorem te4133531879180297009:0=0:=rfl
theorem te16711854641990183179:0=0:=rfl
theorem te13020595515666617856:0=0:=rfl
theorem te2946968399592846202:0=0:=rfl
theorem te2767135904018789786:0=0:=rfl
theorem te5359148794081826039:0=0:=rfl
theorem te9701251753886368125:0=0:=rfl
theorem te18244474130704733914:0=0:=rfl
theorem te18419363616416690642:0=0:=rfl
theorem te17633352121528860343:0=0:=rfl
theorem te17481287603722165074:0=0:=rfl
theorem te12119001321034229899:0=0:=rfl
theorem te7194914188870023008:0=0:=rfl
theorem te18280339788141722920:0=0:=rfl
theorem te10608368843311667128:0=0:=rfl
theorem te262036684801071472:0=0:=rfl
theorem te8820311230134031160:0=0:=rfl
theorem te6044893298341151372:0=0:=rfl
theorem te10712576822976962778:0=0:=rfl
theorem te9641990149183004555:0=0:=rfl
theorem te17018026895799581440:0=0:=rfl
theorem te1277799010859729747:0=0:=rfl
theorem te7406628105203813175:0=0:=rfl
theorem te7663431525212694143:0=0:=rfl
theorem te2769408933885664785:0=0:=rfl
theorem te14774459459578785170:0=0:=rfl
theorem te4906124709185228692:0=0:=rfl
theorem te1523989814351390937:0=0:=rfl
theorem te10460919227544031:0=0:=rfl
theorem te13347082339308635735:0=0:=rfl
theorem te1807439310145231692:0=0:=rfl
theorem te7200321871059193623:0=0:=rfl
theorem te10944179356324585238:0=0:=rfl
theorem te14750334518583243400:0=0:=rfl
theorem te2967241704497097473:0=0:=rfl
theorem te5839008281310672859:0=0:=rfl
theorem te3817587193652649615:0=0:=rfl
theorem te13794064543998827271:0=0:=rfl
theorem te16576572846251772509:0=0:=rfl
theorem te2525625504465324390:0=0:=rfl
theorem te10892473495359141327:0=0:=rfl
theorem te16937786010469928162:0=0:=rfl
theorem te5513338295178365708:0=0:=rfl
theorem te15401854288634459520:0=0:=rfl
theorem te12517024992290082267:0=0:=rfl
theorem te5540691661295272:0=0:=rfl
theorem te6626039807278886188:0=0:=rfl
theorem te12196940466098995331:0=0:=rfl
theorem te16663539486187135795:0=0:=rfl
theorem te15936200266766354344:0=0:=rfl
theorem te1185930791607715913:0=0:=rfl
theorem te4708053592974109173:0=0:=rfl
theorem te304771432536032039:0=0:=rfl
theorem te6465005232022264403:0=0:=rfl
theorem te509541086672664609:0=0:=rfl
theorem te1979128887004214846:0=0:=rfl
theorem te971981167322728910:0=0:=rfl
theorem te7172456693159036:0=0:=rfl
theorem te750468446333386222:0=0:=rfl
theorem te9611937226785980607:0=0:=rfl
theorem te2546722364579113401:0=0:=rfl
theorem te7033820448287527262:0=0:=rfl
theorem te14765819533589956574:0=0:=rfl
theorem te9282825612442781473:0=0:=rfl
theorem te5443907208623948931:0=0:=rfl
theorem te11554792487795487584:0=0:=rfl
theorem te13770237230429972379:0=0:=rfl
theorem te17732747862441569546:0=0:=rfl
theorem te7674925659553637050:0=0:=rfl
theorem te2382334851341194855:0=0:=rfl
theorem te5416779980047464722:0=0:=rfl
theorem te15825679318923161060:0=0:=rfl
theorem te1415951018555438367:0=0:=rfl
theorem te9910580091049629542:0=0:=rfl
theorem te7151106114409353948:0=0:=rfl
theorem te9945101742307992527:0=0:=rfl
theorem te8729177690456968678:0=0:=rfl
theorem te17110695460316954411:0=0:=rfl
theorem te857607679742392122:0=0:=rfl
theorem te7189627279757023795:0=0:=rfl
theorem te6669998616820220485:0=0:=rfl
theorem te5067826108542911701:0=0:=rfl
theorem te513597641075587167:0=0:=rfl
theorem te3213460363354141773:0=0:=rfl
theorem te5735981184693373083:0=0:=rfl
theorem te13854215245326505613:0=0:=rfl
theorem te14119137683632741607:0=0:=rfl
theorem te9720268386169617413:0=0:=rfl
theorem te2675961185801573874:0=0:=rfl
theorem te13919487483811301540:0=0:=rfl
theorem te14573796777058170367:0=0:=rfl
theorem te13393798030273910761:0=0:=rfl
theorem te3199453257324348035:0=0:=rfl
theorem te18413633864973359403:0=0:=rfl
theorem te330156994448554682:0=0:=rfl
theorem te7350614790198654163:0=0:=rfl
theorem te4052963633086239350:0=0:=rfl
theorem te18425340068179387121:0=0:=rfl
theorem te2933454529411213521:0=0:=rfl
theorem te900845259619107957:0=0:=rfl
theorem te14024165278811420987:0=0:=rfl
theorem te14778845375146345589:0=0:=rfl
theorem te10137977683086319834:0=0:=rfl
theorem te4897394098845376833:0=0:=rfl
theorem te980957333137548626:0=0:=rfl
theorem te1386245507182459127:0=0:=rfl
theorem te11244522372185934737:0=0:=rfl
theorem te15256023233542877673:0=0:=rfl
theorem te12990287452480335575:0=0:=rfl
theorem te4902850818899899149:0=0:=rfl
theorem te7947042390174464672:0=0:=rfl
theorem te10826865026179533997:0=0:=rfl
theorem te9436419981063822598:0=0:=rfl
theorem te15477300021891267481:0=0:=rfl
theorem te10269435045430237378:0=0:=rfl
theorem te16308384789600919820:0=0:=rfl
theorem te1199991573364857045:0=0:=rfl
theorem te15970386320597896370:0=0:=rfl
theorem te12294064017934949668:0=0:=rfl
theorem te17406835670560502671:0=0:=rfl
theorem te2654672591094179435:0=0:=rfl
theorem te335254864692711813:0=0:=rfl
theorem te6772053500925086879:0=0:=rfl
theorem te6361067473756104720:0=0:=rfl
theorem te13233301255392716402:0=0:=rfl
theorem te4516573607462251217:0=0:=rfl
theorem te14863655244033435985:0=0:=rfl
theorem te10159664533438385305:0=0:=rfl
theorem te9988502153486619064:0=0:=rfl
theorem te5546673365097082945:0=0:=rfl
theorem te11245464889940760181:0=0:=rfl
theorem te4014182562823543947:0=0:=rfl
theorem te2073865521289829779:0=0:=rfl
theorem te2639475546718976252:0=0:=rfl
theorem te16096894403903355366:0=0:=rfl
theorem te4943668820859715454:0=0:=rfl
theorem te3632752224860014800:0=0:=rfl
theorem te5023273258151698484:0=0:=rfl
theorem te17035614396377775516:0=0:=rfl
theorem te15187299416016297956:0=0:=rfl
theorem te4288042636909245989:0=0:=rfl
theorem te12476042197446920326:0=0:=rfl
theorem te1930250591933172801:0=0:=rfl
theorem te10905145462759043363:0=0:=rfl
theorem te4009268505275275408:0=0:=rfl
theorem te925559801678372752:0=0:=rfl
theorem te15277373566127628362:0=0:=rfl
theorem te1496931074139079796:0=0:=rfl
theorem te17119076293033006583:0=0:=rfl
theorem te10411366702685677683:0=0:=rfl
theorem te6115479771070139510:0=0:=rfl
theorem te17567228912088880599:0=0:=rfl
theorem te12366284523101184412:0=0:=rfl
theorem te3846090421711027061:0=0:=rfl
theorem te12125141812556860010:0=0:=rfl
theorem te5919088767274472280:0=0:=rfl
theorem te4944455997713730541:0=0:=rfl
theorem te5958174501341767655:0=0:=rfl
theorem te2598126484722736112:0=0:=rfl
theorem te4385349963363800291:0=0:=rfl
theorem te4439197798422345201:0=0:=rfl
theorem te18248569756491194900:0=0:=rfl
theorem te11502578044432967045:0=0:=rfl
theorem te14703140571061040778:0=0:=rfl
theorem te10874822091614151534:0=0:=rfl
theorem te15071210826655427098:0=0:=rfl
theorem te16068292535974132018:0=0:=rfl
theorem te9527042966978379142:0=0:=rfl
theorem te7345361917803829975:0=0:=rfl
theorem te2019732977053409652:0=0:=rfl
theorem te1271130641210149316:0=0:=rfl
theorem te13292850882691452339:0=0:=rfl
theorem te4951688759392668291:0=0:=rfl
theorem te7420408791822053656:0=0:=rfl
theorem te1233344737482661051:0=0:=rfl
theorem te105048588697797534:0=0:=rfl
theorem te13470989778062540838:0=0:=rfl
theorem te14188013960272029890:0=0:=rfl
theorem te17258341461882912629:0=0:=rfl
theorem te11535056745174845672:0=0:=rfl
theorem te7241165963650491059:0=0:=rfl
theorem te12299596041817685211:0=0:=rfl
theorem te10120297196038212679:0=0:=rfl
theorem te7832145813560867625:0=0:=rfl
theorem te788117280460813772:0=0:=rfl
theorem te10877789926972759853:0=0:=rfl
theorem te11391463473733062659:0=0:=rfl
theorem te2809273763083947733:0=0:=rfl
theorem te16028228177312559794:0=0:=rfl
theorem te4145310818920533929:0=0:=rfl
theorem te2627055764174638282:0=0:=rfl
theorem te3270426542555034080:0=0:=rfl
theorem te10195375381060057033:0=0:=rfl
theorem te5036345257414298106:0=0:=rfl
theorem te12537558474959072001:0=0:=rfl
theorem te6197954071320856874:0=0:=rfl
theorem te3754979501403089700:0=0:=rfl
theorem te11694693155518393356:0=0:=rfl
theorem te16741402574239315827:0=0:=rfl
theorem te5805713514704469039:0=0:=rfl
theorem te18320481433125599634:0=0:=rfl
theorem te4684498386921301666:0=0:=rfl
theorem te17101582623128528842:0=0:=rfl
theorem te12475127349756363525:0=0:=rfl
theorem te6160822068111543154:0=0:=rfl
theorem te5324589280190943186:0=0:=rfl
theorem te534356261076433394:0=0:=rfl
theorem te6693074171703087131:0=0:=rfl
theorem te60476831798583657:0=0:=rfl
theorem te592557766962536516:0=0:=rfl
theorem te4791461309568744026:0=0:=rfl
theorem te6283335639343375038:0=0:=rfl
theorem te9048750452002890989:0=0:=rfl
theorem te16520282380041845674:0=0:=rfl
theorem te7855764363867794539:0=0:=rfl
theorem te12252509313267697221:0=0:=rfl
theorem te16467815259374003341:0=0:=rfl
theorem te7679711338164183628:0=0:=rfl
theorem te15180666201457245671:0=0:=rfl
theorem te5691924317353868213:0=0:=rfl
theorem te6044502264596389635:0=0:=rfl
theorem te9472034145978359884:0=0:=rfl
theorem te2472724330312389373:0=0:=rfl
noncomputable def tw10204766277784185716:Unit:=()
noncomputable def tw561903323468413890:Unit:=()
noncomputable def tw9608262436000096682:Unit:=()
noncomputable def tw6039411963622314409:Unit:=()
noncomputable def tw9748159346004323692:Unit:=()
noncomputable def tw11727724363428636034:Unit:=()
noncomputable def tw10315732438097579341:Unit:=()
noncomputable def tw15990798488810694717:Unit:=()
noncomputable def tw17059172551880652163:Unit:=()
noncomputable def tw5335763024133933158:Unit:=()
noncomputable def tw14789693120654773351:Unit:=()
noncomputable def tw17109156721848369000:Unit:=()
noncomputable def tw1099247890919857993:Unit:=()
noncomputable def tw7608182207888506988:Unit:=()
noncomputable def tw14914422186300180141:Unit:=()
noncomputable def tw1692811376255526959:Unit:=()
noncomputable def tw10221390518326896719:Unit:=()
noncomputable def tw12443966228533635471:Unit:=()
noncomputable def tw15506764855745248528:Unit:=()
noncomputable def tw14709285511165028338:Unit:=()
noncomputable def tw2299390380135001144:Unit:=()
noncomputable def tw6639885245724327292:Unit:=()
noncomputable def tw13999443537631385501:Unit:=()
end PySem.W.Fast
open PySem PySem.W PyProof.Rows
set_option maxRecDepth 100000 in
set_option maxHeartbeats 0 in
theorem PySem.Challenge.cw_hydrahouse_k71_shown_and_read_holds : PySem.Challenge.rw_hydrahouse_k71_shown_and_read.Holds := by
 w_on;o_law;k_head;(case hw=>w_witness2)
 k_fill
 refine Lw.walk (l:=PySem.Challenge.rw_hydrahouse_k71_shown_and_read) rfl rfl (λw h Y=>PySem.W.kIn_of Y) ?F
 case F=>
  intro w mg fa h KX G hmg;refine' Lw.all_mk KX G hmg ?a1 ?l1 ?c1 ?k1 ?a2 ?l2 ?c2 ?k2 ?a3 ?l3 ?c3 ?k3 ?a4 ?l4 ?c4 ?k4 ?a5 ?l5 ?c5 ?k5 ?a6 ?l6 ?c6 ?k6 ?a7 ?l7 ?c7 ?k7 ?a8 ?l8 ?c8 ?k8 ?a9 ?l9 ?c9 ?k9 ?FL ?FM ?FN ?FO ?FP ?FQ ?FR ?FS ?FT ?FU ?FV ?FW ?FX ?FY ?FZ ?F0 ?Ga ?Gb ?Gc ?Gd ?Ge ?Gf ?Gg ?Gh ?Gi ?Gj ?Gk ?Gm ?Gn ?Go ?Gq ?Gr ?Gs ?Gt ?Gu ?Gv ?Gw ?Gx ?Gy ?Gz ?GA ?GB ?GC ?GF ?GG ?GH ?GI ?GJ ?GK ?GL ?GM ?GN ?GP ?GQ ?GR ?GS ?kw ?GU ?GV ?GW ?GX ?GY ?GZ ?G0 ?G1 ?G2 ?G3 ?G4 ?G5 ?G6 ?G7 ?G8 ?G9 ?Ha ?Hb ?Hc ?Hd ?He ?Hf ?Hg ?Hh ?Hi ?Hj ?Hk ?Hl ?Hm ?Hn ?Ho ?Hq ?Hr ?Hs ?Ht ?Hu ?Hv ?Hw ?Hx ?Hy ?Hz ?HA ?HB ?HC ?HD ?HE ?HF ?HG ?HH ?HI ?HJ ?HK ?HL ?HM ?HN ?HP ?HQ ?HR ?HS ?HU ?HV ?HW ?HX ?t1 ?t4 ?HY ?HZ ?H0 ?H1 ?H2 ?H3 ?H4 ?H5 ?H6 ?ys ?y1 ?H7 ?H8 ?H9 ?Ia ?Ib ?Ic ?Ie ?If ?y2 ?y5 ?za ?zb ?zf ?zi ?h6 ?h7 ?h8 ?h9 ?hA ?id ?hB ?hC ?ih ?hD ?ij ?hE ?bT ?is ?hF ?it ?hG ?b0 ?ix ?hH ?i0 ?hI ?cb ?i1 ?hK ?i2 ?hL ?cc ?i3 ?hM ?i5 ?hN ?cd ?j0 ?hO ?j1 ?hP ?ch ?j2 ?hQ ?j3 ?hR ?cl ?z1 ?z2 ?z3 ?z4 ?z5 ?z6 ?z7 ?z8 ?z9 ?Ig ?Ih ?Ii
  case a1|l1|c1|k1|a2|l2|c2|k2|a3|l3|c3|k3|a4|l4|c4|k4|a5|l5|c5|k5|a6|l6|c6|k6|a7|l7|c7|k7|a8|l8|c8|k8|a9|l9|c9|k9|FL|FM|FN|FO|FP|FQ|FR|FS|FT|FU|FV|FW|FX|FY|FZ|F0|Ga|Gb|Gc|Gd|Ge|Gf|Gg|Gh|Gi|Gj|Gk|Gm|Gn|Go|Gq|Gr|Gs|Gt|Gu|Gv|Gw|Gx|Gy|Gz|GA|GB|GC|GF|GG|GH|GI|GJ|GK|GL|GM|GN|GP|GQ|GR|GS|kw|GU|GV|GW|GX|GY|GZ|G0|G1|G2|G3|G4|G5|G6|G7|G8|G9|Ha|Hb|Hc|Hd|He|Hf|Hg|Hh|Hi|Hj|Hk|Hl|Hm|Hn|Ho|Hq|Hr|Hs|Ht|Hu|Hv|Hw|Hx|Hy|Hz|HA|HB|HC|HD|HE|HF|HG|HH|HI|HJ|HK|HL|HM|HN|HP|HQ|HR|HS|HU|HV|HW|HX|t1|t4|HY|HZ|H0|H1|H2|H3|H4|H5|H6|ys|y1|H7=>k_is
  (case H8=>k_exc)
  case H9=>k_is
  (case Ia=>k_exc)
  case Ib=>k_is
  (case Ic=>k_exc)
  case Ie|If|y2|y5|za|zb|zf|zi|h6|h7|h8|h9|hA|id|hB|hC|ih|hD|ij|hE|bT|is|hF|it|hG|b0|ix|hH|i0|hI|cb|i1|hK|i2|hL|cc|i3|hM|i5|hN|cd|j0|hO|j1|hP|ch|j2|hQ|j3|hR|cl|z1|z2|z3|z4|z5|z6|z7|z8|z9|Ig|Ih|Ii=>k_is
