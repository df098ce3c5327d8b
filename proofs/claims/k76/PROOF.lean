import PyProof.Rows.All
import Wide.All
import Wide.FinOn
import KE.KEqDict
import KE.KDictList
import KE.LcSums
import KE.KIsAll
import KE.KIntText
import OpenK.KMore
import OpenK.KOwn
import PySem.Challenge.RW_hydrahouse_k76_desk_refusals
set_option Elab.async false
set_option linter.all false
namespace PySem.W.Fast
open Lean in
local macro_rules|`(command| include $_*) => do
  let n (p x : String) := mkIdent (.mkSimple s!"{p}{(Name.mkStr `_Z.q x).hash}")
  return mkNullNode ((← ("977 923 904 841 794 777 694 611 539 530 465 1027 1025 1034 382 1058 1056 1032 296 1020 1018 741 244 462 1006 464 1004 450 457 739 452 404 992 990 672 365 1039 229 1053 480 402 638 670 367 1051 920 619 214 495 964 624 943 199 997 962 417 918 974 582 945 79 478 184 913 999 419 390 580 455 976 169 1041 388 617 640 154 626 344 633 652 497 139 353 911 527 650 721 351 337 686 631 339 957 124 492 693 1013 109 707 691 524 959 790 490 346 679 529 94 719 1011 568 433 538 522 589 677 440 684 788 734 854 473 852 605 438 431 374 536 705 561 575 882 796 587 471 906 847 732 372 64 543 880 559 566 573 1048 504 502 845 49 967 487 969 714 1046 325 266 776 323 485 286 712 831 360 985 647 264 729 664 657 554 288 774 332 755 358 645 947 727 983 655 662 330 596 762 753 594 219 186 552 603 381 760 896 829 1009 927 748 397 972 861 460 447 875 426 379 106 988 601 226 868 767 889 903 838 318 769 791 859 746 256 174 916 512 211 519 785 395 411 702 510 938 295 873 136 166 76 121 151 181 91 196 241 817 887 424 189 114 129 901 866 894 836 941 445 311 249 700 144 84 69 159 204 363 682 995 1037 99 53 234 984 59 581 316 273 231 293 517 783 216 936 280 201 409 81 560 60 96 141 126 246 240 210 90 111 156 66 171 335 429 415 180 150 824 135 225 75 195 165 105 120 255 400 955 342 689 629 309 304 271 403 321 784 740 958 815 761 278 370 546 713 822 567 574 675 436 349 636 737 622 500 1023 937 302 606 588 948 944 602 553 595 949 1044 807 710 660 356 1016 328 72 192 102 207 963 45 483 981 604 469 377 668 1030 386 505 491 991 895 463 317 902 607 550 1005 1012 1047 998 1057 1040 523 528 919 331 503 830 618 625 272 324 701 410 117 975 352 56 518 132 359 366 646 651 425 147 279 968 380 867 345 87 162 537".splitOn " ").toArray.mapM fun x => `(command| theorem $(n "te" ("o_" ++ x)) : 0=0:=rfl)) ++ (← ("view_39 sts_977 sts_382 sts_611 sts_694 sts_465 sts_296 sts_923 sts_904 sts_539 sts_841 sts_794 sts_777 sts_244 heap_1059 tree_123 tree_903 tree_138 tree_976 tree_776 tree_213 tree_838 tree_183 tree_228 tree_538 tree_529 tree_63 tree_243 tree_693 tree_108 heap_46 tree_93 tree_610 tree_198 tree_1058 tree_153 tree_464 tree_78 heap_39 tree_295 tree_791 tree_381 tree_920 tree_47 tree_168".splitOn " ").toArray.mapM fun x => `(command| noncomputable def $(n "tw" x) : Unit := ())))
include x
noncomputable def tw2886057913799711483:Unit:=()
end PySem.W.Fast
open PySem PySem.W PyProof.Rows in
set_option maxRecDepth 100000 in
set_option maxHeartbeats 0 in
open_top _Z.q for PySem.Challenge.rw_hydrahouse_k76_desk_refusals
set_option bootstrap.genMatcherCode false
set_option compiler.extract_closed false
set_option genSizeOf false
set_option tactic.hygienic false
open Lean in
local macro_rules (kind := Lean.Parser.Command.declaration) | s => if s.getPos?.isSome then let t := s.rewriteBottomUp (·.setInfo .none); if (s.find? (·.isOfKind ``Lean.Parser.Tactic.renameI)).isSome then let t : TSyntax `command := ⟨t⟩; `(command|set_option tactic.hygienic true in $t) else return t else Macro.throwUnsupported
namespace _O
variable {g:Prop}
theorem a2 (h:a/\b) (f:a->b->g):g:=f h.1 h.2
theorem a3 (h:a/\b/\c) (f:a->b->c->g):g:=f h.1 h.2.1 h.2.2
theorem a4 (h:a/\b/\c/\d) (f:a->b->c->d->g):g:=a3 h.2 (f h.1)
theorem a5 (h:a/\b/\c/\d/\e) (f:a->b->c->d->e->g):g:=a4 h.2 (f h.1)
theorem a6 (h:a/\b/\c/\d/\e/\i) (f:a->b->c->d->e->i->g):g:=a5 h.2 (f h.1)
variable {p q r s:α->Prop}
theorem e1 (h:Exists p) (f:∀x,p x->g):g:=h.elim f
theorem e2 (h:∃x,p x/\q x) (f:∀x,p x->q x->g):g:=h.elim λx h=>a2 h (f x)
theorem e3 (h:∃x,p x/\q x/\r x) (f:∀x,p x->q x->r x->g):g:=h.elim λx h=>a3 h (f x)
theorem e4 (h:∃x,p x/\q x/\r x/\s x) (f:∀x,p x->q x->r x->s x->g):g:=h.elim λx h=>a4 h (f x)
open Lean Lean.Parser.Tactic
def nd (k:Name) (a:Array Syntax):Syntax:=.node .none k a
def tu (x:Array Syntax):=nd ``rintroPat.one #[nd ``rcasesPat.tuple #[mkAtom "⟨",mkNullNode (mkSepArray x (mkAtom ",")),mkAtom "⟩"]]
def pt (s:Syntax):=nd ``rintroPat.one #[if s[1].isNone&&s[0][0].getNumArgs==1 then s[0][0][0] else nd ``rcasesPat.paren #[mkAtom "(",s,mkAtom ")"]]
def ch:Nat->List Syntax->List Syntax
 |j+2,x::y::z=>pt x::ch (j+1) (y::z)
 |_,[x]=>[pt x]
 |_,x=>[tu x.toArray]
def al (e:Term) (p:List Syntax):List (Name×Nat)->MacroM (List (TSyntax ``tacticSeq))
 |(l,j)::k=>do
  let r<-al e p k
  if p.length<j then return r
  let q:TSyntaxArray `rintroPat:=⟨(ch j p).map (⟨·⟩)⟩
  return (<-`(tacticSeq|(refine $(mkCIdent l) $e ?_;(try clear $e);rintro $q*)))::r
 |_=>return []
end _O
open _O Lean Lean.Parser.Tactic in
local macro_rules
 |`(tactic|obtain $p:rcasesPatMed:=$e)=>do
  let t:=p.raw[0][0]
  if p.raw[0].getNumArgs>1||t.getKind != ``rcasesPat.tuple then Macro.throwUnsupported
  let r<-al e t[1].getSepArgs.toList [(``a6,6),(``a5,5),(``a4,4),(``a3,3),(``a2,2),(``e4,5),(``e3,4),(``e2,3),(``e1,2)]
  let a:TSyntaxArray ``tacticSeq:=r.toArray.push (<-`(tacticSeq|rcases $e:term with $p:rcasesPatMed))
  `(tactic|first $[|$a]*)
 |`(tactic|cases $e:term)=>do
  if e.raw.isOfKind ``Lean.Parser.Term.paren then Macro.throwUnsupported
  `(tactic|first|subst $e|(injection $e with z y x w;cases z;cases y;cases x;cases w)|(injection $e with z y x;cases z;cases y;cases x)|(injection $e with z y;cases z;cases y)|(injection $e with z;cases z)|injection $e;done|cases ($e))
 |`(tactic|rintro $p:rintroPat $q:rintroPat $s*)=>`(tactic|(rintro $p;rintro $q $s*))
 |`(tactic|rintro $p:rintroPat)=>do
  let t:=p.raw[0]
  if t.getKind != ``rcasesPat.tuple then Macro.throwUnsupported
  `(tactic|(intro z;obtain $(⟨nd ``rcasesPatMed #[mkNullNode #[t]]⟩):rcasesPatMed:=z))
-- CHANGE: your row's module here, as the last of these rows
set_option maxRecDepth 100000
open PySem.W (Looks callWith_K clsIn codeIn emptyDict findIn fnOf hideAll hideAll_get hideAll_none instObj isFn keepIn kia_one lookIn looks_findIn mg_of mroIn nsIn of_hideAll plainGet)
abbrev yav:=PySem.W.Frag
abbrev ybx:=@List.mem_cons_of_mem
abbrev yby:=@List.mem_cons_self
abbrev ybz:=@PySem.Heap.get?_push_of_some
abbrev ybw:=@PySem.Heap.get?_push_size
abbrev ybv:=@PySem.Heap.lt_size
abbrev ycx:=@Nat.le_refl
abbrev ycy:=@Nat.le_trans
abbrev ycz:=@List.getElem?_eq_getElem
abbrev ycw:=@if_neg
abbrev ycv:=@if_pos
abbrev ydx:=@Bool.false_ne_true
abbrev ydy:=@decide_eq_false
abbrev ydz:=@decide_eq_true
abbrev ydw:=@Nat.lt_of_lt_of_le
abbrev ydv:=@Int.le_trans
abbrev yex:=@List.mem_append_right
abbrev yey:=PySem.Value->PySem.Shared->Prop
abbrev yez:=List PySem.Value
abbrev yew:=PySem.Str->Option PySem.Value
open List (all_cons all_eq_true all_nil any_cons append_assoc append_nil drop_eq_getElem_cons drop_zero filterMap_cons filter_cons flatten_cons forIn_cons forIn_nil getElem_mem length_append length_cons length_drop length_map length_nil length_pos_iff length_reverse length_singleton length_take lookup_cons map_append map_cons map_map map_nil mem_append mem_append_left mem_append_right mem_cons mem_cons_of_mem mem_cons_self mem_map mem_nil_iff mem_range mem_singleton nil_append nodup_cons not_mem_nil replicate_succ reverse_cons set_cons_succ set_cons_zero set_set size_toArray sum_cons take_append_drop take_length take_of_length_le zip_cons_cons)
abbrev wax:=@PySem.wpAny_bind
open Nat (le_max_left le_max_right le_of_ble_eq_true le_of_lt le_refl le_trans lt_irrefl lt_of_lt_of_le lt_succ_self max_le min_eq_right ne_of_lt not_lt sub_zero zero_le)
section
variable {K:yav} {E:PySem.Value->PySem.Shared->Prop} {s:PySem.Shared} {A:PySem.Around} {w:PySem.World} {P:PySem.Program} {prog:PySem.Program} {π:List (PySem.Addr×PySem.Obj)} {mg:PySem.Str->Option PySem.Value} {pos:PySem.Pos} {us:List PySem.Value} {Q:PySem.Value->PySem.Shared->Prop} {x:PySem.Str} {e:PySem.Expr} {a:PySem.Addr} {k:Nat} {fd:PySem.FuncData} {base:PySem.Heap} {es:List PySem.Expr} {ps:List PySem.Str} {u:PySem.Value} {i:Nat} {st:PySem.Stmt} {bm:List PySem.Value} {scope:PySem.Scope} {body:List PySem.Stmt} {items:Array PySem.Value}
set_option autoImplicit true
set_option relaxedAutoImplicit true
namespace _L
open PySem PySem.Spec PyProof.Rows
abbrev aW:=Sum Int Str
noncomputable def jk:aW->Value->Bool
 | .inl k,v=>Value.isInt k v
 | .inr x,v=>Value.isStrOf x v
noncomputable def Ks (w:World):aW->Int
 | .inl k=>hashInt k
 | .inr x=>hashStr w x
theorem bt:∀{k:aW} {v:Value},jk k v=true->(∃i t,k=Sum.inl i/\v=Value.int i t)∨(∃x t,k=Sum.inr x/\v=Value.str x t)
 | .inl i,v,h=>by
   obtain⟨t,e⟩:=Value.isInt_shape (k:=i) (v:=v) h;exact .inl ⟨i,t,rfl,e⟩
 | .inr x,v,h=>by
   obtain⟨t,e⟩:=Value.isStrOf_shape (x:=x) (v:=v) h;exact .inr ⟨x,t,rfl,e⟩
theorem uM (i:Int) (t:Tok):jk (.inl i) (.int i t)=true:=by simp[jk,Value.isInt]
theorem uN (x:Str) (t:Tok):jk (.inr x) (.str x t)=true:=by simp[jk,Value.isStrOf]
theorem Da (a b:Int):decide ((Sum.inl a:aW)=Sum.inl b)=(a==b):=by
 by_cases e:a=b
 ·subst e;simp
 ·have h:¬(Sum.inl a:aW)=Sum.inl b:=λq=>e (Sum.inl.inj q);rw[ydy h];exact(beq_eq_false_iff_ne.mpr e).symm
theorem Db (a b:Str):decide ((Sum.inr a:aW)=Sum.inr b)=decide (a=b):=by
 by_cases e:a=b
 ·subst e;simp
 ·have h:¬(Sum.inr a:aW)=Sum.inr b:=λq=>e (Sum.inr.inj q);rw[ydy h,ydy e]
theorem Dc (a:Int) (b:Str):decide ((Sum.inl a:aW)=Sum.inr b)=false:=ydy (λq=>nomatch q)
theorem Dg (a:Str) (b:Int):decide ((Sum.inr a:aW)=Sum.inl b)=false:=ydy (λq=>nomatch q)
noncomputable def bg (prog:Program) (w:World):PySem.KeyKind prog w aW where
 is:=jk
 hash:=Ks w
 inj:=λv a b ha hb=>by
  rcases bt ha with⟨i,t,rfl,rfl⟩ | ⟨x,t,rfl,rfl⟩
  ·rcases bt hb with⟨j,u,rfl,e⟩ | ⟨y,u,rfl,e⟩
   ·injection e with e1 _;rw[e1]
   ·exact nomatch e
  ·rcases bt hb with⟨j,u,rfl,e⟩ | ⟨y,u,rfl,e⟩
   ·exact nomatch e
   ·injection e with e1 _;rw[e1]
 byValue:=λk v h=>by
  rcases bt h with⟨i,t,rfl,rfl⟩ | ⟨x,t,rfl,rfl⟩<;> rfl
 pyHash:=λhv h=>by
  rcases bt hv with⟨i,t,rfl,rfl⟩ | ⟨x,t,rfl,rfl⟩
  ·exact wpAny_pyHash_int h
  ·exact wpAny_pyHash_str h
 eqBool:=λhu hv h=>by
  rcases bt hu with⟨i,t,rfl,rfl⟩ | ⟨x,t,rfl,rfl⟩
  ·rcases bt hv with⟨j,u,rfl,rfl⟩ | ⟨y,u,rfl,rfl⟩
   ·rw[Da] at h;exact wpAny_eqBool_int h
   ·rw[Dc] at h;exact SeqAt.EqAt.int_str i t y u _ _ _ _ h
  ·rcases bt hv with⟨j,u,rfl,rfl⟩ | ⟨y,u,rfl,rfl⟩
   ·rw[Dg] at h;exact SeqAt.EqAt.str_int x t j u _ _ _ _ h
   ·rw[Db] at h;exact wpAny_eqBool_str h
 «strs»:=λk x t v h=>by
  rcases bt h with⟨i,u,rfl,e⟩ | ⟨y,u,rfl,e⟩
  ·exact nomatch e
  ·injection e with e1 _
   subst e1;cases v<;> rfl
theorem nE (prog:Program) (w:World) (i:Int) (t:Tok):(bg prog w).is (.inl i) (.int i t)=true:=uM i t
theorem nF (prog:Program) (w:World) (x:Str) (t:Tok):(bg prog w).is (.inr x) (.str x t)=true:=uN x t
inductive V where
 | non | bl (b:Bool) | int (i:Int) | str (x:Str) | byt (b:Array UInt8) | flt (b:UInt64) | ref (a:Addr) | ty (n:String)
 deriving DecidableEq
def aT:V->Value->Prop
 | .non,u=>u=Value.none
 | .bl b,u=>u=Value.bool b
 | .int i,u=>∃t,u=Value.int i t
 | .str x,u=>∃t,u=Value.str x t
 | .byt b,u=>∃t,u=Value.bytes b t
 | .flt b,u=>∃t,u=Value.float b t
 | .ref a,u=>u=Value.ref a
 | .ty n,u=>u=Value.type n
abbrev aK:List V->List Value->Prop:=Paired aT
theorem aK.length (r:aK xs us):xs.length=us.length:=Paired.length r
theorem aK.get:∀{xs:List V} {us:yez} {i:Nat} {x:V},aK xs us->xs[i]?=some x->∃u,us[i]?=some u/\aT x u
 | _,_,_,_,.nil,e=>by simp at e
 | _,_,0,_,.cons r _,e=>by simp at e;subst e;exact⟨_,rfl,r⟩
 | _,_,i+1,x,.cons _ t,e=>by
   obtain⟨u,h1,h2⟩:=aK.get (i:=i) (x:=x) t (by simpa using e);exact⟨u,by simpa using h1,h2⟩
theorem aK.append:∀{xs ys:List V} {us ws:yez},aK xs us->aK ys ws->aK (xs++ys) (us++ws)
 | _,_,_,_,.nil,s=>s
 | _,_,_,_,.cons r t,s=> .cons r (aK.append t s)
theorem aK.take:∀{xs:List V} {us:yez} (n:Nat),aK xs us->aK (xs.take n) (us.take n)
 | _,_,0,_=> .nil
 | _,_,_+1,.nil=> .nil
 | _,_,n+1,.cons r t=> .cons r (aK.take n t)
theorem aK.drop:∀{xs:List V} {us:yez} (n:Nat),aK xs us->aK (xs.drop n) (us.drop n)
 | _,_,0,r=>r
 | _,_,_+1,.nil=> .nil
 | _,_,n+1,.cons _ t=>aK.drop n t
def fH:Option V->Option Value->Prop
 | some v,some u=>aT v u
 | none,none=>True
 | _,_=>False
def KV {κ:Type}:List (κ×V)->List (κ×Value)->Prop:=Paired λ(p:κ×V) (q:κ×Value)=>p.1=q.1/\aT p.2 q.2
noncomputable def kV:aW->V
 | .inl i=> .int i
 | .inr x=> .str x
inductive HO where
 | lst (xs:List V)
 | tup (xs:List V)
 | dK (kvs:List (aW×V)) | dT (kvs:List (List aW×V))
 | set (S:Int->Bool) (n:Nat)
 | ins (C dx:Addr) (fs:List (Str×V))
 | own (x:Addr)
 | xd (fs:List (Str×V))
 | met (f x:Addr)
 | rng (lo hi:Int)
 | frz (o:Obj) (u:HO)
 | tbl (ps:Array Value)
 | ext (φ:Heap->Prop)
abbrev Hp:=Addr->Option HO
noncomputable def upd (H:Hp) (a:Addr) (o:HO):Hp:=λb=>if b=a then some o else H b
theorem aY:upd H a o a=some o:=by unfold upd;rw[ycv rfl]
theorem ax (h:b≠a):upd H a o b=H b:=by unfold upd;rw[ycw h]
theorem iH {H:Hp} {a b:Addr} {o u:HO} (h:H a=some o) (h':H b=some u) (d:o≠u):a≠b:=by
 intro e;subst e;rw[h] at h';exact d (Option.some.inj h')
theorem aU {H:Hp} {a b:Addr} {o:HO} (h:H a=some o) (h':H b=none):a≠b:=by
 intro e;subst e;rw[h] at h';cases h'
section
variable (P:Program) (w:World)
def bH (H:Hp) (h:Heap) (a:Addr):HO->Prop
 | .lst xs=>xs.length<=sizeLine/\∃(its:yez) (n:Nat),aK xs its/\h.get? a=some { cls:= .type "list",data:= .seq its.toArray n }
 | .tup xs=>xs.length<=sizeLine/\∃its:List Value,aK xs its/\IsTup h a its.toArray
 | .dK kvs=>kvs.length<=sizeLine/\(a==sysModules)=false/\∃vs,KV kvs vs/\h.DictOf (bg P w) a vs
 | .dT kvs=>kvs.length<=sizeLine/\(a==sysModules)=false/\∃xs:List (List aW×Addr×Value),
    Paired (λ(p:List aW×V) (q:List aW×Addr×Value)=>p.1=q.1/\H q.2.1=some (.tup (p.1.map kV))/\aT p.2 q.2.2) kvs xs/\
    ∃o es ep,h.get? a=some o/\o.ExactDict/\o.data=.dict es ep/\es.toList=xs.map (entryOfKey (tupleKind (bg P w)))/\(xs.map (·.1)).Nodup
 | .set S n=>h.SetOf (intKind P w) a S n
 | .ins C dx fs=>H dx=some (.own a)/\fs.length<=1000/\dx≠a/\h.get? a=some (instObj C dx)/\
    ∃mA,h.Ns1 dx mA/\(∀f,fH (fs.lookup f) (mA f))/\PySem.Within mA (fs.map (·.1))
 | .own _=>∃o,h.get? a=some o
 | .xd fs=>∃mA,h.Ns1 a mA/\∀f,fH (fs.lookup f) (mA f)
 | .rng lo hi=>∃t u v,h.get? a=some { cls:= .type "range",data:= .fields #[.int lo t,.int hi u,.int 1 v] }
 | .frz o u=>h.get? a=some o/\bH H h a u
 | .tbl ps=>h.get? a=some { cls:= .none,data:= .fields ps }
 | .met f x=>h.get? a=some (PySem.W.methodObj (.ref f) (.ref x))
 | .ext φ=>φ h/\(∃o,h.get? a=some o)/\∀h1 h2:Heap,φ h1->(∀o,h1.get? a=some o->h2.get? a=some o)->φ h2
def gE (H:Hp) (h:Heap):Prop:=∀a o,H a=some o->bH P w H h a o
end
section
variable {H H':Hp} {h h':Heap} {o:HO}
theorem bH.lt (x:bH P w H h a o):a<h.objs.size:=by
 cases o with
 | lst xs=>obtain⟨_,_,_,_,e⟩:=x;exact ybv e
 | tup xs=>obtain⟨_,_,_,p⟩:=x;exact p.lt
 | dK kvs=>obtain⟨_,_,_,_,o,_,_,e,_⟩:=x;exact ybv e
 | dT kvs=>obtain⟨_,_,_,_,o,_,_,e,_⟩:=x;exact ybv e
 | set S n=>obtain⟨o,_,_,_,e,_⟩:=x;exact ybv e
 | ins C dx fs=>obtain⟨_,_,_,e,_⟩:=x;exact ybv e
 | own y=>obtain⟨_,e⟩:=x;exact ybv e
 | xd fs=>obtain⟨_,⟨_,_,_,e,_⟩,_⟩:=x;exact ybv e
 | rng lo hi=>obtain⟨_,_,_,e⟩:=x;exact ybv e
 | frz B u=>obtain⟨e,_⟩:=x;exact ybv e
 | tbl ps=>exact ybv (show h.get? a=some _ from x)
 | met f y=>exact ybv (show h.get? a=some _ from x)
 | ext L=>obtain⟨_,⟨_,e⟩,_⟩:=x;exact ybv e
theorem Paired.mapP {α S:Type} {F G:α->S->Prop}:∀{B:List α} {L:List S},Paired F B L->(∀a b,F a b->G a b)->Paired G B L
 | _,_,.nil,_=> .nil
 | _,_,.cons r t,f=> .cons (f _ _ r) (Paired.mapP t f)
theorem bH.stay (x:bH P w H h a o) (k:∀b u,(b=a∨H b=some (.own a))->h.get? b=some u->h'.get? b=some u)
 (Y:∀b,H b=some (.own a)->H' b=some (.own a)) (Z:∀b xs,H b=some (.tup xs)->H' b=some (.tup xs)):bH P w H' h' a o:=by
 induction o with
 | lst xs=>obtain⟨z,L,n,r,e⟩:=x;exact⟨z,L,n,r,k _ _ (.inl rfl) e⟩
 | tup xs=>obtain⟨z,L,r,B,e,c⟩:=x;exact⟨z,L,r,B,k _ _ (.inl rfl) e,c⟩
 | dK kvs=>obtain⟨z,y,vs,r,B,es,ep,e,c⟩:=x;exact⟨z,y,vs,r,B,es,ep,k _ _ (.inl rfl) e,c⟩
 | dT kvs=>
   obtain⟨z,y,xs,r,B,es,ep,e,c⟩:=x;exact⟨z,y,xs,Paired.mapP r λp q z=>⟨z.1,Z _ _ z.2.1,z.2.2⟩,B,es,ep,k _ _ (.inl rfl) e,c⟩
 | set S n=>obtain⟨B,es,ep,t,e,c⟩:=x;exact⟨B,es,ep,t,k _ _ (.inl rfl) e,c⟩
 | ins C dx fs=>
   obtain⟨d,z,ne,e,mA,⟨od,es,ep,e2,c⟩,r⟩:=x;exact⟨Y _ d,z,ne,k _ _ (.inl rfl) e,mA,⟨od,es,ep,k _ _ (.inr d) e2,c⟩,r⟩
 | own y=>obtain⟨B,e⟩:=x;exact⟨B,k _ _ (.inl rfl) e⟩
 | xd fs=>obtain⟨mA,⟨od,es,ep,e,c⟩,r⟩:=x;exact⟨mA,⟨od,es,ep,k _ _ (.inl rfl) e,c⟩,r⟩
 | rng lo hi=>obtain⟨t,u,v,e⟩:=x;exact⟨t,u,v,k _ _ (.inl rfl) e⟩
 | frz B u ih=>obtain⟨e,q⟩:=x;exact⟨k _ _ (.inl rfl) e,ih q⟩
 | tbl ps=>
   have e:h.get? a=some { cls:= .none,data:= .fields ps }:=x;show h'.get? a=some { cls:= .none,data:= .fields ps };exact k a _ (.inl rfl) e
 | met f y=>
   have e:h.get? a=some (PySem.W.methodObj (.ref f) (.ref y)):=x;show h'.get? a=some (PySem.W.methodObj (.ref f) (.ref y));exact k a _ (.inl rfl) e
 | ext φ=>obtain⟨p,⟨o,e⟩,st⟩:=x;exact⟨st _ _ p λo q=>k _ _ (.inl rfl) q,⟨o,k _ _ (.inl rfl) e⟩,st⟩
theorem gE.lt (x:gE P w H h) (e:H a=some o):a<h.objs.size:=(x a o e).lt
theorem gE.fresh (x:gE P w H h) (e:h.objs.size<=a):H a=none:=by
 cases q:H a with
 | none=>rfl
 | some u=>exact absurd (ydw (x.lt q) e) (lt_irrefl _)
theorem gE.kept (x:gE P w H h) (k:∀b u,h.get? b=some u->h'.get? b=some u):gE P w H h':=λa o e=>
 (x a o e).stay (λb u _ q=>k b u q) (λ_ q=>q) λ_ _ q=>q
theorem gE.laid (x:gE P w H h) (k:∀b u,h.get? b=some u->h'.get? b=some u) (L:h.objs.size<=a) (new:bH P w (upd H a o) h' a o):gE P w (upd H a o) h':=λb u e=>by
 have B:=x.fresh L
 by_cases hb:b=a
 ·subst hb;rw[aY] at e;cases e;exact new
 ·rw[ax hb] at e;exact(x b u e).stay (λc v _ q=>k c v q) (λc q=>by rw[ax (aU q B)];exact q) λc xs q=>by rw[ax (aU q B)];exact q
end
def Rd (H:Hp) (a:Addr) (u:HO):Prop:=H a=some u∨∃o,H a=some (.frz o u)
theorem Rd.ok {u:HO} (r:Rd H a u) (x:gE P w H h):bH P w H h a u:=by
 rcases r with r | ⟨o,r⟩
 ·exact x a u r
 ·obtain⟨_,q⟩:=x a _ r;exact q
def Gc:Option HO->Prop
 | some (.lst _)=>True
 | some (.dK _)=>True
 | some (.dT _)=>True
 | some (.set _ _)=>True
 | some (.ins _ _ _)=>True
 | some (.ext _)=>True
 | _=>False
section
variable {H:Hp} {h h':Heap} {x e:Addr} {o':HO}
theorem gE.write (ok:gE P w H h) (S:Gc (H x)) (he:e=x∨H e=some (.own x)) (k:∀b u,b≠e->h.get? b=some u->h'.get? b=some u) (Z:∃u,h'.get? e=some u)
 (new:bH P w (upd H x o') h' x o'):gE P w (upd H x o') h':=λb u q=>by
 have B:∀c y,H c=some (.own y)->c≠x:=λc y r z=>by subst z;rw[r] at S;exact S
 have L:∀c xs,H c=some (.tup xs)->c≠x:=λc xs r z=>by subst z;rw[r] at S;exact S
 by_cases hb:b=x
 ·subst hb;rw[aY] at q;cases q;exact new
 ·rw[ax hb] at q
  by_cases hbe:b=e
  ·have q':H b=some (.own x):=by
    rcases he with z | z
    ·exact absurd (hbe.trans z) hb
    ·rw[hbe];exact z
   rw[q] at q';cases q';obtain⟨v,hv⟩:=Z;exact⟨v,by rw[hbe];exact hv⟩
  ·refine(ok b u q).stay (λc v Y r=>k c v ?_ r) (λc r=>by rw[ax (B c b r)];exact r) λc xs r=>by rw[ax (L c xs r)];exact r
   rcases Y with rfl | Y
   ·exact hbe
   ·rintro rfl;rcases he with z | z
    ·exact B c b Y z
    ·rw[Y] at z;cases z;exact hb rfl
end
structure Un (fs ex:List Addr) (H H':Hp) (h h':Heap):Prop where
 keep:∀b o,h.get? b=some o->H b=none->b∉fs->b∉ex->h'.get? b=some o
 slot:∀b o,h.get? b=some o->H b=none->b∈fs->b∉ex->∃sl,h'.get? b=some { o with slots:=sl }
 free:∀b o,h.get? b=some o->H b=none->b∉ex->H' b=none
 there:∀b o,h.get? b=some o->b∉ex->∃o',h'.get? b=some o'
 tups:∀b xs,H b=some (.tup xs)->H' b=some (.tup xs)
 frzs:∀b o u,H b=some (.frz o u)->H' b=some (.frz o u)
 tbls:∀b ps,H b=some (.tbl ps)->∃more,H' b=some (.tbl (ps++more))
section
variable {fs fs' ex ex':List Addr} {H H1 H2:Hp} {h h1 h2 h':Heap} {x e:Addr} {o:HO}
theorem Un.any (u:Un fs ex H H1 h h1) (q:h.get? b=some B) (n:H b=none) (L:b∉ex):∃S,h1.get? b=some { B with slots:=S }:=by
 by_cases hb:b∈fs
 ·exact u.slot b B q n hb L
 ·exact⟨B.slots,u.keep b B q n hb L⟩
theorem Un.kept (k:∀b u,h.get? b=some u->h'.get? b=some u):Un fs ex H H h h':=
 ⟨λb B q _ _ _=>k b B q,λb B q _ _ _=>⟨B.slots,k b B q⟩,λ_ _ _ n _=>n,λb B q _=>⟨B,k b B q⟩,λ_ _ q=>q,λ_ _ _ q=>q,λ_ ps q=>⟨#[],by rw[q];simp⟩⟩
theorem Un.refl:Un fs ex H H h h:=Un.kept λ_ _ q=>q
theorem Un.laid (k:∀b u,h.get? b=some u->h'.get? b=some u) (L:h.objs.size<=a) (B:H a=none):Un fs ex H (upd H a o) h h' where
 keep:=λb u q _ _ _=>k b u q
 slot:=λb u q _ _ _=>⟨u.slots,k b u q⟩
 free:=λb u q n _=>by rw[ax (ne_of_lt (ydw (ybv q) L))];exact n
 there:=λb u q _=>⟨u,k b u q⟩
 tups:=λb xs q=>by rw[ax (aU q B)];exact q
 frzs:=λb u xs q=>by rw[ax (aU q B)];exact q
 tbls:=λb ps q=>⟨#[],by rw[ax (aU q B),q];simp⟩
theorem Un.write (B:Gc (H x)) (Z:e=x∨H e=some (.own x)) (k:∀b u,b≠e->h.get? b=some u->h'.get? b=some u) (S:∃u,h'.get? e=some u):Un fs ex H (upd H x o) h h':=by
 have Y:∀b,H b=none->b≠x:=λb n z=>by subst z;rw[n] at B;exact B
 have hb:∀b,H b=none->b≠e:=λb n z=>by
  subst z;rcases Z with r | r
  ·exact Y b n r
  ·rw[n] at r;cases r
 have L:∀b u,H b=some u->¬Gc (some u)->b≠x:=λb u q nm z=>by subst z;rw[q] at B;exact nm B
 refine⟨λb u q n _ _=>k b u (hb b n) q,λb u q n _ _=>⟨u.slots,k b u (hb b n) q⟩,λb u q n _=>by rw[ax (Y b n)];exact n,λb u q _=>?_,
  λb xs q=>by rw[ax (L b _ q λz=>z)];exact q,λb u xs q=>by rw[ax (L b _ q λz=>z)];exact q,λb ps q=>⟨#[],by rw[ax (L b _ q λz=>z),q];simp⟩⟩
 by_cases hbe:b=e
 ·subst hbe;exact S
 ·exact⟨u,k b u hbe q⟩
end
noncomputable def Kh (h:Heap) (H:Hp):List Addr:=(List.range h.objs.size).filter λa=>(H a).isSome
noncomputable def lI (h:Heap) (H:Hp):Heap:=hideAll h (Kh h H)
theorem uO (h:Heap) (H:Hp):(lI h H).objs.size=h.objs.size:=PySem.W.hideAll_size _ _
theorem wg (e:h.get? b=some o) (n:H b=none):(lI h H).get? b=some o:=
 hideAll_get _ e λB=>by
  have q:(H b).isSome=true:=(List.mem_filter.mp B).2;rw[n] at q;simp at q
theorem zT (e:(lI h H).get? b=some o):h.get? b=some o/\H b=none:=by
 have B:h.get? b=some o:=of_hideAll (Kh h H) e;refine⟨B,?_⟩;cases q:H b with
 | none=>rfl
 | some x=>
   have L:b∈Kh h H:=List.mem_filter.mpr ⟨mem_range.mpr (ybv B),by simp[q]⟩;have z:(lI h H).get? b=none:=hideAll_none (Kh h H) L;rw[z] at e;cases e
noncomputable def zU (g h:Heap) (L:Addr):List (Addr×Obj):=(List.range h.objs.size).filterMap λa=>if a=L∨(g.get? a).isSome=true then none else (h.get? a).map λo=>(a,o)
noncomputable def rest (g h:Heap) (L d:Addr):List (Addr×Obj):=(zU g h L).filter λp=>decide (p.1≠d)
structure Mod (K:yav) (mg:yew) (base:Heap):Prop where
 kin:K.In base
 glob:base.Ns mainGlobals mg
 blt:∃mb,base.Ns builtinsNs mb/\∀x:Str,x≠"__name__"->mb x=bootBuiltins x
 nolimit:base.NoLimit
structure Cx where
 prog:Program
 w:World
 K:yav
 mg:Str->Option Value
 base:Heap
 A:Around
 N:List Str
 s₀:Shared
 H₀:Hp
 env:Env
 outer:List Env
 stack:List Env
 ex:List Addr
 fn:Str->Bool
 calm:Bool
 pn:List (Addr×Obj)
 xe:Value->Shared->Prop
abbrev dbz (x:Str):Prop:=(x==("__debug__":Str))=false
abbrev seZ (X:Cx) (e:Expr) (es:List Expr):Prop:=starEach (e::es) X.env=(false,eval e X.env)::starEach es X.env
abbrev plZ (p:Pos) (X:Cx) (es:List Expr):Prop:=(backTo p (starEach es X.env)).any (·.1)=false
noncomputable def cU (l:List Env):List Addr:=l.filterMap (·.frame)
noncomputable abbrev Cx.fs (X:Cx):List Addr:=cU X.outer
def Ck (sc:Scope) (x:Str):Prop:=sc.names.lookup x=some .local∨sc.names.lookup x=some .cell∨sc.names.lookup x=some .free
def zV (sc:Scope) (x:Str):Prop:=sc.names.lookup x=some .local∨sc.names.lookup x=some .cell
def Kt (env:Env) (h:Heap) (m:yew) (x:Str) (u:Value):Prop:=
 (env.kindOf x=some .local/\m x=some u)∨((env.kindOf x=some .cell∨env.kindOf x=some .free)/\∃c,env.cells.lookup x=some c/\h.IsCell c (some u))
structure Cx.Ok (X:Cx):Prop where
 mod:Mod X.K X.mg X.base
 kind:X.env.scope.kind=.function
 glob:X.env.globals=mainGlobals
 blt:X.env.builtins=builtinsNs
 above:X.s₀.heap.objs.size<=X.env.locals
 inj:∀x y c,X.env.cells.lookup x=some c->X.env.cells.lookup y=some c->x=y
 has:∀x,(X.env.kindOf x=some .cell∨X.env.kindOf x=some .free)->∃c,X.env.cells.lookup x=some c
 cab:∀x c,X.fn x=true->X.env.cells.lookup x=some c->X.s₀.heap.objs.size<=c
 hd:X.calm=true->X.A.handled=none
 frames:X.A.frames=some X.stack
 stk:X.stack=X.outer∨(X.stack=X.env::X.outer/\X.env.frame=some X.env.locals)
 exf:∀b∈X.ex,b≠X.env.locals/\∀x c,X.env.cells.lookup x=some c->c≠b
 bs:∀b o,X.base.get? b=some o->X.s₀.heap.get? b=some o/\X.H₀ b=none
 bsz:X.base.objs.size<=X.s₀.heap.objs.size
 noex:∀b o,X.base.get? b=some o->b∉X.ex
 exfs:∀b∈X.ex,b∉X.fs
 funs:X.s₀.heap.FunFrames X.base X.outer
 frf:∀b∈X.fs,X.H₀ b=none
structure aw (X:Cx) (π:List (Addr×Obj)) (σ:List (Option V)) (H:Hp) (s:Shared):Prop where
 ok:X.Ok
 os:s.os=X.s₀.os
 bare:AllBare s.gens
 base:Un X.fs X.ex X.H₀ H X.s₀.heap s.heap
 loc:∃m,s.heap.Ns X.env.locals m/\∀(i:Nat) (x:Str) (v:V),X.N[i]?=some x->σ[i]?=some (some v)->Ck X.env.scope x->∃u,aT v u/\Kt X.env s.heap m x u
 cell:∀x c,X.env.cells.lookup x=some c->∃v,s.heap.IsCell c v
 free:H X.env.locals=none
 freeC:∀x c,X.env.cells.lookup x=some c->H c=none
 pin:∀p∈X.pn++π,s.heap.get? p.1=some p.2/\H p.1=none/\p.1≠X.env.locals/\p.1∉X.fs/\∀v,p.2.data≠ .cell v
 hok:gE X.prog X.w H s.heap
 len:σ.length=X.N.length
section
variable {X:Cx} {σ:List (Option V)} {H H':Hp} {h':Heap}
theorem Cx.Ok.nofr (ok:X.Ok) (e:X.base.get? b=some o):b∉X.fs:=λhb=>by
 have:=(ok.funs.mem hb).1;rw[e] at this;cases this
theorem aw.bs (I:aw X π σ H s):∀b o,X.base.get? b=some o->s.heap.get? b=some o/\H b=none:=λb o e=>
 ⟨I.base.keep b o (I.ok.bs b o e).1 (I.ok.bs b o e).2 (I.ok.nofr e) (I.ok.noex b o e),I.base.free b o (I.ok.bs b o e).1 (I.ok.bs b o e).2 (I.ok.noex b o e)⟩
theorem aw.bk (I:aw X π σ H s):∀b o,X.base.get? b=some o->s.heap.get? b=some o:=λb o e=>(I.bs b o e).1
theorem aw.mod (I:aw X π σ H s):Mod X.K X.mg X.base:=I.ok.mod
theorem aw.kIn (I:aw X π σ H s):X.K.In s.heap:=I.ok.mod.kin.keeps I.bk
theorem aw.lt (I:aw X π σ H s):X.env.locals<s.heap.objs.size:=let ⟨_,hn,_⟩:=I.loc;hn.lt
theorem aw.sz (I:aw X π σ H s):X.s₀.heap.objs.size<=s.heap.objs.size:=ycy I.ok.above (le_of_lt I.lt)
theorem aw.nofs (I:aw X π σ H s) (h:s.heap.objs.size<=a):a∉X.fs:=λhb=>by
 obtain⟨_,o,B,_⟩:=I.ok.funs.mem hb;exact absurd (ydw (ybv B) (ycy I.sz h)) (lt_irrefl _)
theorem aw.cne (I:aw X π σ H s):∀x c,X.env.cells.lookup x=some c->c≠X.env.locals:=λx c e z=>by
 obtain⟨v,o,S,Y⟩:=I.cell x c e;obtain⟨m,⟨o',es,ep,B,L,_⟩,_⟩:=I.loc;rw[z,B] at S;cases S;rw[L] at Y;cases Y
theorem aw.funs (I:aw X π σ H s):s.heap.FunFrames X.base X.outer:=by
 have all:∀(l:List Env),(∀b∈cU l,b∈X.fs)->X.s₀.heap.FunFrames X.base l->s.heap.FunFrames X.base l:=by
  intro l
  induction l with
  | nil=>intro _ _;trivial
  | cons env r ih=>
    intro Y Z;obtain⟨hk,⟨L,o,S,hn,ho,hd⟩,hr⟩:=Z;have B:L∈X.fs:=Y L (by unfold cU;rw[filterMap_cons,S];exact yby);obtain⟨sl,e⟩:=I.base.slot L o ho (I.ok.frf L B) B λz=>I.ok.exfs L z B;exact⟨hk,⟨L,_,S,hn,e,hd⟩,ih (λb hb=>Y b (by unfold cU;rw[filterMap_cons,S];exact ybx _ hb)) hr⟩
 exact all X.outer (λ_ hb=>hb) I.ok.funs
theorem aw.stack (I:aw X π σ H s):s.heap.FunFrames X.base X.stack:=by
 rcases I.ok.stk with e | ⟨e,B⟩
 ·rw[e];exact I.funs
 ·rw[e];obtain⟨m,L,_⟩:=I.loc;refine .cons (by rw[I.ok.kind];decide) B L ?_ I.funs;exact Heap.get?_none_of_le (ycy I.ok.bsz I.ok.above)
theorem aw.stkSub (I:aw X π σ H s):∀b∈cU X.stack,b∈X.env.locals::X.fs:=λb hb=>by
 rcases I.ok.stk with e | ⟨e,B⟩
 ·rw[e] at hb;exact ybx _ hb
 ·rw[e] at hb;unfold cU at hb;rw[filterMap_cons,B] at hb;exact hb
theorem aw.stkFree (I:aw X π σ H s):∀b∈cU X.stack,H b=none:=λb hb=>by
 rcases mem_cons.mp (I.stkSub b hb) with e | hb
 ·rw[e];exact I.free
 ·obtain⟨_,o,B,_⟩:=I.ok.funs.mem hb;exact I.base.free b o B (I.ok.frf b hb) λz=>I.ok.exfs b z hb
theorem aw.step {g':Array GenState} {t':Nat} {d':Drawn} {ch:List Addr} (I:aw X π σ H s)
 (S:∀b∈ch,(b∈X.ex∨X.s₀.heap.objs.size<=b)/\b≠X.env.locals/\(∀x c,X.env.cells.lookup x=some c->c≠b)/\∀p∈X.pn++π,p.1≠b)
 (keep:∀b o,b≠X.env.locals->b∉X.fs->b∉ch->s.heap.get? b=some o->H b=none->h'.get? b=some o)
 (ad:∀b o,b≠X.env.locals->b∈X.fs->b∉ch->s.heap.get? b=some o->H b=none->∃sl,h'.get? b=some { o with slots:=sl }) (L:∀b o,b∉ch->s.heap.get? b=some o->H b=none->H' b=none)
 (there:∀b o,b∉ch->s.heap.get? b=some o->∃o',h'.get? b=some o')
 (af:∀b xs,H b=some (.tup xs)->H' b=some (.tup xs)) (aj:∀b o u,H b=some (.frz o u)->H' b=some (.frz o u)) (ai:∀b ps,H b=some (.tbl ps)->∃ar,H' b=some (.tbl (ps++ar)))
 (ns:∀m,s.heap.Ns X.env.locals m->h'.Ns X.env.locals m) (a0:gE X.prog X.w H' h') (hg:AllBare g'):
 aw X π σ H' { s with heap:=h',gens:=g',drawn:=d',toks:=t' }:=by
 have as:∀b o,X.s₀.heap.get? b=some o->b≠X.env.locals:=λb o e=>ne_of_lt (ydw (ybv e) I.ok.above);have ab:∀b o,X.s₀.heap.get? b=some o->b∉X.ex->b∉ch:=λb o e B hb=>by
  rcases(S b hb).1 with z | z
  ·exact B z
  ·exact absurd (ydw (ybv e) z) (lt_irrefl _)
 have Y:∀x c,X.env.cells.lookup x=some c->∀v,s.heap.IsCell c v->h'.IsCell c v:=λx c e v z9=>by
  obtain⟨o,ho,hd⟩:=z9
  have Z:c∉ch:=λz=>(S c z).2.2.1 x c e rfl
  by_cases hc:c∈X.fs
  ·obtain⟨sl,q⟩:=ad c o (I.cne x c e) hc Z ho (I.freeC x c e);exact⟨_,q,hd⟩
  ·exact⟨o,keep c o (I.cne x c e) hc Z ho (I.freeC x c e),hd⟩
 refine⟨I.ok,I.os,hg,⟨λb o e n hb B=>?_,λb o e n hb B=>?_,λb o e n B=>?_,λb o e B=>?_,λb xs e=>af b xs (I.base.tups b xs e),λb o xs e=>aj b o xs (I.base.frzs b o xs e),λb ps e=>?_⟩,?_,λx c e=>?_,?_,λx c e=>?_,λp hp=>?_,a0,I.len⟩
 ·exact keep b o (as b o e) hb (ab b o e B) (I.base.keep b o e n hb B) (I.base.free b o e n B)
 ·obtain⟨sl,e1⟩:=I.base.slot b o e n hb B;obtain⟨az,e2⟩:=ad b _ (as b o e) hb (ab b o e B) e1 (I.base.free b o e n B);exact⟨az,e2⟩
 ·obtain⟨o',e1⟩:=I.base.there b o e B;exact L b o' (ab b o e B) e1 (I.base.free b o e n B)
 ·obtain⟨o',e1⟩:=I.base.there b o e B;exact there b o' (ab b o e B) e1
 ·obtain⟨m1,e1⟩:=I.base.tbls b ps e;obtain⟨m2,e2⟩:=ai b _ e1;exact⟨m1++m2,by rw[e2,Array.append_assoc]⟩
 ·obtain⟨m,hn,hl⟩:=I.loc;refine⟨m,ns m hn,λi x v e1 e2 e3=>?_⟩;obtain⟨u,r,l⟩:=hl i x v e1 e2 e3;refine⟨u,r,?_⟩;rcases l with l | ⟨k,c,e,z⟩
  ·exact .inl l
  ·exact .inr ⟨k,c,e,Y x c e _ z⟩
 ·obtain⟨v,z⟩:=I.cell x c e;exact⟨v,Y x c e v z⟩
 ·obtain⟨m,⟨o,_,_,ho,_⟩,_⟩:=I.loc;exact L _ o (λz=>(S _ z).2.1 rfl) ho I.free
 ·obtain⟨v,o,ho,hd⟩:=I.cell x c e;exact L c o (λz=>(S c z).2.2.1 x c e rfl) ho (I.freeC x c e)
 ·obtain⟨e,n,ne,nf,d⟩:=I.pin p hp;have Z:p.1∉ch:=λz=>(S p.1 z).2.2.2 p hp rfl;exact⟨keep p.1 p.2 ne nf Z e n,L p.1 p.2 Z e n,ne,nf,d⟩
theorem aw.un (I:aw X π σ H s) (u:Un X.fs [] H H' s.heap h') (L:gE X.prog X.w H' h'):aw X π σ H' { s with heap:=h',toks:=t' }:=by
 obtain⟨m,⟨o,es,ep,Z,r⟩,_⟩:=id I.loc;obtain⟨sl,hL⟩:=u.any Z I.free (by simp);exact I.step (g':=s.gens) (d':=s.drawn) (ch:=[]) (λ_ z=>nomatch z) (λb o _ hb _ e n=>u.keep b o e n hb (by simp)) (λb o _ hb _ e n=>u.slot b o e n hb (by simp)) (λb o _ e n=>u.free b o e n (by simp)) (λb o _ e=>u.there b o e (by simp)) u.tups u.frzs u.tbls (λm' hm=>by
  obtain⟨o',S,Y,B,r'⟩:=hm;rw[Z] at B;cases B;exact⟨_,S,Y,hL,r'⟩) L I.bare
theorem aw.call (I:aw X π σ H s) (u:Un (cU X.stack) ch H H' s.heap h') (Z:gE X.prog X.w H' h') (hg:AllBare g')
 (S:∀b∈ch,(b∈X.ex∨X.s₀.heap.objs.size<=b)/\b≠X.env.locals/\(∀x c,X.env.cells.lookup x=some c->c≠b)/\∀p∈X.pn++π,p.1≠b):
 aw X π σ H' { s with heap:=h',gens:=g',drawn:=d',toks:=t' }:=by
 obtain⟨m,⟨o,es,ep,ho,r⟩,_⟩:=id I.loc;obtain⟨sl,Y⟩:=u.any ho I.free λz=>(S _ z).2.1 rfl;exact I.step (ch:=ch) S (λb o Y hb B e n=>u.keep b o e n (λz=>(mem_cons.mp (I.stkSub b z)).elim Y hb) B) (λb o _ _ B e n=>u.any e n B) (λb o B e n=>u.free b o e n B) (λb o B e=>u.there b o e B) u.tups u.frzs u.tbls (λm' hm=>by
  obtain⟨o',ab,ad,L,r'⟩:=hm;rw[ho] at L;cases L;exact⟨_,ab,ad,Y,r'⟩) Z hg
theorem aw.turned (I:aw X π σ H s) (k:∀b o,b≠it->s.heap.get? b=some o->h'.get? b=some o) (hn:H it=none) (S:it≠X.env.locals)
 (h1:it∈X.ex∨X.s₀.heap.objs.size<=it) (h2:∀x c,X.env.cells.lookup x=some c->c≠it) (Y:∀p∈X.pn++π,p.1≠it):aw X π σ H { s with heap:=h',toks:=t' }:=by
 have L:∀b u,H b=some u->b≠it:=λb u e z=>by rw[z,hn] at e;cases e
 refine I.step (g':=s.gens) (d':=s.drawn) (ch:=[it]) (λb hb=>?_) (λb o _ _ B e _=>k b o (λz=>B (by simp[z])) e) (λb o _ _ B e _=>⟨o.slots,k b o (λz=>B (by simp[z])) e⟩) (λ_ _ _ _ n=>n)
  (λb o B e=>⟨o,k b o (λz=>B (by simp[z])) e⟩) (λ_ _ e=>e) (λ_ _ _ e=>e) (λb ps e=>⟨#[],by rw[e];simp⟩) (λm hm=>?_) (λb u e=>?_) I.bare
 ·have e:b=it:=by simpa using hb
  subst e;exact⟨h1,S,h2,Y⟩
 ·obtain⟨o,es,ep,Z,r⟩:=hm;exact⟨o,es,ep,k _ o (Ne.symm S) Z,r⟩
 ·refine(I.hok b u e).stay (λc v B q=>k c v ?_ q) (λ_ q=>q) λ_ _ q=>q;rcases B with z | z
  ·rw[z];exact L b u e
  ·exact L c _ z
theorem aw.tok (I:aw X π σ H s) (t:Nat):aw X π σ H { s with toks:=t }:=I.un (h':=s.heap) (t':=t) Un.refl I.hok
theorem aw.kept (I:aw X π σ H s) (k:∀b u,s.heap.get? b=some u->h'.get? b=some u):aw X π σ H { s with heap:=h',toks:=t' }:=I.un (Un.kept k) (I.hok.kept k)
theorem aw.laid (I:aw X π σ H s) (k:∀b u,s.heap.get? b=some u->h'.get? b=some u) (B:s.heap.objs.size<=a) (new:bH X.prog X.w (upd H a o) h' a o):
 aw X π σ (upd H a o) { s with heap:=h',toks:=t' }:=I.un (Un.laid k B (I.hok.fresh B)) (I.hok.laid k B new)
theorem aw.write {x e:Addr} {o:HO} {t':Nat} (I:aw X π σ H s) (L:Gc (H x)) (S:e=x∨H e=some (.own x)) (k:∀b u,b≠e->s.heap.get? b=some u->h'.get? b=some u) (B:∃u,h'.get? e=some u)
 (new:bH X.prog X.w (upd H x o) h' x o):aw X π σ (upd H x o) { s with heap:=h',toks:=t' }:=I.un (Un.write L S k B) (I.hok.write L S k B new)
theorem aw.pins_of (I:aw X π σ H s) (h:∀p∈pins',s.heap.get? p.1=some p.2/\H p.1=none/\p.1≠X.env.locals/\p.1∉X.fs/\∀v,p.2.data≠ .cell v):aw X pins' σ H s:=
 ⟨I.ok,I.os,I.bare,I.base,I.loc,I.cell,I.free,I.freeC,λp B=>(mem_append.mp B).elim (λz=>I.pin p (mem_append_left _ z)) (h p),I.hok,I.len⟩
theorem jl {N:List Str} (B:N.Nodup) {i j:Nat} (a:N[i]?=some x) (b:N[j]?=some x):i=j:=by
 obtain⟨h1,S⟩:=List.getElem?_eq_some_iff.mp a;obtain⟨h2,L⟩:=List.getElem?_eq_some_iff.mp b;exact(List.getElem_inj B).mp (S.trans L.symm)
theorem kD {M:Model} {Q:Unit->Shared->Prop} (I:aw X π σ H s) (hN:X.N.Nodup) (hi:X.N[i]?=some x) (Z:zV X.env.scope x) (r:aT v u)
 (h:∀s',aw X π (σ.set i (some v)) H s'->(∃a,Heap.SameBut a s.heap s'.heap/\(a=X.env.locals∨X.env.cells.lookup x=some a))->Q () s') (hf:X.fn x=true∨X.env.scope.names.lookup x=some .local:=by first | exact .inl rfl | exact .inr rfl | assumption):wpAny M A (storeName X.env x u) Q E s:=by
 obtain⟨m,hn,hl⟩:=id I.loc;have as:(X.env.scope.kind== .class||(X.env.scope.kind== .module&&X.env.locals !=X.env.globals))=false:=by rw[I.ok.kind];rfl
 have ad:i<σ.length:=by rw[I.len];exact(List.getElem?_eq_some_iff.mp hi).1
 have cne:=I.cne;have S:∀{a:Addr} {h':Heap},(∃o,s.heap.get? a=some o/\H a=none)->Heap.SameBut a s.heap h'->gE X.prog X.w H h':=λ{a h'} ha B b ob e=>by
  obtain⟨_,_,ab⟩:=ha;refine(I.hok b ob e).stay (λc w' Y q=>(B.2 c ?_).trans q) (λ_ q=>q) λ_ _ q=>q;rintro rfl;rcases Y with rfl | Y
  ·rw[ab] at e;cases e
  ·rw[ab] at Y;cases Y
 rcases Z with hk | hk
 ·refine wpAny_storeName_local hk hn (λh' az B=>?_) as;obtain⟨oL,_,_,a0,_⟩:=id hn;refine h _ ⟨I.ok,I.os,I.bare,⟨λb o e n hb Z=>?_,λb o e n hb Z=>?_,I.base.free,λb o e Z=>?_,I.base.tups,I.base.frzs,I.base.tbls⟩,⟨_,az,λj y v' L e2 e3=>?_⟩,λy c e=>?_,I.free,I.freeC,λp hp=>?_,S ⟨oL,a0,I.free⟩ B,by simpa using I.len⟩ ⟨_,B,.inl rfl⟩
  ·exact(B.2 b (ne_of_lt (ydw (ybv e) I.ok.above))).trans (I.base.keep b o e n hb Z)
  ·obtain⟨sl,L⟩:=I.base.slot b o e n hb Z;exact⟨sl,(B.2 b (ne_of_lt (ydw (ybv e) I.ok.above))).trans L⟩
  ·obtain⟨o',L⟩:=I.base.there b o e Z;exact⟨o',(B.2 b (ne_of_lt (ydw (ybv e) I.ok.above))).trans L⟩
  ·by_cases hj:j=i
   ·subst hj;rw[hi] at L;cases L;rw[List.getElem?_set_self ad] at e2;cases e2;exact⟨u,r,.inl ⟨hk,by simp⟩⟩
   ·rw[List.getElem?_set_ne (Ne.symm hj)] at e2;obtain⟨u',r',q⟩:=hl j y v' L e2 e3;refine⟨u',r',?_⟩;rcases q with⟨k,e⟩ | ⟨k,c,e,z⟩
    ·refine .inl ⟨k,?_⟩;have:y≠x:=λe=>hj (jl hN L (e▸hi));simp[this,e]
    ·exact .inr ⟨k,c,e,z.sameBut B (cne y c e)⟩
  ·obtain⟨w',z⟩:=I.cell y c e;exact⟨w',z.sameBut B (cne y c e)⟩
  ·obtain⟨e,n,ne,nf,d⟩:=I.pin p hp;exact⟨(B.2 p.1 ne).trans e,n,ne,nf,d⟩
 ·have af:X.fn x=true:=by
   rcases hf with z | z
   ·exact z
   ·rw[z] at hk;cases hk
  obtain⟨c,Y⟩:=I.ok.has x (.inl hk);obtain⟨w',z⟩:=I.cell x c Y;refine wpAny_storeName_cell I.ok.kind hk Y z (λh' ar B=>?_);obtain⟨oc,ai,aj⟩:=id z;refine h { s with heap:=h' } ⟨I.ok,I.os,I.bare,⟨λb o e n hb Z=>?_,λb o e n hb Z=>?_,I.base.free,λb o e Z=>?_,I.base.tups,I.base.frzs,I.base.tbls⟩,⟨m,hn.sameBut B (Ne.symm (cne x c Y)),λj y v' L e2 e3=>?_⟩,λy c' e=>?_,I.free,I.freeC,λp hp=>?_,S ⟨oc,ai,I.freeC x c Y⟩ B,by simpa using I.len⟩ ⟨c,B,.inr Y⟩
  ·exact(B.2 b (ne_of_lt (ydw (ybv e) (I.ok.cab x c af Y)))).trans (I.base.keep b o e n hb Z)
  ·obtain⟨sl,L⟩:=I.base.slot b o e n hb Z;exact⟨sl,(B.2 b (ne_of_lt (ydw (ybv e) (I.ok.cab x c af Y)))).trans L⟩
  ·obtain⟨o',L⟩:=I.base.there b o e Z;exact⟨o',(B.2 b (ne_of_lt (ydw (ybv e) (I.ok.cab x c af Y)))).trans L⟩
  ·by_cases hj:j=i
   ·subst hj;rw[hi] at L;cases L;rw[List.getElem?_set_self ad] at e2;cases e2;exact⟨u,r,.inr ⟨.inl hk,c,Y,ar⟩⟩
   ·rw[List.getElem?_set_ne (Ne.symm hj)] at e2;obtain⟨u',r',q⟩:=hl j y v' L e2 e3;refine⟨u',r',?_⟩;rcases q with q | ⟨k,c',e,z'⟩
    ·exact .inl q
    ·refine .inr ⟨k,c',e,z'.sameBut B ?_⟩;rintro rfl;exact hj (jl hN L (I.ok.inj _ _ _ e Y▸hi))
  ·by_cases hcc:c'=c
   ·subst hcc;exact⟨_,ar⟩
   ·obtain⟨w2,z2⟩:=I.cell y c' e;exact⟨w2,z2.sameBut B hcc⟩
  ·obtain⟨e,n,ne,nf,d⟩:=I.pin p hp;refine⟨(B.2 p.1 ?_).trans e,n,ne,nf,d⟩;intro q;rw[q,ai] at e;have q':oc=p.2:=Option.some.inj e;exact d w' (by rw[←q'];exact aj)
theorem gG {M:Model} {Q:Unit->Shared->Prop} (I:aw X π σ H s) (B:X.N.Nodup) (hi:X.N[i]?=some x) (Y:zV X.env.scope x) (r:aT v u)
 (h:∀s',aw X π (σ.set i (some v)) H s'->Q () s') (L:X.fn x=true∨X.env.scope.names.lookup x=some .local:=by first | exact .inl rfl | exact .inr rfl | assumption):wpAny M A (storeName X.env x u) Q E s:=
 kD I B hi Y r (λs' S _=>h s' S) L
theorem aw.call' (I:aw X π σ H s) (Y:s'.os=s.os) (u:Un (cU X.stack) ch H H' s.heap s'.heap) (B:gE X.prog X.w H' s'.heap) (S:AllBare s'.gens)
 (L:∀b∈ch,(b∈X.ex∨X.s₀.heap.objs.size<=b)/\b≠X.env.locals/\(∀x c,X.env.cells.lookup x=some c->c≠b)/\∀p∈X.pn++π,p.1≠b):aw X π σ H' s':=by
 obtain⟨h',g',d',t',o'⟩:=s';have e:o'=s.os:=Y;subst e;exact I.call (g':=g') (t':=t') (d':=d') u B S L
end
abbrev XK:=Value->Option Addr->Hp->Prop
abbrev St:=List (Option V)
abbrev VK:=V->Hp->Prop
abbrev TE:=St->Hp->VK->Prop
abbrev TT:=St->Hp->(Bool->Hp->Prop)->Prop
abbrev TA:=St->Hp->(List V->Hp->Prop)->Prop
structure eX where
 nx:St->Hp->Prop
 rt:VK
 bk:St->Hp->Prop:=λ_ _=>False
 ct:St->Hp->Prop:=λ_ _=>False
abbrev TS:=eX->St->Hp->Prop
def EP (X:Cx) (π:List (Addr×Obj)) (σ:St) (Q:VK) (u:Value) (s':Shared):Prop:=∃v H',aw X π σ H' s'/\aT v u/\Q v H'
def TP (X:Cx) (π:List (Addr×Obj)) (σ:St) (Q:Bool->Hp->Prop) (b:Bool) (s':Shared):Prop:=∃H',aw X π σ H' s'/\Q b H'
def AP (X:Cx) (π:List (Addr×Obj)) (σ:St) (Q:List V->Hp->Prop) (us:yez) (s':Shared):Prop:=∃vs H',aw X π σ H' s'/\aK vs us/\Q vs H'
def SP (X:Cx) (π:List (Addr×Obj)) (D:eX) (f:Flow) (s':Shared):Prop:=
 match f with
 | .next=>∃σ' H',aw X π σ' H' s'/\D.nx σ' H'
 | .brk=>∃σ' H',aw X π σ' H' s'/\D.bk σ' H'
 | .cont=>∃σ' H',aw X π σ' H' s'/\D.ct σ' H'
 | .ret u=>∃v σ' H',aw X π σ' H' s'/\aT v u/\D.rt v H'
def PE (X:Cx) (e:Expr) (t:TE):Prop:=
 ∀(π:List (Addr×Obj)) (s:Shared) (σ:St) (H:Hp) (Q:VK),aw X π σ H s->t σ H Q->wpAny (model X.prog X.w) X.A (eval e X.env) (EP X π σ Q) X.xe s
def PT (X:Cx) (e:Expr) (t:TT):Prop:=
 ∀(π:List (Addr×Obj)) (s:Shared) (σ:St) (H:Hp) (Q:Bool->Hp->Prop),aw X π σ H s->t σ H Q->wpAny (model X.prog X.w) X.A (isTrue e X.env (eval e X.env)) (TP X π σ Q) X.xe s
def PW (X:Cx) (e:Expr) (t:TT):Prop:=
 ∀(whole:Sem Value) (π:List (Addr×Obj)) (s:Shared) (σ:St) (H:Hp) (Q:Bool->Hp->Prop),aw X π σ H s->t σ H Q->wpAny (model X.prog X.w) X.A (isTrue e X.env whole) (TP X π σ Q) X.xe s
theorem PW.pt (h:PW X e t):PT X e t:=h _
def PA (X:Cx) (es:List Expr) (t:TA):Prop:=
 ∀(pos:Pos) (π:List (Addr×Obj)) (s:Shared) (σ:St) (H:Hp) (Q:List V->Hp->Prop),aw X π σ H s->t σ H Q->wpAny (model X.prog X.w) X.A (spliced (backTo pos (starEach es X.env))) (AP X π σ Q) X.xe s
def PS (X:Cx) (st:Stmt) (t:TS):Prop:=
 ∀(π:List (Addr×Obj)) (s:Shared) (σ:St) (H:Hp) (D:eX),aw X π σ H s->t D σ H->wpAny (model X.prog X.w) X.A (exec st X.env) (SP X π D) X.xe s
def nA (X:Cx) (st:List Stmt) (t:TS):Prop:=
 ∀(π:List (Addr×Obj)) (s:Shared) (σ:St) (H:Hp) (D:eX),aw X π σ H s->t D σ H->wpAny (model X.prog X.w) X.A (execs st X.env) (SP X π D) X.xe s
theorem bE {α:Type} {t:Sem α} {Q B:α->Shared->Prop} {M:Model} (h:wpAny M A t Q E s) (L:∀a s,Q a s->B a s):wpAny M A t B E s:=wpAny_mono h L λ_ _ x=>x
end _L
variable {X:_L.Cx} {σ:_L.St} {H:_L.Hp} {C:PySem.Addr} {N:List PySem.Str} {apos:PySem.Pos} {cpos:PySem.Pos} {fl:PySem.Value} {hi:Int} {ns:List Int} {p2:PySem.Pos} {pos':PySem.Pos} {qual:PySem.Str} {rest:List PySem.Expr} {s1:PySem.Shared} {s2:PySem.Shared} {tg:PySem.Expr}
namespace _L
open PySem PySem.Spec PyProof.Rows
section
def wj (i:Nat):TE:=λσ H Q=>∃v,σ[i]?=some (some v)/\Q v H
def tC (v:V):TE:=λ_ H Q=>Q v H
theorem jm (hN:X.N[i]?=some x) (hv:Ck X.env.scope x) (Z:dbz x:=by decide) (Y:(x==("__classdict__":Str))=false:=by decide):PE X (.Name x pos) (wj i):=by
 intro π s σ H Q I h;obtain⟨v,e,h⟩:=h;obtain⟨m,hn,hl⟩:=I.loc;obtain⟨u,r,l⟩:=hl i x v hN e hv;have S:EP X π σ Q u s:=⟨v,H,I,r,h⟩;rcases l with⟨L,hm⟩ | ⟨L,c,hc,B⟩
 ·exact wpAny_Name (wpAny_loadName_local I.ok.kind L hn hm S) Z
 ·rcases L with L | L
  ·exact wpAny_Name (wpAny_loadName_cell I.ok.kind L hc B S) Z
  ·exact wpAny_Name (wpAny_loadName_free I.ok.kind L hc B S Y) Z
theorem Dh {i j pos}:PE X (.Constant (.int i) j pos) (tC (.int i)):=λ_ _ _ H _ I h=>wpAny_Constant_int ⟨.int i,H,I.tok _,⟨_,rfl⟩,h⟩
theorem Gd {b j pos}:PE X (.Constant (.bool b) j pos) (tC (.bl b)):=λ_ _ _ H _ I h=>Constant_bool ⟨.bl b,H,I,rfl,h⟩
theorem Di {j pos}:PE X (.Constant .none j pos) (tC .non):=λ_ _ _ H _ I h=>Constant_none ⟨.non,H,I,rfl,h⟩
theorem lJ {x j pos}:PE X (.Constant (.str x) j pos) (tC (.str x)):=λ_ _ _ H _ I h=>Calls.Constant_str ⟨.str x,H,I.tok _,⟨_,rfl⟩,h⟩
def Gl (X:Cx) (x:Str):Prop:=X.env.kindOf x=some .globalImplicit
theorem ei (I:aw X π σ H s) (B:Gl X x) (L:X.mg x=some u) (h:Q u s)
 (S:dbz x:=by decide):wpAny (model X.prog X.w) X.A (eval (.Name x pos) X.env) Q E s:=
 Calls.Name_function_global I.ok.kind B (Calls.loadGlobal_global (by rw[I.ok.glob];exact I.mod.glob.keeps I.bk) L h) S
theorem ig (I:aw X π σ H s) (B:Gl X x) (S:X.mg x=none) (L:bootBuiltins x=some u) (h:Q u s)
 (Y:x≠"__name__":=by decide) (Z:dbz x:=by decide):wpAny (model X.prog X.w) X.A (eval (.Name x pos) X.env) Q E s:=by
 obtain⟨mb,h1,h2⟩:=I.mod.blt;exact Calls.Name_function_global I.ok.kind B (Calls.loadGlobal_builtin (by rw[I.ok.glob];exact I.mod.glob.keeps I.bk) S (by rw[I.ok.blt];exact h1.keeps I.bk) ((h2 x Y).trans L) h) Z
theorem lK (B:Gl X x) (S:X.mg x=some u) (r:aT v u) (L:dbz x:=by decide):PE X (.Name x pos) (tC v):=
 λ_ _ _ H _ I h=>ei I B S ⟨v,H,I,r,h⟩ L
theorem sE (B:Gl X x) (Y:X.mg x=none) (L:bootBuiltins x=some u) (r:aT v u) (Z:x≠"__name__":=by decide) (S:dbz x:=by decide):PE X (.Name x pos) (tC v):=
 λ_ _ _ H _ I h=>ig I B Y L ⟨v,H,I,r,h⟩ Z S
variable {a b:Expr} {ta tb:TE}
def tB (t:TE):TT:=λσ H Q=>t σ H λx H1=>∃c,x=.bl c/\Q c H1
theorem Dj (h:PE X e t) (S:∀whole,isTrue e X.env whole=(do let v ←whole;standAt e.pos;holding [v] (truthy v)):=by intro _;rfl):PT X e (tB t):=by
 intro π s σ H Q I hw;refine isTrue_plain (bE (h π s σ H _ I hw) λv Z z9=>?_) (S _);obtain⟨x,H1,L,B,Y⟩:=z9;obtain⟨d,rfl,q⟩:=Y;cases B;exact wpAny_truthy_bool ⟨H1,L,q⟩
variable {tA tB':TT} {rest:List Expr}
def Ku (t u:TT):TT:=λσ H Q=>t σ H λc H1=>if c=true then u σ H1 Q else Q false H1
def NK (t u:TT):TT:=λσ H Q=>t σ H λc H1=>if c=true then Q true H1 else u σ H1 Q
def Kv (t:TT):TT:=λσ H Q=>t σ H λc H1=>Q (!c) H1
theorem zW (B:PT X a tA):PW X (.BoolOp .And [a] pos) tA:=by
 intro wh π s σ H Q I h;refine isTrue_and (bE (B π s σ H Q I h) λc L e=>?_);cases c with
 | true=>exact isTrue_and_nil e
 | false=>exact e
theorem Dk (B:PT X a tA):PW X (.BoolOp .Or [a] pos) tA:=by
 intro wh π s σ H Q I h;refine isTrue_or (bE (B π s σ H Q I h) λc L e=>?_);cases c with
 | false=>exact isTrue_or_nil e
 | true=>exact e
theorem Dl (Y:PT X a tA) (hb:PW X (.BoolOp .And (b::rest) pos) tB'):PW X (.BoolOp .And (a::b::rest) pos) (Ku tA tB'):=by
 intro wh π s σ H Q I h;refine isTrue_and (bE (Y π s σ H _ I h) λc S z9=>?_);obtain⟨H1,B,L⟩:=z9;cases c with
 | true=>exact hb wh π S σ H1 Q B L
 | false=>exact⟨H1,B,L⟩
theorem Ge (Y:PT X a tA) (hb:PW X (.BoolOp .Or (b::rest) pos) tB'):PW X (.BoolOp .Or (a::b::rest) pos) (NK tA tB'):=by
 intro wh π s σ H Q I h;refine isTrue_or (bE (Y π s σ H _ I h) λc S z9=>?_);obtain⟨H1,B,L⟩:=z9;cases c with
 | true=>exact⟨H1,B,L⟩
 | false=>exact hb wh π S σ H1 Q B L
theorem Dm (B:PT X a tA):PT X (.UnaryOp .Not a pos) (Kv tA):=by
 intro π s σ H Q I h;exact isTrue_not (B π s σ H (λc H1=>Q (!c) H1) I h)
def Gg (ta tb:TE):TE:=λσ H Q=>ta σ H λx H1=>∃c,x=.bl c/\if c=true then tb σ H1 Q else Q (.bl false) H1
def Kw (ta tb:TE):TE:=λσ H Q=>ta σ H λx H1=>∃c,x=.bl c/\if c=true then Q (.bl true) H1 else tb σ H1 Q
def Gh (ta:TE):TE:=λσ H Q=>ta σ H λx H1=>∃c,x=.bl c/\Q (.bl (!c)) H1
theorem Dp {op} (h:PE X a t):PE X (.BoolOp op [a] pos) t:=λπ s σ H Q I hw=>BoolOp_one (h π s σ H Q I hw)
theorem Dq (Y:PE X a ta) (hb:PE X (.BoolOp .And (b::rest) pos) tb):PE X (.BoolOp .And (a::b::rest) pos) (Gg ta tb):=by
 intro π s σ H Q I h;refine BoolOp_and (bE (Y π s σ H _ I h) λv Z z9=>?_);obtain⟨x,H1,L,S,B⟩:=z9;obtain⟨c,rfl,B⟩:=B;cases S;refine wpAny_truthy_bool ?_;cases c with
 | true=>exact hb π Z σ H1 Q L B
 | false=>exact⟨.bl false,H1,L,rfl,B⟩
theorem Gi (Y:PE X a ta) (hb:PE X (.BoolOp .Or (b::rest) pos) tb):PE X (.BoolOp .Or (a::b::rest) pos) (Kw ta tb):=by
 intro π s σ H Q I h;refine BoolOp_or (bE (Y π s σ H _ I h) λv Z z9=>?_);obtain⟨x,H1,L,S,B⟩:=z9;obtain⟨c,rfl,B⟩:=B;cases S;refine wpAny_truthy_bool ?_;cases c with
 | false=>exact hb π Z σ H1 Q L B
 | true=>exact⟨.bl true,H1,L,rfl,B⟩
theorem Dr (L:PE X a ta):PE X (.UnaryOp .Not a pos) (Gh ta):=by
 intro π s σ H Q I h;refine UnaryOp_ (bE (L π s σ H _ I h) λv Z z9=>?_);obtain⟨x,H1,S,Y,B⟩:=z9;obtain⟨c,rfl,B⟩:=B;cases Y;exact not_of (wpAny_truthy_bool ⟨.bl (!c),H1,S,rfl,B⟩)
def NL (t:TT) (ta tb:TE):TE:=λσ H Q=>t σ H λc H1=>if c=true then ta σ H1 Q else tb σ H1 Q
theorem wm (Z:PT X c tA) (Y:PE X a ta) (hb:PE X b tb):PE X (.IfExp c a b pos) (NL tA ta tb):=by
 intro π s σ H Q I h;refine wpAny_IfExp (bE (Z π s σ H _ I h) λd B z9=>?_);obtain⟨H1,L,S⟩:=z9;cases d with
 | true=>exact Y π B σ H1 Q L S
 | false=>exact hb π B σ H1 Q L S
end
def cG (K:yav) (H:Hp) (a:Addr) (xs:List V):Prop:=
 Rd H a (.lst xs)∨
  ∃(o:Obj) (its:Array Value) (n:Nat),K.lookup a=some o/\o.cls=.type "list"/\o.dict=none/\o.data=.seq its n/\its.size<=sizeLine/\aK xs its.toList
def dG (K:yav) (H:Hp) (a:Addr) (xs:List V):Prop:=
 Rd H a (.tup xs)∨
  ∃(o:Obj) (its:Array Value) (n:Nat),K.lookup a=some o/\o.cls=.type "tuple"/\o.data=.seq its n/\its.size<=sizeLine/\aK xs its.toList
noncomputable def Kx:Value->Option V
 | .none=>some .non
 | .bool b=>some (.bl b)
 | .int i _=>some (.int i)
 | .str x _=>some (.str x)
 | .bytes b _=>some (.byt b)
 | .float b _=>some (.flt b)
 | .ref a=>some (.ref a)
 | .type n=>some (.ty n)
 | _=>none
theorem aT.abs {x:V} (r:aT x u):Kx u=some x:=by
 cases x with
 | non=>cases r;rfl
 | bl _=>cases r;rfl
 | int _=>obtain⟨t,rfl⟩:=r;rfl
 | str _=>obtain⟨t,rfl⟩:=r;rfl
 | byt _=>obtain⟨t,rfl⟩:=r;rfl
 | flt _=>obtain⟨t,rfl⟩:=r;rfl
 | ref _=>cases r;rfl
 | ty _=>cases r;rfl
theorem aT.inj {x y:V} (r:aT x u) (q:aT y u):x=y:=Option.some.inj (r.abs.symm.trans q.abs)
theorem aK.inj:∀{xs ys:List V} {us:yez},aK xs us->aK ys us->xs=ys
 | _,_,_,.nil,.nil=>rfl
 | _,_,_,.cons r t,.cons B t'=>by rw[r.inj B,aK.inj t t']
section
variable {xs ys:List V}
theorem cG.of (h:H a=some (.lst xs)):cG K H a xs:= .inl (.inl h)
theorem dG.of (h:H a=some (.tup xs)):dG K H a xs:= .inl (.inl h)
theorem aw.list (I:aw X π σ H s) (h:cG X.K H a xs):∃B:List Value,aK xs B/\PlainL s.heap a B.toArray/\xs.length<=sizeLine:=by
 rcases h with h | ⟨o,B,n,L,S,Z,Y,hz,r⟩
 ·obtain⟨z,B,n,r,e⟩:=h.ok I.hok;exact⟨B,r,⟨_,n,e,rfl,rfl,rfl⟩,z⟩
 ·refine⟨B.toList,r,⟨o,n,I.kIn a o L,S,Z,by simpa using Y⟩,?_⟩;have e:=r.length;simp only[Array.length_toList] at e;lia
theorem aw.tuple (I:aw X π σ H s) (h:dG X.K H a xs):∃B:List Value,aK xs B/\IsTup s.heap a B.toArray/\xs.length<=sizeLine:=by
 rcases h with h | ⟨o,B,n,L,S,Y,Z,r⟩
 ·obtain⟨z,B,r,p⟩:=h.ok I.hok;exact⟨B,r,p,z⟩
 ·refine⟨B.toList,r,⟨o,I.kIn a o L,S,n,by simpa using Y⟩,?_⟩;have e:=r.length;simp only[Array.length_toList] at e;lia
theorem aw.list_inj (I:aw X π σ H s) (h:cG X.K H a xs) (h':cG X.K H a ys):xs=ys:=by
 obtain⟨B,r,⟨o,n,e,_,_,d⟩,_⟩:=I.list h;obtain⟨its',S,⟨o',Y,L,_,_,d'⟩,_⟩:=I.list h';rw[e] at L;cases L;rw[d] at d';injection d' with d1 _
 have:B=its':=by simpa using congrArg Array.toList d1
 subst this;exact r.inj S
theorem aw.tuple_inj (I:aw X π σ H s) (h:dG X.K H a xs) (h':dG X.K H a ys):xs=ys:=by
 obtain⟨B,r,⟨o,e,_,n,d⟩,_⟩:=I.tuple h;obtain⟨its',S,⟨o',L,_,Y,d'⟩,_⟩:=I.tuple h';rw[e] at L;cases L;rw[d] at d';injection d' with d1 _
 have:B=its':=by simpa using congrArg Array.toList d1
 subst this;exact r.inj S
end
noncomputable abbrev Cx.wish (X:Cx) (E:yey):Cx:={ X with xe:=E }
noncomputable abbrev Cx.nox (X:Cx):Cx:=X.wish λ_ _=>False
theorem Cx.Ok.wish (ok:X.Ok) (E:yey):(X.wish E).Ok:=
 ⟨ok.mod,ok.kind,ok.glob,ok.blt,ok.above,ok.inj,ok.has,ok.cab,ok.hd,ok.frames,ok.stk,ok.exf,ok.bs,ok.bsz,ok.noex,ok.exfs,ok.funs,ok.frf⟩
theorem Cx.Ok.unwish (ok:(X.wish E).Ok):X.Ok:=
 ⟨ok.mod,ok.kind,ok.glob,ok.blt,ok.above,ok.inj,ok.has,ok.cab,ok.hd,ok.frames,ok.stk,ok.exf,ok.bs,ok.bsz,ok.noex,ok.exfs,ok.funs,ok.frf⟩
theorem aw.wish (I:aw X π σ H s) (E:yey):aw (X.wish E) π σ H s:=⟨I.ok.wish E,I.os,I.bare,I.base,I.loc,I.cell,I.free,I.freeC,I.pin,I.hok,I.len⟩
theorem aw.unwish (I:aw (X.wish E) π σ H s):aw X π σ H s:=⟨I.ok.unwish,I.os,I.bare,I.base,I.loc,I.cell,I.free,I.freeC,I.pin,I.hok,I.len⟩
theorem SP.unwish (h:SP (X.wish E) π D f s'):SP X π D f s':=by
 cases f with
 | next=>obtain⟨B,H',I,q⟩:=h;exact⟨B,H',I.unwish,q⟩
 | brk=>obtain⟨B,H',I,q⟩:=h;exact⟨B,H',I.unwish,q⟩
 | cont=>obtain⟨B,H',I,q⟩:=h;exact⟨B,H',I.unwish,q⟩
 | ret u=>obtain⟨v,B,H',I,r,q⟩:=h;exact⟨v,B,H',I.unwish,r,q⟩
theorem nA.nox {st:List Stmt} (h:nA X.nox st t):nA X st t:=λπ s σ H D I hw=>
 wpAny_mono (h π s σ H D (I.wish _) hw) (λ_ _ q=>q.unwish) λ_ _ z=>False.elim z
section
variable {rest:List Stmt} {t u:TS} {te:TE}
def Gj:TS:=λD σ H=>D.nx σ H
def Ky (t u:TS):TS:=λD σ H=>t { D with nx:=u D } σ H
theorem pss_nil:nA X [] Gj:=λ_ _ σ H _ I h=>wpAny_execs_nil ⟨σ,H,I,h⟩
theorem wn (h1:PS X st t) (h2:nA X rest u):nA X (st::rest) (Ky t u):=by
 intro π s σ H D I h;refine wpAny_execs_cons (bE (h1 π s σ H { D with nx:=u D } I h) λf S q=>?_);cases f with
 | next=>
   obtain⟨B,H',L,q⟩:=q;exact h2 π S B H' D L q
 | ret v=>exact q
 | brk=>exact q
 | cont=>exact q
theorem zX (h1:PS X st t):nA X [st] t:=by
 intro π s σ H D I h;refine wpAny_execs_cons (bE (h1 π s σ H D I h) λf B q=>?_);cases f with
 | next=>exact wpAny_execs_nil q
 | ret v=>exact q
 | brk=>exact q
 | cont=>exact q
theorem aw.quiet (I:aw X π σ H s):interactive X.env=false:=by simp[interactive,I.ok.kind]
def Gk (te:TE):TS:=λD σ H=>te σ H λ_ H1=>D.nx σ H1
theorem zY (B:PE X e te) (Y:swapsWith e none pos.line X.env=pure false:=by rfl):PS X (.Expr e pos) (Gk te):=by
 intro π s σ H D I h;exact wpAny_Expr_any (bE (B π s σ H _ I h) λv Z z9=>(by obtain⟨x,H1,L,r1,S⟩:=z9;exact ⟨σ,H1,L,S⟩)) I.quiet Y
def Kz (te:TE):TS:=λD σ H=>te σ H D.rt
theorem Ds (B:PE X e te):PS X (.Return (some e) pos) (Kz te):=by
 intro π s σ H D I h;exact wpAny_Return_some (bE (B π s σ H _ I h) λv Z z9=>(by obtain⟨x,H1,L,Y,S⟩:=z9;exact ⟨x,σ,H1,L,Y,S⟩))
def Gm:TS:=λD _ H=>D.rt .non H
theorem ps_retN:PS X (.Return none pos) Gm:=λ_ _ σ H _ I h=>wpAny_Return_none ⟨.non,σ,H,I,rfl,h⟩
def KA (c:TT) (t u:TS):TS:=λD σ H=>c σ H λb H1=>if b=true then t D σ H1 else u D σ H1
theorem Go {a b:List Stmt} {tc:TT} (Z:PT X c tc) (Y:nA X a t) (hb:nA X b u):PS X (.If c a b pos) (KA tc t u):=by
 intro π s σ H D I h;refine wpAny_If (bE (Z π s σ H _ I h) λd B z9=>?_);obtain⟨H1,L,S⟩:=z9;cases d with
 | true=>exact Y π B σ H1 D L S
 | false=>exact hb π B σ H1 D L S
end
abbrev TG:=V->St->Hp->(St->Hp->Prop)->Prop
abbrev zZ:=List V->St->Hp->(St->Hp->Prop)->Prop
def PG (X:Cx) (target:Expr) (t:TG):Prop:=
 ∀(π:List (Addr×Obj)) (s:Shared) (σ:St) (H:Hp) (v:V) (u:Value) (Q:St->Hp->Prop),aw X π σ H s->aT v u->t v σ H Q->
  wpAny (model X.prog X.w) X.A (assign target X.env u) (λ_ s'=>∃σ' H',aw X π σ' H' s'/\Q σ' H') X.xe s
def Cn (X:Cx) (ts:List Expr) (t:zZ):Prop:=
 ∀(π:List (Addr×Obj)) (s:Shared) (σ:St) (H:Hp) (vs:List V) (us:yez) (Q:St->Hp->Prop),aw X π σ H s->aK vs us->t vs σ H Q->
  wpAny (model X.prog X.w) X.A (assignInOrder ((assignEach ts X.env).map (·.2)) us) (λ_ s'=>∃σ' H',aw X π σ' H' s'/\Q σ' H') X.xe s
def Co (i:Nat):TG:=λv σ H Q=>Q (σ.set i (some v)) H
theorem z9 (B:X.N.Nodup) (hi:X.N[i]?=some x) (Y:zV X.env.scope x) (L:X.fn x=true∨X.env.scope.names.lookup x=some .local:=by first | exact .inl rfl | exact .inr rfl | assumption):PG X (.Name x pos) (Co i):=by
 intro π s σ H v u Q I r h;exact wpAny_assign_Name (gG I B hi Y r (λs' S=>⟨_,H,S,h⟩) L)
def KB:zZ:=λvs σ H Q=>vs=[]/\Q σ H
def Gq (t:TG) (u:zZ):zZ:=λvs σ H Q=>∃v r,vs=v::r/\t v σ H λσ' H'=>u r σ' H' Q
theorem pgs_nil:Cn X [] KB:=by
 intro π s σ H vs us Q I r h;obtain⟨e,h⟩:=h;subst e;cases r;exact assignInOrder_nil ⟨σ,H,I,h⟩
theorem wo {t:TG} {u:zZ} (h1:PG X e t) (h2:Cn X es u)
 (L:(assignEach (e::es) X.env).map (·.2)=assign e X.env::(assignEach es X.env).map (·.2):=by rfl):Cn X (e::es) (Gq t u):=by
 intro π s σ H vs us Q I r h;obtain⟨v,vr,S,h⟩:=h;subst S;cases r with
 | cons r Z=>
   rw[L];refine assignInOrder_cons (bE (h1 π s σ H _ _ _ I r h) λ_ Y z9=>?_);obtain⟨B,H1,I1,q1⟩:=z9;exact h2 π Y B H1 _ _ Q I1 Z q1
def KC (K:yav) (n:Nat) (t:zZ):TG:=λv σ H Q=>∃a xs,v=.ref a/\dG K H a xs/\xs.length=n/\t xs σ H Q
theorem Dt (hc:X.calm=true) (h:Cn X es t)
 (hn:(assignEach es X.env).length=n:=by rfl) (B:(assignEach es X.env).findIdx? (·.1)=none:=by rfl):PG X (.Tuple es k pos) (KC X.K n t):=by
 intro π s σ H v u Q I r hw;obtain⟨a,xs,Z,S,hl,hw⟩:=hw;subst Z;cases r;obtain⟨ab,L,Y,hz⟩:=I.tuple S;refine assign_Tuple_tuple (I.ok.hd hc) Y (by simp[hn,←hl,L.length]) B λh' hx=>?_;have I1:aw X π σ H { s with heap:=h' }:=I.kept (t':=s.toks) λb o e=>hx b o (ne_of_lt (ybv e)) e;exact h π _ σ H xs _ Q I1 (by simpa using L) hw
def Du (te:TE) (g:TG):TS:=λD σ H=>te σ H λx H1=>g x σ H1 D.nx
theorem Dw (Z:PE X e te) (B:PG X tg g) (S:swapsWithSole [tg] e pos.line X.env=pure false:=by rfl) (hw:swappedStores [tg] e X.env=pure none:=by rfl)
 (h1:(assignEach [tg] X.env).map (·.2)=[assign tg X.env]:=by rfl):PS X (.Assign [tg] e pos) (Du te g):=by
 intro π s σ H D I h;refine wpAny_Assign_stores (bE (Z π s σ H _ I h) λv s1 z9=>?_) S hw;obtain⟨x,H1,Y,L,q1⟩:=z9;rw[h1];exact bE (B π s1 σ H1 x v _ Y L q1) λ_ s2 q=>q
theorem Dx (L:X.N.Nodup) (hi:X.N[i]?=some x) (hx:zV X.env.scope x) (he:PE X e te) (Z:swapsWith e (some (.Name x pos')) pos.line X.env=pure false:=by rfl) (S:X.fn x=true∨X.env.scope.names.lookup x=some .local:=by first | exact .inl rfl | exact .inr rfl | assumption):
 PS X (.Assign [.Name x pos'] e pos) (Du te (Co i)):=by
 intro π s σ H D I h;refine wpAny_Assign_Name (bE (he π s σ H _ I h) λv s1 z9=>?_) Z;obtain⟨y,H1,I1,Y,q1⟩:=z9;exact gG I1 L hi hx Y (λs2 B=>⟨_,H1,B,q1⟩) S
def Dy (c:TT) (tb:TS):TS:=λD σ H=>∃W:Nat->St->Hp->Prop,(∃m,W m σ H)/\∀m σ H,W m σ H->
 c σ H λb H1=>if b=true then ∃N:St->Hp->Prop,(∀σ' H',N σ' H'->∃m',m'<m/\W m' σ' H')/\tb { D with nx:=N,ct:=N,bk:=D.nx } σ H1 else D.nx σ H1
theorem wq (hp:PassesOwn (model X.prog X.w) X.A X.env X.xe) (hc:PT X c tc) (hb:nA X body tb):PS X (.While c body [] pos) (Dy tc tb):=by
 intro π s σ H D I h;obtain⟨W,⟨m0,w0⟩,Z⟩:=h;refine wpAny_While (codeAny_whileLoop (λn s'=>∃S H',aw X π S H' s'/\W n S H') ?_ m0 ⟨σ,H,I,w0⟩);rintro n s1 ⟨L,H1,I1,w1⟩;refine wpAny_passesOwn hp (bE (hc π s1 L H1 _ I1 (Z n L H1 w1)) λb s2 z9=>?_);obtain⟨H2,I2,q2⟩:=z9;cases b with
 | true=>
   obtain⟨N,hN,q2⟩:=q2;rw[ycv rfl];refine wpAny_passesOwn hp (bE (hb π s2 L H2 _ I2 q2) λf s3 q3=>?_);cases f with
   | next=>
     obtain⟨B,Y,I3,n3⟩:=q3;obtain⟨m',hm,w3⟩:=hN B Y n3;exact⟨m',hm,B,Y,I3,w3⟩
   | cont=>
     obtain⟨B,Y,I3,n3⟩:=q3;obtain⟨m',hm,w3⟩:=hN B Y n3;exact⟨m',hm,B,Y,I3,w3⟩
   | brk=>exact q3
   | ret v=>exact q3
 | false=>
   rw[ycw ydx];exact wpAny_execs_nil ⟨L,H2,I2,q2⟩
structure It where
 go:Nat->Hp->Prop
 yld:Nat->Hp->V->Hp->Prop
 stop:Nat->Hp->Prop
def iX (X:Cx) (π:List (Addr×Obj)) (H:Hp) (b:Addr):Prop:=
 H b=none/\b≠X.env.locals/\b∉X.fs/\(b∈X.ex∨X.s₀.heap.objs.size<=b)/\(∀x c,X.env.cells.lookup x=some c->c≠b)/\∀p∈X.pn++π,p.1≠b
theorem aw.fpOk {b:Addr} (I:aw X π σ H s) (hb:s.heap.objs.size<=b) (L:H' b=none):iX X π H' b:=by
 refine⟨L,Nat.ne_of_gt (ydw I.lt hb),I.nofs hb,.inr (ycy I.sz hb),λx c e z=>?_,λp B z=>?_⟩
 ·obtain⟨v,q⟩:=I.cell x c e;exact absurd (ydw q.lt (by rw[z];exact hb)) (lt_irrefl _)
 ·exact absurd (ydw (ybv (I.pin p B).1) (by rw[z];exact hb)) (lt_irrefl _)
structure km (P:Program) (w:World) (K:yav) (tg:Expr) (J:It) (fp:List Addr) (it:Addr) (tn:Nat->Heap->Prop):Prop where
 mem:it∈fp
 obj:∀i h,tn i h->∀b∈fp,∃o,h.get? b=some o/\∀v,o.data≠ .cell v
 keep:∀i h h',tn i h->(∀b∈fp,∀o,h.get? b=some o->h'.get? b=some o)->tn i h'
 item:∀(X:Cx),X.prog=P->X.w=w->X.K=K->X.calm=true->∀(i:Nat) (π:List (Addr×Obj)) (s:Shared) (σ:St) (H:Hp) (E:yey),aw X π σ H s->(∀b∈fp,iX X π H b)->tn i s.heap->J.go i H->
  wpAny (model P w) X.A (pyNext (.ref it)) (λr s1=>∃u,r=some u/\
   wpAny (model P w) X.A (letOwnedTupleGo tg (.ref it) u) (λ_ s2=>∃x H',aw X π σ H' s2/\aT x u/\J.yld i H x H'/\tn (i+1) s2.heap/\∀b∈fp,H' b=none) E s1) E s
 done:∀(X:Cx),X.prog=P->X.w=w->X.K=K->X.calm=true->∀(i:Nat) (π:List (Addr×Obj)) (s:Shared) (σ:St) (H:Hp) (E:yey),aw X π σ H s->(∀b∈fp,iX X π H b)->tn i s.heap->J.stop i H->
  wpAny (model P w) X.A (pyNext (.ref it)) (λr s1=>r=none/\aw X π σ H s1) E s
 self:∀(A:Around) (i:Nat) (s:Shared) (Q:yey) (E:yey),tn i s.heap->Q (.ref it) s->wpAny (model P w) A (pyIter (.ref it)) Q E s
abbrev TI:=St->Hp->(It->Hp->Prop)->Prop
def KD (X:Cx) (π:List (Addr×Obj)) (σ:St) (tg:Expr) (R:It->Hp->Prop) (itv:Value) (s2:Shared):Prop:=
 ∃(it:Addr) (fp:List Addr) (tn:Nat->Heap->Prop) (J:It) (H':Hp),itv=.ref it/\aw X π σ H' s2/\km X.prog X.w X.K tg J fp it tn/\tn 0 s2.heap/\(∀b∈fp,iX X π H' b)/\R J H'
def PI (X:Cx) (tg iter:Expr) (wi:TI):Prop:=
 ∀(π:List (Addr×Obj)) (s:Shared) (σ:St) (H:Hp) (R:It->Hp->Prop),aw X π σ H s->wi σ H R->
  wpAny (model X.prog X.w) X.A (eval iter X.env) (λv s1=>wpAny (model X.prog X.w) X.A (pyIter v) (KD X π σ tg R) X.xe s1) X.xe s
theorem kE {M:Model} {it:Addr} {n:String} {vs:Array Value} {Q:Unit->Shared->Prop} (L:s.heap.get? it=some o) (S:o.cls=.type n) (Z:o.data=.fields vs)
 (Y:["enumerate","zip","dict_itemiterator","dict_reverseitemiterator","odict_iterator","itertools.zip_longest","itertools.pairwise"].contains n=false) (B:Q () s):wpAny M A (letOwnedTupleGo tg (.ref it) u) Q E s:=by
 unfold letOwnedTupleGo;cases tg<;> first
  | exact wpAny_pure B
  | (cases u<;> first
      | exact wpAny_pure B
      | (refine wax (wpAny_load L ?_)
         rw[S,Z];show wpAny M A (if (["enumerate","zip","dict_itemiterator","dict_reverseitemiterator","odict_iterator","itertools.zip_longest","itertools.pairwise"].contains n&&vs[0]?==some (rawInt _))=true then _ else _) Q E s;rw[ycw (by intro h;rw[Y,Bool.false_and] at h;cases h)];exact wpAny_pure B))
noncomputable def Ki (K:yav) (a:Addr):It:=
 ⟨λi H=>∃xs x,cG K H a xs/\xs[i]?=some x,λi H x H'=>H'=H/\∀xs,cG K H a xs->xs[i]?=some x,λi H=>∃xs,cG K H a xs/\xs.length<=i⟩
noncomputable def KF (K:yav) (a:Addr):It:=
 ⟨λi H=>∃xs x,dG K H a xs/\xs[i]?=some x,λi H x H'=>H'=H/\∀xs,dG K H a xs->xs[i]?=some x,λi H=>∃xs,dG K H a xs/\xs.length<=i⟩
noncomputable def Kj (lo:Int) (n:Nat):It:=⟨λi _=>i<n,λi H x H'=>H'=H/\x=.int (lo+i),λi _=>n<=i⟩
theorem uP (a it:Addr):km P w K tg (Ki K a) [it] it (λi h=>h.IsListIter it a i) where
 mem:=by simp
 obj:=λi h st b hb=>by
  have e:b=it:=by simpa using hb
  subst e;obtain⟨o,e,c,d⟩:=st;exact⟨o,e,λv z=>by rw[d] at z;cases z⟩
 keep:=λi h h' st k=>st.at λo e=>k it (by simp) o e
 item:=by
  intro X Z hw hK hc i π s σ H E I L st Y;subst Z hw hK;obtain⟨xs,x,S,hx⟩:=Y;obtain⟨ab,rv,p,hz⟩:=I.list S;obtain⟨u,hu,ru⟩:=rv.get hx;obtain⟨f0,f1,f2,f3,f4,f5⟩:=L it (by simp);refine wpAny_pyNext_list_item st p.isList (x:=u) (by simpa using hu) λh' B sb=>?_;have I1:aw X π σ H { s with heap:=h' }:=I.turned (t':=s.toks) (λb o hb e=>(sb.2 b hb).trans e) f0 f1 f3 f4 f5;obtain⟨o,e,c,d⟩:=id B;exact⟨u,rfl,kE (s:={ s with heap:=h' }) e c d (by decide) ⟨x,H,I1,ru,⟨rfl,λys hy=>by rw[I.list_inj hy S];exact hx⟩,B,λb hb=>(L b hb).1⟩⟩
 done:=by
  intro X Z hw hK hc i π s σ H E I L st Y;subst Z hw hK;obtain⟨xs,S,hx⟩:=Y;obtain⟨ab,rv,p,hz⟩:=I.list S;obtain⟨f0,f1,f2,f3,f4,f5⟩:=L it (by simp);have hl:=rv.length;exact wpAny_pyNext_list_end (I.ok.hd hc) st p.isList (by simp;lia) λh' eb=>⟨rfl,I.turned (t':=s.toks) (λb o hb e=>eb b o hb e) f0 f1 f3 f4 f5⟩
 self:=λ_ _ _ _ _ st h=>wpAny_pyIter_listiter st h
theorem pL (a it:Addr):km P w K tg (KF K a) [it] it (λi h=>h.IsTupleIter it a i) where
 mem:=by simp
 obj:=λi h st b hb=>by
  have e:b=it:=by simpa using hb
  subst e;obtain⟨o,e,c,d⟩:=st;exact⟨o,e,λv z=>by rw[d] at z;cases z⟩
 keep:=λi h h' st k=>st.at λo e=>k it (by simp) o e
 item:=by
  intro X hP hw hK hc i π s σ H E I S st Z;subst hP hw hK;obtain⟨xs,x,Y,hx⟩:=Z;obtain⟨B,rv,p,hz⟩:=I.tuple Y;obtain⟨u,hu,ru⟩:=rv.get hx;obtain⟨f0,f1,f2,f3,f4,f5⟩:=S it (by simp);refine wpAny_pyNext_tuple_item st (show s.heap.IsTuple a B.toArray from p) (x:=u) (by simpa using hu) λh' L sb=>?_;have I1:aw X π σ H { s with heap:=h' }:=I.turned (t':=s.toks) (λb o hb e=>(sb.2 b hb).trans e) f0 f1 f3 f4 f5;obtain⟨o,e,c,d⟩:=id L;exact⟨u,rfl,kE (s:={ s with heap:=h' }) e c d (by decide) ⟨x,H,I1,ru,⟨rfl,λys hy=>by rw[I.tuple_inj hy Y];exact hx⟩,L,λb hb=>(S b hb).1⟩⟩
 done:=by
  intro X hP hw hK hc i π s σ H E I S st Z;subst hP hw hK;obtain⟨xs,Y,hx⟩:=Z;obtain⟨B,rv,p,hz⟩:=I.tuple Y;obtain⟨f0,f1,f2,f3,f4,f5⟩:=S it (by simp);have hl:=rv.length;exact wpAny_pyNext_tuple_end (I.ok.hd hc) st (show s.heap.IsTuple a B.toArray from p) (by simp;lia) λh' eb=>⟨rfl,I.turned (t':=s.toks) (λb o hb e=>eb b o hb e) f0 f1 f3 f4 f5⟩
 self:=λ_ _ _ _ _ st h=>wpAny_pyIter_tupleiter st h
theorem pM (it:Addr) (lo:Int) (n:Nat):km P w K tg (Kj lo n) [it] it (λi h=>IsRangeIter h it (lo+(i:Nat)*1) ((n:Int)- (i:Nat)) 1) where
 mem:=by simp
 obj:=λi h st b hb=>by
  have e:b=it:=by simpa using hb
  subst e;exact⟨_,st,λv z=>by
   have z':Data.fields _=Data.cell v:=z;cases z'⟩
 keep:=λi h h' st k=>k it (by simp) _ st
 item:=by
  intro X Y hw hK hc i π s σ H E I L st S;subst Y hw hK;obtain⟨f0,f1,f2,f3,f4,Z⟩:=L it (by simp);have W:=Walks.range (prog:=X.prog) (w:=X.w) (I.ok.hd hc) it lo 1 n;refine W.item i s _ _ S st λv h' tk hv B kk=>?_;obtain⟨t,rfl⟩:=hv;have I1:aw X π σ H { s with heap:=h',toks:=tk }:=I.turned (λb o hb e=>kk b o (by simpa using hb) e) f0 f1 f3 f4 Z;refine⟨_,rfl,kE (s:={ s with heap:=h',toks:=tk }) (n:="range_iterator") B rfl rfl (by decide) ⟨.int (lo+i),H,I1,⟨t,?_⟩,⟨rfl,rfl⟩,B,λb hb=>(L b hb).1⟩⟩;rw[Int.mul_one]
 done:=by
  intro X Y hw hK hc i π s σ H E I L st S;subst Y hw hK;obtain⟨f0,f1,f2,f3,f4,Z⟩:=L it (by simp);exact wpAny_pyNext_range_end (I.ok.hd hc) st (by have:n<=i:=S;lia) λh' eb=>⟨rfl,I.turned (t':=s.toks) (λb o hb e=>eb b o hb e) f0 f1 f3 f4 Z⟩
 self:=λ_ _ _ _ _ st h=>wpAny_pyIter_rangeiter st h
section
variable {tg:Expr}
theorem wt {R:It->Hp->Prop} {lo:Int} {t u v:Tok} {tk:Nat} (I:aw X π σ H s) (h1: -(2^62)<=lo) (h2:lo<2^62) (S: -(2^62)<=hi) (Z:hi<2^62)
 (q:R (Kj lo (hi-lo).toNat) H):wpAny (model X.prog X.w) X.A (pyIter (.ref s.heap.objs.size)) (KD X π σ tg R) E { s with heap:=s.heap.push { cls:= .type "range",data:= .fields #[.int lo t,.int hi u,.int 1 v] },toks:=tk }:=by
 refine wpAny_pyIter_range (IsRange.new ..) (small_one h1 h2 S Z) ?_;have B:aw X π σ H { s with heap:=s.heap.push { cls:= .type "range",data:= .fields #[.int lo t,.int hi u,.int 1 v] },toks:=tk }:=I.kept λb o e=>ybz _ e;refine⟨(s.heap.push { cls:= .type "range",data:= .fields #[.int lo t,.int hi u,.int 1 v] }).objs.size,[(s.heap.push { cls:= .type "range",data:= .fields #[.int lo t,.int hi u,.int 1 v] }).objs.size],_,_,H,rfl,
  B.kept (t':=tk) λb o e=>ybz _ e,pM _ lo (hi-lo).toNat,?_,λb hb=>?_,q⟩
 ·have L:lo+((0:Nat):Int)*1=lo:=by simp
  have Y:(((hi-lo).toNat:Nat):Int)- ((0:Nat):Int)=Builtin.Range.rangeSize lo hi 1:=by rw[rangeSize_one];split<;> lia
  show IsRangeIter _ _ (lo+((0:Nat):Int)*1) ((((hi-lo).toNat:Nat):Int)- ((0:Nat):Int)) 1;rw[L,Y];exact ybw _ rfl
 ·have e:b=(s.heap.push { cls:= .type "range",data:= .fields #[.int lo t,.int hi u,.int 1 v] }).objs.size:=by simpa using hb
  subst e;exact B.fpOk (ycx _) (B.hok.fresh (ycx _))
def Gr (ta:TA):TI:=λσ H R=>ta σ H λvs H1=>∃j:Int,vs=[.int j]/\-(2^62)<=j/\j<2^62/\R (Kj 0 j.toNat) H1
theorem uQ {a:Expr} {ta:TA} {p pos:Pos} (L:Gl X "range") (hm:X.mg "range"=none) (S:PA X [a] ta) (Z:starEach [a] X.env=[(false,eval a X.env)]:=by rfl):PI X tg (.Call (.Name "range" p) [a] [] pos) (Gr ta):=by
 intro π s σ H R I h;refine Call_ (ig I L hm boot_range (PyProof.Rows.callWith_type1 (bE (S pos π s σ H _ I h) λus s1 z9=>?_) Z rfl));obtain⟨vs,H1,I1,Y,B⟩:=z9;obtain⟨j,e,B,q2,q⟩:=B;subst e;cases Y with
 | cons r rr=>
   cases rr;obtain⟨t,rfl⟩:=r;exact call_range_1 (wt I1 (by lia) (by lia) B q2 (by simpa using q))
def KG (wi:TI) (g:TG) (tb:TS):TS:=λD σ H=>wi σ H λJ H1=>∃W:Nat->Nat->St->Hp->Prop,(∃m,W 0 m σ H1)/\∀i m σ H,W i m σ H->
 (J.stop i H/\D.nx σ H)∨(J.go i H/\∃N:St->Hp->Prop,(∀σ' H',N σ' H'->∃m',m'<m/\W (i+1) m' σ' H')/\∀x H',J.yld i H x H'->g x σ H' λσ2 H2=>tb { D with nx:=N,ct:=N,bk:=D.nx } σ2 H2)
noncomputable def jn (fp:List Addr) (h:Heap):List (Addr×Obj):=fp.filterMap λb=>(h.get? b).map λo=>(b,o)
theorem dq (hb:b∈fp) (e:h.get? b=some o):(b,o)∈jn fp h:=List.mem_filterMap.mpr ⟨b,hb,by rw[e];rfl⟩
theorem uR (B:p∈jn fp h):p.1∈fp/\h.get? p.1=some p.2:=by
 obtain⟨b,hb,e⟩:=List.mem_filterMap.mp B;cases q:h.get? b with
 | none=>rw[q] at e;cases e
 | some o=>
   rw[q] at e;have L:(b,o)=p:=Option.some.inj e;subst L;exact⟨hb,q⟩
theorem aw.pinned (I:aw X π σ H s) (S:∀b∈fp,iX X π H b) (Y:∀b∈fp,∃o,s.heap.get? b=some o/\∀v,o.data≠ .cell v):aw X (π++jn fp s.heap) σ H s:=
 I.pins_of λp L=>(mem_append.mp L).elim (λz=>I.pin p (yex _ z)) λz=>by
  obtain⟨hb,e⟩:=uR z;obtain⟨f0,f1,Z,_⟩:=S p.1 hb;obtain⟨o,B,d⟩:=Y p.1 hb;rw[e] at B;cases B;exact⟨e,f0,f1,Z,d⟩
theorem aw.unpinned (I:aw X (π++pl) σ H s):aw X π σ H s:=I.pins_of λp B=>I.pin p (yex _ (mem_append_left _ B))
theorem Dz (hp:PassesOwn (model X.prog X.w) X.A X.env X.xe) (hc:X.calm=true) (hi:PI X tg iter wi) (hg:PG X tg g) (hb:nA X body tb)
 (hs:∀x,foldedSetIterable iter X.env x=pure x:=by intro _;rfl):PS X (.For tg iter body [] pos) (KG wi g tb):=by
 intro π s σ H D I h;refine wpAny_For (bE (hi π s σ H _ I h) λv s1 h1=>bE h1 λa2 s2 h2=>?_) hs;obtain⟨it,fp,tn,J,H2,e,I2,T,a1,f2,W,⟨m0,w0⟩,ai⟩:=h2;subst e
 -- what stays true of the iterator's objects through the loop
 have Z:∀{H':Hp},(∀b∈fp,H' b=none)->∀b∈fp,iX X π H' b:=λhn b hb=>⟨hn b hb,(f2 b hb).2⟩;refine codeAny_forLoop_any (λn s'=>∃i S H',aw X π S H' s'/\tn i s'.heap/\(∀b∈fp,H' b=none)/\W i n S H') ?_ m0 ⟨0,σ,H2,I2,a1,λb hb=>(f2 b hb).1,w0⟩;rintro n s3 ⟨i,ab,H3,I3,ar,af,w3⟩;rcases ai i n ab H3 w3 with⟨aj,qn⟩ | ⟨go,N,hN,step⟩
 ·refine wpAny_passesOwn hp (bE (T.done X rfl rfl rfl hc i π s3 ab H3 X.xe I3 (Z af) ar aj) λr s4 z9=>?_);obtain⟨hr,I4⟩:=z9;subst hr;exact wpAny_execs_nil ⟨ab,H3,I4,qn⟩
 ·refine wpAny_passesOwn hp (bE (T.item X rfl rfl rfl hc i π s3 ab H3 X.xe I3 (Z af) ar go) λr s4 z9=>?_);obtain⟨u,hr,h4⟩:=z9;subst hr;refine wpAny_passesOwn hp (bE h4 λ_ s5 z9=>?_);obtain⟨x,H5,I5,r5,y5,ad,az⟩:=z9;have as:=I5.pinned (Z az) (T.obj _ _ ad);refine wpAny_passesOwn hp (bE (hg _ s5 ab H5 x u _ as r5 (step x H5 y5)) λ_ s6 z9=>?_);obtain⟨a0,H6,I6,q6⟩:=z9;refine wpAny_passesOwn hp (bE (hb _ s6 a0 H6 _ I6 q6) λf s7 q7=>?_);have again:∀{B:St} {Y:Hp},aw X (π++jn fp s5.heap) B Y s7->N B Y->∃m,m<n/\∃i S H',aw X π S H' s7/\tn i s7.heap/\(∀b∈fp,H' b=none)/\W i m S H':=λ{B Y} L n7=>by
   obtain⟨m',hm,w7⟩:=hN B Y n7;refine⟨m',hm,i+1,B,Y,L.unpinned,T.keep _ _ _ ad λb hb o e=>(L.pin (b,o) (yex _ (yex _ (dq hb e)))).1,λb hb=>?_,w7⟩;obtain⟨o,e,d⟩:=T.obj _ _ ad b hb;exact(L.pin (b,o) (yex _ (yex _ (dq hb e)))).2.1
  cases f with
  | next=>obtain⟨B,Y,L,n7⟩:=q7;exact again L n7
  | cont=>obtain⟨B,Y,L,n7⟩:=q7;exact again L n7
  | brk=>obtain⟨B,Y,L,q7⟩:=q7;exact⟨B,Y,L.unpinned,q7⟩
  | ret v=>obtain⟨x7,B,Y,L,r7,q7⟩:=q7;exact⟨x7,B,Y,L.unpinned,r7,q7⟩
end
abbrev R2:=V->V->Hp->VK->Prop
def hV (X:Cx) (f:Value->Value->Sem Value) (r:R2):Prop:=
 ∀(π:List (Addr×Obj)) (s:Shared) (σ:St) (H:Hp) (x y:V) (v u:Value) (Q:VK),aw X π σ H s->aT x v->aT y u->r x y H Q->
  wpAny (model X.prog X.w) X.A (f v u) (EP X π σ Q) X.xe s
def KH (X:Cx) (f:Value->Sem Value) (r:V->Hp->VK->Prop):Prop:=
 ∀(π:List (Addr×Obj)) (s:Shared) (σ:St) (H:Hp) (x:V) (v:Value) (Q:VK),aw X π σ H s->aT x v->r x H Q->
  wpAny (model X.prog X.w) X.A (f v) (EP X π σ Q) X.xe s
def eR (X:Cx) (f:Value) (r:List V->Hp->VK->Prop):Prop:=
 ∀(π:List (Addr×Obj)) (s:Shared) (σ:St) (H:Hp) (xs:List V) (us:yez) (Q:VK),aw X π σ H s->aK xs us->r xs H Q->
  wpAny (model X.prog X.w) X.A (call f us) (EP X π σ Q) X.xe s
def Gs (r:R2) (ta tb:TE):TE:=λσ H Q=>ta σ H λx H1=>tb σ H1 λy H2=>r x y H2 Q
def NM (r:V->Hp->VK->Prop) (ta:TE):TE:=λσ H Q=>ta σ H λx H1=>r x H1 Q
def rI (C:Int->Int->Prop) (g:Int->Int->V):R2:=λx y H Q=>∃i j,x=.int i/\y=.int j/\C i j/\Q (g i j) H
def Aa (g:Int->Int->V):R2:=λx y H Q=>∃i j,x=.int i/\y=.int j/\Q (g i j) H
def rU (g:Int->V):V->Hp->VK->Prop:=λx H Q=>∃i,x=.int i/\Q (g i) H
section
variable {a b c:Expr} {ta tb tc:TE}
theorem DA (Z:PE X a ta) (hb:PE X b tb) {R:V->V->Hp->Prop} (I:aw X π σ H s)
 (h:ta σ H λx H1=>tb σ H1 λy H2=>R x y H2) {Q:yey} {f:Value->Value->Sem Value}
 (Y:∀v u s2 x y H2,aw X π σ H2 s2->aT x v->aT y u->R x y H2->wpAny (model X.prog X.w) X.A (f v u) Q X.xe s2):
 wpAny (model X.prog X.w) X.A (eval a X.env) (λv L=>wpAny (model X.prog X.w) X.A (eval b X.env) (λu B=>wpAny (model X.prog X.w) X.A (f v u) Q X.xe B) X.xe L) X.xe s:=by
 refine bE (Z π s σ H _ I h) λv s1 z9=>?_;obtain⟨x,H1,I1,r1,q1⟩:=z9;refine bE (hb π s1 σ H1 _ I1 q1) λu s2 z9=>?_;obtain⟨y,H2,S,r2,q2⟩:=z9;exact Y v u s2 x y H2 S r1 r2 q2
theorem Gu (Y:hV X (binaryOp op) r) (S:PE X a ta) (hb:PE X b tb):PE X (.BinOp a op b pos) (Gs r ta tb):=by
 intro π s σ H Q I h;exact wpAny_BinOp (DA S hb I h λv u s2 x y H2 B rx L q=>Y π s2 σ H2 x y v u Q B rx L q)
theorem Gv (B:KH X (unaryOp op) r) (S:PE X a ta):PE X (.UnaryOp op a pos) (NM r ta):=by
 intro π s σ H Q I h;exact UnaryOp_ (bE (S π s σ H _ I h) λv L z9=>(by obtain⟨x,H1,Y,Z,q1⟩:=z9;exact B π L σ H1 x v Q Y Z q1))
theorem Gw {f:Value->Value->Sem Value} {C:Int->Int->Prop} {g:Int->Int->Int}
 (rule:∀(i j:Int) (t u:Tok) (s:Shared) (Q:yey) (E:yey),C i j->Q (.int (g i j) s.toks) { s with toks:=s.toks+1 }->wpAny (model X.prog X.w) X.A (f (.int i t) (.int j u)) Q E s):
 hV X f (rI C λi j=> .int (g i j)):=by
 intro π s σ H x y v u Q I rx B h;obtain⟨i,j,rfl,rfl,L,q⟩:=h;obtain⟨t,rfl⟩:=rx;obtain⟨t',rfl⟩:=B;exact rule i j t t' s _ _ L ⟨.int (g i j),H,I.tok _,⟨_,rfl⟩,q⟩
theorem Gx {f:Value->Value->Sem Value} {g:Int->Int->Int}
 (rule:∀(i j:Int) (t u:Tok) (s:Shared) (Q:yey) (E:yey),Q (.int (g i j) s.toks) { s with toks:=s.toks+1 }->wpAny (model X.prog X.w) X.A (f (.int i t) (.int j u)) Q E s):
 hV X f (Aa λi j=> .int (g i j)):=by
 intro π s σ H x y v u Q I rx B h;obtain⟨i,j,rfl,rfl,q⟩:=h;obtain⟨t,rfl⟩:=rx;obtain⟨t',rfl⟩:=B;exact rule i j t t' s _ _ ⟨.int (g i j),H,I.tok _,⟨_,rfl⟩,q⟩
theorem Ab {f:Value->Value->Sem Value} {g:Int->Int->Bool}
 (rule:∀(i j:Int) (t u:Tok) (s:Shared) (Q:yey) (E:yey),Q (.bool (g i j)) s->wpAny (model X.prog X.w) X.A (f (.int i t) (.int j u)) Q E s):
 hV X f (Aa λi j=> .bl (g i j)):=by
 intro π s σ H x y v u Q I rx B h;obtain⟨i,j,rfl,rfl,q⟩:=h;obtain⟨t,rfl⟩:=rx;obtain⟨t',rfl⟩:=B;exact rule i j t t' s _ _ ⟨.bl (g i j),H,I,rfl,q⟩
def Gy (i j:Int):Prop:=0<j/\j<1073741824
def DB (i j:Int):Prop:=0<=j/\j<=1000000/\i.natAbs<2^64
def Ac (i j:Int):Prop:=(-(2^64)<i/\i<2^64)∨(-(2^64)<j/\j<2^64)
theorem Ac.ok {i j:Int} (h:Ac i j):IntMulOk i j:=by
 rcases h with⟨h1,h2⟩ | ⟨h1,h2⟩
 ·exact .of_left (intBits_le_64 h1 h2)
 ·exact .of_right (intBits_le_64 h1 h2)
theorem pN (k:Nat):(0:Int)<=2^k:=by
 rw[two_pow_cast];exact Int.natCast_nonneg _
theorem DC:hV X (binaryOp .Add) (Aa λi j=> .int (i+j)):=Gx λ_ _ _ _ _ _ _ q=>add_int q
theorem DD:hV X (binaryOp .Sub) (Aa λi j=> .int (i-j)):=Gx λ_ _ _ _ _ _ _ q=>sub_int q
theorem DE:hV X (binaryOp .Mod) (rI (λ_ j=>0<j) λi j=> .int (i%j)):=Gw λi j _ _ _ _ _ B q=>by
 have h1:(0:Int)<j:=B;exact mod_int' (by lia) (by rw[Int.fmod_eq_emod_of_nonneg i (by lia)];exact q)
theorem DF:hV X (binaryOp .RShift) (rI (λ_ j=>0<=j) λi j=> .int (i/2^j.toNat)):=Gw λi j _ _ _ _ _ B q=>
 rshift_int B (by rw[Int.fdiv_eq_ediv_of_nonneg i (pN _)];exact q)
theorem NO {f:Value->Sem Value} {g:Int->Int}
 (rule:∀(i:Int) (t:Tok) (s:Shared) (Q:yey) (E:yey),Q (.int (g i) s.toks) { s with toks:=s.toks+1 }->wpAny (model X.prog X.w) X.A (f (.int i t)) Q E s):
 KH X f (rU λi=> .int (g i)):=by
 intro π s σ H x v Q I rx h;obtain⟨i,rfl,q⟩:=h;obtain⟨t,rfl⟩:=rx;exact rule i t s _ _ ⟨.int (g i),H,I.tok _,⟨_,rfl⟩,q⟩
theorem DG:KH X (unaryOp .USub) (rU λi=> .int (-i)):=NO λ_ _ _ _ _ q=>neg_int q
end
section
variable {a b c:Expr} {ta tb tc:TE}
theorem DH {σ:St} {H:Hp} {Q:VK} {k B:Bool} (I:aw X π σ H s) (q:Q (.bl k) H) (e:k=B):EP X π σ Q (.bool B) s:=by
 subst e;exact⟨.bl k,H,I,rfl,q⟩
theorem Gz:hV X (compareOp .Lt) (Aa λi j=> .bl (decide (i<j))):=Ab λ_ _ _ _ _ _ _ q=>lt_int q
theorem GF:hV X (compareOp .LtE) (Aa λi j=> .bl (decide (i<=j))):=Ab λ_ _ _ _ _ _ _ q=>le_int q
theorem GG:hV X (compareOp .Gt) (Aa λi j=> .bl (decide (j<i))):=Ab λ_ _ _ _ _ _ _ q=>gt_int q
theorem GH:hV X (compareOp .GtE) (Aa λi j=> .bl (decide (j<=i))):=Ab λ_ _ _ _ _ _ _ q=>ge_int q
theorem DI:hV X (compareOp .Is) (λx y H Q=>y=.non/\Q (.bl (decide (x=.non))) H):=by
 intro π s σ H x y v u Q I rx B h;obtain⟨rfl,q⟩:=h;cases B;refine is_none_gen (DH I q ?_);cases x<;> first
  | (cases rx;rfl)
  | (obtain⟨t,rfl⟩:=rx;rfl)
theorem bZ (b:Expr) (h:op≠ .In:=by decide) (h2:op≠ .NotIn:=by decide):behindInMarks op b=false:=by
 have B:(op==CmpOp.In)=false:=by cases op<;> first | rfl | exact absurd rfl h
 have L:(op==CmpOp.NotIn)=false:=by cases op<;> first | rfl | exact absurd rfl h2
 cases b<;> simp[behindInMarks,B,L]
theorem Ad (Y:hV X (compareOp op) r) (S:PE X a ta) (hb:PE X b tb) (Z:behindInMarks op b=false):PE X (.Compare a [op] [b] pos) (Gs r ta tb):=by
 intro π s σ H Q I h;exact wpAny_Compare1 (DA S hb I h λv u s2 x y H2 B rx L q=>Y π s2 σ H2 x y v u Q B rx L q) Z
def wu (t:TE):TT:=λσ H Q=>t σ H λx H'=>∃k,x=.bl k/\Q k H'
theorem Ae (ho:hV X (compareOp op) r) (Z:PE X a ta) (hb:PE X b tb) (hm:behindInMarks op b=false):PT X (.Compare a [op] [b] pos) (wu (Gs r ta tb)):=by
 intro π s σ H Q I h;refine wpAny_isTrue_Compare1 (bE (Z π s σ H _ I h) λv s1 ⟨x,H1,I1,r1,q1⟩=>bE (hb π s1 σ H1 _ I1 q1) λu s2 ⟨y,H2,B,r2,q2⟩=>
  bE (ho π s2 σ H2 x y v u _ B r1 r2 q2) λc s3 z9=>?_) hm;obtain⟨z,Y,L,S,k,e,q3⟩:=z9
 subst e;cases S;exact wpAny_truthy_bool ⟨Y,L,q3⟩
def pO (r r':R2) (ta tb tc:TE):TE:=λσ H Q=>ta σ H λx H1=>tb σ H1 λy H2=>r x y H2 λz H3=>∃k,z=.bl k/\
 (if k=true then tc σ H3 λw' H4=>r' y w' H4 Q else Q (.bl false) H3)
theorem wv (ho:hV X (compareOp op) r) (L:hV X (compareOp B) r') (ha:PE X a ta) (hb:PE X b tb) (hc:PE X c tc)
 (hm:lastMarks [op,B] [b,c]=false:=by with_unfolding_all rfl):PE X (.Compare a [op,B] [b,c] pos) (pO r r' ta tb tc):=by
 intro π s σ H Q I h;refine Compare_chain (bE (ha π s σ H _ I h) λv s1 ⟨x,H1,I1,r1,q1⟩=>chain_link (bE (hb π s1 σ H1 _ I1 q1) λu s2 ⟨y,H2,I2,r2,q2⟩=>
  bE (ho π s2 σ H2 x y v u _ I2 r1 r2 q2) λd s3 z9=>?_)) hm;obtain⟨z,Z,Y,r3,k,e,S⟩:=z9
 subst e;cases r3;refine wpAny_truthy_bool ?_;cases k with
 | false=>exact ite_ff ⟨.bl false,Z,Y,rfl,S⟩
 | true=>exact ite_tt (chain_last (bE (hc π s3 σ Z _ Y S) λw' s4 z9=>(by obtain⟨z',H4,I4,r4,q4⟩:=z9;exact L π s4 σ H4 y z' u w' Q I4 r2 r4 q4)))
theorem ww (ho:hV X (compareOp op) r) (L:hV X (compareOp B) r') (ha:PE X a ta) (hb:PE X b tb) (hc:PE X c tc)
 (hm:lastMarks [op,B] [b,c]=false:=by with_unfolding_all rfl):PT X (.Compare a [op,B] [b,c] pos) (wu (pO r r' ta tb tc)):=by
 intro π s σ H Q I h;refine isTrue_chain (bE (ha π s σ H _ I h) λv s1 ⟨x,H1,I1,r1,q1⟩=>test_link (bE (hb π s1 σ H1 _ I1 q1) λu s2 ⟨y,H2,I2,r2,q2⟩=>
  bE (ho π s2 σ H2 x y v u _ I2 r1 r2 q2) λd s3 z9=>?_)) hm;obtain⟨z,Z,Y,r3,k,e,S⟩:=z9
 subst e;cases r3;refine wpAny_truthy_bool ?_;cases k with
 | false=>
   obtain⟨k',e',q'⟩:=S;cases e';exact ite_ff ⟨Z,Y,q'⟩
 | true=>
   refine ite_tt (test_last (bE (hc π s3 σ Z _ Y S) λw' s4 ⟨z',H4,I4,r4,q4⟩=>bE (L π s4 σ H4 y z' u w' _ I4 r2 r4 q4) λd' s5 z9=>?_));obtain⟨z2,H5,I5,r5,k2,e2,q5⟩:=z9;subst e2;cases r5;exact wpAny_truthy_bool ⟨H5,I5,q5⟩
theorem jo:(sizeLine:Nat)<2^63:=by rw[sizeLine_eq];decide
theorem pP:hV X (binaryOp .Add) (λx y H Q=>∃i j,x=.str i/\y=.str j/\i.length+j.length<=sizeLine/\Q (.str (i++j)) H):=by
 intro π s σ H x y v u Q I rx L h;obtain⟨i,j,rfl,rfl,B,q⟩:=h;obtain⟨t,rfl⟩:=rx;obtain⟨t',rfl⟩:=L;exact add_str (λt' tk=>⟨.str (i++j),H,I.tok _,⟨_,rfl⟩,q⟩) B
theorem cC {x:V} (r:aK [x] us):∃u,us=[u]/\aT x u:=by
 cases r with
 | cons L B=>cases B;exact⟨_,rfl,L⟩
theorem wz {x y:V} (r:aK [x,y] us):∃u w',us=[u,w']/\aT x u/\aT y w':=by
 cases r with
 | cons Y S=>
   cases S with
   | cons B L=>cases L;exact⟨_,_,rfl,Y,B⟩
theorem uS (B:X.calm=true):eR X (.builtin "max") (λxs H Q=>∃i j,xs=[.int i,.int j]/\Q (.int (if j > i then j else i)) H):=by
 intro π s σ H xs us Q I r h;obtain⟨i,j,rfl,q⟩:=h;obtain⟨u,L,rfl,⟨t,rfl⟩,⟨t',rfl⟩⟩:=wz r;refine max_two_ints (I.ok.hd B) λh' tk k=>⟨_,H,I.kept k,?_,q⟩
 by_cases hj:j > i
 ·rw[ycv hj,ycv hj];exact⟨_,rfl⟩
 ·rw[ycw hj,ycw hj];exact⟨_,rfl⟩
theorem kF:eR X (.type "int") (λxs H Q=>(∃i,xs=[.int i]/\Q (.int i) H)∨∃k,xs=[.bl k]/\Q (.int (if k then 1 else 0)) H):=by
 intro π s σ H xs us Q I r h;rcases h with⟨i,rfl,q⟩ | ⟨k,rfl,q⟩
 ·obtain⟨u,rfl,t,rfl⟩:=cC r;exact call_int_int ⟨.int i,H,I,⟨_,rfl⟩,q⟩
 ·obtain⟨u,rfl,B⟩:=cC r;cases B;exact call_int_bool ⟨.int (if k then 1 else 0),H,I.tok _,⟨_,rfl⟩,q⟩
end
structure pQ (h:Heap) (x dx C:Addr) (mA:yew):Prop where
 obj:h.get? x=some (instObj C dx)
 ns:h.Ns1 dx mA
 ne:dx≠x
theorem uT {h:Heap} {dx:Addr} {mA:yew} (n:h.Ns1 dx mA):∃od,h.get? dx=some od/\∀name,lookIn name od=some (mA name):=by
 obtain⟨o,es,ep,Z,Y,S,_,hm⟩:=n;refine⟨o,Z,λname=>?_⟩;have e:=hm name;unfold nsFind findBy at e;rw[←Array.find?_toList] at e;unfold lookIn;rw[Y];dsimp only;split
 ·rename_i y q;rw[q] at e;exact congrArg some e
 ·rename_i q;rw[q] at e;have a:es.toList.any (·.refKey)=false:=by
   rw[List.any_eq_false];intro y L;obtain⟨z,t,B⟩:=S y (Array.mem_toList_iff.mp L);simp[DictEntry.refKey,B]
  have a':¬es.toList.any (·.refKey)=true:=by rw[a];exact ydx
  rw[ycw a'];exact congrArg some e
theorem pQ.look {x dx:Addr} {mA:yew} (I:pQ h x dx C mA):∃od,PySem.W.InstAt h x (instObj C dx) C (some od)/\∀name,lookIn name od=some (mA name):=
 let ⟨od,ho,hl⟩:=uT I.ns
 ⟨od,⟨I.obj,rfl,rfl,ho⟩,hl⟩
section
variable {x dx C f:Addr} {mA:yew} {name:Str} {v:Value}
theorem Af (X:K.In s.heap) (I:pQ s.heap x dx C mA) (S:plainGet K C name=true) (Y:PySem.W.hasDictIn K C=true)
 (ha:findIn K (.ref C) name=some none) (Z:mA name=some v) (L:PySem.W.handedIn v=true) (h:Q v { s with toks:=s.toks+1 }):
 wpAny (model prog w) A (getAttr (.ref x) name B) Q E s:=by
 obtain⟨od,J,hl⟩:=I.look;exact PySem.W.get_value X J (PySem.W.plainGet_of S).1 (PySem.W.findObj_own Y ha rfl (by rw[hl,Z])) L h
theorem wA {pl:Sem Bool} {Q:Value×List Value->Shared->Prop} (X:K.In s.heap) (I:pQ s.heap x dx C mA) (B:plainGet K C name=true)
 (L:findIn K (.ref C) name=some (some (.ref f))) (Y:isFn K (.ref f)=true) (S:mA name=none) (h:Q (.ref f,[.ref x]) s):
 wpAny (model prog w) A (getMethod (.ref x) name pl) Q E s:=by
 obtain⟨od,J,Z⟩:=I.look;exact PySem.W.method_fn X J (PySem.W.plainGet_of B).1 (PySem.W.plainGet_of B).2 L (beq_iff_eq.mp Y) (by show(lookIn name od).map (·.isSome)=some false;rw[Z,S];rfl) h
theorem Ag {ns:List Str} {Q:Unit->Shared->Prop} (X:K.In s.heap) (I:pQ s.heap x dx C mA)
 (hs:findIn K (.ref C) "__setattr__"=some (some (.builtin "object.__setattr__"))) (hp:PySem.W.plainOver K C=true) (ht:PySem.W.takerIn K C name=some none) (hh:PySem.W.hasDictIn K C=true)
 (hw:PySem.Within mA ns) (hsz:ns.length<=sizeLine)
 (h:∀h',pQ h' x dx C (λy=>if y=name then some v else mA y)->Heap.SameBut dx s.heap h'->Q () { s with heap:=h',toks:=s.toks+2 }):
 wpAny (model prog w) A (setAttr (.ref x) name v) Q E s:=by
 obtain⟨od,J,hl⟩:=I.look;refine PySem.W.set_plain X J hs (PySem.W.osa_open (s:={ s with toks:=s.toks+1 }) (r:=none) X J hp ht λb=>?_);obtain⟨cd,hc,Y⟩:=PySem.W.any_some hh;have hx:s.heap.get? x=some ⟨.ref C,some dx,.plain,#[]⟩:=I.obj;refine wax (wpAny_pure (wax (wax (wpAny_loadPart hx (wax (PySem.W.Looks.here (s:={ s with toks:=s.toks+1 }) (PySem.W.looks_clsIn X hc) ?_))))));rw[Y];refine wpAny_pure (a:=some dx) (wax (wpAny_pure (wax ?_)));refine wpAny_nsSet1 (s:={ s with toks:=s.toks+1 }) I.ns λh' L B=>?_;obtain⟨oD,af,ad,Z,S,ab⟩:=L.count (PySem.Within.cons name v hw);refine wax (wpAny_lookBehind Z (by rw[S];exact pastItsLine_dict (ycy ab (by rw[length_cons];lia))) ?_);exact wpAny_pure (h _ ⟨(B.2 _ (Ne.symm I.ne)).trans I.obj,L,I.ne⟩ B)
theorem wB (X:K.In s.heap) (L:PySem.W.makesIn K C=true)
 (hi:findIn K (.ref C) "__init__"=some (some (.ref f))) (B:PySem.W.typeIn K (.ref f)=some (.type "function"))
 (h:codeAny (model prog w) (A.under (.builtin "type.__call__" ⟨.ref C::vs,kw⟩)) (.call (.ref f) ⟨.ref (s.heap.objs.size+1)::vs,kw⟩) (PySem.W.InitBack (s.heap.objs.size+1) R)
   { s with heap:=(s.heap.push emptyDict).push (instObj C s.heap.objs.size) }):
 codeAny (model prog w) A (.call (.ref C) ⟨vs,kw⟩) R s:=by
 obtain⟨S,g,d,t,os⟩:=s;exact PySem.W.make_core (PySem.W.makes_of X L) (looks_findIn X hi) (λself=>PySem.W.bind_fn X self B) (.inl rfl) h
end
noncomputable def dS (f:Str) (v:V):List (Str×V)->List (Str×V)
 | []=>[(f,v)]
 | (g,x)::r=>if g=f then (g,v)::r else (g,x)::dS f v r
theorem iI (f g:Str) (v:V):∀fs:List (Str×V),(dS f v fs).lookup g=if g=f then some v else fs.lookup g
 | []=>by
   show List.lookup g [(f,v)]=_
   by_cases h:g=f
   ·have hb:(g==f)=true:=beq_iff_eq.mpr h;simp only[List.lookup,hb,ycv h]
   ·have hb:(g==f)=false:=beq_eq_false_iff_ne.mpr h;simp only[List.lookup,hb,ycw h]
 | (k,x)::r=>by
   have ih:=iI f g v r;rw[show dS f v ((k,x)::r)=(if k=f then (k,v)::r else (k,x)::dS f v r) from rfl]
   by_cases hk:k=f
   ·rw[ycv hk]
    by_cases h:g=k
    ·have hb:(g==k)=true:=beq_iff_eq.mpr h;simp only[List.lookup,hb,ycv (h.trans hk)]
    ·have hb:(g==k)=false:=beq_eq_false_iff_ne.mpr h;simp only[List.lookup,hb,ycw (λe:g=f=>h (e.trans hk.symm))]
   ·rw[ycw hk]
    by_cases h:g=k
    ·have hb:(g==k)=true:=beq_iff_eq.mpr h;simp only[List.lookup,hb,ycw (λe:g=f=>hk (h.symm.trans e))]
    ·have hb:(g==k)=false:=beq_eq_false_iff_ne.mpr h;simp only[List.lookup,hb];exact ih
theorem ii (f:Str) (v:V):∀fs:List (Str×V),f∈(dS f v fs).map (·.1)/\∀g,g∈fs.map (·.1)->g∈(dS f v fs).map (·.1)
 | []=>⟨by simp[dS],λg h=>by simp at h⟩
 | (k,x)::r=>by
   obtain⟨B,L⟩:=ii f v r;rw[show dS f v ((k,x)::r)=(if k=f then (k,v)::r else (k,x)::dS f v r) from rfl]
   by_cases hk:k=f
   ·rw[ycv hk];subst hk;exact⟨by simp,λg h=>by simpa using h⟩
   ·rw[ycw hk];refine⟨?_,λg h=>?_⟩
    ·rw[map_cons];exact ybx _ B
    ·rw[map_cons] at h ⊢;rcases mem_cons.mp h with e | e
     ·exact mem_cons.mpr (.inl e)
     ·exact ybx _ (L g e)
theorem iJ (f:Str) (v:V):∀fs:List (Str×V),(dS f v fs).length<=fs.length+1
 | []=>by simp[dS]
 | (k,x)::r=>by
   have ih:=iJ f v r;rw[show dS f v ((k,x)::r)=(if k=f then (k,v)::r else (k,x)::dS f v r) from rfl]
   by_cases hk:k=f
   ·rw[ycv hk,length_cons,length_cons];lia
   ·rw[ycw hk,length_cons,length_cons];lia
theorem fH.some_of (r:fH (some v) o):∃u,o=some u/\aT v u:=by
 cases o with
 | none=>exact(show False from r).elim
 | some u=>exact⟨u,rfl,r⟩
theorem fH.none_of (r:fH none o):o=none:=by
 cases o with
 | none=>rfl
 | some u=>exact(show False from r).elim
theorem uU (r:aT v u):PySem.W.handedIn u=true:=by
 cases v with
 | non=>cases (show u=Value.none from r);rfl
 | bl b=>cases (show u=Value.bool b from r);rfl
 | int i=>obtain⟨t,e⟩:=(show ∃t,u=Value.int i t from r);cases e;rfl
 | str x=>obtain⟨t,e⟩:=(show ∃t,u=Value.str x t from r);cases e;rfl
 | byt b=>obtain⟨t,e⟩:=(show ∃t,u=Value.bytes b t from r);cases e;rfl
 | flt b=>obtain⟨t,e⟩:=(show ∃t,u=Value.float b t from r);cases e;rfl
 | ref a=>cases (show u=Value.ref a from r);rfl
 | ty n=>cases (show u=Value.type n from r);rfl
section
variable {H':Hp} {h h':Heap} {C dx:Addr} {fs fs':List (Str×V)}
theorem iZ (B:gE P w H h) (e:H a=some (.ins C dx fs)):∃mA,pQ h a dx C mA/\(∀f,fH (fs.lookup f) (mA f))/\PySem.Within mA (fs.map (·.1))/\fs.length<=1000/\H dx=some (.own a):=by
 obtain⟨d,z,ne,L,mA,n,r,q⟩:=(show bH P w H h a (.ins C dx fs) from B a _ e);exact⟨mA,⟨L,n,ne⟩,r,q,z,d⟩
end
structure kn (K:yav) (C:Addr):Prop where
 pg:plainGet K C Str.empty=true
 hd:PySem.W.hasDictIn K C=true
 po:PySem.W.plainOver K C=true
 sa:findIn K (.ref C) "__setattr__"=some (some (.builtin "object.__setattr__"))
theorem kn.get (c:kn K C) (f:Str):plainGet K C f=true:=c.pg
def NoAttr (K:yav) (C:Addr) (f:Str):Prop:=findIn K (.ref C) f=some none
theorem NoAttr.taker (n:NoAttr K C f):PySem.W.takerIn K C f=some none:=by
 unfold PySem.W.takerIn;rw[show findIn K (.ref C) f=some none from n]
 rfl
structure OJ (K:yav) (C:Addr) (f:Str) (v:V) (u:Value):Prop where
 at_:findIn K (.ref C) f=some (some u)
 rel:aT v u
 get:PySem.W.specialIn K u "__get__"=some none
 cp:PySem.W.copiedNames.contains f=false
structure uV (K:yav) (C:Addr) (m:Str) (f:Addr):Prop where
 at_:findIn K (.ref C) m=some (some (.ref f))
 fn:isFn K (.ref f)=true
 kp:keepIn K (.ref f)=true
section
variable {C dx:Addr} {fs:List (Str×V)} {f:Str} {v:V}
theorem pR (I:aw X π σ H s) (e:H a=some (.ins C dx fs)) (c:kn X.K C) (n:NoAttr X.K C f) (l:fs.lookup f=some v)
 (h:∀u s',aw X π σ H s'->aT v u->Q u s'):wpAny (model X.prog X.w) A (getAttr (.ref a) f b) Q E s:=by
 obtain⟨mA,O,r,_,_,_⟩:=iZ I.hok e;obtain⟨u,L,B⟩:=fH.some_of (v:=v) (o:=mA f) (by rw[←l];exact r f);exact Af I.kIn O (c.get f) c.hd n L (uU B) (h u _ (I.tok _) B)
theorem fU {g:Addr} {pl:Sem Bool} {Q:Value×List Value->Shared->Prop} (I:aw X π σ H s) (e:H a=some (.ins C dx fs)) (c:kn X.K C) (k:uV X.K C m g) (l:fs.lookup m=none)
 (h:Q (.ref g,[.ref a]) s):wpAny (model X.prog X.w) A (getMethod (.ref a) m pl) Q E s:=by
 obtain⟨mA,O,r,_,_,_⟩:=iZ I.hok e;have B:mA m=none:=fH.none_of (by rw[←l];exact r m);exact wA I.kIn O (c.get m) k.at_ k.fn B h
theorem pS {Q:Unit->Shared->Prop} (I:aw X π σ H s) (e:H a=some (.ins C dx fs)) (c:kn X.K C) (n:NoAttr X.K C f) (hl:fs.length<1000) (ry:aT y u)
 (h:∀s',aw X π σ (upd H a (.ins C dx (dS f y fs))) s'->Q () s'):wpAny (model X.prog X.w) A (setAttr (.ref a) f u) Q E s:=by
 obtain⟨mA,O,r,L,_,S⟩:=iZ I.hok e;have hz:(fs.map (·.1)).length<=sizeLine:=by rw[length_map,sizeLine_eq];lia
 refine Ag I.kIn O c.sa c.po n.taker c.hd L hz λh' B Z=>h _ ?_;have hd:∃o,h'.get? dx=some o:=let ⟨o,_,_,e',_⟩:=B.ns;⟨o,e'⟩;refine I.write (x:=a) (e:=dx) (by rw[e];exact True.intro) (.inr S) (λb q hb z=>(Z.2 b hb).trans z) hd ?_;refine⟨by rw[ax O.ne];exact S,?_,O.ne,B.obj,_,B.ns,λg=>?_,λg Y=>?_⟩
 ·have:=iJ f y fs;lia
 ·show fH ((dS f y fs).lookup g) (if g=f then some u else mA g);rw[iI]
  by_cases q:g=f
  ·rw[ycv q,ycv q];exact ry
  ·rw[ycw q,ycw q];exact r g
 ·by_cases q:g=f
  ·rw[q];exact(ii f y fs).1
  ·refine(ii f y fs).2 g (L g λz=>Y ?_);show(if g=f then some u else mA g)=none;rw[ycw q];exact z
theorem aw.made (I:aw X π σ H s):aw X π σ (upd (upd H s.heap.objs.size (.own (s.heap.objs.size+1))) (s.heap.objs.size+1) (.ins C s.heap.objs.size []))
 { s with heap:=(s.heap.push emptyDict).push (instObj C s.heap.objs.size) }:=by
 have B:(s.heap.push emptyDict).get? s.heap.objs.size=some emptyDict:=ybw s.heap rfl;have L:((s.heap.push emptyDict).push (instObj C s.heap.objs.size)).get? (s.heap.objs.size+1)=some (instObj C s.heap.objs.size):=by
  have:=ybw (s.heap.push emptyDict) (o:=instObj C s.heap.objs.size) rfl
  rwa [Heap.size_push] at this
 have Y:(s.heap.push emptyDict).Ns s.heap.objs.size (λ_=>none):=⟨emptyDict,#[],_,B,rfl,(λe S=>absurd S (by simp)),λ_=>rfl⟩;have Z:=I.laid (a:=s.heap.objs.size) (o:= .own (s.heap.objs.size+1)) (h':=s.heap.push emptyDict) (t':=s.toks) (λb u q=>ybz _ q) (ycx _) ⟨_,B⟩;refine Z.laid (a:=s.heap.objs.size+1) (o:= .ins C s.heap.objs.size []) (t':=s.toks) (λb u q=>ybz _ q) (Nat.le_of_eq (Heap.size_push _ _)) ?_;have ne:s.heap.objs.size≠s.heap.objs.size+1:=ne_of_lt (lt_succ_self _);refine⟨by rw[ax ne,aY],zero_le _,ne,L,λ_=>none,(Heap.Ns1.of_empty Y).at λo q=>ybz _ q,λ_=>True.intro,λy hy=>absurd rfl hy⟩
theorem Ah (hb:attributeBase e f env (eval e env)=eval e env)
 (h:wpAny (model prog w) A (eval e env) (λo B=>wpAny (model prog w) A (getAttr o f true) Q E B) E s):wpAny (model prog w) A (eval (.Attribute e f pos) env) Q E s:=
 Attribute_any_ h (by rw[arm_eval_Attribute,hb])
end
def KI (K:yav) (ta:TE) (f:Str):TE:=λσ H Q=>ta σ H λx H1=>∃a C dx fs v,x=.ref a/\H1 a=some (.ins C dx fs)/\kn K C/\NoAttr K C f/\fs.lookup f=some v/\Q v H1
def KJ (K:yav) (ta tv:TE) (f:Str):TS:=λD σ H=>tv σ H λy H1=>ta σ H1 λx H2=>∃a C dx fs,x=.ref a/\H2 a=some (.ins C dx fs)/\kn K C/\NoAttr K C f/\fs.length<1000/\
 D.nx σ (upd H2 a (.ins C dx (dS f y fs)))
section
variable {o value:Expr} {f:Str} {pos' tpos:Pos} {ta tv:TE}
theorem DJ (Z:PE X e ta) (hb:attributeBase e f X.env (eval e X.env)=eval e X.env):PE X (.Attribute e f pos) (KI X.K ta f):=by
 intro π s σ H Q I h;refine Ah hb (bE (Z π s σ H _ I h) λu s1 z9=>?_);obtain⟨x,H1,S,rx,a,C,dx,fs,v,ex,B,c,n,l,q⟩:=z9;subst ex;obtain rfl:u=Value.ref a:=rx;exact pR S B c n l λu' s2 Y L=>⟨v,H1,Y,L,q⟩
theorem DK (ha:PE X o ta) (B:PE X value tv) (S:swapsWith value (some (.Attribute o f pos')) pos.line X.env=pure false):PS X (.Assign [.Attribute o f pos'] value pos) (KJ X.K ta tv f):=by
 intro π s σ H D I h;refine plainObj_wpAny_Assign_Attribute (bE (B π s σ H _ I h) λu s1 ⟨y,H1,Z,ry,q⟩=>bE (ha π s1 σ H1 _ Z q) λov s2 z9=>?_) S;obtain⟨x,H2,I2,rx,a,C,dx,fs,ex,L,c,n,l,Y⟩:=z9;subst ex;obtain rfl:ov=Value.ref a:=rx;exact pS I2 L c n l ry λs3 I3=>⟨σ,_,I3,Y⟩
end
section
variable {c:Value} {b:Bool}
inductive ik (K:yav) (H:Hp):V->Value->Prop where
 | non:ik K H .non (.type "NoneType")
 | bl (x:Bool):ik K H (.bl x) (.type "bool")
 | int (i:Int):ik K H (.int i) (.type "int")
 | str (x:Str):ik K H (.str x) (.type "str")
 | flt (x:UInt64):ik K H (.flt x) (.type "float")
 | lst {a:Addr} {xs:List V} (e:H a=some (.lst xs)):ik K H (.ref a) (.type "list")
 | frz {a:Addr} {o:Obj} {xs:List V} (e:H a=some (.frz o (.lst xs))):ik K H (.ref a) (.type "list")
 | tup {a:Addr} {xs:List V} (e:H a=some (.tup xs)):ik K H (.ref a) (.type "tuple")
 | dK {a:Addr} {kvs:List (aW×V)} (e:H a=some (.dK kvs)):ik K H (.ref a) (.type "dict")
 | dT {a:Addr} {kvs:List (List aW×V)} (e:H a=some (.dT kvs)):ik K H (.ref a) (.type "dict")
 | ins {a C dx:Addr} {fs:List (Str×V)} (e:H a=some (.ins C dx fs)) (cl:kn K C) (ha:findIn K (.ref C) "__class__"=some (some (.builtin "object.__class__")))
    (hn:PySem.W.specialIn K (.builtin "object.__class__") "__get__"=some (some (.builtin "getset_descriptor.__get__"))) (htk:PySem.W.takesIn K (.builtin "object.__class__")=some true)
    (hm:mroIn K C (.type "object")=some true):ik K H (.ref a) (.ref C)
theorem uW {x:V} {u t:Value} (I:aw X π σ H s) (rx:aT x u) (ty:ik X.K H x t) (e:PySem.W.kitOne X.K t c=some b) (h:∀tk,Q (.bool b) { s with toks:=tk }):
 wpAny (model X.prog X.w) A (call (.builtin "isinstance") [u,c]) Q E s:=by
 cases ty with
 | non=>cases (show u=Value.none from rx);exact kia_one PySem.W.kitx_none I.kIn True.intro e (λz=>nomatch z) h
 | bl y=>cases (show u=Value.bool y from rx);exact kia_one PySem.W.kitx_bool I.kIn True.intro e (λz=>nomatch z) h
 | int i=>obtain⟨t,q⟩:=(show ∃t,u=Value.int i t from rx);cases q;exact kia_one PySem.W.kitx_int I.kIn True.intro e (λz=>nomatch z) h
 | str y=>obtain⟨t,q⟩:=(show ∃t,u=Value.str y t from rx);cases q;exact kia_one PySem.W.kitx_str I.kIn True.intro e (λz=>nomatch z) h
 | flt y=>obtain⟨t,q⟩:=(show ∃t,u=Value.float y t from rx);cases q;exact kia_one PySem.W.kitx_float I.kIn True.intro e (λz=>nomatch z) h
 | @lst a xs B=>
   cases (show u=Value.ref a from rx);obtain⟨_,_,n,_,h1⟩:=(show bH X.prog X.w H s.heap a (.lst xs) from I.hok a _ B);exact kia_one PySem.W.kitx_list I.kIn ⟨_,h1,rfl⟩ e (λz=>nomatch z) h
 | @frz a Y xs B=>
   cases (show u=Value.ref a from rx);obtain⟨_,_,_,n,_,h1⟩:=(show bH X.prog X.w H s.heap a (.frz Y (.lst xs)) from I.hok a _ B);exact kia_one PySem.W.kitx_list I.kIn ⟨_,h1,rfl⟩ e (λz=>nomatch z) h
 | @tup a xs B=>
   cases (show u=Value.ref a from rx);obtain⟨_,_,_,p⟩:=(show bH X.prog X.w H s.heap a (.tup xs) from I.hok a _ B);obtain⟨o,h1,h2,_⟩:=p;exact kia_one PySem.W.kitx_tuple I.kIn ⟨o,h1,h2⟩ e (λz=>nomatch z) h
 | @dK a kvs B=>
   cases (show u=Value.ref a from rx);obtain⟨_,_,vs,_,p⟩:=(show bH X.prog X.w H s.heap a (.dK kvs) from I.hok a _ B);obtain⟨o,es,ep,h1,h2,_⟩:=p;exact kia_one PySem.W.kitx_dict I.kIn ⟨o,h1,h2.1⟩ e (λz=>nomatch z) h
 | @dT a kvs B=>
   cases (show u=Value.ref a from rx);obtain⟨_,_,xs,_,o,es,ep,h1,h2,_⟩:=(show bH X.prog X.w H s.heap a (.dT kvs) from I.hok a _ B);exact kia_one PySem.W.kitx_dict I.kIn ⟨o,h1,h2.1⟩ e (λz=>nomatch z) h
 | @ins a C dx fs B cl S hn L Z=>
   cases (show u=Value.ref a from rx);obtain⟨mA,O,_⟩:=iZ I.hok B;obtain⟨od,J,_⟩:=O.look;exact kia_one (PySem.W.kitx_own (cl.get _) cl.hd S hn L Z) I.kIn J e (λz=>nomatch z) h
end
structure aH (k:Nat) (A:Around):Prop where
 hd:A.handled=none
 dp:A.depth+3*k+5<recursionLimit
 un:A.units+16*k+200<cLine
theorem aH.mono (r:aH k A) (h:j<=k):aH j A:=⟨r.hd,by have:=r.dp;lia,by have:=r.un;lia⟩
theorem aH.deeper (r:aH (k+1) A) (env:Env):aH k (A.deeper env):=
 ⟨r.hd,by have:=r.dp;show A.depth+1+3*k+5<_;lia,by have:=r.un;show A.units+3+16*k+200<_;lia⟩
theorem pT:(A.under (.builtin "type.__call__" ⟨.ref C::us,kw⟩)).depth=A.depth+1:=by
 first | rfl | simp[Around.under,Code.weight,Code.isCreation,Code.isGuard,Code.isCaller,Code.frames,Code.isFrame,guardIds]
theorem pU:(A.under (.builtin "type.__call__" ⟨.ref C::us,kw⟩)).units=A.units+1:=by
 first | rfl | simp[Around.under,Code.cUnits,Code.frames,Code.isFrame]
theorem aH.make (r:aH (k+1) A) (C:Addr) (us:yez) (kw:List (Str×Value)):aH k (A.under (.builtin "type.__call__" ⟨.ref C::us,kw⟩)):=
 ⟨r.hd,by have:=r.dp;rw[pT];lia,by have:=r.un;rw[pU];lia⟩
theorem aH.depth (r:aH k A):A.depth<recursionLimit:=by have:=r.dp;lia
def pV:TA:=λ_ H Q=>Q [] H
def jp (ta:TE) (tr:TA):TA:=λσ H Q=>ta σ H λx H1=>tr σ H1 λxs H2=>Q (x::xs) H2
section
variable {te:TE} {t:TA}
theorem pa_nil:PA X [] pV:=λ_ _ _ _ H Q I h=>Calls.spliced_nil ⟨[],H,I,.nil,h⟩
theorem bQ (ha:PE X e te) (hr:PA X es t) (L:seZ X e es:=by rfl):PA X (e::es) (jp te t):=by
 intro pos π s σ H Q I h;rw[L];show wpAny _ _ (spliced ((false,eval e X.env)::backTo pos (starEach es X.env))) _ _ s;refine Calls.spliced_cons (bE (ha π s σ H _ I h) λu s1 z9=>?_);obtain⟨x,H1,Y,B,q1⟩:=z9;exact bE (hr pos π s1 σ H1 _ Y q1) λus s2 z9=>(by obtain⟨xs,H2,Z,r2,S⟩:=z9;exact ⟨x::xs,H2,Z,.cons B r2,S⟩)
def KL (t:TA):TE:=λσ H Q=>t σ H λxs H1=>xs.length<=sizeLine/\∀p,H1 p=none->Q (.ref p) (upd H1 p (.tup xs))
def KM (t:TA):TE:=λσ H Q=>t σ H λxs H1=>xs.length<=sizeLine/\∀p,H1 p=none->Q (.ref p) (upd H1 p (.lst xs))
theorem DL {x1} (h:PA X es t):PE X (.Tuple es x1 pos) (KL t):=by
 intro π s σ H Q I Y;refine wpAny_Tuple_spliced (bE (h pos π s σ H _ I Y) λus B ⟨xs,H1,L,r,z,q⟩=>⟨by rw[←r.length];exact z,?_⟩);have S:H1 B.heap.objs.size=none:=L.hok.fresh (ycx _);refine⟨.ref B.heap.objs.size,upd H1 B.heap.objs.size (.tup xs),L.laid (t':=B.toks) (λb u e=>ybz _ e) (ycx _) ?_,rfl,q _ S⟩;exact⟨z,us,r,⟨_,ybw _ rfl,rfl,_,rfl⟩⟩
theorem DM (h:PA X es t):PE X (.List es pos) (KM t):=by
 intro π s σ H Q I Y;refine wpAny_List_spliced (bE (h pos π s σ H _ I Y) λus B ⟨xs,H1,L,r,z,q⟩=>⟨by rw[←r.length];exact z,?_⟩);have S:H1 B.heap.objs.size=none:=L.hok.fresh (ycx _);refine⟨.ref B.heap.objs.size,upd H1 B.heap.objs.size (.lst xs),L.laid (t':=B.toks) (λb u e=>ybz _ e) (ycx _) ?_,rfl,q _ S⟩;exact⟨z,us,0,r,ybw _ rfl⟩
end
abbrev Sp:=List V->Hp->VK->XK->Prop
abbrev pW:=List Env->Hp->Shared->XK->Value->Shared->Prop
structure nG (P:Program) (w:World) (K:yav) (mg:yew) (base:Heap) (A:Around) (outer:List Env) (s:Shared) (H:Hp):Prop where
 frames:A.frames=some outer
 mod:Mod K mg base
 bs:∀b o,base.get? b=some o->s.heap.get? b=some o/\H b=none
 bsz:base.objs.size<=s.heap.objs.size
 funs:s.heap.FunFrames base outer
 frf:∀b∈cU outer,H b=none
 hok:gE P w H s.heap
 bare:AllBare s.gens
def CE (outer:List Env) (P:Program) (w:World) (H:Hp) (s:Shared) (Q:VK) (u:Value) (s':Shared):Prop:=
 ∃v H',s'.os=s.os/\AllBare s'.gens/\Un (cU outer) [] H H' s.heap s'.heap/\gE P w H' s'.heap/\aT v u/\Q v H'
def CR (CX:pW) (outer:List Env) (P:Program) (w:World) (H:Hp) (s:Shared) (Q:VK) (E:XK) (r:Result) (s':Shared):Prop:=
 match r with
 | .ok (.ret u)=>CE outer P w H s Q u s'
 | .ok _=>False
 | .error e=>CX outer H s E e s'
structure cW (P:Program) (w:World) (K:yav) (mg:yew) (base:Heap) (CX:pW) (k:Nat) (f:Addr) (fd:FuncData) (ps:List Str) (sp:Sp):Prop where
 len:∀vs H Q E,sp vs H Q E->vs.length=ps.length
 run:∀(A:Around) (outer:List Env) (s:Shared) (H:Hp) (args:Args) (us:yez) (vs:List V) (Q:VK) (E:XK),aH k A->nG P w K mg base A outer s H->BindsTo s fd args (ps.zip us)->aK vs us->sp vs H Q E->
  codeAny (model P w) A (.call (.ref f) args) (CR CX outer P w H s Q E) s
theorem cW.mono (F:cW P w K mg base CX j f fd ps sp) (h:j<=k):
 cW P w K mg base CX k f fd ps sp:=⟨F.len,λA outer s H B us vs Q E hr=>F.run A outer s H B us vs Q E (hr.mono h)⟩
theorem cW.imp (F:cW P w K mg base CX k f fd ps sp)
 (h:∀vs H Q E,sp' vs H Q E->sp vs H Q E):cW P w K mg base CX k f fd ps sp':=
 ⟨λvs H Q E q=>F.len vs H Q E (h _ _ _ _ q),λA outer s H B us vs Q E hr Y hb L S=>F.run A outer s H B us vs Q E hr Y hb L (h _ _ _ _ S)⟩
theorem nG.make (e:nG P w K mg base A outer s H) (C:Addr) (us:yez) (kw:List (Str×Value)):
 nG P w K mg base (A.under (.builtin "type.__call__" ⟨.ref C::us,kw⟩)) outer s H:=⟨by first | exact e.frames | (simpa[Around.under,Code.envs,Code.isFrame,pushEnvs] using e.frames),e.mod,e.bs,e.bsz,e.funs,e.frf,e.hok,e.bare⟩
section
variable {s':Shared}
theorem aw.env0 (I:aw X π σ H s):nG X.prog X.w X.K X.mg X.base X.A X.stack s H:=
 ⟨I.ok.frames,I.ok.mod,I.bs,ycy I.ok.bsz I.sz,I.stack,I.stkFree,I.hok,I.bare⟩
theorem aw.after {Q:VK} (I:aw X π σ H s) (h:CE X.stack X.prog X.w H s Q u s'):EP X π σ Q u s':=by
 obtain⟨v,H',os,bare,un,B,r,q⟩:=h;obtain⟨S,g,d,t,L⟩:=s';obtain rfl:L=s.os:=os;exact⟨v,H',I.call (h':=S) (g':=g) (d':=d) (t':=t) (ch:=[]) un B bare (λb z=>absurd z (by simp)),r,q⟩
end
def wD (sp:Sp) (dvs:List V) (E:XK) (t:TA):TE:=λσ H Q=>t σ H λvs H1=>sp (vs++dvs) H1 Q E
def wE (C:Addr) (m:Str) (sp:Sp) (dvs:List V) (E:XK) (ta:TE) (t:TA):TE:=λσ H Q=>ta σ H λx H1=>∃a dx fs,x=.ref a/\H1 a=some (.ins C dx fs)/\fs.lookup m=none/\
 t σ H1 λvs H2=>sp (x::(vs++dvs)) H2 Q E
def wF (C:Addr) (sp:Sp) (dvs:List V) (E:XK) (t:TA):TE:=λσ H Q=>t σ H λvs H1=>∀x dx,H1 x=none->H1 dx=none->dx≠x->
 sp (.ref x::(vs++dvs)) (upd (upd H1 dx (.own x)) x (.ins C dx [])) (λv H2=>v=.non/\Q (.ref x) H2) E
def bv (K:yav) (fd:FuncData) (ps:List Str) (ds:yez):Prop:=
 ∀(s:Shared) (us:yez),K.In s.heap->(us++ds).length=ps.length->BindsTo s fd ⟨us,[]⟩ (ps.zip (us++ds))
theorem bv.all (h:∀us:List Value,us.length=ps.length->bindArgs fd ⟨us,[]⟩=pure (ps.zip us)):bv K fd ps []:=λs us _ B=>by
 rw[append_nil] at B ⊢;exact .of_eq (h us B)
def dr (CX:pW) (X:Cx) (E:XK):Prop:=∀(π:List (Addr×Obj)) (σ:St) (H:Hp) (s:Shared) (e:Value) (s':Shared),aw X π σ H s->CX X.stack H s E e s'->X.xe e s'
section
variable {CX:pW} {f C:Addr} {sp:Sp} {dvs:List V} {ds:yez} {E:XK} {m:Str} {p apos:Pos} {o:Expr} {ta:TE} {t:TA}
theorem jq {σ:St} {H:Hp} {Q:VK} {vs:List V} (F:cW X.prog X.w X.K X.mg X.base CX k f fd ps sp) (hr:aH k X.A) (hb:bv X.K fd ps ds) (Z:aK dvs ds) (S:dr CX X E)
 (I:aw X π σ H s) (r:aK vs us) (h:sp (vs++dvs) H Q E):wpAny (model X.prog X.w) X.A (call (.ref f) us) (EP X π σ Q) X.xe s:=by
 have L:aK (vs++dvs) (us++ds):=r.append Z;have Y:(us++ds).length=ps.length:=by rw[←L.length];exact F.len _ _ _ _ h
 refine wpAny_call (codeAny_mono (F.run X.A X.stack s H ⟨us,[]⟩ (us++ds) (vs++dvs) Q E hr I.env0 (hb s us I.kIn Y) L h) λr s' B=>?_);cases r with
 | error e=>exact S π σ H s e s' I B
 | ok fl=>
   cases fl with
   | ret u=>exact I.after B
   | next=>exact False.elim B
   | brk=>exact False.elim B
   | cont=>exact False.elim B
theorem ja (F:cW X.prog X.w X.K X.mg X.base CX k f fd ps sp) (hr:aH k X.A) (Y:Gl X x) (hm:X.mg x=some (.ref f)) (hk:keepIn X.K (.ref f)=true) (hb:bv X.K fd ps ds) (hd:aK dvs ds) (Z:dr CX X E)
 (ha:PA X (e::es) t) (L:dbz x:=by decide) (he:seZ X e es:=by rfl) (B:plZ pos X es:=by rfl):
 PE X (.Call (.Name x p) (e::es) [] pos) (wD sp dvs E t):=by
 intro π s σ H Q I h;refine wpAny_Call_Name_kw (ei I Y hm ?_ L);refine callWith_K (h₀:=X.base) I.ok.mod.kin hk (bE (ha pos π s σ H _ I h) λus s1 ⟨vs,H1,S,r,q⟩=>⟨S.kIn,?_⟩) he B;exact jq F hr hb hd Z S r q
theorem wG (F:cW X.prog X.w X.K X.mg X.base CX k f fd ps sp) (hr:aH k X.A) (L:Gl X x) (Y:X.mg x=some (.ref f)) (S:keepIn X.K (.ref f)=true) (hb:bv X.K fd ps ds) (hd:aK dvs ds) (Z:dr CX X E)
 (B:dbz x:=by decide):PE X (.Call (.Name x p) [] [] pos) (wD sp dvs E pV):=by
 intro π s σ H Q I h;refine wpAny_Call_Name_kw (ei I L Y ?_ B);exact PySem.W.callWith_K0 I.kIn S (jq (us:=[]) F hr hb hd Z I .nil h)
theorem sF {pl:Sem Bool} (he:PE X o ta) (c:kn X.K C) (Z:uV X.K C m f) (F:cW X.prog X.w X.K X.mg X.base CX k f fd ps sp) (hr:aH k X.A) (hb:bv X.K fd ps ds) (hd:aK dvs ds) (hx:dr CX X E) (ha:PA X (e::es) t)
 (L:seZ X e es:=by rfl) (B:plZ pos X es:=by rfl)
 (ht:eval (.Call (.Attribute o m apos) (e::es) [] pos) X.env=(do
   let ov ←eval o X.env
   standAt apos.atName
   let (f,first) ←holding [ov] (getMethod ov m pl)
   callWith pos f first (backTo pos (starEach (e::es) X.env)) (backToKw pos (keywordEach [] X.env))):=by rfl):
 PE X (.Call (.Attribute o m apos) (e::es) [] pos) (wE C m sp dvs E ta t):=by
 intro π s σ H Q I h;refine PySem.W.methodCall_KW (pl:=pl) (bE (he π s σ H _ I h) λu s1 z9=>?_) ht;obtain⟨x,H1,S,rx,a,dx,fs,ex,ea,l,q⟩:=z9;subst ex;obtain rfl:u=Value.ref a:=rx;refine fU S ea c Z l ?_;refine callWith_K (first:=[.ref a]) (h₀:=X.base) I.ok.mod.kin Z.kp (bE (ha pos π s1 σ H1 _ S q) λus s2 ⟨vs,H2,Y,r,q2⟩=>⟨Y.kIn,?_⟩) L B;exact jq (us:= .ref a::us) (vs:= .ref a::vs) F hr hb hd hx Y (.cons rfl r) q2
theorem wH {pl:Sem Bool} (he:PE X o ta) (c:kn X.K C) (L:uV X.K C m f) (F:cW X.prog X.w X.K X.mg X.base CX k f fd ps sp) (hr:aH k X.A) (hb:bv X.K fd ps ds) (hd:aK dvs ds) (Z:dr CX X E)
 (Y:eval (.Call (.Attribute o m apos) [] [] pos) X.env=(do
   let ov ←eval o X.env
   standAt apos.atName
   let (f,first) ←holding [ov] (getMethod ov m pl)
   callWith pos f first (backTo pos (starEach [] X.env)) (backToKw pos (keywordEach [] X.env))):=by rfl):
 PE X (.Call (.Attribute o m apos) [] [] pos) (wE C m sp dvs E ta pV):=by
 intro π s σ H Q I h;refine PySem.W.methodCall_KW (pl:=pl) (bE (he π s σ H _ I h) λu s1 z9=>?_) Y;obtain⟨x,H1,B,rx,a,dx,fs,ex,S,l,q⟩:=z9;subst ex;obtain rfl:u=Value.ref a:=rx;refine fU B S c L l ?_;exact PySem.W.callWith_K0 (first:=[.ref a]) B.kIn L.kp (jq (us:=[.ref a]) (vs:=[.ref a]) F hr hb hd Z B (.cons rfl .nil) q)
structure Mk (K:yav) (C f:Addr):Prop where
 makes:PySem.W.makesIn K C=true
 init:findIn K (.ref C) "__init__"=some (some (.ref f))
 fn:isFn K (.ref f)=true
 kp:keepIn K (.ref C)=true
theorem nH {σ:St} {H:Hp} {Q:VK} {vs:List V} (M:Mk X.K C f) (F:cW X.prog X.w X.K X.mg X.base CX k f fd ps sp) (hr:aH (k+1) X.A) (hb:bv X.K fd ps ds) (hd:aK dvs ds)
 (hx:dr CX X E) (I:aw X π σ H s) (r:aK vs us)
 (h:∀x dx,H x=none->H dx=none->dx≠x->sp (.ref x::(vs++dvs)) (upd (upd H dx (.own x)) x (.ins C dx [])) (λv H2=>v=.non/\Q (.ref x) H2) E):
 wpAny (model X.prog X.w) X.A (call (.ref C) us) (EP X π σ Q) X.xe s:=by
 have S:=h (s.heap.objs.size+1) s.heap.objs.size (I.hok.fresh (Nat.le_succ _)) (I.hok.fresh (ycx _)) (ne_of_lt (lt_succ_self _));have L:=aw.made (C:=C) I;have Y:aK (V.ref (s.heap.objs.size+1)::(vs++dvs)) (Value.ref (s.heap.objs.size+1)::(us++ds)):= .cons rfl (r.append hd);have hl:(Value.ref (s.heap.objs.size+1)::us++ds).length=ps.length:=by
  have e:=Y.length;rw[F.len _ _ _ _ S] at e;exact e.symm
 refine wpAny_call (wB (f:=f) I.kIn M.makes M.init (beq_iff_eq.mp M.fn) (codeAny_mono (F.run _ X.stack _ _ ⟨Value.ref (s.heap.objs.size+1)::us,[]⟩ (Value.ref (s.heap.objs.size+1)::(us++ds)) _ _ E (hr.make C us [])
  (L.env0.make C us []) (hb _ (Value.ref (s.heap.objs.size+1)::us) L.kIn hl) Y S) λr s' B=>?_))
 cases r with
 | error e=>exact hx π σ _ _ e s' L B
 | ok fl=>
   cases fl with
   | ret u=>
     obtain⟨v,H',I3,rv,ev,Z⟩:=L.after B;subst ev;exact⟨rv,⟨V.ref (s.heap.objs.size+1),H',I3,rfl,Z⟩⟩
   | next=>exact False.elim B
   | brk=>exact False.elim B
   | cont=>exact False.elim B
theorem Ai (M:Mk X.K C f) (F:cW X.prog X.w X.K X.mg X.base CX k f fd ps sp) (hr:aH (k+1) X.A) (Y:Gl X x) (hm:X.mg x=some (.ref C)) (hb:bv X.K fd ps ds) (hd:aK dvs ds) (Z:dr CX X E)
 (ha:PA X (e::es) t) (L:dbz x:=by decide) (he:seZ X e es:=by rfl) (B:plZ pos X es:=by rfl):
 PE X (.Call (.Name x p) (e::es) [] pos) (wF C sp dvs E t):=by
 intro π s σ H Q I h;refine wpAny_Call_Name_kw (ei I Y hm ?_ L);refine callWith_K (h₀:=X.base) I.ok.mod.kin M.kp (bE (ha pos π s σ H _ I h) λus s1 ⟨vs,H1,S,r,q⟩=>⟨S.kIn,?_⟩) he B;exact nH M F hr hb hd Z S r q
theorem wI (M:Mk X.K C f) (F:cW X.prog X.w X.K X.mg X.base CX k f fd ps sp) (hr:aH (k+1) X.A) (L:Gl X x) (S:X.mg x=some (.ref C)) (hb:bv X.K fd ps ds) (Z:aK dvs ds) (Y:dr CX X E)
 (B:dbz x:=by decide):PE X (.Call (.Name x p) [] [] pos) (wF C sp dvs E pV):=by
 intro π s σ H Q I h;refine wpAny_Call_Name_kw (ei I L S ?_ B);exact PySem.W.callWith_K0 I.kIn M.kp (nH (us:=[]) M F hr hb Z Y I .nil h)
end
section
variable {CX:pW} {f C:Addr} {ks:List Str} {sp:Sp} {E:XK} {m:Str} {p apos kpos:Pos} {o:Expr} {kws:List Keyword} {te ta:TE} {t tk:TA} {nm:Option Str}
structure KN (K:yav) (fd:FuncData) (ps ks:List Str) (g:List Value->List Value->List Value) (gV:List V->List V->List V):Prop where
 to:∀(s:Shared) (us ws:yez),K.In s.heap->(g us ws).length=ps.length->BindsTo s fd ⟨us,ks.zip ws⟩ (ps.zip (g us ws))
 rel:∀{vs:List V} {us:yez} {zs:List V} {ws:yez},aK vs us->aK zs ws->aK (gV vs zs) (g us ws)
variable {g:List Value->List Value->List Value} {gV:List V->List V->List V}
end
structure ay (N P:List Str) (sc:Scope):Prop where
 kind:sc.kind=.function
 co:sc.isCoroutine=false
 gen:sc.isGenerator=false
 nd:N.Nodup
 pre:N.take P.length=P
 par:∀x∈P,sc.names.lookup x=some .local∨sc.names.lookup x=some .cell
 nofree:∀y∈sc.names,y.2≠ .free
theorem kG {kindOf:Str->Option NameKind}:∀{binds:List (Str×Value)} {m:yew},(∀v,(x,v)∉binds)->bindL kindOf binds m x=m x
 | [],_,_=>rfl
 | (n,v)::r,m,h=>by
   unfold bindL;rw[kG λw hw=>h w (ybx _ hw)];split
   ·have:x≠n:=by rintro rfl;exact h v yby
    simp[this]
   ·rfl
theorem kH {kindOf:Str->Option NameKind}:∀{binds:List (Str×Value)} {m:yew},(∀v,(x,v)∉binds)->bindC kindOf binds m x=m x
 | [],_,_=>rfl
 | (n,v)::r,m,h=>by
   unfold bindC;rw[kH λw hw=>h w (ybx _ hw)];split
   ·rfl
   ·have:x≠n:=by rintro rfl;exact h v yby
    simp[this]
theorem kI {kindOf:Str->Option NameKind} {x:Str} {v:Value}:∀{P:List Str} {vs:yez} {i:Nat} {m:yew},P.Nodup->P[i]?=some x->vs[i]?=some v->kindOf x=some .local->
 bindL kindOf (P.zip vs) m x=some v
 | [],_,_,_,_,h,_,_=>by simp at h
 | _::_,[],_,_,_,_,h,_=>by simp at h
 | p::P,w::vs,0,m,nd,h1,h2,B=>by
   simp at h1 h2;subst h1;subst h2;show bindL kindOf ((p,w)::P.zip vs) m p=_;unfold bindL;rw[kG λv L=>(nodup_cons.mp nd).1 (List.of_mem_zip L).1,ycv B];simp
 | p::P,w::vs,i+1,m,nd,h1,h2,B=>by
   show bindL kindOf ((p,w)::P.zip vs) m x=_;unfold bindL;exact kI (i:=i) (nodup_cons.mp nd).2 (by simpa using h1) (by simpa using h2) B
theorem kJ {kindOf:Str->Option NameKind} {x:Str} {v:Value}:∀{P:List Str} {vs:yez} {i:Nat} {m:yew},P.Nodup->P[i]?=some x->vs[i]?=some v->kindOf x≠some .local->
 bindC kindOf (P.zip vs) m x=some v
 | [],_,_,_,_,h,_,_=>by simp at h
 | _::_,[],_,_,_,_,h,_=>by simp at h
 | p::P,w::vs,0,m,nd,h1,h2,B=>by
   simp at h1 h2;subst h1;subst h2;show bindC kindOf ((p,w)::P.zip vs) m p=_;unfold bindC;rw[kH λv L=>(nodup_cons.mp nd).1 (List.of_mem_zip L).1,ycw B];simp
 | p::P,w::vs,i+1,m,nd,h1,h2,B=>by
   show bindC kindOf ((p,w)::P.zip vs) m x=_;unfold bindC;exact kJ (i:=i) (nodup_cons.mp nd).2 (by simpa using h1) (by simpa using h2) B
noncomputable def start (N:List Str) (vs:List V):St:=vs.map some++List.replicate (N.length-vs.length) none
noncomputable def bn (CX:pW) (P:Program) (w:World) (K:yav) (mg:yew) (base:Heap) (N:List Str) (qual:Str) (scope:Scope) (f:Addr) (cd:Value) (A:Around) (outer:List Env) (s:Shared) (H:Hp) (E:XK):Cx where
 prog:=P
 w:=w
 K:=K
 mg:=mg
 base:=base
 A:=A.deeper (envOfC qual scope s.heap.objs.size f cd)
 N:=N
 s₀:=s
 H₀:=H
 env:=envOfC qual scope s.heap.objs.size f cd
 outer:=outer
 stack:=envOfC qual scope s.heap.objs.size f cd::outer
 ex:=[]
 calm:=true
 fn:=λ_=>true
 pn:=[]
 xe:=λe s'=>wpAny (model P w) (A.deeper (envOfC qual scope s.heap.objs.size f cd)) (leaving (envOfC qual scope s.heap.objs.size f cd) e) (λ_ s''=>CX outer H s E e s'') (λe' s''=>CX outer H s E e' s'') s'
theorem nI {sc:Scope} {n:Nat} (h:sc.names.lookup x=some .cell):∃c,(cellsFrom n sc.names []).lookup x=some c:=by
 have q:=PySem.W.cellsFrom_some sc.names n [] (.inl h);exact Option.isSome_iff_exists.mp q
theorem uX {CX:pW} {ps:List Str} {f:Addr} {cd:Value} {outer:List Env} {s:Shared} {H:Hp} {E:XK} {vs:List V}
 (S:ay N ps scope) (hd:A.handled=none) (B:nG P w K mg base A outer s H) (hl:vs.length=ps.length) (r:aK vs us)
 (x:InCallC s s.heap.objs.size (bindL (envOfC qual scope s.heap.objs.size f cd).kindOf (ps.zip us) λ_=>none) (cellsFrom (s.heap.objs.size+1) scope.names []) (bindC (envOfC qual scope s.heap.objs.size f cd).kindOf (ps.zip us) λ_=>none) s1):
 aw (bn CX P w K mg base N qual scope f cd A outer s H E) [] (start N vs) H s1:=by
 have ad:ps.length<=N.length:=by have:=congrArg List.length S.pre;rw[length_take] at this;lia
 obtain⟨h1,tk,rfl,hk⟩:=x.done;have Y:∀b:Addr,b∉(bn CX P w K mg base N qual scope f cd A outer s H E).ex:=λb z=>absurd (show b∈([]:List Addr) from z) (by simp);refine⟨⟨B.mod,S.kind,rfl,rfl,ycx _,λy z c h1 h2=>?_,λy L=>?_,λy c _ h=>?_,λ_=>hd,Around.frames_deeper B.frames,.inr ⟨rfl,rfl⟩,λb z=>absurd z (Y b),B.bs,B.bsz,λb _ _=>Y b,λb z=>absurd z (Y b),B.funs,B.frf⟩,
  rfl,B.bare,Un.kept hk,⟨_,x.toInCall.ns,λi y v h1 h2 h3=>?_⟩,λy c h=>⟨_,x.cell y c h⟩,B.hok.fresh (ycx _),λy c h=>?_,λp Z=>absurd (show p∈([]:List (Addr×Obj)) from Z) (by simp),B.hok.kept hk,?_⟩
 ·exact name_of_addr x.apart (PySem.mem_of_lookup h1) (PySem.mem_of_lookup h2)
 ·have L:scope.names.lookup y=some .cell∨scope.names.lookup y=some .free:=L;rcases L with L | L
  ·exact nI L
  ·exact absurd rfl (S.nofree _ (PySem.mem_of_lookup L))
 ·exact le_of_lt (x.above y c (PySem.mem_of_lookup h))
 ·have hi:i<vs.length:=by
   unfold start at h2
   by_cases hi:i<vs.length
   ·exact hi
   ·rw[List.getElem?_append_right (by simpa using hi)] at h2;rw[List.getElem?_replicate] at h2;split at h2<;> cases h2
  have ha:vs[i]?=some v:=by
   unfold start at h2;rw[List.getElem?_append_left (by simpa using hi),List.getElem?_map] at h2;cases e:vs[i]? with
   | none=>rw[e] at h2;cases h2
   | some a=>rw[e] at h2;cases h2
  obtain⟨u,hu,rv⟩:=r.get ha;have Z:ps[i]?=some y:=by
   rw[←S.pre,List.getElem?_take_of_lt (by lia)];exact h1
  have ab:ps.Nodup:=by rw[←S.pre];exact S.nd.sublist (List.take_sublist _ _)
  refine⟨u,rv,?_⟩;rcases S.par y (List.mem_of_getElem? Z) with k | k
  ·exact .inl ⟨k,kI ab Z hu k⟩
  ·obtain⟨c,e⟩:=nI (n:=s.heap.objs.size+1) k;refine .inr ⟨.inl k,c,e,?_⟩;have q:=x.cell y c e;rw[kJ ab Z hu (by show scope.names.lookup y≠_;rw[k];decide)] at q;exact q
 ·exact B.hok.fresh (le_of_lt (x.above y c (PySem.mem_of_lookup h)))
 ·unfold start;show _=N.length;rw[length_append,length_map,List.length_replicate];lia
theorem sG {CX:pW} {f:Addr} {name:Str} {B:Arguments} {dV kV doc pm cdv ct oc:Value} {an od:Option Addr}
 {osl:Array (Option Value)} {N ps:List Str} {sp:Sp} (lk:K.lookup f=some ⟨oc,od,.func (fnOf name qual B body scope dV kV doc pm an cdv ct),osl⟩) (af:codeIn K cdv qual=true) (S:ay N ps scope)
 (len:∀vs H Q E,sp vs H Q E->vs.length=ps.length)
 (Y:∀(A:Around) (outer:List Env) (s:Shared) (H:Hp) (vs:List V) (Q:VK) (E:XK),aH k (A.deeper (envOfC qual scope s.heap.objs.size f cdv))->sp vs H Q E->
   ∃t,nA (bn CX P w K mg base N qual scope f cdv A outer s H E) body t/\t { nx:=λ_ H'=>Q .non H',rt:=Q } (start N vs) H):
 cW P w K mg base CX (k+1) f (fnOf name qual B body scope dV kV doc pm an cdv ct) ps sp:=by
 refine⟨len,λA outer s H ai us vs Q E hr e0 hb r ad=>?_⟩;have hl:=len _ _ _ _ ad;have KX:K.In s.heap:=e0.mod.kin.keeps λb o e=>(e0.bs b o e).1;have lim:s.heap.NoLimit:=e0.mod.nolimit.keeps λb o e=>(e0.bs b o e).1;have Z:∀y∈ps.zip us,scope.names.lookup y.1=some .local∨(scope.names.lookup y.1=some .cell/\((cellsFrom (s.heap.objs.size+1) scope.names []).lookup y.1).isSome=true):=λz9 hy=>by
  obtain⟨n,v⟩:=z9
  rcases S.par n (List.of_mem_zip hy).1 with q | q
  ·exact .inl q
  ·exact .inr ⟨q,PySem.W.cellsFrom_some _ _ _ (.inl q)⟩
 refine codeAny_call_function hr.depth (KX _ _ lk) rfl S.co S.gen rfl (PySem.W.codeRec_of KX af) (hb _ _ _ _ ?_);refine wpAny_newFunctionEnv_cells S.kind Z λenv he s1 x=>?_;subst he;refine⟨lim.keeps x.toInCall.keep,codeAny_func ?_⟩;obtain⟨t,ht,hq⟩:=Y A outer s H vs Q E (hr.deeper _) ad;have I:aw (bn CX P w K mg base N qual scope f cdv A outer s H E) [] (start N vs) H s1:=uX S hr.hd e0 hl r x;refine wpAny_mono (ht [] s1 (start N vs) H _ I hq) (λfl s' hs=>?_) λe s' hs=>hs;have ab:∀{L:St} {H':Hp} {v:V} {u:Value},aw (bn CX P w K mg base N qual scope f cdv A outer s H E) [] L H' s'->aT v u->Q v H'->CE outer P w H s Q u s':=
  λ{L H' v u} J rv q=>⟨v,H',J.os,J.bare,J.base,J.hok,rv,q⟩
 cases fl with
 | ret u=>
   obtain⟨v,L,H',J,rv,q⟩:=hs;exact ab J rv q
 | next=>
   obtain⟨L,H',J,q⟩:=hs;exact ab (v:=V.non) (u:=Value.none) J rfl q
 | brk=>
   obtain⟨_,_,_,q⟩:=hs;exact False.elim q
 | cont=>
   obtain⟨_,_,_,q⟩:=hs;exact False.elim q
section
variable {p:Pos} {t:TA} {id T:String} {r:List V->Hp->VK->Prop}
def KO (r:List V->Hp->VK->Prop) (t:TA):TE:=λσ H Q=>t σ H λvs H1=>r vs H1 Q
theorem gH (hc:eR X (.builtin id) r) (S:Gl X x) (hm:X.mg x=none) (Y:bootBuiltins x=some (.builtin id)) (ha:PA X (e::es) t) (hn:x≠"__name__":=by decide) (L:dbz x:=by decide)
 (he:seZ X e es:=by rfl) (B:plZ pos X es:=by rfl):PE X (.Call (.Name x p) (e::es) [] pos) (KO r t):=by
 intro π s σ H Q I h;refine wpAny_Call_Name_kw (ig I S hm Y ?_ hn L);exact PyProof.Rows.callWith_builtin1 (bE (ha pos π s σ H _ I h) λus s1 z9=>(by obtain⟨vs,H1,I1,Z,q1⟩:=z9;exact hc π s1 σ H1 vs us Q I1 Z q1)) he B
theorem uY (hc:eR X (.type T) r) (S:Gl X x) (hm:X.mg x=none) (Y:bootBuiltins x=some (.type T)) (ha:PA X (e::es) t) (hn:x≠"__name__":=by decide) (L:dbz x:=by decide)
 (he:seZ X e es:=by rfl) (B:plZ pos X es:=by rfl):PE X (.Call (.Name x p) (e::es) [] pos) (KO r t):=by
 intro π s σ H Q I h;refine wpAny_Call_Name_kw (ig I S hm Y ?_ hn L);exact PyProof.Rows.callWith_type1 (bE (ha pos π s σ H _ I h) λus s1 z9=>(by obtain⟨vs,H1,I1,Z,q1⟩:=z9;exact hc π s1 σ H1 vs us Q I1 Z q1)) he B
end
end _L
namespace _H
open PySem PyProof.Rows
theorem rcLt_int (A:Around) (s:Shared) (a:Int) (t:Tok) (c:Int) (u:Tok) (prog:Program) (w:World) (E:yey) (Q:yey) (h:Q (.bool (decide (a<c))) s):
 wpAny (model prog w) A (richCompare .Lt (.int a t) (.int c u)) Q E s:=
 (PyProof.Rows.lt_int h:wpAny (model prog w) A (compareOp .Lt (.int a t) (.int c u)) Q E s)
section
open PySem.SeqAt
open PySem.AutoSeq1 (wpAny_loadPart')
open PySem.MeetsSeq PySem.MeetsSeq2 PySem.MeetsSeq3
end
theorem cat_tup (ht:IsTup s.heap t vs.toArray) (hb:IsTup s.heap b ws.toArray) (hv:vs≠[])
 (h1:ws=[]->Q (.ref t) s) (h2:ws≠[]->Q (.ref s.heap.objs.size) { s with heap:=s.heap.push { cls:= .type "tuple",data:= .seq (vs++ws).toArray } })
 (hsz:vs.length+ws.length<=sizeLine):wpAny (model prog w) A (binaryOp .Add (.ref t) (.ref b)) Q E s:=by
 obtain⟨⟨cls,dd,data,sl⟩,ho,hc,n,hd⟩:=id ht;obtain⟨⟨ab,L,data2,Y⟩,B,Z,n2,S⟩:=id hb;simp only at hc hd Z S;subst hc hd Z S;have e:vs.toArray++ws.toArray=(vs++ws).toArray:=by simp
 by_cases hw:ws=[]
 ·exact concat_meets ⟨_,ho,rfl⟩ ⟨_,B,rfl⟩ noFill_tuple_add seq_tuple_add PySem.F.slot_tuple_add PySem.F.entry_tuple_add (PySem.F.args_tuple_add_2 _ _)
   (tuple_addW1 t b vs.toArray ws.toArray n n2 dd L sl Y (by simpa using hv) (by simp[hw])) ⟨ho,B,h1 hw⟩
 ·refine concat_meets ⟨_,ho,rfl⟩ ⟨_,B,rfl⟩ noFill_tuple_add seq_tuple_add PySem.F.slot_tuple_add PySem.F.entry_tuple_add (PySem.F.args_tuple_add_2 _ _)
   (tuple_addW2 t b vs.toArray ws.toArray n n2 dd L sl Y (by simpa using hv) (by simpa using hw) (by rw[size_toArray,size_toArray];exact hsz)) ⟨ho,B,?_⟩
  rw[e];exact h2 hw
noncomputable def sIx (n d:Nat):Option Int->Nat
 | none=>d
 | some v=>if v<0 then (v+(n:Int)).toNat else min v.toNat n
theorem sIx_none (n d:Nat):sIx n d none=d:=rfl
theorem sIx_nat (n d k:Nat):sIx n d (some (k:Int))=min k n:=by
 show(if (k:Int)<0 then ((k:Int)+(n:Int)).toNat else min (k:Int).toNat n)=min k n;rw[ycw (by lia),Int.toNat_natCast]
theorem DN (n d:Nat) (B:d<=n) (o:Option Int):sIx n d o<=n:=by
 cases o with
 | none=>exact B
 | some v=>
   show(if v<0 then (v+(n:Int)).toNat else min v.toNat n)<=n
   by_cases hv:v<0
   ·rw[ycv hv];lia
   ·rw[ycw hv];exact Nat.min_le_right _ _
theorem cmin (p n:Nat):min (p:Int) n=((min p n:Nat):Int):=by
 cases Nat.le_total p n with
 | inl h=>rw[Nat.min_eq_left h,Int.min_eq_left (Int.ofNat_le.mpr h)]
 | inr h=>rw[min_eq_right h,Int.min_eq_right (Int.ofNat_le.mpr h)]
theorem sH (v:Int) (n d:Nat):(if v<0 then max (v+(n:Int)) 0 else min v (n:Int))=((sIx n d (some v):Nat):Int):=by
 show(if v<0 then max (v+(n:Int)) 0 else min v (n:Int))=(((if v<0 then (v+(n:Int)).toNat else min v.toNat n):Nat):Int)
 by_cases hv:v<0
 ·rw[ycv hv,ycv hv,Int.ofNat_toNat]
 ·rw[ycw hv,ycw hv,←cmin,Int.toNat_of_nonneg (Int.not_lt.mp hv)]
theorem pX (lo hi:Option Int) (n:Nat):Builtin.Slice.sliceAdjust lo hi 1 (n:Int)=(((sIx n 0 lo:Nat):Int),((sIx n n hi:Nat):Int)):=by
 have h1:¬((1:Int)<0):=by lia
 unfold Builtin.Slice.sliceAdjust;simp only[h1,if_false];refine Prod.ext ?_ ?_
 ·cases lo with
  | none=>rfl
  | some v=>exact sH v n 0
 ·cases hi with
  | none=>rfl
  | some v=>exact sH v n n
theorem pY (i j:Nat):Builtin.Slice.slicePlaces (i:Int) (j:Int) 1=j-i:=by
 unfold Builtin.Slice.slicePlaces;have h1:(1:Int) > 0:=by lia
 simp only[h1,if_true,Int.ediv_one];split<;> lia
theorem jr {o:Option Int} {Q:Option Int->Shared->Prop} (p:IsPart v o) (h:Q o s):wpAny (model prog w) A (Builtin.Slice.slicePartIndex v) Q E s:=by
 cases p with
 | none=>exact slicePart_none h
 | int i t=>exact slicePart_int h
theorem sliceApplied_gen {Z:Addr} {lo hi:Option Int} {n:Nat} {Q:Int×Int×Nat->Shared->Prop} (hs:s.heap.IsSliceOf Z Y S .none) (pl:IsPart Y lo) (pu:IsPart S hi)
 (h:Q (((sIx n 0 lo:Nat):Int),1,sIx n n hi-sIx n 0 lo) s):wpAny (model prog w) A (Builtin.Slice.sliceApplied (.ref Z) (pure (n:Int))) Q E s:=by
 obtain⟨os,B,ab,L⟩:=id hs;unfold Builtin.Slice.sliceApplied Builtin.Slice.sliceFields;refine wax (wax (wpAny_field B L (x:=Y) rfl (wax (wpAny_field B L (x:=S) rfl (wax (wpAny_field B L (x:= .none) rfl (wpAny_pure ?_)))))));refine wax (slicePart_none ?_);show wpAny _ _ (if ((1:Int)==0)=true then _ else _) _ _ s;rw[ycw (by decide)];refine wax (jr pl (wax (jr pu (wax (wpAny_pure ?_)))));show wpAny _ _ (match Builtin.Slice.sliceAdjust lo hi 1 (n:Int) with | (lo,hi)=>pure (lo,(1:Int),Builtin.Slice.slicePlaces lo hi 1)) _ _ s;rw[pX lo hi n];show wpAny _ _ (pure (((sIx n 0 lo:Nat):Int),(1:Int),Builtin.Slice.slicePlaces ((sIx n 0 lo:Nat):Int) ((sIx n n hi:Nat):Int) 1)) _ _ s;rw[pY];exact wpAny_pure h
theorem wJ (xs:Array Value) (i k:Nat):((List.range k).filterMap λ(m:Nat)=>xs[((i:Int)+(m:Int)*1).toNat]?).toArray=((xs.toList.drop i).take k).toArray:=by
 have e:(λ(m:Nat)=>xs[((i:Int)+(m:Int)*1).toNat]?)=λm=>xs[i+m]?:=by
  funext m
  have:((i:Int)+(m:Int)*1).toNat=i+m:=by lia
  rw[this]
 rw[e];have:=pick_run xs i k;rw[List.filterMap_map] at this;have B:((λx=>xs[x]?) ∘ λx=>i+x)=λm=>xs[i+m]?:=rfl;rw[B] at this;rw[this]
theorem getItem_tuple_cut {t sl:Addr} {lo hi:Option Int} (L:IsTup s.heap t items) (hs:s.heap.IsSliceOf sl vl vu .none) (pl:IsPart vl lo) (pu:IsPart vu hi)
 (hw:¬(sIx items.size 0 lo=0/\sIx items.size items.size hi=items.size))
 (h:Q (.ref s.heap.objs.size) { s with heap:=s.heap.push { cls:= .type "tuple",data:= .seq ((items.toList.drop (sIx items.size 0 lo)).take (sIx items.size items.size hi-sIx items.size 0 lo)).toArray } })
 (hsz:items.size<=sizeLine):wpAny (model prog w) A (getItem (.ref t) (.ref sl)) Q E s:=by
 have B:sizeOk (.seq ((items.toList.drop (sIx items.size 0 lo)).take (sIx items.size items.size hi-sIx items.size 0 lo)).toArray):=by
  show((items.toList.drop (sIx items.size 0 lo)).take (sIx items.size items.size hi-sIx items.size 0 lo)).toArray.size<=sizeLine;rw[size_toArray,length_take,length_drop,Array.length_toList];exact ycy (Nat.min_le_right _ _) (ycy (Nat.sub_le _ _) hsz)
 have hj:sIx items.size items.size hi<=items.size:=DN _ _ (ycx _) hi;obtain⟨os,S,ab,ad⟩:=id hs;have Y:s.TypeIs (.ref sl) "slice":=⟨os,S,ab⟩;unfold getItem
 try with_reducible refine wpAny_holding ?_
 first | refine wax (wpAny_pure ?_) | skip
 refine wax (wpAny_sequenceKey L.typeIs (by decide) ?_);refine wax (wpAny_callSpecial?_slot (name:=Str.ofString "__getitem__") L.typeIs PyProof.Rows.slot_tuple_getitem
  (wpAny_call_entry PyProof.Rows.slot_tuple_getitem L.typeIs entry_tuple_getitem ?_ (args_tuple_getitem _ _)))
 show wpAny _ _ (Builtin.Tuple.tupleItemsOf (.ref t) >>= _) _ _ s;refine wax (tupleItemsOf_ L ?_);refine wax (wpAny_typeOf Y ?_);rw[ycv (by decide)];refine wax (sliceApplied_gen hs pl pu ?_);have Z:¬((((sIx items.size 0 lo:Nat):Int)==0&&(1:Int)==1&&(sIx items.size items.size hi-sIx items.size 0 lo)==items.size)=true):=by
  intro q;rw[Bool.and_eq_true,Bool.and_eq_true] at q;have q1:((sIx items.size 0 lo:Nat):Int)=0:=eq_of_beq q.1.1;have q2:sIx items.size items.size hi-sIx items.size 0 lo=items.size:=eq_of_beq q.2;exact hw ⟨by lia,by lia⟩
 show wpAny _ _ (if (((sIx items.size 0 lo:Nat):Int)==0&&(1:Int)==1&&(sIx items.size items.size hi-sIx items.size 0 lo)==items.size)=true then _ else _) _ _ s;rw[ycw Z,wJ]
 first
  | exact wax (m:=Builtin.Tuple.tupleExact _) (wpAny_newObj_type (wpAny_pure ⟨_,rfl,wpAny_pure h⟩) B)
  | exact wax (m:=Builtin.Tuple.tupleExact _) (wpAny_newObj_type (wax (wpAny_pure (wpAny_pure ⟨_,rfl,wpAny_pure h⟩))) B)
  | exact wax (wax (m:=Builtin.Tuple.tupleExact _) (wpAny_newObj_type (wpAny_pure (wpAny_pure ⟨_,rfl,wpAny_pure h⟩)) B))
  | exact wax (wax (m:=Builtin.Tuple.tupleExact _) (wpAny_newObj_type (wpAny_pure ⟨_,rfl,wpAny_pure h⟩) B))
end _H
namespace _L
open PySem PySem.Spec PyProof.Rows
abbrev TO:=St->Hp->(Option Int->Hp->Prop)->Prop
def PO (X:Cx) (e:Option Expr) (t:TO):Prop:=
 ∀(π:List (Addr×Obj)) (s:Shared) (σ:St) (H:Hp) (Q:Option Int->Hp->Prop),aw X π σ H s->t σ H Q->
  wpAny (model X.prog X.w) X.A (evalPart e X.env) (λu s'=>∃o H',aw X π σ H' s'/\IsPart u o/\Q o H') X.xe s
def Aj:TO:=λ_ H Q=>Q none H
def GI (t:TE):TO:=λσ H Q=>t σ H λx H1=>∃i,x=.int i/\Q (some i) H1
theorem intsAre_of:∀{us:yez},aK (ns.map V.int) us->IntsAre us ns:=by
 induction ns with
 | nil=>intro us r;rw[map_nil] at r;cases r;exact .nil
 | cons n ns ih=>
   intro us r;rw[map_cons] at r;cases r with
   | cons L B=>
     obtain⟨t,e⟩:=L;subst e;exact .cons n t (ih B)
section
variable {te:TE} {lo hi:Option Expr} {tl th:TO} {p2:Pos}
theorem po_none:PO X none Aj:=by
 intro π s σ H Q I h;rw[evalPart_none];exact wpAny_pure ⟨none,H,I,.none,h⟩
theorem Ak (h:PE X e te):PO X (some e) (GI te):=by
 intro π s σ H Q I hw;rw[evalPart_some];refine bE (h π s σ H _ I hw) λu Y z9=>?_;obtain⟨x,H1,L,B,S⟩:=z9;obtain⟨i,rfl,q⟩:=S;obtain⟨t,rfl⟩:=B;exact⟨some i,H1,L,.int i t,q⟩
def GJ (X:Cx) (r:V->Option Int->Option Int->Hp->VK->Prop):Prop:=
 ∀(π:List (Addr×Obj)) (s:Shared) (σ:St) (H:Hp) (x:V) (v vl vu:Value) (lo hi:Option Int) (sl:Addr) (Q:VK),aw X π σ H s->aT x v->s.heap.IsSliceOf sl vl vu .none->IsPart vl lo->IsPart vu hi->r x lo hi H Q->
  ∃T id,typeLookup (.type T) "__getitem__"=pure (some (.builtin id))/\s.TypeIs v T/\wpAny (model X.prog X.w) X.A (getItem v (.ref sl)) (EP X π σ Q) X.xe s
def NP (r:V->Option Int->Option Int->Hp->VK->Prop) (te:TE) (tl th:TO):TE:=λσ H Q=>te σ H λx H1=>tl σ H1 λl H2=>th σ H2 λu H3=>r x l u H3 Q
theorem wK (hr:GJ X r) (he:PE X e te) (hl:PO X lo tl) (hu:PO X hi th):PE X (.Subscript e (.Slice lo hi none p2) pos) (NP r te tl th):=by
 intro π s σ H Q I h;refine Subscript_ (bE (he π s σ H _ I h) λv s1 z9=>?_);obtain⟨x,H1,I1,Z,q1⟩:=z9;refine wpAny_Slice (bE (hl π s1 σ H1 _ I1 q1) λL s2 ⟨l,H2,I2,pl,q2⟩=>bE (hu π s2 σ H2 _ I2 q2) λB s3 z9=>?_);obtain⟨u,S,I3,pu,q3⟩:=z9;rw[evalPart_none];refine wpAny_pure ?_;have I4:aw X π σ S { s3 with heap:=s3.heap.push { cls:= .type "slice",data:= .fields #[L,B,.none] } }:=I3.kept (t':=s3.toks) λb ob q=>ybz _ q;obtain⟨T,id,hT,ht,Y⟩:=hr π { s3 with heap:=s3.heap.push { cls:= .type "slice",data:= .fields #[L,B,.none] } } σ S x v L B l u s3.heap.objs.size Q I4 Z (Heap.IsSliceOf.new ..) pl pu q3;show wpAny (model X.prog X.w) X.A (subscriptTail e (.Slice lo hi none p2) v (.ref s3.heap.objs.size)) (EP X π σ Q) X.xe { s3 with heap:=s3.heap.push { cls:= .type "slice",data:= .fields #[L,B,.none] } };exact tail_any (ops:=[.ref s3.heap.objs.size,v]) ht hT Y (by with_unfolding_all rfl)
noncomputable def nJ (xs:List V) (lo hi:Option Int):List V:=(xs.drop (_H.sIx xs.length 0 lo)).take (_H.sIx xs.length xs.length hi-_H.sIx xs.length 0 lo)
theorem iK (xs:List V) (lo hi:Option Int):(nJ xs lo hi).length<=xs.length:=by
 unfold nJ;rw[length_take,length_drop];exact ycy (Nat.min_le_right _ _) (Nat.sub_le _ _)
def KP (K:yav):V->Option Int->Option Int->Hp->VK->Prop:=λx lo hi H Q=>∃a xs,x=.ref a/\dG K H a xs/\
 ¬(_H.sIx xs.length 0 lo=0/\_H.sIx xs.length xs.length hi=xs.length)/\∀p,H p=none->Q (.ref p) (upd H p (.tup (nJ xs lo hi)))
theorem DO:GJ X (KP X.K):=by
 intro π s σ H x v vl vu lo hi sl Q I rx Z pl pu h;obtain⟨a,xs,rfl,hx,hw,q⟩:=h;cases rx;obtain⟨L,r,S,Y⟩:=I.tuple hx;have B:L.toArray.size=xs.length:=by rw[size_toArray];exact r.length.symm
 refine⟨"tuple",_,PyProof.Rows.slot_tuple_getitem.lookup,S.typeIs,?_⟩;refine _H.getItem_tuple_cut S Z pl pu (by rw[B];exact hw) ?_ (by rw[B];exact Y);rw[B];refine⟨.ref s.heap.objs.size,_,I.laid (t':=s.toks) (o:= .tup (nJ xs lo hi)) (λb ob q=>ybz _ q) (ycx _) ?_,rfl,q _ (I.hok.fresh (ycx _))⟩;exact⟨ycy (iK xs lo hi) Y,_,(r.drop (_H.sIx xs.length 0 lo)).take (_H.sIx xs.length xs.length hi-_H.sIx xs.length 0 lo),IsTup.new _ _⟩
def GK (K:yav):R2:=λx y H Q=>∃a b xs ys,x=.ref a/\y=.ref b/\dG K H a xs/\dG K H b ys/\xs≠[]/\xs.length+ys.length<=sizeLine/\
 (ys=[]->Q (.ref a) H)/\(ys≠[]->∀p,H p=none->Q (.ref p) (upd H p (.tup (xs++ys))))
theorem aK.nil_iff (r:aK xs us):us=[]↔xs=[]:=by
 cases r with
 | nil=>simp
 | cons _ _=>simp
theorem Al:hV X (binaryOp .Add) (GK X.K):=by
 intro π s σ H x y v u Q I rx ry h;obtain⟨a,b,xs,ys,rfl,rfl,ha,hb,hx,S,q1,Z⟩:=h;cases rx;cases ry;obtain⟨ab,L,p1,_⟩:=I.tuple ha;obtain⟨Y,B,p2,_⟩:=I.tuple hb;refine _H.cat_tup p1 p2 (λz=>hx (L.nil_iff.mp z)) (λz=>⟨.ref a,H,I,rfl,q1 (B.nil_iff.mp z)⟩) (λz=>?_) (by rw[←L.length,←B.length];exact S);refine⟨.ref s.heap.objs.size,_,I.laid (t':=s.toks) (o:= .tup (xs++ys)) (λb ob q=>ybz _ q) (ycx _) ?_,rfl,Z (λw=>z (B.nil_iff.mpr w)) _ (I.hok.fresh (ycx _))⟩;exact⟨by rw[length_append];exact S,_,L.append B,IsTup.new _ _⟩
end
noncomputable def wL (n:Nat) (i:Int):Option Nat:=if 0<=i then (if i<n then some i.toNat else none) else if -(n:Int)<=i then some (i+n).toNat else none
noncomputable def dQ {α:Type} (xs:List α) (i:Int):Option α:=(wL xs.length i).bind λj=>xs[j]?
theorem Am {n:Nat} {i:Int} {j:Nat} (h:wL n i=some j):seqIndex? i n=some j/\j<n/\-(n:Int)<=i/\i<n:=by
 unfold wL at h
 by_cases h0:0<=i
 ·rw[ycv h0] at h
  by_cases h1:i<n
  ·rw[ycv h1] at h;have e:i.toNat=j:=Option.some.inj h;exact⟨by rw[seqIndex_of h0 h1,e],by lia,by lia,h1⟩
  ·rw[ycw h1] at h;cases h
 ·rw[ycw h0] at h
  by_cases h1: -(n:Int)<=i
  ·rw[ycv h1] at h;have e:(i+n).toNat=j:=Option.some.inj h;exact⟨by rw[seqIndex_neg (by lia) h1,e],by lia,h1,by lia⟩
  ·rw[ycw h1] at h;cases h
theorem lL {α:Type} {xs:List α} {i:Int} {v:α} (h:dQ xs i=some v):∃j,seqIndex? i xs.length=some j/\xs[j]?=some v/\j<xs.length/\-(xs.length:Int)<=i/\i<xs.length:=by
 unfold dQ at h;cases e:wL xs.length i with
 | none=>rw[e] at h;cases h
 | some j=>
   rw[e] at h;obtain⟨h1,h2,L,B⟩:=Am e;exact⟨j,h1,h,h2,L,B⟩
theorem aA {α:Type} {xs:List α} {j:Nat} {v:α} (h:xs[j]?=some v):dQ xs (j:Int)=some v:=by
 have B:j<xs.length:=(List.getElem?_eq_some_iff.mp h).1;have e:wL xs.length (j:Int)=some j:=by
  unfold wL;rw[ycv (by lia),ycv (by lia)];simp
 unfold dQ;rw[e];exact h
def sI (b:Expr):Prop:=∀o i,subscripted b false o i=operate [o,i] (getItem o i)
def GL (X:Cx) (r:R2):Prop:=
 ∀(value slice:Expr) (π:List (Addr×Obj)) (s:Shared) (σ:St) (H:Hp) (x y:V) (v u:Value) (Q:VK),aw X π σ H s->aT x v->aT y u->r x y H Q->
  subscripted slice false v u=operate [v,u] (getItem v u)->wpAny (model X.prog X.w) X.A (subscriptTail value slice v u) (EP X π σ Q) X.xe s
def Cp (X:Cx) (id:String) (r:V->List V->Hp->VK->Prop):Prop:=
 ∀(π:List (Addr×Obj)) (s:Shared) (σ:St) (H:Hp) (x:V) (xs:List V) (v:Value) (us:yez) (Q:VK),aw X π σ H s->aT x v->aK xs us->r x xs H Q->
  wpAny (model X.prog X.w) X.A (call (.builtin id) (v::us)) (EP X π σ Q) X.xe s
section
variable {a b:Expr} {ta tb:TE}
theorem GM (hr:GL X r) (S:PE X a ta) (hb:PE X b tb) (Y:sI b):PE X (.Subscript a b pos) (Gs r ta tb):=by
 intro π s σ H Q I h;exact Subscript_ (DA S hb I h λv u s2 x y H2 B rx L q=>hr a b π s2 σ H2 x y v u Q B rx L q (Y _ _))
def KQ (K:yav):R2:=λx y H Q=>∃p xs i v,x=.ref p/\y=.int i/\cG K H p xs/\dQ xs i=some v/\Q v H
def KR (K:yav):R2:=λx y H Q=>∃p xs i v,x=.ref p/\y=.int i/\dG K H p xs/\dQ xs i=some v/\Q v H
def KS:R2:=λx y H Q=>∃z i c,x=.str z/\y=.int i/\z.length<=sizeLine/\dQ z.cps.toList i=some c/\Q (.str ⟨#[c]⟩) H
theorem sJ:GL X (KQ X.K):=by
 intro value Y π s σ H x y v u Q I rx ry h hs;obtain⟨p,xs,i,z,rfl,rfl,hq,he,q⟩:=h;cases rx;obtain⟨t,rfl⟩:=ry;obtain⟨S,r,pl,hz⟩:=I.list hq;obtain⟨j,h1,h2,h3,h4,h5⟩:=lL he;obtain⟨w,ew,L⟩:=r.get h2;have hl:=r.length;have hn:=jo;have B:EP X π σ Q w s:=⟨z,H,I,L,q⟩
 by_cases h0:0<=i
 ·have Z:i.toNat=j:=by
   rw[seqIndex_of h0 h5] at h1;exact Option.some.inj h1
  exact item_listR pl.isList h0 (by lia) (by rw[Z];simpa using ew) B hs
 ·have Z:(i+(S.toArray.size:Int)).toNat=j:=by
   rw[seqIndex_neg (by lia) h4] at h1;rw[size_toArray,←hl];exact Option.some.inj h1
  exact subscriptTail_builtinR (x:=w) pl.isList.typeIs slot_list_getitem.lookup
   (wpAny_getItem_list_neg (Q:=λr s'=>r=w/\EP X π σ Q r s') pl.isList (by lia) (by rw[size_toArray]<;> lia) (by lia) (by rw[Z];simpa using ew) ⟨rfl,B⟩) hs
theorem DQ:GL X (KR X.K):=by
 intro value L π s σ H x y v u Q I rx ry h Y;obtain⟨p,xs,i,z,rfl,rfl,hq,he,q⟩:=h;cases rx;obtain⟨t,rfl⟩:=ry;obtain⟨Z,r,pl,hz⟩:=I.tuple hq;obtain⟨j,h1,h2,h3,h4,h5⟩:=lL he;obtain⟨w,ew,B⟩:=r.get h2;have hl:=r.length;have hn:=jo;have S:EP X π σ Q w s:=⟨z,H,I,B,q⟩;exact subscriptTail_builtinR (x:=w) pl.typeIs slot_tuple_getitem.lookup
  (getItem_tuple (j:=j) (Q:=λr s'=>r=w/\EP X π σ Q r s') pl (by lia) (by lia) (by rw[size_toArray,←hl];exact h1) (by simpa using ew) ⟨rfl,S⟩) Y
theorem DR:GL X KS:=by
 intro value B π s σ H x y v u Q I rx ry h L;obtain⟨z,i,c,rfl,rfl,hz,he,q⟩:=h;obtain⟨t,rfl⟩:=rx;obtain⟨t',rfl⟩:=ry;obtain⟨j,h1,h2,h3,h4,Z⟩:=lL he;have Y:z.cps.toList.length=z.length:=by simp[Str.length]
 rw[Y] at h1 h4 Z;have hn:=jo;exact tail_any (typeIs_str s z t) slot_str_getitem.lookup (getItem_str (c:=c) (by
  have S:decide (i< -(2^63:Int))=false:=ydy (by lia);have e2:decide (i≥2^63)=false:=ydy (by lia);rw[S,e2,Bool.or_false]) (by rw[h1];simpa using h2) ⟨.str ⟨#[c]⟩,H,I.tok _,⟨_,rfl⟩,q⟩) L
theorem lM (lo hi:Option Int) (n:Nat):(sliceBounds lo hi none n).1=((_H.sIx n 0 lo:Nat):Int)/\(sliceBounds lo hi none n).2.1=((_H.sIx n n hi:Nat):Int)/\(sliceBounds lo hi none n).2.2=1:=by
 refine⟨?_,?_,rfl⟩
 ·cases lo with
  | none=>simp[sliceBounds,_H.sIx]
  | some i=>
    simp only[sliceBounds,_H.sIx,Option.getD_none,show(1:Int) > 0 by decide,if_true]
    by_cases h:i<0
    ·rw[ycv h,ycv h,Int.ofNat_toNat,Int.max_comm,Int.min_eq_left (by lia)]
    ·rw[ycw h,ycw h,←_H.cmin,Int.toNat_of_nonneg (Int.not_lt.mp h)];exact Int.max_eq_right (Int.le_min.mpr ⟨Int.not_lt.mp h,Int.natCast_nonneg n⟩)
 ·cases hi with
  | none=>simp[sliceBounds,_H.sIx]
  | some i=>
    simp only[sliceBounds,_H.sIx,Option.getD_none,show(1:Int) > 0 by decide,if_true]
    by_cases h:i<0
    ·rw[ycv h,ycv h,Int.ofNat_toNat,Int.max_comm,Int.min_eq_left (by lia)]
    ·rw[ycw h,ycw h,←_H.cmin,Int.toNat_of_nonneg (Int.not_lt.mp h)];exact Int.max_eq_right (Int.le_min.mpr ⟨Int.not_lt.mp h,Int.natCast_nonneg n⟩)
theorem ko (B:yez) (lo hi:Option Int):slicePick B.toArray lo hi none=((B.drop (_H.sIx B.length 0 lo)).take (_H.sIx B.length B.length hi-_H.sIx B.length 0 lo)).toArray:=by
 obtain⟨h1,h2,L⟩:=lM lo hi B.toArray.size;unfold slicePick;rw[h1,h2,L];simp only[sliceRange_one,pick_run,size_toArray]<;> rfl
def KT (K:yav):V->Option Int->Option Int->Hp->VK->Prop:=λx lo hi H Q=>∃a xs,x=.ref a/\cG K H a xs/\∀p,H p=none->Q (.ref p) (upd H p (.lst (nJ xs lo hi)))
theorem sK:GJ X (KT X.K):=by
 intro π s σ H x v vl vu lo hi sl Q I rx S pl pu h;obtain⟨a,xs,rfl,Z,q⟩:=h;cases rx;obtain⟨ab,r,L,Y⟩:=I.list Z;have B:=r.length;refine⟨"list",_,slot_list_getitem.lookup,L.isList.typeIs,?_⟩;refine wpAny_getItem_list_slice L.isList S pl pu .none (by simp) ?_ (by rw[size_toArray]<;> lia);rw[ko,←B];refine⟨.ref s.heap.objs.size,_,I.laid (t':=s.toks) (o:= .lst (nJ xs lo hi)) (λb ob q=>ybz _ q) (ycx _) ?_,rfl,q _ (I.hok.fresh (ycx _))⟩;exact⟨ycy (iK xs lo hi) Y,_,0,(r.drop (_H.sIx xs.length 0 lo)).take (_H.sIx xs.length xs.length hi-_H.sIx xs.length 0 lo),ybw _ rfl⟩
theorem cY:eR X (.builtin "len") (λxs H Q=>∃p ys,xs=[.ref p]/\(cG X.K H p ys∨dG X.K H p ys)/\Q (.int ys.length) H):=by
 intro π s σ H xs us Q I r h;obtain⟨p,ys,rfl,L,q⟩:=h;obtain⟨u,rfl,rx⟩:=cC r;cases rx;have hn:=jo;rcases L with L | L
 ·obtain⟨S,Y,pl,Z⟩:=I.list L;have B:=Y.length;exact Calls.call_len_list pl.isList (by simp only[size_toArray]<;> lia) ⟨.int ys.length,H,I.tok _,⟨s.toks+1,by rw[size_toArray,B]⟩,q⟩
 ·obtain⟨S,Y,pl,Z⟩:=I.tuple L;have B:=Y.length;exact len_tuple pl (by simp only[size_toArray]<;> lia) ⟨.int ys.length,H,I.tok _,⟨s.toks+1,by rw[size_toArray,B]⟩,q⟩
theorem lN:eR X (.builtin "len") (λxs H Q=>∃z,xs=[.str z]/\z.length<=sizeLine/\Q (.int z.length) H):=by
 intro π s σ H xs us Q I r h;obtain⟨z,rfl,B,q⟩:=h;obtain⟨u,rfl,t,rfl⟩:=cC r;have L:=jo;exact len_str (by lia) ⟨.int z.length,H,I.tok _,⟨_,rfl⟩,q⟩
theorem gI:eR X (.type "list") (λxs H Q=>∃p ys,xs=[.ref p]/\(cG X.K H p ys∨dG X.K H p ys)/\∀l,H l=none->Q (.ref l) (upd H l (.lst ys))):=by
 intro π s σ H xs us Q I r h;obtain⟨p,ys,rfl,hq,q⟩:=h;obtain⟨u,rfl,rx⟩:=cC r;cases rx;have ad:∀(B:yez),aK ys B->ys.length<=sizeLine->∀(h':Heap) (S:Nat),(∀b o',s.heap.get? b=some o'->h'.get? b=some o')->
  h'.get? s.heap.objs.size=some { cls:= .type "list",dict:=none,data:= .seq B.toArray S,slots:= #[] }->EP X π σ Q (.ref s.heap.objs.size) { s with heap:=h' }:=λB L Z h' S Y e=>
  ⟨.ref s.heap.objs.size,_,I.laid (t':=s.toks) Y (ycx _) (show bH X.prog X.w _ h' _ (.lst ys) from ⟨Z,B,S,L,e⟩),rfl,q _ (I.hok.fresh (ycx _))⟩
 rcases hq with hq | hq
 ·obtain⟨B,L,pl,Z⟩:=I.list hq;have ab:=L.length;obtain⟨o,ho,hc,n,hd⟩:=pl.isList;exact call_list_seq p (.inl rfl) ho hc hd (λh' S Y e=>ad B L Z h' S Y e) (by simp only[size_toArray]<;> lia)
 ·obtain⟨B,L,pl,Z⟩:=I.tuple hq;have ab:=L.length;obtain⟨o,ho,hc,n,hd⟩:=pl;exact call_list_seq p (.inr rfl) ho hc hd (λh' S Y e=>ad B L Z h' S Y e) (by simp only[size_toArray]<;> lia)
theorem fM:eR X (.type "tuple") (λxs H Q=>∃p ys,xs=[.ref p]/\((cG X.K H p ys/\∀l,H l=none->Q (.ref l) (upd H l (.tup ys)))∨(dG X.K H p ys/\Q (.ref p) H))):=by
 intro π s σ H xs us Q I r h;obtain⟨p,ys,rfl,h⟩:=h;obtain⟨u,rfl,rx⟩:=cC r;cases rx;rcases h with⟨L,q⟩ | ⟨L,q⟩
 ·obtain⟨B,S,pl,Y⟩:=I.list L;have ab:=S.length;refine call_tuple_list pl.isList (λh' kp=>?_) (by simp only[size_toArray]<;> lia);have Z:aw X π σ H { s with heap:=h' }:=I.kept (t':=s.toks) kp;have I2:aw X π σ (upd H h'.objs.size (.tup ys)) { s with heap:=h'.push { cls:= .type "tuple",data:= .seq B.toArray } }:=
   Z.laid (t':=s.toks) (λb o e=>ybz _ e) (ycx _) (show bH X.prog X.w _ _ _ (.tup ys) from ⟨Y,B,S,IsTup.new _ _⟩)
  exact⟨.ref h'.objs.size,_,I2,rfl,q _ (Z.hok.fresh (ycx _))⟩
 ·obtain⟨B,S,pl,Y⟩:=I.tuple L;exact call_tuple_same pl ⟨.ref p,H,I,rfl,q⟩
def KU (K:yav) (T:String) (x:V) (H:Hp):Prop:=match x with
 | .str _=>T="str"
 | .int _=>T="int"
 | .ref p=>(T="list"/\∃xs,cG K H p xs)∨(T="tuple"/\∃o,K.lookup p=some o/\o.cls=.type "tuple"/\o.dict=none)∨
    (T="dict"/\((∃kvs,H p=some (.dK kvs))∨∃kvs,H p=some (.dT kvs)))∨(T="set"/\∃S n,H p=some (.set S n))
 | _=>False
theorem wN {σ:St} {H:Hp} {T:String} {x:V} {v:Value} (I:aw X π σ H s) (r:aT x v) (ty:KU X.K T x H):
 s.TypeIs v T/\∀a,v=.ref a->∃Z,s.heap.get? a=some Z/\Z.dict=none:=by
 cases x with
 | str z=>
   obtain⟨t,rfl⟩:=r;cases (show T="str" from ty);exact⟨typeIs_str s z t,λ_ e=>nomatch e⟩
 | int i=>
   obtain⟨t,rfl⟩:=r;cases (show T="int" from ty);exact⟨typeIs_int s i t,λ_ e=>nomatch e⟩
 | ref p=>
   cases r;rcases ty with⟨rfl,xs,hq⟩ | ⟨rfl,o,B,hc,Y⟩ | ⟨rfl,B⟩ | ⟨rfl,S,n,B⟩
   ·obtain⟨ab,_,pl,_⟩:=I.list hq;refine⟨pl.isList.typeIs,λa e=>?_⟩;cases e;obtain⟨o,n,e,c,Y,_⟩:=pl;exact⟨o,e,Y⟩
   ·refine⟨⟨o,I.kIn p o B,hc⟩,λa e=>?_⟩;cases e;exact⟨o,I.kIn _ o B,Y⟩
   ·have z:∃o,s.heap.get? p=some o/\o.ExactDict:=by
     rcases B with⟨kvs,B⟩ | ⟨kvs,B⟩
     ·obtain⟨_,_,_,_,o,_,_,e,ex,_⟩:=I.hok p _ B;exact⟨o,e,ex⟩
     ·obtain⟨_,_,_,_,o,_,_,e,ex,_⟩:=I.hok p _ B;exact⟨o,e,ex⟩
    obtain⟨o,e,ex⟩:=z;refine⟨⟨o,e,ex.1⟩,λa L=>?_⟩;cases L;exact⟨o,e,ex.2.1⟩
   ·obtain⟨o,_,_,_,e,ex,_⟩:=I.hok p _ B;refine⟨⟨o,e,ex.1⟩,λa L=>?_⟩;cases L;exact⟨o,e,ex.2.1⟩
 | _=>exact False.elim ty
def KW (K:yav) (T:String) (r:V->List V->Hp->VK->Prop) (to:TE):TE:=λσ H Q=>to σ H λx H1=>KU K T x H1/\r x [] H1 Q
def NQ (K:yav) (T:String) (r:V->List V->Hp->VK->Prop) (to:TE) (t:TA):TE:=λσ H Q=>to σ H λx H1=>KU K T x H1/\t σ H1 λxs H2=>r x xs H2 Q
variable {o:Expr} {to:TE} {t:TA} {name:Str} {apos cpos:Pos} {T id:String} {r:V->List V->Hp->VK->Prop}
theorem wO (pa:PlainAttrs T) (S:Slot T name id) (Y:typeOf (.builtin id)=pure (.type "method_descriptor")) (hm:Cp X id r) (ho:PE X o to)
 (L:attributeBase o name X.env (eval o X.env)=eval o X.env:=by rfl) (B:(apos.endLine==cpos.line)=true:=by rfl):PE X (.Call (.Attribute o name apos) [] [] cpos) (KW X.K T r to):=by
 intro π s σ H Q I h;refine wpAny_Call_method0_late L B (bE (ho π s σ H _ I h) λv s1 z9=>?_);obtain⟨x,H1,I1,Z,ty,q1⟩:=z9;obtain⟨h1,h2⟩:=wN I1 Z ty;exact⟨T,id,pa,S,Y,h1,h2,Calls.callWith_builtin rfl (PySem.evalArgs_none (hm π s1 σ H1 x [] v [] Q I1 Z .nil q1))⟩
theorem jt (pa:PlainAttrs T) (Y:Slot T name id) (ab:typeOf (.builtin id)=pure (.type "method_descriptor")) (hm:Cp X id r) (ho:PE X o to) (ha:PA X (e::es) t)
 (L:attributeBase o name X.env (eval o X.env)=eval o X.env:=by rfl)
 (Z:((backTo cpos (starEach (e::es) X.env)).all (λx=>!x.1)&&(backToKw cpos (keywordEach [] X.env)).all (λx=>x.1.isSome)
   &&decide ((e::es).length+([]:List Keyword).length+(if ([]:List Keyword).isEmpty then 0 else 1)<30))=true:=by rfl)
 (S:(apos.endLine==cpos.line)=true:=by rfl) (hs:seZ X e es:=by rfl) (B:plZ cpos X es:=by rfl):
 PE X (.Call (.Attribute o name apos) (e::es) [] cpos) (NQ X.K T r to t):=by
 intro π s σ H Q I h;refine wpAny_Call_method_late L Z S rfl (bE (ho π s σ H _ I h) λv s1 z9=>?_);obtain⟨x,H1,I1,r1,ty,q1⟩:=z9;obtain⟨h1,h2⟩:=wN I1 r1 ty;refine⟨T,id,pa,Y,ab,h1,h2,?_⟩;have hA:=ha cpos π s1 σ H1 _ I1 q1;rw[hs] at hA ⊢;refine Calls.callWith_builtin (by show(false||(backTo cpos (starEach es X.env)).any (·.1))=false;rw[B]<;> rfl) (Calls.evalArgs_plain ?_);exact bE hA λus s2 z9=>(by obtain⟨vs,H2,I2,r2,q2⟩:=z9;exact hm π s2 σ H2 x vs v us Q I2 r1 r2 q2)
end
def KY (X:Cx) (id:String) (r:V->List V->Hp->VK->Prop):Prop:=
 ∀(π:List (Addr×Obj)) (s:Shared) (σ:St) (H:Hp) (x:V) (xs:List V) (v:Value) (us:yez) (Q:VK),aw X π σ H s->aT x v->aK xs us->r x xs H Q->
  wpAny (model X.prog X.w) X.A (call (.builtin id) (v::us)) (EP X π σ Q) X.xe s
theorem aK.one:∀{x:V} {us:yez},aK [x] us->∃u,us=[u]/\aT x u
 | _,_,.cons r .nil=>⟨_,rfl,r⟩
theorem aK.zero:∀{us:yez},aK [] us->us=[]
 | _,.nil=>rfl
theorem aK.dropLast (h:aK xs us):aK xs.dropLast us.dropLast:=by
 induction h with
 | nil=>exact .nil
 | cons r t ih=>
   cases t with
   | nil=>exact .nil
   | cons q t'=>exact .cons r ih
theorem aK.rep (h:aK xs us):∀k:Nat,aK (List.replicate k xs).flatten (List.replicate k us).flatten
 | 0=> .nil
 | k+1=>by
   rw[replicate_succ,replicate_succ,flatten_cons,flatten_cons];exact aK.append h (aK.rep h k)
theorem pZ {α:Type} (l:List α):l.eraseIdx (l.length-1)=l.dropLast:=by
 induction l with
 | nil=>rfl
 | cons a r ih=>
   cases r with
   | nil=>rfl
   | cons b r=>
     rw[show(a::b::r).length-1=((b::r).length-1)+1 from rfl,List.eraseIdx_cons_succ,ih]
     all_goals rfl
section
variable {l b:Addr} {xs ys zs:List V}
theorem aw.lset {B its':yez} {n:Nat} {f:Array Value->Array Value} {t':Nat} (I:aw X π σ H s) (hH:H l=some (.lst xs))
 (e:s.heap.get? l=some { cls:= .type "list",data:= .seq B.toArray n }) (Y:f B.toArray=its'.toArray) (Z:aK ys its') (S:ys.length<=sizeLine):
 aw X π σ (upd H l (.lst ys)) { s with heap:=s.heap.update l (Obj.mapSeq f),toks:=t' }:=by
 have q:=PySem.IsL.update e f;rw[Y] at q;refine I.write (x:=l) (e:=l) (by rw[hH];exact trivial) (.inl rfl) (λb' u hb L=>(Heap.get?_update_other s.heap (Obj.mapSeq f) (Ne.symm hb)).trans L) ⟨_,q⟩ ?_;exact⟨S,its',_,Z,q⟩
theorem aw.lnew (I:aw X π σ H s) (S:aK ys B) (L:ys.length<=sizeLine):
 aw X π σ (upd H s.heap.objs.size (.lst ys)) { s with heap:=s.heap.push { cls:= .type "list",data:= .seq B.toArray },toks:=t' }:=
 I.laid (λ_ _ q=>ybz _ q) (ycx _) ⟨L,B,0,S,ybw _ rfl⟩
theorem aw.fresh (I:aw X π σ H s):H s.heap.objs.size=none:=I.hok.fresh (ycx _)
theorem aw.lstM (I:aw X π σ H s) (L:H l=some (.lst xs)):xs.length<=sizeLine/\∃(B:yez) (n:Nat),aK xs B/\xs.length=B.length/\s.heap.get? l=some { cls:= .type "list",data:= .seq B.toArray n }:=by
 obtain⟨z,B,n,r,e⟩:=I.hok l _ L;exact⟨z,B,n,r,r.length,e⟩
theorem wP (h:n<=sizeLine):Builtin.List.listTooLong n=false:=by
 unfold Builtin.List.listTooLong;exact ydy (by lia)
end
def An:V->List V->Hp->VK->Prop:=λx vs H Q=>∃l xs y,x=.ref l/\vs=[y]/\H l=some (.lst xs)/\xs.length<sizeLine/\Q .non (upd H l (.lst (xs++[y])))
theorem uZ:KY X "list.append" An:=by
 intro π s σ H x vs v us Q I rx Y h;obtain⟨l,xs,y,rfl,rfl,L,Z,q⟩:=h;cases rx;obtain⟨u,rfl,S⟩:=Y.one;obtain⟨z,B,n,r,hl,e⟩:=I.lstM L;refine call_meets F.slot_list_append ⟨_,e,rfl⟩ F.entry_list_append (F.args_list_append_2 _ _) (PySem.list_append l B.toArray n u (by rw[size_toArray];lia)) ⟨e,?_⟩;refine⟨.non,_,I.lset (its':=B++[u]) L e (by simp) (r.append (.cons S .nil)) ?_,rfl,q⟩;rw[length_append,length_singleton];lia
def Ao:V->List V->Hp->VK->Prop:=λx vs H Q=>∃l b xs zs,x=.ref l/\vs=[.ref b]/\H l=some (.lst xs)/\H b=some (.lst zs)/\xs.length+zs.length<=sizeLine/\Q .non (upd H l (.lst (xs++zs)))
theorem u0:KY X "list.extend" Ao:=by
 intro π s σ H x vs v us Q I rx rv h;obtain⟨l,b,xs,zs,rfl,rfl,Y,hB,hz,q⟩:=h;cases rx;obtain⟨u,rfl,Z⟩:=rv.one;cases Z;obtain⟨z,L,n,r,hl,e⟩:=I.lstM Y;obtain⟨z2,B,n2,r2,ab,e2⟩:=I.lstM hB;have hsz:L.toArray.size+B.toArray.size<=sizeLine:=by rw[size_toArray,size_toArray];lia
 have S:¬(!L.toArray.isEmpty&&Builtin.List.listTooLong (L.toArray.size+B.toArray.size))=true:=by
  rw[wP hsz,Bool.and_false];exact ydx
 refine call_meets F.slot_list_extend ⟨_,e,rfl⟩ F.entry_list_extend (F.args_list_extend_2 _ _)
  (AutoSeq1.list_extend_list_list_0 l L.toArray n b B.toArray n2 S (by rw[size_toArray];lia) (by lia)) ⟨e,e2,?_⟩
 refine⟨.non,_,I.lset (its':=L++B) Y e (by simp) (r.append r2) ?_,rfl,q⟩;rw[length_append];lia
def KZ:V->List V->Hp->VK->Prop:=λx vs H Q=>∃l xs y,x=.ref l/\vs=[]/\H l=some (.lst xs)/\xs[xs.length-1]?=some y/\Q y (upd H l (.lst xs.dropLast))
theorem DS:KY X "list.pop" KZ:=by
 intro π s σ H x vs v us Q I rx rv h;obtain⟨l,xs,y,rfl,rfl,Y,Z,q⟩:=h;cases rx;have L:=rv.zero;subst L;obtain⟨z,B,n,r,hl,e⟩:=I.lstM Y;obtain⟨u,hu,ru⟩:=r.get Z;have S:B.toArray[B.toArray.size-1]?=some u:=by
  show B.toArray[B.length-1]?=some u;rw[←Array.getElem?_toList,←hl];exact hu
 refine call_meets F.slot_list_pop ⟨_,e,rfl⟩ F.entry_list_pop (F.args_list_pop_1 _) (MeetsSeq.list_pop_last l B.toArray n u S (by rw[size_toArray];lia)) ⟨e,?_⟩;refine⟨y,_,I.lset (its':=B.dropLast) Y e ?_ r.dropLast ?_,ru,q⟩
 ·show B.toArray.eraseIdxIfInBounds (B.toArray.size-1)=B.dropLast.toArray;rw[size_toArray,List.eraseIdxIfInBounds_toArray,pZ]
 ·rw[List.length_dropLast];lia
def K0:R2:=λx y H Q=>∃l b xs zs,x=.ref l/\y=.ref b/\H l=some (.lst xs)/\H b=some (.lst zs)/\xs.length+zs.length<=sizeLine/\∀p,H p=none->Q (.ref p) (upd H p (.lst (xs++zs)))
theorem DT:hV X (binaryOp .Add) K0:=by
 intro π s σ H x y v u Q I rx ry h;obtain⟨l,b,xs,zs,rfl,rfl,hH,Y,hz,q⟩:=h;cases rx;cases ry;obtain⟨z,L,n,r,hl,e⟩:=I.lstM hH;obtain⟨z2,B,n2,r2,ab,Z⟩:=I.lstM Y;refine PySem.P.add_list e Z ?_ (by rw[size_toArray,size_toArray];lia);have S:L.toArray++B.toArray=(L++B).toArray:=by simp
 rw[S];exact⟨.ref _,_,I.lnew (t':=s.toks) (r.append r2) (by rw[length_append];lia),rfl,q _ I.fresh⟩
section
set_option maxRecDepth 100000 in
end
end _L
namespace _A
open PySem PySem.W PySem.Calls PyProof.Rows
theorem iY {P:Params}:∀(ns:List Int) (vs:yez),WellAll P h vs (ns.map WData.int)->IntsAre vs ns:=by
 intro ns
 induction ns with
 | nil=>
   intro vs w;rw[map_nil] at w;cases w;exact .nil
 | cons n ns ih=>
   intro vs w;rw[map_cons] at w;cases w with
   | cons a b=>
     cases a;exact .cons _ _ (ih _ b)
theorem u3 {l:OpenLaw} {n:Nat} (hn:l.most=some n) {P:Params} {args:List WData} 
 (B:l.row.toRowW.claim.pre args=true) (ad:WellAll P h vals args):
 ∃a vs ns,vals=[Value.ref a]/\args=[WData.list (ns.map WData.int)]/\h.get? a=some { cls:= .type "list",data:= .seq vs.toArray }/\IntsAre vs ns/\ns.length<=n:=by
 have ab:WShape.hasAll [] args [.list .int]=true:=(pre_splitW B).1;have hc:l.pre.holds [] { args:=args }=true:=(pre_splitW B).2;obtain⟨d,r,rfl,h1,h2⟩:=hasAllW_cons ab;obtain rfl:=hasAllW_nil h2;obtain⟨xs,rfl,h3⟩:=hasW_list h1;obtain⟨ns,rfl⟩:=items_int h3;have L:ns.length<=n:=by
  unfold OpenLaw.pre at hc;have Z:(WTm.not (.lt (.lit (.int (n:Int))) (.len (.arg 0)))).holds [] { args:=[.list (ns.map .int)] }=true:=by
   have Z:=(holds_andW hc).1;rw[hn] at Z;exact Z
  have Y:=condW_of Z (w_not (w_lt w_lit (w_len_list (w_arg rfl))));rw[length_map] at Y;refine Nat.le_of_not_lt λq=>?_;have q':(n:Int)<((ns.length:Nat):Int):=by lia
  first
   | (rw[ydz q'] at Y;exact absurd Y (by decide))
   | (simp at Y;lia)
 cases ad with
 | cons w1 w2=>
   cases w2;cases w1 with
   | list ho S=>exact⟨_,_,ns,rfl,rfl,ho,iY ns _ S,L⟩
theorem ve (l:OpenLaw) (args:List WData):l.row.toRowW.claim.post args (.bool true) args=true:=
 postW_of (r:=l.row.toRowW) (X:=(true==true))
  (show WShape.has [] (.bool true) .bool=true by first | rfl | decide | simp[WShape.has,WShape.arms,WShape.armsAll])
  (show(WTm.eq .res (.lit (.bool true))).value [] { args:=args,res:=some (.bool true),after:=args }=some (.bool (true==true)) from w_eq_bool (w_res rfl) w_lit) rfl
theorem attach_call {l:OpenLaw} {n:Nat} {XP:(Str->Option Value)->Heap->Prop} {YP:World->Heap->Prop} {d:DefRec}
 (hn:l.most=some n) (az:d.params.defaults=[])
 (call:∀(w:World) (L B:Shared) (mg mb:yew) (fa:Addr) (o:Obj) (pm cd doc:Value) (a:Addr) (vs:yez) (ns:List Int),
   Ground q S [] XP w L mg mb B.heap->YP w B.heap->
   B.heap.get? fa=some o->o.data=.func (docDef d.name d.params d.body d.scope pm cd doc)->B.heap.CodeRec cd d.name->mg d.name=some (.ref fa)->
   B.heap.get? a=some { cls:= .type "list",data:= .seq vs.toArray }->IntsAre vs ns->ns.length<=n->B.gens= #[]->
   codeAny (model l.prog w) callerA (.call (.ref fa) ⟨[.ref a],[]⟩) (λr s'=>r=.ok (.ret (.bool true))/\OldK B.heap s'.heap/\s'.os=B.os/\AllBare s'.gens) B):
 WalkO q S XP YP l.row.toRowW d [] (λf vs=>PySem.call f vs):=by
 intro w L B mg mb G Y fa o pm cd doc dV kV ho hd ai hD aj hg a1 vals as af a0 a2 ar a3;obtain rfl:dV=.none:=Dflts.none hD az;obtain rfl:kV=.none:=Dflts.noKw hD;obtain⟨a,vs,ns,rfl,rfl,ab,Z,ad⟩:=u3 hn af ar;refine enter_call (codeAny_mono (call w L B mg mb fa o pm cd doc a vs ns G Y ho (fd_plain hd) ai aj ab Z ad hg) λr s' hq=>?_);obtain⟨rfl,h2,h3,h4⟩:=hq;exact⟨.inl ⟨.bool true,.bool true,[],rfl,λ_=>rfl,.bool true,ve l _,λ_=>⟨List.Pairwise.nil,λ_ hm=>(nomatch hm)⟩⟩,h2,h3,h4⟩
end _A
namespace _L
open PySem PySem.Spec PyProof.Rows
theorem kK:∀{vs:yez} {ns:List Int},IntsAre vs ns->aK (ns.map V.int) vs
 | _,_,.nil=> .nil
 | _,_,.cons n t h=> .cons ⟨t,rfl⟩ (kK h)
def wQ (H:Hp):Prop:=∀b,H b=none∨∃o xs,H b=some (.frz o (.lst xs))
theorem wR {mg mb:yew} {CX:pW} {fa a:Addr} 
 (KX:K.In s₁.heap) (aj:s₁.heap.Ns mainGlobals mg) (hb:s₁.heap.Ns builtinsNs mb) (ar:∀x:Str,x≠"__name__"->mb x=bootBuiltins x) (ab:s₁.heap.NoLimit) (hg:s₁.gens= #[])
 (ha:s₁.heap.get? a=some { cls:= .type "list",data:= .seq vs.toArray }) (hi:IntsAre vs ns) (hl:ns.length<=sizeLine) (hr:aH k callerA)
 (F:∀base:Heap,K.In base->base.Ns mainGlobals mg->cW P w K mg base CX k fa fd [x] sp) (Y:∀(s:Shared) (u:Value),BindsTo s fd ⟨[u],[]⟩ [(x,u)])
 (az:∀H:Hp,wQ H->cG K H a (ns.map V.int)->sp [.ref a] H (λv _=>v=.bl true) λ_ _ _=>False)
 (a0:∀H e s',CX [] H s₁ (λ_ _ _=>False) e s'->False):
 codeAny (model P w) callerA (.call (.ref fa) ⟨[.ref a],[]⟩) (λr s'=>r=.ok (.ret (.bool true))/\OldK s₁.heap s'.heap/\s'.os=s₁.os/\AllBare s'.gens) s₁:=by
 have rv:=kK hi;have Z:=hi.length
 -- from an abstract heap in which nothing but the script may be tracked
 have S:∀H:Hp,wQ H->cG K H a (ns.map V.int)->gE P w H s₁.heap->(∀b,H b≠none->b=a)->(H a≠none->K.lookup a=none)->
  codeAny (model P w) callerA (.call (.ref fa) ⟨[.ref a],[]⟩) (λr s'=>r=.ok (.ret (.bool true))/\OldK s₁.heap s'.heap/\s'.os=s₁.os/\AllBare s'.gens) s₁:=by
  intro H hO hS af hA hK;have B:∀{b:Addr} {o:Obj},s₁.heap.get? b=some o->H b=none->(lI s₁.heap H).get? b=some o:=λe n=>wg e n;have as:∀{b:Addr} {o:Obj} {es:Array DictEntry} {ep:Nat},s₁.heap.get? b=some o->o.data=.dict es ep->H b=none:=λ{b o es ep} e d=>by
   cases q:H b with
   | none=>rfl
   | some u=>
     have e':b=a:=hA b (by rw[q];simp);subst e';rw[ha] at e;cases e;have d':Data.seq vs.toArray _=Data.dict es ep:=d;cases d'
  have L:∀{b:Addr} {m:yew},s₁.heap.Ns b m->(lI s₁.heap H).Ns b m:=λ{b m} z9=>(by obtain⟨o,es,ep,e,d,r⟩:=z9;exact ⟨o,es,ep,B e (as e d),d,r⟩);have ad:K.In (lI s₁.heap H):=λb o e=>B (KX b o e) (by
   cases q:H b with
   | none=>rfl
   | some u=>
     have e':b=a:=hA b (by rw[q];simp);subst e';rw[hK (by rw[q];simp)] at e;cases e)
  have hM:Mod K mg (lI s₁.heap H):=⟨ad,L aj,⟨mb,L hb,ar⟩,let ⟨mc,h1,h2⟩:=ab;⟨mc,L h1,h2⟩⟩;have e0:nG P w K mg (lI s₁.heap H) callerA [] s₁ H:=⟨rfl,hM,λb o e=>zT e,Nat.le_of_eq (uO _ _),trivial,λb hb=>absurd (show b∈([]:List Addr) from hb) (by simp),af,.of_eq hg⟩;refine codeAny_mono ((F _ ad (L aj)).run callerA [] s₁ H ⟨[.ref a],[]⟩ [.ref a] [.ref a] _ _ hr e0 (Y s₁ (.ref a)) (.cons rfl .nil) (az H hO hS)) λr s' h=>?_;cases r with
  | error e=>exact(a0 H e s' h).elim
  | ok fl=>
    cases fl with
    | next=>exact False.elim h
    | brk=>exact False.elim h
    | cont=>exact False.elim h
    | ret u=>
      obtain⟨v,H',os,bare,un,ai,r',q⟩:=h;have q':v=.bl true:=q;subst q';obtain rfl:u=Value.bool true:=r';refine⟨rfl,OldK.of_keep λb o e=>?_,os,bare⟩;cases q:H b with
      | none=>exact un.keep b o e q (by intro z;exact absurd (show b∈([]:List Addr) from z) (by simp)) (by simp)
      | some u=>
        rcases hO b with z | ⟨ob,xs,z⟩
        ·rw[q] at z;cases z
        ·have z2:=un.frzs b ob _ z;obtain⟨e1,_⟩:=af b _ z;obtain⟨e2,_⟩:=ai b _ z2;rw[e] at e1;cases e1;exact e2
 cases hk:K.lookup a with
 | some o=>
   -- the script is one of the module's own objects
   have e:=KX a o hk;rw[ha] at e;cases e;refine S (λ_=>none) (λ_=> .inl rfl) (.inr ⟨_,vs.toArray,_,hk,rfl,rfl,rfl,by rw[size_toArray,Z];exact hl,by simpa using rv⟩) (λb u z=>by have z':(none:Option HO)=some u:=z;cases z') (λb z=>absurd rfl z) λz=>absurd rfl z
 | none=>
   refine S (λb=>if b=a then some (.frz { cls:= .type "list",data:= .seq vs.toArray } (.lst (ns.map V.int))) else none) (λb=>?_) (.inl (.inr ⟨{ cls:= .type "list",data:= .seq vs.toArray },ycv rfl⟩)) (λb u z=>?_) (λb z=>?_) λ_=>hk
   ·by_cases hb:b=a
    ·exact .inr ⟨_,_,ycv hb⟩
    ·exact .inl (ycw hb)
   ·by_cases hb:b=a
    ·have z':=(ycv hb).symm.trans z;cases z';subst hb;exact⟨ha,by rw[length_map];exact hl,vs,_,rv,ha⟩
    ·have z':=(ycw hb).symm.trans z;cases z'
   ·by_cases hb:b=a
    ·exact hb
    ·exact absurd (ycw hb) z
theorem walk_of {l:PySem.W.OpenLaw} {n k:Nat} {XP:(Str->Option Value)->Heap->Prop} {YP:World->Heap->Prop} {d:DefRec} {K:Params->yav} {CX:World->pW} {sp:World->Sp}
 (hn:l.most=some n) (ad:n<=sizeLine) (af:d.params.defaults=[]) (hr:aH k callerA)
 (hY:∀(w:World) (h:Heap),YP w h->(K w.params).In h)
 (F:∀(w:World) (mg:yew) (fa:Addr) (h:Heap),(K w.params).In h->h.Ns mainGlobals mg->mg d.name=some (.ref fa)->
   ∃fd:FuncData,(∀(s:Shared) (u:Value),BindsTo s fd ⟨[u],[]⟩ [(x,u)])/\
    ∀base:Heap,(K w.params).In base->base.Ns mainGlobals mg->cW l.prog w (K w.params) mg base (CX w) k fa fd [x] (sp w))
 (ai:∀(w:World) (H:Hp) (a:Addr) (ns:List Int),ns.length<=n->wQ H->cG (K w.params) H a (ns.map V.int)->sp w [.ref a] H (λv _=>v=.bl true) λ_ _ _=>False)
 (aj:∀(w:World) (H:Hp) (s:Shared) (e:Value) (s':Shared),CX w [] H s (λ_ _ _=>False) e s'->False):
 PySem.W.WalkO q S XP YP l.row.toRowW d [] (λf vs=>PySem.call f vs):=by
 refine _A.attach_call hn af λw as ab mg mb fa o pm cd doc a vs ns G Y ho hd az ar Z L B hg=>?_;have KX:=hY w _ Y;obtain⟨fd,hb,hF⟩:=F w mg fa _ KX G.T.g ar;exact wR KX G.T.g G.T.b G.T.builtins G.T.nolimit hg Z L (ycy B ad) hr hF hb (λH hO hS=>ai w H a ns B hO hS) λH e s'=>aj w H ab e s'
noncomputable def bq (s:Stmt):Arguments:=match s with
 | .FunctionDef _ a _ _ _ _ _ _ _ _=>a
 | _=>{ posonlyargs:=[],args:=[],vararg:=none,kwonlyargs:=[],kw_defaults:=[],kwarg:=none,defaults:=[] }
noncomputable def aZ (s:Stmt):List Stmt:=match s with
 | .FunctionDef _ _ b _ _ _ _ _ _ _=>b
 | _=>[]
noncomputable def ae (s:Stmt):Scope:=match s with
 | .FunctionDef _ _ _ _ _ _ sc _ _ _=>sc
 | _=>{ kind:= .function,names:=[],isGenerator:=false,isCoroutine:=false }
abbrev wS:pW:=λ_ _ _ _ _ _=>False
abbrev E0:XK:=λ_ _ _=>False
theorem ju:dr wS X E0:=λ_ _ _ _ _ _ _ h=>h.elim
structure bf (K:yav) (x qual:Str) (st:Stmt) (f:Addr) (fd:FuncData):Prop where
 ex:∃(oc:Value) (od:Option Addr) (kV doc pm:Value) (an:Option Addr) (cdv ct:Value) (osl:Array (Option Value)),
  fd=fnOf x qual (bq st) (aZ st) (ae st) .none kV doc pm an cdv ct/\K.lookup f=some ⟨oc,od,.func fd,osl⟩/\codeIn K cdv qual=true
 kp:keepIn K (.ref f)=true
theorem bf.ok (F:bf K x qual st f fd) (S:ay N ps (ae st)) (len:∀vs H Q E,sp vs H Q E->vs.length=ps.length)
 (B:∀(cdv:Value) (A:Around) (outer:List Env) (s:Shared) (H:Hp) (vs:List V) (Q:VK) (E:XK),aH k (A.deeper (envOfC qual (ae st) s.heap.objs.size f cdv))->sp vs H Q E->
   ∃t,nA (bn wS P w K mg base N qual (ae st) f cdv A outer s H E).nox (aZ st) t/\t { nx:=λ_ H'=>Q .non H',rt:=Q } (start N vs) H):cW P w K mg base wS (k+1) f fd ps sp:=by
 obtain⟨oc,od,kV,doc,pm,an,cdv,ct,osl,rfl,Z,L⟩:=F.ex;refine sG Z L S len λA outer s H vs Q E hr Y=>?_;obtain⟨t,h,q⟩:=B cdv A outer s H vs Q E hr Y;exact⟨t,h.nox,q⟩
theorem bf.binds (F:bf K x qual st f fd)
 (h:∀(kV doc pm:Value) (an:Option Addr) (cdv ct:Value) (us:yez),us.length=ps.length->bindArgs (fnOf x qual (bq st) (aZ st) (ae st) .none kV doc pm an cdv ct) ⟨us,[]⟩=pure (ps.zip us)):bv K fd ps []:=by
 obtain⟨oc,od,kV,doc,pm,an,cdv,ct,osl,rfl,L,B⟩:=F.ex;exact .all (h kV doc pm an cdv ct)
theorem fV {x:Str} {f:Addr} {oc:Value} {od an:Option Addr} {osl:Array (Option Value)} {kV doc pm cdv ct:Value} (l:K.lookup f=some ⟨oc,od,.func (fnOf x qual (bq st) (aZ st) (ae st) .none kV doc pm an cdv ct),osl⟩)
 (c:codeIn K cdv qual=true) (k:keepIn K (.ref f)=true):bf K x qual st f (fnOf x qual (bq st) (aZ st) (ae st) .none kV doc pm an cdv ct):=⟨⟨oc,od,kV,doc,pm,an,cdv,ct,osl,rfl,l,c⟩,k⟩
section
variable {κ:Type} [DecidableEq κ]
noncomputable def jv (kvs:List (κ×V)) (k:κ):Option V:=(kvs.find? λkv=>decide (kv.1=k)).map (·.2)
noncomputable def nK (kvs:List (κ×V)) (k:κ) (v:V):List (κ×V):=
 if (kvs.any λkv=>decide (kv.1=k))=true then kvs.map (λkv=>if kv.1=k then (kv.1,v) else kv) else kvs++[(k,v)]
noncomputable def iL (kvs:List (κ×V)) (k:κ):List (κ×V):=kvs.filter λkv=>decide (kv.1≠k)
theorem nM {p:κ×V} {r:List (κ×V)} {k:κ} (e:p.1=k):jv (p::r) k=some p.2:=by simp[jv,List.find?_cons,e]
theorem nN {p:κ×V} {r:List (κ×V)} {k:κ} (e:¬p.1=k):jv (p::r) k=jv r k:=by simp[jv,List.find?_cons,e]
theorem nO (kvs:List (κ×V)) (k:κ) (v:V):(nK kvs k v).length<=kvs.length+1:=by
 unfold nK;split
 ·rw[length_map];lia
 ·rw[length_append,length_cons,length_nil];lia
theorem fH.isSome_eq {o:Option V} {u:Option Value} (r:fH o u):o.isSome=u.isSome:=by
 cases o with
 | none=>cases u with
   | none=>rfl
   | some _=>exact(show False from r).elim
 | some _=>cases u with
   | none=>exact(show False from r).elim
   | some _=>rfl
theorem KV.val (r:KV kvs vs) (k:κ):fH (jv kvs k) (valueAt vs k):=by
 unfold KV at r
 induction r with
 | nil=>exact True.intro
 | @cons p q ps B h t ih=>
   obtain⟨h1,h2⟩:=h
   by_cases e:p.1=k
   ·have L:q.1=k:=h1.symm.trans e;have b:valueAt (q::B) k=some q.2:=by simp[valueAt,List.find?_cons,L]
    rw[nM e,b];exact h2
   ·have L:¬q.1=k:=λz=>e (h1.trans z);have b:valueAt (q::B) k=valueAt B k:=by simp[valueAt,List.find?_cons,L]
    rw[nN e,b];exact ih
theorem KV.any (r:KV kvs vs) (k:κ):(kvs.any λB=>decide (B.1=k))=vs.any λB=>decide (B.1=k):=by
 unfold KV at r
 induction r with
 | nil=>rfl
 | cons h t ih=>rw[any_cons,any_cons,ih,h.1]
theorem KV.repl (r:KV kvs vs) (k:κ) (L:aT y u):
 KV (kvs.map λB=>if B.1=k then (B.1,y) else B) (vs.map λB=>if B.1=k then (B.1,u) else B):=by
 unfold KV at r ⊢
 induction r with
 | nil=>exact .nil
 | @cons p q ps S h t ih=>
   rw[map_cons,map_cons];refine .cons ?_ ih;obtain⟨h1,h2⟩:=h
   by_cases e:p.1=k
   ·rw[ycv e,ycv (h1.symm.trans e)];exact⟨h1,L⟩
   ·rw[ycw e,ycw (λz=>e (h1.trans z))];exact⟨h1,h2⟩
theorem KV.put (r:KV kvs vs) (k:κ) (B:aT y u):KV (nK kvs k y) (stored vs k u):=by
 unfold nK stored;rw[r.any k]
 by_cases e:(vs.any λL=>decide (L.1=k))=true
 ·rw[ycv e,ycv e];exact r.repl k B
 ·rw[ycw e,ycw e];exact Paired.snoc r ⟨rfl,B⟩
theorem KV.drop (r:KV kvs vs) (k:κ):KV (iL kvs k) (without vs k):=by
 unfold KV at r ⊢;unfold iL without
 induction r with
 | nil=>exact .nil
 | @cons p q ps L h t ih=>
   obtain⟨h1,h2⟩:=h;rw[filter_cons,filter_cons]
   by_cases e:p.1=k
   ·have a:¬decide (p.1≠k)=true:=by simp[e]
    have b:¬decide (q.1≠k)=true:=by simp[h1.symm.trans e]
    rw[ycw a,ycw b];exact ih
   ·have B:¬q.1=k:=λz=>e (h1.trans z);have a:decide (p.1≠k)=true:=by simp[e]
    have b:decide (q.1≠k)=true:=by simp[B]
    rw[ycv a,ycv b];exact .cons ⟨h1,h2⟩ ih
theorem KV.keys {kvs:List (κ×V)} {vs:List (κ×Value)} (r:KV kvs vs):kvs.map (·.1)=vs.map (·.1):=by
 unfold KV at r
 induction r with
 | nil=>rfl
 | cons h t ih=>rw[map_cons,map_cons,ih,h.1]
theorem KV.length {kvs:List (κ×V)} {vs:List (κ×Value)} (r:KV kvs vs):kvs.length=vs.length:=Paired.length r
theorem wT (kvs:List (κ×V)) (k:κ):(iL kvs k).length<=kvs.length:=List.length_filter_le _ _
end
theorem jw {k:aW} (r:aT (kV k) u):(bg P w).is k u=true:=by
 cases k with
 | inl i=>obtain⟨t,e⟩:=(show ∃t,u=Value.int i t from r);subst e;exact nE P w i t
 | inr x=>obtain⟨t,e⟩:=(show ∃t,u=Value.str x t from r);subst e;exact nF P w x t
section
variable {h:Heap}
theorem GN {u:HO} (ok:gE P w H h) (e:Rd H a u):bH P w H h a u:=e.ok ok
theorem fN (ok:gE P w H h) (e:Rd H a (.dK kvs)):kvs.length<=sizeLine/\(a==sysModules)=false/\∃vs,KV kvs vs/\h.DictOf (bg P w) a vs:=
 show bH P w H h a (.dK kvs) from GN ok e
theorem wU (ok:gE P w H h) (e:H a=some (.dK kvs)):kvs.length<=sizeLine/\(a==sysModules)=false/\∃vs,KV kvs vs/\h.DictOf (bg P w) a vs:=fN ok (.inl e)
end
section
variable {y v:V} {r:Value} {o:Option V}
theorem aw.bigD (I:aw X π σ H s):sysModules<s.heap.objs.size:=by
 have h:mainGlobals<s.heap.objs.size:=(I.mod.glob.keeps I.bk).lt;exact Nat.lt_trans (by decide) h
theorem sL (I:aw X π σ H s) (L:Gc (H a)) (Y:Heap.SameBut a s.heap h') (S:∃q,h'.get? a=some q) (new:bH X.prog X.w (upd H a B) h' a B):
 aw X π σ (upd H a B) { s with heap:=h',toks:=t' }:=
 I.write (x:=a) (e:=a) L (.inl rfl) (λb q hb z=>(Y.2 b hb).trans z) S new
theorem wV (z:kvs.length<=sizeLine) (L:(a==sysModules)=false) (B:KV kvs vs) (dd:h'.DictOf (bg P w) a vs):
 bH P w H' h' a (.dK kvs):=⟨z,L,vs,B,dd⟩
end
section
variable {kvs:List (aW×V)} {k:aW}
theorem GP (I:aw X π σ H s) (e:H a=some (.dK kvs)) (ry:aT (kV k) u) (l:jv kvs k=some v) (hm:B=[]∨∃x,B=[x])
 (h:∀Y s',aw X π σ (upd H a (.dK (iL kvs k))) s'->aT v Y->Q Y s'):wpAny (model X.prog X.w) A (call (.builtin "dict.pop") (.ref a::u::B)) Q E s:=by
 obtain⟨z,hd,vs,L,dd⟩:=wU I.hok e;obtain⟨Y,hw,Z⟩:=fH.some_of (v:=v) (o:=valueAt vs k) (by rw[←l];exact L.val k);have hp:(keyPart u).isSome=true:=by
  cases k with
  | inl i=>obtain⟨t,q⟩:=(show ∃t,u=Value.int i t from ry);subst q;rfl
  | inr x=>obtain⟨t,q⟩:=(show ∃t,u=Value.str x t from ry);subst q;rfl
 have ha:argsOk "dict.pop" ⟨.ref a::u::B,[]⟩:=by
  rcases hm with q | ⟨x,q⟩
  ·subst q;exact PySem.F.args_dict_pop_2 _ _
  ·subst q;exact PySem.F.args_dict_pop_3 _ _ _
 refine call_meetsIn PySem.F.slot_dict_pop dd.typeIs PySem.F.entry_dict_pop ha (meets_dict_pop_there (bg X.prog X.w) a (jw ry) B hm hp)
  ⟨vs,Y,dd,by rw[←L.length];exact z,hw,λh' S hs=>h Y _ ?_ Z⟩
 have he:∃q,h'.get? a=some q:=let ⟨q,_,_,hq,_⟩:=S;⟨q,hq⟩;exact sL I (by rw[e];exact True.intro) hs he (wV (ycy (wT kvs k) z) hd (L.drop k) S)
theorem GQ (I:aw X π σ H s) (e:Rd H a (.dK kvs)) (h:∀t s',aw X π σ H s'->Q (.int kvs.length t) s'):wpAny (model X.prog X.w) A (call (.builtin "len") [.ref a]) Q E s:=by
 obtain⟨z,L,vs,B,dd⟩:=fN I.hok e;refine call_len_dict L dd (by rw[←B.length];rw[sizeLine_eq] at z;lia) ?_;rw[←B.length];exact h _ _ (I.tok _)
end
section
variable {o i value:Expr} {pos' tpos:Pos} {td ty tv:TE}
end
theorem vg (h:Heap) (hb:sysModules<h.objs.size):bH P w H (h.push { cls:= .type "dict",data:= .dict #[] }) h.objs.size (.dK []):=
 ⟨zero_le _,beq_eq_false_iff_ne.mpr (Ne.symm (ne_of_lt hb)),[],.nil,Heap.DictOf.new h⟩
def DU:TE:=λ_ H Q=>∀p,H p=none->Q (.ref p) (upd H p (.dK []))
theorem pe_dnewK:PE X (.Dict [] [] pos) DU:=λπ s σ H Q I h=>
 wpAny_Dict_empty ⟨.ref s.heap.objs.size,_,I.laid (a:=s.heap.objs.size) (o:= .dK []) (t':=s.toks) (λ_ _ q=>ybz _ q) (ycx _) (vg s.heap I.bigD),rfl,h _ (I.hok.fresh (ycx _))⟩
structure M1 (X:Cx) (o:Expr) (m:Str) (apos:Pos) (e:Expr) (cpos:Pos):Prop where
 base:attributeBase o m X.env (eval o X.env)=eval o X.env
 few:((backTo cpos (starEach [e] X.env)).all (λx=>!x.1)&&(backToKw cpos (keywordEach [] X.env)).all (λx=>x.1.isSome)
  &&decide (([e]:List Expr).length+([]:List Keyword).length+(if ([]:List Keyword).isEmpty then 0 else 1)<30))=true
 line:(apos.endLine==cpos.line)=true
 trees:backTo cpos (starEach [e] X.env)=[(false,eval e X.env)]
structure M2 (X:Cx) (o:Expr) (m:Str) (apos:Pos) (e f:Expr) (cpos:Pos):Prop where
 base:attributeBase o m X.env (eval o X.env)=eval o X.env
 few:((backTo cpos (starEach [e,f] X.env)).all (λx=>!x.1)&&(backToKw cpos (keywordEach [] X.env)).all (λx=>x.1.isSome)
  &&decide (([e,f]:List Expr).length+([]:List Keyword).length+(if ([]:List Keyword).isEmpty then 0 else 1)<30))=true
 line:(apos.endLine==cpos.line)=true
 trees:backTo cpos (starEach [e,f] X.env)=[(false,eval e X.env),(false,eval f X.env)]
section
variable {y d:V} {r:Value} {o:Option V}
end
section
variable {o f:Expr} {apos cpos:Pos} {td ty tx:TE}
end
section
variable {kvs:List (aW×V)}
end
section
variable {y:V}
end
inductive W where
 | non | bl (b:Bool) | int (i:Int) | str (x:Str) | ref (a:Addr) | tup (xs:List W) | scr (ns:List Int)
inductive GO where
 | lst (ws:List W)
 | dct
 | exc (C:Addr)
 | dic (kvs:List (aW×W))
 | fdc (o:Obj) (us:List (aW×V)) (kvs:List (aW×W))
 | ins (C:Addr) (fs:List (Str×W))
 | tbl (ps:Array Value)
 | any (P:Hp->Addr->Prop)
abbrev Gp:=Addr->Option GO
noncomputable def av (G:Gp) (a:Addr) (g:GO):Gp:=λb=>if b=a then some g else G b
theorem aa:av G a g a=some g:=by unfold av;rw[ycv rfl]
theorem ao (h:b≠a):av G a g b=G b:=by unfold av;rw[ycw h]
def Cq (K:yav) (H:Hp) (a:Addr) (ns:List Int):Prop:=
 (∃o,H a=some (.frz o (.lst (ns.map V.int))))∨
   ∃(o:Obj) (its:Array Value) (n:Nat),K.lookup a=some o/\o.cls=.type "list"/\o.dict=none/\o.data=.seq its n/\its.size<=sizeLine/\aK (ns.map V.int) its.toList
theorem Cq.sq (h:Cq K H a ns):cG K H a (ns.map V.int):=by
 rcases h with⟨o,h⟩ | h
 ·exact .inl (.inr ⟨o,h⟩)
 ·exact .inr h
structure aE (H H1:Hp):Prop where
 tup:∀a xs,H a=some (.tup xs)->H1 a=some (.tup xs)
 frz:∀a o xs,H a=some (.frz o (.lst xs))->H1 a=some (.frz o (.lst xs))
theorem aE.refl (H:Hp):aE H H:=⟨λ_ _ h=>h,λ_ _ _ h=>h⟩
theorem aE.trans (a:aE H H1) (b:aE H1 H2):aE H H2:=
 ⟨λx xs h=>b.tup x xs (a.tup x xs h),λx o u h=>b.frz x o u (a.frz x o u h)⟩
theorem aE.new (B:H p=none) (o:HO):aE H (upd H p o):=
 ⟨λ_ _ h=>by rw[ax (aU h B)];exact h,λ_ _ _ h=>by rw[ax (aU h B)];exact h⟩
theorem aE.lst (B:H p=some (.lst xs)) (o:HO):aE H (upd H p o):=
 ⟨λ_ _ h=>by rw[ax (iH h B (by intro z;cases z))];exact h,λ_ _ _ h=>by rw[ax (iH h B (by intro z;cases z))];exact h⟩
mutual
inductive bO (K:yav) (H:Hp):W->V->Prop where
 | non:bO K H .non .non
 | bl (b:Bool):bO K H (.bl b) (.bl b)
 | int (i:Int):bO K H (.int i) (.int i)
 | str (x:Str):bO K H (.str x) (.str x)
 | ref (a:Addr):bO K H (.ref a) (.ref a)
 | tup {a:Addr} {ws:List W} {xs:List V} (h:H a=some (.tup xs)) (r:aJ K H ws xs):bO K H (.tup ws) (.ref a)
 | scr {a:Addr} {ns:List Int} (h:Cq K H a ns):bO K H (.scr ns) (.ref a)
inductive aJ (K:yav) (H:Hp):List W->List V->Prop where
 | nil:aJ K H [] []
 | cons {w:W} {v:V} {ws:List W} {vs:List V} (r:bO K H w v) (rs:aJ K H ws vs):aJ K H (w::ws) (v::vs)
end
section
variable {H1:Hp}
theorem Cq.mono (t:aE H H1) (h:Cq K H a ns):Cq K H1 a ns:=by
 rcases h with⟨o,h⟩ | h
 ·exact .inl ⟨o,t.frz _ _ _ h⟩
 ·exact .inr h
mutual
theorem bO.mono (t:aE H H1):∀{w:W} {v:V},bO K H w v->bO K H1 w v
 | _,_,.non=> .non
 | _,_,.bl b=> .bl b
 | _,_,.int i=> .int i
 | _,_,.str x=> .str x
 | _,_,.ref a=> .ref a
 | _,_,.tup h r=> .tup (t.tup _ _ h) (aJ.mono t r)
 | _,_,.scr h=> .scr (h.mono t)
theorem aJ.mono (t:aE H H1):∀{ws:List W} {vs:List V},aJ K H ws vs->aJ K H1 ws vs
 | _,_,.nil=> .nil
 | _,_,.cons r B=> .cons (bO.mono t r) (aJ.mono t B)
end
theorem aJ.length:∀{ws:List W} {vs:List V},aJ K H ws vs->ws.length=vs.length
 | _,_,.nil=>rfl
 | _,_,.cons _ B=>congrArg (·+1) B.length
theorem aJ.append:∀{ws us:List W} {vs xs:List V},aJ K H ws vs->aJ K H us xs->aJ K H (ws++us) (vs++xs)
 | _,_,_,_,.nil,s=>s
 | _,_,_,_,.cons r B,s=> .cons r (B.append s)
theorem aJ.take:∀{ws:List W} {vs:List V} (n:Nat),aJ K H ws vs->aJ K H (ws.take n) (vs.take n)
 | _,_,0,_=> .nil
 | _,_,_+1,.nil=> .nil
 | _,_,n+1,.cons r B=> .cons r (B.take n)
theorem aJ.drop:∀{ws:List W} {vs:List V} (n:Nat),aJ K H ws vs->aJ K H (ws.drop n) (vs.drop n)
 | _,_,0,r=>r
 | _,_,_+1,.nil=> .nil
 | _,_,n+1,.cons _ B=>B.drop n
theorem aJ.get:∀{ws:List W} {vs:List V} {i:Nat} {w:W},aJ K H ws vs->ws[i]?=some w->∃v,vs[i]?=some v/\bO K H w v
 | _,_,_,_,.nil,e=>by simp at e
 | _,_,0,_,.cons r _,e=>by simp at e;subst e;exact⟨_,rfl,r⟩
 | _,_,i+1,w,.cons _ B,e=>by
   obtain⟨v,h1,h2⟩:=aJ.get (i:=i) (w:=w) B (by simpa using e);exact⟨v,by simpa using h1,h2⟩
theorem aJ.ints:∀ns:List Int,aJ K H (ns.map W.int) (ns.map V.int)
 | []=> .nil
 | n::ns=> .cons (.int n) (aJ.ints ns)
end
noncomputable abbrev bmV:List Value:=[.type "ValueError",.type "Exception",.type "BaseException",.type "object"]
structure XC (K:yav) (C:Addr) (bm:yez):Prop where
 obj:∀h:Heap,K.In h->∃N nm qn bs hdct sn sub ab col dd k0 k1 k2 k3 k5 mN,h.get? C=some (excClassObj nm qn C N bs bm hdct sn sub ab col dd k0 k1 k2 k3 k5 "ValueError.__new__")/\h.Ns N mN/\mN "__init__"=none/\OwnTail h bmV bm
 mro:∀v,mroIn K C v=some ((Value.ref C::bm).contains v)
structure XQ (K:yav) (C:Addr):Prop where
 ga:findIn K (.ref C) "__getattribute__"=some (some (.builtin "BaseException.__getattribute__"))
 gx:findIn K (.ref C) "__getattr__"=some none
 gc:findIn K (.ref C) "__class__"=some (some (.builtin "object.__class__"))
structure XD (K:yav) (D:Addr):Prop where
 cls:∃cd,clsIn K D=some cd
 ty:PySem.W.typeIn K (.ref D)=some (.type "type")
 ins:PySem.W.instIn K (.ref D) (.type "type")=some true
structure XO (K:yav) (C:Addr):Prop where
 c:∃bm,XC K C bm
 q:XQ K C
 d:XD K C
def DV (K:yav) (H:Hp) (a:Addr):GO->Prop
 | .lst ws=>ws.length<=100000/\∃xs,H a=some (.lst xs)/\aJ K H ws xs
 | .dct=>H a=some (.dK [])
 | .exc C=>XO K C/\H a=some (.ext λh=>∃o,h.get? a=some o/\o.cls=.ref C)
 | .dic kvs=>kvs.length<=100000/\∃kvs',H a=some (.dK kvs')/\kvs'.map (·.1)=kvs.map (·.1)/\aJ K H (kvs.map (·.2)) (kvs'.map (·.2))
 | .fdc o us kvs=>kvs.length<=100000/\H a=some (.frz o (.dK us))/\us.map (·.1)=kvs.map (·.1)/\aJ K H (kvs.map (·.2)) (us.map (·.2))
 | .ins C fs=>fs.length<=100/\∃dx fs',H a=some (.ins C dx fs')/\fs'.map (·.1)=fs.map (·.1)/\aJ K H (fs.map (·.2)) (fs'.map (·.2))
 | .tbl ps=>H a=some (.tbl ps)
 | .any P=>P H a/\(∃o,H a=some o)/\∀H1 H2:Hp,aE H1 H2->H2 a=H1 a->P H1 a->P H2 a
def aB (K:yav) (H:Hp) (G:Gp):Prop:=∀a g,G a=some g->DV K H a g
section
variable {H1:Hp} {G:Gp} {p:Addr} {g:GO}
theorem DV.has (h:DV K H a g):∃o,H a=some o:=by
 cases g with
 | lst ws=>obtain⟨_,_,e,_⟩:=h;exact⟨_,e⟩
 | dct=>exact⟨_,h⟩
 | exc C=>exact⟨_,h.2⟩
 | dic kvs=>obtain⟨_,_,e,_⟩:=h;exact⟨_,e⟩
 | fdc o us kvs=>obtain⟨_,e,_⟩:=h;exact⟨_,e⟩
 | ins C fs=>obtain⟨_,_,_,e,_⟩:=h;exact⟨_,e⟩
 | tbl ps=>exact⟨_,h⟩
 | any P=>exact h.2.1
theorem DV.mono (t:aE H H1) (e:H1 a=H a) (h:DV K H a g):DV K H1 a g:=by
 cases g with
 | lst ws=>obtain⟨l,xs,B,r⟩:=h;exact⟨l,xs,e.trans B,r.mono t⟩
 | dct=>exact e.trans h
 | exc C=>exact⟨h.1,e.trans h.2⟩
 | dic kvs=>obtain⟨l,xs,B,n,r⟩:=h;exact⟨l,xs,e.trans B,n,r.mono t⟩
 | fdc o us kvs=>obtain⟨l,B,n,r⟩:=h;exact⟨l,e.trans B,n,r.mono t⟩
 | ins C fs=>obtain⟨l,dx,xs,B,n,r⟩:=h;exact⟨l,dx,xs,e.trans B,n,r.mono t⟩
 | tbl ps=>exact e.trans h
 | any P=>exact⟨h.2.2 _ _ t e h.1,(let ⟨o,B⟩:=h.2.1;⟨o,e.trans B⟩),h.2.2⟩
theorem aB.fresh (h:aB K H G) (L:H p=none):G p=none:=by
 cases e:G p with
 | none=>rfl
 | some g=>
   obtain⟨o,B⟩:=(h p _ e).has;rw[L] at B;cases B
theorem aB.upd (h:aB K H G) (t:aE H (upd H p o)) (L:G p=none):aB K (_L.upd H p o) G:=λa g e=>by
 have B:a≠p:=λz=>by rw[z,L] at e;cases e
 exact(h a g e).mono t (ax B)
theorem aB.keep (h:aB K H G) (B:H p=none) (o:HO):aB K (_L.upd H p o) G:=h.upd (aE.new B o) (h.fresh B)
theorem aB.lay (h:aB K H G) (t:aE H (_L.upd H p o)) (n:DV K (_L.upd H p o) p g):aB K (_L.upd H p o) (av G p g):=λa g' e=>by
 by_cases hb:a=p
 ·subst hb;rw[aa] at e;cases e;exact n
 ·rw[ao hb] at e;exact(h a g' e).mono t (ax hb)
theorem aB.put (h:aB K H G) (t:aE H (_L.upd H p (.lst xs))) (r:aJ K H ws xs) (B:ws.length<=100000):aB K (_L.upd H p (.lst xs)) (av G p (.lst ws)):=h.lay t ⟨B,xs,aY,r.mono t⟩
def am (G0 G:Gp):Prop:=∀a g,G0 a=some g->G a=some g
theorem aB.le (h:aB K H G) (l:am G0 G):aB K H G0:=λa g e=>h a g (l a g e)
theorem am.refl (G:Gp):am G G:=λ_ _ h=>h
theorem am.trans (a:am G0 B) (b:am B G2):am G0 G2:=λx g h=>b x g (a x g h)
theorem am.new (B:G p=none):am G (av G p g):=λa u e=>by
 rw[ao (λz=>by rw[z,B] at e;cases e)];exact e
end
abbrev bV:=List (Option W)
def aV (K:yav) (H:Hp) (τ:bV) (σ:St):Prop:=τ.length=σ.length/\∀(i:Nat) (w:W),τ[i]?=some (some w)->∃v,σ[i]?=some (some v)/\bO K H w v
section
variable {H1:Hp} {τ:bV}
theorem aV.mono (t:aE H H1) (h:aV K H τ σ):aV K H1 τ σ:=⟨h.1,λi w e=>let ⟨v,e1,r⟩:=h.2 i w e;⟨v,e1,r.mono t⟩⟩
theorem aV.set (h:aV K H τ σ) {w:W} {v:V} (r:bO K H w v) (i:Nat):aV K H (τ.set i (some w)) (σ.set i (some v)):=by
 refine⟨by simpa using h.1,λj u e=>?_⟩
 by_cases hj:i=j
 ·subst hj
  by_cases hl:i<τ.length
  ·rw[List.getElem?_set_self hl] at e;cases e;exact⟨v,List.getElem?_set_self (by rw[←h.1];exact hl),r⟩
  ·rw[List.getElem?_eq_none (by simpa using hl)] at e;cases e
 ·rw[List.getElem?_set_ne hj] at e;obtain⟨S,L,B⟩:=h.2 j u e;exact⟨S,by rw[List.getElem?_set_ne hj];exact L,B⟩
theorem aV.start (r:aJ K H ws vs):aV K H (ws.map some++List.replicate (N.length-ws.length) none) (_L.start N vs):=by
 unfold _L.start;refine⟨by simp[r.length],λi w e=>?_⟩
 by_cases hi:i<ws.length
 ·rw[List.getElem?_append_left (by simpa using hi),List.getElem?_map] at e;cases e1:ws[i]? with
  | none=>rw[e1] at e;cases e
  | some u=>
    rw[e1] at e;cases e;obtain⟨v,B,L⟩:=r.get e1;refine⟨v,?_,L⟩;rw[List.getElem?_append_left (by simpa[←r.length] using hi),List.getElem?_map,B]
    rfl
 ·rw[List.getElem?_append_right (by simpa using hi),List.getElem?_replicate] at e;split at e<;> cases e
end
abbrev WK:=W->Gp->Prop
abbrev WE:=bV->Gp->WK->Prop
abbrev WT:=bV->Gp->(Bool->Gp->Prop)->Prop
abbrev WA:=bV->Gp->(List W->Gp->Prop)->Prop
structure cj where
 nx:bV->Gp->Prop
 rt:WK
 bk:bV->Gp->Prop:=λ_ _=>False
 ct:bV->Gp->Prop:=λ_ _=>False
abbrev WS:=cj->bV->Gp->Prop
abbrev WG:=W->bV->Gp->(bV->Gp->Prop)->Prop
abbrev Cr:=List W->bV->Gp->(bV->Gp->Prop)->Prop
def gJ (K:yav) (t:WE):TE:=λσ H Q=>∃τ G q,aV K H τ σ/\aB K H G/\t τ G q/\∀v H1 w G1,aE H H1->bO K H1 w v->aB K H1 G1->q w G1->Q v H1
def DW (K:yav) (t:WT):TT:=λσ H Q=>∃τ G q,aV K H τ σ/\aB K H G/\t τ G q/\∀b H1 G1,aE H H1->aB K H1 G1->q b G1->Q b H1
def LA (K:yav) (t:WA):TA:=λσ H Q=>∃τ G q,aV K H τ σ/\aB K H G/\t τ G q/\∀vs H1 ws G1,aE H H1->aJ K H1 ws vs->aB K H1 G1->q ws G1->Q vs H1
structure nP (K:yav) (H:Hp) (d:cj) (D:eX):Prop where
 nx:∀σ1 H1 τ1 G1,aE H H1->aV K H1 τ1 σ1->aB K H1 G1->d.nx τ1 G1->D.nx σ1 H1
 rt:∀v H1 w G1,aE H H1->bO K H1 w v->aB K H1 G1->d.rt w G1->D.rt v H1
 bk:∀σ1 H1 τ1 G1,aE H H1->aV K H1 τ1 σ1->aB K H1 G1->d.bk τ1 G1->D.bk σ1 H1
 ct:∀σ1 H1 τ1 G1,aE H H1->aV K H1 τ1 σ1->aB K H1 G1->d.ct τ1 G1->D.ct σ1 H1
def LS (K:yav) (t:WS):TS:=λD σ H=>∃τ G d,aV K H τ σ/\aB K H G/\t d τ G/\nP K H d D
theorem gJ.el {t:WE} {σ:St} {H:Hp} {Q:VK} {P:Prop} (h:gJ K t σ H Q) (k:∀(τ:bV) (G:Gp) (q:WK),aV K H τ σ->aB K H G->t τ G q->(∀v H1 w B,aE H H1->bO K H1 w v->aB K H1 B->q w B->Q v H1)->P):P:=by
 obtain⟨τ,G,q,a,b,c,d⟩:=h;exact k τ G q a b c d
theorem DW.el {Q:Bool->Hp->Prop} {P:Prop} (h:DW K t σ H Q) (k:∀(τ:bV) (G:Gp) (q:Bool->Gp->Prop),aV K H τ σ->aB K H G->t τ G q->(∀b H1 B,aE H H1->aB K H1 B->q b B->Q b H1)->P):P:=by
 obtain⟨τ,G,q,a,b,c,d⟩:=h;exact k τ G q a b c d
theorem LA.el {Q:List V->Hp->Prop} {P:Prop} (h:LA K t σ H Q) (k:∀(τ:bV) (G:Gp) (q:List W->Gp->Prop),aV K H τ σ->aB K H G->t τ G q->(∀vs H1 ws B,aE H H1->aJ K H1 ws vs->aB K H1 B->q ws B->Q vs H1)->P):P:=by
 obtain⟨τ,G,q,a,b,c,d⟩:=h;exact k τ G q a b c d
theorem LS.el {D:eX} {P:Prop} (h:LS K t D σ H) (k:∀(τ:bV) (G:Gp) (d:cj),aV K H τ σ->aB K H G->t d τ G->nP K H d D->P):P:=by
 obtain⟨τ,G,q,a,b,c,d⟩:=h;exact k τ G q a b c d
def LG (K:yav) (t:WG):TG:=λv σ H Q=>∃w τ G q,bO K H w v/\aV K H τ σ/\aB K H G/\t w τ G q/\∀σ1 H1 τ1 G1,aE H H1->aV K H1 τ1 σ1->aB K H1 G1->q τ1 G1->Q σ1 H1
def NR (K:yav) (t:Cr):zZ:=λvs σ H Q=>∃ws τ G q,aJ K H ws vs/\aV K H τ σ/\aB K H G/\t ws τ G q/\∀σ1 H1 τ1 G1,aE H H1->aV K H1 τ1 σ1->aB K H1 G1->q τ1 G1->Q σ1 H1
def QE (X:Cx) (e:Expr) (t:WE):Prop:=PE X e (gJ X.K t)
def QT (X:Cx) (e:Expr) (t:WT):Prop:=PT X e (DW X.K t)
def QW (X:Cx) (e:Expr) (t:WT):Prop:=PW X e (DW X.K t)
def QA (X:Cx) (es:List Expr) (t:WA):Prop:=PA X es (LA X.K t)
def QS (X:Cx) (st:Stmt) (t:WS):Prop:=PS X st (LS X.K t)
def lO (X:Cx) (st:List Stmt) (t:WS):Prop:=nA X st (LS X.K t)
def QG (X:Cx) (e:Expr) (t:WG):Prop:=PG X e (LG X.K t)
def FV (X:Cx) (es:List Expr) (t:Cr):Prop:=Cn X es (NR X.K t)
theorem PE.imp (h:PE X e t) (f:∀σ H Q,t' σ H Q->t σ H Q):PE X e t':=λπ s σ H Q I q=>h π s σ H Q I (f _ _ _ q)
theorem PT.imp (h:PT X e t) (f:∀σ H Q,t' σ H Q->t σ H Q):PT X e t':=λπ s σ H Q I q=>h π s σ H Q I (f _ _ _ q)
theorem PW.imp (h:PW X e t) (f:∀σ H Q,t' σ H Q->t σ H Q):PW X e t':=λwh π s σ H Q I q=>h wh π s σ H Q I (f _ _ _ q)
theorem PA.imp {e:List Expr} {t t':TA} (h:PA X e t) (f:∀σ H Q,t' σ H Q->t σ H Q):PA X e t':=λpos π s σ H Q I q=>h pos π s σ H Q I (f _ _ _ q)
theorem PS.imp {e:Stmt} {t t':TS} (h:PS X e t) (f:∀D σ H,t' D σ H->t D σ H):PS X e t':=λπ s σ H D I q=>h π s σ H D I (f _ _ _ q)
theorem nA.imp {e:List Stmt} (h:nA X e t) (f:∀D σ H,t' D σ H->t D σ H):nA X e t':=λπ s σ H D I q=>h π s σ H D I (f _ _ _ q)
theorem PG.imp (h:PG X e t) (f:∀v σ H Q,t' v σ H Q->t v σ H Q):PG X e t':=λπ s σ H v u Q I r q=>h π s σ H v u Q I r (f _ _ _ _ q)
theorem Cn.imp {e:List Expr} {t t':zZ} (h:Cn X e t) (f:∀v σ H Q,t' v σ H Q->t v σ H Q):Cn X e t':=λπ s σ H v u Q I r q=>h π s σ H v u Q I r (f _ _ _ _ q)
def dE (i:Nat):WE:=λτ G q=>match τ[i]? with | some (some w)=>q w G | _=>False
def wC (w:W):WE:=λ_ G q=>q w G
theorem cH (i:Nat) (S:X.N[i]?=some x:=by exact rfl) (Z:Ck X.env.scope x:=by exact .inl rfl) (hd:dbz x:=by decide) (L:(x==("__classdict__":Str))=false:=by decide):QE X (.Name x pos) (dE i):=by
 refine(jm S Z hd L).imp λσ H Q z0=>z0.el λτ G q hs Y B hQ=>?_;unfold dE at B;split at B
 ·rename_i w e;obtain⟨v,e1,r⟩:=hs.2 i w e;exact⟨v,e1,hQ v H w G (aE.refl H) r Y B⟩
 ·exact B.elim
theorem dU {v:V} {w:W} (h:PE X e (tC v)) (r:∀H,bO X.K H w v):QE X e (wC w):=
 h.imp λσ H Q Y=>Y.el λτ G q Z B S L=>L v H w G (aE.refl H) (r H) B S
theorem wW {i j pos}:QE X (.Constant (.int i) j pos) (wC (.int i)):=dU Dh λ_=> .int i
theorem GR {b j pos}:QE X (.Constant (.bool b) j pos) (wC (.bl b)):=dU Gd λ_=> .bl b
theorem DX {j pos}:QE X (.Constant .none j pos) (wC .non):=dU Di λ_=> .non
theorem DY {x j pos}:QE X (.Constant (.str x) j pos) (wC (.str x)):=dU lJ λ_=> .str x
abbrev W2:=W->W->Gp->WK->Prop
def LR (K:yav) (r:W2):R2:=λx y H Q=>∃wx wy G q,bO K H wx x/\bO K H wy y/\aB K H G/\r wx wy G q/\∀v H1 w G1,aE H H1->bO K H1 w v->aB K H1 G1->q w G1->Q v H1
def eo (X:Cx) (f:Value->Value->Sem Value) (r:W2):Prop:=hV X f (LR X.K r)
def FW (X:Cx) (r:W2):Prop:=GL X (LR X.K r)
def sM (r:W2) (ta tb:WE):WE:=λτ G q=>ta τ G λx G1=>tb τ G1 λy G2=>r x y G2 q
theorem gJ.op {r:W2} {ta tb:WE} {σ:St} {H:Hp} {Q:VK} (h:gJ K (sM r ta tb) σ H Q):Gs (LR K r) (gJ K ta) (gJ K tb) σ H Q:=by
 obtain⟨τ,G,q,B,Z,ht,hQ⟩:=h;refine⟨τ,G,_,B,Z,ht,λv H1 w G1 S r1 g1 q1=>?_⟩;refine⟨τ,G1,_,B.mono S,g1,q1,λv2 H2 w2 G2 L r2 g2 q2=>?_⟩;exact⟨w,w2,G2,q,r1.mono L,r2,g2,q2,λY H3 w3 G3 t3 r3 g3 q3=>hQ Y H3 w3 G3 ((S.trans L).trans t3) r3 g3 q3⟩
theorem eS {op:Operator} {r:W2} {a b:Expr} {ta tb:WE} (B:eo X (binaryOp op) r) (L:QE X a ta) (hb:QE X b tb):QE X (.BinOp a op b pos) (sM r ta tb):=
 (Gu B L hb).imp λ_ _ _ h=>h.op
theorem dM {op:CmpOp} {r:W2} {a b:Expr} {ta tb:WE} (B:eo X (compareOp op) r) (S:QE X a ta) (hb:QE X b tb) (L:behindInMarks op b=false:=by exact bZ _):QE X (.Compare a [op] [b] pos) (sM r ta tb):=
 (Ad B S hb L).imp λ_ _ _ h=>h.op
theorem kL {r:W2} {a b:Expr} {ta tb:WE} (B:FW X r) (L:QE X a ta) (hb:QE X b tb) (S:sI b:=by exact λ_ _=>rfl):QE X (.Subscript a b pos) (sM r ta tb):=
 (GM B L hb S).imp λ_ _ _ h=>h.op
def nQ (t:WE):WT:=λτ G q=>t τ G λx G1=>match x with | .bl b=>q b G1 | _=>False
theorem DW.test {Q:Bool->Hp->Prop} (h:DW K (nQ t) σ H Q):wu (gJ K t) σ H Q:=by
 obtain⟨τ,G,q,hs,L,S,hQ⟩:=h;refine⟨τ,G,_,hs,L,S,λv H1 w G1 Z Y g1 B=>?_⟩;split at B
 ·rename_i b;cases Y;exact⟨b,rfl,hQ b H1 G1 Z g1 B⟩
 ·exact B.elim
theorem cq {op:CmpOp} {r:W2} {a b:Expr} {ta tb:WE} (ho:eo X (compareOp op) r) (Z:QE X a ta) (hb:QE X b tb) (hm:behindInMarks op b=false:=by exact bZ _):QT X (.Compare a [op] [b] pos) (nQ (sM r ta tb)):=
 (Ae ho Z hb hm).imp λσ H Q h=>by
   obtain⟨τ,G,q,S,B,L,Y⟩:=h.test;exact gJ.op ⟨τ,G,q,S,B,L,Y⟩
theorem DZ (h:QE X e t) (B:∀whole,isTrue e X.env whole=(do let v ←whole;standAt e.pos;holding [v] (truthy v)):=by intro _;rfl):QT X e (nQ t):=
 (Dj h B).imp λσ H Q h=>h.test
def GS (t u:WT):WT:=λτ G q=>t τ G λc G1=>if c=true then u τ G1 q else q false G1
def Nv (t u:WT):WT:=λτ G q=>t τ G λc G1=>if c=true then q true G1 else u τ G1 q
def GU (t:WT):WT:=λτ G q=>t τ G λc G1=>q (!c) G1
theorem Ap {a:Expr} {t:WT} (B:QT X a t):QW X (.BoolOp .And [a] pos) t:=zW B
theorem p7 {a:Expr} {t:WT} (B:QT X a t):QW X (.BoolOp .Or [a] pos) t:=Dk B
theorem D1 {a b:Expr} {t u:WT} (ha:QT X a t) (hb:QW X (.BoolOp .And (b::rest) pos) u):QW X (.BoolOp .And (a::b::rest) pos) (GS t u):=
 (Dl ha hb).imp λσ H Q z0=>z0.el λτ G q S hg ht Z=>⟨τ,G,_,S,hg,ht,λc H1 Y L g1 B=>by
   cases c with
   | true=>rw[ycv rfl] at B ⊢;exact⟨τ,Y,q,S.mono L,g1,B,λb H2 G2 t2 g2 q2=>Z b H2 G2 (L.trans t2) g2 q2⟩
   | false=>rw[ycw ydx] at B ⊢;exact Z false H1 Y L g1 B⟩
theorem sN {a b:Expr} {t u:WT} (ha:QT X a t) (hb:QW X (.BoolOp .Or (b::rest) pos) u):QW X (.BoolOp .Or (a::b::rest) pos) (Nv t u):=
 (Ge ha hb).imp λσ H Q z0=>z0.el λτ G q S hg ht Z=>⟨τ,G,_,S,hg,ht,λc H1 Y L g1 B=>by
   cases c with
   | true=>rw[ycv rfl] at B ⊢;exact Z true H1 Y L g1 B
   | false=>rw[ycw ydx] at B ⊢;exact⟨τ,Y,q,S.mono L,g1,B,λb H2 G2 t2 g2 q2=>Z b H2 G2 (L.trans t2) g2 q2⟩⟩
theorem D3 (h:QW X e t):QT X e t:=PW.pt h
theorem D4 {a:Expr} {t:WT} (ha:QT X a t):QT X (.UnaryOp .Not a pos) (GU t):=
 (Dm ha).imp λσ H Q S=>S.el λτ G q Y B L hQ=>⟨τ,G,_,Y,B,L,λc H1 Z t1 g1 q1=>hQ (!c) H1 Z t1 g1 q1⟩
def Cs (ta tb:WE):WE:=λτ G q=>ta τ G λx G1=>match x with | .bl c=>if c=true then tb τ G1 q else q (.bl false) G1 | _=>False
def GV (ta tb:WE):WE:=λτ G q=>ta τ G λx G1=>match x with | .bl c=>if c=true then q (.bl true) G1 else tb τ G1 q | _=>False
def wX (ta:WE):WE:=λτ G q=>ta τ G λx G1=>match x with | .bl c=>q (.bl (!c)) G1 | _=>False
theorem D5 {a:Expr} {op} {t:WE} (h:QE X a t):QE X (.BoolOp op [a] pos) t:=Dp h
theorem D6 {a b:Expr} {ta tb:WE} (ha:QE X a ta) (hb:QE X (.BoolOp .And (b::rest) pos) tb):QE X (.BoolOp .And (a::b::rest) pos) (Cs ta tb):=
 (Dq ha hb).imp λσ H Q z0=>z0.el λτ G q S hg ht Z=>⟨τ,G,_,S,hg,ht,λv H1 w Y L r1 g1 B=>by
   split at B
   ·rename_i c;cases r1;refine⟨c,rfl,?_⟩;cases c with
    | true=>rw[ycv rfl] at B ⊢;exact⟨τ,Y,q,S.mono L,g1,B,λv2 H2 w2 G2 t2 r2 g2 q2=>Z v2 H2 w2 G2 (L.trans t2) r2 g2 q2⟩
    | false=>rw[ycw ydx] at B ⊢;exact Z _ H1 _ Y L (.bl false) g1 B
   ·exact B.elim⟩
theorem GW {a b:Expr} {ta tb:WE} (ha:QE X a ta) (hb:QE X (.BoolOp .Or (b::rest) pos) tb):QE X (.BoolOp .Or (a::b::rest) pos) (GV ta tb):=
 (Gi ha hb).imp λσ H Q z0=>z0.el λτ G q S hg ht Z=>⟨τ,G,_,S,hg,ht,λv H1 w Y L r1 g1 B=>by
   split at B
   ·rename_i c;cases r1;refine⟨c,rfl,?_⟩;cases c with
    | true=>rw[ycv rfl] at B ⊢;exact Z _ H1 _ Y L (.bl true) g1 B
    | false=>rw[ycw ydx] at B ⊢;exact⟨τ,Y,q,S.mono L,g1,B,λv2 H2 w2 G2 t2 r2 g2 q2=>Z v2 H2 w2 G2 (L.trans t2) r2 g2 q2⟩
   ·exact B.elim⟩
theorem p8 {a:Expr} {ta:WE} (ha:QE X a ta):QE X (.UnaryOp .Not a pos) (wX ta):=
 (Dr ha).imp λσ H Q Z=>Z.el λτ G q hs L S hQ=>⟨τ,G,_,hs,L,S,λv H1 w G1 t1 Y g1 B=>by
   split at B
   ·rename_i c;cases Y;exact⟨c,rfl,hQ _ H1 _ G1 t1 (.bl _) g1 B⟩
   ·exact B.elim⟩
def GX (c:WT) (ta tb:WE):WE:=λτ G q=>c τ G λb G1=>if b=true then ta τ G1 q else tb τ G1 q
theorem nR {c a b:Expr} {tc:WT} {ta tb:WE} (hc:QT X c tc) (ha:QE X a ta) (hb:QE X b tb):QE X (.IfExp c a b pos) (GX tc ta tb):=
 (wm hc ha hb).imp λσ H Q z0=>z0.el λτ G q S hg ht hQ=>⟨τ,G,_,S,hg,ht,λc H1 G1 B g1 L=>by
   cases c with
   | true=>rw[ycv rfl] at L ⊢;exact⟨τ,G1,q,S.mono B,g1,L,λv2 H2 w2 Y t2 r2 g2 Z=>hQ v2 H2 w2 Y (B.trans t2) r2 g2 Z⟩
   | false=>rw[ycw ydx] at L ⊢;exact⟨τ,G1,q,S.mono B,g1,L,λv2 H2 w2 Y t2 r2 g2 Z=>hQ v2 H2 w2 Y (B.trans t2) r2 g2 Z⟩⟩
def jx:WA:=λ_ G q=>q [] G
def dW (ta:WE) (tr:WA):WA:=λτ G q=>ta τ G λx G1=>tr τ G1 λxs G2=>q (x::xs) G2
theorem ce:QA X [] jx:=pa_nil.imp λσ H Q Y=>Y.el λτ G q Z B S L=>L [] H [] G (aE.refl H) .nil B S
theorem aS (Z:QE X e te) (hr:QA X es t) (B:seZ X e es:=by rfl):QA X (e::es) (dW te t):=
 (bQ Z hr B).imp λσ H Q z0=>z0.el λτ G q B Y ht hQ=>⟨τ,G,_,B,Y,ht,λv H1 w G1 L r1 g1 q1=>
   ⟨τ,G1,_,B.mono L,g1,q1,λvs H2 ws G2 S r2 g2 q2=>hQ (v::vs) H2 (w::ws) G2 (L.trans S) (.cons (r1.mono S) r2) g2 q2⟩⟩
theorem bA (h:n<=100000):n<=sizeLine:=by rw[sizeLine_eq];lia
def D7 (t:WA):WE:=λτ G q=>t τ G λws G1=>ws.length<=100000/\q (.tup ws) G1
def wY (t:WA):WE:=λτ G q=>t τ G λws G1=>ws.length<=100000/\∀p,G1 p=none->q (.ref p) (av G1 p (.lst ws))
theorem D8 {x1} (h:QA X es t):QE X (.Tuple es x1 pos) (D7 t):=
 (DL h).imp λσ H Q z0=>z0.el λτ G q hs Y Z hQ=>⟨τ,G,_,hs,Y,Z,λvs H1 ws G1 t1 L g1 S=>
   ⟨by rw[←L.length];exact bA S.1,λp B=>hQ _ _ _ G1 (t1.trans (aE.new B _)) (.tup aY (L.mono (aE.new B _))) (g1.keep B _) S.2⟩⟩
theorem il (h:QA X es t):QE X (.List es pos) (wY t):=
 (DM h).imp λσ H Q z0=>z0.el λτ G q hs Z ht hQ=>⟨τ,G,_,hs,Z,ht,λvs H1 ws G1 t1 S Y L=>
   ⟨by rw[←S.length];exact bA L.1,λp B=>hQ _ _ _ _ (t1.trans (aE.new B _)) (.ref p) (Y.put (aE.new B _) S L.1) (L.2 p (Y.fresh B))⟩⟩
def kM:WS:=λd τ G=>d.nx τ G
def jy (t u:WS):WS:=λd τ G=>t { d with nx:=u d } τ G
theorem nP.mono (l:nP K H d D) (t:aE H H1):nP K H1 d D:=
 ⟨λB H2 L S Y=>l.nx B H2 L S (t.trans Y),λv H2 w S Y=>l.rt v H2 w S (t.trans Y),λB H2 L S Y=>l.bk B H2 L S (t.trans Y),λB H2 L S Y=>l.ct B H2 L S (t.trans Y)⟩
theorem aM:lO X [] kM:=pss_nil.imp λD σ H S=>S.el λτ G d Y B L l=>l.nx σ H τ G (aE.refl H) Y B L
theorem ac {rest:List Stmt} {t u:WS} (h1:QS X st t) (h2:lO X rest u):lO X (st::rest) (jy t u):=
 (wn h1 h2).imp λD σ H Z=>Z.el λτ G d hs L S l=>⟨τ,G,_,hs,L,S,⟨λab H1 B G1 Y s1 g1 q1=>⟨B,G1,d,s1,g1,q1,l.mono Y⟩,l.rt,l.bk,l.ct⟩⟩
theorem ak (h1:QS X st t):lO X [st] t:=zX h1
def wZ (te:WE):WS:=λd τ G=>te τ G λ_ G1=>d.nx τ G1
theorem bI (he:QE X e te) (B:swapsWith e none pos.line X.env=pure false:=by rfl):QS X (.Expr e pos) (wZ te):=
 (zY he B).imp λD σ H Z=>Z.el λτ G d B S Y l=>⟨τ,G,_,B,S,Y,λv H1 w G1 L r1 g1 q1=>l.nx σ H1 τ G1 L (B.mono L) g1 q1⟩
def w6 (te:WE):WS:=λd τ G=>te τ G d.rt
theorem bW (he:QE X e te):QS X (.Return (some e) pos) (w6 te):=
 (Ds he).imp λD σ H Y=>Y.el λτ G d Z B L l=>⟨τ,G,_,Z,B,L,λv H1 w G1 t1 S g1 q1=>l.rt v H1 w G1 t1 S g1 q1⟩
def K1 (c:WT) (t u:WS):WS:=λd τ G=>c τ G λb G1=>if b=true then t d τ G1 else u d τ G1
theorem a9 {c:Expr} {a b:List Stmt} {tc:WT} {t u:WS} (hc:QT X c tc) (ha:lO X a t) (hb:lO X b u):QS X (.If c a b pos) (K1 tc t u):=
 (Go hc ha hb).imp λD σ H z0=>z0.el λτ G d S hg ht l=>⟨τ,G,_,S,hg,ht,λc H1 Y B Z L=>by
   cases c with
   | true=>rw[ycv rfl] at L ⊢;exact⟨τ,Y,d,S.mono B,Z,L,l.mono B⟩
   | false=>rw[ycw ydx] at L ⊢;exact⟨τ,Y,d,S.mono B,Z,L,l.mono B⟩⟩
def bJ (i:Nat):WG:=λw τ G q=>q (τ.set i (some w)) G
theorem sO (i:Nat) (B:X.N.Nodup) (hi:X.N[i]?=some x) (hx:zV X.env.scope x) (S:X.fn x=true∨X.env.scope.names.lookup x=some .local:=by first | exact .inl rfl | exact .inr rfl | assumption):QG X (.Name x pos) (bJ i):=
 (z9 B hi hx S).imp λv σ H Q z9=>(by obtain⟨w,τ,G,q,r,Z,L,Y,hQ⟩:=z9;exact hQ _ H _ G (aE.refl H) (Z.set r i) L Y)
def nS:Cr:=λws τ G q=>match ws with | []=>q τ G | _=>False
def fO (t:WG) (u:Cr):Cr:=λws τ G q=>match ws with | w::r=>t w τ G λτ1 G1=>u r τ1 G1 q | []=>False
theorem Aq:FV X [] nS:=pgs_nil.imp λvs σ H Q z9=>by
 obtain⟨ws,τ,G,q,r,Y,L,B,S⟩:=z9
 unfold nS at B;cases r with
 | nil=>exact⟨rfl,S σ H τ G (aE.refl H) Y L B⟩
 | cons _ _=>exact B.elim
theorem w9 {t:WG} {u:Cr} (h1:QG X e t) (h2:FV X es u)
 (L:(assignEach (e::es) X.env).map (·.2)=assign e X.env::(assignEach es X.env).map (·.2):=by rfl):FV X (e::es) (fO t u):=
 (wo h1 h2 L).imp λvs σ H Q z9=>by
   obtain⟨ws,τ,G,q,r,L,hg,B,hQ⟩:=z9
   unfold fO at B;cases r with
   | nil=>exact B.elim
   | cons r rs=>
     exact⟨_,_,rfl,_,τ,G,_,r,L,hg,B,λab H1 S G1 t1 s1 g1 q1=>⟨_,S,G1,q,rs.mono t1,s1,g1,q1,λY H2 Z G2 t2=>hQ Y H2 Z G2 (t1.trans t2)⟩⟩
def nU (n:Nat) (t:Cr):WG:=λw τ G q=>match w with | .tup ws=>ws.length=n/\t ws τ G q | _=>False
theorem D9 (hc:X.calm=true) (h:FV X es t)
 (hn:(assignEach es X.env).length=es.length:=by rfl) (L:(assignEach es X.env).findIdx? (·.1)=none:=by rfl):QG X (.Tuple es k pos) (nU es.length t):=
 (Dt hc h hn L).imp λv σ H Q z9=>by
   obtain⟨w,τ,G,q,r,Y,S,B,Z⟩:=z9
   unfold nU at B;cases r with
   | tup h r=>exact⟨_,_,rfl,dG.of h,by rw[←r.length];exact B.1,_,τ,G,q,r,Y,S,B.2,Z⟩
   | _=>exact B.elim
def im (te:WE) (g:WG):WS:=λd τ G=>te τ G λx G1=>g x τ G1 d.nx
theorem LS.asg (h:LS K (im te g) D σ H):Du (gJ K te) (LG K g) D σ H:=by
 obtain⟨τ,G,d,Y,Z,ht,l⟩:=h;exact⟨τ,G,_,Y,Z,ht,λv H1 w G1 S r1 g1 q1=>⟨w,τ,G1,_,r1,Y.mono S,g1,q1,λB H2 L G2 t2=>l.nx B H2 L G2 (S.trans t2)⟩⟩
theorem cr (i:Nat) (S:X.N.Nodup) (hi:X.N[i]?=some x) (hx:zV X.env.scope x) (he:QE X e te) (B:swapsWith e (some (.Name x pos')) pos.line X.env=pure false:=by rfl) (Z:X.fn x=true∨X.env.scope.names.lookup x=some .local:=by first | exact .inl rfl | exact .inr rfl | assumption):
 QS X (.Assign [.Name x pos'] e pos) (im te (bJ i)):=
 (Dx S hi hx he B Z).imp λD σ H z0=>z0.el λτ G d B Y ht l=>
   ⟨τ,G,_,B,Y,ht,λv H1 w G1 L r1 g1 q1=>l.nx _ H1 _ G1 L ((B.mono L).set r1 i) g1 q1⟩
theorem Ea (L:QE X e te) (B:QG X tg g) (S:swapsWithSole [tg] e pos.line X.env=pure false:=by rfl) (hw:swappedStores [tg] e X.env=pure none:=by rfl)
 (h1:(assignEach [tg] X.env).map (·.2)=[assign tg X.env]:=by rfl):QS X (.Assign [tg] e pos) (im te g):=
 (Dw L B S hw h1).imp λ_ _ _ h=>h.asg
def xc (c:WT) (tb:WS):WS:=λd τ G=>∃I:Nat->bV->Gp->Prop,(∃m,I m τ G)/\∀m τ G,I m τ G->
 c τ G λb G1=>if b=true then ∃N:bV->Gp->Prop,(∀τ1 G1,N τ1 G1->∃m1,m1<m/\I m1 τ1 G1)/\tb { d with nx:=N,ct:=N,bk:=d.nx } τ G1 else d.nx τ G1
theorem gK (hp:PassesOwn (model X.prog X.w) X.A X.env X.xe) (hc:QT X c tc) (hb:lO X body tb):QS X (.While c body [] pos) (xc tc tb):=
 (wq hp hc hb).imp λD σ H z9=>by
   obtain⟨τ,G,d,hs,hg,⟨I,⟨m,i0⟩,ad⟩,l⟩:=z9
   refine⟨λm ab H1=>∃L G1,aE H H1/\aV X.K H1 L ab/\aB X.K H1 G1/\I m L G1,⟨m,τ,G,aE.refl H,hs,hg,i0⟩,?_⟩;rintro m1 ab H1 ⟨L,G1,t1,s1,g1,i1⟩;refine⟨L,G1,_,s1,g1,ad m1 L G1 i1,λb H2 G2 t2 g2 q2=>?_⟩;cases b with
   | true=>
     rw[ycv rfl] at q2 ⊢;obtain⟨N,hN,q2⟩:=q2;refine⟨λY Z=>∃B S,aE H Z/\aV X.K Z B Y/\aB X.K Z S/\N B S,?_,L,G2,_,s1.mono t2,g2,q2,?_⟩
     ·rintro Y Z ⟨B,S,t3,s3,g3,n3⟩;obtain⟨m3,hm,i3⟩:=hN B S n3;exact⟨m3,hm,B,S,t3,s3,g3,i3⟩
     ·have tt:=t1.trans t2;exact⟨λY Z B S t3 s3 g3 q3=>⟨B,S,tt.trans t3,s3,g3,q3⟩,λv Z w S t3=>l.rt v Z w S (tt.trans t3),λY Z B S t3=>l.nx Y Z B S (tt.trans t3),λY Z B S t3 s3 g3 q3=>⟨B,S,tt.trans t3,s3,g3,q3⟩⟩
   | false=>
     rw[ycw ydx] at q2 ⊢;exact l.nx ab H2 L G2 (t1.trans t2) (s1.mono t2) g2 q2
abbrev WX:=Value->Gp->Prop
abbrev aX:=List W->Gp->WK->WX->Prop
def xf (K:yav) (sp:aX):Sp:=λvs H Q E=>∃ws G q e,aJ K H ws vs/\aB K H G/\sp ws G q e/\(∀v H1 w G1,aE H H1->bO K H1 w v->aB K H1 G1->q w G1->Q v H1)/\
 ∀c d H1 G1,aE H H1->aB K H1 G1->e c G1->E c d H1
abbrev io (P:Program) (w:World) (K:yav) (mg:yew) (base:Heap) (k:Nat) (f:Addr) (fd:FuncData) (ps:List Str) (sp:aX):Prop:=cW P w K mg base wS k f fd ps (xf K sp)
def iM (sp:aX) (dws:List W) (t:WA):WE:=λτ G q=>t τ G λws G1=>sp (ws++dws) G1 q λ_ _=>False
theorem gJ.call {sp:aX} {dws:List W} {dvs:List V} {t:WA} {σ:St} {H:Hp} {Q:VK} {E:XK} (hd:∀H,aJ K H dws dvs) (h:gJ K (iM sp dws t) σ H Q):wD (xf K sp) dvs E (LA K t) σ H Q:=by
 obtain⟨τ,G,q,Y,B,L,hQ⟩:=h;exact⟨τ,G,_,Y,B,L,λvs H1 ws Z t1 S g1 q1=>⟨ws++dws,Z,q,_,S.append (hd H1),g1,q1,λv H2 w G2 t2=>hQ v H2 w G2 (t1.trans t2),λ_ _ _ _ _ _ z=>z.elim⟩⟩
theorem Ar {f:Addr} {sp:aX} {p pos:Pos} {t:WA} (F:io X.prog X.w X.K X.mg X.base k f fd ps sp) (hr:aH k X.A) (S:Gl X x) (hm:X.mg x=some (.ref f))
 (Y:keepIn X.K (.ref f)=true) (hb:bv X.K fd ps []) (ha:QA X (e::es) t) (L:dbz x:=by decide)
 (Z:seZ X e es:=by rfl) (B:plZ pos X es:=by rfl):QE X (.Call (.Name x p) (e::es) [] pos) (iM sp [] t):=
 (ja F hr S hm Y hb .nil ju ha L Z B).imp λ_ _ _ h=>h.call λ_=> .nil
theorem xg (F:io X.prog X.w X.K X.mg X.base k f fd ps sp) (hr:aH k X.A) (B:Gl X x) (hm:X.mg x=some (.ref f))
 (Z:keepIn X.K (.ref f)=true) (hb:bv X.K fd ps []) (L:dbz x:=by decide):QE X (.Call (.Name x p) [] [] pos) (iM sp [] jx):=
 (wG F hr B hm Z hb .nil ju L).imp λ_ _ _ h=>by
   obtain⟨τ,G,q,hs,B,S,Y⟩:=h;exact⟨[],G,q,_,.nil,B,S,Y,λ_ _ _ _ _ _ z=>z.elim⟩
noncomputable def ip (N:List Str) (ws:List W):bV:=ws.map some++List.replicate (N.length-ws.length) none
theorem io.none (h:∀ws G q e,¬sp ws G q e):io P w K mg base k f fd ps sp:=
 ⟨λ_ _ _ _ z9=>(by obtain⟨_,_,_,_,_,_,z,_⟩:=z9;exact absurd z (h _ _ _ _)),λ_ _ _ _ _ _ _ _ _ _ _ _ _ z9=>(by obtain⟨_,_,_,_,_,_,z,_⟩:=z9;exact absurd z (h _ _ _ _))⟩
theorem Eb (F:bf K x qual st f fd) (S:ay N ps (ae st)) (len:∀ws G q e,sp ws G q e->ws.length=ps.length)
 (B:∀(cdv:Value) (A:Around) (outer:List Env) (s:Shared) (H:Hp) (E:XK),aH k (A.deeper (envOfC qual (ae st) s.heap.objs.size f cdv))->
   ∃t,lO (bn wS P w K mg base N qual (ae st) f cdv A outer s H E).nox (aZ st) t/\
    ∀(ws:List W) (G:Gp) (q:WK) (e:WX),sp ws G q e->t { nx:=λ_ L=>∃G0,am G0 L/\q .non G0,rt:=λw L=>∃G0,am G0 L/\q w G0 } (ip N ws) G):io P w K mg base (k+1) f fd ps sp:=by
 refine F.ok S (λvs H Q E z9=>by obtain⟨ws,G,q,e,r,g,z,_⟩:=z9;rw[←r.length];exact len _ _ _ _ z) (λcdv A outer s H vs Q E hr z9=>?_);obtain⟨ws,G,q,e,r,g,z,hQ,_⟩:=z9;obtain⟨t,ht,hq⟩:=B cdv A outer s H E hr;exact⟨_,ht,_,G,_,aV.start r,g,hq ws G q e z,⟨λad H1 ab L Z s1 Y z9=>(by obtain⟨G0,l,q1⟩:=z9;exact hQ .non H1 .non G0 Z .non (Y.le l) q1),λv H1 w L Z r1 Y z9=>(by obtain⟨G0,l,q1⟩:=z9;exact hQ v H1 w G0 Z r1 (Y.le l) q1),λ_ _ _ _ _ _ _ z=>z.elim,λ_ _ _ _ _ _ _ z=>z.elim⟩⟩
def Ct (K:yav) (r:List W->Gp->WK->Prop):List V->Hp->VK->Prop:=λvs H Q=>∃ws G q,aJ K H ws vs/\aB K H G/\r ws G q/\∀v H1 w G1,aE H H1->bO K H1 w v->aB K H1 G1->q w G1->Q v H1
def cV (X:Cx) (f:Value) (r:List W->Gp->WK->Prop):Prop:=eR X f (Ct X.K r)
def FX (r:List W->Gp->WK->Prop) (t:WA):WE:=λτ G q=>t τ G λws G1=>r ws G1 q
theorem gJ.cb {r:List W->Gp->WK->Prop} {t:WA} {σ:St} {H:Hp} {Q:VK} (h:gJ K (FX r t) σ H Q):KO (Ct K r) (LA K t) σ H Q:=by
 obtain⟨τ,G,q,Z,B,L,hQ⟩:=h;exact⟨τ,G,_,Z,B,L,λvs H1 ws G1 Y S g1 q1=>⟨ws,G1,q,S,g1,q1,λv H2 w G2 t2=>hQ v H2 w G2 (Y.trans t2)⟩⟩
theorem eY {id:String} {r:List W->Gp->WK->Prop} {p pos:Pos} {t:WA} (hc:cV X (.builtin id) r) (S:Gl X x) (hm:X.mg x=none) (Z:bootBuiltins x=some (.builtin id)) (ha:QA X (e::es) t)
 (hn:x≠"__name__":=by decide) (L:dbz x:=by decide)
 (Y:seZ X e es:=by rfl) (B:plZ pos X es:=by rfl):QE X (.Call (.Name x p) (e::es) [] pos) (FX r t):=
 (gH hc S hm Z ha hn L Y B).imp λ_ _ _ h=>h.cb
theorem cI {T:String} {r:List W->Gp->WK->Prop} {p pos:Pos} {t:WA} (hc:cV X (.type T) r) (S:Gl X x) (hm:X.mg x=none) (Z:bootBuiltins x=some (.type T)) (ha:QA X (e::es) t)
 (hn:x≠"__name__":=by decide) (L:dbz x:=by decide)
 (Y:seZ X e es:=by rfl) (B:plZ pos X es:=by rfl):QE X (.Call (.Name x p) (e::es) [] pos) (FX r t):=
 (uY hc S hm Z ha hn L Y B).imp λ_ _ _ h=>h.cb
theorem aJ.one {H:Hp} {w:W} {vs:List V} (r:aJ K H [w] vs):∃v,vs=[v]/\bO K H w v:=by
 cases r with
 | cons r B=>cases B;exact⟨_,rfl,r⟩
theorem aJ.two {H:Hp} {w u:W} {vs:List V} (r:aJ K H [w,u] vs):∃v x,vs=[v,x]/\bO K H w v/\bO K H u x:=by
 cases r with
 | cons r B=>
   obtain⟨x,rfl,L⟩:=B.one;exact⟨_,_,rfl,r,L⟩
def GY:List W->Gp->WK->Prop:=λws G q=>match ws with
 | [.tup xs]=>q (.int xs.length) G
 | [.scr ns]=>q (.int ns.length) G
 | [.ref a]=>∃xs,G a=some (.lst xs)/\q (.int xs.length) G
 | _=>False
theorem Cv:cV X (.builtin "len") GY:=by
 rintro π s σ H xs us Q I r ⟨ws,G,q,B,g,h,L⟩;cases B with
 | nil=>exact False.elim h
 | cons r1 Z=>
   cases Z with
   | cons _ _=>cases r1<;> exact False.elim h
   | nil=>
     cases r1 with
     | tup Y S=>exact cY π s σ H _ us Q I r ⟨_,_,rfl,.inr (dG.of Y),L _ H _ G (aE.refl H) (by rw[S.length];exact .int _) g h⟩
     | scr Y=>exact cY π s σ H _ us Q I r ⟨_,_,rfl,.inl Y.sq,L _ H _ G (aE.refl H) (by rw[length_map];exact .int _) g h⟩
     | ref a=>
       obtain⟨ys,e,h⟩:=h;obtain⟨_,zs,e1,S⟩:=g a _ e;exact cY π s σ H _ us Q I r ⟨_,_,rfl,.inl (cG.of e1),L _ H _ G (aE.refl H) (by rw[S.length];exact .int _) g h⟩
     | _=>exact False.elim h
def xh:List W->Gp->WK->Prop:=λws G q=>match ws with
 | [.tup xs]=>q (.tup xs) G
 | [.ref a]=>∃xs,G a=some (.lst xs)/\q (.tup xs) G
 | _=>False
theorem sP:cV X (.type "tuple") xh:=by
 rintro π s σ H xs us Q I r ⟨ws,G,q,B,g,h,hQ⟩;cases B with
 | nil=>exact False.elim h
 | cons Z Y=>
   cases Y with
   | cons _ _=>cases Z<;> exact False.elim h
   | nil=>
     cases Z with
     | tup hh L=>exact fM π s σ H _ us Q I r ⟨_,_,rfl,.inr ⟨dG.of hh,hQ _ H _ G (aE.refl H) (.tup hh L) g h⟩⟩
     | ref a=>
       obtain⟨ys,e,h⟩:=h;obtain⟨_,zs,e1,L⟩:=g a _ e;exact fM π s σ H _ us Q I r ⟨_,_,rfl,.inl ⟨cG.of e1,λl S=>hQ _ _ _ G (aE.new S _) (.tup aY (L.mono (aE.new S _))) (g.keep S _) h⟩⟩
     | _=>exact False.elim h
def sQ:List W->Gp->WK->Prop:=λws G q=>match ws with
 | [.tup xs]=>xs.length<=100000/\∀p,G p=none->q (.ref p) (av G p (.lst xs))
 | [.ref a]=>∃xs,G a=some (.lst xs)/\∀p,G p=none->q (.ref p) (av G p (.lst xs))
 | _=>False
theorem xi:cV X (.type "list") sQ:=by
 rintro π s σ H xs us Q I r ⟨ws,G,q,L,g,h,hQ⟩;unfold sQ at h;split at h
 ·rename_i ys;obtain⟨v,rfl,Y⟩:=L.one;cases Y with
  | tup hh Z=>exact gI π s σ H _ us Q I r ⟨_,_,rfl,.inr (dG.of hh),λl S=>hQ _ _ _ _ (aE.new S _) (.ref l) (g.put (aE.new S _) Z h.1) (h.2 l (g.fresh S))⟩
 ·rename_i a;obtain⟨ys,e,h⟩:=h;obtain⟨v,rfl,Y⟩:=L.one;cases Y;obtain⟨S,zs,e1,Z⟩:=g a _ e;exact gI π s σ H _ us Q I r ⟨_,_,rfl,.inl (cG.of e1),λl B=>hQ _ _ _ _ (aE.new B _) (.ref l) (g.put (aE.new B _) Z S) (h l (g.fresh B))⟩
 ·exact h.elim
def Ec:List W->Gp->WK->Prop:=λws G q=>match ws with
 | [.int i]=>q (.int i) G
 | [.bl b]=>q (.int (if b then 1 else 0)) G
 | _=>False
theorem GZ:cV X (.type "int") Ec:=by
 rintro π s σ H xs us Q I r ⟨ws,G,q,B,g,h,Y⟩;cases B with
 | nil=>exact False.elim h
 | cons S L=>
   cases L with
   | cons _ _=>cases S<;> exact False.elim h
   | nil=>
     cases S with
     | int i=>exact kF π s σ H _ us Q I r (.inl ⟨_,rfl,Y _ H _ G (aE.refl H) (.int _) g h⟩)
     | bl b=>exact kF π s σ H _ us Q I r (.inr ⟨_,rfl,Y _ H _ G (aE.refl H) (.int _) g h⟩)
     | _=>exact False.elim h
def Ha:W2:=λx y G q=>match x,y with
 | .int i,.int j=>q (.int (i+j)) G
 | .tup xs,.tup ys=>xs.length+ys.length<=100000/\q (.tup (xs++ys)) G
 | .ref a,.ref b=>∃xs ys,G a=some (.lst xs)/\G b=some (.lst ys)/\xs.length+ys.length<=100000/\∀p,G p=none->q (.ref p) (av G p (.lst (xs++ys)))
 | _,_=>False
theorem K2 {σ:St} {H:Hp} {a b:Addr} {ys:List V} {Q:VK} (I:aw X π σ H s) (ha:H a=some (.tup [])) (hb:H b=some (.tup ys)) (q:Q (.ref b) H):wpAny (model X.prog X.w) X.A (binaryOp .Add (.ref a) (.ref b)) (EP X π σ Q) X.xe s:=by
 obtain⟨ai,r1,p1,_⟩:=I.tuple (dG.of ha);obtain⟨B,r2,p2,_⟩:=I.tuple (dG.of hb);cases r1;obtain⟨⟨aj,dd,ad,sl⟩,ho,hc,n,hd⟩:=id p1;obtain⟨⟨af,Z,data2,ab⟩,L,Y,n2,S⟩:=id p2;simp only at hc hd Y S;subst hc hd Y S;exact concat_meets ⟨_,ho,rfl⟩ ⟨_,L,rfl⟩ noFill_tuple_add seq_tuple_add PySem.F.slot_tuple_add PySem.F.entry_tuple_add (PySem.F.args_tuple_add_2 _ _)
  (tuple_addW0 a b #[] B.toArray n n2 dd Z sl ab rfl) ⟨ho,L,⟨.ref b,H,I,rfl,q⟩⟩
theorem Hb:eo X (binaryOp .Add) Ha:=by
 rintro π s σ H x y v u Q I rx ry ⟨wx,wy,G,q,r1,r2,g,h,Y⟩;cases r1 with
 | int i=>
   cases r2 with
   | int j=>exact DC π s σ H _ _ v u Q I rx ry ⟨_,_,rfl,rfl,Y _ H _ G (aE.refl H) (.int _) g h⟩
   | _=>exact False.elim h
 | @tup a ws xs Z L=>
   cases r2 with
   | @tup b us ys hb S=>
     cases xs with
     | nil=>
       cases L;cases rx;cases ry;exact K2 I Z hb (Y _ H _ G (aE.refl H) (.tup hb S) g h.2)
     | cons x0 xr=>
       refine Al π s σ H _ _ v u Q I rx ry ⟨a,b,_,_,rfl,rfl,dG.of Z,dG.of hb,by simp,by rw[←L.length,←S.length];exact bA h.1,λe=>?_,λ_ p B=>?_⟩
       ·subst e;cases S;have h2:=h.2;rw[append_nil] at h2;exact Y _ H _ G (aE.refl H) (.tup Z L) g h2
       ·exact Y _ _ _ G (aE.new B _) (.tup aY ((L.append S).mono (aE.new B _))) (g.keep B _) h.2
   | _=>exact False.elim h
 | ref a=>
   cases r2 with
   | ref b=>
     obtain⟨xs,ys,ea,eb,hl,h⟩:=h;obtain⟨_,ad,Z,L⟩:=g _ _ ea;obtain⟨_,ab,hb,S⟩:=g _ _ eb;refine DT π s σ H _ _ v u Q I rx ry ⟨_,_,_,_,rfl,rfl,Z,hb,by rw[←L.length,←S.length];exact bA hl,λp B=>?_⟩;exact Y _ _ _ _ (aE.new B _) (.ref p) (g.put (aE.new B _) (L.append S) (by rw[length_append];exact hl)) (h p (g.fresh B))
   | _=>exact False.elim h
 | _=>exact False.elim h
def q0 (C:Int->Int->Prop) (f:Int->Int->W):W2:=λx y G q=>match x,y with
 | .int i,.int j=>C i j/\q (f i j) G
 | _,_=>False
theorem lP {f:Value->Value->Sem Value} {C:Int->Int->Prop} {g:Int->Int->Int} (h:hV X f (rI C λi j=> .int (g i j))):eo X f (q0 C λi j=> .int (g i j)):=by
 rintro π s σ H x y v u Q I rx Y ⟨wx,wy,G,q,L,Z,gg,B,S⟩;unfold q0 at B;split at B
 ·cases L;cases Z;exact h π s σ H _ _ v u Q I rx Y ⟨_,_,rfl,rfl,B.1,S _ H _ G (aE.refl H) (.int _) gg B.2⟩
 ·exact B.elim
def kN (f:Int->Int->W):W2:=λx y G q=>match x,y with
 | .int i,.int j=>q (f i j) G
 | _,_=>False
theorem xk {f:Value->Value->Sem Value} {g:Int->Int->Bool} (h:hV X f (Aa λi j=> .bl (g i j))):eo X f (kN λi j=> .bl (g i j)):=by
 rintro π s σ H x y v u Q I rx Y ⟨wx,wy,G,q,L,Z,gg,B,S⟩;unfold kN at B;split at B
 ·cases L;cases Z;exact h π s σ H _ _ v u Q I rx Y ⟨_,_,rfl,rfl,S _ H _ G (aE.refl H) (.bl _) gg B⟩
 ·exact B.elim
abbrev K3:W2:=q0 (λ_ j=>0<j) λi j=> .int (i%j)
theorem Hc:eo X (binaryOp .Mod) K3:=lP DE
abbrev NS:W2:=kN λi j=> .bl (decide (i<=j))
abbrev NU:W2:=kN λi j=> .bl (decide (j<i))
abbrev NW:W2:=kN λi j=> .bl (decide (j<=i))
theorem Ed:eo X (compareOp .LtE) NS:=xk GF
theorem Hd:eo X (compareOp .Gt) NU:=xk GG
theorem He:eo X (compareOp .GtE) NW:=xk GH
def Hg:W2:=λx y G q=>match x,y with
 | .tup xs,.int i=>∃w,dQ xs i=some w/\q w G
 | .scr ns,.int i=>∃n,dQ ns i=some n/\q (.int n) G
 | .ref a,.int i=>∃xs w,G a=some (.lst xs)/\dQ xs i=some w/\q w G
 | _,_=>False
theorem aJ.at {H:Hp} {ws:List W} {vs:List V} {i:Int} {w:W} (r:aJ K H ws vs) (e:dQ ws i=some w):∃v,dQ vs i=some v/\bO K H w v:=by
 unfold dQ at e ⊢;rw[r.length] at e;cases h:wL vs.length i with
 | none=>rw[h] at e;cases e
 | some j=>
   rw[h] at e;exact r.get e
theorem As {α B:Type} (f:α->B) (xs:List α) (i:Int):dQ (xs.map f) i=(dQ xs i).map f:=by
 unfold dQ;rw[length_map];cases wL xs.length i with
 | none=>rfl
 | some j=>simp
theorem K4:FW X Hg:=by
 rintro value B π s σ H x y v u Q I rx ry ⟨wx,wy,G,q,r1,r2,g,h,Z⟩ L;cases r2 with
 | int i=>
   cases r1 with
   | tup hh rr=>
     obtain⟨w,e,h⟩:=h;obtain⟨Y,S,r'⟩:=rr.at e;exact DQ value B π s σ H _ _ v u Q I rx ry ⟨_,_,_,Y,rfl,rfl,dG.of hh,S,Z _ H _ G (aE.refl H) r' g h⟩ L
   | scr hh=>
     obtain⟨n,e,h⟩:=h;exact sJ value B π s σ H _ _ v u Q I rx ry ⟨_,_,_,.int n,rfl,rfl,hh.sq,by rw[As,e];rfl,Z _ H _ G (aE.refl H) (.int n) g h⟩ L
   | ref a=>
     obtain⟨xs,w,ea,e,h⟩:=h;obtain⟨_,zs,e1,rr⟩:=g _ _ ea;obtain⟨Y,S,r'⟩:=rr.at e;exact sJ value B π s σ H _ _ v u Q I rx ry ⟨_,_,_,Y,rfl,rfl,cG.of e1,S,Z _ H _ G (aE.refl H) r' g h⟩ L
   | _=>exact False.elim h
 | _=>cases r1<;> exact False.elim h
mutual
noncomputable def W.flat:W->Bool
 | .tup xs=>W.flats xs
 | .ref _=>false
 | .scr _=>false
 | _=>true
noncomputable def W.flats:List W->Bool
 | []=>true
 | x::xs=>W.flat x&&W.flats xs
end
mutual
noncomputable def W.dep:W->Nat
 | .tup xs=>W.deps xs+1
 | _=>0
noncomputable def W.deps:List W->Nat
 | []=>0
 | x::xs=>max (W.dep x) (W.deps xs)
end
mutual
noncomputable def W.eq:W->W->Bool
 | .non,.non=>true
 | .bl a,.bl b=>a==b
 | .bl a,.int j=>(if a then 1 else 0)==j
 | .int i,.bl b=>i==(if b then 1 else 0)
 | .int i,.int j=>i==j
 | .str x,.str y=>x==y
 | .tup xs,.tup ys=>W.eqs xs ys
 | _,_=>false
noncomputable def W.eqs:List W->List W->Bool
 | [],[]=>true
 | x::xs,y::ys=>W.eq x y&&W.eqs xs ys
 | _,_=>false
end
theorem cJ {P:Prop} (h:false=true):P:=Bool.noConfusion h
theorem W.eq_int (i j:Int):(W.int i).eq (W.int j)=(i==j):=rfl
theorem W.eq_tup (xs ys:List W):(W.tup xs).eq (W.tup ys)=W.eqs xs ys:=rfl
mutual
theorem W.eq_refl:∀w:W,w.flat=true->w.eq w=true
 | .non,_=>rfl
 | .bl b,_=>beq_self_eq_true b
 | .int i,_=>beq_self_eq_true i
 | .str x,_=>beq_self_eq_true x
 | .tup xs,h=>W.eqs_refl xs h
 | .ref _,h=>cJ h
 | .scr _,h=>cJ h
theorem W.eqs_refl:∀ws:List W,W.flats ws=true->W.eqs ws ws=true
 | [],_=>rfl
 | x::xs,h=>by
   have h':x.flat=true/\W.flats xs=true:=(Bool.and_eq_true _ _).mp h;exact(Bool.and_eq_true _ _).mpr ⟨W.eq_refl x h'.1,W.eqs_refl xs h'.2⟩
end
mutual
theorem bO.inj:∀{w u:W} {v:V},w.flat=true->u.flat=true->bO K H w v->bO K H u v->w=u:=by
 intro w u v h1 h2 L B;cases L with
 | non=>cases B;rfl
 | bl _=>cases B;rfl
 | int _=>cases B;rfl
 | str _=>cases B;rfl
 | ref _=>exact cJ h1
 | scr _=>exact cJ h1
 | tup Y L=>
   cases B with
   | ref _=>exact cJ h2
   | scr _=>exact cJ h2
   | tup S B=>
     rw[Y] at S;cases S;rw[aJ.inj h1 h2 L B]
theorem aJ.inj:∀{ws us:List W} {vs:List V},W.flats ws=true->W.flats us=true->aJ K H ws vs->aJ K H us vs->ws=us:=by
 intro ws us vs h1 h2 L B;cases L with
 | nil=>cases B;rfl
 | cons L S=>
   cases B with
   | cons B s2=>
     simp only[W.flats,Bool.and_eq_true] at h1 h2;rw[bO.inj h1.1 h2.1 L B,aJ.inj h1.2 h2.2 S s2]
end
theorem W.flats_get:∀{ws:List W} {j:Nat} {w:W},W.flats ws=true->ws[j]?=some w->w.flat=true
 | [],_,_,_,e=>by simp at e
 | x::xs,0,w,h,e=>by
   have h':x.flat=true/\W.flats xs=true:=by simpa[W.flats] using h
   simp at e;subst e;exact h'.1
 | x::xs,j+1,w,h,e=>by
   have h':x.flat=true/\W.flats xs=true:=by simpa[W.flats] using h
   exact W.flats_get h'.2 (by simpa using e)
theorem W.deps_get:∀{ws:List W} {j:Nat} {w:W},ws[j]?=some w->w.dep<=W.deps ws
 | [],_,_,e=>by simp at e
 | x::xs,0,w,e=>by simp at e;subst e;simp[W.deps];lia
 | x::xs,j+1,w,e=>by
   have:=W.deps_get (ws:=xs) (j:=j) (w:=w) (by simpa using e);simp only[W.deps];lia
theorem W.eqs_iff:∀(ws us:List W),W.eqs ws us=true↔ws.length=us.length/\∀(j:Nat) (a b:W),ws[j]?=some a->us[j]?=some b->W.eq a b=true
 | [],[]=>by simp[W.eqs]
 | [],_::_=>by simp[W.eqs]
 | _::_,[]=>by simp[W.eqs]
 | x::xs,y::ys=>by
   rw[W.eqs,Bool.and_eq_true,W.eqs_iff xs ys];constructor
   ·rintro⟨h1,h2,S⟩;refine⟨by simp[h2],λj a b B L=>?_⟩;cases j with
    | zero=>simp at B L;subst B L;exact h1
    | succ j=>exact S j a b (by simpa using B) (by simpa using L)
   ·rintro⟨h1,h2⟩;exact⟨h2 0 x y rfl rfl,by simpa using h1,λj a b B L=>h2 (j+1) a b (by simpa using B) (by simpa using L)⟩
noncomputable def jz (ws us:List W) (j:Nat):Bool:=match ws[j]?,us[j]? with | some a,some b=>W.eq a b | _,_=>true
theorem fC (ws us:List W):((List.range (min ws.length us.length)).all (jz ws us)&&(ws.length==us.length))=W.eqs ws us:=by
 rw[Bool.eq_iff_iff,Bool.and_eq_true,W.eqs_iff,all_eq_true,beq_iff_eq];constructor
 ·rintro⟨h1,h2⟩;refine⟨h2,λj a b B L=>?_⟩;have S:j<ws.length:=(List.getElem?_eq_some_iff.mp B).1;have:=h1 j (mem_range.mpr (by lia));unfold jz at this;rw[B,L] at this;exact this
 ·rintro⟨h1,h2⟩;refine⟨λj _=>?_,h1⟩;unfold jz;split
  ·rename_i a b B L;exact h2 j a b B L
  ·rfl
theorem aw.tupH (I:aw X π σ H s) (h:H a=some (.tup xs)):∃B:List Value,aK xs B/\s.heap.IsTuple a B.toArray/\xs.length<=sizeLine:=I.tuple (dG.of h)
theorem fW (I:aw X π σ H s):∀(n:Nat) (A:Around) {w1 w2:W} {v1 v2:V} {u1 S:Value},w1.dep<n->w1.flat=true->w2.flat=true->A.units+n<cLine->bO X.K H w1 v1->bO X.K H w2 v2->aT v1 u1->aT v2 S->
 SeqAt.EqAt A s u1 S (w1.eq w2)/\SeqAt.RcAt A s u1 S (w1.eq w2)/\SeqAt.RcNeAt A s u1 S (!(w1.eq w2)):=by
 intro n
 induction n with
 | zero=>intro A w1 w2 v1 v2 u1 S h;lia
 | succ n ih=>
   intro A w1 w2 v1 v2 u1 S hd f1 f2 hu r1 r2 q1 L;have B:A.units<cLine:=by lia
   have ad:A.in1.units+n<cLine:=by show A.units+1+n<cLine;lia
   cases r1 with
   | ref a=>exact cJ f1
   | scr a=>exact cJ f1
   | non=>
     cases (show u1=Value.none from q1);cases r2 with
     | ref a=>exact cJ f2
     | scr a=>exact cJ f2
     | non=>cases (show S=Value.none from L);exact⟨SeqAt.EqAt.same _,SeqAt.RcAt.none_none,SeqAt.RcNeAt.none_none⟩
     | bl b=>cases (show S=Value.bool b from L);exact⟨SeqAt.EqAt.none_bool b,SeqAt.RcAt.none_bool b,SeqAt.RcNeAt.none_bool b⟩
     | int b=>obtain⟨t,rfl⟩:=L;exact⟨SeqAt.EqAt.none_int b t,SeqAt.RcAt.none_int b t,SeqAt.RcNeAt.none_int b t⟩
     | str b=>obtain⟨t,rfl⟩:=L;exact⟨SeqAt.EqAt.none_str b t,SeqAt.RcAt.none_str b t,SeqAt.RcNeAt.none_str b t⟩
     | tup h r=>
       cases (show S=Value.ref _ from L);obtain⟨Y,_,p,_⟩:=aw.tupH I h;exact⟨SeqAt.EqAt.none_tuple p B,SeqAt.RcAt.none_tuple p B,SeqAt.RcNeAt.none_tuple p B⟩
   | bl a=>
     cases (show u1=Value.bool a from q1);cases r2 with
     | ref a=>exact cJ f2
     | scr a=>exact cJ f2
     | non=>cases (show S=Value.none from L);exact⟨SeqAt.EqAt.bool_none a,SeqAt.RcAt.bool_none a,SeqAt.RcNeAt.bool_none a⟩
     | bl b=>cases (show S=Value.bool b from L);exact⟨SeqAt.EqAt.bool_bool a b,SeqAt.RcAt.bool_bool a b,SeqAt.RcNeAt.bool_bool a b⟩
     | int b=>obtain⟨t,rfl⟩:=L;exact⟨SeqAt.EqAt.bool_int a b t,SeqAt.RcAt.bool_int a b t,SeqAt.RcNeAt.bool_int a b t⟩
     | str b=>obtain⟨t,rfl⟩:=L;exact⟨SeqAt.EqAt.bool_str a b t,SeqAt.RcAt.bool_str a b t,SeqAt.RcNeAt.bool_str a b t⟩
     | tup h r=>
       cases (show S=Value.ref _ from L);obtain⟨Y,_,p,_⟩:=aw.tupH I h;exact⟨SeqAt.EqAt.bool_tuple a p B,SeqAt.RcAt.bool_tuple a p B,SeqAt.RcNeAt.bool_tuple a p B⟩
   | int a=>
     obtain⟨ta,rfl⟩:=q1;cases r2 with
     | ref a=>exact cJ f2
     | scr a=>exact cJ f2
     | non=>cases (show S=Value.none from L);exact⟨SeqAt.EqAt.int_none a ta,SeqAt.RcAt.int_none a ta,SeqAt.RcNeAt.int_none a ta⟩
     | bl b=>cases (show S=Value.bool b from L);exact⟨SeqAt.EqAt.int_bool a ta b,SeqAt.RcAt.int_bool a ta b,SeqAt.RcNeAt.int_bool a ta b⟩
     | int b=>obtain⟨t,rfl⟩:=L;exact⟨SeqAt.EqAt.int_int a ta b t,SeqAt.RcAt.int_int a ta b t,SeqAt.RcNeAt.int_int a ta b t⟩
     | str b=>obtain⟨t,rfl⟩:=L;exact⟨SeqAt.EqAt.int_str a ta b t,SeqAt.RcAt.int_str a ta b t,SeqAt.RcNeAt.int_str a ta b t⟩
     | tup h r=>
       cases (show S=Value.ref _ from L);obtain⟨Y,_,p,_⟩:=aw.tupH I h;exact⟨SeqAt.EqAt.int_tuple a ta p B,SeqAt.RcAt.int_tuple a ta p B,SeqAt.RcNeAt.int_tuple a ta p B⟩
   | str a=>
     obtain⟨ta,rfl⟩:=q1;cases r2 with
     | ref a=>exact cJ f2
     | scr a=>exact cJ f2
     | non=>cases (show S=Value.none from L);exact⟨SeqAt.EqAt.str_none a ta,SeqAt.RcAt.str_none a ta,SeqAt.RcNeAt.str_none a ta⟩
     | bl b=>cases (show S=Value.bool b from L);exact⟨SeqAt.EqAt.str_bool a ta b,SeqAt.RcAt.str_bool a ta b,SeqAt.RcNeAt.str_bool a ta b⟩
     | int b=>obtain⟨t,rfl⟩:=L;exact⟨SeqAt.EqAt.str_int a ta b t,SeqAt.RcAt.str_int a ta b t,SeqAt.RcNeAt.str_int a ta b t⟩
     | str b=>obtain⟨t,rfl⟩:=L;exact⟨SeqAt.EqAt.str_str a ta b t,SeqAt.RcAt.str_str a ta b t,SeqAt.RcNeAt.str_str a ta b t⟩
     | tup h r=>
       cases (show S=Value.ref _ from L);obtain⟨Y,_,p,_⟩:=aw.tupH I h;exact⟨SeqAt.EqAt.str_tuple a ta p B,SeqAt.RcAt.str_tuple a ta p B,SeqAt.RcNeAt.str_tuple a ta p B⟩
   | @tup a ws xs h r=>
     cases (show u1=Value.ref _ from q1);obtain⟨Y,rv,p,_⟩:=aw.tupH I h;cases r2 with
     | ref a=>exact cJ f2
     | scr a=>exact cJ f2
     | non=>cases (show S=Value.none from L);exact⟨SeqAt.EqAt.tuple_none p B,SeqAt.RcAt.tuple_none p B,SeqAt.RcNeAt.tuple_none p B⟩
     | bl b=>cases (show S=Value.bool b from L);exact⟨SeqAt.EqAt.tuple_bool b p B,SeqAt.RcAt.tuple_bool b p B,SeqAt.RcNeAt.tuple_bool b p B⟩
     | int b=>obtain⟨t,rfl⟩:=L;exact⟨SeqAt.EqAt.tuple_int b t p B,SeqAt.RcAt.tuple_int b t p B,SeqAt.RcNeAt.tuple_int b t p B⟩
     | str b=>obtain⟨t,rfl⟩:=L;exact⟨SeqAt.EqAt.tuple_str b t p B,SeqAt.RcAt.tuple_str b t p B,SeqAt.RcNeAt.tuple_str b t p B⟩
     | @tup b us ys h2 r2=>
       cases (show S=Value.ref _ from L);obtain⟨Z,ab,p2,_⟩:=aw.tupH I h2;have g1:W.flats ws=true:=f1;have g2:W.flats us=true:=f2;have as:W.deps ws<n:=by simp only[W.dep] at hd;lia
       have e1:Y.length=ws.length:=by rw[←rv.length,r.length]
       have e2:Z.length=us.length:=by rw[←ab.length,r2.length]
       have he:∀j (h1:j<Y.toArray.size) (h2:j<Z.toArray.size),SeqAt.EqAt A.in1 s Y.toArray[j] Z.toArray[j] (jz ws us j):=λj j1 j2=>by
        rw[size_toArray] at j1 j2;have ea:ws[j]?=some ws[j]:=ycz (by lia);have eb:us[j]?=some us[j]:=ycz (by lia);obtain⟨va,ar,ra⟩:=r.get ea;obtain⟨vb,aj,rb⟩:=r2.get eb;obtain⟨ua,ai,qa⟩:=rv.get ar;obtain⟨ub,af,qb⟩:=ab.get aj;have za:Y.toArray[j]=ua:=by
         have:=(List.getElem?_eq_some_iff.mp ai).2;simpa using this
        have zb:Z.toArray[j]=ub:=by
         have:=(List.getElem?_eq_some_iff.mp af).2;simpa using this
        rw[za,zb];have:=(ih A.in1 (w1:=ws[j]) (w2:=us[j]) (Nat.lt_of_le_of_lt (W.deps_get ea) as) (W.flats_get g1 ea) (W.flats_get g2 eb) ad ra rb qa qb).1;unfold jz;rw[ea,eb];exact this
       have er:=fC ws us;have c1:=SeqAt.RcAt.tuples p p2 B he;have c2:=SeqAt.RcNeAt.tuples p p2 B he;rw[size_toArray,size_toArray,e1,e2,er] at c1 c2;have ee:(W.tup ws).eq (W.tup us)=W.eqs ws us:=rfl;rw[ee];refine⟨?_,c1,c2⟩
       by_cases hab:a=b
       ·subst hab;have z:=bO.inj f1 f2 (bO.tup h r) (bO.tup h2 r2);have t:W.eqs ws us=true:=by
         cases z;exact W.eqs_refl ws g1
        rw[t];exact SeqAt.EqAt.same _
       ·exact SeqAt.EqAt.of_refs hab c1
def At:W2:=λx y G q=>x.flat=true/\y.flat=true/\x.dep<=150/\q (.bl (x.eq y)) G
def Au:W2:=λx y G q=>x.flat=true/\y.flat=true/\x.dep<=150/\q (.bl (!(x.eq y))) G
theorem Ee (hr:aH k X.A):eo X (compareOp .Eq) At:=by
 rintro π s σ H x y v u Q I rx S ⟨wx,wy,G,q,B,Y,g,⟨f1,Z,hd,h⟩,L⟩;exact(fW I 151 X.A (by lia) f1 Z (by have:=hr.un;lia) B Y rx S).2.1 X.prog X.w X.xe _ ⟨.bl _,H,I,rfl,L _ H _ G (aE.refl H) (.bl _) g h⟩
theorem Ef (hr:aH k X.A):eo X (compareOp .NotEq) Au:=by
 rintro π s σ H x y v u Q I rx S ⟨wx,wy,G,q,B,Y,g,⟨f1,Z,hd,h⟩,L⟩;exact(fW I 151 X.A (by lia) f1 Z (by have:=hr.un;lia) B Y rx S).2.2 X.prog X.w X.xe _ ⟨.bl _,H,I,rfl,L _ H _ G (aE.refl H) (.bl _) g h⟩
def xl:W2:=λx y G q=>match x,y with
 | .int i,.int j=>q (.int (i-j)) G
 | .bl a,.bl b=>q (.int (b2i a-b2i b)) G
 | _,_=>False
theorem Hh:eo X (binaryOp .Sub) xl:=by
 rintro π s σ H x y v u Q I rx L ⟨wx,Z,G,q,Y,S,g,h,B⟩;cases Y with
 | int i=>
   cases S with
   | int j=>exact DD π s σ H _ _ v u Q I rx L ⟨_,_,rfl,rfl,B _ H _ G (aE.refl H) (.int _) g h⟩
   | _=>exact False.elim h
 | bl a=>
   cases S with
   | bl b=>
     cases rx;cases L;exact sub_bool ⟨.int _,H,I.tok _,⟨_,rfl⟩,B _ H _ G (aE.refl H) (.int _) g h⟩
   | _=>exact False.elim h
 | _=>exact False.elim h
noncomputable def nV:W->Bool
 | .non=>true
 | _=>false
def Hj (neg:Bool):W2:=λx y G q=>y=.non/\q (.bl (neg ^^ nV x)) G
theorem Cw:eo X (compareOp .Is) (Hj false):=by
 rintro π s σ H x y v u Q I rx S ⟨wx,Z,G,q,B,Y,g,⟨e,h⟩,L⟩;subst e;cases Y;refine DI π s σ H _ _ v u Q I rx S ⟨rfl,?_⟩;have z:decide (x=V.non)=nV wx:=by cases B<;> simp[nV]
 rw[z];exact L _ H _ G (aE.refl H) (.bl _) g (by simpa using h)
abbrev WO:=bV->Gp->(Option Int->Gp->Prop)->Prop
def LO (K:yav) (t:WO):TO:=λσ H Q=>∃τ G q,aV K H τ σ/\aB K H G/\t τ G q/\∀o H1 G1,aE H H1->aB K H1 G1->q o G1->Q o H1
def QO (X:Cx) (e:Option Expr) (t:WO):Prop:=PO X e (LO X.K t)
theorem PO.imp {e:Option Expr} {t t':TO} (h:PO X e t) (f:∀σ H Q,t' σ H Q->t σ H Q):PO X e t':=λπ s σ H Q I q=>h π s σ H Q I (f _ _ _ q)
def sR:WO:=λ_ G q=>q none G
def Cy (t:WE):WO:=λτ G q=>t τ G λx G1=>match x with | .int i=>q (some i) G1 | _=>False
theorem Av:QO X none sR:=po_none.imp λσ H Q z9=>(by obtain⟨τ,G,q,Y,B,S,L⟩:=z9;exact L none H G (aE.refl H) B S)
theorem Aw (h:QE X e te):QO X (some e) (Cy te):=
 (Ak h).imp λσ H Q z9=>(by obtain⟨τ,G,q,Z,L,S,hQ⟩:=z9;exact ⟨τ,G,_,Z,L,S,λv H1 w G1 t1 Y g1 B=>by
   split at B
   ·cases Y;exact⟨_,rfl,hQ _ H1 G1 t1 g1 B⟩
   ·exact B.elim⟩)
noncomputable def cL (xs:List W) (lo hi:Option Int):List W:=(xs.drop (_H.sIx xs.length 0 lo)).take (_H.sIx xs.length xs.length hi-_H.sIx xs.length 0 lo)
theorem aJ.cut (r:aJ K H ws vs) (lo hi:Option Int):aJ K H (cL ws lo hi) (nJ vs lo hi):=by
 unfold cL nJ;rw[r.length];exact(r.drop _).take _
abbrev W3:=W->Option Int->Option Int->Gp->WK->Prop
def re:W3:=λx lo hi G q=>match x with
 | .tup xs=>q (.tup (cL xs lo hi)) G
 | .scr ns=>ns.length<=100000/\∀p,G p=none->q (.ref p) (av G p (.lst (cL (ns.map W.int) lo hi)))
 | .ref a=>∃xs,G a=some (.lst xs)/\∀p,G p=none->q (.ref p) (av G p (.lst (cL xs lo hi)))
 | _=>False
theorem iN (xs:List W) (lo hi:Option Int):(cL xs lo hi).length<=xs.length:=by
 unfold cL;rw[length_take,length_drop];exact ycy (Nat.min_le_right _ _) (Nat.sub_le _ _)
theorem rh {lo hi:Option Int} (h:_H.sIx xs.length 0 lo=0/\_H.sIx xs.length xs.length hi=xs.length):cL xs lo hi=xs:=by
 unfold cL;rw[h.1,h.2,drop_zero,sub_zero,take_length]
theorem vh {t S:Addr} {lo hi:Option Int} (B:IsTup s.heap t items) (hs:s.heap.IsSliceOf S vl vu .none) (pl:IsPart vl lo) (pu:IsPart vu hi)
 (hw:_H.sIx items.size 0 lo=0/\_H.sIx items.size items.size hi=items.size) (h:Q (.ref t) s):wpAny (model prog w) A (getItem (.ref t) (.ref S)) Q E s:=by
 obtain⟨os,Y,ab,ad⟩:=id hs;have Z:s.TypeIs (.ref S) "slice":=⟨os,Y,ab⟩;unfold getItem
 try with_reducible refine wpAny_holding ?_
 first | refine wax (wpAny_pure ?_) | skip
 refine wax (wpAny_sequenceKey B.typeIs (by decide) ?_);refine wax (wpAny_callSpecial?_slot (name:=Str.ofString "__getitem__") B.typeIs PyProof.Rows.slot_tuple_getitem
  (wpAny_call_entry PyProof.Rows.slot_tuple_getitem B.typeIs entry_tuple_getitem ?_ (args_tuple_getitem _ _)))
 show wpAny _ _ (Builtin.Tuple.tupleItemsOf (.ref t) >>= _) _ _ s;refine wax (tupleItemsOf_ B ?_);refine wax (wpAny_typeOf Z ?_);rw[ycv (by decide)];refine wax (_H.sliceApplied_gen hs pl pu ?_);have L:(((_H.sIx items.size 0 lo:Nat):Int)==0&&(1:Int)==1&&(_H.sIx items.size items.size hi-_H.sIx items.size 0 lo)==items.size)=true:=by
  rw[hw.1,hw.2];simp
 show wpAny _ _ (if (((_H.sIx items.size 0 lo:Nat):Int)==0&&(1:Int)==1&&(_H.sIx items.size items.size hi-_H.sIx items.size 0 lo)==items.size)=true then _ else _) _ _ s;rw[ycv L];refine wax ?_;show wpAny _ _ (typeOf (.ref t) >>= _) _ _ s;refine wax (wpAny_typeOf B.typeIs (wpAny_pure ?_));rw[ycv (by simp)];exact wax (wpAny_rule (wpAny_pure ⟨_,rfl,wpAny_pure h⟩))
def Ny (K:yav) (r:W3):V->Option Int->Option Int->Hp->VK->Prop:=λx lo hi H Q=>∃w G q,bO K H w x/\aB K H G/\r w lo hi G q/\∀v H1 w G1,aE H H1->bO K H1 w v->aB K H1 G1->q w G1->Q v H1
theorem K5:GJ X (Ny X.K re):=by
 rintro π s σ H x v vl vu lo hi sl Q I rx Z pl pu ⟨w,G,q,r,g,h,hQ⟩;unfold re at h;split at h
 ·cases r with
  | @tup a ws xs S L=>
    by_cases hw:_H.sIx xs.length 0 lo=0/\_H.sIx xs.length xs.length hi=xs.length
    ·cases rx;obtain⟨ab,rv,ht,hz⟩:=I.tuple (dG.of S);have Y:ab.toArray.size=xs.length:=by rw[size_toArray];exact rv.length.symm
     refine⟨"tuple",_,PyProof.Rows.slot_tuple_getitem.lookup,ht.typeIs,?_⟩;refine vh ht Z pl pu (by rw[Y];exact hw) ⟨.ref a,H,I,rfl,?_⟩;rw[rh (by rw[L.length];exact hw)] at h;exact hQ _ H _ G (aE.refl H) (.tup S L) g h
    ·exact DO π s σ H _ v vl vu lo hi sl Q I rx Z pl pu ⟨a,xs,rfl,dG.of S,hw,λp B=>hQ _ _ _ G (aE.new B _) (.tup aY ((L.cut lo hi).mono (aE.new B _))) (g.keep B _) h⟩
 ·rename_i ns;cases r with
  | scr S=>
    refine sK π s σ H _ v vl vu lo hi sl Q I rx Z pl pu ⟨_,_,rfl,S.sq,λp B=>hQ _ _ _ _ (aE.new B _) (.ref p) (g.put (aE.new B _) ((aJ.ints ns).cut lo hi) ?_) (h.2 p (g.fresh B))⟩;exact ycy (iN _ _ _) (by rw[length_map];exact h.1)
 ·obtain⟨xs,e,h⟩:=h;cases r;obtain⟨hl,zs,e1,L⟩:=g _ _ e;exact sK π s σ H _ v vl vu lo hi sl Q I rx Z pl pu ⟨_,zs,rfl,cG.of e1,λp B=>hQ _ _ _ _ (aE.new B _) (.ref p) (g.put (aE.new B _) (L.cut lo hi) (ycy (iN _ _ _) hl)) (h p (g.fresh B))⟩
 ·exact h.elim
theorem jA:bootBuiltins "isinstance"=some (.builtin "isinstance"):=by decide+kernel
noncomputable def kO (G:Gp):W->Option String
 | .non=>some "NoneType"
 | .bl _=>some "bool"
 | .int _=>some "int"
 | .str _=>some "str"
 | .tup _=>some "tuple"
 | .ref a=>match G a with | some (.lst _)=>some "list" | some .dct=>some "dict" | some (.dic _)=>some "dict" | _=>none
 | .scr _=>none
noncomputable def fI:String->String->Bool
 | "int","int"=>true
 | "bool","int"=>true
 | "bool","bool"=>true
 | "tuple","tuple"=>true
 | "list","list"=>true
 | "str","str"=>true
 | _,_=>false
def nW (T:String):Prop:=T="int"∨T="bool"∨T="tuple"∨T="list"∨T="str"
theorem Eg (L:t="NoneType"∨t="bool"∨t="int"∨t="str"∨t="tuple"∨t="list"∨t="dict") (B:nW T):PySem.W.kitOne K (.type t) (.type T)=some (fI t T):=by
 rcases L with rfl | rfl | rfl | rfl | rfl | rfl | rfl<;> rcases B with rfl | rfl | rfl | rfl | rfl<;> first | rfl | kernel_rfl | decide+kernel
def Hk (T:String) (te:WE):WE:=λτ G q=>te τ G λx G1=>match kO G1 x with | some t=>q (.bl (fI t T)) G1 | none=>False
theorem xm {H:Hp} {G:Gp} {w:W} {v:V} {t:String} (g:aB K H G) (r:bO K H w v) (e:kO G w=some t):ik K H v (.type t)/\(t="NoneType"∨t="bool"∨t="int"∨t="str"∨t="tuple"∨t="list"∨t="dict"):=by
 unfold kO at e;cases r with
 | non=>cases e;exact⟨.non,by simp⟩
 | bl b=>cases e;exact⟨.bl b,by simp⟩
 | int i=>cases e;exact⟨.int i,by simp⟩
 | str x=>cases e;exact⟨.str x,by simp⟩
 | tup h _=>cases e;exact⟨.tup h,by simp⟩
 | scr h=>cases e
 | ref a=>
   simp only at e;split at e
   ·rename_i ws B;cases e;obtain⟨_,xs,L,_⟩:=g a _ B;exact⟨.lst L,by simp⟩
   ·rename_i B;cases e;exact⟨.dK (g a _ B),by simp⟩
   ·rename_i kvs B;cases e;obtain⟨_,S,L,_⟩:=g a _ B;exact⟨.dK L,by simp⟩
   ·cases e
theorem Hl {T:String} (L:nW T) {σ:St} {H:Hp} {v:V} {w:W} {G:Gp} {q:WK} {Q:VK} (I:aw X π σ H s) (S:aT v u) (r:bO X.K H w v) (g:aB X.K H G)
 (h:match kO G w with | some t=>q (.bl (fI t T)) G | none=>False) (Y:∀v H1 w B,aE H H1->bO X.K H1 w v->aB X.K H1 B->q w B->Q v H1):
 wpAny (model X.prog X.w) X.A (call (.builtin "isinstance") [u,.type T]) (EP X π σ Q) X.xe s:=by
 split at h
 ·rename_i t e;obtain⟨ty,Z⟩:=xm g r e;exact uW I S ty (Eg Z L) λtk=>⟨.bl _,H,I.tok tk,rfl,Y _ H _ G (aE.refl H) (.bl _) g h⟩
 ·exact h.elim
theorem jB {T:String} {te:WE} {p pos:Pos} (hT:nW T) (hv:bootBuiltins x=some (.type T)) (hm:X.mg x=none) (af:Gl X x) (ad:X.mg "isinstance"=none) (ai:Gl X "isinstance") (he:QE X e te) (hn:x≠"__name__":=by decide) (hd:dbz x:=by decide)
 (B:starEach [e,.Name x p2] X.env=(false,eval e X.env)::starEach [.Name x p2] X.env:=by rfl) (ab:starEach [.Name x p2] X.env=(false,eval (.Name x p2) X.env)::starEach [] X.env:=by rfl)
 (S:(backTo pos (starEach [.Name x p2] X.env)).any (·.1)=false:=by rfl):QE X (.Call (.Name "isinstance" p) [e,.Name x p2] [] pos) (Hk T te):=by
 have hb:PE X (.Name x p2) (tC (.ty T)):=sE af hm hv rfl hn hd;have ha:PA X [e,.Name x p2] (jp (gJ X.K te) (jp (tC (.ty T)) pV)):=bQ he (bQ hb pa_nil ab) B;have hc:eR X (.builtin "isinstance") (λvs H Q=>∃(v:V) (w:W) (G:Gp) (q:WK),vs=[v,.ty T]/\bO X.K H w v/\aB X.K H G/\(match kO G w with | some t=>q (.bl (fI t T)) G | none=>False)/\∀v H1 w L,aE H H1->bO X.K H1 w v->aB X.K H1 L->q w L->Q v H1):=by
  rintro π s σ H xs us Q I r ⟨v,w,G,q,e1,Z,g1,h,hQ⟩;subst e1;obtain⟨u,u2,rfl,ru,Y⟩:=wz r;cases (show u2=Value.type T from Y);exact Hl hT I ru Z g1 h hQ
 exact(gH hc ai ad jA ha (by decide) (by decide) B S).imp λσ H Q z0=>z0.el λτ G q hs hg ht hQ=>⟨τ,G,_,hs,hg,ht,λv H1 w L t1 Z g1 q1=>
  ⟨v,w,L,q,rfl,Z,g1,q1,λv2 H2 w2 G2 t2=>hQ v2 H2 w2 G2 (t1.trans t2)⟩⟩
def Eh:List W->Gp->WK->Prop:=λws G q=>match ws with
 | [.ref a]=>∃ns:List Int,G a=some (.lst (ns.map W.int))/\q (.int ns.sum) G
 | _=>False
theorem aJ.ints_of:∀{ns:List Int} {vs:List V},aJ K H (ns.map W.int) vs->vs=ns.map V.int
 | [],_,r=>by cases r;rfl
 | n::ns,_,r=>by
   cases r with
   | cons r B=>
     cases r;rw[aJ.ints_of B]
     rfl
theorem Hn (hc:X.calm=true):cV X (.builtin "sum") Eh:=by
 rintro π s σ H xs us Q I r ⟨ws,G,q,B,g,h,hQ⟩;unfold Eh at h;split at h
 ·rename_i a;obtain⟨ns,e,h⟩:=h;obtain⟨v,rfl,Y⟩:=B.one;cases Y;obtain⟨_,zs,Z,rr⟩:=g a _ e;obtain rfl:=rr.ints_of;obtain⟨u,rfl,ru⟩:=cC r;cases (show u=Value.ref a from ru);obtain⟨L,rv,p,hz⟩:=I.list (cG.of Z);have hi:IntsAre L ns:=_L.intsAre_of rv;obtain⟨ys,S⟩:=hi.allInts.items;have hn:(ys.toList.map (·.1))=ns:=by rw[←nums_intItems,←S,←hi.numsOf]
  have hl:s.heap.IsList a (intItems ys):=by rw[←S];exact p.isList
  refine sum_intListG (I.ok.hd hc) hl λh' tk t' hk=>⟨.int _,H,I.kept hk,⟨t',rfl⟩,?_⟩;have es:preSum (numAt ys) ys.size=ns.sum:=by rw[preSum_eq,take_of_length_le (by simp),hn]
  rw[es];exact hQ _ H _ G (aE.refl H) (.int _) g h
 ·exact h.elim
def Ei (to te:WE):WE:=λτ G q=>to τ G λx G1=>match x with
 | .ref a=>(∃xs,G1 a=some (.lst xs))/\te τ G1 λy G2=>∃ys,G2 a=some (.lst ys)/\ys.length+1<=100000/\q .non (av G2 a (.lst (ys++[y])))
 | _=>False
theorem fX (ho:QE X o to) (he:QE X e te)
 (B:attributeBase o "append" X.env (eval o X.env)=eval o X.env:=by rfl)
 (S:((backTo cpos (starEach [e] X.env)).all (λx=>!x.1)&&(backToKw cpos (keywordEach [] X.env)).all (λx=>x.1.isSome)
   &&decide (([e]:List Expr).length+([]:List Keyword).length+(if ([]:List Keyword).isEmpty then 0 else 1)<30))=true:=by rfl)
 (L:(apos.endLine==cpos.line)=true:=by rfl) (Y:starEach [e] X.env=(false,eval e X.env)::starEach [] X.env:=by rfl):
 QE X (.Call (.Attribute o "append" apos) [e] [] cpos) (Ei to te):=
 (jt PySem.F.plainAttrs_list PySem.F.slot_list_append PySem.F.type_list_append uZ ho (bQ he pa_nil Y) B S L Y rfl).imp λσ H Q z0=>z0.el λτ G q Y hg ht hQ=>
   ⟨τ,G,_,Y,hg,ht,λv H1 w G1 t1 r1 g1 Z=>by
     split at Z
     ·rename_i a;cases r1;obtain⟨⟨xs,e1⟩,Z⟩:=Z;obtain⟨_,ad,h1,_⟩:=g1 a _ e1;refine⟨.inl ⟨rfl,ad,cG.of h1⟩,τ,G1,_,Y.mono t1,g1,Z,λv2 H2 w2 G2 t2 r2 g2 q2=>?_⟩;obtain⟨ys,e2,hl,q2⟩:=q2;obtain⟨_,ab,h2,rr⟩:=g2 a _ e2;refine⟨a,ab,v2,rfl,rfl,h2,?_,?_⟩
      ·rw[←rr.length];exact bA hl
      ·exact hQ _ _ _ _ ((t1.trans t2).trans (aE.lst h2 _)) .non (g2.put (aE.lst h2 _) (rr.append (.cons r2 .nil)) (by rw[length_append];exact hl)) q2
     ·exact Z.elim⟩
structure sS (K:yav) (J:It) (ws:List W) (C:Gp->Prop) (H0:Hp):Prop where
 stop:∀i H G,aE H0 H->aB K H G->C G->ws.length<=i->J.stop i H
 go:∀i w H G,aE H0 H->aB K H G->C G->ws[i]?=some w->J.go i H/\∀x H',J.yld i H x H'->aE H H'/\bO K H' w x/\aB K H' G
abbrev WI:=bV->Gp->(List W->(Gp->Prop)->Gp->Prop)->Prop
def LI (K:yav) (t:WI):TI:=λσ H R=>∃τ G r,aV K H τ σ/\aB K H G/\t τ G r/\∀J H1 ws C G1,aE H H1->aB K H1 G1->sS K J ws C H1->r ws C G1->R J H1
def QI (X:Cx) (tg iter:Expr) (t:WI):Prop:=PI X tg iter (LI X.K t)
section
variable {tg:Expr}
theorem PI.imp (h:PI X tg e t) (f:∀σ H R,t' σ H R->t σ H R):PI X tg e t':=λπ s σ H R I q=>h π s σ H R I (f _ _ _ q)
theorem Ax (h:H a=some (.tup xs)) (r:aJ K H ws xs):sS K (KF K a) ws (λ_=>True) H where
 stop:=λi H1 G t g _ hl=>⟨xs,dG.of (t.tup _ _ h),by rw[←r.length];exact hl⟩
 go:=λi w H1 G t g _ e=>by
  obtain⟨v,L,Z⟩:=r.get e;refine⟨⟨xs,v,dG.of (t.tup _ _ h),L⟩,λx H' z9=>?_⟩;obtain⟨Y,S⟩:=z9;subst Y;have B:=S xs (dG.of (t.tup _ _ h));rw[L] at B;cases B;exact⟨aE.refl _,Z.mono t,g⟩
theorem Ay:sS K (Ki K a) ws (λG=>G a=some (.lst ws)) H where
 stop:=λi H1 G t g e hl=>by
  obtain⟨_,xs,h1,r⟩:=g a _ e;exact⟨xs,cG.of h1,by rw[←r.length];exact hl⟩
 go:=λi w H1 G t g eG e=>by
  obtain⟨_,xs,h1,r⟩:=g a _ eG;obtain⟨v,B,Z⟩:=r.get e;refine⟨⟨xs,v,cG.of h1,B⟩,λx H' z9=>?_⟩;obtain⟨Y,S⟩:=z9;subst Y;have L:=S xs (cG.of h1);rw[B] at L;cases L;exact⟨aE.refl _,Z,g⟩
theorem Az (h:Cq K H a ns):sS K (Ki K a) (ns.map W.int) (λ_=>True) H where
 stop:=λi H1 G t g _ hl=>⟨_,(h.mono t).sq,by simpa using hl⟩
 go:=λi w H1 G t g _ e=>by
  have r:aJ K H1 (ns.map W.int) (ns.map V.int):=aJ.ints ns;obtain⟨v,B,Z⟩:=r.get e;refine⟨⟨_,v,(h.mono t).sq,B⟩,λx H' z9=>?_⟩;obtain⟨Y,S⟩:=z9;subst Y;have L:=S _ (h.mono t).sq;rw[B] at L;cases L;exact⟨aE.refl _,Z,g⟩
noncomputable def wc (n:Nat):List W:=(List.range n).map λ(i:Nat)=>W.int (i:Int)
theorem AA:sS K (Kj 0 n) (wc n) (λ_=>True) H where
 stop:=λi H1 G t g _ S=>by have h:n<=i:=(by simpa[wc] using S);exact h
 go:=λi w H1 G t g _ e=>by
  unfold wc at e;rw[List.getElem?_map] at e;have hi:i<n:=by
   cases h:(List.range n)[i]? with
   | none=>rw[h] at e;cases e
   | some k=>
     have:=(List.getElem?_eq_some_iff.mp h).1;simpa using this
  rw[List.getElem?_range hi] at e;cases e;refine⟨hi,λx H' z9=>?_⟩;obtain⟨L,B⟩:=z9;subst L;subst B;exact⟨aE.refl _,by simpa using bO.int _,g⟩
def Ho (ta:WA):WI:=λτ G r=>ta τ G λws G1=>match ws with
 | [.int j]=> -(2^62)<=j/\j<2^62/\r (wc j.toNat) (λ_=>True) G1
 | _=>False
theorem xn {a:Expr} {ta:WA} {p pos:Pos} (L:Gl X "range") (hm:X.mg "range"=none) (Y:QA X [a] ta) (S:starEach [a] X.env=[(false,eval a X.env)]:=by rfl):QI X tg (.Call (.Name "range" p) [a] [] pos) (Ho ta):=
 (uQ L hm Y S).imp λσ H R z9=>(by obtain⟨τ,G,r,S,L,ht,hR⟩:=z9;exact ⟨τ,G,_,S,L,ht,λvs H1 ws G1 t1 r1 g1 B=>by
   split at B
   ·obtain⟨v,rfl,Z⟩:=r1.one;cases Z with
    | int j=>exact⟨_,rfl,B.1,B.2.1,hR _ H1 _ _ G1 t1 g1 AA B.2.2⟩
   ·exact B.elim⟩)
def iO (C:Gp->Prop) (g:WG) (tb:WS) (d:cj):List W->bV->Gp->Prop
 | [],τ,G=>C G/\d.nx τ G
 | w::ws,τ,G=>C G/\g w τ G λτ2 G2=>tb { d with nx:=iO C g tb d ws,ct:=iO C g tb d ws,bk:=d.nx } τ2 G2
def Hq (wi:WI) (g:WG) (tb:WS):WS:=λd τ G=>wi τ G λws C G1=>iO C g tb d ws τ G1
theorem cK (hp:PassesOwn (model X.prog X.w) X.A X.env X.xe) (hc:X.calm=true) (hi:QI X tg iter wi) (hg:QG X tg g) (hb:lO X body tb)
 (hs:∀x,foldedSetIterable iter X.env x=pure x:=by intro _;rfl):QS X (.For tg iter body [] pos) (Hq wi g tb):=
 (Dz hp hc hi hg hb hs).imp λD σ H z0=>z0.el λτ G d hs hg ht l=>⟨τ,G,_,hs,hg,ht,λJ H1 ws C G1 t1 g1 it q1=>by
   refine⟨λi m ab H2=>∃L G2,m=ws.length-i/\i<=ws.length/\aE H1 H2/\aV X.K H2 L ab/\aB X.K H2 G2/\iO C g tb d (ws.drop i) L G2,⟨ws.length,τ,G1,by simp,zero_le _,aE.refl _,hs.mono t1,g1,by simpa using q1⟩,?_⟩;rintro i m ab H2 ⟨L,G2,rfl,hi,t2,s2,g2,q2⟩
   by_cases hlt:i<ws.length
   ·have ed:ws.drop i=ws[i]::ws.drop (i+1):=drop_eq_getElem_cons hlt;rw[ed] at q2;obtain⟨c2,q2⟩:=q2;obtain⟨go,yl⟩:=it.go i ws[i] H2 G2 t2 g2 c2 (ycz hlt);refine .inr ⟨go,λad H3=>∃B G3,aE H1 H3/\aV X.K H3 B ad/\aB X.K H3 G3/\iO C g tb d (ws.drop (i+1)) B G3,?_,λx H' hy=>?_⟩
    ·rintro ad H3 ⟨B,G3,t3,s3,g3,q3⟩;exact⟨ws.length- (i+1),by lia,B,G3,rfl,hlt,t3,s3,g3,q3⟩
    ·obtain⟨tx,rx,gx⟩:=yl x H' hy;refine⟨ws[i],L,G2,_,rx,s2.mono tx,gx,q2,λad H3 B G3 t3 s3 g3 q3=>?_⟩;have tt:=(t2.trans tx).trans t3;have t0:=t1.trans tt;exact⟨B,G3,_,s3,g3,q3,⟨λY H4 S G4 Z s4 g4 q4=>⟨S,G4,tt.trans Z,s4,g4,q4⟩,λv H4 w G4 Z=>l.rt v H4 w G4 (t0.trans Z),λY H4 S G4 Z=>l.nx Y H4 S G4 (t0.trans Z),λY H4 S G4 Z s4 g4 q4=>⟨S,G4,tt.trans Z,s4,g4,q4⟩⟩⟩
   ·have e:i=ws.length:=by lia
    subst e;rw[List.drop_length] at q2;exact .inl ⟨it.stop _ H2 G2 t2 g2 q2.1 (ycx _),l.nx ab H2 L G2 (t1.trans t2) s2 g2 q2.2⟩⟩
end
theorem fY {it t:Addr} {x:Value} (a:s.heap.IsTupleIter it t i) (b:s.heap.IsTuple t items) (e:items[i]?=some x) (q:∀h',h'.IsTupleIter it t (i+1)->Heap.SameBut it s.heap h'->Q x { s with heap:=h' }):wpAny (model prog w) A (Builtin.SmallTypes.nextOf (.ref it)) Q E s:=by
 obtain⟨o,L,Z,B⟩:=id a;obtain⟨ol,S,_,nl,Y⟩:=b;unfold Builtin.SmallTypes.nextOf;refine wax (wpAny_callSpecial?_slot (name:=Str.ofString "__next__") a.typeIs F.slot_tuple_iterator_next (wpAny_call_entry F.slot_tuple_iterator_next a.typeIs F.entry_tuple_iterator_next ?_ (F.args_tuple_iterator_next_1 _)));show wpAny _ _ (field (.ref it) 0 >>= _) _ _ s;refine wax (wpAny_field L B (x:= .ref t) rfl ?_);show wpAny _ _ (if (Value.ref t==Value.none)=true then _ else _) _ _ s;rw[ycw (show ¬((Value.ref t==Value.none)=true) from ydx)];show wpAny _ _ (field (.ref it) 1 >>= _) _ _ s;refine wax (wpAny_field L B (x:= .int i 0) rfl ?_);show wpAny _ _ (seqItems? (.ref t) >>= _) _ _ s;refine wax (wpAny_seqItems S Y ?_);simp only[Int.toNat_natCast,e];refine wax (wpAny_setField L B (by simp) (wpAny_pure ⟨x,rfl,wpAny_pure (q _ ⟨_,Heap.get?_update_self _ L (Obj.isFreed_of_fields (Obj.data_mapFields B _)),(Obj.cls_mapFields ..).trans Z,by rw[Obj.data_mapFields B];simp[rawInt]⟩ (Heap.SameBut.update ..))⟩))
theorem kP (Z:A.handled=none) (a:s.heap.IsTupleIter it t i) (b:s.heap.IsTuple t items) (e:items[i]?=none) (q:∀h' x,Heap.ExtBut it s.heap h'->(∃o,h'.get? x=some o/\o.cls=.type "StopIteration")->E (.ref x) { s with heap:=h' }):wpAny (model prog w) A (Builtin.SmallTypes.nextOf (.ref it)) Q E s:=by
 obtain⟨o,L,hc,B⟩:=id a;obtain⟨ol,S,_,nl,Y⟩:=b;unfold Builtin.SmallTypes.nextOf;refine wax (wpAny_callSpecial?_slot (name:=Str.ofString "__next__") a.typeIs F.slot_tuple_iterator_next (wpAny_call_entry F.slot_tuple_iterator_next a.typeIs F.entry_tuple_iterator_next ?_ (F.args_tuple_iterator_next_1 _)));show wpAny _ _ (field (.ref it) 0 >>= _) _ _ s;refine wax (wpAny_field L B (x:= .ref t) rfl ?_);show wpAny _ _ (if (Value.ref t==Value.none)=true then _ else _) _ _ s;rw[ycw (show ¬((Value.ref t==Value.none)=true) from ydx)];show wpAny _ _ (field (.ref it) 1 >>= _) _ _ s;refine wax (wpAny_field L B (x:= .int i 0) rfl ?_);show wpAny _ _ (seqItems? (.ref t) >>= _) _ _ s;refine wax (wpAny_seqItems S Y ?_);simp only[Int.toNat_natCast,e];refine wax (wpAny_rule (wax (wpAny_setField L B (by simp) ?_)));show wpAny _ _ (newExc (.type "StopIteration") [] >>= _) _ _ _;refine wax ?_;simp only[newExc,newTuple];refine wax (wpAny_newObj_type ?_ (by size_fits));refine wax (m:=firstArgMember _ _) (wpAny_of_eq (a:=Value.none) (by first | rfl | (simp only[firstArgMember];rfl)) ?_);refine wpAny_newObj_type ?_ (by size_fits);simp only[raiseNew];refine wax (wpAny_handled ?_);first | rw[show A.in1.handled=none from Z] | rw[Z]
 refine wax (wpAny_pure (wpAny_throw ?_));exact q _ _ (((Heap.SameBut.update ..).extBut.push _).push _) ⟨_,ybw _ rfl,rfl⟩
structure ZA (z p r i j a b:Addr):Prop where
 zp:p≠z
 zr:r≠z
 zi:i≠z
 zj:j≠z
 pr:p≠r
 pi:p≠i
 pj:p≠j
 ri:r≠i
 rj:r≠j
 ij:i≠j
 az:a≠z
 ar:a≠r
 ai:a≠i
 aj:a≠j
 bz:b≠z
 br:b≠r
 bi:b≠i
 bj:b≠j
structure ZT (z p r i j a b:Addr) (n:Nat) (f:Value) (h:Heap):Prop where
 hz:IsZip h z p r f
 hp:IsPair h p (.ref i) (.ref j)
 hr:∃x y,IsPair h r x y
 hi:h.IsTupleIter i a n
 hj:h.IsTupleIter j b n
theorem Ej {n a b:Nat} (B:a<n) (hb:b<n):ZA (n+4) (n+2) (n+3) n (n+1) a b:=by
 constructor<;> (show(_:Nat)≠(_:Nat);lia)
section
variable {R:Result->Shared->Prop}
abbrev nox:Value->Shared->Prop:=λ_ _=>False
noncomputable abbrev Cz (ifs:List Expr) (env:Env):Sem Bool:=forIn ifs true λc r=>if r=true then do let ok ←isTrue c env (eval c env);pure (ForInStep.yield ok) else pure (ForInStep.yield r)
end
noncomputable def fZ (env:Env):List (Str×NameKind)->List (Str×Addr)->List (Str×Addr)
 | [],cs=>cs
 | (n,k)::r,cs=>if k== .free then fZ env r ((n,(env.cells.lookup n).getD 0)::cs) else fZ env r cs
theorem gf (h:∀y∈scope.names,y.2=.free->∃c,env.cells.lookup y.1=some c):closureFor scope env=pure (fZ env scope.names []):=by
 unfold closureFor;have S:∀(l:List (Str×NameKind)) (cs:List (Str×Addr)),(∀y∈l,y.2=.free->∃c,env.cells.lookup y.1=some c)->
  (forIn l cs λ(x:Str×NameKind) (r:List (Str×Addr))=>(if (x.2==NameKind.free)=true then (do let y ←cellOf env x.1;pure (ForInStep.yield ((x.1,y)::r))) else pure (ForInStep.yield r):Sem (ForInStep (List (Str×Addr)))))=(pure (fZ env l cs):Sem (List (Str×Addr))):=by
  intro l
  induction l with
  | nil=>intro cs _;rfl
  | cons y r ih=>
    intro cs Y;obtain⟨n,k⟩:=y;rw[forIn_cons];unfold fZ
    by_cases hk:(k==NameKind.free)=true
    ·have L:k=.free:=by simpa using hk
     obtain⟨c,Z⟩:=Y (n,k) yby L;simp only[hk,if_true];have e:cellOf env n=pure c:=by unfold cellOf;rw[Z]
     rw[e,Z];simp only[pure_bind,Option.getD_some];exact ih _ λy B=>Y y (ybx _ B)
    ·simp only[hk,if_false,Bool.false_eq_true];simp only[pure_bind];exact ih _ λy B=>Y y (ybx _ B)
 have:=S scope.names [] h;simp only[bind_pure];exact this
theorem dH:∀{l:List (Str×NameKind)} {cs:List (Str×Addr)},(∀y∈l,y.2=.free->∃c,env.cells.lookup y.1=some c)->(∀x c,cs.lookup x=some c->env.cells.lookup x=some c)->∀x c,(fZ env l cs).lookup x=some c->env.cells.lookup x=some c
 | [],_,_,S,x,c,e=>S x c e
 | (n,k)::r,cs,Z,S,x,c,e=>by
   unfold fZ at e;have hr:∀y∈r,y.2=.free->∃c,env.cells.lookup y.1=some c:=λy hy=>Z y (ybx _ hy);split at e
   ·rename_i hk;obtain⟨c0,L⟩:=Z (n,k) yby (by simpa using hk);refine dH hr (λY c' B=>?_) x c e;rw[lookup_cons] at B;cases hx:Y==n with
    | true=>
      rw[hx] at B;have:Y=n:=by simpa using hx
      subst this;rw[L] at B;simp at B;subst B;exact L
    | false=>rw[hx] at B;exact S Y c' B
   ·exact dH hr S x c e
theorem eZ:∀{l:List (Str×NameKind)} {cs:List (Str×Addr)} {x:Str},((x,NameKind.free)∈l∨∃c,cs.lookup x=some c)->∃c,(fZ env l cs).lookup x=some c
 | [],_,_,h=>by
   rcases h with h | h
   ·simp at h
   ·exact h
 | (n,k)::r,cs,x,h=>by
   unfold fZ;have keep:(∃c,cs.lookup x=some c)->∃c,((n,(env.cells.lookup n).getD 0)::cs).lookup x=some c:=λz9=>by
    obtain⟨c,e⟩:=z9
    rw[lookup_cons];cases hx:x==n with
    | true=>exact⟨_,rfl⟩
    | false=>exact⟨c,e⟩
   split
   ·rename_i B;refine eZ ?_;rcases h with h | h
    ·rcases mem_cons.mp h with h | h
     ·cases (h);exact .inr ⟨(env.cells.lookup n).getD 0,by rw[lookup_cons];simp⟩
     ·exact .inl h
    ·exact .inr (keep h)
   ·rename_i B;refine eZ ?_;rcases h with h | h
    ·rcases mem_cons.mp h with h | h
     ·cases h;exact absurd rfl B
     ·exact .inl h
    ·exact .inr h
theorem dt {env:Env}:∀{l:List (Str×NameKind)} {x:Str} {k:NameKind},(l.map λ(n,k)=>if (k==NameKind.free&&env.scope.kind== .function&&env.kindOf n==some .cell) then (n,NameKind.cell) else (n,k)).lookup x=some k->(k=.cell∨k=.free)->(∀y∈l,y.2≠ .cell)->(x,NameKind.free)∈l
 | [],_,_,e,_,_=>by simp at e
 | (n,k0)::r,x,k,e,Y,Z=>by
   rw[map_cons,lookup_cons] at e;have hr:∀y∈r,y.2≠ .cell:=λy hy=>Z y (ybx _ hy);have hn:(if (k0==NameKind.free&&env.scope.kind== .function&&env.kindOf n==some .cell)=true then (n,NameKind.cell) else (n,k0)).1=n:=by split<;> rfl
   rw[hn] at e;cases hx:x==n with
   | false=>rw[hx] at e;exact ybx _ (dt e Y hr)
   | true=>
     rw[hx] at e;have B:x=n:=by simpa using hx
     subst B;have S:(if (k0==NameKind.free&&env.scope.kind== .function&&env.kindOf x==some .cell)=true then (x,NameKind.cell) else (x,k0)).2=k:=Option.some.inj e
     by_cases hf:k0=.free
     ·subst hf;exact yby
     ·rw[ycw (by simp[hf])] at S;have L:k0=k:=S;subst L;rcases Y with h | h
      ·exact absurd h (Z _ yby)
      ·exact absurd h hf
theorem fP {env:Env}:∀{l:List (Str×NameKind)} {x:Str},(l.map λ(n,k)=>if (k==NameKind.free&&env.scope.kind== .function&&env.kindOf n==some .cell) then (n,NameKind.cell) else (n,k)).lookup x=some .local->l.lookup x=some .local
 | [],_,e=>by simp at e
 | (n,k0)::r,x,e=>by
   rw[map_cons,lookup_cons] at e;rw[lookup_cons];have L:(if (k0==NameKind.free&&env.scope.kind== .function&&env.kindOf n==some .cell)=true then (n,NameKind.cell) else (n,k0)).1=n:=by split<;> rfl
   rw[L] at e;cases hx:x==n with
   | false=>rw[hx] at e;exact fP e
   | true=>
     rw[hx] at e;have B:(if (k0==NameKind.free&&env.scope.kind== .function&&env.kindOf n==some .cell)=true then (n,NameKind.cell) else (n,k0)).2=NameKind.local:=Option.some.inj e;split at B
     ·cases B
     ·exact congrArg some B
noncomputable def fJ (X:Cx) (N:List Str) (scope:Scope) (C:Addr) (fp:List Addr) (s₀:Shared) (H₀:Hp):Cx where
 prog:=X.prog
 w:=X.w
 K:=X.K
 mg:=X.mg
 base:=X.base
 A:=X.A
 N:=N
 s₀:=s₀
 H₀:=H₀
 env:=compEnvC scope (fZ X.env scope.names []) C X.env
 outer:=X.stack
 stack:=X.stack
 ex:=fp
 fn:=λ_=>false
 calm:=X.calm
 pn:=[]
 xe:=nox
structure eA (X:Cx) (scope:Scope) (N:List Str) (fv:List (Option Nat)):Prop where
 kind:scope.kind=.function
 nocell:∀y∈scope.names,y.2≠ .cell
 names:∀x∈scope.names,x.2=.local->scope.names.lookup x.1=some .local
 free:∀y∈scope.names,y.2=.free->X.env.scope.names.lookup y.1=some .cell
 fvs:∀(i j:Nat) (x:Str),N[i]?=some x->fv[i]?=some (some j)->X.N[j]?=some x/\X.env.scope.names.lookup x=some .cell/\(x,NameKind.free)∈scope.names
 len:fv.length=N.length
 fvl:∀{x:Str},(x,NameKind.free)∈scope.names->scope.names.lookup x≠some .local
noncomputable def dN {α:Type} (fv:List (Option Nat)) (σ:List (Option α)):List (Option α):=fv.map λo=>o.bind λj=>(σ[j]?).join
theorem nX {α:Type} {fv:List (Option Nat)} {σ:List (Option α)} {v:α} (h:(dN fv σ)[i]?=some (some v)):∃j,fv[i]?=some (some j)/\σ[j]?=some (some v):=by
 unfold dN at h;rw[List.getElem?_map] at h;cases e:fv[i]? with
 | none=>rw[e] at h;cases h
 | some o=>
   rw[e] at h;cases o with
   | none=>cases h
   | some j=>
     have h':(σ[j]?).join=some v:=Option.some.inj h;refine⟨j,rfl,?_⟩;cases e2:σ[j]? with
     | none=>rw[e2] at h';cases h'
     | some o=>rw[e2] at h';exact congrArg some h'
theorem xp (h:aV K H τ σ):aV K H (dN fv τ) (dN fv σ):=by
 refine⟨by simp[dN],λi w e=>?_⟩;obtain⟨j,S,B⟩:=nX e;obtain⟨v,L,r⟩:=h.2 j w B;refine⟨v,?_,r⟩;unfold dN;rw[List.getElem?_map,S];show some ((σ[j]?).join)=_;rw[L]
 rfl
section
variable {H2:Hp} {s2:Shared} {N:List Str} {fv:List (Option Nat)} {fp:List Addr} {C D:Addr}
theorem eA.cells (S:eA X scope N fv) (I:aw X π σ H s):∀y∈scope.names,y.2=.free->∃c,X.env.cells.lookup y.1=some c:=λy L B=>I.ok.has y.1 (.inl (S.free y L B))
theorem vi {t4:Nat} {m:yew} (I:aw X π σ H2 s2) (S:eA X scope N fv) (Z:∀b∈fp,iX X π H2 b) (ab:∀b∈fp,b<s2.heap.objs.size) (keep:∀b o,s2.heap.get? b=some o->h4.get? b=some o)
 (hC:s2.heap.objs.size<=C) (ns:h4.Ns C m):aw (fJ X N scope C fp s2 H2) [] (dN fv σ) H2 { s2 with heap:=h4,toks:=t4 }:=by
 have look:∀x c,(fZ X.env scope.names []).lookup x=some c->X.env.cells.lookup x=some c:=dH (S.cells I) (λx c e=>by simp at e);refine⟨⟨I.ok.mod,S.kind,I.ok.glob,I.ok.blt,hC,λx y c e1 e2=>I.ok.inj x y c (look x c e1) (look y c e2),λx B=>?_,λx c h=>absurd (show false=true from h) ydx,I.ok.hd,I.ok.frames,.inl rfl,λb hb=>?_,I.bs,ycy I.ok.bsz I.sz,λb o e hb=>?_,λb hb B=>?_,I.stack,I.stkFree⟩,
  rfl,I.bare,Un.kept keep,⟨m,ns,λi x v e1 e2 L=>?_⟩,λx c e=>?_,I.hok.fresh hC,λx c e=>I.freeC x c (look x c e),λp hp=>absurd (show p∈([]:List (Addr×Obj)) from hp) (by simp),I.hok.kept keep,?_⟩
 ·rcases B with B | B
  ·exact eZ (.inl (dt B (.inl rfl) S.nocell))
  ·exact eZ (.inl (dt B (.inr rfl) S.nocell))
 ·exact⟨ne_of_lt (ydw (ab b hb) hC),λx c e=>(Z b hb).2.2.2.2.1 x c (look x c e)⟩
 ·rcases(Z b hb).2.2.2.1 with z | z
  ·exact I.ok.noex b o e z
  ·exact absurd (ydw (ybv e) (ycy I.ok.bsz z)) (lt_irrefl _)
 ·rcases mem_cons.mp (I.stkSub b B) with z | z
  ·exact(Z b hb).2.1 z
  ·exact(Z b hb).2.2.1 z
 ·obtain⟨j,ej,ev⟩:=nX e2;obtain⟨h1,h2,h3⟩:=S.fvs i j x e1 ej;obtain⟨m0,_,hl⟩:=I.loc;obtain⟨u,r,l⟩:=hl j x v h1 ev (.inr (.inl h2));refine⟨u,r,.inr ?_⟩;rcases l with⟨k,_⟩ | ⟨_,c,ec,o,ho,hd⟩
  ·exact absurd (h2.symm.trans k) (by intro z;cases z)
  ·obtain⟨c',Y⟩:=eZ (env:=X.env) (l:=scope.names) (cs:=[]) (x:=x) (.inl h3);have e':=look x c' Y;rw[ec] at e';cases e';refine⟨?_,c,Y,o,keep _ _ ho,hd⟩;rcases L with L | L | L
   ·exact absurd (fP L) λz=>S.fvl h3 z
   ·exact .inl L
   ·exact .inr L
 ·obtain⟨v,o,ho,hd⟩:=I.cell x c (look x c e);exact⟨v,o,keep _ _ ho,hd⟩
 ·show(dN fv σ).length=N.length;unfold dN;rw[length_map,S.len]
end
def bw (C:Gp->Prop) (g:WG) (tt:WT) (te:WE):List W->bV->Gp->List W->(List W->Gp->Prop)->Prop
 | [],_,G,acc,q=>C G/\q acc G
 | w::ws,τ,G,acc,q=>C G/\g w τ G λτ2 G2=>tt τ2 G2 λb G3=>if b=true then te τ2 G3 λv G4=>acc.length+1<=100000/\bw C g tt te ws τ2 G4 (acc++[v]) q else bw C g tt te ws τ2 G3 acc q
def AB (X:Cx) (ifs:List Expr) (t:WT):Prop:=
 ∀(π:List (Addr×Obj)) (s:Shared) (σ:St) (H:Hp) (Q:Bool->Hp->Prop),aw X π σ H s->DW X.K t σ H Q->wpAny (model X.prog X.w) X.A (Cz ifs X.env) (TP X π σ Q) X.xe s
def kQ:WT:=λ_ G q=>q true G
theorem sT:AB X [] kQ:=λπ s σ H Q I z9=>(by obtain⟨τ,G,q,Y,B,S,L⟩:=z9;exact wpAny_tests_nil ⟨H,I,L true H G (aE.refl H) B S⟩)
theorem AC (h:QT X c t):AB X [c] t:=λπ s σ H Q I hw=>wpAny_tests_one (h π s σ H Q I hw)
theorem aB.track (h:aB K H G) (e:H p=some (.lst xs)) (r:aJ K H ws xs) (L:ws.length<=100000):aB K H (av G p (.lst ws)):=λa g B=>by
 by_cases hb:a=p
 ·subst hb;rw[aa] at B;cases B;exact⟨L,xs,e,r⟩
 ·rw[ao hb] at B;exact h a g B
section
variable {H2:Hp} {s2:Shared} {N:List Str} {fv:List (Option Nat)} {fp:List Addr} {tg elt iter:Expr} {ifs:List Expr} {J:It} {it:Addr} {tn:Nat->Heap->Prop} {g:WG} {tt:WT} {te:WE} {ws:List W} {Cd:Gp->Prop} {τ:bV} {G:Gp} {q:List W->Gp->Prop}
structure sU (X:Cx) (π:List (Addr×Obj)) (σ:St) (H2:Hp) (s2:Shared) (G:Gp) (q:List W->Gp->Prop) (D C:Addr) (s':Shared):Prop where
 ex:∃(Hf:Hp) (Gf:Gp) (rs:List W),(∃m,s'.heap.Ns C m)/\aw X π σ Hf s'/\Hf C=none/\s2.heap.objs.size<=C/\aE H2 Hf/\aB X.K Hf (av Gf D (.lst rs))/\G D=none/\Gf D=none/\q rs Gf
structure Hr (Y:Cx) (fp:List Addr) (tn:Nat->Heap->Prop) (ws:List W) (H2:Hp) (D:Addr) (R:List W->bV->Gp->List W->Prop) (n:Nat) (s:Shared) (i:Nat) (σ1:St) (H1:Hp) (τ1:bV) (G1:Gp) (acc:List W) (vs:List V) (its:yez):Prop where
 hn:n=ws.length-i
 hi:i<=ws.length
 inv:aw Y [] σ1 H1 s
 st:tn i s.heap
 fr:∀b∈fp,H1 b=none
 hd:H1 D=none
 pl:s.heap.PlainList D its.toArray
 rv:aK vs its
 ra:aJ Y.K H1 acc vs
 tl:aE H2 H1
 rs:aV Y.K H1 τ1 σ1
 rg:aB Y.K H1 G1
 cw:R (ws.drop i) τ1 G1 acc
 hl:acc.length<=100000
def nY (wi:WI) (fv:List (Option Nat)) (g:WG) (tt:WT) (te:WE):WE:=λτ G q=>wi τ G λws Cd G1=>bw Cd g tt te ws (dN fv τ) G1 [] λrs G2=>∀p,G1 p=none->q (.ref p) (av G2 p (.lst rs))
end
noncomputable def du:List W->List W->List W
 | x::xs,y::ys=> .tup [x,y]::du xs ys
 | _,_=>[]
theorem nZ:∀{xs ys:List W} {i:Nat} {w:W},(du xs ys)[i]?=some w->∃x y,xs[i]?=some x/\ys[i]?=some y/\w=.tup [x,y]
 | [],_,_,_,e=>by simp[du] at e
 | _::_,[],_,_,e=>by simp[du] at e
 | x::xs,y::ys,0,w,e=>by simp[du] at e;exact⟨x,y,rfl,rfl,e.symm⟩
 | x::xs,y::ys,i+1,w,e=>by
   obtain⟨a,b,h1,h2,B⟩:=nZ (xs:=xs) (ys:=ys) (i:=i) (w:=w) (by simpa[du] using e);exact⟨a,b,by simpa using h1,by simpa using h2,B⟩
theorem iP:∀(xs ys:List W),(du xs ys).length=min xs.length ys.length
 | [],_=>by simp[du]
 | _::_,[]=>by simp[du]
 | _::xs,_::ys=>by simp only[du,length_cons,iP xs ys];exact(Nat.succ_min_succ _ _).symm
theorem xq:bootBuiltins "zip"=some (.type "zip"):=by decide+kernel
def Hs (te:WE):WE:=λτ G q=>te τ G λx G1=>match x with | .int i=>q (.int (-i)) G1 | _=>False
theorem Ek {a:Expr} {ta:WE} (ha:QE X a ta):QE X (.UnaryOp .USub a pos) (Hs ta):=
 (Gv DG ha).imp λσ H Q Z=>Z.el λτ G q hs L S hQ=>⟨τ,G,_,hs,L,S,λv H1 w G1 t1 Y g1 B=>by
   split at B
   ·cases Y;exact⟨_,rfl,hQ _ H1 _ G1 t1 (.int _) g1 B⟩
   ·exact B.elim⟩
def Fx (P:Program) (w:World) (K:yav) (mg:yew) (base:Heap) (x:Str) (ps:List Str) (k:Nat) (sp:aX):Prop:=
 ∃(f:Addr) (fd:FuncData),io P w K mg base k f fd ps sp/\mg x=some (.ref f)/\keepIn K (.ref f)=true/\bv K fd ps []
theorem sV {sp:aX} {p pos:Pos} {t:WA} (F:Fx X.prog X.w X.K X.mg X.base x ps k sp) (hr:aH k X.A) (S:Gl X x) (ha:QA X (e::es) t) (L:dbz x:=by decide)
 (Y:seZ X e es:=by rfl) (B:plZ pos X es:=by rfl):QE X (.Call (.Name x p) (e::es) [] pos) (iM sp [] t):=by
 obtain⟨f,fd,h1,h2,Z,h4⟩:=F;exact Ar h1 hr S h2 Z h4 ha L Y B
theorem El (F:Fx X.prog X.w X.K X.mg X.base x ps k sp) (hr:aH k X.A) (L:Gl X x) (B:dbz x:=by decide):QE X (.Call (.Name x p) [] [] pos) (iM sp [] jx):=by
 obtain⟨f,fd,h1,h2,Y,S⟩:=F;exact xg h1 hr L h2 Y S B
noncomputable def xu (scope:Scope):List Str:=scope.names.map (·.1)
noncomputable def rl (N:List Str) (scope:Scope):List (Option Nat):=scope.names.map λy=>if y.2== .free then N.findIdx? (·==y.1) else none
noncomputable def xv (outer scope:Scope):Bool:=
 scope.kind== .function&&scope.names.all (λy=>y.2 !=.cell)&&scope.names.all (λy=>y.2 !=.local||scope.names.lookup y.1==some .local)&&
  scope.names.all (λy=>y.2 !=.free||(outer.names.lookup y.1==some .cell&&scope.names.lookup y.1 !=some .local))
theorem lQ (h:xv X.env.scope scope=true):eA X scope (xu scope) (rl X.N scope):=by
 unfold xv at h;simp only[Bool.and_eq_true,all_eq_true,Bool.or_eq_true,bne_iff_ne,beq_iff_eq,ne_eq] at h;obtain⟨⟨⟨h1,h2⟩,h3⟩,h4⟩:=h;refine⟨h1,h2,λx hx Z=>(h3 x hx).resolve_left λz=>z Z,λy hy Z=>((h4 y hy).resolve_left λz=>z Z).1,λi j x S e2=>?_,by simp[xu,rl],λ{x} hx=>((h4 _ hx).resolve_left λz=>z rfl).2⟩;unfold xu at S;unfold rl at e2;rw[List.getElem?_map] at S e2;cases e:scope.names[i]? with
 | none=>rw[e] at S;cases S
 | some y=>
   rw[e] at S e2;have L:y.1=x:=Option.some.inj S;have B:(if (y.2==NameKind.free)=true then X.N.findIdx? (·==y.1) else none)=some j:=Option.some.inj e2;have hm:y∈scope.names:=List.mem_of_getElem? e;split at B
   ·rename_i Z;have Y:y.2=.free:=by simpa using Z
    have hy:y=(x,NameKind.free):=by rw[←L,←Y]
    have:=List.findIdx?_eq_some_iff_getElem.mp B;obtain⟨hj,ab,_⟩:=this;refine⟨?_,?_,hy▸hm⟩
    ·rw[ycz hj];have:X.N[j]=y.1:=by simpa using ab
     rw[this,L]
    ·have:=((h4 y hm).resolve_left λz=>z Y).1;rw[L] at this;exact this
   ·cases B
theorem xw (i:Nat) (B:N.Nodup) (hi:N[i]?=some x) (S:zV (fJ X N scope C fp s2 H2).env.scope x) (L:(fJ X N scope C fp s2 H2).fn x=true∨(fJ X N scope C fp s2 H2).env.scope.names.lookup x=some .local:=by first | exact .inl rfl | exact .inr rfl):
 QG (fJ X N scope C fp s2 H2) (.Name x pos) (bJ i):=sO (X:=fJ X N scope C fp s2 H2) i B hi S L
theorem lR:bootBuiltins "tuple"=some (.type "tuple"):=by decide+kernel
theorem xx:bootBuiltins "list"=some (.type "list"):=by decide+kernel
theorem Ht:bootBuiltins "max"=some (.builtin "max"):=by decide+kernel
theorem Hu:bootBuiltins "sum"=some (.builtin "sum"):=by decide+kernel
theorem al {R:WS->Prop} (h:lO X body t) (g:R t):∃t,lO X body t/\R t:=⟨t,h,g⟩
mutual
noncomputable def W.lt:W->W->Bool
 | .int i,.int j=>decide (i<j)
 | .tup xs,.tup ys=>W.lts xs ys
 | _,_=>false
noncomputable def W.lts:List W->List W->Bool
 | [],[]=>false
 | [],_::_=>true
 | _::_,[]=>false
 | x::xs,y::ys=>if W.eq x y=true then W.lts xs ys else W.lt x y
end
mutual
noncomputable def W.ord:W->W->Bool
 | .int _,.int _=>true
 | .tup xs,.tup ys=>W.ords xs ys
 | _,_=>false
noncomputable def W.ords:List W->List W->Bool
 | x::xs,y::ys=>if W.eq x y=true then W.ords xs ys else W.ord x y
 | _,_=>true
end
def vj (A:Around) (s:Shared) (y x:Value) (b:Bool):Prop:=
 ∀(prog:Program) (w:World) (E:yey) (Q:yey),Q (.bool b) s->wpAny (model prog w) A (richCompare .Lt y x) Q E s
inductive iq (A:Around) (s:Shared):List Value->List Value->Bool->Prop where
 | nn:iq A s [] [] false
 | nc {y:Value} {ys:yez}:iq A s [] (y::ys) true
 | cn {x:Value} {xs:yez}:iq A s (x::xs) [] false
 | eq {x y:Value} {xs ys:yez} {r:Bool} (h:SeqAt.EqAt A s x y true) (t:iq A s xs ys r):iq A s (x::xs) (y::ys) r
 | ne {x y:Value} {xs ys:yez} {r:Bool} (h:SeqAt.EqAt A s x y false) (t:vj A s x y r):iq A s (x::xs) (y::ys) r
section
open PySem.SeqAt
open PySem.AutoSeq1 (wpAny_loadPart')
open PySem.MeetsSeq PySem.MeetsSeq2 PySem.MeetsSeq3
theorem rp (l b:Addr) (items B:Array Value) (n n2:Nat) (dd ad:Option Addr) (sl af:Array (Option Value)) (r:Bool):
 Meets (Builtin.«tuple.__lt__» ⟨[.ref l,.ref b],[]⟩)
  (λA R s=>s.heap.get? l=some { cls:= .type "tuple",dict:=dd,data:= .seq items n,slots:=sl }/\s.heap.get? b=some { cls:= .type "tuple",dict:=ad,data:= .seq B n2,slots:=af }/\
    iq A.in1 s items.toList B.toList r/\R (.ok (.ret (.bool r))) s):=
 .of_wp λprog w A R s h=>by
  obtain⟨hp,g,d,tk,os⟩:=s;obtain⟨hl,hb,hc,h⟩:=h;have f2:=AutoSeq1.sub_tuple_tuple
  wp_walk using wpAny_loadPart' hl,wpAny_loadPart' hb,wpAny_forIn_list _ (λrest b s'=>b.1=none/\s'=⟨hp,g,d,tk,os⟩/\∃(vs ws:yez),rest=vs.zip ws/\
   iq A.in1 ⟨hp,g,d,tk,os⟩ vs ws r/\vs.length+B.size=ws.length+items.size) _
  case turn=>
   rintro⟨y,x⟩ rest b s' ⟨Y,rfl,vs,ws,S,hC,L⟩;cases hC with
   | nn=>rw[List.zip_nil_left] at S;cases S
   | nc=>rw[List.zip_nil_left] at S;cases S
   | cn=>rw[List.zip_nil_right] at S;cases S
   | eq he Z=>
     rw[zip_cons_cons] at S;injection S with hyx hrest
     injection hyx with hy hx
     subst hy hx;simp only[length_cons] at L;refine wax (he prog w _ _ ?_)
     wp_walk
     exact⟨rfl,rfl,_,_,hrest,Z,by lia⟩
   | ne he Z=>
     rw[zip_cons_cons] at S;injection S with hyx hrest
     injection hyx with hy hx
     subst hy hx;refine wax (he prog w _ _ ?_);have ab:=Z prog w
     wp_walk using ab
     exact⟨_,rfl,by simpa using h⟩
  case fin=>
   rintro⟨b1,b2⟩ s' ⟨Y,rfl,vs,ws,S,hC,L⟩;simp only at Y;subst Y;have hv:r=decide (items.size<B.size):=by
    cases hC with
    | nn=>simp only[length_nil] at L;exact(ydy (by lia)).symm
    | nc=>simp only[length_nil,length_cons] at L;exact(ydz (by lia)).symm
    | cn=>simp only[length_nil,length_cons] at L;exact(ydy (by lia)).symm
    | eq he Z=>rw[zip_cons_cons] at S;cases S
    | ne he Z=>rw[zip_cons_cons] at S;cases S
   rw[hv] at h
   wp_walk
   exact⟨_,rfl,by simpa[Builtin.Tuple.tupleCompareSizes] using h⟩
  case h=>
   exact⟨rfl,rfl,_,_,rfl,hc,by simp;lia⟩
end
theorem vj.tuples (hl:s.heap.IsTuple l items) (hb:s.heap.IsTuple b B) (hu:A.units<cLine)
 (hc:iq A.in1 s items.toList B.toList r):vj A s (.ref l) (.ref b) r:=λprog w E Q h=>by
 obtain⟨⟨aj,dd,af,sl⟩,ho,L,n,hd⟩:=id hl;obtain⟨⟨ai,ab,data2,ad⟩,S,Z,n2,Y⟩:=id hb;simp only at L hd Z Y;subst L hd Z Y;exact richCompare_meets_room (op:= .Lt) ⟨_,ho,rfl⟩ ⟨_,S,rfl⟩ PySem.F.slot_tuple_lt PySem.F.entry_tuple_lt (PySem.F.args_tuple_lt_2 _ _) (rp l b items B n n2 dd ab sl ad r)
  ⟨ho,S,hc,show Value.bool r≠Value.notImplemented/\Q (.bool r) s from ⟨(λx=>nomatch x),h⟩⟩ hu
theorem AD (I:aw X π σ H s) (n:Nat) (A:Around)
 (ih:∀{w1 w2:W} {v1 v2:V} {u1 u2:Value},w1.dep<n->w1.flat=true->w2.flat=true->W.ord w1 w2=true->bO X.K H w1 v1->bO X.K H w2 v2->aT v1 u1->aT v2 u2->vj A s u1 u2 (w1.lt w2)) (hu:A.units+n<cLine):
 ∀{ws us:List W} {xs ys:List V} {L B:yez},W.deps ws<n->W.flats ws=true->W.flats us=true->W.ords ws us=true->aJ X.K H ws xs->aJ X.K H us ys->aK xs L->aK ys B->iq A s L B (W.lts ws us):=by
 intro ws
 induction ws with
 | nil=>
   intro us xs ys L B hd f1 f2 Y Z r2 q1 S;cases Z;cases q1;cases r2 with
   | nil=>cases S;simpa[W.lts] using iq.nn
   | cons _ _=>cases S;simpa[W.lts] using iq.nc
 | cons x xs IH=>
   intro us ad ab L B hd f1 f2 Y Z r2 q1 S;cases Z with
   | cons Z s1=>
     cases q1 with
     | cons q1 t1=>
       cases r2 with
       | nil=>cases S;simpa[W.lts] using iq.cn
       | @cons y ys _ _ r2 s2=>
         cases S with
         | cons S t2=>
           simp only[W.deps] at hd;simp only[W.flats,Bool.and_eq_true] at f1 f2;have e:=(fW I n A (w1:=x) (w2:=y) (by lia) f1.1 f2.1 hu Z r2 q1 S).1;rw[W.ords] at Y;rw[W.lts];cases he:W.eq x y with
           | true=>
             rw[he] at e Y;rw[ycv rfl] at Y ⊢;exact .eq e (IH (by lia) f1.2 f2.2 Y s1 s2 t1 t2)
           | false=>
             rw[he] at e Y;rw[ycw ydx] at Y ⊢;exact .ne e (ih (by lia) f1.1 f2.1 Y Z r2 q1 S)
theorem Em (I:aw X π σ H s):∀(n:Nat) (A:Around) {w1 w2:W} {Z v2:V} {S L:Value},w1.dep<n->w1.flat=true->w2.flat=true->W.ord w1 w2=true->A.units+n<cLine->bO X.K H w1 Z->bO X.K H w2 v2->aT Z S->aT v2 L->
 vj A s S L (w1.lt w2):=by
 intro n
 induction n with
 | zero=>intro A w1 w2 Z v2 S L h;lia
 | succ n ih=>
   intro A w1 w2 Z v2 S L hd f1 f2 B hu r1 r2 q1 q2;cases r1 with
   | ref a=>simp[W.flat] at f1
   | scr a=>simp[W.flat] at f1
   | non=>simp[W.ord] at B
   | bl b=>simp[W.ord] at B
   | str b=>simp[W.ord] at B
   | int a=>
     cases r2 with
     | int b=>
       obtain⟨t,rfl⟩:=q1;obtain⟨t',rfl⟩:=q2;rw[W.lt];exact λprog w E Q h=>_H.rcLt_int A s a t b t' prog w E Q h
     | _=>simp[W.ord] at B
   | @tup a ws xs h r=>
     cases r2 with
     | @tup b us ys h2 r2=>
       cases (show S=Value.ref _ from q1);cases (show L=Value.ref _ from q2);obtain⟨aj,rv,p,_⟩:=aw.tupH I h;obtain⟨ai,ad,p2,_⟩:=aw.tupH I h2;have g1:W.flats ws=true:=by simpa[W.flat] using f1
       have g2:W.flats us=true:=by simpa[W.flat] using f2
       have ab:W.ords ws us=true:=by simpa[W.ord] using B
       have af:W.deps ws<n:=by simp only[W.dep] at hd;lia
       have Y:A.in1.units+n<cLine:=by show A.units+1+n<cLine;lia
       rw[W.lt];exact vj.tuples p p2 (by lia) (AD I n A.in1 (λh1 h2 h3 h4=>ih A.in1 h1 h2 h3 h4 Y) Y af g1 g2 ab r r2 rv ad)
     | _=>simp[W.ord] at B
def AE:W2:=λx y G q=>match x,y with
 | .int i,.int j=>q (.bl (decide (i<j))) G
 | .tup xs,.tup ys=>W.flats xs=true/\W.flats ys=true/\W.deps xs<=149/\W.ords xs ys=true/\q (.bl (W.lts xs ys)) G
 | _,_=>False
theorem CA (hr:aH k X.A):eo X (compareOp .Lt) AE:=by
 rintro π s σ H x y v u Q I rx S ⟨wx,wy,G,q,B,Y,g,h,L⟩;unfold AE at h;split at h
 ·cases B;cases Y;exact Gz π s σ H _ _ v u Q I rx S ⟨_,_,rfl,rfl,L _ H _ G (aE.refl H) (.bl _) g h⟩
 ·rename_i xs ys;obtain⟨f1,f2,hd,Z,h⟩:=h;have z:=Em I 151 X.A (w1:= .tup xs) (w2:= .tup ys) (by simp only[W.dep];lia) (by simpa[W.flat] using f1) (by simpa[W.flat] using f2) (by simpa[W.ord] using Z) (by have:=hr.un;lia) B Y rx S;rw[W.lt] at z;exact z X.prog X.w X.xe _ ⟨.bl _,H,I,rfl,L _ H _ G (aE.refl H) (.bl _) g h⟩
 ·exact h.elim
theorem K6 (I:aw X π σ H s) {n:Nat} {ws us:List W} {xs ys:List V} {L B:yez} (hd:W.deps ws<n) (g1:W.flats ws=true) (g2:W.flats us=true) (hu:A.in1.units+n<cLine) (r:aJ X.K H ws xs) (r2:aJ X.K H us ys) (rv:aK xs L) (S:aK ys B):
 ∀j (h1:j<L.toArray.size) (h2:j<B.toArray.size),SeqAt.EqAt A.in1 s L.toArray[j] B.toArray[j] (jz ws us j):=λj j1 j2=>by
 have e1:L.length=ws.length:=by rw[←rv.length,r.length]
 have e2:B.length=us.length:=by rw[←S.length,r2.length]
 rw[size_toArray] at j1 j2;have Y:ws[j]?=some ws[j]:=ycz (by lia);have eb:us[j]?=some us[j]:=ycz (by lia);obtain⟨va,af,ra⟩:=r.get Y;obtain⟨vb,ad,rb⟩:=r2.get eb;obtain⟨ua,ab,qa⟩:=rv.get af;obtain⟨ub,Z,qb⟩:=S.get ad;have za:L.toArray[j]=ua:=by
  have:=(List.getElem?_eq_some_iff.mp ab).2;simpa using this
 have zb:B.toArray[j]=ub:=by
  have:=(List.getElem?_eq_some_iff.mp Z).2;simpa using this
 rw[za,zb];have:=(fW I n A.in1 (w1:=ws[j]) (w2:=us[j]) (Nat.lt_of_le_of_lt (W.deps_get Y) hd) (W.flats_get g1 Y) (W.flats_get g2 eb) hu ra rb qa qb).1;unfold jz;rw[Y,eb];exact this
theorem lS {ws us:List W} (h:ws.length≠us.length):W.eqs ws us=false:=by
 cases e:W.eqs ws us with
 | false=>rfl
 | true=>exact absurd ((W.eqs_iff ws us).mp e).1 h
def Hv:W2:=λx y G q=>match x,y with
 | .ref a,.ref b=>∃xs ys,G a=some (.lst xs)/\G b=some (.lst ys)/\W.flats xs=true/\W.flats ys=true/\W.deps xs<=149/\q (.bl (W.eqs xs ys)) G
 | x,y=>At x y G q
def Hw:W2:=λx y G q=>match x,y with
 | .ref a,.ref b=>∃xs ys,G a=some (.lst xs)/\G b=some (.lst ys)/\W.flats xs=true/\W.flats ys=true/\W.deps xs<=149/\q (.bl (!(W.eqs xs ys))) G
 | x,y=>Au x y G q
theorem Hx (hr:aH k X.A):eo X (compareOp .Eq) Hv:=by
 rintro π s σ H x y v u Q I rx ry ⟨wx,wy,G,q,r1,r2,g,h,hQ⟩;unfold Hv at h;split at h
 ·obtain⟨ws,us,ea,eb,f1,f2,hd,h⟩:=h;cases r1;cases r2;cases rx;cases ry;obtain⟨_,xs,e1,ra⟩:=g _ _ ea;obtain⟨_,ys,e2,rb⟩:=g _ _ eb;obtain⟨Z,rv,p,_⟩:=I.list (cG.of e1);obtain⟨L,S,p2,_⟩:=I.list (cG.of e2);have Y:Z.length=ws.length:=by rw[←rv.length,ra.length]
  have l2:L.length=us.length:=by rw[←S.length,rb.length]
  have hu:=hr.un;have B:EP X π σ Q (.bool (W.eqs ws us)) s:=⟨.bl _,H,I,rfl,hQ _ H _ G (aE.refl H) (.bl _) g h⟩
  by_cases hl:ws.length=us.length
  ·have c1:=SeqAt.RcAt.lists p.isList p2.isList (by rw[size_toArray,size_toArray,Y,l2,hl]) (A:=X.A) (by lia) (K6 I (n:=150) (by lia) f1 f2 (by show X.A.units+1+150<cLine;lia) ra rb rv S);have er:=fC ws us;rw[←hl,Nat.min_self,beq_self_eq_true,Bool.and_true] at er;rw[size_toArray,Y,er] at c1;exact c1 X.prog X.w X.xe _ B
  ·rw[lS hl] at B;exact SeqAt.RcAt.lists_lengths p.isList p2.isList (by rw[size_toArray,size_toArray,Y,l2];simpa using hl) (A:=X.A) (by lia) X.prog X.w X.xe _ B
 ·exact Ee hr π s σ H x y v u Q I rx ry ⟨wx,wy,G,q,r1,r2,g,h,hQ⟩
theorem Hy (hr:aH k X.A):eo X (compareOp .NotEq) Hw:=by
 rintro π s σ H x y v u Q I rx ry ⟨wx,wy,G,q,r1,r2,g,h,hQ⟩;unfold Hw at h;split at h
 ·obtain⟨ws,us,ea,eb,f1,f2,hd,h⟩:=h;cases r1;cases r2;cases rx;cases ry;obtain⟨_,xs,e1,ra⟩:=g _ _ ea;obtain⟨_,ys,e2,rb⟩:=g _ _ eb;obtain⟨Z,rv,p,_⟩:=I.list (cG.of e1);obtain⟨L,S,p2,_⟩:=I.list (cG.of e2);have Y:Z.length=ws.length:=by rw[←rv.length,ra.length]
  have l2:L.length=us.length:=by rw[←S.length,rb.length]
  have hu:=hr.un;have B:EP X π σ Q (.bool (!(W.eqs ws us))) s:=⟨.bl _,H,I,rfl,hQ _ H _ G (aE.refl H) (.bl _) g h⟩
  by_cases hl:ws.length=us.length
  ·have c1:=SeqAt.RcNeAt.lists p.isList p2.isList (by rw[size_toArray,size_toArray,Y,l2,hl]) (A:=X.A) (by lia) (K6 I (n:=150) (by lia) f1 f2 (by show X.A.units+1+150<cLine;lia) ra rb rv S);have er:=fC ws us;rw[←hl,Nat.min_self,beq_self_eq_true,Bool.and_true] at er;rw[size_toArray,Y,er] at c1;exact c1 X.prog X.w X.xe _ B
  ·rw[lS hl] at B;exact SeqAt.RcNeAt.lists_lengths p.isList p2.isList (by rw[size_toArray,size_toArray,Y,l2];simpa using hl) (A:=X.A) (by lia) X.prog X.w X.xe _ B
 ·exact Ef hr π s σ H x y v u Q I rx ry ⟨wx,wy,G,q,r1,r2,g,h,hQ⟩
noncomputable def Eo (lo c:Int) (n:Nat):It:=⟨λi _=>i<n,λi H x H'=>H'=H/\x=.int (lo+i*c),λi _=>n<=i⟩
theorem n9 (it:Addr) (lo c:Int) (n:Nat):km P w K tg (Eo lo c n) [it] it (λi h=>IsRangeIter h it (lo+(i:Nat)*c) ((n:Int)- (i:Nat)) c) where
 mem:=by simp
 obj:=λi h st b hb=>by
  have e:b=it:=by simpa using hb
  subst e;exact⟨_,st,λv z=>by
   have z':Data.fields _=Data.cell v:=z;cases z'⟩
 keep:=λi h h' st k=>k it (by simp) _ st
 item:=by
  intro X Y hw hK hc i π s σ H E I L st S;subst Y hw hK;obtain⟨Z,f1,f2,f3,f4,f5⟩:=L it (by simp);have W:=Walks.range (prog:=X.prog) (w:=X.w) (I.ok.hd hc) it lo c n;refine W.item i s _ _ S st λv h' tk hv B kk=>?_;obtain⟨t,rfl⟩:=hv;have I1:aw X π σ H { s with heap:=h',toks:=tk }:=I.turned (λb o hb e=>kk b o (by simpa using hb) e) Z f1 f3 f4 f5;exact⟨_,rfl,kE (s:={ s with heap:=h',toks:=tk }) (n:="range_iterator") B rfl rfl (by decide) ⟨.int (lo+i*c),H,I1,⟨t,rfl⟩,⟨rfl,rfl⟩,B,λb hb=>(L b hb).1⟩⟩
 done:=by
  intro X Y hw hK hc i π s σ H E I L st S;subst Y hw hK;obtain⟨Z,f1,f2,f3,f4,f5⟩:=L it (by simp);exact wpAny_pyNext_range_end (I.ok.hd hc) st (by have:n<=i:=S;lia) λh' eb=>⟨rfl,I.turned (t':=s.toks) (λb o hb e=>eb b o hb e) Z f1 f3 f4 f5⟩
 self:=λ_ _ _ _ _ st h=>wpAny_pyIter_rangeiter st h
structure Ep (lo hi c:Int):Prop where
 c0:0<c
 c1:c<1000
 l0: -(2^40)<=lo
 l1:lo<2^40
 h0: -(2^40)<=hi
 h1:hi<2^40
noncomputable def pJ (lo hi c:Int):Int:=Builtin.Range.rangeSize lo hi c
theorem Ep.size {lo c:Int} (h:Ep lo hi c):0<=pJ lo hi c/\pJ lo hi c<=2^42:=by
 obtain⟨B,Y,S,L,h0,h1⟩:=h;unfold pJ Builtin.Range.rangeSize;rw[ycv B];split
 ·have k0:0<=(hi-lo-1)/c:=Int.ediv_nonneg (by lia) (by lia);have k1:(hi-lo-1)/c<=hi-lo-1:=Int.ediv_le_self _ (by lia);lia
 ·lia
theorem Ep.last {lo c:Int} (h:Ep lo hi c):pJ lo hi c*c<=2^52:=by
 have:=h.size;have h1:pJ lo hi c*c<=2^42*1000:=Int.mul_le_mul this.2 (by have:=h.c1;lia) (by have:=h.c0;lia) (by lia);lia
section
variable {tg:Expr}
theorem Ep.small {lo c:Int} (h:Ep lo hi c):Builtin.Range.small lo hi c=true:=by
 have B:=h.size;have L:=h.last;obtain⟨S,c1,Z,Y,h0,h1⟩:=h;unfold pJ at B L;unfold Builtin.Range.small;have:0<=Builtin.Range.rangeSize lo hi c*c:=Int.mul_nonneg B.1 (by lia);simp only[Builtin.Range.rangeFitsLong,Bool.and_eq_true,Bool.or_eq_true,decide_eq_true_eq,beq_iff_eq,show c > 0 from S,if_true];lia
noncomputable def vk (lo c:Int) (n:Nat):List W:=(List.range n).map λ(i:Nat)=>W.int (lo+(i:Int)*c)
theorem xy {lo c:Int} {n:Nat}:sS K (Eo lo c n) (vk lo c n) (λ_=>True) H where
 stop:=λi H1 G t g _ S=>by have h:n<=i:=(by simpa[vk] using S);exact h
 go:=λi w H1 G t g _ e=>by
  unfold vk at e;rw[List.getElem?_map] at e;have hi:i<n:=by
   cases h:(List.range n)[i]? with
   | none=>rw[h] at e;cases e
   | some k=>
     have:=(List.getElem?_eq_some_iff.mp h).1;simpa using this
  rw[List.getElem?_range hi] at e;cases e;refine⟨hi,λx H' z9=>?_⟩;obtain⟨L,B⟩:=z9;subst L;subst B;exact⟨aE.refl _,.int _,g⟩
end
def Er (i j:Int):Prop:=i.natAbs<2^4000/\j.natAbs<2^4000
def K7 (j:Int):Prop:=0<j/\j.natAbs<2^4000
theorem xz (h:n<=10^200):n<2^4000:=Nat.lt_of_le_of_lt h (by decide+kernel)
theorem K8 {i j:Int} (h1:i.natAbs<=10^200) (h2:j.natAbs<=10^200):Er i j:=⟨xz h1,xz h2⟩
def sW (i j:Int):Prop:=Ac i j∨Er i j
theorem sW.ok {i j:Int} (h:sW i j):IntMulOk i j:=by
 rcases h with h | ⟨h1,h2⟩
 ·exact h.ok
 ·have B:=PyProof.Rows.intBits_le h1;have b2:=PyProof.Rows.intBits_le h2;unfold IntMulOk Builtin.Int.intTooBig;have:¬(((Builtin.Int.intBits i+Builtin.Int.intBits j:Int)) > bitsLine):=by
   have hb:(8000:Int)<=bitsLine:=by decide
   lia
  simp[this]
def xA (i j:Int):Prop:=Gy i j∨K7 j
theorem xB:hV X (binaryOp .FloorDiv) (rI xA λi j=> .int (i/j)):=Gw λi j _ _ _ _ _ B q=>by
 rcases B with B | ⟨h0,h1⟩
 ·have h1:(0:Int)<j:=B.1;have h2:j<1073741824:=B.2;exact floordiv_int (by lia) (by rw[Int.fdiv_eq_ediv_of_nonneg i (by lia)];exact q) (.inl (PyProof.noPylong_small (by lia)))
 ·refine floordiv_int (by lia) (by rw[Int.fdiv_eq_ediv_of_nonneg i (by lia)];exact q) (.inl (PyProof.noPylong_of_log2 ?_));have L:j.natAbs≠0:=by lia
  exact ydw ((Nat.log2_lt L).mpr h1) (by decide)
abbrev Hz:W2:=q0 xA λi j=> .int (i/j)
theorem Es:eo X (binaryOp .FloorDiv) Hz:=lP xB
structure ir (K:yav) (x qual:Str) (st:Stmt) (f:Addr) (fd:FuncData) (T:Addr) (ds:yez):Prop where
 ex:∃(oc:Value) (od:Option Addr) (kV doc pm:Value) (an:Option Addr) (cdv ct:Value) (osl:Array (Option Value)) (ot:Obj) (nt:Nat),
  fd=fnOf x qual (bq st) (aZ st) (ae st) (.ref T) kV doc pm an cdv ct/\K.lookup f=some ⟨oc,od,.func fd,osl⟩/\codeIn K cdv qual=true/\K.lookup T=some ot/\ot.data=.seq ds.toArray nt
 kp:keepIn K (.ref f)=true
section
variable {qual:Str} {f T:Addr} {ds:yez}
theorem lT {oc:Value} {od an:Option Addr} {osl:Array (Option Value)} {kV doc pm cdv ct:Value} {ot:Obj} {nt:Nat} (l:K.lookup f=some ⟨oc,od,.func (fnOf x qual (bq st) (aZ st) (ae st) (.ref T) kV doc pm an cdv ct),osl⟩)
 (c:codeIn K cdv qual=true) (k:keepIn K (.ref f)=true) (t:K.lookup T=some ot) (h:ot.data=.seq ds.toArray nt):ir K x qual st f (fnOf x qual (bq st) (aZ st) (ae st) (.ref T) kV doc pm an cdv ct) T ds:=
 ⟨⟨oc,od,kV,doc,pm,an,cdv,ct,osl,ot,nt,rfl,l,c,t,h⟩,k⟩
theorem ir.binds {es:yez} (F:ir K x qual st f fd T ds)
 (h:∀(kV doc pm:Value) (an:Option Addr) (cdv ct:Value) (us:yez),(us++es).length=ps.length->∃k,bindArgs (fnOf x qual (bq st) (aZ st) (ae st) (.ref T) kV doc pm an cdv ct) ⟨us,[]⟩=seqItems? (.ref T) >>= k/\k (some ds.toArray)=pure (ps.zip (us++es))):bv K fd ps es:=by
 obtain⟨oc,od,kV,doc,pm,an,cdv,ct,osl,ot,nt,rfl,lk,L,B,Z⟩:=F.ex;intro s us S Y;obtain⟨k,h1,h2⟩:=h kV doc pm an cdv ct us Y;exact BindsTo.of_defaults (T:=T) rfl (S _ _ B) Z h1 h2
theorem HA (F:ir K x qual st f fd T ds) (S:ay N ps (ae st)) (len:∀ws G q e,sp ws G q e->ws.length=ps.length)
 (B:∀(cdv:Value) (A:Around) (outer:List Env) (s:Shared) (H:Hp) (E:XK),aH k (A.deeper (envOfC qual (ae st) s.heap.objs.size f cdv))->
   ∃t,lO (bn wS P w K mg base N qual (ae st) f cdv A outer s H E).nox (aZ st) t/\
    ∀(ws:List W) (G:Gp) (q:WK) (e:WX),sp ws G q e->t { nx:=λ_ L=>∃G0,am G0 L/\q .non G0,rt:=λw L=>∃G0,am G0 L/\q w G0 } (ip N ws) G):io P w K mg base (k+1) f fd ps sp:=by
 obtain⟨oc,od,kV,doc,pm,an,cdv,ct,osl,ot,nt,rfl,lk,Y,ht,hd⟩:=F.ex;refine sG lk Y S (λvs H Q E z9=>by obtain⟨ws,G,q,e,r,g,z,_⟩:=z9;rw[←r.length];exact len _ _ _ _ z) (λA outer s H vs Q E hr z9=>?_);obtain⟨ws,G,q,e,r,g,z,hQ,_⟩:=z9;obtain⟨t,ht,hq⟩:=B cdv A outer s H E hr;have ab:nA (bn wS P w K mg base N qual (ae st) f cdv A outer s H E).nox (aZ st) (LS K t):=ht;exact⟨_,ab.nox,_,G,_,aV.start r,g,hq ws G q e z,⟨λaf H1 ad L t1 s1 Z z9=>(by obtain⟨G0,l,q1⟩:=z9;exact hQ .non H1 .non G0 t1 .non (Z.le l) q1),λv H1 w L t1 r1 Z z9=>(by obtain⟨G0,l,q1⟩:=z9;exact hQ v H1 w G0 t1 r1 (Z.le l) q1),λ_ _ _ _ _ _ _ z=>z.elim,λ_ _ _ _ _ _ _ z=>z.elim⟩⟩
def K9 (P:Program) (w:World) (K:yav) (mg:yew) (base:Heap) (x:Str) (ps:List Str) (k:Nat) (sp:aX) (dws:List W):Prop:=
 ∃(f:Addr) (fd:FuncData) (ds:yez) (dvs:List V),io P w K mg base k f fd ps sp/\mg x=some (.ref f)/\keepIn K (.ref f)=true/\bv K fd ps ds/\aK dvs ds/\∀H,aJ K H dws dvs
def DfD (K:yav) (mg:yew) (x:Str) (st:Stmt) (ps:List Str) (dws:List W):Prop:=
 ∃(f:Addr) (fd:FuncData) (T:Addr) (ds:yez) (dvs:List V),ir K x x st f fd T ds/\bv K fd ps []/\bv K fd ps ds/\mg x=some (.ref f)/\aK dvs ds/\∀H,aJ K H dws dvs
theorem DfD.fx (D:DfD K mg x st ps dws) (h:∀(f:Addr) (fd:FuncData) (T:Addr) (ds:yez),ir K x x st f fd T ds->io P w K mg base k f fd ps sp):Fx P w K mg base x ps k sp:=by
 obtain⟨f,fd,T,ds,dvs,F,b,B,m,_,_⟩:=D;exact⟨f,fd,h f fd T ds F,m,F.kp,b⟩
theorem DfD.fxd (D:DfD K mg x st ps dws) (h:∀(f:Addr) (fd:FuncData) (T:Addr) (ds:yez),ir K x x st f fd T ds->io P w K mg base k f fd ps sp):K9 P w K mg base x ps k sp dws:=by
 obtain⟨f,fd,T,ds,dvs,F,b,B,m,v,r⟩:=D;exact⟨f,fd,ds,dvs,h f fd T ds F,m,F.kp,B,v,r⟩
end
theorem Et {sp:aX} {p pos:Pos} {t:WA} (F:Fx X.prog X.w X.K X.mg X.base x ps k sp) (hr:aH k X.A) (S:Gl X x) (ha:QA X (e::es) t) (Y:(e::es).length=ps.length:=by rfl) (L:dbz x:=by decide)
 (Z:seZ X e es:=by rfl) (B:plZ pos X es:=by rfl):QE X (.Call (.Name x p) (e::es) [] pos) (iM sp [] t):=sV F hr S ha L Z B
theorem Eu {sp:aX} {dws:List W} {p pos:Pos} {t:WA} (F:K9 X.prog X.w X.K X.mg X.base x ps k sp dws) (hr:aH k X.A) (S:Gl X x) (ha:QA X (e::es) t) (ab:(e::es).length+dws.length=ps.length:=by rfl) (L:dbz x:=by decide)
 (he:seZ X e es:=by rfl) (B:plZ pos X es:=by rfl):QE X (.Call (.Name x p) (e::es) [] pos) (iM sp dws t):=by
 obtain⟨f,fd,ds,dvs,h1,h2,Y,h4,Z,h6⟩:=F;exact(ja h1 hr S h2 Y h4 Z ju ha L he B).imp λ_ _ _ h=>h.call h6
def xD:WS:=λ_ _ _=>False
theorem xE:QS X st xD:=λ_ _ _ _ _ _ z9=>(by obtain⟨_,_,_,_,_,z,_⟩:=z9;exact z.elim)
def xF:List W->Gp->WK->Prop:=λws G q=>match ws with
 | [.int i,.int j]=>q (.int (if j > i then j else i)) G
 | [.int i,.int j,.int k]=>q (.int (if j > i then (if k > j then k else j) else if k > i then k else i)) G
 | [.ref a]=>∃ns:List Int,G a=some (.lst (ns.map W.int))/\ns≠[]/\∀m:Int,m∈ns->(∀x,x∈ns->x<=m)->q (.int m) G
 | _=>False
theorem xG (h:xF ws G q):(∃i j,ws=[.int i,.int j])∨(∃i j k,ws=[.int i,.int j,.int k])∨∃a,ws=[.ref a]:=by
 rcases ws with _ | ⟨x,_ | ⟨y,_ | ⟨z,_ | _⟩⟩⟩
 ·exact h.elim
 ·cases x<;> first | exact .inr (.inr ⟨_,rfl⟩) | exact h.elim
 ·cases x<;> first | exact h.elim | (cases y<;> first | exact .inl ⟨_,_,rfl⟩ | exact h.elim)
 ·cases x<;> first | exact h.elim | (cases y<;> first | exact h.elim | (cases z<;> first | exact .inr (.inl ⟨_,_,_,rfl⟩) | exact h.elim))
 ·cases x<;> first | exact h.elim | (cases y<;> first | exact h.elim | (cases z<;> exact h.elim))
theorem Ev (hc:X.calm=true):cV X (.builtin "max") xF:=by
 rintro π s σ H xs us Q I r ⟨ws,G,q,B,g,h,hQ⟩;rcases xG h with⟨i,j,rfl⟩ | ⟨i,j,k,rfl⟩ | ⟨a,rfl⟩
 ·obtain⟨v,u,rfl,Y,r2⟩:=B.two;cases Y;cases r2;exact uS hc π s σ H _ us Q I r ⟨_,_,rfl,hQ _ H _ G (aE.refl H) (.int _) g h⟩
 ·cases B with
  | cons Y B=>
    cases B with
    | cons r2 B=>
      cases B with
      | cons r3 B=>
        cases B;cases Y;cases r2;cases r3;cases r with
        | cons a1 r=>
          cases r with
          | cons a2 r=>
            cases r with
            | cons a3 r=>
              cases r;obtain⟨t1,rfl⟩:=a1;obtain⟨t2,rfl⟩:=a2;obtain⟨t3,rfl⟩:=a3;refine max_three_ints (I.ok.hd hc) λh' tk k'=>⟨.int (if j > i then (if k > j then k else j) else if k > i then k else i),H,I.kept k',?_,hQ _ H _ G (aE.refl H) (.int _) g h⟩
              by_cases h1:j > i
              ·by_cases h2:k > j
               ·rw[ycv h1,ycv h2,ycv h1,ycv h2];exact⟨_,rfl⟩
               ·rw[ycv h1,ycw h2,ycv h1,ycw h2];exact⟨_,rfl⟩
              ·by_cases h2:k > i
               ·rw[ycw h1,ycv h2,ycw h1,ycv h2];exact⟨_,rfl⟩
               ·rw[ycw h1,ycw h2,ycw h1,ycw h2];exact⟨_,rfl⟩
 ·obtain⟨ns,e,af,h⟩:=h;obtain⟨v,rfl,Y⟩:=B.one;cases Y;obtain⟨_,zs,e1,rr⟩:=g a _ e;obtain rfl:=rr.ints_of;obtain⟨u,rfl,ru⟩:=cC r;cases (show u=Value.ref a from ru);obtain⟨ai,rv,p,hz⟩:=I.list (cG.of e1);have hi:IntsAre ai ns:=_L.intsAre_of rv;obtain⟨ys,ey⟩:=hi.allInts.items;have hn:(ys.toList.map (·.1))=ns:=by rw[←nums_intItems,←ey,←hi.numsOf]
  have hl:s.heap.IsList a (intItems ys):=by rw[←ey];exact p.isList
  have hsz:ys.size=ns.length:=by rw[←hn];simp
  have ad:0<ys.size:=by
   rw[hsz];exact length_pos_iff.mpr af
  refine max_intList (I.ok.hd hc) hl ad λv h' tk hv hk=>?_;have ab:=argBest_gt (numAt ys) (ys.size-1);generalize argBest (λi j=>decide (numAt ys i > numAt ys j)) (ys.size-1)=ix at hv ab;have L:ix<ys.size:=by lia
  have S:∀j (hj:j<ys.size),numAt ys j=ns[j]'(by lia):=λj hj=>by
   unfold numAt;rw[Array.getElem?_eq_getElem hj];simp[←hn]
  have Z:v=Value.int (ys[ix].1) (ys[ix].2):=by
   unfold intItems at hv;rw[Array.getElem?_map,Array.getElem?_eq_getElem L] at hv;simpa using hv.symm
  have hm:ys[ix].1=ns[ix]'(by lia):=by
   have:=S ix L;unfold numAt at this;rw[Array.getElem?_eq_getElem L] at this;simpa using this
  rw[hm] at Z;subst Z;refine⟨.int _,H,I.kept hk,⟨_,rfl⟩,hQ _ H _ G (aE.refl H) (.int _) g (h _ (getElem_mem _) λx hx=>?_)⟩;obtain⟨j,hj,rfl⟩:=List.mem_iff_getElem.mp hx;have:=ab.2 j (by lia);rw[S j (by lia),S ix L] at this;exact this
theorem AF {i:Int} {t:Tok} (B:Gl X x) (L:X.mg x=some (.int i t)) (S:dbz x:=by decide):QE X (.Name x pos) (wC (.int i)):=dU (lK (v:= .int i) B L ⟨t,rfl⟩ S) λ_=> .int i
end _L
namespace _L
open PySem PySem.Spec PyProof.Rows
theorem XC.of (q:PySem.W.excIn K C bmV "ValueError.__new__"=true):∃bm,XC K C bm:=by
 unfold PySem.W.excIn at q;cases lk:List.lookup C K with
 | none=>rw[lk] at q;exact cJ q
 | some o=>
   rw[lk] at q;obtain⟨cls,d1,B,⟨ls⟩⟩:=o;cases cls with
   | type s=>
     by_cases hs:s="type"
     ·subst hs;cases B with
      | cls cl=>
        obtain⟨nm,bs,L,ns,qn,hd,sn,Z,ab,co,del⟩:=cl;rcases L with _ | ⟨v,tl⟩
        ·exact cJ q
        cases v with
        | ref Y=>
          rcases ls with _ | ⟨j0,_ | ⟨j1,_ | ⟨j2,_ | ⟨j3,_ | ⟨(_ | j4),r⟩⟩⟩⟩⟩
          any_goals first | exact cJ q | skip
          cases j4 with
          | builtin id=>
            rcases r with _ | ⟨j5,_ | _⟩
            any_goals first | exact cJ q | skip
            replace q:(Y==C&&id=="ValueError.__new__"&&!del&&W.tailIn K bmV tl&&W.nsOkIn K ns&&W.nsIn K ns (Str.ofString "__init__")==some none)=true:=q
            simp only[beq_iff_eq,Bool.not_eq_true',Bool.and_eq_true] at q;obtain⟨⟨⟨⟨⟨e1,e2⟩,e3⟩,e4⟩,S⟩,e6⟩:=q;subst e1 e2;subst e3;refine⟨tl,λh X=>⟨ns,nm,qn,bs,hd,sn,Z,ab,co,d1,j0,j1,j2,j3,j5,_,X _ _ lk,.of_isNs (PySem.W.isNs_of_in X S),PySem.W.nsMap_none_of_in X S e6,PySem.W.tail_of_in X e4⟩,λv=>?_⟩;unfold mroIn clsIn;rw[lk]
            rfl
          | _=>exact cJ q
        | _=>exact cJ q
      | _=>exact cJ q
     ·delta PySem.W.excIn.match_6 at q
      change (dite (s="type") _ _:Bool)=true at q;rw[dif_neg hs] at q;exact cJ q
   | _=>exact cJ q
theorem XC.has (x:XC K C bm) (X:K.In h) (hb:bmV.contains (.type t)=b):(Value.ref C::bm).contains (.type t)=b:=by
 obtain⟨_,_,_,_,_,_,_,_,_,_,_,_,_,_,_,_,_,_,_,T⟩:=x.obj h X;rw[List.contains_cons,T.hasType hb]
 rfl
section
variable {M:Model} {C D:Addr} {bmD:yez} {oe:Obj}
theorem vm {Q:Bool->Shared->Prop} {b:Bool} (X:K.In s.heap) (Y:XC K C bm) (S:XC K D bmD) (he:s.heap.get? a=some oe) (B:oe.cls=.ref C) (hs:mroIn K C (.ref D)=some b) (Z:Q b s):
 wpAny M A (excMatches (.ref a) (.ref D)) Q E s:=by
 obtain⟨h,g,d,t,os⟩:=s;have hb:=S.has X (t:="BaseException") (b:=true) rfl;have L:(Value.ref C::bm).contains (.ref D)=b:=by
  have:=(Y.mro (.ref D)).symm.trans hs;exact Option.some.inj this
 obtain⟨N1,n1,q1,b1,d1,s1,u1,a1,c1,f1,g0,g1,g2,g3,g5,m1,gC,_,_,_⟩:=Y.obj h X;obtain⟨N2,n2,q2,b2,d2,s2,u2,a2,c2,f2,l0,l1,l2,l3,l5,m2,gD,_,_,_⟩:=S.obj h X;have nt:=tc_notTuple;unfold excMatches
 repeat (first | (with_reducible refine wpAny_loadPart_at he ?_;rw[B]) | with_reducible refine wpAny_loadPart_at gD ?_ | (with_reducible refine wpAny_isSubtype_exc gD ?_;rw[hb]) | (with_reducible refine wpAny_isSubtype_exc gC ?_;rw[L]) | wp_step)
 cases b with
 | true=>wp_walk;exact Z
 | false=>wp_walk;exact Z
theorem xH (X:K.In s.heap) (B:∀M,Looks M s.heap (typeOf v) t) (hk:PySem.W.kitMeta T=true) (L:(t==Value.type T)=false)
 (e:PySem.W.subIn K t (.type T)=some true) (hx:v≠ .builtin "__main__.__loader__#opaque") (h:Q (.bool true) s):wpAny (model prog w) A (call (.builtin "isinstance") [v,.type T]) Q E s:=by
 refine call_isinstance (S:=λ_ R s=>(K.In s.heap/\∀M,Looks M s.heap (typeOf v) t)/\R (.ok (.ret (.bool true))) s) (λ_ _ _ _ s Z=>isinstance_outer ?_ hx) ⟨⟨X,B⟩,h⟩;obtain⟨⟨X,B⟩,hq⟩:=Z;obtain⟨hh,g,d,tt,os⟩:=s;unfold Builtin.«isinstance.nested»;refine wax ((B _).at ?_);rw[ycw (by rw[L];exact ydx)];refine wax ((PySem.W.Looks.of_pure (PySem.W.kitMeta_of hk)).at ?_);rw[ycv (by decide)]
 k_delta "plainIsInstance"
 refine wax (wax ((PySem.W.Looks.of_pure (r:=true) rfl).at ?_));simp only[Bool.not_true,if_false,Bool.false_eq_true];have Y:∀M,Looks M hh (isInstance v (.type T)) true:=λM=>(B M).andThen (PySem.W.looks_subIn X e);refine wax ((Y _).at ?_);simp only[if_true];exact wpAny_pure (wpAny_pure hq)
end
theorem gE.none_of (x:gE P w H h) (e:h.get? a=none):H a=none:=by
 cases q:H a with
 | none=>rfl
 | some o=>
   have y:=x a o q;cases o with
   | lst xs=>obtain⟨_,_,_,_,z⟩:=y;rw[e] at z;cases z
   | tup xs=>obtain⟨_,_,_,p,z,_⟩:=y;rw[e] at z;cases z
   | dK kvs=>obtain⟨_,_,_,_,o,_,_,z,_⟩:=y;rw[e] at z;cases z
   | dT kvs=>obtain⟨_,_,_,_,o,_,_,z,_⟩:=y;rw[e] at z;cases z
   | set S n=>obtain⟨o,_,_,_,z,_⟩:=y;rw[e] at z;cases z
   | ins C dx fs=>obtain⟨_,_,_,z,_⟩:=y;rw[e] at z;cases z
   | own B=>obtain⟨_,z⟩:=y;rw[e] at z;cases z
   | xd fs=>obtain⟨_,⟨_,_,_,z,_⟩,_⟩:=y;rw[e] at z;cases z
   | rng lo hi=>obtain⟨_,_,_,z⟩:=y;rw[e] at z;cases z
   | frz L u=>obtain⟨z,_⟩:=y;rw[e] at z;cases z
   | tbl ps=>have z:h.get? a=some _:=y;rw[e] at z;cases z
   | met f B=>have z:h.get? a=some _:=y;rw[e] at z;cases z
   | ext Y=>obtain⟨_,⟨_,z⟩,_⟩:=y;rw[e] at z;cases z
theorem cM {h B:Heap} {m:List Addr}:∀{l:List Env},h.FunFrames B l->(∀b∈cU l,b∈m)->h.FunFrames (hideAll h m) l
 | [],_,_=>trivial
 | env::r,⟨e0,⟨L,o,S,_,e3,e4⟩,e5⟩,Z=>
   have Y:cU (env::r)=L::cU r:=by unfold cU;rw[filterMap_cons,S]
   ⟨e0,⟨L,o,S,hideAll_none m (Z L (by rw[Y];exact .head _)),e3,e4⟩,cM e5 λb hb=>Z b (by rw[Y];exact .tail _ hb)⟩
structure Fl (P:Program) (w:World) (fs:List Addr) (H H':Hp) (h0 h:Heap) (a T:Addr) (c fl:Value):Prop where
 un:Un fs [] H H' h0 h
 hok:gE P w H' h
 na:h0.get? a=none
 nT:h0.get? T=none
 ha:H' a=none
 hT:H' T=none
 tr:∃oe vs oT ts a0,h.get? a=some oe/\(oe.cls=c/\vs[0]?=some a0)/\oe.data=.fields vs/\vs[1]?=some (.ref T)/\T≠a/\h.get? T=some oT/\oT.data=.fields ts/\ts[3]?=some fl
section
variable {fs:List Addr} {H':Hp} {h0 h h':Heap} {T:Addr} {c fl fl':Value}
theorem Fl.traced (F:Fl P w fs H H' h0 h a T c fl):∃B,h.TracedAtW (hideAll h (a::T::fs)) a c B fl:=by
 obtain⟨oe,vs,oT,ts,B,S,Y,e3,e4,L,e6,e7,Z⟩:=F.tr;exact⟨B,oe,vs,T,oT,ts,S,Y,e3,e4,hideAll_none _ (.tail _ (.head _)),L,e6,e7,Z⟩
theorem Fl.move (F:Fl P w fs H H' h0 h a T c fl) (Y:∀b∈fs,H' b=none/\∃o,h.get? b=some o/\∀vs,o.data≠ .fields vs)
 (k1:(hideAll h (a::T::fs)).StaysIn h') (k3:h'.TracedAtW (hideAll h (a::T::fs)) a c a0 fl') (k4:h.UpToSlots h'):∃B,Fl P w fs H H' h0 h' a B c fl':=by
 have keep:∀b o,b≠a->b≠T->b∉fs->h.get? b=some o->h'.get? b=some o:=λb o n1 n2 n3 e=>k1 b o (hideAll_get _ e (by simp[n1,n2,n3]));have L:∀b o,b∈fs->h.get? b=some o->∃sl,h'.get? b=some { o with slots:=sl }:=λb o hb e=>by
  obtain⟨_,o2,S,d2⟩:=Y b hb;rw[e] at S;cases S;exact k4 b o e d2
 obtain⟨oe,vs,B,oT,ts,q1,q2,q3,q4,q5,q6,q7,q8,q9⟩:=k3;have ad:B=T∨h.get? B=none:=by
  by_cases z:B=T
  ·exact .inl z
  ·refine .inr ?_;cases e:h.get? B with
   | none=>rfl
   | some o=>
     by_cases zf:B∈fs
     ·obtain⟨_,o2,S,d2⟩:=Y B zf;obtain⟨sl,e3⟩:=k4 B o2 S d2;rw[q7] at e3;cases e3;exact absurd q8 (d2 ts)
     ·rw[hideAll_get _ e (by simp[z,zf,q6])] at q5;cases q5
 have ab:∀b,h.get? b=none->h0.get? b=none:=λb e=>by
  cases q:h0.get? b with
  | none=>rfl
  | some o=>
    obtain⟨o',e'⟩:=F.un.there b o q (by simp);rw[e] at e';cases e'
 refine⟨B,⟨⟨λb o q n hb Z=>?_,λb o q n hb Z=>?_,F.un.free,λb o q Z=>?_,F.un.tups,F.un.frzs,F.un.tbls⟩,λb u e=>?_,F.na,?_,F.ha,?_,⟨oe,vs,oT,ts,a0,q1,q2,q3,q4,q6,q7,q8,q9⟩⟩⟩
 ·exact keep b o (λz=>by rw[z,F.na] at q;cases q) (λz=>by rw[z,F.nT] at q;cases q) hb (F.un.keep b o q n hb Z)
 ·obtain⟨sl,e1⟩:=F.un.slot b o q n hb Z;obtain⟨af,S⟩:=L b _ hb e1;exact⟨af,S⟩
 ·obtain⟨o1,e1⟩:=F.un.there b o q Z
  by_cases hb:b∈fs
  ·obtain⟨sl,S⟩:=L b o1 hb e1;exact⟨_,S⟩
  ·exact⟨o1,keep b o1 (λz=>by rw[z,F.na] at q;cases q) (λz=>by rw[z,F.nT] at q;cases q) hb e1⟩
 ·have nn:∀x v,H' x=some v->x≠a/\x≠T/\x∉fs:=λx v e=>⟨λz=>(by rw[z,F.ha] at e;cases e),λz=>(by rw[z,F.hT] at e;cases e),λz=>(by rw[(Y x z).1] at e;cases e)⟩;refine(F.hok b u e).stay (λx v hc q=>?_) (λ_ q=>q) λ_ _ q=>q;rcases hc with hc | hc
  ·obtain⟨z1,z2,z3⟩:=nn b u e;rw[hc] at q ⊢;exact keep b v z1 z2 z3 q
  ·obtain⟨z1,z2,z3⟩:=nn x _ hc;exact keep x v z1 z2 z3 q
 ·rcases ad with z | z
  ·rw[z];exact F.nT
  ·exact ab B z
 ·rcases ad with z | z
  ·rw[z];exact F.hT
  ·exact F.hok.none_of z
end
def dy (P:Program) (w:World):pW:=λouter H s E e s'=>∃a T C H',e=.ref a/\s'.os=s.os/\AllBare s'.gens/\Fl P w (cU outer) H H' s.heap s'.heap a T (.ref C) .none/\E (.ref C) none H'
abbrev sX (P:Program) (w:World) (K:yav) (mg:yew) (base:Heap) (k:Nat) (f:Addr) (fd:FuncData) (ps:List Str) (sp:aX):Prop:=cW P w K mg base (dy P w) k f fd ps (xf K sp)
section
variable {N:List Str} {qual:Str} {f:Addr} {cdv:Value} {outer:List Env} {E:XK}
theorem Ew {e:Addr} (I:aw (bn (dy P w) P w K mg base N qual scope f cdv A outer s H E) π σ H2 s2)
 (mx:Heap.MadeExcOf s2.heap h' e (.ref C) vs) (hE:E (.ref C) none H2):(bn (dy P w) P w K mg base N qual scope f cdv A outer s H E).xe (.ref e) { s2 with heap:=h' }:=by
 have ST:=I.stack;have SF:=I.stkFree;refine wpAny_leaves_madeW (base:=hideAll s2.heap (cU (envOfC qual scope s.heap.objs.size f cdv::outer))) (h:=s2.heap) (L:=s.heap.objs.size) I.ok.frames rfl (λb o q=>of_hideAll _ q) (cM ST λ_ z=>z) mx λh3 t ab _ _ af=>?_;obtain⟨k1,_,_,k3⟩:=ab;obtain⟨oe,ws,T,oT,ts,q1,Z,q3,q4,q5,q6,q7,q8,q9⟩:=k3;have keep:∀b o,b∉cU (envOfC qual scope s.heap.objs.size f cdv::outer)->s2.heap.get? b=some o->h3.get? b=some o:=λb o hb q=>k1 b o (hideAll_get _ q hb);have B:∀b o,b∈cU (envOfC qual scope s.heap.objs.size f cdv::outer)->s2.heap.get? b=some o->(∃sl,h3.get? b=some { o with slots:=sl })/\∀vs,o.data≠ .fields vs:=λb o hb q=>by
  obtain⟨_,o2,Y,d2⟩:=ST.mem hb;rw[q] at Y;cases Y;exact⟨af b o (mx.keeps b o q) d2,d2⟩
 have nL:∀b o,s.heap.get? b=some o->b∉cU outer->b∉cU (envOfC qual scope s.heap.objs.size f cdv::outer):=λb o q hb z=>by
  rcases mem_cons.mp (show b∈s.heap.objs.size::cU outer from z) with z | z
  ·exact absurd (ybv q) (by rw[z];exact lt_irrefl _)
  ·exact hb z
 have S:∀b,s2.heap.get? b=none->s.heap.get? b=none:=λb q=>by
  cases z:s.heap.get? b with
  | none=>rfl
  | some o=>
    obtain⟨o',e'⟩:=I.base.there b o z (by intro y;cases y);rw[q] at e';cases e'
 have nT:s2.heap.get? T=none:=by
  cases z:s2.heap.get? T with
  | none=>rfl
  | some o=>
    by_cases zf:T∈cU (envOfC qual scope s.heap.objs.size f cdv::outer)
    ·obtain⟨⟨sl,e3⟩,d2⟩:=B T o zf z;rw[q7] at e3;cases e3;exact absurd q8 (d2 ts)
    ·rw[hideAll_get _ z zf] at q5;cases q5
 refine⟨e,T,C,H2,rfl,I.os,I.bare,⟨⟨λb o q n hb hx=>?_,λb o q n hb hx=>?_,λb o q n hx=>I.base.free b o q n (by intro y;cases y),λb o q hx=>?_,I.base.tups,I.base.frzs,I.base.tbls⟩,λb u q=>?_,S e mx.new,S T nT,I.hok.none_of mx.new,I.hok.none_of nT,
  ⟨oe,ws,oT,ts,_,q1,Z,q3,q4,q6,q7,q8,q9⟩⟩,hE⟩
 ·exact keep b o (nL b o q hb) (I.base.keep b o q n hb (by intro y;cases y))
 ·obtain⟨sl,e1⟩:=I.base.slot b o q n hb (by intro y;cases y);obtain⟨⟨ad,Y⟩,_⟩:=B b _ (ybx _ hb) e1;exact⟨ad,Y⟩
 ·obtain⟨o1,e1⟩:=I.base.there b o q (by intro y;cases y)
  by_cases hb:b∈cU (envOfC qual scope s.heap.objs.size f cdv::outer)
  ·obtain⟨⟨sl,Y⟩,_⟩:=B b o1 hb e1;exact⟨_,Y⟩
  ·exact⟨o1,keep b o1 hb e1⟩
 ·have nn:∀x v,H2 x=some v->x∉cU (envOfC qual scope s.heap.objs.size f cdv::outer):=λx v q z=>by rw[SF x z] at q;cases q
  refine(I.hok b u q).stay (λx v hc Z=>?_) (λ_ q=>q) λ_ _ q=>q;rcases hc with hc | hc
  ·rw[hc] at Z ⊢;exact keep b v (nn b u q) Z
  ·exact keep x v (nn x _ hc) Z
def xI (C:Addr) (e:WX):WS:=λ_ _ G=>e (.ref C) G
theorem aP {x L:Str} {e:WX} {np pos Z:Pos} {j} (hm:mg x=some (.ref C)) (hC:XC K C bm) (hE:∀H1 Y,aE H H1->aB K H1 Y->e (.ref C) Y->E (.ref C) none H1)
 (hg:Gl (bn (dy P w) P w K mg base N qual scope f cdv A outer s H E) x) (hd:dbz x:=by decide):
 QS (bn (dy P w) P w K mg base N qual scope f cdv A outer s H E) (.Raise (some (.Call (.Name x np) [.Constant (.str L) j Z] [] cpos)) none pos) (xI C e):=by
 rintro π s2 σ H2 D I ⟨τ,G,d,hs,S,ht,l⟩;obtain⟨N1,n1,q1,b1,d1,s1,u1,a1,c1,f1,g0,g1,g2,g3,g5,m1,gC,gN,gi,gT⟩:=hC.obj _ I.ok.mod.kin;refine wpAny_Raise_call_subT (C:=C) (nm:=n1) (q:=q1) (N:=N1) (bs:=b1) (bm:=bm) (hdct:=d1) (sn:=s1) (sub:=u1) (ab:=a1) (col:=c1) (dd:=f1) (k0:=g0) (k1:=g1) (k2:=g2) (k3:=g3) (k5:=g5) PySem.F.excBase_ValueError (mN:=m1) (gT.hasType rfl) (I.ok.hd rfl) rfl gi
  (ei I hg hm ⟨rfl,?_⟩ hd)
 have ha:=(bQ (X:=bn (dy P w) P w K mg base N qual scope f cdv A outer s H E) (lJ (x:=L) (j:=j) (pos:=Z)) pa_nil) cpos π s2 σ H2 (λvs H'=>vs.length=1/\H'=H2) I ⟨rfl,rfl⟩;refine Calls.evalArgs_plain (wpAny_mono ha (λus s3 h3=>?_) λ_ _ y=>y);obtain⟨vs,H3,B,rv,hl,rfl⟩:=h3;refine⟨rfl,?_,B.bk _ _ gC,gN.keeps B.bk,gT.keeps B.bk,λh' a mx=>Ew B mx (hE _ G ⟨B.base.tups,λb o u q=>B.base.frzs b o _ q⟩ S ht)⟩;show us.length<=sizeLine;rw[←rv.length,hl];decide
end
def sY:WS:=λ_ _ _=>False
theorem bU {st:List Stmt}:lO X st sY:=λ_ _ _ _ _ _ z9=>(by obtain⟨_,_,_,_,_,z,_⟩:=z9;exact z.elim)
theorem bX (F:bf K x qual st f fd) (S:ay N ps (ae st)) (len:∀ws G q e,sp ws G q e->ws.length=ps.length)
 (L:∀(cdv:Value) (A:Around) (outer:List Env) (s:Shared) (H:Hp) (E:XK) (ws:List W) (G:Gp) (q:WK) (e:WX),aH k (A.deeper (envOfC qual (ae st) s.heap.objs.size f cdv))->sp ws G q e->(∀c H1 B,aE H H1->aB K H1 B->e c B->E c none H1)->
   ∃t,lO (bn (dy P w) P w K mg base N qual (ae st) f cdv A outer s H E) (aZ st) t/\t { nx:=λ_ B=>∃G0,am G0 B/\q .non G0,rt:=λw B=>∃G0,am G0 B/\q w G0 } (ip N ws) G):sX P w K mg base (k+1) f fd ps sp:=by
 obtain⟨oc,od,kV,doc,pm,an,cdv,ct,osl,rfl,lk,ab⟩:=F.ex;refine sG lk ab S (λvs H Q E z9=>by obtain⟨ws,G,q,e,r,g,z,_⟩:=z9;rw[←r.length];exact len _ _ _ _ z) (λA outer s H vs Q E hr z9=>?_);obtain⟨ws,G,q,e,r,g,z,hQ,hX⟩:=z9;obtain⟨t,ht,hq⟩:=L cdv A outer s H E ws G q e hr z λc H1 B Z Y z1=>hX c none H1 B Z Y z1;exact⟨_,ht,_,G,_,aV.start r,g,hq,⟨λaf H1 ad B Z s1 Y z9=>(by obtain⟨G0,l,q1⟩:=z9;exact hQ .non H1 .non G0 Z .non (Y.le l) q1),λv H1 w B Z r1 Y z9=>(by obtain⟨G0,l,q1⟩:=z9;exact hQ v H1 w G0 Z r1 (Y.le l) q1),λ_ _ _ _ _ _ _ z=>z.elim,λ_ _ _ _ _ _ _ z=>z.elim⟩⟩
theorem CB (F:ir K x qual st f fd T ds) (S:ay N ps (ae st)) (len:∀ws G q e,sp ws G q e->ws.length=ps.length)
 (L:∀(cdv:Value) (A:Around) (outer:List Env) (s:Shared) (H:Hp) (E:XK) (ws:List W) (G:Gp) (q:WK) (e:WX),aH k (A.deeper (envOfC qual (ae st) s.heap.objs.size f cdv))->sp ws G q e->(∀c H1 B,aE H H1->aB K H1 B->e c B->E c none H1)->
   ∃t,lO (bn (dy P w) P w K mg base N qual (ae st) f cdv A outer s H E) (aZ st) t/\t { nx:=λ_ B=>∃G0,am G0 B/\q .non G0,rt:=λw B=>∃G0,am G0 B/\q w G0 } (ip N ws) G):sX P w K mg base (k+1) f fd ps sp:=by
 obtain⟨oc,od,kV,doc,pm,an,cdv,ct,osl,ot,nt,rfl,lk,ab,ht,hd⟩:=F.ex;refine sG lk ab S (λvs H Q E z9=>by obtain⟨ws,G,q,e,r,g,z,_⟩:=z9;rw[←r.length];exact len _ _ _ _ z) (λA outer s H vs Q E hr z9=>?_);obtain⟨ws,G,q,e,r,g,z,hQ,hX⟩:=z9;obtain⟨t,ht,hq⟩:=L cdv A outer s H E ws G q e hr z λc H1 B Z Y z1=>hX c none H1 B Z Y z1;exact⟨_,ht,_,G,_,aV.start r,g,hq,⟨λaf H1 ad B Z s1 Y z9=>(by obtain⟨G0,l,q1⟩:=z9;exact hQ .non H1 .non G0 Z .non (Y.le l) q1),λv H1 w B Z r1 Y z9=>(by obtain⟨G0,l,q1⟩:=z9;exact hQ v H1 w G0 Z r1 (Y.le l) q1),λ_ _ _ _ _ _ _ z=>z.elim,λ_ _ _ _ _ _ _ z=>z.elim⟩⟩
def Rx (P:Program) (w:World) (K:yav) (mg:yew) (base:Heap) (x:Str) (ps:List Str) (k:Nat) (sp:aX) (dws:List W):Prop:=
 ∃(f:Addr) (fd:FuncData) (ds:yez) (dvs:List V),sX P w K mg base k f fd ps sp/\mg x=some (.ref f)/\keepIn K (.ref f)=true/\bv K fd ps ds/\aK dvs ds/\∀H,aJ K H dws dvs
noncomputable abbrev Cx.xmk (X:Cx) (a:Addr) (oe:Obj):Cx:={ X with A:=X.A.mark (some (.ref a)),calm:=false,xe:=λ_ _=>False,pn:=(a,oe)::X.pn }
section
variable {oe:Obj}
theorem aw.xmk (I:aw X π σ H s) (e:s.heap.get? a=some oe) (n:H a=none) (Y:a≠X.env.locals) (L:a∉X.fs) (S:∀v,oe.data≠ .cell v):aw (X.xmk a oe) π σ H s:=
 ⟨⟨I.ok.mod,I.ok.kind,I.ok.glob,I.ok.blt,I.ok.above,I.ok.inj,I.ok.has,I.ok.cab,λz=>(ydx z).elim,I.ok.frames,I.ok.stk,I.ok.exf,I.ok.bs,I.ok.bsz,I.ok.noex,I.ok.exfs,I.ok.funs,I.ok.frf⟩,I.os,I.bare,I.base,I.loc,I.cell,I.free,I.freeC,
   λp B=>by
    rcases mem_cons.mp (show p∈(a,oe)::(X.pn++π) from B) with z | z
    ·rw[z];exact⟨e,n,Y,L,S⟩
    ·exact I.pin p z,I.hok,I.len⟩
end
def QH (X:Cx) (C:Addr) (hs:List ExceptHandler) (th:WS):Prop:=
 ∀(π:List (Addr×Obj)) (s0:Shared) (σ:St) (H0:Hp) (s:Shared) (H:Hp) (a T:Addr) (D:eX),aw X π σ H0 s0->Fl X.prog X.w (cU X.stack) H0 H s0.heap s.heap a T (.ref C) .none->s.os=s0.os->AllBare s.gens->LS X.K th D σ H->
  wpAny (model X.prog X.w) X.A (handleBy (.ref a) X.env hs) (SP X π D) X.xe s
section
variable {H0:Hp} {s0:Shared} {T:Addr} {c fl:Value}
theorem Fl.inv (F:Fl X.prog X.w (cU X.stack) H0 H s0.heap s.heap a T c fl) (I:aw X π σ H0 s0) (os:s.os=s0.os) (bare:AllBare s.gens):aw X π σ H s:=I.call' (ch:=[]) os F.un F.hok bare λb z=>absurd z (by simp)
theorem aw.frmem (I:aw X π σ H s):∀b∈cU X.stack,H b=none/\∃o,s.heap.get? b=some o/\∀vs,o.data≠ .fields vs:=λb hb=>⟨I.stkFree b hb,(I.stack.mem hb).2⟩
theorem Fl.there (F:Fl X.prog X.w (cU X.stack) H0 H s0.heap s.heap a T c fl) (I:aw X π σ H0 s0):∃oe,s.heap.get? a=some oe/\oe.cls=c/\H a=none/\a≠X.env.locals/\a∉X.fs/\∀v,oe.data≠ .cell v:=by
 obtain⟨oe,vs,Z,ts,a0,L,S,Y,_⟩:=F.tr;refine⟨oe,L,S.1,F.ha,λz=>?_,λz=>?_,λv z=>by rw[Y] at z;cases z⟩
 ·obtain⟨m,⟨o,_,_,B,_⟩,_⟩:=I.loc;rw[←z,F.na] at B;cases B
 ·obtain⟨_,o,B,_⟩:=I.funs.mem z;rw[F.na] at B;cases B
theorem Fl.lands {M:Model} {Q:Unit->Shared->Prop} (F:Fl X.prog X.w (cU X.stack) H0 H s0.heap s.heap a T c fl) (I:aw X π σ H0 s0) (os:s.os=s0.os) (bare:AllBare s.gens)
 (h:∀h' B,Fl X.prog X.w (cU X.stack) H0 H s0.heap h' a B c .none->Q () { s with heap:=h' }):wpAny M A (setFlight (.ref a) none) Q E s:=by
 have L:=F.inv I os bare;obtain⟨a0,S⟩:=F.traced;refine wpAny_setFlight_noneW (base:=hideAll s.heap (a::T::cU X.stack)) (λb o q=>of_hideAll _ q) (cM L.stack λb z=> .tail _ (.tail _ z)) S λh' k1 _ k3 Y=>?_;obtain⟨B,Z⟩:=F.move L.frmem k1 k3 λb o e n=>⟨o.slots,Y b o e n⟩;exact h h' B Z
variable {C D:Addr} {bmD:yez} {p:Pos} {name:Option Str} {rest:List ExceptHandler} {b0:Stmt} {th:WS}
theorem fE {M:Model} {Q:Unit->Shared->Prop} (I:aw X π σ H s) (hN:X.N.Nodup) (hi:X.N[i]?=some n) (hl:X.env.scope.names.lookup n=some .local)
 (h:∀s',aw X π (σ.set i none) H s'->Q () s'):wpAny M A (do bindName X.env n .none;unbindBehindTheSuite X.env n pos) Q E s:=by
 obtain⟨m,hn,ad⟩:=id I.loc;obtain⟨oL,_,_,af,_⟩:=id hn;refine wpAny_nameGoes_keeps hl hn (by rw[I.ok.kind];rfl) λh' v ab B=>h _ ?_;have L:∀b o,X.s₀.heap.get? b=some o->b≠X.env.locals:=λb o e=>ne_of_lt (ydw (ybv e) I.ok.above);refine⟨I.ok,I.os,I.bare,⟨λb o e n hb Z=>?_,λb o e n hb Z=>?_,I.base.free,λb o e Z=>?_,I.base.tups,I.base.frzs,I.base.tbls⟩,⟨_,ab,λj y v' e1 S e3=>?_⟩,λy c e=>?_,I.free,I.freeC,λp hp=>?_,λb ob e=>?_,by simpa using I.len⟩
 ·exact(B.2 b (L b o e)).trans (I.base.keep b o e n hb Z)
 ·obtain⟨sl,z⟩:=I.base.slot b o e n hb Z;exact⟨sl,(B.2 b (L b o e)).trans z⟩
 ·obtain⟨o',z⟩:=I.base.there b o e Z;exact⟨o',(B.2 b (L b o e)).trans z⟩
 ·have hj:j≠i:=λz=>by
   subst z
   by_cases hjl:j<σ.length
   ·rw[List.getElem?_set_self hjl] at S;cases S
   ·rw[List.getElem?_eq_none (by simpa using hjl)] at S;cases S
  rw[List.getElem?_set_ne (Ne.symm hj)] at S;obtain⟨u',r',q⟩:=ad j y v' e1 S e3;refine⟨u',r',?_⟩;rcases q with⟨k,e⟩ | ⟨k,c,e,z⟩
  ·refine .inl ⟨k,?_⟩;have:y≠n:=λe=>hj (jl hN e1 (e▸hi));simp[this,e]
  ·exact .inr ⟨k,c,e,z.sameBut B (I.cne y c e)⟩
 ·obtain⟨w',z⟩:=I.cell y c e;exact⟨w',z.sameBut B (I.cne y c e)⟩
 ·obtain⟨e,n,ne,nf,d⟩:=I.pin p hp;exact⟨(B.2 p.1 ne).trans e,n,ne,nf,d⟩
 ·refine(I.hok b ob e).stay (λx w' Y q=>(B.2 x ?_).trans q) (λ_ q=>q) λ_ _ q=>q;intro z;rcases Y with Y | Y
  ·rw[←Y,z,I.free] at e;cases e
  ·rw[z,I.free] at Y;cases Y
theorem aV.drop (h:aV K H τ σ) (i:Nat):aV K H (τ.set i none) (σ.set i none):=by
 refine⟨by simpa using h.1,λj u e=>?_⟩
 by_cases hj:i=j
 ·subst hj
  by_cases hl:i<τ.length
  ·rw[List.getElem?_set_self hl] at e;cases e
  ·rw[List.getElem?_eq_none (by simpa using hl)] at e;cases e
 ·rw[List.getElem?_set_ne hj] at e;obtain⟨S,L,B⟩:=h.2 j u e;exact⟨S,by rw[List.getElem?_set_ne hj];exact L,B⟩
end
section
variable {oe:Obj} {C D:Addr} {bmD:yez}
theorem lU {x y:V} (r:aK [x,y] us):∃u v,us=[u,v]/\aT x u/\aT y v:=by
 cases r with
 | cons L r=>
   cases r with
   | cons B r=>cases r;exact⟨_,_,rfl,L,B⟩
end
theorem XC.self (x:XC K C bm):mroIn K C (.ref C)=some true:=by rw[x.mro];simp
theorem Lb:PySem.W.kitMeta "ValueError"=true:=by decide+kernel
theorem Ex:bootBuiltins "ValueError"=some (.type "ValueError"):=by decide+kernel
section
variable {R:Result->Shared->Prop} {I:Addr} {fp wr:List Addr} {n:Nat} {P:Nat->Value->Prop} {St:Nat->Heap->Prop} {kw:List (Str×Value)}
end
section
variable {l:Addr} {xs:Array (Int×Tok)} {d:Value}
end
section
variable {N:List Str} {qual:Str} {f:Addr} {cdv:Value} {outer:List Env} {E:XK}
theorem lV (hE:∀C H1,aE H H1->E' (.ref C) none H1->E (.ref C) none H1):dr (dy P w) (bn (dy P w) P w K mg base N qual scope f cdv A outer s H E) E':=by
 intro π σ H2 s2 e s3 I hx;obtain⟨a,T,C,H',rfl,os,bare,F,hw⟩:=hx;have I':=F.inv I os bare;obtain⟨a0,tr⟩:=F.traced;show wpAny _ _ (leaving (envOfC qual scope s.heap.objs.size f cdv) (.ref a)) _ _ s3;refine wpAny_leaving_nextW (base:=hideAll s3.heap (a::T::cU (envOfC qual scope s.heap.objs.size f cdv::outer))) (outer:=outer) (L:=s.heap.objs.size) I'.ok.frames (cM I'.stack λb z=> .tail _ (.tail _ z)) rfl tr (λb o q=>of_hideAll _ q) (hideAll_none _ (.head _)) λh3 left=>?_;obtain⟨k1,_,k3,k4⟩:=left;obtain⟨T',B⟩:=F.move I'.frmem k1 k3 k4;have nL:∀b o,s.heap.get? b=some o->b∉cU outer->b∉cU (envOfC qual scope s.heap.objs.size f cdv::outer):=λb o q hb z=>by
  rcases mem_cons.mp (show b∈s.heap.objs.size::cU outer from z) with z | z
  ·exact absurd (ybv q) (by rw[z];exact lt_irrefl _)
  ·exact hb z
 have Y:∀b:Addr,b∉(bn (dy P w) P w K mg base N qual scope f cdv A outer s H E).ex:=λb y=>nomatch y;have S:∀b,s2.heap.get? b=none->s.heap.get? b=none:=λb q=>by
  cases z:s.heap.get? b with
  | none=>rfl
  | some o=>
    obtain⟨o',Z⟩:=I.base.there b o z (Y b);rw[q] at Z;cases Z
 have tl:aE H H':=⟨λb xs q=>F.un.tups b xs (I.base.tups b xs q),λb o u q=>F.un.frzs b o _ (I.base.frzs b o _ q)⟩;refine⟨a,T',C,H',rfl,os.trans I.os,bare,⟨⟨λb o q n hb hx=>?_,λb o q n hb hx=>?_,λb o q n hx=>?_,λb o q hx=>?_,λb xs q=>F.un.tups b xs (I.base.tups b xs q),λb o u q=>F.un.frzs b o u (I.base.frzs b o u q),λb ps q=>?_⟩,B.hok,S a B.na,S T' B.nT,B.ha,B.hT,B.tr⟩,hE C H' tl hw⟩
 ·exact B.un.keep b o (I.base.keep b o q n hb (Y b)) (I.base.free b o q n (Y b)) (nL b o q hb) (by simp)
 ·obtain⟨sl,e1⟩:=I.base.slot b o q n hb (Y b);obtain⟨ab,e2⟩:=B.un.slot b _ e1 (I.base.free b o q n (Y b)) (ybx _ hb) (by simp);exact⟨ab,e2⟩
 ·obtain⟨o',Z⟩:=I.base.there b o q (Y b);exact B.un.free b o' Z (I.base.free b o q n (Y b)) (by simp)
 ·obtain⟨o',Z⟩:=I.base.there b o q (Y b);exact B.un.there b o' Z (by simp)
 ·obtain⟨m1,e1⟩:=I.base.tbls b ps q;obtain⟨m2,e2⟩:=F.un.tbls b _ e1;exact⟨m1++m2,by rw[e2,Array.append_assoc]⟩
def lW (sp:aX) (dws:List W) (t:WA) (e:WX):WE:=λτ G q=>t τ G λws G1=>sp (ws++dws) G1 q e
theorem bb {sp:aX} {dws:List W} {p pos:Pos} {L:Expr} {t:WA} {e:WX} (F:Rx P w K mg base x ps k sp dws) (hr:aH k (A.deeper (envOfC qual scope s.heap.objs.size f cdv)))
 (hE:∀c H1 B,aE H H1->aB K H1 B->e c B->E c none H1) (hg:Gl (bn (dy P w) P w K mg base N qual scope f cdv A outer s H E) x) (ha:QA (bn (dy P w) P w K mg base N qual scope f cdv A outer s H E) (L::es) t) (ad:dbz x:=by decide)
 (he:starEach (L::es) (envOfC qual scope s.heap.objs.size f cdv)=(false,eval L (envOfC qual scope s.heap.objs.size f cdv))::starEach es (envOfC qual scope s.heap.objs.size f cdv):=by rfl) (Z:(backTo pos (starEach es (envOfC qual scope s.heap.objs.size f cdv))).any (·.1)=false:=by rfl):
 QE (bn (dy P w) P w K mg base N qual scope f cdv A outer s H E) (.Call (.Name x p) (L::es) [] pos) (lW sp dws t e):=by
 obtain⟨f1,fd,ds,dvs,F1,h2,h3,h4,h5,h6⟩:=F;refine(ja (X:=bn (dy P w) P w K mg base N qual scope f cdv A outer s H E) (E:=λc _ H1=>∃B,aB K H1 B/\e c B) F1 hr hg h2 h3 h4 h5 (lV λC H1 t1 z=>?_) ha ad he Z).imp λσ H2 Q h=>?_
 ·obtain⟨B,Y,z1⟩:=z;exact hE _ H1 B t1 Y z1
 ·obtain⟨τ,G,q,hs,ab,ht,hQ⟩:=h;exact⟨τ,G,_,hs,ab,ht,λvs H1 ws B t1 r1 Y q1=>⟨ws++dws,B,q,e,r1.append (h6 H1),Y,q1,λv H3 w S t3=>hQ v H3 w S (t1.trans t3),λc d H3 S _ g3 z=>⟨S,g3,z⟩⟩⟩
end
section
variable {I l:Addr}
end
def xJ (lo hi c:Int):Prop:=Ep lo hi c∨(c= -1/\-(2^40)<=lo/\lo<2^40/\-(2^40)<=hi/\hi<2^40)
theorem jC (a b:Int):pJ a b (-1)=((a-b).toNat:Int):=by
 unfold pJ Builtin.Range.rangeSize;rw[ycw (by decide)];split
 ·have:(a-b-1)/ (1:Int)=a-b-1:=Int.ediv_one _;simp only[Int.neg_neg];lia
 ·lia
theorem xJ.nn {lo c:Int} (h:xJ lo hi c):0<=pJ lo hi c:=by
 rcases h with h | ⟨rfl,h⟩
 ·exact h.size.1
 ·rw[jC];lia
theorem xJ.small {lo c:Int} (h:xJ lo hi c):Builtin.Range.small lo hi c=true:=by
 rcases h with h | ⟨rfl,L,B,h0,h1⟩
 ·exact h.small
 ·have e:Builtin.Range.rangeSize lo hi (-1)=((lo-hi).toNat:Int):=jC lo hi;unfold Builtin.Range.small;rw[e];simp only[Builtin.Range.rangeFitsLong,Bool.and_eq_true,Bool.or_eq_true,decide_eq_true_eq,beq_iff_eq];rw[ycw (by decide)];simp only[Bool.and_eq_true,decide_eq_true_eq];lia
theorem xJ.ne {lo c:Int} (h:xJ lo hi c):c≠0:=by
 rcases h with h | ⟨rfl,_⟩
 ·have:=h.c0;lia
 ·decide
theorem xJ.lo {lo c:Int} (h:xJ lo hi c):c.natAbs<1073741824:=by
 rcases h with h | ⟨rfl,_⟩
 ·have:=h.c0;have:=h.c1;lia
 ·decide
section
variable {tg:Expr}
theorem vn {R:It->Hp->Prop} {lo c:Int} {t u v:Tok} {tk:Nat} (I:aw X π σ H s) (h:xJ lo hi c)
 (q:R (Eo lo c (pJ lo hi c).toNat) H):wpAny (model X.prog X.w) X.A (pyIter (.ref s.heap.objs.size)) (KD X π σ tg R) E { s with heap:=s.heap.push { cls:= .type "range",data:= .fields #[.int lo t,.int hi u,.int c v] },toks:=tk }:=by
 refine wpAny_pyIter_range (IsRange.new ..) h.small ?_;have B:aw X π σ H { s with heap:=s.heap.push { cls:= .type "range",data:= .fields #[.int lo t,.int hi u,.int c v] },toks:=tk }:=I.kept λb o e=>ybz _ e;refine⟨(s.heap.push { cls:= .type "range",data:= .fields #[.int lo t,.int hi u,.int c v] }).objs.size,[(s.heap.push { cls:= .type "range",data:= .fields #[.int lo t,.int hi u,.int c v] }).objs.size],_,_,H,rfl,
  B.kept (t':=tk) λb o e=>ybz _ e,n9 _ lo c (pJ lo hi c).toNat,?_,λb hb=>?_,q⟩
 ·have L:lo+((0:Nat):Int)*c=lo:=by simp
  have S:(((pJ lo hi c).toNat:Nat):Int)- ((0:Nat):Int)=Builtin.Range.rangeSize lo hi c:=by have:=h.nn;unfold pJ at this ⊢;lia
  show IsRangeIter _ _ (lo+((0:Nat):Int)*c) ((((pJ lo hi c).toNat:Nat):Int)- ((0:Nat):Int)) c;rw[L,S];exact ybw _ rfl
 ·have e:b=(s.heap.push { cls:= .type "range",data:= .fields #[.int lo t,.int hi u,.int c v] }).objs.size:=by simpa using hb
  subst e;exact B.fpOk (ycx _) (B.hok.fresh (ycx _))
def CC (ta:WA):WI:=λτ G r=>ta τ G λws G1=>match ws with
 | [.int lo,.int hi,.int c]=>xJ lo hi c/\r (vk lo c (pJ lo hi c).toNat) (λ_=>True) G1
 | _=>False
theorem AG {ws:List W} {f:Int->Int->Int->Prop} (h:match ws with | [.int i,.int j,.int k]=>f i j k | _=>False):∃i j k,ws=[.int i,.int j,.int k]/\f i j k:=by
 rcases ws with _ | ⟨a,_ | ⟨b,_ | ⟨c,r⟩⟩⟩
 ·exact h.elim
 ·cases a<;> exact h.elim
 ·cases a with
  | int i=>cases b<;> exact h.elim
  | _=>exact h.elim
 ·cases a with
  | int i=>
    cases b with
    | int j=>
      cases c with
      | int k=>cases r with
        | nil=>exact⟨i,j,k,rfl,h⟩
        | cons _ _=>exact h.elim
      | _=>exact h.elim
    | _=>exact h.elim
  | _=>exact h.elim
theorem vo {a b c:Expr} {ta:WA} {p pos:Pos} (hg:Gl X "range") (hm:X.mg "range"=none) (ha:QA X [a,b,c] ta) (hs:starEach [a,b,c] X.env=[(false,eval a X.env),(false,eval b X.env),(false,eval c X.env)]:=by rfl) (S:starEach [b,c] X.env=[(false,eval b X.env),(false,eval c X.env)]:=by rfl):
 QI X tg (.Call (.Name "range" p) [a,b,c] [] pos) (CC ta):=by
 rintro π s σ H R I ⟨τ,G,r,ab,hG,ht,hR⟩;refine Call_ (ig I hg hm boot_range (PyProof.Rows.callWith_type1 (bE (ha pos π s σ H (λvs H1=>∃ws L,aE H H1/\aJ X.K H1 ws vs/\aB X.K H1 L/\match ws with | [.int lo,.int hi,.int c]=>xJ lo hi c/\r (vk lo c (pJ lo hi c).toNat) (λ_=>True) L | _=>False) I ⟨τ,G,_,ab,hG,ht,λvs H1 ws L t1 r1 g1 B=>⟨ws,L,t1,r1,g1,B⟩⟩) λus s1 z9=>?_) (by rw[hs,S]) (by rw[S];rfl)));obtain⟨vs,H1,I1,ru,ws,L,t1,r1,g1,B⟩:=z9;obtain⟨lo,hi,c,rfl,B⟩:=AG B;cases r1 with
 | cons ra Y=>
   cases ra;cases Y with
   | cons rb Y=>
     cases rb;cases Y with
     | cons rc Y=>
       cases rc;cases Y;cases ru with
       | cons va Z=>
         obtain⟨t,rfl⟩:=va;cases Z with
         | cons vb Z=>
           obtain⟨t',rfl⟩:=vb;cases Z with
           | cons vc Z=>
             obtain⟨ad,rfl⟩:=vc;cases Z;exact call_range_3 B.1.ne (vn I1 B.1 (hR _ H1 _ _ L t1 g1 xy B.2)) (.inl (PyProof.noPylong_small B.1.lo))
noncomputable def AH (i:Int):Int:=(Builtin.Int.intBits i:Nat)
def HB:V->List V->Hp->VK->Prop:=λx vs H Q=>∃i,x=.int i/\vs=[]/\Q (.int (AH i)) H
theorem AI:Cp X "int.bit_length" HB:=by
 intro π s σ H x vs v us Q I rx B h;obtain⟨i,rfl,rfl,q⟩:=h;obtain⟨t,rfl⟩:=rx;cases B;exact call_int_bit_length ⟨.int (AH i),H,I.tok _,⟨_,rfl⟩,q⟩
def CF (to:WE):WE:=λτ G q=>to τ G λx G1=>match x with
 | .int i=>q (.int (AH i)) G1
 | _=>False
theorem AJ (ho:QE X o to)
 (L:attributeBase o "bit_length" X.env (eval o X.env)=eval o X.env:=by rfl) (B:(apos.endLine==cpos.line)=true:=by rfl):
 QE X (.Call (.Attribute o "bit_length" apos) [] [] cpos) (CF to):=
 (wO PySem.F.plainAttrs_int PySem.F.slot_int_bit_length PySem.F.type_int_bit_length AI ho L B).imp λσ H Q z0=>z0.el λτ G q hs Y Z hQ=>
   ⟨τ,G,_,hs,Y,Z,λv H1 w G1 t1 r1 g1 S=>by
     split at S
     ·rename_i i;cases r1;exact⟨rfl,i,rfl,rfl,hQ _ _ _ _ t1 (.int _) g1 S⟩
     ·exact S.elim⟩
abbrev Lc:W2:=q0 (λ_ j=>0<=j) λi j=> .int (i/2^j.toNat)
theorem HC:eo X (binaryOp .RShift) Lc:=lP DF
def Le (i j:Int):Prop:=0<=j/\j<=1000/\i.natAbs<2^4000
def xK (i j:Int):Prop:=DB i j∨Le i j
abbrev HD:W2:=q0 xK λi j=> .int (i^j.toNat)
theorem AK:hV X (binaryOp .Pow) (rI xK λi j=> .int (i^j.toNat)):=Gw λi j _ _ _ _ _ B q=>by
 rcases B with B | ⟨h0,h1,h2⟩
 ·exact pow_int_small B.1 B.2.1 B.2.2 q
 ·refine pow_int h0 ?_ q;have L:=PyProof.Rows.intBits_le h2;have b2:(Builtin.Int.intBits i:Int)*j<=4000*1000:=Int.mul_le_mul (by lia) h1 h0 (by decide);have hb:(4000000:Int)<=bitsLine:=by decide
  first | lia | (simp[Builtin.Int.intTooBig];lia)
theorem Ey:eo X (binaryOp .Pow) HD:=lP AK
end
section
variable {C:Addr} {th:WS} {p:Pos}
end
theorem sX.none (h:∀ws G q e,¬sp ws G q e):sX P w K mg base k f fd ps sp:=
 ⟨λ_ _ _ _ z9=>(by obtain⟨_,_,_,_,_,_,z,_⟩:=z9;exact absurd z (h _ _ _ _)),λ_ _ _ _ _ _ _ _ _ _ _ _ _ z9=>(by obtain⟨_,_,_,_,_,_,z,_⟩:=z9;exact absurd z (h _ _ _ _))⟩
abbrev zQ:=Addr->bV->Gp->Prop
def XP (X:Cx) (π:List (Addr×Obj)) (H:Hp) (ex:zQ) (e:Value) (s':Shared):Prop:=
 ∃a T C H0 s0 σ H' τ G,e=.ref a/\aw X π σ H0 s0/\Fl X.prog X.w (cU X.stack) H0 H' s0.heap s'.heap a T (.ref C) .none/\s'.os=s0.os/\AllBare s'.gens/\aE H H'/\aV X.K H' τ σ/\aB X.K H' G/\ex C τ G
def QY (X:Cx) (st:Stmt) (t:zQ->WS):Prop:=
 ∀(ex:zQ) (π:List (Addr×Obj)) (s:Shared) (σ:St) (H:Hp) (D:eX),aw X π σ H s->LS X.K (t ex) D σ H->wpAny (model X.prog X.w) X.A (exec st X.env) (SP X π D) (XP X π H ex) s
def Nz (X:Cx) (st:List Stmt) (t:zQ->WS):Prop:=
 ∀(ex:zQ) (π:List (Addr×Obj)) (s:Shared) (σ:St) (H:Hp) (D:eX),aw X π σ H s->LS X.K (t ex) D σ H->wpAny (model X.prog X.w) X.A (execs st X.env) (SP X π D) (XP X π H ex) s
section
variable {p:Pos}
theorem AL (h:QY X st t):Nz X [st] t:=by
 intro ex π s σ H D I B;refine wpAny_execs_cons (bE (h ex π s σ H D I B) λf L q=>?_);cases f with
 | next=>exact wpAny_execs_nil q
 | ret v=>exact q
 | brk=>exact q
 | cont=>exact q
def xL (t:zQ->WS) (cs:List (Addr×WS)):WS:=λd τ G=>t (λC τ1 G1=>∃th,(C,th)∈cs/\th d τ1 G1) d τ G
theorem AM (B:X.stack=X.env::X.outer) (L:X.env.frame=some X.env.locals) (hb:Nz X body t) (hh:∀c,c∈cs->QH X c.1 (h0::hs) c.2):
 QS X (.Try body (h0::hs) [] [] pos) (xL t cs):=by
 rintro π s σ H D I ⟨τ,G,d,rs,rg,ht,l⟩;refine wpAny_Try_except (wpAny_mono (hb _ π s σ H D I ⟨τ,G,d,rs,rg,ht,l⟩) (λf s1 q=>?_) λe s' Z=>?_)
 ·cases f with
  | next=>exact wpAny_execs_nil q
  | ret v=>exact q
  | brk=>exact q
  | cont=>exact q
 ·obtain⟨a,T,C,H1,s1,ad,H',Y,G1,rfl,I1,F1,os,bare,tl,ab,S,th,hc,Z⟩:=Z;have I':=F1.inv I1 os bare;obtain⟨a0,tr⟩:=F1.traced;refine wpAny_noteFrame_onW (base:=hideAll s'.heap (a::T::cU X.stack)) (outer:=X.outer) (by rw[←B];exact I'.ok.frames) (by rw[←B];exact cM I'.stack λb z=> .tail _ (.tail _ z)) L tr (λb o q=>of_hideAll _ q) (hideAll_none _ (.head _)) λh2 N2=>?_;obtain⟨k1,_,k3,k4⟩:=N2;obtain⟨T2,F2⟩:=F1.move I'.frmem k1 k3 k4;refine Fl.lands (s:={ s' with heap:=h2 }) F2 I1 os bare λh3 T3 F3=>?_;exact hh _ hc π s1 ad H1 { s' with heap:=h3 } H' a T3 D I1 F3 os bare ⟨Y,G1,d,ab,S,Z,l.mono tl⟩
end
mutual
noncomputable def W.ge:W->W->Bool
 | .int i,.int j=>decide (i≥j)
 | .tup xs,.tup ys=>W.ges xs ys
 | _,_=>false
noncomputable def W.ges:List W->List W->Bool
 | [],[]=>true
 | [],_::_=>false
 | _::_,[]=>true
 | x::xs,y::ys=>if W.eq x y=true then W.ges xs ys else W.ge x y
end
def Lf (A:Around) (s:Shared) (y x:Value) (b:Bool):Prop:=
 ∀(prog:Program) (w:World) (E:yey) (Q:yey),Q (.bool b) s->wpAny (model prog w) A (richCompare .GtE y x) Q E s
inductive vp (A:Around) (s:Shared):List Value->List Value->Bool->Prop where
 | nn:vp A s [] [] true
 | nc {y:Value} {ys:yez}:vp A s [] (y::ys) false
 | cn {x:Value} {xs:yez}:vp A s (x::xs) [] true
 | eq {x y:Value} {xs ys:yez} {r:Bool} (h:SeqAt.EqAt A s x y true) (t:vp A s xs ys r):vp A s (x::xs) (y::ys) r
 | ne {x y:Value} {xs ys:yez} {r:Bool} (h:SeqAt.EqAt A s x y false) (t:Lf A s x y r):vp A s (x::xs) (y::ys) r
section
open PySem.SeqAt
open PySem.AutoSeq1 (wpAny_loadPart')
open PySem.MeetsSeq PySem.MeetsSeq2 PySem.MeetsSeq3
end
def Lg:W2:=λx y G q=>match x,y with
 | .int i,.int j=>q (.bl (decide (i≥j))) G
 | .tup xs,.tup ys=>W.flats xs=true/\W.flats ys=true/\W.deps xs<=149/\W.ords xs ys=true/\q (.bl (W.ges xs ys)) G
 | _,_=>False
def HE (to te:WE):WE:=λτ G q=>to τ G λx G1=>match x with
 | .ref a=>(∃xs,G1 a=some (.lst xs))/\te τ G1 λy G2=>match y with
   | .ref b=>∃ys zs,G2 a=some (.lst ys)/\G2 b=some (.lst zs)/\ys.length+zs.length<=100000/\q .non (av G2 a (.lst (ys++zs)))
   | _=>False
 | _=>False
theorem Ez (ho:QE X o to) (he:QE X e te)
 (B:attributeBase o "extend" X.env (eval o X.env)=eval o X.env:=by rfl)
 (S:((backTo cpos (starEach [e] X.env)).all (λx=>!x.1)&&(backToKw cpos (keywordEach [] X.env)).all (λx=>x.1.isSome)
   &&decide (([e]:List Expr).length+([]:List Keyword).length+(if ([]:List Keyword).isEmpty then 0 else 1)<30))=true:=by rfl)
 (L:(apos.endLine==cpos.line)=true:=by rfl) (Y:starEach [e] X.env=(false,eval e X.env)::starEach [] X.env:=by rfl):
 QE X (.Call (.Attribute o "extend" apos) [e] [] cpos) (HE to te):=
 (jt PySem.F.plainAttrs_list PySem.F.slot_list_extend PySem.F.type_list_extend u0 ho (bQ he pa_nil Y) B S L Y rfl).imp λσ H Q z0=>z0.el λτ G q Y hg ht hQ=>
   ⟨τ,G,_,Y,hg,ht,λv H1 w G1 t1 r1 g1 q1=>by
     split at q1
     ·rename_i a;cases r1;obtain⟨⟨xs,e1⟩,q1⟩:=q1;obtain⟨_,af,h1,_⟩:=g1 a _ e1;refine⟨.inl ⟨rfl,af,cG.of h1⟩,τ,G1,_,Y.mono t1,g1,q1,λv2 H2 w2 G2 t2 r2 g2 Z=>?_⟩;split at Z
      ·rename_i b;cases r2;obtain⟨ys,zs,e2,e3,hl,Z⟩:=Z;obtain⟨_,ab,h2,rr⟩:=g2 a _ e2;obtain⟨_,ad,h3,rz⟩:=g2 b _ e3;refine⟨a,b,ab,ad,rfl,rfl,h2,h3,?_,?_⟩
       ·rw[←rr.length,←rz.length];exact bA hl
       ·exact hQ _ _ _ _ ((t1.trans t2).trans (aE.lst h2 _)) .non (g2.put (aE.lst h2 _) (rr.append rz) (by rw[length_append];exact hl)) Z
      ·exact Z.elim
     ·exact q1.elim⟩
section
variable {h:Heap} {g:Array GenState} {d:Drawn} {t:Nat} {os:OsState} {C:Addr} {o:Obj}
theorem og (X:K.In h) (S:XC K C bm) (Y:h.get? a=some o) (Z:o.cls=.ref C) (hq:R (.ok (.ret (.ref C))) ⟨h,g,d,t,os⟩):
 codeAny (model prog w) A (.call (.builtin "getset_descriptor.__get__") ⟨[.builtin "object.__class__",.ref a,.ref C],[]⟩) R ⟨h,g,d,t,os⟩:=by
 have L:(⟨h,g,d,t,os⟩:Shared).TypeIs (.builtin "object.__class__") "getset_descriptor":=F.typeOf_object_class;have B:(Value.ref C::bm).contains (.type (".".intercalate ("object.__class__".cutAt '.').dropLast))=true:=by
  rw[F.owner_object_class];exact S.has X rfl
 obtain⟨N1,n1,q1,b1,d1,s1,u1,a1,c1,f1,g0,g1,g2,g3,g5,m1,gC,_,_,_⟩:=S.obj h X;refine codeAny_call_builtin F.slot_gs_get.plain F.entry_gs_get (F.slot_gs_get.check _ _ _ _ _ _ _ _ L (F.args_gs_get _ _ _) ?_)
 repeat (any_goals (first | assumption | (with_reducible refine wpAny_loadPart_at Y ?_;rw[Z]) | (with_reducible refine wpAny_isSubtype_exc gC ?_;rw[B]) | wp_step))
 refine⟨Code.quiet_builtin _ (by decide+kernel),codeAny_builtin F.entry_object_class ?_⟩
 repeat (any_goals (first | assumption | (with_reducible refine wpAny_loadPart_at Y ?_;rw[Z]) | wp_step))
theorem kq {tk:Tok} {Q:Fin->Shared->Prop} (X:K.In h) (Z:XC K C bm) (Y:XQ K C) (B:h.get? a=some o) (L:o.cls=.ref C) (hq:Q (.done (.ret (.ref C))) ⟨h,g,d,t,os⟩):
 wpAny (model prog w) A (Builtin.«object.__getattribute__» ⟨[.ref a,.str "__class__" tk],[]⟩) Q E ⟨h,g,d,t,os⟩:=by
 have ab:(⟨h,g,d,t,os⟩:Shared).TypeIs (.builtin "object.__class__") "getset_descriptor":=F.typeOf_object_class;have f5:=F.typeOf_object_class;have f6:=F.slot_gs_get.lookup;have f7:=F.slot_gs_set.lookup;have S:=looks_findIn (M:=model prog w) X Y.gc
 repeat (any_goals (first | assumption | (with_reducible refine wpAny_loadPart_at B ?_;rw[L]) | with_reducible refine S.at ?_ | wp_step))
 refine og X Z B L ?_
 repeat (any_goals (first | assumption | wp_step))
theorem rq {M:Model} {Q:Unit->Shared->Prop} (X:K.In h) (Y:XC K C bm) (hx:h.get? a=some o) (hc:o.cls=.ref C) (hq:Q () ⟨h,g,d,t,os⟩):wpAny M A (checkBuiltinCall "BaseException.__getattribute__" ⟨[.ref a,B],[]⟩) Q E ⟨h,g,d,t,os⟩:=by
 have Z:builtinKind "BaseException.__getattribute__"=some .slot:=by decide+kernel
 have L:splitId "BaseException.__getattribute__"=some ("BaseException","__getattribute__"):=by decide+kernel
 have S:(Value.ref C::bm).contains (.type "BaseException")=true:=Y.has X rfl;have ha:=F.args_bexc_ga (.ref a) B;obtain⟨N1,n1,q1,b1,d1,s1,u1,a1,c1,f1,g0,g1,g2,g3,g5,m1,gC,_,_,_⟩:=Y.obj h X;simp only[checkBuiltinCall,Z,L];refine wax ?_
 ·unfold isInstance
  repeat (first | (with_reducible refine wpAny_loadPart_at hx ?_;rw[hc]) | (with_reducible refine wpAny_isSubtype_exc gC ?_;rw[S]) | wp_step)
  exact hq
theorem lX (X:K.In h) (S:XC K C bm) (Y:XQ K C) (B:h.get? a=some o) (L:o.cls=.ref C) (Z:R (.ok (.ret (.ref C))) ⟨h,g,d,t,os⟩):
 codeAny (model prog w) A (.call (.builtin "BaseException.__getattribute__") ⟨[.ref a,.str "__class__" tk],[]⟩) R ⟨h,g,d,t,os⟩:=
 codeAny_call_builtin F.excAttr_ValueError.ga.plain F.entry_bexc_ga (rq X S B L (kq X S Y B L Z))
theorem rA {tk:Tok} {fill B:Bool} (X:K.In h) (hC:XC K C bm) (S:XQ K C) (Y:h.get? a=some o) (Z:o.cls=.ref C) (hq:Q (.ref C) ⟨h,g,d,t,os⟩):
 wpAny (model prog w) A (getAttrBy (.ref a) (.str "__class__" tk) fill B) Q E ⟨h,g,d,t,os⟩:=by
 have f3:=F.excAttr_ValueError.ga.bind (.ref a);have ad:(B&&onTheHeap (Value.builtin "BaseException.__getattribute__"))=false:=by cases B<;> rfl
 have L:(Value.builtin "BaseException.__getattribute__"==Value.builtin "object.__getattribute__")=false:=by decide+kernel
 have ab:(onTheHeap (Value.ref C)&&Value.builtin "BaseException.__getattribute__"==Value.builtin "object.__getattribute__")=false:=by rw[L];rfl
 have L1:=looks_findIn (M:=model prog w) X S.ga;have L2:=looks_findIn (M:=model prog w) X S.gx
 repeat (any_goals (first | assumption | (with_reducible refine wpAny_loadPart_at Y ?_;rw[Z]) | with_reducible refine L1.at ?_ | with_reducible refine L2.at ?_ | wp_step))
 refine lX X hC S Y Z ?_
 repeat (any_goals (first | assumption | wp_step))
theorem lY {Q:Option Value->Shared->Prop} (X:K.In h) (Y:XC K C bm) (S:XQ K C) (B:h.get? a=some o) (L:o.cls=.ref C) (Z:Q (some (.ref C)) ⟨h,g,d,t+1,os⟩):
 wpAny (model prog w) A (getAttr? (.ref a) "__class__") Q E ⟨h,g,d,t,os⟩:=by
 unfold getAttr? getAttrBy?
 repeat (any_goals (first | assumption | with_reducible apply rA X Y S B L | wp_step))
end
section
variable {C D:Addr} {o:Obj}
theorem kt {dep:Int} {tk:Tok} {Q:Fin->Shared->Prop} (X:K.In s.heap) (hC:XC K C bm) (hQ:XQ K C) (hE:XD K C) (L:XD K D) (hs:mroIn K C (.ref D)=some false) (B:C≠D) (hx:s.heap.get? a=some o) (hc:o.cls=.ref C)
 (h:Q (.done (.ret (.bool false))) { s with toks:=s.toks+1 }):
 wpAny (model prog w) A (Builtin.«isinstance.nested» ⟨[.ref a,.ref D,.int dep tk],[]⟩) Q E s:=by
 obtain⟨Y,g,d,tt,os⟩:=s;have ht:Looks (model prog w) Y (typeOf (.ref a)) (.ref C):=hc▸(PySem.W.Looks.ld hx).andThen .now;unfold Builtin.«isinstance.nested»;refine wax (ht.at ?_);rw[ycw (λq=>by cases beq_iff_eq.mp q;exact B rfl)];have L1:=PySem.W.looks_typeIn (M:=model prog w) X L.ty;have L2:=PySem.W.looks_instIn (M:=model prog w) X L.ins;have L4:Looks (model prog w) Y (isSubtype (.ref C) (.ref D)) false:=PySem.W.looks_subIn X hs;have L3:Looks (model prog w) Y (isInstance (.ref a) (.ref D)) false:=ht.andThen L4;refine wax (L1.at ?_);rw[ycv (by decide)]
 k_delta "plainIsInstance"
 obtain⟨cd,Z⟩:=L.cls;obtain⟨ad,S⟩:=hE.cls;have L5:=PySem.W.looks_typeIn (M:=model prog w) X hE.ty;have L6:=PySem.W.looks_instIn (M:=model prog w) X hE.ins;unfold isType
 repeat lk
 unfold clsIn at Z S;split at Z
 ·rename_i ho;split at S
  ·rename_i ab;refine PySem.W.nd_load (X _ _ ho) (PySem.W.nd_pure (wpAny_pure ?_));simp only[Bool.not_true,Bool.false_eq_true,if_false];refine wax (L3.at ?_);simp only[Bool.false_eq_true,if_false];refine wax (lY X hC hQ hx hc ?_);dsimp only;refine wax ?_;refine PySem.W.nd_load (X _ _ ab) (PySem.W.nd_pure ?_);simp only[Bool.not_true,Bool.false_eq_true,if_false];refine wax (wpAny_rule ?_);refine L4.at ?_;exact wpAny_pure h
  ·cases S
 ·cases Z
theorem oh (X:K.In s.heap) (Z:XC K C bm) (Y:XQ K C) (hE:XD K C) (hD:XD K D) (hs:mroIn K C (.ref D)=some false) (L:C≠D) (hx:s.heap.get? a=some o) (hc:o.cls=.ref C)
 (h:Q (.bool false) { s with toks:=s.toks+1 }):wpAny (model prog w) A (call (.builtin "isinstance") [.ref a,.ref D]) Q E s:=
 call_isinstance (S:=λ_ R s=>(K.In s.heap/\s.heap.get? a=some o)/\R (.ok (.ret (.bool false))) { s with toks:=s.toks+1 })
  (λ_ _ _ _ _ B=>isinstance_outer (kt B.1.1 Z Y hE hD hs L B.1.2 hc B.2) (λz=>nomatch z)) ⟨⟨X,hx⟩,h⟩
end
theorem vq (L:XC K C bm) (B:mroIn K C (.ref D)=some false):C≠D:=λz=>by
 subst z;rw[L.self] at B;cases B
section
variable {oe:Obj} {C D:Addr}
end
section
variable {I l:Addr}
end
noncomputable abbrev Cx.xmq (X:Cx) (a:Addr):Cx:={ X with A:=X.A.mark (some (.ref a)),calm:=false,xe:=λ_ _=>False }
noncomputable abbrev CG (a C:Addr):HO:= .ext λh=>∃o,h.get? a=some o/\o.cls=.ref C
section
variable {H0:Hp} {s0:Shared} {T C D:Addr}
theorem aw.takeX (Y:aw X π σ H0 s0) (F:Fl X.prog X.w (cU X.stack) H0 H s0.heap s.heap a T (.ref C) .none) (os:s.os=s0.os) (bare:AllBare s.gens):
 aw (X.xmq a) π σ (upd H a (CG a C)) s:=by
 have I:=F.inv Y os bare;obtain⟨oe,e1,e2,e3,e4,e5,e6⟩:=F.there Y;have ne:∀b o,X.s₀.heap.get? b=some o->b∉X.ex->b≠a:=λb o q S z=>by
  obtain⟨o',e'⟩:=Y.base.there b o q S;rw[z,F.na] at e';cases e'
 have L:∀b u,H b=some u->b≠a:=λb u q z=>by rw[z,e3] at q;cases q
 refine⟨⟨I.ok.mod,I.ok.kind,I.ok.glob,I.ok.blt,I.ok.above,I.ok.inj,I.ok.has,I.ok.cab,λz=>(ydx z).elim,I.ok.frames,I.ok.stk,I.ok.exf,I.ok.bs,I.ok.bsz,I.ok.noex,I.ok.exfs,I.ok.funs,I.ok.frf⟩,I.os,I.bare,
  ⟨I.base.keep,I.base.slot,λb o q n S=>?_,I.base.there,λb xs q=>?_,λb o u q=>?_,λb ps q=>?_⟩,I.loc,I.cell,?_,λx c q=>?_,λp hp=>?_,λb u q=>?_,I.len⟩
 ·rw[ax (ne b o q S)];exact I.base.free b o q n S
 ·have:=I.base.tups b xs q;rw[ax (L b _ this)];exact this
 ·have:=I.base.frzs b o u q;rw[ax (L b _ this)];exact this
 ·obtain⟨m,this⟩:=I.base.tbls b ps q;exact⟨m,by rw[ax (L b _ this)];exact this⟩
 ·rw[ax (Ne.symm e4)];exact I.free
 ·have hc:c≠a:=λz=>by
   obtain⟨v,o,h1,h2⟩:=I.cell x c q;rw[z,e1] at h1;cases h1;exact e6 _ h2
  rw[ax hc];exact I.freeC x c q
 ·obtain⟨p1,p2,p3,p4,p5⟩:=I.pin p hp;have B:=(Y.pin p hp).1;have Z:p.1≠a:=λz=>by rw[z,F.na] at B;cases B
  exact⟨p1,by rw[ax Z];exact p2,p3,p4,p5⟩
 ·by_cases hb:b=a
  ·subst hb;rw[aY] at q;cases q;exact⟨⟨oe,e1,e2⟩,⟨oe,e1⟩,λh1 h2 z9 k=>(by obtain⟨o,z1,z2⟩:=z9;exact ⟨o,k o z1,z2⟩)⟩
  ·rw[ax hb] at q;exact(I.hok b u q).stay (λ_ _ _ z=>z) (λx z=>by rw[ax (L x _ z)];exact z) λx xs z=>by rw[ax (L x _ z)];exact z
theorem aw.unq (I:aw (X.xmq a) π σ H s) (B:X.calm=true->X.A.handled=none):aw X π σ H s:=
 ⟨⟨I.ok.mod,I.ok.kind,I.ok.glob,I.ok.blt,I.ok.above,I.ok.inj,I.ok.has,I.ok.cab,B,I.ok.frames,I.ok.stk,I.ok.exf,I.ok.bs,I.ok.bsz,I.ok.noex,I.ok.exfs,I.ok.funs,I.ok.frf⟩,I.os,I.bare,I.base,I.loc,I.cell,I.free,I.freeC,I.pin,I.hok,I.len⟩
theorem SP.unq {D:eX} {f:Flow} (h:SP (X.xmq a) π D f s') (L:X.calm=true->X.A.handled=none):SP X π D f s':=by
 cases f with
 | next=>obtain⟨B,H',I,q⟩:=h;exact⟨B,H',I.unq L,q⟩
 | brk=>obtain⟨B,H',I,q⟩:=h;exact⟨B,H',I.unq L,q⟩
 | cont=>obtain⟨B,H',I,q⟩:=h;exact⟨B,H',I.unq L,q⟩
 | ret u=>obtain⟨v,B,H',I,r,q⟩:=h;exact⟨v,B,H',I.unq L,r,q⟩
def vt (i:Nat) (C:Addr) (ts:WS):WS:=λd τ G=>∀a,G a=none->ts { nx:=λτ1 G1=>d.nx (τ1.set i none) G1,rt:=d.rt,bk:=λτ1 G1=>d.bk (τ1.set i none) G1,ct:=λτ1 G1=>d.ct (τ1.set i none) G1 } (τ.set i (some (.ref a))) (av G a (.exc C))
variable {bmD:yez} {p:Pos} {name:Option Str} {rest:List ExceptHandler} {b0:Stmt} {th:WS}
theorem EA (i:Nat) (hm:X.mg x=some (.ref D)) (hg:Gl X x) (hO:XO X.K C) (hD:XC X.K D bmD) (hs:mroIn X.K C (.ref D)=some true) (hN:X.N.Nodup) (hi:X.N[i]?=some n) (hl:X.env.scope.names.lookup n=some .local)
 (hb:∀a,lO (X.xmq a) (b0::body) ts) (hd:dbz x:=by decide):
 QH X C (.ExceptHandler (some (.Name x p)) (some n) (b0::body) pos::rest) (vt i C ts):=by
 rintro π s0 σ H0 s H a T D' I0 F os bare ⟨τ,G,d,rs,rg,ht,l⟩;have I:=F.inv I0 os bare;obtain⟨bm,hC⟩:=hO.c;obtain⟨oe,e1,e2,e3,e4,e5,e6⟩:=F.there I0;refine wpAny_handleBy_cons (codeAny_handlers_test (ei (X:=X.xmk a oe) (I.xmk e1 e3 e4 e5 e6) hg hm ?_ hd)) (by intro q;cases q);refine vm I.kIn hC hD e1 e2 hs ?_;refine codeAny_handlers_suite_as (F.lands I0 os bare λh' T' F'=>?_);obtain⟨ai,q1,q2,q3,q4,q5,q6⟩:=Fl.there (s:={ s with heap:=h' }) F' I0;have J:=aw.takeX (s:={ s with heap:=h' }) I0 F' os bare;have tl:aE H (upd H a (CG a C)):=aE.new q3 _;refine gG (X:=X.xmq a) (v:= .ref a) J hN hi (.inl hl) rfl (λs3 I3=>?_) (.inr hl);have ad:aV X.K (upd H a (CG a C)) (τ.set i (some (.ref a))) (σ.set i (some (.ref a))):=(rs.mono tl).set (.ref a) i;have af:aB X.K (upd H a (CG a C)) (av G a (.exc C)):=rg.lay tl ⟨hO,aY⟩;refine wpAny_mono (hb a π s3 _ _ { nx:=λB H1=>D'.nx (B.set i none) H1,rt:=D'.rt,bk:=λB H1=>D'.bk (B.set i none) H1,ct:=λB H1=>D'.ct (B.set i none) H1 } I3
  ⟨_,_,_,ad,af,ht a (rg.fresh q3),⟨λB H1 ab L t1 r1 g1 z=>l.nx _ H1 _ L (tl.trans t1) (r1.drop i) g1 z,λv H1 w L t1=>l.rt v H1 w L (tl.trans t1),λB H1 ab L t1 r1 g1 z=>l.bk _ H1 _ L (tl.trans t1) (r1.drop i) g1 z,λB H1 ab L t1 r1 g1 z=>l.ct _ H1 _ L (tl.trans t1) (r1.drop i) g1 z⟩⟩) (λf s2 z=>?_) λ_ _ z=>z.elim
 have z2:=z.unq I0.ok.hd;cases f with
 | next=>obtain⟨S,H',Z,q⟩:=z2;exact fE Z hN hi hl λs' Y=>⟨_,H',Y,q⟩
 | brk=>obtain⟨S,H',Z,q⟩:=z2;exact fE Z hN hi hl λs' Y=>⟨_,H',Y,q⟩
 | cont=>obtain⟨S,H',Z,q⟩:=z2;exact fE Z hN hi hl λs' Y=>⟨_,H',Y,q⟩
 | ret u=>obtain⟨v,S,H',Z,r,q⟩:=z2;exact fE Z hN hi hl λs' Y=>⟨v,_,H',Y,r,q⟩
theorem aw.excAt (I:aw X π σ H s) (e:H a=some (CG a C)):∃o,s.heap.get? a=some o/\o.cls=.ref C:=(I.hok a _ e).1
theorem aw.excTyG (I:aw X π σ H s) (e:H a=some (CG a C)) (M:Model):Looks M s.heap (typeOf (.ref a)) (.ref C):=by
 obtain⟨o,e,B⟩:=I.excAt e;exact B▸(PySem.W.Looks.ld e).andThen .now
def e9 (K:yav) (i:Nat) (D:Addr):WE:=λτ G q=>∃a C b,τ[i]?=some (some (.ref a))/\G a=some (.exc C)/\mroIn K C (.ref D)=some b/\q (.bl b) G
theorem AN (B:XD K D) (h:mroIn K C (.ref D)=some true):PySem.W.isIn K (.ref C) D=true:=by
 unfold PySem.W.isIn;obtain⟨S,e⟩:=B.cls;have L:PySem.W.subIn K (.ref C) (.ref D)=some true:=h;rw[e,B.ty,B.ins,L];simp
theorem cu {n y:Str} {p L pos:Pos} (hi:X.N[i]?=some n) (hv:Ck X.env.scope n) (as:X.mg y=some (.ref D)) (hD:XD X.K D) (ar:Gl X y)
 (af:X.mg "isinstance"=none) (az:Gl X "isinstance") (ad:(y==("__debug__":Str))=false:=by decide) (hd:(n==("__debug__":Str))=false:=by decide) (ab:(n==("__classdict__":Str))=false:=by decide)
 (S:starEach [.Name n L,.Name y p2] X.env=(false,eval (.Name n L) X.env)::starEach [.Name y p2] X.env:=by rfl) (aj:starEach [.Name y p2] X.env=(false,eval (.Name y p2) X.env)::starEach [] X.env:=by rfl)
 (ai:(backTo pos (starEach [.Name y p2] X.env)).any (·.1)=false:=by rfl):QE X (.Call (.Name "isinstance" p) [.Name n L,.Name y p2] [] pos) (e9 X.K i D):=by
 have a1:PE X (.Name n L) (wj i):=jm hi hv hd ab;have ha:PA X [.Name n L,.Name y p2] (jp (wj i) (jp (tC (.ref D)) pV)):=bQ a1 (bQ (lK ar as rfl ad) pa_nil aj) S;have a0:eR X (.builtin "isinstance") (λvs H Q=>∃a C b,vs=[.ref a,.ref D]/\XO X.K C/\H a=some (CG a C)/\mroIn X.K C (.ref D)=some b/\Q (.bl b) H):=by
  rintro π s σ H xs us Q I r ⟨a,C,b,e1,B,Y,hb,q⟩;subst e1;obtain⟨u,u2,rfl,ru,Z⟩:=lU r;cases (show u=Value.ref a from ru);cases (show u2=Value.ref D from Z);obtain⟨bm,hC⟩:=B.c;cases b with
  | true=>exact PySem.W.isi_call I.kIn (I.excTyG Y) (AN hD hb) (λz=>nomatch z) ⟨.bl true,H,I,rfl,q⟩
  | false=>
    obtain⟨o,e,hc⟩:=I.excAt Y;exact oh I.kIn hC B.q B.d hD hb (vq hC hb) e hc ⟨.bl false,H,I.tok _,rfl,q⟩
 exact(gH a0 az af jA ha (by decide) (by decide) S ai).imp λσ H Q z9=>by
  obtain⟨τ,G,q,hs,hg,⟨a,C,b,ht,hG,hb,hq⟩,hQ⟩:=z9
  obtain⟨v,e1,r⟩:=hs.2 i _ ht;cases r;obtain⟨B,Y⟩:=hg a _ hG;exact⟨_,e1,a,C,b,rfl,B,Y,hb,hQ _ H _ G (aE.refl H) (.bl b) hg hq⟩
def EB (i:Nat):WE:=λτ G q=>∃a C,τ[i]?=some (some (.ref a))/\G a=some (.exc C)/\q (.bl true) G
theorem xM {T:String} {n y:Str} {p B pos:Pos} (hi:X.N[i]?=some n) (hv:Ck X.env.scope n) (hT:bmV.contains (.type T)=true) (ai:PySem.W.kitMeta T=true) (S:bootBuiltins y=some (.type T)) (as:X.mg y=none) (ar:Gl X y)
 (ad:X.mg "isinstance"=none) (az:Gl X "isinstance") (hn:y≠"__name__":=by decide) (ab:(y==("__debug__":Str))=false:=by decide) (hd:(n==("__debug__":Str))=false:=by decide) (Z:(n==("__classdict__":Str))=false:=by decide)
 (L:starEach [.Name n B,.Name y p2] X.env=(false,eval (.Name n B) X.env)::starEach [.Name y p2] X.env:=by rfl) (aj:starEach [.Name y p2] X.env=(false,eval (.Name y p2) X.env)::starEach [] X.env:=by rfl)
 (af:(backTo pos (starEach [.Name y p2] X.env)).any (·.1)=false:=by rfl):QE X (.Call (.Name "isinstance" p) [.Name n B,.Name y p2] [] pos) (EB i):=by
 have a1:PE X (.Name n B) (wj i):=jm hi hv hd Z;have ha:PA X [.Name n B,.Name y p2] (jp (wj i) (jp (tC (.ty T)) pV)):=bQ a1 (bQ (sE ar as S rfl hn ab) pa_nil aj) L;have a0:eR X (.builtin "isinstance") (λvs H Q=>∃a C,vs=[.ref a,.ty T]/\XO X.K C/\H a=some (CG a C)/\Q (.bl true) H):=by
  rintro π s σ H xs us Q I r ⟨a,C,e1,hO,hH,q⟩;subst e1;obtain⟨u,u2,rfl,ru,Y⟩:=lU r;cases (show u=Value.ref a from ru);cases (show u2=Value.type T from Y);obtain⟨bm,hC⟩:=hO.c;exact xH I.kIn (I.excTyG hH) ai rfl (by show mroIn X.K C _=_;rw[hC.mro,hC.has I.kIn hT]) (λz=>nomatch z) ⟨.bl true,H,I,rfl,q⟩
 exact(gH a0 az ad jA ha (by decide) (by decide) L af).imp λσ H Q z9=>by
  obtain⟨τ,G,q,hs,hg,⟨a,C,ht,hG,hq⟩,hQ⟩:=z9
  obtain⟨v,e1,r⟩:=hs.2 i _ ht;cases r;obtain⟨hO,hH⟩:=hg a _ hG;exact⟨_,e1,a,C,rfl,hO,hH,hQ _ H _ G (aE.refl H) (.bl true) hg hq⟩
theorem aJ.bools_of:∀{bs:List Bool} {vs:List V},aJ K H (bs.map W.bl) vs->vs=bs.map V.bl
 | [],_,r=>by cases r;rfl
 | n::ns,_,r=>by
   cases r with
   | cons r B=>
     cases r;rw[aJ.bools_of B]
     rfl
theorem oj:∀{us:yez},aK (bs.map V.bl) us->LSm.BoolsAre us bs:=by
 induction bs with
 | nil=>intro us r;rw[map_nil] at r;cases r;exact .nil
 | cons n ns ih=>
   intro us r;rw[map_cons] at r;cases r with
   | @cons _ u _ _ L B=>
     cases (show u=Value.bool n from L);exact .cons n (ih B)
end
structure HF (k:Nat) (A:Around):Prop where
 dp:A.depth+3*k+5<recursionLimit
 un:A.units+16*k+200<cLine
structure OK (P:Program) (w:World) (K:yav) (mg:yew) (base:Heap) (CX:pW) (k:Nat) (f:Addr) (fd:FuncData) (ps:List Str) (sp:Sp):Prop where
 len:∀vs H Q E,sp vs H Q E->vs.length=ps.length
 run:∀(A:Around) (outer:List Env) (s:Shared) (H:Hp) (args:Args) (us:yez) (vs:List V) (Q:VK) (E:XK),HF k A->nG P w K mg base A outer s H->BindsTo s fd args (ps.zip us)->aK vs us->sp vs H Q E->
  codeAny (model P w) A (.call (.ref f) args) (CR CX outer P w H s Q E) s
section
variable {f:Addr} {sp sp':aX}
end
theorem aE.ins (B:H p=some (.ins C dx fs)) (o:HO):aE H (upd H p o):=
 ⟨λ_ _ h=>by rw[ax (iH h B (by intro z;cases z))];exact h,λ_ _ _ h=>by rw[ax (iH h B (by intro z;cases z))];exact h⟩
noncomputable def oo (f:Str) (v:W):List (Str×W)->List (Str×W)
 | []=>[(f,v)]
 | (g,x)::r=>if g=f then (g,v)::r else (g,x)::oo f v r
theorem iQ {f:Str} {w:W}:∀{fs:List (Str×W)} {fs':List (Str×V)},fs'.map (·.1)=fs.map (·.1)->aJ K H (fs.map (·.2)) (fs'.map (·.2))->fs.lookup f=some w->∃v,fs'.lookup f=some v/\bO K H w v
 | [],_,_,_,e=>by cases e
 | (g,x)::r,[],n,_,_=>by cases n
 | (g,x)::r,(g',L)::r',n,S,e=>by
   rw[map_cons,map_cons,List.cons.injEq] at n;obtain⟨B,Y⟩:=n;have B:g'=g:=B;subst B;cases S with
   | cons r1 Z=>
     rw[lookup_cons] at e ⊢;cases h:f==g' with
     | true=>rw[h] at e;cases e;exact⟨L,rfl,r1⟩
     | false=>rw[h] at e;exact iQ Y Z e
theorem dX:∀{fs:List (Str×W)} {fs':List (Str×V)},fs'.map (·.1)=fs.map (·.1)->fs.lookup f=none->fs'.lookup f=none
 | [],[],_,_=>rfl
 | [],_::_,n,_=>by cases n
 | _::_,[],n,_=>by cases n
 | (g,x)::r,(g',S)::Y,n,e=>by
   rw[map_cons,map_cons,List.cons.injEq] at n;obtain⟨B,L⟩:=n;have B:g'=g:=B;subst B;rw[lookup_cons] at e ⊢;cases h:f==g' with
   | true=>rw[h] at e;cases e
   | false=>rw[h] at e;exact dX L e
theorem oq {f:Str} {w:W} {v:V} (B:bO K H w v):∀{fs:List (Str×W)} {fs':List (Str×V)},fs'.map (·.1)=fs.map (·.1)->aJ K H (fs.map (·.2)) (fs'.map (·.2))->(dS f v fs').map (·.1)=(oo f w fs).map (·.1)/\aJ K H ((oo f w fs).map (·.2)) ((dS f v fs').map (·.2))/\(oo f w fs).length<=fs.length+1
 | [],[],_,_=>⟨rfl,.cons B .nil,ycx _⟩
 | [],_::_,n,_=>by cases n
 | _::_,[],n,_=>by cases n
 | (g,x)::r,(g',x')::r',n,rs=>by
   rw[map_cons,map_cons,List.cons.injEq] at n;obtain⟨L,S⟩:=n;have L:g'=g:=L;subst L;cases rs with
   | cons Z Y=>
     obtain⟨a1,a2,a3⟩:=oq (f:=f) B S Y;unfold dS oo
     by_cases h:g'=f
     ·rw[ycv h,ycv h];refine⟨?_,.cons B Y,by simp⟩;rw[map_cons,map_cons,S]
     ·rw[ycw h,ycw h];refine⟨?_,.cons Z a2,by simp;lia⟩;rw[map_cons,map_cons,a1]
def HG (K:yav) (to:WE) (f:Str):WE:=λτ G q=>to τ G λx G1=>∃a C fs v,x=.ref a/\G1 a=some (.ins C fs)/\(kn K C/\NoAttr K C f)/\fs.lookup f=some v/\q v G1
theorem EC (ho:QE X o to) (hb:attributeBase o f X.env (eval o X.env)=eval o X.env:=by rfl):QE X (.Attribute o f pos) (HG X.K to f):=
 (DJ ho hb).imp λσ H Q z0=>z0.el λτ G q hs hg ht hQ=>⟨τ,G,_,hs,hg,ht,λv H1 w G1 t1 r1 Y S=>by
   obtain⟨a,C,fs,v',rfl,hG,hc,hl,S⟩:=S;cases r1;obtain⟨_,dx,fs',hH,hn,hr⟩:=Y a _ hG;obtain⟨Z,L,B⟩:=iQ hn hr hl;exact⟨a,C,dx,fs',Z,rfl,hH,hc.1,hc.2,L,hQ Z H1 v' G1 t1 B Y S⟩⟩
def CH (K:yav) (to te:WE) (f:Str):WS:=λd τ G=>te τ G λy G1=>to τ G1 λx G2=>∃a C fs,x=.ref a/\G2 a=some (.ins C fs)/\(kn K C/\NoAttr K C f)/\fs.length<100/\d.nx τ (av G2 a (.ins C (oo f y fs)))
theorem ED (ho:QE X o to) (he:QE X e te) (hs:swapsWith e (some (.Attribute o f pos')) pos.line X.env=pure false:=by rfl):QS X (.Assign [.Attribute o f pos'] e pos) (CH X.K to te f):=
 (DK ho he hs).imp λD σ H z0=>z0.el λτ G d Y rg ht l=>⟨τ,G,_,Y,rg,ht,λy H1 w G1 Z r1 g1 q1=>⟨τ,G1,_,Y.mono Z,g1,q1,λv H2 w2 G2 S r2 g2 L=>by
   obtain⟨a,C,fs,rfl,hG,hc,ab,L⟩:=L;cases r2;obtain⟨_,dx,fs',hH,hn,hr⟩:=g2 a _ hG;obtain⟨a1,a2,a3⟩:=oq (f:=f) (r1.mono S) hn hr;have tl:=aE.ins hH (.ins C dx (dS f y fs'));have B:fs'.length=fs.length:=by simpa using congrArg List.length hn
   refine⟨a,C,dx,fs',rfl,hH,hc.1,hc.2,by lia,l.nx σ _ τ _ ((Z.trans S).trans tl) (((Y.mono Z).mono S).mono tl) (g2.lay (g:= .ins C (oo f w fs)) tl ⟨by lia,dx,_,aY,a1,a2.mono tl⟩) L⟩⟩⟩
def ou (C:Addr) (sp:aX) (dws:List W) (t:WA):WE:=λτ G q=>t τ G λws G1=>∀p,G1 p=none->sp (.ref p::(ws++dws)) (av G1 p (.ins C [])) (λv G2=>v=.non/\q (.ref p) G2) λ_ _=>False
theorem gJ.make {sp:aX} {dws:List W} {dvs:List V} {t:WA} {σ:St} {H:Hp} {Q:VK} {E:XK} (hd:∀H,aJ K H dws dvs) (h:gJ K (ou C sp dws t) σ H Q):wF C (xf K sp) dvs E (LA K t) σ H Q:=by
 obtain⟨τ,G,q,hs,hg,ht,hQ⟩:=h;refine⟨τ,G,_,hs,hg,ht,λvs H1 ws G1 t1 r1 g1 q1 x dx hx L S=>?_⟩;have B:upd H1 dx (.own x) x=none:=by rw[ax (Ne.symm S)];exact hx
 have tl:=(aE.new L (.own x)).trans (aE.new B (.ins C dx []));have Z:aB K (upd (upd H1 dx (.own x)) x (.ins C dx [])) (av G1 x (.ins C [])):=(g1.keep L (.own x)).lay (aE.new B _) ⟨by simp,dx,[],aY,rfl,.nil⟩;exact⟨.ref x::(ws++dws),_,_,_,.cons (.ref x) ((r1.mono tl).append (hd _)),Z,q1 x (g1.fresh hx),λv H2 w G2 t2 r2 Z Y=>by
  obtain⟨e,Y⟩:=Y;subst e;cases r2;exact⟨rfl,hQ _ H2 _ G2 ((t1.trans tl).trans t2) (.ref x) Z Y⟩,λ_ _ _ _ _ _ z=>z.elim⟩
theorem AO {f:Addr} {sp:aX} {p pos:Pos} {t:WA} (M:Mk X.K C f) (F:io X.prog X.w X.K X.mg X.base k f fd ps sp) (hr:aH (k+1) X.A) (S:Gl X x) (hm:X.mg x=some (.ref C)) (hb:bv X.K fd ps [])
 (Y:QA X (e::es) t) (L:dbz x:=by decide) (Z:seZ X e es:=by rfl) (B:plZ pos X es:=by rfl):
 QE X (.Call (.Name x p) (e::es) [] pos) (ou C sp [] t):=
 (Ai (dvs:=[]) M F hr S hm hb .nil (ju (X:=X)) Y L Z B).imp λ_ _ _ h=>gJ.make (λ_=> .nil) h
def sZ (C:Addr) (m:Str) (sp:aX) (dws:List W) (to:WE) (t:WA):WE:=λτ G q=>to τ G λx G1=>∃a fs,x=.ref a/\G1 a=some (.ins C fs)/\fs.lookup m=none/\t τ G1 λws G2=>sp (x::(ws++dws)) G2 q λ_ _=>False
theorem gJ.meth {m:Str} {sp:aX} {dws:List W} {dvs:List V} {to:WE} {t:WA} {σ:St} {H:Hp} {Q:VK} {E:XK} (hd:∀H,aJ K H dws dvs) (h:gJ K (sZ C m sp dws to t) σ H Q):wE C m (xf K sp) dvs E (gJ K to) (LA K t) σ H Q:=by
 obtain⟨τ,G,q,L,Z,ht,hQ⟩:=h;refine⟨τ,G,_,L,Z,ht,λx H1 w G1 Y r1 S B=>?_⟩;obtain⟨a,fs,rfl,hG,hl,B⟩:=B;cases r1;obtain⟨_,dx,fs',hH,hn,_⟩:=S a _ hG;refine⟨a,dx,fs',rfl,hH,dX hn hl,τ,G1,_,L.mono Y,S,B,λvs H2 ws G2 t2 r2 g2 q2=>?_⟩;exact⟨.ref a::(ws++dws),G2,q,_,.cons (.ref a) (r2.append (hd _)),g2,q2,λv H3 w3 G3 t3=>hQ v H3 w3 G3 ((Y.trans t2).trans t3),λ_ _ _ _ _ _ z=>z.elim⟩
structure Mt (P:Program) (w:World) (K:yav) (mg:yew) (base:Heap) (C:Addr) (m:Str) (ps:List Str) (k:Nat) (sp:aX) (dws:List W):Prop where
 ex:∃(f:Addr) (fd:FuncData) (ds:yez) (dvs:List V),uV K C m f/\io P w K mg base k f fd ps sp/\bv K fd ps ds/\aK dvs ds/\∀H,aJ K H dws dvs
 cl:kn K C
theorem AQ {sp:aX} {pl:Sem Bool} (ho:QE X o to) (M:Mt X.prog X.w X.K X.mg X.base C m ps k sp dws) (hr:aH k X.A) (Y:QA X (e::es) t)
 (S:seZ X e es:=by rfl) (L:plZ pos X es:=by rfl)
 (Z:eval (.Call (.Attribute o m apos) (e::es) [] pos) X.env=(do
   let ov ←eval o X.env
   standAt apos.atName
   let (f,first) ←holding [ov] (getMethod ov m pl)
   callWith pos f first (backTo pos (starEach (e::es) X.env)) (backToKw pos (keywordEach [] X.env))):=by rfl):QE X (.Call (.Attribute o m apos) (e::es) [] pos) (sZ C m sp dws to t):=by
 obtain⟨⟨f,fd,ds,dvs,hm,F,hb,hd,B⟩,c⟩:=M;exact(sF (pl:=pl) ho c hm F hr hb hd (ju (X:=X)) Y S L Z).imp λ_ _ _ h=>gJ.meth B h
theorem xN {sp:aX} {pl:Sem Bool} (ho:QE X o to) (M:Mt X.prog X.w X.K X.mg X.base C m ps k sp dws) (hr:aH k X.A)
 (L:eval (.Call (.Attribute o m apos) [] [] pos) X.env=(do
   let ov ←eval o X.env
   standAt apos.atName
   let (f,first) ←holding [ov] (getMethod ov m pl)
   callWith pos f first (backTo pos (starEach [] X.env)) (backToKw pos (keywordEach [] X.env))):=by rfl):QE X (.Call (.Attribute o m apos) [] [] pos) (sZ C m sp dws to jx):=by
 obtain⟨⟨f,fd,ds,dvs,hm,F,hb,hd,B⟩,c⟩:=M;refine(wH (pl:=pl) ho c hm F hr hb hd (ju (X:=X)) L).imp λσ H Q z0=>z0.el λτ G q hs Z L hQ=>?_;refine⟨τ,G,_,hs,Z,L,λx H1 w G1 t1 r1 Y S=>?_⟩;obtain⟨a,fs,rfl,hG,hl,S⟩:=S;cases r1;obtain⟨_,dx,fs',hH,hn,_⟩:=Y a _ hG;exact⟨a,dx,fs',rfl,hH,dX hn hl,.ref a::([]++dws),G1,q,_,.cons (.ref a) (B _),Y,S,λv H3 w3 G3 t3=>hQ v H3 w3 G3 (t1.trans t3),λ_ _ _ _ _ _ z=>z.elim⟩
def EF (to:WE):WE:=λτ G q=>to τ G λx G1=>match x with
 | .ref a=>∃ys y,G1 a=some (.lst (ys++[y]))/\q y (av G1 a (.lst ys))
 | _=>False
theorem aJ.snoc:∀{ys:List W} {y:W} {xs:List V},aJ K H (ys++[y]) xs->∃v,xs[xs.length-1]?=some v/\bO K H y v/\aJ K H ys xs.dropLast
 | [],y,xs,r=>by
   obtain⟨v,rfl,B⟩:=r.one;exact⟨v,rfl,B,.nil⟩
 | w::ys,y,_,.cons (v:=v) (vs:=vs) r rs=>by
   obtain⟨u,h1,h2,Y⟩:=aJ.snoc rs;have L:=rs.length;cases vs with
   | nil=>simp at L
   | cons Z S=>
     refine⟨u,?_,h2,?_⟩
     ·simpa using h1
     ·rw[List.dropLast_cons₂];exact .cons r Y
theorem xO (ho:QE X o to)
 (B:attributeBase o "pop" X.env (eval o X.env)=eval o X.env:=by rfl) (L:(apos.endLine==cpos.line)=true:=by rfl):QE X (.Call (.Attribute o "pop" apos) [] [] cpos) (EF to):=
 (wO PySem.F.plainAttrs_list PySem.F.slot_list_pop PySem.F.type_list_pop DS ho B L).imp λσ H Q z0=>z0.el λτ G q hs hg ht hQ=>
   ⟨τ,G,_,hs,hg,ht,λv H1 w G1 t1 r1 Z Y=>by
     split at Y
     ·rename_i a;cases r1;obtain⟨ys,y,e1,Y⟩:=Y;obtain⟨hl,S,h1,rr⟩:=Z a _ e1;obtain⟨u,hu,ru,rd⟩:=rr.snoc;refine⟨.inl ⟨rfl,S,cG.of h1⟩,a,S,u,rfl,rfl,h1,hu,?_⟩;have tl:=aE.lst h1 (.lst S.dropLast);exact hQ _ _ _ _ (t1.trans tl) (ru.mono tl) (Z.put tl rd (by simp at hl;lia)) Y
     ·exact Y.elim⟩
noncomputable def Lh:Stmt->List Stmt
 | .ClassDef _ _ _ b _ _ _ _ _ _ _=>b
 | _=>[]
def Md (K:yav) (C:Addr) (m qual:Str) (st:Stmt) (ps:List Str):Prop:=∃(f:Addr) (fd:FuncData),uV K C m f/\bf K m qual st f fd/\bv K fd ps []
def MdI (K:yav) (C:Addr) (qual:Str) (st:Stmt) (ps:List Str):Prop:=∃(f:Addr) (fd:FuncData),Mk K C f/\bf K "__init__" qual st f fd/\bv K fd ps []
section
variable {C:Addr} {m qual:Str} {sp:aX} {dws:List W}
theorem Md.mt (D:Md K C m qual st ps) (c:kn K C) (h:∀(f:Addr) (fd:FuncData),bf K m qual st f fd->io P w K mg base k f fd ps sp):Mt P w K mg base C m ps k sp []:=by
 obtain⟨f,fd,B,F,b⟩:=D;exact⟨⟨f,fd,[],[],B,h f fd F,b,.nil,λ_=> .nil⟩,c⟩
def Kk (P:Program) (w:World) (K:yav) (mg:yew) (base:Heap) (x:Str) (C:Addr) (ps:List Str) (k:Nat) (sp:aX):Prop:=∃(f:Addr) (fd:FuncData),Mk K C f/\io P w K mg base k f fd ps sp/\mg x=some (.ref C)/\bv K fd ps []
theorem MdI.new (D:MdI K C qual st ps) (B:mg x=some (.ref C)) (h:∀(f:Addr) (fd:FuncData),bf K "__init__" qual st f fd->io P w K mg base k f fd ps sp):Kk P w K mg base x C ps k sp:=by
 obtain⟨f,fd,M,F,b⟩:=D;exact⟨f,fd,M,h f fd F,B,b⟩
end
theorem EG {sp:aX} {p pos:Pos} {t:WA} (M:Kk X.prog X.w X.K X.mg X.base x C ps k sp) (hr:aH (k+1) X.A) (S:Gl X x)
 (ha:QA X (e::es) t) (L:dbz x:=by decide) (Y:seZ X e es:=by rfl) (B:plZ pos X es:=by rfl):
 QE X (.Call (.Name x p) (e::es) [] pos) (ou C sp [] t):=by
 obtain⟨f,fd,M,F,Z,b⟩:=M;exact AO M F hr S Z b ha L Y B
theorem Fx.alias (F:Fx P w K mg base x ps k sp) (h:mg y=mg x):Fx P w K mg base y ps k sp:=by
 obtain⟨f,fd,h1,h2,L,B⟩:=F;exact⟨f,fd,h1,h.trans h2,L,B⟩
theorem lnZ {α:Type} {p:List α->Prop} (h:p []) (us:List α) (e:us.length=0):p us:=by
 rw[List.eq_nil_of_length_eq_zero e];exact h
theorem lnS {α:Type} {n:Nat} {p:List α->Prop} (h:∀a,∀us:List α,us.length=n->p (a::us)) (us:List α) (e:us.length=n+1):p us:=by
 cases us with
 | nil=>exact absurd e (Nat.succ_ne_zero n).symm
 | cons a us=>exact h a us (Nat.succ.inj e)
structure Li (P:Program) (w:World) (K:yav) (mg:yew) (base:Heap) (C:Addr) (m:Str) (ps:List Str) (k:Nat) (sp:aX) (dws:List W):Prop where
 ex:∃(f:Addr) (fd:FuncData) (ds:yez) (dvs:List V),uV K C m f/\sX P w K mg base k f fd ps sp/\bv K fd ps ds/\aK dvs ds/\∀H,aJ K H dws dvs
 cl:kn K C
section
variable {p:Pos}
theorem AR {f:Addr} {sp:aX} {ex:zQ} {τ:bV} {N:V->Hp->Prop} (F:sX X.prog X.w X.K X.mg X.base k f fd ps sp) (hr:aH k X.A) (hb:bv X.K fd ps ds) (hd:aK dvs ds)
 (I:aw X π σ H s) (r:aK vs us) (h:xf X.K sp (vs++dvs) H N λc _ H2=>∀D,c=.ref D->aE H0 H2/\∃L,aV X.K H2 τ σ/\aB X.K H2 L/\ex D τ L) (hQ:∀u s',EP X π σ N u s'->Q u s'):
 wpAny (model X.prog X.w) X.A (call (.ref f) us) Q (XP X π H0 ex) s:=by
 have r2:aK (vs++dvs) (us++ds):=r.append hd;have hl:(us++ds).length=ps.length:=by rw[←r2.length];exact F.len _ _ _ _ h
 refine wpAny_call (codeAny_mono (F.run X.A X.stack s H ⟨us,[]⟩ (us++ds) (vs++dvs) _ _ hr I.env0 (hb s us I.kIn hl) r2 h) λr s' B=>?_);cases r with
 | ok fl=>
   cases fl with
   | ret u=>exact hQ u s' (I.after B)
   | next=>exact False.elim B
   | brk=>exact False.elim B
   | cont=>exact False.elim B
 | error e=>
   obtain⟨a,T,C',H',rfl,os,bare,F1,S⟩:=B;obtain⟨tl,L,Y,Z,S⟩:=S C' rfl;exact⟨a,T,C',H,s,σ,H',τ,L,rfl,I,F1,os,bare,tl,Y,Z,S⟩
theorem dI (B:Gl X y) (L:X.mg y=some (.ref D)) (S:(y==("__debug__":Str))=false:=by decide):QE X (.Name y p) (wC (.ref D)):=dU (v:= .ref D) (lK (v:= .ref D) B L rfl S) λ_=> .ref D
end
section
variable {p:Pos}
def EH:List W->Gp->WK->Prop:=λws G q=>match ws with
 | [.ref a]=>∃bs:List Bool,G a=some (.lst (bs.map W.bl))/\q (.bl (bs.all id)) G
 | _=>False
theorem HH (hc:X.calm=true):cV X (.builtin "all") EH:=by
 rintro π s σ H xs us Q I r ⟨ws,G,q,S,g,h,L⟩;unfold EH at h;split at h
 ·rename_i a;obtain⟨bs,e,h⟩:=h;obtain⟨v,rfl,r1⟩:=S.one;cases r1;obtain⟨_,zs,e1,rr⟩:=g a _ e;obtain rfl:=rr.bools_of;obtain⟨u,rfl,ru⟩:=cC r;cases (show u=Value.ref a from ru);obtain⟨B,rv,p,hz⟩:=I.list (cG.of e1);have hb:=oj rv;have Y:s.heap.IsList a B.toArray:=p.isList;have Z:a<s.heap.objs.size:=by obtain⟨_,e,_⟩:=Y;exact ybv e
  refine call_all_walk (wpAny_pyIter_list Y ?_);refine⟨s.heap.objs.size,[s.heap.objs.size,a],[s.heap.objs.size],B.toArray.size,_,_,λi=>(bs[i]?).getD true,rfl,Walks.list (A:=X.A.in1) (I.ok.hd hc) _ a (ne_of_lt Z) B.toArray,
   ⟨⟨_,ybw _ rfl,rfl,rfl⟩,Y.push _⟩,λi v s' Q' E' hP L=>?_,λh' tk hk=>?_⟩
  ·obtain⟨b,e,rfl⟩:=hb.get i v (by simpa using hP);simp only[e,Option.getD_some] at L;exact wpAny_truthy_bool L
  ·have e:((List.range B.toArray.size).all λi=>(bs[i]?).getD true)=bs.all id:=by
    rw[size_toArray,hb.length];exact LSm.range_all bs
   rw[e];exact⟨.bl _,H,I.kept (LSm.kept_iter hk),rfl,L _ H _ G (aE.refl H) (.bl _) g h⟩
 ·exact h.elim
end
section
variable {N:List Str} {qual:Str} {f:Addr} {cdv:Value} {outer:List Env} {E:XK}
def eB (C:Addr) (m:Str) (sp:aX) (dws:List W) (to:WE) (t:WA) (e:WX):WE:=λτ G q=>to τ G λx G1=>∃a fs,x=.ref a/\G1 a=some (.ins C fs)/\fs.lookup m=none/\t τ G1 λws G2=>sp (x::(ws++dws)) G2 q e
theorem cN {m:Str} {sp:aX} {dws:List W} {o L:Expr} {to:WE} {t:WA} {pos:Pos} {pl:Sem Bool} {e:WX} (ho:QE (bn (dy P w) P w K mg base N qual scope f cdv A outer s H E) o to) (M:Li P w K mg base C m ps k sp dws) (hr:aH k (A.deeper (envOfC qual scope s.heap.objs.size f cdv)))
 (hE:∀c H1 B,aE H H1->aB K H1 B->e c B->E c none H1) (ha:QA (bn (dy P w) P w K mg base N qual scope f cdv A outer s H E) (L::es) t)
 (ad:starEach (L::es) (envOfC qual scope s.heap.objs.size f cdv)=(false,eval L (envOfC qual scope s.heap.objs.size f cdv))::starEach es (envOfC qual scope s.heap.objs.size f cdv):=by rfl) (ab:(backTo pos (starEach es (envOfC qual scope s.heap.objs.size f cdv))).any (·.1)=false:=by rfl)
 (ht:eval (.Call (.Attribute o m apos) (L::es) [] pos) (envOfC qual scope s.heap.objs.size f cdv)=(do
   let ov ←eval o (envOfC qual scope s.heap.objs.size f cdv)
   standAt apos.atName
   let (fn,first) ←holding [ov] (getMethod ov m pl)
   callWith pos fn first (backTo pos (starEach (L::es) (envOfC qual scope s.heap.objs.size f cdv))) (backToKw pos (keywordEach [] (envOfC qual scope s.heap.objs.size f cdv)))):=by rfl):QE (bn (dy P w) P w K mg base N qual scope f cdv A outer s H E) (.Call (.Attribute o m apos) (L::es) [] pos) (eB C m sp dws to t e):=by
 obtain⟨⟨f1,fd,ds,dvs,hm,F,hb,hd,S⟩,c⟩:=M;refine(sF (X:=bn (dy P w) P w K mg base N qual scope f cdv A outer s H E) (E:=λc _ H1=>∃B,aB K H1 B/\e c B) (pl:=pl) ho c hm F hr hb hd (lV λC H1 Z z=>?_) ha ad ab ht).imp λσ H2 Q h=>?_
 ·obtain⟨B,Y,z1⟩:=z;exact hE _ H1 B Z Y z1
 ·obtain⟨τ,G,q,hs,hg,ht,hQ⟩:=h;refine⟨τ,G,_,hs,hg,ht,λx H1 w B Z r1 Y q1=>?_⟩;obtain⟨a,fs,rfl,hG,hl,q1⟩:=q1;cases r1;obtain⟨_,dx,fs',hH,hn,_⟩:=Y a _ hG;refine⟨a,dx,fs',rfl,hH,dX hn hl,τ,B,_,hs.mono Z,Y,q1,λvs H2 ws G2 t2 r2 g2 q2=>?_⟩;exact⟨.ref a::(ws++dws),G2,q,e,.cons (.ref a) (r2.append (S _)),g2,q2,λv H3 w3 G3 t3=>hQ v H3 w3 G3 ((Z.trans t2).trans t3),λc d H3 G3 _ g3 z=>⟨G3,g3,z⟩⟩
end
section
variable {h':Heap} {ch:List Addr}
theorem aw.turns (I:aw X π σ H s) (Y:∀c,c∈ch->iX X π H c) (S:∀c o,c∉ch->s.heap.get? c=some o->h'.get? c=some o):aw X π σ H { s with heap:=h' }:=by
 have Z:∀c u,H c=some u->c∉ch:=λc u e B=>by rw[(Y c B).1] at e;cases e
 refine I.step (g':=s.gens) (d':=s.drawn) (t':=s.toks) (ch:=ch) (λc B=>?_) (λc o _ _ B e _=>S c o B e) (λc o _ _ B e _=>⟨o.slots,S c o B e⟩) (λ_ _ _ _ n=>n) (λc o B e=>⟨o,S c o B e⟩) (λ_ _ e=>e) (λ_ _ _ e=>e) (λc ps e=>⟨#[],by rw[e];simp⟩) (λm hm=>?_) (λc u e=>?_) I.bare
 ·obtain⟨_,f1,_,f3,f4,f5⟩:=Y c B;exact⟨f3,f1,f4,f5⟩
 ·obtain⟨o,es,ep,ho,rest⟩:=hm;exact⟨o,es,ep,S _ o (λB=>(Y _ B).2.1 rfl) ho,rest⟩
 ·refine(I.hok c u e).stay (λc' v L q=>S c' v ?_ q) (λ_ q=>q) λ_ _ q=>q;rcases L with rfl | L
  ·exact Z _ _ e
  ·exact Z _ _ L
theorem aw.pair {x y:V} {Z uy:Value} (I:aw X π σ H s) (Y:∀c,c∈ch->iX X π H c) (keep:∀c o,c∉ch->s.heap.get? c=some o->h'.get? c=some o) (tn:h'.get? s.heap.objs.size=some {cls:= .type "tuple",data:= .seq #[Z,uy] }) (rx:aT x Z) (ry:aT y uy):aw X π σ (upd H s.heap.objs.size (.tup [x,y])) { s with heap:=h' }:=by
 have B:H s.heap.objs.size=none:=I.hok.fresh (ycx _);have tr:∀c u,H c=some u->c∉ch:=λc u e L=>by rw[(Y c L).1] at e;cases e
 refine I.step (g':=s.gens) (d':=s.drawn) (t':=s.toks) (ch:=ch) (λc L=>?_) (λc o _ _ L e _=>keep c o L e) (λc o _ _ L e _=>⟨o.slots,keep c o L e⟩) (λc o _ e n=>?_) (λc o L e=>⟨o,keep c o L e⟩) (λc xs e=>?_) (λc o u e=>?_) (λc ps e=>⟨#[],?_⟩) (λm hm=>?_) (λc u e=>?_) I.bare
 ·obtain⟨_,f1,_,f3,f4,f5⟩:=Y c L;exact⟨f3,f1,f4,f5⟩
 ·rw[ax (ne_of_lt (ybv e))];exact n
 ·rw[ax (aU e B)];exact e
 ·rw[ax (aU e B)];exact e
 ·rw[ax (aU e B),e];simp
 ·obtain⟨o,es,ep,ho,rest⟩:=hm;exact⟨o,es,ep,keep _ o (λL=>(Y _ L).2.1 rfl) ho,rest⟩
 ·by_cases hcs:c=s.heap.objs.size
  ·subst hcs;rw[aY] at e;cases e;exact⟨by show 2<=sizeLine;decide,[Z,uy],.cons rx (.cons ry .nil),⟨_,tn,rfl,_,rfl⟩⟩
  ·rw[ax hcs] at e;refine(I.hok c u e).stay (λc' v S q=>keep c' v ?_ q) (λc' q=>by rw[ax (aU q B)];exact q) λc' xs q=>by rw[ax (aU q B)];exact q
   rcases S with rfl | S
   ·exact tr _ _ e
   ·exact tr _ _ S
end
structure ZL (z p r i j a b:Addr) (n:Nat) (f:Value) (h:Heap):Prop where
 hz:IsZip h z p r f
 hp:IsPair h p (.ref i) (.ref j)
 hr:∃x y,IsPair h r x y
 hi:h.IsListIter i a n
 hj:h.IsListIter j b n
theorem CI {z p r i j c:Addr} (B:c∈[z,r,i,j]):c∈[z,p,r,i,j]:=by
 simp only[mem_cons,mem_nil_iff,or_false] at B ⊢;rcases B with h | h | h | h<;> simp[h]
theorem xP {z r i j c:Addr} (B:c∉[z,r,i,j]):c≠z/\c≠r/\c≠i/\c≠j:=by
 simp only[mem_cons,mem_nil_iff,or_false,not_or] at B;exact B
end _L
namespace _N
inductive O where
 | z
 | c (e:O) (n:Int) (r:O)
 deriving DecidableEq
variable {B:Int} {a:O} {d:Nat} {e:O} {l:List Nat} {n:Int} {o:O} {r:List Nat} {rest:List Nat} {t:List Nat}
namespace O
noncomputable def cmp:O->O->Int
 | z,z=>0
 | z,c _ _ _=> -1
 | c _ _ _,z=>1
 | c e n r,c e' n' r'=>
   if cmp e e'≠0 then cmp e e' else if n<n' then -1 else if n'<n then 1 else cmp r r'
noncomputable def size:O->Nat
 | z=>0
 | c e _ r=>1+size e+size r
noncomputable def dp:O->Nat
 | z=>0
 | c e _ r=>max (dp e+1) (dp r)
noncomputable def len:O->Nat
 | z=>0
 | c _ _ r=>len r+1
noncomputable def app:O->O->O
 | z,b=>b
 | c e n r,b=>c e n (app r b)
noncomputable def filt (p:O->Int->Bool):O->O
 | z=>z
 | c e n r=>if p e n then c e n (filt p r) else filt p r
noncomputable def same (x:O):O->Int
 | z=>0
 | c e n r=>if e=x then n+same x r else same x r
noncomputable def withO (a e:O) (n:Int):O:=app (filt (λx _=>decide (0<cmp x e)) a) (c e (same e a+n) (filt (λx _=>decide (cmp x e<0)) a))
noncomputable def init:O->O
 | z=>z
 | c _ _ z=>z
 | c e n r=>c e n (init r)
noncomputable def last:O->O
 | z=>z
 | c e n z=>c e n z
 | c _ _ r=>last r
theorem cmp_self:∀a:O,cmp a a=0
 | z=>rfl
 | c e n r=>by simp[cmp,cmp_self e,cmp_self r]
theorem cmp_eq:∀a b:O,cmp a b=0->a=b
 | z,z,_=>rfl
 | z,c _ _ _,h=>by simp[cmp] at h
 | c _ _ _,z,h=>by simp[cmp] at h
 | c e n r,c L B S,h=>by
   unfold cmp at h
   by_cases he:cmp e L=0
   ·rw[ycw (by simpa using he)] at h
    by_cases h1:n<B
    ·rw[ycv h1] at h;lia
    ·rw[ycw h1] at h
     by_cases h2:B<n
     ·rw[ycv h2] at h;lia
     ·rw[ycw h2] at h;have:=cmp_eq e L he;have:=cmp_eq r S h;have:n=B:=by lia
      subst_vars
      rfl
   ·rw[ycv he] at h;exact absurd h he
theorem cmp_range:∀a b:O,cmp a b= -1∨cmp a b=0∨cmp a b=1
 | z,z=>by simp[cmp]
 | z,c _ _ _=>by simp[cmp]
 | c _ _ _,z=>by simp[cmp]
 | c e n r,c B S L=>by
   have h1:=cmp_range e B;have h2:=cmp_range r L;unfold cmp;split
   ·exact h1
   ·split
    ·exact .inl rfl
    ·split
     ·exact .inr (.inr rfl)
     ·exact h2
theorem cz:∀a b:O,cmp b a= -cmp a b
 | z,z=>rfl
 | z,c _ _ _=>rfl
 | c _ _ _,z=>rfl
 | c e n r,c B S Z=>by
   have h1:=cz e B;have h2:=cz r Z;unfold cmp;rw[h1,h2]
   by_cases he:cmp e B=0
   ·rcases Int.lt_trichotomy n S with k | k | k
    ·have L:¬S<n:=by lia
     simp[he,k,L]
    ·subst k;simp[he]
    ·have L:¬n<S:=by lia
     simp[he,k,L]
   ·have Y:¬-cmp e B=0:=by lia
    simp[he,Y]
theorem dY:∀a b d:O,cmp a b<0->cmp b d<0->cmp a d<0
 | z,z,_,h,_=>by simp[cmp] at h
 | z,c _ _ _,z,_,h=>by simp[cmp] at h
 | z,c _ _ _,c _ _ _,_,_=>by simp[cmp]
 | c _ _ _,z,_,h,_=>by simp[cmp] at h
 | c _ _ _,c _ _ _,z,_,h=>by simp[cmp] at h
 | c e n r,c B L r',c f m t,h1,h2=>by
   have Y:=dY e B f;have S:=dY r r' t;have r1:=cmp_range e B;have r2:=cmp_range B f;unfold cmp at h1 h2 ⊢
   by_cases k1:cmp e B=0
   ·have Z:=cmp_eq e B k1;subst Z;rw[ycw (by lia)] at h1
    by_cases k2:cmp e f=0
    ·rw[ycw (by lia)] at h2 ⊢
     by_cases a1:n<L
     ·by_cases a2:L<m
      ·rw[ycv (by lia)];lia
      ·rw[ycw a2] at h2
       by_cases a3:m<L
       ·rw[ycv a3] at h2;lia
       ·rw[ycv (by lia)];lia
     ·rw[ycw a1] at h1
      by_cases a2:L<n
      ·rw[ycv a2] at h1;lia
      ·rw[ycw a2] at h1
       by_cases a3:L<m
       ·rw[ycv (by lia)];lia
       ·rw[ycw a3] at h2
        by_cases a4:m<L
        ·rw[ycv a4] at h2;lia
        ·rw[ycw a4] at h2;rw[ycw (by lia),ycw (by lia)];exact S h1 h2
    ·rw[ycv k2] at h2 ⊢;exact h2
   ·rw[ycv k1] at h1
    by_cases k2:cmp B f=0
    ·have e2:=cmp_eq B f k2;subst e2;rw[ycv k1];exact h1
    ·rw[ycv k2] at h2;have:=Y h1 h2;rw[ycv (by lia)];exact this
theorem dp_le_size:∀a:O,dp a<=size a
 | z=>ycx _
 | c e n r=>by
   have:=dp_le_size e;have:=dp_le_size r;simp only[dp,size];lia
theorem len_le_size:∀a:O,len a<=size a
 | z=>ycx _
 | c e n r=>by
   have:=len_le_size r;simp only[len,size];lia
theorem fe:∀a b:O,size (app a b)=size a+size b
 | z,b=>by simp[app,size]
 | c e n r,b=>by simp[app,size,fe r b];lia
theorem iu (p:O->Int->Bool):∀a:O,size (filt p a)<=size a
 | z=>ycx _
 | c e n r=>by
   have:=iu p r;unfold filt;split<;> simp only[size]<;> lia
theorem size_init:∀a:O,size (init a)<=size a
 | z=>ycx _
 | c _ _ z=>by simp[init,size]
 | c e n (c B S L)=>by
   have h:=size_init (c B S L);have Y:init (c e n (c B S L))=c e n (init (c B S L)):=by simp[init]
   rw[Y];simp only[size] at h ⊢;lia
theorem size_last:∀a:O,size (last a)<=size a
 | z=>ycx _
 | c _ _ z=>by simp[last]
 | c e n (c B S L)=>by
   have h:=size_last (c B S L);have Y:last (c e n (c B S L))=last (c B S L):=by simp[last]
   rw[Y];simp only[size] at h ⊢;lia
def Lt (e:O):O->Prop
 | z=>True
 | c x _ r=>cmp x e<0/\Lt e r
def NF:O->Prop
 | z=>True
 | c e n r=>NF e/\1<=n/\Lt e r/\NF r
theorem Lt.app:∀{a b:O},Lt e a->Lt e b->Lt e (app a b)
 | z,_,_,h=>h
 | c _ _ _,_,h1,h2=>⟨h1.1,Lt.app h1.2 h2⟩
theorem Lt.filt (p:O->Int->Bool):∀{a:O},Lt e a->Lt e (O.filt p a)
 | z,_=>trivial
 | c _ _ _,h=>by
   unfold O.filt;split
   ·exact⟨h.1,Lt.filt p h.2⟩
   ·exact Lt.filt p h.2
theorem Lt.of_filt {e x:O} (B:0<cmp x e):∀{a:O},Lt x (O.filt (λy _=>decide (cmp y e<0)) a)
 | z=>trivial
 | c y n r=>by
   unfold O.filt;split
   ·rename_i h;have h':cmp y e<0:=by simpa using h
    have L:=cz x e;exact⟨dY y e x h' (by lia),Lt.of_filt B⟩
   ·exact Lt.of_filt B
theorem Lt.below (e:O):∀{a:O},Lt e (O.filt (λy _=>decide (cmp y e<0)) a)
 | z=>trivial
 | c y n r=>by
   unfold O.filt;split
   ·rename_i h;exact⟨by simpa using h,Lt.below e⟩
   ·exact Lt.below e
theorem NF.filt (p:O->Int->Bool):∀{a:O},NF a->NF (O.filt p a)
 | z,_=>trivial
 | c _ _ _,h=>by
   unfold O.filt;split
   ·exact⟨h.1,h.2.1,h.2.2.1.filt p,NF.filt p h.2.2.2⟩
   ·exact NF.filt p h.2.2.2
theorem same_nonneg (x:O):∀{a:O},NF a->0<=same x a
 | z,_=>by simp[same]
 | c e n r,h=>by
   have h1:=h.2.1;have h2:=same_nonneg x h.2.2.2;unfold same;split<;> lia
theorem NF.join (L:NF e) (Y:1<=n) (hb:NF b) (Z:Lt e b) (S:∀x,0<cmp x e->Lt x b):∀{a:O},NF a->NF (O.app (O.filt (λx _=>decide (0<cmp x e)) a) (c e n b))
 | z,_=>⟨L,Y,Z,hb⟩
 | c x k r,h=>by
   unfold O.filt;split
   ·rename_i hp;have B:0<cmp x e:=by simpa using hp
    have hs:=cz x e;exact⟨h.1,h.2.1,Lt.app (h.2.2.1.filt _) ⟨by lia,S x B⟩,NF.join L Y hb Z S h.2.2.2⟩
   ·exact NF.join L Y hb Z S h.2.2.2
theorem NF.withO (B:NF a) (S:NF e) (Y:1<=n):NF (O.withO a e n):=by
 have:=same_nonneg e B;exact NF.join S (by lia) (B.filt _) (Lt.below e) (λx L=>Lt.of_filt L) B
theorem Lt.init:∀{a:O},Lt e a->Lt e (O.init a)
 | z,_=>trivial
 | c _ _ z,_=>trivial
 | c x n (c B S L),h=>by
   have Y:O.init (c x n (c B S L))=c x n (O.init (c B S L)):=by simp[O.init]
   rw[Y];exact⟨h.1,Lt.init h.2⟩
theorem NF.init:∀{a:O},NF a->NF (O.init a)
 | z,_=>trivial
 | c _ _ z,_=>trivial
 | c x n (c B S L),h=>by
   have Y:O.init (c x n (c B S L))=c x n (O.init (c B S L)):=by simp[O.init]
   rw[Y];exact⟨h.1,h.2.1,h.2.2.1.init,NF.init h.2.2.2⟩
theorem NF.last:∀{a:O},NF a->NF (O.last a)
 | z,_=>trivial
 | c _ _ z,h=>⟨h.1,h.2.1,trivial,trivial⟩
 | c x n (c B S L),h=>by
   have Y:O.last (c x n (c B S L))=O.last (c B S L):=by simp[O.last]
   rw[Y];exact NF.last h.2.2.2
end O
namespace O
theorem ow (a:O):¬cmp a a<0:=by rw[cmp_self];lia
theorem same_eq (e:O) (n:Int) (r:O):same e (c e n r)=n+same e r:=by simp[same]
theorem same_ne {x:O} (h:e≠x) (n:Int) (r:O):same x (c e n r)=same x r:=by simp[same,h]
theorem gh {e x:O} (B:¬cmp x e<0):∀{r:O},Lt e r->same x r=0
 | z,_=>rfl
 | c y n t,h=>by
   have L:y≠x:=λk=>B (k▸h.1);rw[same_ne L];exact gh B h.2
theorem same_self {r:O} (h:Lt e r):same e (c e n r)=n:=by
 rw[same_eq,gh (ow e) h];lia
noncomputable def plusO:O->O->O
 | a,z=>a
 | a,c e n r=>app (filt (λx _=>decide (0<cmp x e)) a) (c e (same e a+n) r)
theorem NF.join' (L:NF e) (Y:1<=n) (hb:NF b) (B:Lt e b) (S:NF a):NF (O.app (O.filt (λx _=>decide (0<cmp x e)) a) (c e n b)):=by
 refine NF.join L Y hb B (λx Z=>?_) S;have:∀{b:O},Lt e b->Lt x b:=by
  intro b
  induction b with
  | z=>exact λ_=>trivial
  | c y m t _ ih=>exact λh=>⟨dY y e x h.1 (by have:=cz x e;lia),ih h.2⟩
 exact this B
theorem NF.plus (B:NF a) (hb:NF b):NF (plusO a b):=by
 cases b with
 | z=>exact B
 | c e n r=>
   have:=same_nonneg e B;exact NF.join' hb.1 (by have:=hb.2.1;lia) hb.2.2.2 hb.2.2.1 B
end O
namespace O
end O
namespace O
noncomputable def getP:O->Nat->Option (O×Int)
 | z,_=>none
 | c e n _,0=>some (e,n)
 | c _ _ r,i+1=>getP r i
noncomputable def dropO:Nat->O->O
 | 0,a=>a
 | _+1,z=>z
 | i+1,c _ _ r=>dropO i r
theorem getP_none:∀{a:O} {i:Nat},getP a i=none↔a.len<=i
 | z,i=>by simp[getP,len]
 | c e n r,0=>by simp[getP,len]
 | c e n r,i+1=>by
   have:=getP_none (a:=r) (i:=i);simp only[getP,len,this];lia
theorem getP_some (h:i<a.len):∃e n,getP a i=some (e,n):=by
 cases k:getP a i with
 | none=>rw[getP_none] at k;lia
 | some p=>exact⟨p.1,p.2,rfl⟩
theorem getP_size:∀{a:O} {i:Nat} {e:O} {n:Int},getP a i=some (e,n)->e.size<a.size/\e.dp<a.dp
 | z,_,_,_,h=>by simp[getP] at h
 | c e n r,0,_,_,h=>by simp[getP] at h;obtain⟨rfl,rfl⟩:=h;simp only[size,dp];exact⟨by lia,ydw (lt_succ_self _) (le_max_left _ _)⟩
 | c e n r,i+1,x,m,h=>by
   have:=getP_size (a:=r) (i:=i) (e:=x) (n:=m) (by simpa[getP] using h);simp only[size,dp];exact⟨by lia,ydw this.2 (le_max_right _ _)⟩
theorem tf:∀{a:O} {i:Nat} {e:O} {n:Int},NF a->getP a i=some (e,n)->NF e/\1<=n
 | z,_,_,_,_,h=>by simp[getP] at h
 | c e n r,0,_,_,B,h=>by simp[getP] at h;obtain⟨rfl,rfl⟩:=h;exact⟨B.1,B.2.1⟩
 | c e n r,i+1,x,m,B,h=>tf (a:=r) (i:=i) B.2.2.2 (by simpa[getP] using h)
noncomputable def stay (e a:O):Nat:=(filt (λx _=>decide (0<cmp x e)) a).len
theorem cZ (h:¬0<cmp y e):∀{r:O},Lt y r->filt (λx _=>decide (0<cmp x e)) r=z
 | z,_=>rfl
 | c x n t,k=>by
   have B:¬0<cmp x e:=λq=>by
    have h1:=cz x e;have h2:=dY e x y (by lia) k.1;have L:=cz e y;lia
   unfold filt;rw[ycw (by simpa using B)];exact cZ h k.2
theorem filt_c (p:O->Int->Bool) (e:O) (n:Int) (r:O):filt p (c e n r)=if p e n then c e n (filt p r) else filt p r:=rfl
theorem eE {y:O} {r:O} (h:0<cmp y e):stay e (c y n r)=stay e r+1:=by
 unfold stay;rw[filt_c,ycv (by simpa using h)]
 rfl
theorem eF {y:O} {r:O} (h:¬0<cmp y e) (hr:Lt y r):stay e (c y n r)=0:=by
 unfold stay;rw[filt_c,ycw (by simpa using h),cZ h hr]
 rfl
theorem stay_le {e:O}:∀{a:O},stay e a<=a.len
 | z=>ycx _
 | c y n r=>by
   have:=stay_le (e:=e) (a:=r);unfold stay at this ⊢;unfold filt;split<;> simp only[len]<;> lia
theorem above_iff {e:O}:∀{a:O} {i:Nat} {x:O} {n:Int},NF a->getP a i=some (x,n)->(0<cmp x e↔i<stay e a)
 | z,_,_,_,_,h=>by simp[getP] at h
 | c y m r,0,x,n,B,h=>by
   simp[getP] at h;obtain⟨rfl,rfl⟩:=h
   by_cases k:0<cmp y e
   ·rw[eE k];exact⟨λ_=>by lia,λ_=>k⟩
   ·rw[eF k B.2.2.1];exact⟨λq=>absurd q k,λq=>by lia⟩
 | c y m r,i+1,x,n,B,h=>by
   have h':getP r i=some (x,n):=by simpa[getP] using h
   have ih:=above_iff (e:=e) B.2.2.2 h'
   by_cases k:0<cmp y e
   ·rw[eE k,ih];lia
   ·rw[eF k B.2.2.1];constructor
    ·intro q;have L:stay e r=0:=by unfold stay;rw[cZ k B.2.2.1];rfl
     have:=ih.mp q;lia
    ·intro q;lia
theorem same_stay:∀{a:O},NF a->same e a=match getP a (stay e a) with | some (x,m)=>if x=e then m else 0 | none=>0
 | z,_=>rfl
 | c y n r,B=>by
   by_cases k:0<cmp y e
   ·have L:y≠e:=λq=>by subst q;rw[cmp_self] at k;lia
    rw[eE k,same_ne L,same_stay B.2.2.2]
    rfl
   ·rw[eF k B.2.2.1];show _=if y=e then n else 0
    by_cases q:y=e
    ·subst q;rw[ycv rfl,same_self B.2.2.1]
    ·rw[ycw q,same_ne q];refine gh (λS=>?_) B.2.2.1;have h1:=cz e y;lia
noncomputable def takeO:Nat->O->O
 | 0,_=>z
 | _+1,z=>z
 | i+1,c e n r=>c e n (takeO i r)
theorem take_stay:∀{a:O},NF a->takeO (stay e a) a=filt (λx _=>decide (0<cmp x e)) a
 | z,_=>rfl
 | c y n r,B=>by
   by_cases k:0<cmp y e
   ·rw[eE k,filt_c,ycv (by simpa using k),takeO,take_stay B.2.2.2]
   ·rw[eF k B.2.2.1,filt_c,ycw (by simpa using k),cZ k B.2.2.1]
    rfl
theorem size_with (a e:O) (n:Int):(withO a e n).size<=2*a.size+e.size+1:=by
 unfold withO;rw[fe];have h1:=iu (λx _=>decide (0<cmp x e)) a;have h2:=iu (λx _=>decide (cmp x e<0)) a;simp only[size];lia
end O
namespace O
noncomputable def mx:O->Int
 | z=>0
 | c e n r=>max n (max (mx e) (mx r))
theorem mx_c (e:O) (n:Int) (r:O):mx (c e n r)=max n (max (mx e) (mx r)):=rfl
theorem mx_hn {r:O}:n<=mx (c e n r):=Int.le_max_left _ _
theorem mx_he {r:O}:mx e<=mx (c e n r):=ydv (Int.le_max_left _ _) (Int.le_max_right _ _)
theorem mx_hr {r:O}:mx r<=mx (c e n r):=ydv (Int.le_max_right _ _) (Int.le_max_right _ _)
theorem mx_hle {r:O} (h1:n<=B) (h2:mx e<=B) (L:mx r<=B):mx (c e n r)<=B:=Int.max_le.mpr ⟨h1,Int.max_le.mpr ⟨h2,L⟩⟩
theorem mx_nonneg:∀a:O,0<=mx a
 | z=>Int.le_refl _
 | c _ _ r=>ydv (mx_nonneg r) mx_hr
theorem jD:∀a b:O,mx (app a b)=max (mx a) (mx b)
 | z,b=>(Int.max_eq_right (mx_nonneg b)).symm
 | c e n r,b=>by
   show mx (c e n (app r b))=_;rw[mx_c,jD r b,mx_c,Int.max_assoc,Int.max_assoc]
theorem lZ (p:O->Int->Bool):∀a:O,mx (filt p a)<=mx a
 | z=>Int.le_refl _
 | c e n r=>by
   have:=lZ p r;rw[filt_c];split
   ·exact mx_hle mx_hn mx_he (ydv this mx_hr)
   ·exact ydv this mx_hr
theorem same_le_mx (x:O):∀{a:O},NF a->same x a<=mx a
 | z,_=>Int.le_refl _
 | c e n r,h=>by
   have h1:=same_le_mx x h.2.2.2;rw[mx_c]
   by_cases k:e=x
   ·subst k;rw[same_self h.2.2.1];lia
   ·rw[same_ne k];exact ydv h1 (ydv (Int.le_max_right _ _) (Int.le_max_right _ _))
theorem AS (L:NF a):mx (withO a e n)<=max (mx a+max n 0) (mx e):=by
 unfold withO;have h1:=lZ (λx _=>decide (0<cmp x e)) a;have h2:=lZ (λx _=>decide (cmp x e<0)) a;have B:=same_le_mx e L;have k2:∀{x:Int},x<=mx a->x<=max (mx a+max n 0) (mx e):=λh=>ydv (ydv h (Int.le_add_of_nonneg_right (Int.le_max_right _ _))) (Int.le_max_left _ _);rw[jD,mx_c];exact Int.max_le.mpr ⟨k2 h1,Int.max_le.mpr ⟨ydv (Int.add_le_add B (Int.le_max_left _ _)) (Int.le_max_left _ _),Int.max_le.mpr ⟨Int.le_max_right _ _,k2 h2⟩⟩⟩
theorem tj:∀a:O,mx (init a)<=mx a
 | z=>Int.le_refl _
 | c _ _ z=>by simp only[init];exact mx_nonneg _
 | c e n (c B S L)=>by
   have h:=tj (c B S L);have Y:init (c e n (c B S L))=c e n (init (c B S L)):=by simp[init]
   rw[Y,mx_c,mx_c e];exact Int.max_le.mpr ⟨Int.le_max_left _ _,Int.max_le.mpr ⟨ydv (Int.le_max_left _ _) (Int.le_max_right _ _),ydv h (ydv (Int.le_max_right _ _) (Int.le_max_right _ _))⟩⟩
theorem tq:∀a:O,mx (last a)<=mx a
 | z=>Int.le_refl _
 | c _ _ z=>by simp[last]
 | c e n (c B S L)=>by
   have h:=tq (c B S L);have Y:last (c e n (c B S L))=last (c B S L):=by simp[last]
   rw[Y,mx_c e];exact ydv h (ydv (Int.le_max_right _ _) (Int.le_max_right _ _))
theorem tu:∀{a:O} {i:Nat} {e:O} {n:Int},getP a i=some (e,n)->mx e<=mx a/\n<=mx a
 | z,_,_,_,h=>by simp[getP] at h
 | c e n r,0,_,_,h=>by simp[getP] at h;obtain⟨rfl,rfl⟩:=h;rw[mx_c];exact⟨ydv (Int.le_max_left _ _) (Int.le_max_right _ _),Int.le_max_left _ _⟩
 | c e n r,i+1,x,m,h=>by
   have:=tu (a:=r) (i:=i) (e:=x) (n:=m) (by simpa[getP] using h);rw[mx_c];exact⟨ydv this.1 (ydv (Int.le_max_right _ _) (Int.le_max_right _ _)),ydv this.2 (ydv (Int.le_max_right _ _) (Int.le_max_right _ _))⟩
theorem jE:∀a b:O,dp (app a b)=max (dp a) (dp b)
 | z,b=>(Nat.zero_max _).symm
 | c e n r,b=>by
   show dp (c e n (app r b))=_;simp only[dp,jE r b];rw[Nat.max_assoc]
theorem dp_filt (p:O->Int->Bool):∀a:O,dp (filt p a)<=dp a
 | z=>ycx _
 | c e n r=>by
   have:=dp_filt p r;rw[filt_c];split<;> simp only[dp]
   ·exact max_le.mpr ⟨le_max_left _ _,ycy this (le_max_right _ _)⟩
   ·exact ycy this (le_max_right _ _)
theorem dp_with (a e:O) (n:Int):dp (withO a e n)<=max (dp a) (dp e+1):=by
 unfold withO;have h1:=dp_filt (λx _=>decide (0<cmp x e)) a;have h2:=dp_filt (λx _=>decide (cmp x e<0)) a;rw[jE];simp only[dp];exact max_le.mpr ⟨ycy h1 (le_max_left _ _),max_le.mpr ⟨le_max_right _ _,ycy h2 (le_max_left _ _)⟩⟩
structure Good (B:Int) (o:O):Prop where
 nf:NF o
 sz:o.size<=24
 mx:O.mx o<=B
theorem Good.dp (h:Good B o):o.dp<=24:=ycy (dp_le_size o) h.sz
theorem Good.mono (h:Good B o) (k:B<=L):Good L o:=⟨h.nf,h.sz,ydv h.mx k⟩
theorem Good.init (h:Good B o):Good B (O.init o):=⟨h.nf.init,ycy (size_init o) h.sz,ydv (tj o) h.mx⟩
theorem Good.last (h:Good B o):Good B (O.last o):=⟨h.nf.last,ycy (size_last o) h.sz,ydv (tq o) h.mx⟩
theorem Good.whole (h1:1<=n) (h2:n<=B):Good B (c z n z):=⟨⟨trivial,h1,trivial,trivial⟩,by simp[size],by rw[mx_c];show max n (max 0 0)<=B;lia⟩
theorem Good.part (h:Good B o) (k:getP o i=some (e,n)):Good B e/\1<=n/\n<=B:=by
 have h1:=getP_size k;have h2:=tf h.nf k;have L:=tu k;have:=h.mx;have:=h.sz;exact⟨⟨h2.1,by lia,by lia⟩,h2.2,by lia⟩
theorem Good.with (h:Good B o) (L:Good B e) (S:1<=n) (Y:(withO o e n).size<=24):Good (B+n) (withO o e n):=
 ⟨h.nf.withO L.nf S,Y,ydv (AS h.nf) (Int.max_le.mpr ⟨Int.add_le_add h.mx (Int.max_le.mpr ⟨Int.le_refl _,by lia⟩),ydv L.mx (by lia)⟩)⟩
end O
namespace O
theorem EI:∀a:O,plusO z a=a
 | z=>rfl
 | c e n r=>by
   simp[plusO,filt,app,same]
theorem plus_c (a e:O) (n:Int) (r:O):plusO a (c e n r)=app (filt (λx _=>decide (0<cmp x e)) a) (c e (same e a+n) r):=rfl
noncomputable def xQ:O->O->O
 | a,z=>a
 | z,_=>z
 | c e n r,c e' n' r'=>if e=e' then (if n=n' then xQ r r' else c e (n-n') r) else c e n r
noncomputable def mulP (e:O) (n:Int) (r:O):O->O
 | z=>z
 | c f d t=>if f=z then c e (n*d) r else c (plusO e f) d (mulP e n r t)
noncomputable def timesO:O->O->O
 | z,_=>z
 | c e n r,b=>mulP e n r b
theorem mulP_c (e:O) (n:Int) (r f:O) (d:Int) (t:O):mulP e n r (c f d t)=if f=z then c e (n*d) r else c (plusO e f) d (mulP e n r t):=rfl
theorem Lt_z {t:O} (h:Lt z t):t=z:=by
 cases t with
 | z=>rfl
 | c x _ _=>
   have:=h.1;cases x<;> simp[cmp] at this
section
variable {e:O} {n:Int} {r:O}
end
end O
namespace O
section
variable {e:O} {n:Int} {r:O}
end
theorem one_mul:∀{a:O},NF a->mulP z 1 z a=a
 | z,_=>rfl
 | c f k t,h=>by
   rw[mulP_c]
   by_cases q:f=z
   ·subst q;rw[ycv rfl,Lt_z h.2.2.1,Int.one_mul]
   ·rw[ycw q,EI,one_mul h.2.2.2]
theorem one_times (h:NF a):timesO (c z 1 z) a=a:=one_mul h
end O
namespace O
end O
namespace O
noncomputable def hw:O->Nat
 | z=>0
 | c e _ r=>max (len r+1) (max (hw e) (hw r))
theorem hw_c (e:O) (n:Int) (r:O):hw (c e n r)=max (len r+1) (max (hw e) (hw r)):=rfl
theorem len_le_hw:∀a:O,len a<=hw a
 | z=>ycx _
 | c e n r=>by rw[hw_c];simp only[len];lia
theorem hw_le_size:∀a:O,hw a<=size a
 | z=>ycx _
 | c e n r=>by
   have h1:=hw_le_size e;have h2:=hw_le_size r;have B:=len_le_size r;rw[hw_c];simp only[size];exact max_le.mpr ⟨by lia,max_le.mpr ⟨by lia,by lia⟩⟩
theorem kR (p:O->Int->Bool):∀a:O,(a.filt p).len<=a.len
 | z=>ycx _
 | c e n r=>by
   have:=kR p r;rw[filt_c];split<;> simp only[len]<;> lia
theorem hw_filt (p:O->Int->Bool):∀a:O,hw (filt p a)<=hw a
 | z=>ycx _
 | c e n r=>by
   have ih:=hw_filt p r;have h:=kR p r;rw[filt_c];split
   ·rw[hw_c,hw_c];exact max_le.mpr ⟨ycy (Nat.succ_le_succ h) (le_max_left _ _),ycy (max_le.mpr ⟨le_max_left _ _,ycy ih (le_max_right _ _)⟩) (le_max_right _ _)⟩
   ·exact ycy ih (ycy (le_max_right _ _) (le_max_right _ _))
end O
namespace O
noncomputable def ff:O->O
 | z=>z
 | c e n z=>if n=1 then z else c e (n-1) z
 | c e n (c e' n' r')=>c e n (ff (c e' n' r'))
noncomputable def cv:O->O
 | z=>z
 | c e _ z=>e
 | c _ _ (c e' n' r')=>cv (c e' n' r')
theorem CJ:∀a:O,app a z=a
 | z=>rfl
 | c e n r=>by show c e n (app r z)=_;rw[CJ r]
def NA (a:O):Prop:=a≠z/\same z a=0
inductive FY:O->Int->O->Prop where
 | suc {a:O} {n:Int} (h0:a≠z) (h:cv a=z):FY a n (ff a)
 | lim {a:O} {n:Int} {o:O} (h0:a≠z) (h:NA (cv a)) (k:FY (cv a) n o):FY a n (app (ff a) (c o 1 z))
 | one {a:O} {n:Int} (h0:a≠z) (h:cv a≠z) (h':¬NA (cv a)):FY a n (app (ff a) (if n=0 then z else c (ff (cv a)) n z))
end O
namespace O
end O
namespace O
structure Rg (a b:O) (n:Int):Prop where
 pos:0<=n
 pass:∀o,FY a n o->cmp b o<0
 least:0<n->∀o,FY a (n-1) o->¬cmp b o<0
end O
namespace O
end O
namespace O
end O
namespace O
noncomputable def wh (m:Int):O:=if m=0 then z else c z m z
theorem wh_pos (h:0<m):wh m=c z m z:=by unfold wh;rw[ycw (by lia)]
theorem times_wh {r:O} {m:Int} (h:0<m):timesO (c e n r) (wh m)=c e (n*m) r:=by
 rw[wh_pos h];show mulP e n r (c z m z)=_;rw[mulP_c,ycv rfl]
end O
namespace O
noncomputable abbrev one:O:=c z 1 z
theorem NF.one:NF one:=⟨trivial,by lia,trivial,trivial⟩
noncomputable def HI:O->O
 | z=>z
 | c f d t=>c (xQ f one) d (HI t)
noncomputable def HJ (a:O):Nat->O
 | 0=>one
 | n+1=>timesO (HJ a n) a
noncomputable def Lj (e L:O):O:=if e=z then c (HI L) 1 z else c (timesO e L) 1 z
noncomputable abbrev lim (b:O):O:=filt (λy _=>decide (¬y=z)) b
noncomputable def HK (a e b:O):O:=timesO (Lj e (lim b)) (HJ a (same z b).toNat)
noncomputable def Lk (a b:O):O:=
 if b=z then one else if a=one then a else match a with
 | z=>z
 | c e n z=>if e=z then HK (c e n z) e b else c (timesO e b) (if 0<same z b then n else 1) z
 | c e n r=>HK (c e n r) e b
end O
namespace O
section
variable {x:O} {n m:Int}
end
end O
namespace O
noncomputable abbrev w1:O:=c one 1 z
end O
namespace O
end O
namespace O
noncomputable def ot:O->Int
 | z=>0
 | c _ n r=>max n (ot r)
end O
namespace O
end O
namespace O
noncomputable def val (b:Nat):O->Nat
 | z=>0
 | c e n r=>n.toNat*b^val b e+val b r
structure Wr (b:Nat) (a:O):Prop where
 nf:NF a
 mx:O.mx a<b
end O
namespace O
theorem toe_step (B n p:Nat):B^ (n/2^p)=if n/2^p%2=1 then B^ (n/2^ (p+1))*B^ (n/2^ (p+1))*B else B^ (n/2^ (p+1))*B^ (n/2^ (p+1)):=by
 have e:n/2^ (p+1)=n/2^p/2:=by rw[Nat.pow_succ,Nat.div_div_eq_div_mul]
 rw[e];generalize n/2^p=x;have h:=Nat.div_add_mod x 2;split
 ·rename_i h1;rw[←Nat.pow_add,←Nat.pow_succ]
  congr 1
  lia
 ·rename_i h1;rw[←Nat.pow_add]
  congr 1
  lia
theorem toe_le {B n p:Nat} (L:2<=B):B^ (n/2^p)<=B^n:=Nat.pow_le_pow_right (by lia) (Nat.div_le_self _ _)
theorem rE {B n:Nat} (L:2<=B):2^n<=B^n:=Nat.pow_le_pow_left L n
noncomputable def tp (b:Nat):O->Nat
 | z=>0
 | c e _ _=>val b e+1
theorem lt_pow2 {b n:Nat} (hb:2<=b):n<b^n:=ydw Nat.lt_two_pow_self (rE hb)
end O
namespace O
open Classical in
noncomputable def rep (b s:Nat):O:=if h:∃o,Wr b o/\val b o=s then choose h else z
noncomputable def tl (b:Nat):Nat->O
 | 0=>z
 | s+1=>c (rep b s) ((b:Int)-1) (tl b s)
noncomputable def dn (b:Nat) (a:O):O:=app (ff a) (tl b (val b (cv a)))
end O
namespace O
inductive Wy (b:Nat):O->Prop where
 | z:Wy b z
 | c {a:O} (h0:a≠O.z) (nf:NF a) (w:Wr b (ff a)) (k:Wy b (cv a)):Wy b a
end O
namespace O
end O
namespace O
noncomputable def xb (b:Nat):Nat:=if b*b<=55 then b else 54/b+1
noncomputable def Ll (b:Nat):O:=if b<56 then c (c z 1 z) (xb b:Int) z else c z 55 z
structure Rw (b k:Nat) (a:O):Prop where
 wr:Wr (b+k) a
 aG:Lt (Ll b) a
 tp:O.tp (b+k) a<=200
end O
namespace O
structure Hi (b:Nat) (a p e:O) (n:Int):Prop where
 app:a=O.app p (c e n z)
 wp:Wr b p
 we:Wr b e
 n1:1<=n
 n2:n<b
 last:cv a=e
 div:∃q,val b p=q*b^ (val b e+1)
 lt:p≠z->cmp e (cv p)<0
 dp:p.dp<=a.dp
 de:e.dp<a.dp
 aG:∀x,Lt x a->Lt x p
end O
namespace O
end O
inductive Tr where
 | z
 | c (b r:Tr)
namespace Tr
noncomputable def pts:Tr->Nat
 | z=>1
 | c b r=>pts b+pts r
noncomputable def dp:Tr->Nat
 | z=>0
 | c b r=>max (dp b+1) (dp r)
noncomputable def len:Tr->Nat
 | z=>0
 | c _ r=>len r+1
theorem pts_pos:∀t:Tr,1<=pts t
 | z=>ycx _
 | c b r=>by have:=pts_pos r;show 1<=pts b+pts r;lia
theorem len_pts:∀t:Tr,len t+1<=pts t
 | z=>ycx _
 | c b r=>by
   have:=pts_pos b;have:=len_pts r;show len r+1+1<=pts b+pts r;lia
noncomputable def sm (f:Nat->Nat):Nat->Nat
 | 0=>0
 | n+1=>sm f n+f n
structure NX (n M:Nat) (ch:Nat->List Nat) (ds:Nat->Nat):Prop where
 pos:1<=n
 d0:ds 0=0
 in_:∀v,v<n->∀j,j∈ch v->v<j/\j<n/\ds j=ds v+1
 dp:∀v,v<n->ds v<=M
 sum:∀f:Nat->Nat,sm (λv=>((ch v).map f).sum) n+f 0=sm f n
 len:∀v,v<n->(ch v).length<=n
structure NB (n M k:Nat) (ch:Nat->List Nat) (ds:Nat->Nat) (t:Nat->Tr):Prop where
 pts:∀v,k<=v->v<n->Tr.pts (t v)=1+((ch v).map λj=>Tr.pts (t j)).sum
 dp:∀v,k<=v->v<n->Tr.dp (t v)+ds v<=M
end Tr
namespace Tr
open O
noncomputable def app:Tr->Tr->Tr
 | z,u=>u
 | c b r,u=>c b (app r u)
noncomputable def getT:Tr->Nat->Option Tr
 | z,_=>none
 | c b _,0=>some b
 | c _ r,i+1=>getT r i
theorem getT_some:∀{t b:Tr} {i:Nat},getT t i=some b->i<len t/\pts b<pts t/\dp b<dp t
 | z,_,_,h=>by cases h
 | c b r,x,0,h=>by
   cases h;have:=pts_pos r;exact⟨Nat.succ_pos _,by show pts b<pts b+pts r;lia,by show dp b<max (dp b+1) (dp r);lia⟩
 | c b r,x,i+1,h=>by
   obtain⟨h1,h2,B⟩:=getT_some (t:=r) h;have:=pts_pos b;exact⟨by simp only[len];lia,by show pts x<pts b+pts r;lia,by show dp x<max (dp b+1) (dp r);lia⟩
noncomputable def subT:Tr->List Nat->Option Tr
 | t,[]=>some t
 | t,i::w=>match getT t i with
   | some b=>subT b w
   | none=>none
theorem subT_cons {t:Tr} {w:List Nat} {s:Tr} (h:subT t (i::w)=some s):∃b,getT t i=some b/\subT b w=some s:=by
 unfold subT at h;split at h
 ·rename_i b hb;exact⟨b,hb,h⟩
 ·cases h
end Tr
namespace Tr
open O
end Tr
namespace Tr
open O
end Tr
namespace Tr
end Tr
namespace Tr
open O
end Tr
namespace Tr
noncomputable def NY:Tr->Bool
 | z=>true
 | c _ _=>false
noncomputable def bare:Tr->Nat
 | z=>0
 | c b r=>(if NY b=true then 1 else bare b)+bare r
end Tr
namespace O
inductive Ru (n:Int):O->O->Prop
 | less {a:O}:a≠ .z->cv a=.z->Ru n a (ff a)
 | succ {a:O}:a≠ .z->cv a≠ .z->cv (cv a)=.z->Ru n a (O.app (ff a) (.c (ff (cv a)) n .z))
 | lim {a o:O}:a≠ .z->cv a≠ .z->cv (cv a)≠ .z->Ru n (cv a) o->Ru n a (O.app (ff a) (.c o 1 .z))
end O
namespace Tr
open O
end Tr
namespace Tr
noncomputable def sh:Tr->List Nat
 | z=>[]
 | c b r=>40::(sh b++41::sh r)
theorem xR:∀t u:Tr,sh (t.app u)=sh t++sh u
 | z,u=>rfl
 | c b r,u=>by
   show 40::(sh b++41::sh (r.app u))=40::(sh b++41::sh r)++sh u;rw[xR r u];simp
theorem sh_len:∀t:Tr,(sh t).length+2=2*pts t
 | z=>rfl
 | c b r=>by
   have h1:=sh_len b;have h2:=sh_len r;show(40::(sh b++41::sh r)).length+2=2*(pts b+pts r);simp only[length_cons,length_append];lia
instance decZ:(t:Tr)->Decidable (t=z)
 | z=> .isTrue rfl
 | c _ _=> .isFalse (λh=>by cases h)
noncomputable def low:List Tr->Tr
 | []=>z
 | [t]=>t
 | _::u::l=>low (u::l)
noncomputable def step (ls:List Tr) (s:Nat):Option (List Tr):=
 if s=40/\low ls=z/\ls.length<=41 then some (z::ls)
 else if s=41 then
  match ls with
  | t::u::l=>some (u.app (c t z)::l)
  | _=>none
 else none
noncomputable def rdS:List Nat->List Tr->Option (List Tr)
 | [],ls=>some ls
 | s::cs,ls=>match step ls s with
   | none=>none
   | some ls'=>rdS cs ls'
noncomputable def rdT (l:List Nat):Option Tr:=
 if 600<l.count 40 then none else match rdS l [z] with
  | none=>none
  | some ls=>match low ls with
    | z=>none
    | c b _=>some b
structure Bg (ls:List Tr):Prop where
 ne:ls≠[]
 lo:low ls=z∨∃b,ls=[c b z]
 len:ls.length<=42
noncomputable def rend:List Tr->List Nat
 | []=>[]
 | [t]=>sh t
 | t::u::l=>rend (u::l)++40::sh t
def dpOk:List Tr->Prop
 | []=>True
 | t::l=>t.dp+l.length<=41/\dpOk l
theorem tw:∀(u t:Tr),dp (u.app (c t z))=max (dp u) (dp t+1)
 | z,t=>Nat.max_comm _ _
 | c b r,t=>by
   show max (dp b+1) (dp (r.app (c t z)))=max (max (dp b+1) (dp r)) (dp t+1);rw[tw r t];exact(Nat.max_assoc _ _ _).symm
theorem Bg.step {ls B:List Tr} {s:Nat} (h:Bg ls) (hd:dpOk ls) (e:Tr.step ls s=some B):Bg B/\dpOk B/\rend B=rend ls++[s]/\((s=40/\low ls=z/\B=z::ls/\ls.length<=41)∨(s=41/\2<=ls.length/\B.length+1=ls.length)):=by
 unfold Tr.step at e;split at e
 ·rename_i S;cases e;obtain⟨t,l,rfl⟩:∃t l,ls=t::l:=by
   cases ls with
   | nil=>exact absurd rfl h.ne
   | cons t l=>exact⟨t,l,rfl⟩
  refine⟨⟨by simp,.inl S.2.1,by have:=S.2.2;simp only[length_cons] at this ⊢;lia⟩,⟨?_,hd⟩,?_,.inl ⟨S.1,S.2.1,rfl,S.2.2⟩⟩
  ·have:=S.2.2;show 0+(t::l).length<=41;lia
  ·rw[S.1]
   rfl
 ·rename_i ab;split at e
  ·rename_i Z;split at e
   ·rename_i t u l;cases e;have Y:=h.len;simp only[length_cons] at Y;have L:low (u::l)=z:=by
     rcases h.lo with h1 | ⟨b,h1⟩
     ·exact h1
     ·cases h1
    refine⟨⟨by simp,?_,by simp only[length_cons];lia⟩,?_,?_,.inr ⟨Z,by simp,by simp⟩⟩
    ·cases l with
     | nil=>
       have:u=z:=L;subst this;exact .inr ⟨t,rfl⟩
     | cons v l=>exact .inl L
    ·obtain⟨h1,h2,h3⟩:=hd;simp only[length_cons] at h1;refine⟨?_,h3⟩;rw[tw];lia
    ·have e1:sh (u.app (c t z))=sh u++(40::sh t)++[41]:=by rw[xR];simp[sh]
     rw[Z];cases l with
     | nil=>
       show sh (u.app (c t z))=(sh u++40::sh t)++[41];exact e1
     | cons v l=>
       show rend (v::l)++40::sh (u.app (c t z))=(rend (v::l)++40::sh u++40::sh t)++[41];rw[e1];simp
   ·cases e
  ·cases e
theorem bg0:Bg [z]:=⟨by simp,.inl rfl,by simp⟩
theorem dp0:dpOk [z]:=⟨zero_le _,trivial⟩
noncomputable def NC:List Nat->Bool->Int->Int->Option (Int×Int)
 | [],_,d,m=>some (d,m)
 | s::cs,f,d,m=>
   if ¬(s=40∨s=41)∨(f=false/\d=0) then none
   else
    let d':=d+1-2*(if s=41 then 1 else 0)
    if d'<0 then none else NC cs false d' (max m d')
noncomputable def rt (l:List Nat):Bool:=match NC l true 0 0 with
 | none=>false
 | some (d,m)=>decide (l≠[])&&decide (d=0)&&decide (l.length<=1200)&&decide (m<=41)
end Tr
open O
mutual
inductive Rw (α:Type) where
 | set (b:α) (n:Int)
 | copy (b o:α)
 | add (b o:α)
 | less (b:α)
 | times (b:α) (rs:xS α)
 | count (rs:xS α) (n:Int)
inductive xS (α:Type) where
 | nil
 | cons (r:Rw α) (rs:xS α)
end
noncomputable def om:O:= .c (O.wh 1) 1 .z
section
variable {α:Type}
mutual
noncomputable def Rw.hb:Rw α->Nat
 | .times _ rs=>rs.hb+2
 | .count rs _=>rs.hb+3
 | _=>1
noncomputable def xS.hb:xS α->Nat
 | .nil=>0
 | .cons r rs=>rs.hb+r.hb
end
mutual
noncomputable def Rw.mb:Rw α->Nat
 | .times _ rs=>(rs.mb+2)*2
 | .count rs n=>(rs.mb+2)*(n.toNat+1)+1
 | _=>1
noncomputable def xS.mb:xS α->Nat
 | .nil=>0
 | .cons r rs=>rs.mb+r.mb
end
mutual
noncomputable def Rw.lb:Rw α->Nat
 | .count rs _=>rs.lb+2
 | _=>1
noncomputable def xS.lb:xS α->Nat
 | .nil=>0
 | .cons r rs=>rs.lb+r.lb
end
mutual
def Rw.nn:Rw α->Prop
 | .times _ rs=>rs.nn
 | .count rs n=>rs.nn/\0<=n
 | _=>True
def xS.nn:xS α->Prop
 | .nil=>True
 | .cons r rs=>r.nn/\rs.nn
end
structure Wb (o:O) (h m l:Nat):Prop where
 nf:o.NF
 dp:o.dp<=3
 hw:O.hw o<=h
 mx:O.mx o<=m
 ln:o.len<=l
end
inductive bx where
 | num (a:O)
 | nam (l:List Nat)
 | op (y:Nat)
deriving DecidableEq
noncomputable def ck (y:Nat):Bool:=decide (48<=y/\y<=57)
noncomputable def cE (y:Nat):Bool:=decide (97<=y/\y<=122)
noncomputable def dz (y:Nat):Bool:=ck y||cE y
noncomputable def dg:List Nat->List Nat
 | []=>[]
 | y::l=>if dz y then y::dg l else []
noncomputable def rF:List Nat->List Nat
 | []=>[]
 | y::l=>if dz y then rF l else y::l
theorem fF:∀l,dg l++rF l=l
 | []=>rfl
 | y::l=>by
   unfold dg rF;split
   ·show y::(dg l++rF l)=_;rw[fF l]
   ·rfl
noncomputable def fh (l:List Nat):Nat:=l.foldl (λa y=>a*10+(y-48)) 0
noncomputable def aR (l:List Nat):Bool:=decide (1<=l.length/\l.length<=60)&&l.all ck&&(decide (l=[48])||decide (l.head?≠some 48))
noncomputable def aN (l:List Nat):Bool:=decide (1<=l.length/\l.length<=8)&&decide (l≠[119])&&l.all cE
noncomputable def ki (l:List Nat):Option bx:=
 if l=[119] then some (.num om) else if aR l then some (.num (O.wh (fh l))) else if aN l then some (.nam l) else none
abbrev Rd:=Option (List bx×List Nat)
noncomputable def aO (rd:List Nat->Rd):List Nat->Rd
 | 40::l=>match rd l with
   | some (s,41::r)=>some (s,r)
   | _=>none
 | l=>match ki (dg l) with
   | some x=>some ([x],rF l)
   | none=>none
noncomputable def bK (rd:List Nat->Rd) (l:List Nat):Rd:=
 match aO rd l with
 | some (s,94::r)=>match aO rd r with
   | some (s2,r2)=>some (s++s2++[.op 94],r2)
   | none=>none
 | x=>x
noncomputable def ba (one:List Nat->Rd) (y:Nat):Nat->List bx->List Nat->Rd
 | 0,s,l=>some (s,l)
 | n+1,s,l=>if l.head?=some y then match one l.tail with
    | some (s2,r)=>ba one y n (s++s2++[.op y]) r
    | none=>none
   else some (s,l)
noncomputable def bF (rd:List Nat->Rd) (l:List Nat):Rd:=
 match bK rd l with
 | some (s,r)=>ba (bK rd) 42 r.length s r
 | none=>none
noncomputable def ci (rd:List Nat->Rd) (l:List Nat):Rd:=
 match bF rd l with
 | some (s,r)=>ba (bF rd) 43 r.length s r
 | none=>none
noncomputable def cO:Nat->List Nat->Rd
 | 0=>ci λ_=>none
 | d+1=>ci (cO d)
noncomputable def eT (l:List Nat):Option (List bx):=
 match cO 20 l with
 | some (s,[])=>some s
 | _=>none
structure rG (fg:Nat->List Nat):Prop where
 ok:∀m,m<10^60->aR (fg m)=true
 val:∀m,fh (fg m)=m
noncomputable def tz (e:O):Bool:=match e with
 | z=>true
 | c z _ z=>true
 | _=>false
section
variable (fg:Nat->List Nat)
noncomputable def eU (e:O) (te:List Nat):List Nat:=
 if e=c z 1 z then [119] else if tz e=true∨e=om then 119::94::te else 119::94::40::(te++[41])
noncomputable def cB (e:O) (n:Int) (te:List Nat):List Nat:=
 if e=z then fg n.toNat else if n=1 then eU e te else eU e te++42::fg n.toNat
noncomputable def bD:O->List Nat
 | z=>[48]
 | c e n r=>cB fg e n (bD e)++(match r with | z=>[] | c _ _ _=>43::bD r)
end
noncomputable def l6 (e:O) (se:List bx):List bx:=if e=c z 1 z then [.num om] else .num om::(se++[.op 94])
noncomputable def ku (e:O) (n:Int) (se:List bx):List bx:=
 if e=z then [.num (wh n)] else if n=1 then l6 e se else l6 e se++[.num (wh n),.op 42]
mutual
noncomputable def iR:O->List bx
 | z=>[.num z]
 | c e n r=>ku e n (iR e)++vw r
noncomputable def vw:O->List bx
 | z=>[]
 | c e n r=>ku e n (iR e)++ .op 43::vw r
end
noncomputable def vz:O->Nat
 | z=>0
 | c e _ r=>max (if tz e=true∨e=om then 0 else vz e+1) (vz r)
def Nx (cs:List Nat) (l:List Nat):Prop:=∀x,l.head?=some x->dz x=false/\x∉cs
theorem Nx.nil:Nx cs []:=λx h=>by cases h
theorem Nx.cons {cs:List Nat} {x:Nat} (h1:dz x=false) (h2:x∉cs):Nx cs (x::l):=λy h=>by cases h;exact⟨h1,h2⟩
theorem Nx.less (h:Nx cs l) (L:∀x,x∈ds->x∈cs):Nx ds l:=λx B=>⟨(h x B).1,λz=>(h x B).2 (L x z)⟩
theorem tD:∀{t rest:List Nat},(∀x,x∈t->dz x=true)->Nx [] rest->dg (t++rest)=t/\rF (t++rest)=rest
 | [],[],_,_=>⟨rfl,rfl⟩
 | [],x::rest,_,h=>by
   have:=(h x rfl).1;show dg (x::rest)=[]/\rF (x::rest)=x::rest;unfold dg rF;rw[this];exact⟨rfl,rfl⟩
 | y::t,rest,B,h=>by
   obtain⟨a,b⟩:=tD (t:=t) (λx L=>B x (ybx _ L)) h;have:=B y yby;show dg (y::(t++rest))=y::t/\rF (y::(t++rest))=rest;unfold dg rF;rw[this,ycv rfl,ycv rfl,a,b];exact⟨rfl,rfl⟩
theorem jb {rd:List Nat->Rd} {x:bx} (L:∀y,y∈t->dz y=true) (Y:ki t=some x) (Z:Nx [] rest):aO rd (t++rest)=some ([x],rest):=by
 obtain⟨a,b⟩:=tD L Z;have B:∀S,t++rest≠40::S:=λS e=>by
  cases t with
  | nil=>simp[ki,aR,aN] at Y
  | cons y t=>
    cases e;have:=L 40 yby;exact absurd this (by decide)
 unfold aO;split
 ·rename_i l e;exact absurd e (B l)
 ·rw[a,b,Y]
theorem xT {rd:List Nat->Rd} {s:List bx} (h:rd (t++41::rest)=some (s,41::rest)):aO rd (40::(t++[41])++rest)=some (s,rest):=by
 have e:40::(t++[41])++rest=40::(t++41::rest):=by simp
 rw[e];show(match rd (t++41::rest) with | some (s,41::r)=>some (s,r) | _=>none)=_;rw[h]
 rfl
theorem tE (h:aR t=true):∀y,y∈t->dz y=true:=λy B=>by
 unfold aR at h;simp only[Bool.and_eq_true,all_eq_true] at h;unfold dz;rw[h.1.2 y B]
 rfl
theorem tF (h:aR t=true):ki t=some (.num (wh (fh t))):=by
 have h1:t≠[119]:=λe=>by rw[e] at h;exact absurd h (by decide)
 unfold ki;rw[ycw h1,ycv h]
theorem rH (F:rG fg) (h0:0<=n) (h1:n<10^60) (L:Nx [] rest):aO rd (fg n.toNat++rest)=some ([.num (wh n)],rest):=by
 have B:n.toNat<10^60:=by lia
 have:=jb (rd:=rd) (tE (F.ok _ B)) (tF (F.ok _ B)) L;rw[F.val,Int.toNat_of_nonneg h0] at this;exact this
theorem xU (L:Nx [] rest):aO rd (119::rest)=some ([.num om],rest):=
 jb (t:=[119]) (λy B=>by cases mem_singleton.mp B;rfl) rfl L
theorem l7 {rd:List Nat->Rd} {s:List bx} (h:aO rd l=some (s,rest)) (B:Nx [94] rest):bK rd l=some (s,rest):=by
 unfold bK;rw[h];split
 ·rename_i s' r e;cases e;exact absurd yby (B 94 rfl).2
 ·rfl
theorem l9 {rd:List Nat->Rd} {m:List Nat} {s s2:List bx} (h:aO rd l=some (s,94::m)) (h2:aO rd m=some (s2,rest)):bK rd l=some (s++s2++[.op 94],rest):=by
 unfold bK;rw[h];show(match aO rd m with | some (s2,B)=>some (s++s2++[bx.op 94],B) | none=>none)=_;rw[h2]
theorem dJ {one:List Nat->Rd} {x:Nat} {s:List bx} (B:Nx [x] l):∀k,ba one x k s l=some (s,l)
 | 0=>rfl
 | k+1=>by
   unfold ba;rw[if_neg];intro e;exact(B x e).2 yby
theorem gM {one:List Nat->Rd} {x k:Nat} {s s2:List bx} (h:one l=some (s2,r)):ba one x (k+1) s (x::l)=ba one x k (s++s2++[.op x]) r:=by
 conv=>lhs;unfold ba
 rw[ycv (show(x::l).head?=some x from rfl)];show(match one l with | some (s2,r)=>ba one x k (s++s2++[bx.op x]) r | none=>none)=_;rw[h]
def Tm:O->Prop
 | z=>True
 | c e n r=>Tm e/\(1<=n/\n<10^60)/\Tm r
section
variable {fg:Nat->List Nat}
noncomputable def cP (fg:Nat->List Nat):O->List Nat
 | z=>[]
 | c e n r=>43::bD fg (c e n r)
theorem fR (e:O) (n:Int) (r:O):bD fg (c e n r)=cB fg e n (bD fg e)++cP fg r:=by
 cases r<;> rfl
noncomputable def bp:Nat->List Nat->Rd
 | 0=>λ_=>none
 | d+1=>cO d
theorem dZ (d:Nat):cO d=ci (bp d):=by cases d<;> rfl
def PP (fg:Nat->List Nat) (a:O):Prop:=∀(d:Nat) (rest:List Nat),vz a<=d->Tm a->Nx [42,43,94] rest->cO d (bD fg a++rest)=some (iR a,rest)
theorem xV (F:rG fg) (he:e≠z) (L:Tm e) (ih:PP fg e) (hd:(if tz e=true∨e=om then 0 else vz e+1)<=d) (Y:Nx [94] rest):bK (bp d) (eU e (bD fg e)++rest)=some (l6 e (iR e),rest):=by
 unfold eU l6
 by_cases h1:e=c z 1 z
 ·rw[ycv h1,ycv h1];exact l7 (xU (Y.less λx B=>by cases B)) Y
 ·rw[ycw h1,ycw h1];have S:∀l,Nx [] (94::l):=λl=>Nx.cons (by decide) (λh=>by cases h)
  by_cases h2:tz e=true∨e=om
  ·rw[ycv h2];refine l9 (s:=[.num om]) (s2:=iR e) (xU (S _)) ?_;rcases h2 with h2 | h2
   ·match e,he,h2,L with
    | c z m z,_,_,L=>
      show aO (bp d) (bD fg (c z m z)++rest)=some (iR (c z m z),rest);have Z:bD fg (c z m z)=fg m.toNat:=by
       rw[fR];show cB fg z m _++[]=_;unfold cB;rw[ycv rfl,append_nil]
      have e2:iR (c z m z)=[.num (wh m)]:=by
       unfold iR vw ku;rw[ycv rfl]
       rfl
      rw[Z,e2];exact rH F (by have:=L.2.1.1;lia) L.2.1.2 (Y.less λx B=>by cases B)
   ·subst h2;have Z:bD fg om=[119]:=by
     show bD fg (c (wh 1) 1 z)=_;rw[fR]
     rfl
    rw[Z];exact xU (Y.less λx B=>by cases B)
  ·rw[ycw h2] at hd ⊢;obtain⟨d,rfl⟩:∃d',d=d'+1:=⟨d-1,by lia⟩;have B:=ih d (41::rest) (by lia) L (Nx.cons (by decide) (by decide));have:=xT (rd:=bp (d+1)) (t:=bD fg e) (rest:=rest) (s:=iR e) B;refine l9 (s:=[.num om]) (s2:=iR e) (m:=40::(bD fg e++[41])++rest) ?_ this;exact xU (S _)
theorem xW (F:rG fg) (ab:1<=n) (Y:n<10^60) (hT:Tm e) (ih:PP fg e) (hd:(if tz e=true∨e=om then 0 else vz e+1)<=d) (Z:Nx [42,94] rest):bF (bp d) (cB fg e n (bD fg e)++rest)=some (ku e n (iR e),rest):=by
 have hw:Nx [] rest:=Z.less λx L=>by cases L
 have S:Nx [94] rest:=Z.less λx L=>by rw[mem_singleton.mp L];decide
 have B:Nx [42] rest:=Z.less λx L=>by rw[mem_singleton.mp L];decide
 have hf:bK (bp d) (fg n.toNat++rest)=some ([.num (wh n)],rest):=l7 (rH F (by lia) Y hw) S;unfold cB ku bF
 by_cases he:e=z
 ·rw[ycv he,ycv he,hf];exact dJ B _
 ·rw[ycw he,ycw he]
  by_cases h1:n=1
  ·rw[ycv h1,ycv h1,xV F he hT ih hd S];exact dJ B _
  ·rw[ycw h1,ycw h1];have e1:eU e (bD fg e)++42::fg n.toNat++rest=eU e (bD fg e)++(42::(fg n.toNat++rest)):=by simp
   rw[e1,xV F he hT ih hd (Nx.cons (by decide) (by decide))];show ba (bK (bp d)) 42 (42::(fg n.toNat++rest)).length (l6 e (iR e)) (42::(fg n.toNat++rest))=_;rw[length_cons,gM hf,dJ B];simp
def TT (fg:Nat->List Nat) (r:O):Prop:=∀(d k:Nat) (s:List bx) (rest:List Nat),vz r<=d->Tm r->Nx [42,43,94] rest->(cP fg r++rest).length<=k->ba (bF (bp d)) 43 k s (cP fg r++rest)=some (s++vw r,rest)
theorem tG {r:O} (L:Nx [42,43,94] rest):Nx [42,94] (cP fg r++rest):=by
 cases r with
 | z=>exact L.less λx B=>by simp at B ⊢;rcases B with h | h<;> simp[h]
 | c e n r=>exact Nx.cons (by decide) (by decide)
mutual
theorem rJ (F:rG fg):∀a:O,PP fg a
 | z=>λd rest _ _ L=>by
   have hw:Nx [] rest:=L.less λx B=>by cases B
   have ab:Nx [94] rest:=L.less λx B=>by rw[mem_singleton.mp B];decide
   have Z:Nx [42] rest:=L.less λx B=>by rw[mem_singleton.mp B];decide
   have Y:Nx [43] rest:=L.less λx B=>by rw[mem_singleton.mp B];decide
   have h1:bK (bp d) ([48]++rest)=some ([.num z],rest):=l7 (jb (t:=[48]) (x:= .num z) (λy hy=>by cases mem_singleton.mp hy;rfl) rfl hw) ab;rw[dZ];show ci (bp d) ([48]++rest)=some ([.num z],rest);unfold ci bF;rw[h1];show(match ba (bK (bp d)) 42 rest.length [.num z] rest with | some (s,r)=>ba (bF (bp d)) 43 r.length s r | none=>none)=_;rw[dJ Z];exact dJ Y _
 | c e n r=>λd rest hd S L=>by
   have af:(if tz e=true∨e=om then 0 else vz e+1)<=d:=ycy (le_max_left _ _) hd;have ad:vz r<=d:=ycy (le_max_right _ _) hd;rw[dZ,fR,append_assoc];unfold ci;rw[xW F S.2.1.1 S.2.1.2 S.1 (rJ F e) af (tG L)];show ba (bF (bp d)) 43 (cP fg r++rest).length (ku e n (iR e)) (cP fg r++rest)=_;rw[tH F r d _ _ rest ad S.2.2 L (ycx _)]
   conv=>rhs;unfold iR
theorem tH (F:rG fg):∀r:O,TT fg r
 | z=>λd k s rest _ _ L _=>by
   have S:Nx [43] rest:=L.less λx hx=>by rw[mem_singleton.mp hx];decide
   show ba (bF (bp d)) 43 k s rest=some (s++vw z,rest);rw[dJ S];unfold vw;rw[append_nil]
 | c e n r=>λd k s rest hd B L hk=>by
   have Z:(if tz e=true∨e=om then 0 else vz e+1)<=d:=ycy (le_max_left _ _) hd;have Y:vz r<=d:=ycy (le_max_right _ _) hd;have e1:cP fg (c e n r)++rest=43::(cB fg e n (bD fg e)++(cP fg r++rest)):=by
    show 43::bD fg (c e n r)++rest=_;rw[fR];simp
   rw[e1] at hk ⊢;rw[length_cons,length_append] at hk;obtain⟨k,rfl⟩:∃k',k=k'+1:=⟨k-1,by lia⟩;rw[gM (xW F B.2.1.1 B.2.1.2 B.1 (rJ F e) Z (tG L)),tH F r d k _ rest Y B.2.2 L (by lia)]
   conv=>rhs;unfold vw
   simp
end
end
def EJ (a:O):Prop:=size a<=400/\mx a<10^100/\dp a<=30
noncomputable instance (a:O):Decidable (EJ a):=by unfold EJ;infer_instance
noncomputable def CK (x:Nat) (a b:O):O:=if x=43 then plusO a b else if x=42 then timesO a b else Lk a b
noncomputable def AT:List bx->List O->Option (List O)
 | [],st=>some st
 | .num a::s,st=>AT s (a::st)
 | .op x::s,b::a::st=>if EJ (CK x a b)/\(x=94->a=om) then AT s (CK x a b::st) else none
 | _,_=>none
theorem tI:∀a b d:O,app (app a b) d=app a (app b d)
 | z,_,_=>rfl
 | c e n r,b,d=>by
   show c e n (app (app r b) d)=c e n (app r (app b d));rw[tI r b d]
theorem tJ {x:O}:∀{a b:O},Lt x (app a b)->Lt x b
 | z,_,h=>h
 | c _ _ _,_,h=>tJ h.2
theorem ox:∀{a e:O} {n:Int} {r:O},NF (app a (c e n r))->filt (λx _=>decide (0<cmp x e)) a=a/\same e a=0
 | z,_,_,_,_=>⟨rfl,rfl⟩
 | c x m a,e,n,r,h=>by
   obtain⟨_,_,Y,Z⟩:=h;obtain⟨L,S⟩:=ox Z;have lt:cmp e x<0:=(tJ Y).1;have B:0<cmp x e:=by rw[cz];lia
   have ne:x≠e:=λz=>by rw[z,cmp_self] at B;lia
   refine⟨?_,?_⟩
   ·rw[filt_c,ycv (ydz B),L]
   ·rw[same_ne ne,S]
theorem tK {r:O} (h:NF (app a (c e n r))):plusO a (c e n z)=app a (c e n z):=by
 obtain⟨h1,h2⟩:=ox h;rw[plus_c,h1,h2,Int.zero_add]
def RR (a:O):Prop:=NF a->EJ a->∀(s:List bx) (st:List O),AT (iR a++s) st=AT s (a::st)
theorem tL:∀{a b:O},NF (app a b)->NF b
 | z,_,h=>h
 | c _ _ _,_,h=>tL h.2.2.2
section
variable {fg:Nat->List Nat}
end
def hW (l r:List Nat):Prop:=∃p,l=p++r
theorem hW.refl (l:List Nat):hW l l:=⟨[],rfl⟩
theorem hW.trans (h:hW l m) (g:hW m r):hW l r:=by
 obtain⟨p,rfl⟩:=h;obtain⟨q,rfl⟩:=g;exact⟨p++q,by rw[append_assoc]⟩
theorem hW.cons (x:Nat) (l:List Nat):hW (x::l) l:=⟨[x],rfl⟩
theorem hW.len (h:hW l r):r.length<=l.length:=by
 obtain⟨p,rfl⟩:=h;rw[length_append];lia
theorem hW.drop (h:hW l r):l.drop (l.length-r.length)=r:=by
 obtain⟨p,rfl⟩:=h;rw[length_append,Nat.add_sub_cancel];simp
def vA (f:List Nat->Rd):Prop:=∀l s r,f l=some (s,r)->hW l r/\s.length+r.length<=l.length
theorem AU (l:List Nat):hW l (rF l):=⟨dg l,(fF l).symm⟩
theorem xX {x:bx} (h:ki l=some x):1<=l.length:=by
 cases l with
 | nil=>simp[ki,aR,aN] at h
 | cons y l=>simp
theorem kS (h:vA rd):vA (aO rd):=λl s r e=>by
 unfold aO at e;split at e
 ·rename_i L;split at e
  ·rename_i s' S B;cases (e);obtain⟨h1,h2⟩:=h _ _ _ B;refine⟨(hW.cons 40 L).trans (h1.trans (hW.cons 41 r)),?_⟩;rw[length_cons] at h2 ⊢;lia
  ·cases e
 ·split at e
  ·rename_i x B;cases e;refine⟨AU l,?_⟩;have h1:=xX B;have h2:=congrArg List.length (fF l);rw[length_append] at h2;simp only[length_cons,length_nil];lia
  ·cases e
theorem me (h:vA rd):vA (bK rd):=λl s r e=>by
 have B:=kS h;unfold bK at e;split at e
 ·rename_i s1 r1 L;obtain⟨Z,a2⟩:=B _ _ _ L;split at e
  ·rename_i s2 r2 S;cases e;obtain⟨Y,b2⟩:=B _ _ _ S;refine⟨Z.trans ((hW.cons 94 r1).trans Y),?_⟩;rw[length_cons] at a2;simp only[length_append,length_cons,length_nil];lia
  ·cases e
 ·exact B _ _ _ e
theorem jF {one:List Nat->Rd} (h:vA one) (x:Nat):∀(k:Nat) (s0:List bx) (l:List Nat) (s:List bx) (r:List Nat),ba one x k s0 l=some (s,r)->hW l r/\s.length+r.length<=s0.length+l.length
 | 0,s0,l,s,r,e=>by cases e;exact⟨hW.refl _,ycx _⟩
 | k+1,s0,l,s,r,e=>by
   unfold ba at e;split at e
   ·rename_i S;split at e
    ·rename_i s2 r2 B;obtain⟨Y,Z⟩:=h _ _ _ B;obtain⟨L,b2⟩:=jF h x k _ _ _ _ e;cases l with
     | nil=>cases S
     | cons y l=>
       refine⟨(hW.cons y l).trans (Y.trans L),?_⟩;simp only[length_append,length_cons,length_nil,List.tail_cons] at Z b2 ⊢;lia
    ·cases e
   ·cases e;exact⟨hW.refl _,ycx _⟩
theorem jG (h:vA rd):vA (bF rd):=λl s r e=>by
 unfold bF at e;split at e
 ·rename_i Z r1 B;obtain⟨S,Y⟩:=me h _ _ _ B;obtain⟨L,b2⟩:=jF (me h) 42 _ _ _ _ _ e;exact⟨S.trans L,ycy b2 Y⟩
 ·cases e
theorem vB (h:vA rd):vA (ci rd):=λl s r e=>by
 unfold ci at e;split at e
 ·rename_i Z r1 B;obtain⟨S,Y⟩:=jG h _ _ _ B;obtain⟨L,b2⟩:=jF (jG h) 43 _ _ _ _ _ e;exact⟨S.trans L,ycy b2 Y⟩
 ·cases e
theorem dj:∀d,vA (bp d)
 | 0=>λ_ _ _ e=>by cases e
 | d+1=>by
   show vA (cO d);rw[dZ];exact vB (dj d)
def oy:bx->Prop
 | .num a=>a.NF/\EJ a
 | .nam l=>aN l=true
 | .op x=>x=43∨x=42∨x=94
def xY (f:List Nat->Rd):Prop:=∀l s r,f l=some (s,r)->∀x,x∈s->oy x
theorem tM:∀(l:List Nat) (a:Nat),l.all ck=true->l.foldl (λa c=>a*10+(c-48)) a<(a+1)*10^l.length
 | [],a,_=>by simp
 | x::l,a,h=>by
   rw[all_cons,Bool.and_eq_true] at h;have B:x<=57:=(of_decide_eq_true h.1).2;have:=tM l (a*10+(x-48)) h.2;rw[List.foldl_cons,length_cons];refine ydw this ?_;rw[Nat.pow_succ,Nat.mul_comm (10^l.length) 10,←Nat.mul_assoc];exact Nat.mul_le_mul_right _ (by lia)
theorem EK (h0:0<=n) (h1:n<10^100):(wh n).NF/\EJ (wh n):=by
 by_cases hz:n=0
 ·subst hz;exact⟨trivial,by decide⟩
 ·have e:wh n=c z n z:=ycw hz;rw[e];refine⟨⟨trivial,by lia,trivial,trivial⟩,show 1+0+0<=400 by decide,?_,show max (0+1) 0<=30 by decide⟩;rw[mx_c];simp only[mx];lia
theorem EL {x:bx} (h:ki l=some x):oy x:=by
 unfold ki at h;split at h
 ·cases h;exact⟨⟨⟨trivial,by decide,trivial,trivial⟩,by decide,trivial,trivial⟩,by decide⟩
 ·split at h
  ·rename_i B;cases h;refine EK (Int.natCast_nonneg _) ?_;unfold aR at B;simp only[Bool.and_eq_true,decide_eq_true_eq] at B;have h1:=tM l 0 B.1.2;have h2:(0+1)*10^l.length<=10^60:=by rw[Nat.zero_add,Nat.one_mul];exact Nat.pow_le_pow_right (by decide) B.1.1.2
   have L:fh l<10^60:=ydw h1 h2;have S:((fh l:Nat):Int)<((10^60:Nat):Int):=Int.ofNat_lt.mpr L;exact Int.lt_of_lt_of_le S (by decide)
  ·split at h
   ·rename_i Y;cases h;exact Y
   ·cases h
theorem vC (h:xY rd):xY (aO rd):=λl s r e x L=>by
 unfold aO at e;split at e
 ·split at e
  ·rename_i s' S B;cases e;exact h _ _ _ B x L
  ·cases e
 ·split at e
  ·rename_i y B;cases e;rw[mem_singleton.mp L];exact EL B
  ·cases e
theorem tN (h:xY rd):xY (bK rd):=λl s r e x B=>by
 have L:=vC h;unfold bK at e;split at e
 ·rename_i Z r1 S;split at e
  ·rename_i s2 r2 Y;cases e;rcases mem_append.mp B with B | B
   ·rcases mem_append.mp B with B | B
    ·exact L _ _ _ S x B
    ·exact L _ _ _ Y x B
   ·rw[mem_singleton.mp B];exact Or.inr (.inr rfl)
  ·cases e
 ·exact L _ _ _ e x B
theorem jH {one:List Nat->Rd} (h:xY one) {y:Nat} (L:oy (.op y)):∀(k:Nat) (s0:List bx) (l:List Nat) (s:List bx) (r:List Nat),ba one y k s0 l=some (s,r)->(∀x,x∈s0->oy x)->∀x,x∈s->oy x
 | 0,s0,l,s,r,e,h0=>by cases e;exact h0
 | k+1,s0,l,s,r,e,h0=>by
   unfold ba at e;split at e
   ·split at e
    ·rename_i s2 Y S;refine jH h L k _ _ _ _ e λx B=>?_;rcases mem_append.mp B with B | B
     ·rcases mem_append.mp B with B | B
      ·exact h0 x B
      ·exact h _ _ _ S x B
     ·rw[mem_singleton.mp B];exact L
    ·cases e
   ·cases e;exact h0
theorem oz (h:xY rd):xY (bF rd):=λl s r e=>by
 unfold bF at e;split at e
 ·rename_i L S B;exact jH (tN h) (Or.inr (.inl rfl)) _ _ _ _ _ e (tN h _ _ _ B)
 ·cases e
theorem vD (h:xY rd):xY (ci rd):=λl s r e=>by
 unfold ci at e;split at e
 ·rename_i L S B;exact jH (oz h) (Or.inl rfl) _ _ _ _ _ e (oz h _ _ _ B)
 ·cases e
theorem kT:∀d,xY (bp d)
 | 0=>λ_ _ _ e=>by cases e
 | d+1=>by
   show xY (cO d);rw[dZ];exact vD (kT d)
theorem AV {s:List bx} (h:eT l=some s):∀x,x∈s->oy x:=by
 unfold eT at h;split at h
 ·rename_i s' e;cases h;exact kT 21 _ _ _ e
 ·cases h
noncomputable def gj (nm:List Nat->Option O):List bx->Option (List bx)
 | []=>some []
 | .nam l::s=>match nm l with
   | some b=>(gj nm s).map (.num b:: ·)
   | none=>none
 | x::s=>(gj nm s).map (x:: ·)
def rK (a:O):Prop:=a.NF/\a.size<=12/\mx a<=10^52
theorem big12:(10:Int)^52<10^60/\(10:Int)^52+10^52<10^100:=by decide
theorem rK.pt {r:O} (h:rK (c e n r)):rK e/\rK r/\1<=n/\n<=10^52:=by
 obtain⟨h1,h2,B⟩:=h;have L:size (c e n r)=1+size e+size r:=rfl;exact⟨⟨h1.1,by lia,ydv mx_he B⟩,⟨h1.2.2.2,by lia,ydv mx_hr B⟩,h1.2.1,ydv mx_hn B⟩
theorem rK.tm:∀{a:O},rK a->Tm a
 | z,_=>trivial
 | c e n r,h=>by
   obtain⟨h1,h2,B,L⟩:=h.pt;exact⟨h1.tm,⟨B,Int.lt_of_le_of_lt L big12.1⟩,h2.tm⟩
theorem rL:∀a:O,vz a<=a.size
 | z=>ycx _
 | c e n r=>by
   have h1:=rL e;have h2:=rL r;have B:size (c e n r)=1+size e+size r:=rfl;show max (if tz e=true∨e=om then 0 else vz e+1) (vz r)<=_;split<;> lia
section
variable {fg:Nat->List Nat} (F:rG fg) {a b:O}
theorem xZ {s:List bx} (h:cO 20 l=some (s,[])):eT l=some s:=by unfold eT;rw[h]
end
noncomputable def mh:List bx->List (List Nat)
 | []=>[]
 | .nam l::s=>l::mh s
 | .num _::s=>mh s
 | .op _::s=>mh s
theorem eI:∀s t:List bx,mh (s++t)=mh s++mh t
 | [],_=>rfl
 | .nam l::s,t=>by show l::mh (s++t)=l::mh s++mh t;rw[eI s t];rfl
 | .num _::s,t=>eI s t
 | .op _::s,t=>eI s t
noncomputable def oA (p:Nat->Bool):List Nat->Nat
 | []=>0
 | cc::l=>if p cc then oA p l+1 else 0
noncomputable def HL (l:List Nat):Option Nat:=
 if 0<oA cE l/\oA cE l<=8 then some (oA cE l)
 else if 0<oA ck l/\oA ck l<=60/\(l.head?≠some 48∨oA ck l=1) then some (oA ck l)
 else none
noncomputable def Lm (l:List Nat) (f:List (List Nat)):List (List Nat):=if l.head?.any cE=true/\l≠[119] then l::f else f
noncomputable def vE:Nat->Bool->List Bool->Bool->List Nat->Option (List (List Nat))
 | _,w,ab,_,[]=>if w=true∨ab≠[] then none else some []
 | 0,_,_,_,_::_=>none
 | n+1,w,ab,x,cc::l=>
   if cc=40 then (if w=true/\ab.length<20 then vE n true (x::ab) false l else none)
   else if w=true then match HL (cc::l) with
    | some k=>(vE n false ab x ((cc::l).drop k)).map (Lm ((cc::l).take k))
    | none=>none
   else if cc=41 then match ab with
    | y::ab=>vE n false ab y l
    | []=>none
   else if cc=94 then (if x=true then none else vE n true ab true l)
   else if cc=43∨cc=42 then vE n true ab false l
   else none
noncomputable def sc (w:Bool) (ab:List Bool) (x:Bool) (l:List Nat):Option (List (List Nat)):=vE l.length w ab x l
noncomputable def HM:List bx->Nat->Option Nat
 | [],k=>some k
 | .op _::s,k+2=>HM s (k+1)
 | .op _::_,_=>none
 | .num _::s,k=>HM s (k+1)
 | .nam _::s,k=>HM s (k+1)
theorem jc (nm:List Nat->Option O):∀s:List bx,gj nm s=none↔∃l,l∈mh s/\nm l=none
 | []=>⟨λh=>(by cases h),λz9=>by obtain⟨l,h,_⟩:=z9;cases h⟩
 | .num a::s=>by
   show(gj nm s).map _=none↔_;rw[Option.map_eq_none_iff];exact jc nm s
 | .op a::s=>by
   show(gj nm s).map _=none↔_;rw[Option.map_eq_none_iff];exact jc nm s
 | .nam l::s=>by
   show(match nm l with | some b=>(gj nm s).map (bx.num b:: ·) | none=>none)=none↔_;cases e:nm l with
   | none=>exact⟨λ_=>⟨l,mem_cons_self,e⟩,λ_=>rfl⟩
   | some b=>
     show(gj nm s).map _=none↔_;rw[Option.map_eq_none_iff,jc nm s];constructor
     ·rintro⟨m,h1,h2⟩;exact⟨m,ybx _ h1,h2⟩
     ·rintro⟨m,h1,h2⟩;rcases mem_cons.mp h1 with rfl | h1
      ·rw[e] at h2;cases h2
      ·exact⟨m,h1,h2⟩
theorem mm (nm:List Nat->Option O):∀(s s':List bx),gj nm s=some s'->(∀k,HM s' k=HM s k)/\s'.length=s.length/\∀x,x∈s'->(∃l b,x=.num b/\nm l=some b)∨(x∈s/\∀l,x≠ .nam l)
 | [],s',h=>by cases h;exact⟨λ_=>rfl,rfl,λx B=>by cases B⟩
 | .num a::s,s',h=>by
   have h:(gj nm s).map (bx.num a:: ·)=some s':=h;obtain⟨t,S,rfl⟩:=Option.map_eq_some_iff.mp h;obtain⟨h1,h2,L⟩:=mm nm s t S;refine⟨λk=>h1 (k+1),by rw[length_cons,length_cons,h2],λx B=>?_⟩;rcases mem_cons.mp B with rfl | B
   ·exact .inr ⟨yby,λl z=>by cases z⟩
   ·exact(L x B).imp id λz=>⟨ybx _ z.1,z.2⟩
 | .op a::s,s',h=>by
   have h:(gj nm s).map (bx.op a:: ·)=some s':=h;obtain⟨t,S,rfl⟩:=Option.map_eq_some_iff.mp h;obtain⟨h1,h2,L⟩:=mm nm s t S;refine⟨λk=>?_,by rw[length_cons,length_cons,h2],λx B=>?_⟩
   ·match k with
    | 0=>rfl
    | 1=>rfl
    | k+2=>exact h1 (k+1)
   ·rcases mem_cons.mp B with rfl | B
    ·exact .inr ⟨yby,λl z=>by cases z⟩
    ·exact(L x B).imp id λz=>⟨ybx _ z.1,z.2⟩
 | .nam l::s,s',h=>by
   have h:(match nm l with | some b=>(gj nm s).map (bx.num b:: ·) | none=>none)=some s':=h;cases e:nm l with
   | none=>rw[e] at h;cases h
   | some b=>
     rw[e] at h;obtain⟨t,S,rfl⟩:=Option.map_eq_some_iff.mp h;obtain⟨h1,h2,L⟩:=mm nm s t S;refine⟨λk=>h1 (k+1),by rw[length_cons,length_cons,h2],λx B=>?_⟩;rcases mem_cons.mp B with rfl | B
     ·exact .inl ⟨l,b,rfl,e⟩
     ·exact(L x B).imp id λz=>⟨ybx _ z.1,z.2⟩
def AW (D:Nat) (l:List Nat) (s:List bx):Prop:=∀d,D<=d->∀rest,Nx [] rest->aO (bp d) (l++rest)=some (s,rest)
def AX (D:Nat) (l:List Nat) (s:List bx):Prop:=∀d,D<=d->∀rest,Nx [94] rest->bK (bp d) (l++rest)=some (s,rest)
def CL (D:Nat) (l:List Nat) (s:List bx):Prop:=∀d,D<=d->∀rest,Nx [94] rest->∃k,rest.length<=k/\bF (bp d) (l++rest)=ba (bK (bp d)) 42 k s rest
def wd (D:Nat) (l:List Nat) (s:List bx):Prop:=∀d,D<=d->∀rest,Nx [42,94] rest->∃k,rest.length<=k/\cO d (l++rest)=ba (bF (bp d)) 43 k s rest
section
variable {D D2:Nat} {l m:List Nat} {s t:List bx}
theorem AW.up (h:AW D l s):AX D l s:=λd S rest B=>l7 (h d S rest (B.less λx L=>by cases L)) B
theorem AX.up (h:AX D l s):CL D l s:=λd L rest B=>by
 refine⟨rest.length,ycx _,?_⟩;unfold bF;rw[h d L rest B]
theorem CL.get (h:CL D l s) (S:D<=d) (L:Nx [42,94] rest):bF (bp d) (l++rest)=some (s,rest):=by
 obtain⟨k,_,e⟩:=h d S rest (L.less λx B=>by rw[mem_singleton.mp B];decide);rw[e];exact dJ (L.less λx B=>by rw[mem_singleton.mp B];decide) k
theorem CL.up (h:CL D l s):wd D l s:=λd L rest B=>by
 refine⟨rest.length,ycx _,?_⟩;rw[dZ];unfold ci;rw[h.get L B]
theorem wd.get (h:wd D l s) (S:D<=d) (L:Nx [42,43,94] rest):cO d (l++rest)=some (s,rest):=by
 obtain⟨k,_,e⟩:=h d S rest (L.less λx B=>by simp at B ⊢;rcases B with h | h<;> simp[h]);rw[e];exact dJ (L.less λx B=>by rw[mem_singleton.mp B];decide) k
theorem wd.all (h:wd D l s) (B:D<=20):eT l=some s:=by
 have:=h.get B (rest:=[]) Nx.nil;rw[append_nil] at this;unfold eT;rw[this]
theorem AY {x:bx} (L:∀y,y∈l->dz y=true) (B:ki l=some x):AW D l [x]:=λ_ _ _ S=>jb L B S
theorem wd.br (h:wd D l s):AW (D+1) (40::(l++[41])) s:=λd B rest _=>by
 obtain⟨d,rfl⟩:∃k,d=k+1:=⟨d-1,by lia⟩;exact xT (h.get (d:=d) (by lia) (Nx.cons (by decide) (by decide)))
theorem rM (h:wd D l s) (h2:CL D m t):wd D (l++43::m) (s++t++[.op 43]):=λd B rest S=>by
 obtain⟨k,L,e⟩:=h d B (43::(m++rest)) (Nx.cons (by decide) (by decide));rw[length_cons,length_append] at L;obtain⟨k,rfl⟩:∃j,k=j+1:=⟨k-1,by lia⟩;refine⟨k,by lia,?_⟩;rw[show l++43::m++rest=l++(43::(m++rest)) by simp,e,gM (h2.get B S)]
theorem tO (h:CL D l s) (h2:AX D m t):CL D (l++42::m) (s++t++[.op 42]):=λd B rest S=>by
 obtain⟨k,L,e⟩:=h d B (42::(m++rest)) (Nx.cons (by decide) (by decide));rw[length_cons,length_append] at L;obtain⟨k,rfl⟩:∃j,k=j+1:=⟨k-1,by lia⟩;refine⟨k,by lia,?_⟩;rw[show l++42::m++rest=l++(42::(m++rest)) by simp,e,gM (h2 d B rest S)]
theorem jI (h:AW D l s) (h2:AW D m t):AX D (l++94::m) (s++t++[.op 94]):=λd B rest L=>by
 rw[show l++94::m++rest=l++(94::(m++rest)) by simp];exact l9 (h d B _ (Nx.cons (by decide) (by decide))) (h2 d B rest (L.less λx S=>by cases S))
theorem AX.le (h:AX D l s) (B:D<=D2):AX D2 l s:=λd L=>h d (ycy B L)
end
def kU (a:O):Prop:=size a<=400/\mx a<10^300/\dp a<=40
theorem jd {r:O} (h:kU (c e n r)):kU e/\kU r/\∀m:Int,m<=n->kU (c e m z):=by
 obtain⟨h1,h2,S⟩:=h;have L:size (c e n r)=1+size e+size r:=rfl;have Y:dp e+1<=dp (c e n r):=le_max_left _ _;have Z:dp r<=dp (c e n r):=le_max_right _ _;refine⟨⟨by lia,Int.lt_of_le_of_lt mx_he h2,by lia⟩,⟨by lia,Int.lt_of_le_of_lt mx_hr h2,by lia⟩,λm B=>⟨?_,?_,?_⟩⟩
 ·show 1+size e+0<=400;lia
 ·refine Int.lt_of_le_of_lt (mx_hle (ydv B mx_hn) mx_he ?_) h2;exact ydv (mx_nonneg e) mx_he
 ·show max (dp e+1) 0<=40;lia
theorem AZ {r:O} (h:kU (app a (c e n r))):kU (app a (c e n z)):=by
 obtain⟨h1,h2,B⟩:=h;rw[fe] at h1;rw[jD] at h2;rw[jE] at B;refine⟨?_,?_,?_⟩
 ·rw[fe];have L:size (c e n r)=1+size e+size r:=rfl;have s2:size (c e n z)=1+size e+0:=rfl;lia
 ·rw[jD];refine Int.lt_of_le_of_lt (Int.max_le.mpr ⟨Int.le_max_left _ _,ydv (mx_hle mx_hn mx_he ?_) (Int.le_max_right _ _)⟩) h2;exact ydv (mx_nonneg e) mx_he
 ·rw[jE];refine ycy (max_le.mpr ⟨le_max_left _ _,?_⟩) B;exact ycy (max_le.mpr ⟨le_max_left _ _,zero_le _⟩) (le_max_right _ _)
theorem ya {r:O} (h:kU (app a (c e n r))):kU (c e n r):=by
 obtain⟨h1,h2,B⟩:=h;rw[fe] at h1;rw[jD] at h2;rw[jE] at B;exact⟨by lia,Int.lt_of_le_of_lt (Int.le_max_right _ _) h2,ycy (le_max_right _ _) B⟩
inductive Jn:Nat->O->O->Option O->Prop where
 | add {a b:O} (h:kU (plusO a b)):Jn 43 a b (some (plusO a b))
 | mul {e:O} {n:Int} (h:kU (c e n z)) (hn:1<=n):Jn 42 (c e 1 z) (c z n z) (some (c e n z))
 | pow {b:O} (h:kU (c b 1 z)) (hb:b≠z):Jn 94 om b (some (c b 1 z))
 | ref {n m:Int} (hn:2<=n) (hm:25<=m):Jn 94 (c z n z) (c z m z) none
inductive Rn:List bx->List O->Option O->Prop where
 | done (r:O):Rn [] [r] (some r)
 | num {a:O} {s:List bx} {st:List O} {x:Option O} (h:Rn s (a::st) x):Rn (.num a::s) st x
 | op {y:Nat} {a b r:O} {s:List bx} {st:List O} {x:Option O} (j:Jn y a b (some r)) (h:Rn s (r::st) x):Rn (.op y::s) (b::a::st) x
 | bad {y:Nat} {a b:O} {s:List bx} {st:List O} (j:Jn y a b none):Rn (.op y::s) (b::a::st) none
def dC (s:List bx) (a:O):Prop:=∀(t:List bx) (st:List O) (x:Option O),Rn t (a::st) x->Rn (s++t) st x
theorem fi (a:O):dC [.num a] a:=λ_ _ _ h=> .num h
theorem dC.all {s:List bx} (h:dC s a):Rn s [] (some a):=by
 have:=h [] [] _ (.done a)
 rwa [append_nil] at this
theorem vF (s t u:List bx) (x:bx):s++t++[x]++u=s++(t++(x::u)):=by simp
theorem kX {s t:List bx} {b r:O} {y:Nat} (h:dC s a) (g:dC t b) (B:Jn y a b (some r)):dC (s++t++[.op y]) r:=λu st x L=>by
 rw[vF];exact h _ _ _ (g _ _ _ (.op B L))
theorem tP (L:e≠z) (ih:dC (iR e) e) (B:kU (c e 1 z)):dC (l6 e (iR e)) (c e 1 z):=by
 unfold l6;split
 ·rename_i h1;rw[h1];exact fi _
 ·exact kX (s:=[.num om]) (fi om) ih (.pow B L)
theorem tQ (L:1<=n) (ih:dC (iR e) e) (Y:kU (c e n z)):dC (ku e n (iR e)) (c e n z):=by
 have hw:wh n=c z n z:=ycw (by lia);unfold ku;split
 ·rename_i S;rw[S,hw];exact fi _
 ·rename_i S;have B:=(jd Y).2.2 1 L;split
  ·rename_i h1;rw[h1];exact tP S ih B
  ·have:=kX (tP S ih B) (fi (wh n)) (by rw[hw];exact .mul Y L)
   rwa [append_assoc] at this
mutual
theorem mo:∀a:O,NF a->kU a->dC (iR a) a
 | z,_,_=>by unfold iR;exact fi z
 | c e n r,B,L=>λt st x Z=>by
   unfold iR;obtain⟨Y,f2,S⟩:=jd L;rw[append_assoc];exact tQ B.2.1 (mo e B.1 Y) (S n (Int.le_refl _)) _ _ _ (oE r (c e n z) B L _ _ _ Z)
theorem oE:∀(r a:O),NF (app a r)->kU (app a r)->∀(t:List bx) (st:List O) (x:Option O),Rn t (app a r::st) x->Rn (vw r++t) (a::st) x
 | z,a,_,_,t,st,x,Y=>by
   unfold vw
   rwa [CJ] at Y
 | c e n r,a,B,S,t,st,x,Y=>by
   unfold vw;have hc:=tL B;have Z:=ya S;have L:app (app a (c e n z)) r=app a (c e n r):=by rw[tI];rfl
   rw[append_assoc];refine tQ hc.2.1 (mo e hc.1 (jd Z).1) ((jd Z).2.2 n (Int.le_refl _)) _ _ _ ?_;refine .op (r:=app a (c e n z)) ?_ (oE r (app a (c e n z)) (by rw[L];exact B) (by rw[L];exact S) _ _ _ (by rw[L];exact Y));have:=Jn.add (a:=a) (b:=c e n z) (by rw[tK B];exact AZ S)
   rwa [tK B] at this
end
end _N
namespace _L
open PySem PySem.Spec PyProof.Rows _N
noncomputable def ag:O->List W
 | .z=>[]
 | .c e n r=> .tup [.tup (ag e),.int n]::ag r
noncomputable def fK (o:O):W:= .tup (ag o)
noncomputable def dD (e:O) (n:Int):W:= .tup [fK e,.int n]
theorem EM:ag .z=[]:=rfl
theorem bc (e:O) (n:Int) (r:O):ag (.c e n r)=dD e n::ag r:=rfl
theorem aL:∀a:O,(ag a).length=a.len
 | .z=>rfl
 | .c e n r=>by rw[bc,length_cons,aL r];rfl
theorem yb {e:O} {n:Int} (h:W.flats (ag e)=true):(dD e n).flat=true:=by
 simp[dD,fK,W.flat,W.flats,h]
theorem cx:∀a:O,W.flats (ag a)=true
 | .z=>by simp[ag,W.flats]
 | .c e n r=>by
   rw[bc];simp[W.flats,yb (cx e),cx r]
theorem yc (a:O):(fK a).flat=true:=by simp[fK,W.flat,cx a]
theorem gP:∀a:O,W.deps (ag a)<=2*a.dp
 | .z=>by simp[ag,W.deps]
 | .c e n r=>by
   have h1:=gP e;have h2:=gP r;rw[bc];simp only[W.deps,dD,fK,W.dep,O.dp];lia
theorem A0 (a:O):(fK a).dep<=2*a.dp+1:=by
 have:=gP a;simp only[fK,W.dep];lia
theorem je:∀a b:O,W.eqs (ag a) (ag b)=decide (a=b)
 | .z,.z=>by simp[ag,W.eqs]
 | .z,.c _ _ _=>by simp[ag,W.eqs]
 | .c _ _ _,.z=>by simp[ag,W.eqs]
 | .c e n r,.c B S L=>by
   have h1:=je e B;have h2:=je r L;simp only[ag,W.eqs,W.eq_tup,W.eq_int,h1,h2,Bool.and_true];rw[Bool.eq_iff_iff];simp only[Bool.and_eq_true,decide_eq_true_eq,beq_iff_eq,O.c.injEq];constructor
   ·rintro⟨⟨a,b⟩,c⟩;exact⟨a,b,c⟩
   ·rintro⟨a,b,c⟩;exact⟨⟨a,b⟩,c⟩
theorem rN (a b:O):(fK a).eq (fK b)=decide (a=b):=je a b
theorem EN (e B:O) (n L:Int):(dD e n).eq (dD B L)=(decide (e=B)&&decide (n=L)):=by
 have:=rN e B;simp only[dD,W.eq_tup,W.eq_int,W.eqs,this,Bool.and_true]
 congr 1
theorem eJ (a b:O):(W.tup (ag a)).eq (W.tup (ag b))=decide (a=b):=rN a b
theorem aI (a:O):(W.tup (ag a)).flat=true:=yc a
theorem bh (a:O):(W.tup (ag a)).dep<=2*a.dp+1:=A0 a
noncomputable def iw (n m:Int):Int:=if n<m then -1 else if m<n then 1 else 0
noncomputable def rO (e:O) (n:Int) (e':O) (n':Int):Int:=if O.cmp e e'≠0 then O.cmp e e' else iw n n'
theorem CM (e:O) (n:Int) (r L:O) (B:Int) (r':O):O.cmp (.c e n r) (.c L B r')=if rO e n L B≠0 then rO e n L B else O.cmp r r':=by
 unfold rO iw;rw[O.cmp]
 by_cases h:O.cmp e L=0
 ·rcases Int.lt_trichotomy n B with k | k | k
  ·have S:¬B<n:=by lia
   simp[h,k]
  ·subst k;simp[h]
  ·have S:¬n<B:=by lia
   simp[h,k,S]
 ·simp[h]
theorem tR (n m:Int):b2i (decide (m<n))-b2i (decide (n<m))=iw n m:=by
 unfold iw;rcases Int.lt_trichotomy n m with k | k | k
 ·have B:¬m<n:=by lia
  simp[b2i,k,B]
 ·subst k;simp[b2i]
 ·have B:¬n<m:=by lia
  simp[b2i,k,B]
theorem oF {a b:O} (h:ag a=ag b):a=b:=by
 have:=je a b;rw[h,W.eqs_refl _ (cx b)] at this;simpa using this.symm
theorem fj:∀a b:O,ag (a.app b)=ag a++ag b
 | .z,b=>by simp[O.app,ag]
 | .c e n r,b=>by
   show ag (.c e n (r.app b))=_;rw[bc,bc,fj r b]
   rfl
theorem HN {α:Type} (x:α) (xs:List α):dQ (x::xs) 0=some x:=by
 simp[dQ,wL]
theorem HP {α:Type} (x y:α) (xs:List α):dQ (x::y::xs) 1=some y:=by
 have h:(1:Int)<((xs.length:Int)+1+1):=by lia
 simp[dQ,wL,h]
theorem yd (i:Int):(W.int i).flat=true:=by simp[W.flat]
theorem A5 (i:Int):(W.int i).dep=0:=by simp[W.dep]
theorem rP (i j:Int):(W.int i).eq (W.int j)=(i==j):=rfl
theorem ye:(W.tup []).flat=true:=by simp[W.flat,W.flats]
theorem A6:(W.tup []).dep=1:=by simp[W.dep,W.deps]
theorem aQ (a:O):(W.tup (ag a)).eq (W.tup [])=decide (a=.z):=rN a .z
theorem Ln (i j:Int):(i==j)=decide (i=j):=by
 by_cases h:i=j<;> simp[h]
theorem am.done {q:Gp->Prop} (h:q G):∃G0,am G0 G/\q G0:=⟨G,am.refl G,h⟩
theorem a8 {C:Gp->Prop} {g:WG} {d:cj} (S:List W->bV->Gp->Prop) (L:∀τ G,S [] τ G->C G/\d.nx τ G)
 (step:∀w ws τ G (k:bV->Gp->Prop),S (w::ws) τ G->(∀B Y,S ws B Y->k B Y)->C G/\g w τ G λZ G2=>tb { d with nx:=k,ct:=k,bk:=d.nx } Z G2):∀ws τ G,S ws τ G->iO C g tb d ws τ G
 | [],τ,G,h=>L τ G h
 | w::ws,τ,G,h=>step w ws τ G _ h λB Y h3=>a8 S L step ws B Y h3
theorem A7 {x y:O} (h:du (ag x) (ag y)=[]):x=.z∨y=.z:=by
 cases x with
 | z=>exact .inl rfl
 | c e n r=>
   cases y with
   | z=>exact .inr rfl
   | c B S L=>simp[ag,du] at h
theorem yf {x y:O} {w:W} {ws:List W} (h:du (ag x) (ag y)=w::ws):∃e n r B S L,x=.c e n r/\y=.c B S L/\w=.tup [dD e n,dD B S]/\ws=du (ag r) (ag L):=by
 cases x with
 | z=>simp[ag,du] at h
 | c e n r=>
   cases y with
   | z=>simp[ag,du] at h
   | c B S L=>
     rw[bc,bc] at h;simp only[du,List.cons.injEq] at h;exact⟨e,n,r,B,S,L,rfl,rfl,h.1.symm,h.2.symm⟩
theorem mq (h:n<m):iw n m= -1:=by unfold iw;rw[ycv h]
theorem mw (h:m<n):iw n m=1:=by unfold iw;rw[ycw (by lia),ycv h]
theorem kY (n:Int):iw n n=0:=by unfold iw;simp
theorem oG {x y:O} (h:x=.z∨y=.z):O.cmp x y=iw x.len y.len:=by
 rcases h with rfl | rfl
 ·cases y with
  | z=>rfl
  | c e n r=>rw[mq (by simp only[O.len];lia)];rfl
 ·cases x with
  | z=>rfl
  | c e n r=>rw[mw (by simp only[O.len];lia)];rfl
theorem rQ {a b x y:Nat} (h:a+y=b+x):iw (a:Int) (b:Int)=iw (x:Int) (y:Int):=by
 rcases Nat.lt_trichotomy x y with k | k | k
 ·rw[mq (by lia),mq (by lia)]
 ·have:a=b:=by lia
  subst k this;rw[kY,kY]
 ·rw[mw (by lia),mw (by lia)]
theorem jJ:∀(a:O) (i:Nat),(ag a)[i]?=(a.getP i).map λp=>dD p.1 p.2
 | .z,i=>by simp[ag,O.getP]
 | .c e n r,0=>by rw[bc];rfl
 | .c e n r,i+1=>by
   rw[bc];simpa[O.getP] using jJ r i
theorem my {a:O} {e:O} {n:Int} (h:a.getP i=some (e,n)):dQ (ag a) (i:Int)=some (dD e n):=aA (by rw[jJ,h];rfl)
theorem kZ:∀(i:Nat) (a:O),(ag a).drop i=ag (O.dropO i a)
 | 0,a=>rfl
 | i+1,.z=>by simp[ag,O.dropO]
 | i+1,.c e n r=>by
   rw[bc];simpa[O.dropO] using kZ i r
theorem iy:∀(i:Nat) (a:O),(ag a).take i=ag (O.takeO i a)
 | 0,a=>by simp[O.takeO,ag]
 | i+1,.z=>by simp[ag,O.takeO]
 | i+1,.c e n r=>by
   rw[bc,List.take_succ_cons,iy i r]
   rfl
theorem yg (xs:List W) (k:Nat):cL xs none (some (k:Int))=xs.take k:=by
 unfold cL;rw[_H.sIx_none,_H.sIx_nat,drop_zero,sub_zero];rcases Nat.le_total k xs.length with h | h
 ·rw[Nat.min_eq_left h]
 ·rw[min_eq_right h,take_length,take_of_length_le h]
theorem jK (xs:List W) (k:Nat):cL xs (some (k:Int)) none=xs.drop k:=by
 unfold cL;rw[_H.sIx_none,_H.sIx_nat];rcases Nat.le_total k xs.length with h | h
 ·rw[Nat.min_eq_left h];exact take_of_length_le (by rw[length_drop];lia)
 ·rw[min_eq_right h,List.drop_length,List.drop_of_length_le h];simp
theorem m1 (n:Nat):(if (-1:Int)<0 then ((-1:Int)+(n:Int)).toNat else min (-1:Int).toNat n)=n-1:=by
 rw[ycv (by decide)];cases n with
 | zero=>rfl
 | succ n=>exact congrArg Int.toNat (show(-1:Int)+((n+1:Nat):Int)=(n:Int) by lia)
theorem tS (xs:List W):cL xs none (some (-1))=xs.take (xs.length-1):=by
 unfold cL;have e:_H.sIx xs.length xs.length (some (-1))=xs.length-1:=by
  exact m1 _
 rw[_H.sIx_none,e,drop_zero,sub_zero]
theorem vG (xs:List W):cL xs (some (-1)) none=xs.drop (xs.length-1):=by
 unfold cL;have e:_H.sIx xs.length 0 (some (-1))=xs.length-1:=by
  exact m1 _
 rw[_H.sIx_none,e];exact take_of_length_le (by rw[length_drop];lia)
theorem k7:∀a:O,O.takeO (a.len-1) a=O.init a
 | .z=>rfl
 | .c _ _ .z=>rfl
 | .c e n (.c B S L)=>by
   have h:=k7 (.c B S L);simp only[O.len,Nat.add_sub_cancel] at h ⊢;rw[O.takeO,h];simp[O.init]
theorem k8:∀a:O,O.dropO (a.len-1) a=O.last a
 | .z=>rfl
 | .c _ _ .z=>rfl
 | .c e n (.c B S L)=>by
   have h:=k8 (.c B S L);simp only[O.len,Nat.add_sub_cancel] at h ⊢;rw[O.dropO,h];simp[O.last]
theorem oH (a:O):cL (ag a) none (some (-1))=ag (O.init a):=by rw[tS,aL,iy,k7]
theorem yh (a:O):cL (ag a) (some (-1)) none=ag (O.last a):=by rw[vG,aL,kZ,k8]
theorem rR:∀{a:O},a≠ .z->∃e n,O.last a=.c e n .z/\a.getP (a.len-1)=some (e,n)
 | .z,h=>absurd rfl h
 | .c e n .z,_=>⟨e,n,rfl,rfl⟩
 | .c e n (.c B S L),_=>by
   obtain⟨x,m,h1,h2⟩:=rR (a:= .c B S L) (by simp);refine⟨x,m,?_,?_⟩
   ·rw[←h1];simp[O.last]
   ·simp only[O.len,Nat.add_sub_cancel] at h2 ⊢;rw[←h2];simp[O.getP]
theorem jL {xs:List W} {w:W} (h:xs[xs.length-1]?=some w):dQ xs (-1)=some w:=by
 have B:xs.length-1<xs.length:=(List.getElem?_eq_some_iff.mp h).1;unfold dQ wL;rw[ycw (by lia),ycv (by lia)];show xs[((-1:Int)+(xs.length:Int)).toNat]?=some w;rw[←h]
 congr 1
 lia
theorem eK {a:O} {e:O} {n:Int} (h:a.getP (a.len-1)=some (e,n)):dQ (ag a) (-1)=some (dD e n):=jL (by rw[aL,jJ,h];rfl)
theorem jM:∀a b:O,W.ords (ag a) (ag b)=true/\W.lts (ag a) (ag b)=decide (O.cmp a b<0)
 | .z,.z=>by simp[ag,W.ords,W.lts,O.cmp]
 | .z,.c _ _ _=>by simp[ag,W.ords,W.lts,O.cmp]
 | .c _ _ _,.z=>by simp[ag,W.ords,W.lts,O.cmp]
 | .c e n r,.c B L r'=>by
   obtain⟨Y,l1⟩:=jM e B;obtain⟨o2,l2⟩:=jM r r';rw[bc,bc,W.ords,W.lts,EN]
   by_cases h:(decide (e=B)&&decide (n=L))=true
   ·rw[ycv h,ycv h];have h':e=B/\n=L:=by simpa using h
    obtain⟨rfl,rfl⟩:=h';refine⟨o2,?_⟩;rw[l2,O.cmp,ycw (by rw[O.cmp_self];simp),ycw (by lia),ycw (by lia)]
   ·rw[ycw h,ycw h];have Z:(W.tup (ag e)).eq (W.tup (ag B))=decide (e=B):=eJ e B;unfold dD fK;rw[W.ord,W.lt,W.ords,W.lts,Z]
    by_cases q:e=B
    ·subst q;rw[ycv (by simp),ycv (by simp),W.ords,W.lts];have S:¬n=L:=λz=>h (by simp[z]);rw[rP,ycw (by simpa using S),ycw (by simpa using S),W.ord,W.lt];refine⟨rfl,?_⟩;rw[O.cmp,ycw (by rw[O.cmp_self];simp)]
     by_cases k:n<L
     ·rw[ycv k];simp[k]
     ·rw[ycw k,ycv (by lia)];simp[k]
    ·rw[ycw (by simpa using q),ycw (by simpa using q),W.ord,W.lt];refine⟨Y,?_⟩;rw[l1,O.cmp,ycv (λz=>q (O.cmp_eq _ _ z))]
theorem k9 (a:O) (h:a.dp<=70):W.deps (ag a)<=149:=by
 have:=gP a;lia
def Df (K:yav) (mg:yew) (x:Str) (st:Stmt) (ps:List Str):Prop:=∃(f:Addr) (fd:FuncData),bf K x x st f fd/\bv K fd ps []/\mg x=some (.ref f)
theorem Df.fx (D:Df K mg x st ps) (h:∀(f:Addr) (fd:FuncData),bf K x x st f fd->io P w K mg base k f fd ps sp):Fx P w K mg base x ps k sp:=by
 obtain⟨f,fd,F,b,m⟩:=D;exact⟨f,fd,h f fd F,m,F.kp,b⟩
def jN:aX:=λws _ q _=>∃ns:List Int,ws=[.scr ns]/\ns.length<=63/\∀G',q (.bl true) G'
theorem EO (L:wQ H) (B:cG K H a (ns.map V.int)):Cq K H a ns:=by
 rcases B with(h | h) | h
 ·rcases L a with z | ⟨o,xs,z⟩
  ·rw[z] at h;cases h
  ·rw[z] at h;cases h
 ·exact .inl h
 ·exact .inr h
theorem vH (L:wQ H) (B:cG K H a (ns.map V.int)) (S:ns.length<=63):xf K jN [.ref a] H (λv _=>v=.bl true) λ_ _ _=>False:=
 ⟨[.scr ns],λ_=>none,λw _=>w=.bl true,λ_ _=>False,.cons (.scr (EO L B)) .nil,λ_ _ e=>(by cases e),⟨ns,rfl,S,λ_=>rfl⟩,λv H1 w Y _ r _ e=>(by subst e;cases r;rfl),λ_ _ _ _ _ _ z=>z⟩
noncomputable def cf (os:List O):List W:=os.map λo=> .tup (ag o)
theorem bB (os:List O):(cf os).length=os.length:=length_map _
theorem yi {os:List O} (h:os[i]?=some o):(cf os)[i]?=some (.tup (ag o)):=by
 unfold cf;rw[List.getElem?_map,h];rfl
theorem A8 {os:List O} {i:Int} (h0:0<=i) (h1:i<os.length):∃o,o∈os/\dQ (cf os) i=some (.tup (ag o)):=by
 have B:i.toNat<os.length:=by lia
 have e:((i.toNat:Nat):Int)=i:=Int.toNat_of_nonneg h0;have q:=aA (yi (ycz B));rw[e] at q;exact⟨_,getElem_mem B,q⟩
theorem cQ (os:List O) (o:O):cf os++[.tup (ag o)]=cf (os++[o]):=by simp[cf]
theorem iz {i j:Int} (h:0<j):0<=i%j/\i%j<j:=⟨Int.emod_nonneg _ (by lia),Int.emod_lt_of_pos _ h⟩
theorem oI {os:List O} {X n:Int} {R:W->Prop} (L:n=(os.length:Int)) (h0:0<os.length) (B:∀o,o∈os->R (.tup (ag o))):∃w,dQ (cf os) (X%n)=some w/\R w:=by
 have h:=iz (i:=X) (j:=n) (by lia);obtain⟨o,m,e⟩:=A8 (os:=os) (i:=X%n) h.1 (by lia);exact⟨_,e,B o m⟩
theorem oJ {A B X lo:Int} {R:W->Prop} (L:lo<=A/\A<hi) (Y:lo<=B/\B<hi) (S:∀m,lo<=m->m<hi->R (.int m)):∃w,dQ [W.int A,W.int B] (X%2)=some w/\R w:=by
 have h:=iz (i:=X) (j:=2) (by lia);have k:X%2=0∨X%2=1:=by lia
 rcases k with k | k
 ·rw[k];exact⟨_,HN _ _,S A L.1 L.2⟩
 ·rw[k];exact⟨_,HP _ _ _,S B Y.1 Y.2⟩
theorem EQ (j:Int):DB 10 j=(0<=j/\j<=1000000):=by
 unfold DB;have:(10:Int).natAbs<2^64:=by decide
 simp[this]
theorem au {t u:WS} {d:cj} {τ:bV} {G:Gp} (h:∀U:WS,U=u->t { d with nx:=U d } τ G):jy t u d τ G:=h u rfl
theorem ah (h:G b=some g') (B:G a=none):av G a g b=some g':=by
 rw[ao (λz=>by rw[z,B] at h;cases h)];exact h
theorem fk (p:O->Int->Bool):∀a:O,(a.filt p).len<=a.len
 | .z=>ycx _
 | .c e n r=>by
   have:=fk p r;rw[O.filt_c];split<;> simp only[O.len]<;> lia
theorem CN {i:Int} {R:List W->W->Prop} (h:∃w,dQ xs i=some w/\R xs w):∃B w,xs=B/\dQ B i=some w/\R B w:=by
 obtain⟨w,e,r⟩:=h;exact⟨xs,w,rfl,e,r⟩
theorem jO {g:Option GO} {i:Int} {R:List W->W->Prop} (e:g=some (.lst xs)) (h:∃w,dQ xs i=some w/\R xs w):∃B w,g=some (.lst B)/\dQ B i=some w/\R B w:=by
 obtain⟨w,L,r⟩:=h;exact⟨xs,w,e,L,r⟩
theorem A9 (G:Gp) (i:Int):kO G (.int i)=some "int":=rfl
theorem ES (G:Gp) (b:Bool):kO G (.bl b)=some "bool":=rfl
theorem Ba (G:Gp) (ws:List W):kO G (.tup ws)=some "tuple":=rfl
theorem Bb (G:Gp):kO G .non=some "NoneType":=rfl
theorem Bc:fI "int" "int"=true:=by decide
theorem Be:fI "int" "bool"=false:=by decide
theorem Bf:fI "int" "tuple"=false:=by decide
theorem Bh:fI "bool" "int"=true:=by decide
theorem Bi:fI "bool" "bool"=true:=by decide
theorem Bj:fI "bool" "tuple"=false:=by decide
theorem Bk:fI "tuple" "tuple"=true:=by decide
theorem Bl:fI "tuple" "int"=false:=by decide
theorem Bm:fI "tuple" "bool"=false:=by decide
theorem Bn:fI "list" "list"=true:=by decide
theorem Bo:fI "NoneType" "tuple"=false:=by decide
theorem ET:((0:Nat):Int)=0:=rfl
theorem EU:((1:Nat):Int)=1:=rfl
theorem EV:((2:Nat):Int)=2:=rfl
theorem EW:((3:Nat):Int)=3:=rfl
theorem mB (I:Nat->bV->Gp->Prop) (h0:∃m,I m τ G)
 (h:∀m τ G,I m τ G->∀B:WS,B=tb->c τ G λb L=>if b=true then ∃N:bV->Gp->Prop,(∀S L,N S L->∃m1,m1<m/\I m1 S L)/\B { d with nx:=N,ct:=N,bk:=d.nx } τ L else d.nx τ L):xc c tb d τ G:=
 ⟨I,h0,λm τ G Y=>h m τ G Y tb rfl⟩
theorem ND {c:WT} {t u:WS} {d:cj} {τ:bV} {G:Gp} (h:∀T U:WS,T=t->U=u->c τ G λb B=>if b=true then T d τ B else U d τ B):K1 c t u d τ G:=h t u rfl rfl
theorem Lo {α:Type} (x y v:α) (xs:List α):dQ (x::y::v::xs) 2=some v:=aA (j:=2) rfl
theorem oK (n i:Nat) (h:i<n):(wc n).drop i=.int (i:Int)::(wc n).drop (i+1):=by
 have B:i<(wc n).length:=by simp[wc,h]
 rw[drop_eq_getElem_cons B]
 congr 1
 simp[wc]
theorem mE {C:Gp->Prop} {g:WG} {d:cj} {τ:bV} (n:Nat) (S:Nat->bV->Gp->Prop) (h0:S 0 τ G) (Y:∀τ G,S n τ G->C G/\d.nx τ G)
 (step:∀(i:Nat) τ G (k:bV->Gp->Prop),i<n->S i τ G->(∀B Z,S (i+1) B Z->k B Z)->C G/\g (.int (i:Int)) τ G λab G2=>tb { d with nx:=k,ct:=k,bk:=d.nx } ab G2):iO C g tb d (wc n) τ G:=by
 refine a8 (λws τ G=>∃i,i<=n/\ws=(wc n).drop i/\S i τ G) ?_ ?_ _ _ _ ⟨0,zero_le _,rfl,h0⟩
 ·rintro τ G ⟨i,hi,hw,hI⟩;have:i=n:=by
   rcases Nat.lt_or_ge i n with k | k
   ·rw[oK n i k] at hw;cases hw
   ·lia
  subst this;exact Y τ G hI
 ·rintro w ws τ G k ⟨i,hi,hw,hI⟩ hk;have L:i<n:=by
   rcases Nat.lt_or_ge i n with j | j
   ·exact j
   ·rw[List.drop_of_length_le (by simp[wc];lia)] at hw;cases hw
  rw[oK n i L] at hw;cases hw;exact step i τ G k L hI λB Z h3=>hk B Z ⟨i+1,L,rfl,h3⟩
theorem oM (lo c:Int) (n i:Nat) (h:i<n):(vk lo c n).drop i=.int (lo+(i:Int)*c)::(vk lo c n).drop (i+1):=by
 have B:i<(vk lo c n).length:=by simp[vk,h]
 rw[drop_eq_getElem_cons B]
 congr 1
 simp[vk]
theorem yj {C:Gp->Prop} {g:WG} {d:cj} {τ:bV} (lo c:Int) (n:Nat) (S:Nat->bV->Gp->Prop) (h0:S 0 τ G) (Y:∀τ G,S n τ G->C G/\d.nx τ G)
 (step:∀(i:Nat) τ G (k:bV->Gp->Prop),i<n->S i τ G->(∀B Z,S (i+1) B Z->k B Z)->C G/\g (.int (lo+(i:Int)*c)) τ G λab G2=>tb { d with nx:=k,ct:=k,bk:=d.nx } ab G2):iO C g tb d (vk lo c n) τ G:=by
 refine a8 (λws τ G=>∃i,i<=n/\ws=(vk lo c n).drop i/\S i τ G) ?_ ?_ _ _ _ ⟨0,zero_le _,rfl,h0⟩
 ·rintro τ G ⟨i,hi,hw,hI⟩;have:i=n:=by
   rcases Nat.lt_or_ge i n with k | k
   ·rw[oM lo c n i k] at hw;cases hw
   ·lia
  subst this;exact Y τ G hI
 ·rintro w ws τ G k ⟨i,hi,hw,hI⟩ hk;have L:i<n:=by
   rcases Nat.lt_or_ge i n with j | j
   ·exact j
   ·rw[List.drop_of_length_le (by simp[vk];lia)] at hw;cases hw
  rw[oM lo c n i L] at hw;cases hw;exact step i τ G k L hI λB Z h3=>hk B Z ⟨i+1,L,rfl,h3⟩
def kx (Pd:O->Int->Prop):O->Prop
 | .z=>True
 | .c e n r=>Pd e n/\kx Pd r
theorem kx.imp (h:∀e n,L e n->B e n):∀{a:O},kx L a->kx B a
 | .z,_=>trivial
 | .c _ _ _,k=>⟨h _ _ k.1,kx.imp h k.2⟩
theorem fG:∀a:O,kx (λe _=>e.dp<a.dp/\e.size<a.size) a
 | .z=>trivial
 | .c e n r=>⟨by simp only[O.dp,O.size];lia,(fG r).imp λx m h=>by simp only[O.dp,O.size];lia⟩
theorem tT:∀a:O,kx (λe _=>e.dp<a.dp/\O.hw e<=O.hw a) a
 | .z=>trivial
 | .c e n r=>⟨by rw[O.hw_c];simp only[O.dp];lia,(tT r).imp λx m h=>by rw[O.hw_c];simp only[O.dp];lia⟩
noncomputable def mapP (p:O->Int->Bool) (f:O->Int->W):O->List W
 | .z=>[]
 | .c e n r=>if p e n then f e n::mapP p f r else mapP p f r
theorem jP (p:O->Int->Bool):∀a:O,mapP p dD a=ag (a.filt p)
 | .z=>rfl
 | .c e n r=>by
   rw[mapP,O.filt_c,jP p r];split
   ·rw[bc]
   ·rfl
theorem lc:∀a:O,∃ns:List Int,mapP (λ_ _=>true) (λe _=> .int e.size) a=ns.map W.int/\(a.len:Int)+ns.sum=a.size
 | .z=>⟨[],rfl,rfl⟩
 | .c e n r=>by
   obtain⟨ns,h1,h2⟩:=lc r;refine⟨(e.size:Int)::ns,by rw[mapP,h1];rfl,?_⟩;simp only[O.len,O.size,sum_cons];lia
theorem lg (x:O):∀a:O,∃ns:List Int,mapP (λe _=>decide (e=x)) (λ_ n=> .int n) a=ns.map W.int/\ns.sum=O.same x a
 | .z=>⟨[],rfl,rfl⟩
 | .c e n r=>by
   obtain⟨ns,h1,h2⟩:=lg x r
   by_cases h:e=x
   ·subst h;refine⟨n::ns,by rw[mapP,ycv (by simp),h1];rfl,?_⟩;rw[O.same_eq,sum_cons,h2]
   ·refine⟨ns,by rw[mapP,ycw (by simpa using h),h1],?_⟩;rw[O.same_ne h,h2]
theorem cR {C:Gp->Prop} {i:Nat} {τ0:bV} {q:List W->Gp->Prop} {Pd:O->Int->Prop} (p:O->Int->Bool) (f:O->Int->W) (Z:C G):∀{a:O} {B:List W} {τ:bV},kx Pd a->
 (∀e n,Pd e n->∀k:Bool->Gp->Prop,k (p e n) G->tt (τ0.set i (some (dD e n))) G k)->(∀e n,Pd e n->p e n=true->∀k:W->Gp->Prop,k (f e n) G->te (τ0.set i (some (dD e n))) G k)->B.length+a.len<=100000->(∀x,τ.set i x=τ0.set i x)->
 q (B++mapP p f a) G->bw C (bJ i) tt te (ag a) τ G B q
 | .z,B,τ,_,_,_,_,_,S=>⟨Z,by simpa[mapP] using S⟩
 | .c e n r,B,τ,Y,ht,he,hl,ab,S=>by
   rw[bc];refine⟨Z,?_⟩;show tt (τ.set i (some (dD e n))) G _;rw[ab];refine ht e n Y.1 _ ?_;have L:∀x,(τ0.set i (some (dD e n))).set i x=τ0.set i x:=λx=>set_set ..;simp only[O.len] at hl;rw[mapP] at S;cases hp:p e n with
   | true=>
     rw[ycv rfl];refine he e n Y.1 hp _ ⟨by lia,?_⟩;rw[hp,ycv rfl] at S;exact cR p f Z Y.2 ht he (by rw[length_append];simp;lia) L (by simpa using S)
   | false=>
     rw[ycw ydx];rw[hp,ycw ydx] at S;exact cR p f Z Y.2 ht he (by lia) L S
theorem am.put (h:am G B) (L:G p=none):am G (av B p g):=λa u e=>by
 have:=h a u e;unfold av;split
 ·rename_i q;subst q;rw[L] at e;cases e
 ·exact this
noncomputable def oN:Int:=(10^172)^7
theorem tU {i:Int} (h0:0<=i) (h:i<=oN):i.natAbs<2^4000:=by
 have h2:oN<((2^4000:Nat):Int):=by decide+kernel
 generalize (2:Nat)^4000=B at h2 ⊢;lia
theorem Bp {i j:Int} (h1:0<=i) (h2:i<=oN) (L:0<=j) (B:j<=oN):Er i j:=⟨tU h1 h2,tU L B⟩
end _L
namespace _N
namespace O
end O
end _N
namespace _L
open PySem PySem.Spec PyProof.Rows _N
section
variable {sp:aX}
theorem Df.rx (D:Df K mg x st ps) (h:∀(f:Addr) (fd:FuncData),bf K x x st f fd->sX P w K mg base k f fd ps sp):Rx P w K mg base x ps k sp []:=by
 obtain⟨f,fd,F,b,m⟩:=D;exact⟨f,fd,[],[],h f fd F,m,F.kp,b,.nil,λ_=> .nil⟩
theorem DfD.rx (D:DfD K mg x st ps dws) (h:∀(f:Addr) (fd:FuncData) (T:Addr) (ds:yez),ir K x x st f fd T ds->sX P w K mg base k f fd ps sp):Rx P w K mg base x ps k sp []:=by
 obtain⟨f,fd,T,ds,dvs,F,b,B,m,_,_⟩:=D;exact⟨f,fd,[],[],h f fd T ds F,m,F.kp,b,.nil,λ_=> .nil⟩
end
open PySem PySem.Spec PyProof.Rows PySem.W
@[irreducible] def NZ (i:Int):Prop:=i.natAbs<2^1048576
@[irreducible] def Wide (i:Int):Prop:=i.natAbs<2^1048577
set_option exponentiation.threshold 500 in
def HQ (i j:Int):Prop:=(Wide i/\j.natAbs<2^4000)∨(i.natAbs<2^4000/\Wide j)
def lh (i j:Int):Prop:=sW i j∨HQ i j
theorem lh.ok {i j:Int} (h:lh i j):IntMulOk i j:=by
 have B:∀{x y:Int},Wide x->y.natAbs<2^4000->¬(((Builtin.Int.intBits x+Builtin.Int.intBits y:Int)) > bitsLine):=λ{x y} h1 h2=>by
  unfold Wide at h1;have L:=PyProof.Rows.intBits_le h1;have b2:=PyProof.Rows.intBits_le h2;have hb:(1053000:Int)<=bitsLine:=by decide
  lia
 rcases h with h | ⟨h1,h2⟩ | ⟨h1,h2⟩
 ·exact h.ok
 ·have:=B h1 h2;unfold IntMulOk Builtin.Int.intTooBig;simp[this]
 ·have:=B h2 h1;rw[Int.add_comm] at this;unfold IntMulOk Builtin.Int.intTooBig;simp[this]
theorem Bq:hV X (binaryOp .Mult) (rI lh λi j=> .int (i*j)):=Gw λ_ _ _ _ _ _ _ B q=>mul_int q B.ok
open PySem PySem.Spec PyProof.Rows
theorem aJ.rep (r:aJ K H ws vs):∀k:Nat,aJ K H (List.replicate k ws).flatten (List.replicate k vs).flatten
 | 0=> .nil
 | k+1=>by
   rw[replicate_succ,flatten_cons,replicate_succ,flatten_cons];exact r.append (aJ.rep r k)
end _L
namespace _N
namespace O
end O
end _N
namespace _L
open PySem PySem.Spec PyProof.Rows
section
theorem mF (z:Str):z.cps.toList.length=z.length:=by simp[Str.length]
def fS:W2:=λx y G q=>match x,y with
 | .str a,.str b=>a.length+b.length<=100000/\q (.str (a++b)) G
 | x,y=>Ha x y G q
theorem iA:eo X (binaryOp .Add) fS:=by
 rintro π s σ H x y v u Q I rx S ⟨wx,Z,G,q,B,Y,g,h,L⟩;unfold fS at h;split at h
 ·cases B;cases Y;exact pP π s σ H _ _ v u Q I rx S ⟨_,_,rfl,rfl,bA h.1,L _ H _ G (aE.refl H) (.str _) g h.2⟩
 ·exact Hb π s σ H x y v u Q I rx S ⟨wx,Z,G,q,B,Y,g,h,L⟩
def yk:W2:=λx y G q=>match x,y with
 | .int i,.int j=>lh i j/\q (.int (i*j)) G
 | _,_=>False
theorem EX:eo X (binaryOp .Mult) yk:=by
 rintro π s σ H x y v u Q I rx S ⟨wx,Z,G,q,B,Y,g,h,L⟩;unfold yk at h;split at h
 ·cases B;cases Y;exact Bq π s σ H _ _ v u Q I rx S ⟨_,_,rfl,rfl,h.1,L _ H _ G (aE.refl H) (.int _) g h.2⟩
 ·exact h.elim
def ym:W2:=λx y G q=>match x,y with
 | .str z,.int i=>z.length<=100000/\∃c,dQ z.cps.toList i=some c/\q (.str ⟨#[c]⟩) G
 | x,y=>Hg x y G q
theorem HR:FW X ym:=by
 rintro value B π s σ H x y v u Q I rx Z ⟨wx,wy,G,q,S,r2,g,h,Y⟩ L;unfold ym at h;split at h
 ·obtain⟨hz,c,e,h⟩:=h;cases S;cases r2;exact DR value B π s σ H _ _ v u Q I rx Z ⟨_,_,c,rfl,rfl,bA hz,e,Y _ H _ G (aE.refl H) (.str _) g h⟩ L
 ·exact K4 value B π s σ H x y v u Q I rx Z ⟨wx,wy,G,q,S,r2,g,h,Y⟩ L
def yn:List W->Gp->WK->Prop:=λws G q=>match ws with
 | [.str z]=>z.length<=100000/\q (.int z.length) G
 | ws=>GY ws G q
theorem EY:cV X (.builtin "len") yn:=by
 rintro π s σ H xs us Q I r ⟨ws,G,q,B,g,h,L⟩;unfold yn at h;split at h
 ·obtain⟨v,rfl,S⟩:=B.one;cases S;exact lN π s σ H _ us Q I r ⟨_,rfl,bA h.1,L _ H _ G (aE.refl H) (.int _) g h.2⟩
 ·exact Cv π s σ H xs us Q I r ⟨ws,G,q,B,g,h,L⟩
theorem iS (c:Nat):∀l:List Nat,Spec.countIn (PyData.str ⟨#[c]⟩) (l.map λn=>PyData.str ⟨#[n]⟩)=((l.count c:Nat):Int)
 | []=>rfl
 | n::l=>by
   rw[map_cons];show(if Spec.same (PyData.str ⟨#[n]⟩) (PyData.str ⟨#[c]⟩)=true then (1:Int) else 0)+Spec.countIn (PyData.str ⟨#[c]⟩) (l.map λn=>PyData.str ⟨#[n]⟩)=_;have e:Spec.same (PyData.str ⟨#[n]⟩) (PyData.str ⟨#[c]⟩)=(n==c):=by
    by_cases h:n=c
    ·subst h;simp[Spec.same]
    ·have h2:(n==c)=false:=by simpa using h
     rw[h2];simp only[Spec.same];rw[beq_eq_false_iff_ne];intro B;exact h (by simpa using congrArg (λs:Str=>s.cps) B)
   rw[iS c l,e,List.count_cons];split<;> lia
theorem rS (x:Str) (c:Nat):Txt.count x ⟨#[c]⟩=((x.cps.toList.count c:Nat):Int):=by
 have h:=count_closes1 (x:=x) (y:=⟨#[c]⟩) (c:=c) rfl;rw[iS] at h;exact eq_of_beq h
noncomputable def Lp (x:Str):It:=⟨λi _=>i<x.cps.toList.length,λi H y H'=>H'=H/\∃c,x.cps.toList[i]?=some c/\y=.str ⟨#[c]⟩,λi _=>x.cps.toList.length<=i⟩
theorem lj (B:A.handled=none) (it:Addr) (x:Str) (t:Tok):Walks P w A it [it] [it] x.cps.size (SignAt x) (λi h=>h.IsStrIter it (strIterType x) x t i):=by
 unfold strIterType;split
 ·exact Walks.strAscii B it x t
 ·exact Walks.strWide B it x t
theorem yo (it:Addr) (x:Str) (t:Tok):km P w K tg (Lp x) [it] it (λi h=>i<=x.cps.size/\h.IsStrIter it (strIterType x) x t i) where
 mem:=by simp
 obj:=λi h st b hb=>by
  have e:b=it:=by simpa using hb
  subst e;obtain⟨_,o,S,L,Y⟩:=st;exact⟨_,S,λv z=>by rw[Y] at z;cases z⟩
 keep:=λi h h' st k=>by
  obtain⟨hi,o,S,L,Y⟩:=st;exact⟨hi,o,k it (by simp) _ S,L,Y⟩
 item:=by
  intro X hP hw hK hc i π s σ H E I hf st hg;subst hP hw hK;obtain⟨f0,f1,f2,f3,f4,f5⟩:=hf it (by simp);have B:i<x.cps.size:=by
   have h:i<x.cps.toList.length:=hg;simpa using h
  refine(lj (I.ok.hd hc) it x t).item i s _ _ B st.2 λv h' tk hv Z kk=>?_;obtain⟨c,u,e,rfl⟩:=hv;have I1:aw X π σ H { s with heap:=h',toks:=tk }:=I.turned (λb o hb e=>kk b o (by simpa using hb) e) f0 f1 f3 f4 f5;obtain⟨o,S,L,Y⟩:=id Z;refine⟨_,rfl,kE (s:={ s with heap:=h',toks:=tk }) (n:=strIterType x) S L Y ?_ ⟨.str ⟨#[c]⟩,H,I1,⟨u,rfl⟩,⟨rfl,c,by simpa using e,rfl⟩,⟨B,Z⟩,λb hb=>(hf b hb).1⟩⟩;unfold strIterType;split<;> decide
 done:=by
  intro X hP hw hK hc i π s σ H E I hf st hg;subst hP hw hK;obtain⟨f0,f1,f2,f3,f4,f5⟩:=hf it (by simp);have B:x.cps.size<=i:=by
   have h:x.cps.toList.length<=i:=hg;simpa using h
  have hi:i=x.cps.size:=Nat.le_antisymm st.1 B;subst hi;exact(lj (I.ok.hd hc) it x t).done s _ _ st.2 λh' tk kk=>⟨rfl,I.turned (t':=tk) (λb o hb e=>kk b o (by simpa using hb) e) f0 f1 f3 f4 f5⟩
 self:=λA i s Q E st h=>by
  obtain⟨_,o,S,L,Y⟩:=st;unfold strIterType at L;split at L
  ·exact wpAny_pyIter_striter_ascii ⟨o,S,L,Y⟩ h
  ·exact wpAny_pyIter_striter_wide ⟨o,S,L,Y⟩ h
noncomputable def HS (l:List Nat):List W:=l.map λc=> .str ⟨#[c]⟩
theorem Br:sS K (Lp x) (HS x.cps.toList) (λ_=>True) H where
 stop:=λi H1 G t g _ Y=>by
  have h:x.cps.toList.length<=i:=by simpa[HS] using Y
  exact h
 go:=λi w H1 G t g _ e=>by
  unfold HS at e;rw[List.getElem?_map] at e;cases h:x.cps.toList[i]? with
  | none=>rw[h] at e;cases e
  | some c=>
    rw[h] at e;cases e;refine⟨(List.getElem?_eq_some_iff.mp h).1,λy H' ⟨S,Z,B,L⟩=>?_⟩;subst S L;rw[h] at B;cases B;exact⟨aE.refl _,.str _,g⟩
variable {tg:Expr}
theorem Bs (hl:PE X l tl):PI X tg l (λσ H R=>tl σ H λx H1=>(∃z,x=.str z/\R (Lp z) H1)∨∃a,x=.ref a/\(((∃xs,cG X.K H1 a xs)/\R (Ki X.K a) H1)∨((∃xs,dG X.K H1 a xs)/\R (KF X.K a) H1))):=by
 intro π s σ H R I h;refine bE (hl π s σ H _ I h) λv B z9=>?_;obtain⟨x,H1,L,r1,Z⟩:=z9;rcases Z with⟨z,rfl,q⟩ | ⟨a,e,Z⟩
 ·obtain⟨t,rfl⟩:=r1;refine wpAny_pyIter_strU ?_;refine⟨B.heap.objs.size,[B.heap.objs.size],_,_,H1,rfl,L.kept (t':=B.toks) λb o e=>ybz _ e,yo _ z t,⟨zero_le _,_,ybw _ rfl,rfl,rfl⟩,λb hb=>?_,q⟩;have e:b=B.heap.objs.size:=by simpa using hb
  subst e;exact L.fpOk (ycx _) (L.hok.fresh (ycx _))
 ·subst e;cases r1;rcases Z with⟨⟨xs,Y⟩,q⟩ | ⟨⟨xs,Y⟩,q⟩
  ·obtain⟨S,rv,p,hz⟩:=L.list Y;refine wpAny_pyIter_list p.isList ?_;refine⟨B.heap.objs.size,[B.heap.objs.size],_,_,H1,rfl,L.kept (t':=B.toks) λb o e=>ybz _ e,uP a _,⟨_,ybw _ rfl,rfl,rfl⟩,λb hb=>?_,q⟩;have e:b=B.heap.objs.size:=by simpa using hb
   subst e;exact L.fpOk (ycx _) (L.hok.fresh (ycx _))
  ·obtain⟨S,rv,p,hz⟩:=L.tuple Y;refine wpAny_pyIter_tuple (show B.heap.IsTuple a S.toArray from p) ?_;refine⟨B.heap.objs.size,[B.heap.objs.size],_,_,H1,rfl,L.kept (t':=B.toks) λb o e=>ybz _ e,pL a _,⟨_,ybw _ rfl,rfl,rfl⟩,λb hb=>?_,q⟩;have e:b=B.heap.objs.size:=by simpa using hb
   subst e;exact L.fpOk (ycx _) (L.hok.fresh (ycx _))
def CO (te:WE):WI:=λτ G r=>te τ G λx G1=>match x with
 | .str z=>r (HS z.cps.toList) (λ_=>True) G1
 | .tup ws=>r ws (λ_=>True) G1
 | .scr ns=>r (ns.map W.int) (λ_=>True) G1
 | .ref a=>∃ws,G1 a=some (.lst ws)/\r ws (λG=>G a=some (.lst ws)) G1
 | _=>False
theorem mG (hl:QE X l te):QI X tg l (CO te):=
 (Bs hl).imp λσ H R z9=>(by obtain⟨τ,G,r,hs,hg,ht,Z⟩:=z9;exact ⟨τ,G,_,hs,hg,ht,λv H1 w Y t1 S L B=>by
   split at B
   ·cases S;exact .inl ⟨_,rfl,Z _ H1 _ _ Y t1 L Br B⟩
   ·cases S with
    | tup h rr=>exact .inr ⟨_,rfl,.inr ⟨⟨_,dG.of h⟩,Z _ H1 _ _ Y t1 L (Ax h rr) B⟩⟩
   ·cases S with
    | scr h=>exact .inr ⟨_,rfl,.inl ⟨⟨_,h.sq⟩,Z _ H1 _ _ Y t1 L (Az h) B⟩⟩
   ·obtain⟨ws,e,B⟩:=B;cases S;obtain⟨_,xs,h1,_⟩:=L _ _ e;exact .inr ⟨_,rfl,.inl ⟨⟨xs,cG.of h1⟩,Z _ H1 _ _ Y t1 L Ay B⟩⟩
   ·exact B.elim⟩)
noncomputable def vI (ts:List Str):Str:=⟨(ts.map λt=>t.cps.toList).flatten.toArray⟩
theorem iT:∀(B:List Str) (b:Array Nat),List.foldl (λL (p:Str)=>L++(#[]:Array Nat)++p.cps) b B=b++(B.map λt=>t.cps.toList).flatten.toArray
 | [],b=>by simp
 | t::B,b=>by
   rw[List.foldl_cons,iT B];apply Array.toList_inj.mp;simp
theorem yp (ts:List Str):Txt.join ⟨#[]⟩ ts=vI ts:=by
 unfold Txt.join Builtin.Str.glued vI;cases ts with
 | nil=>rfl
 | cons t ts=>
   show Str.mk (List.foldl (λB (p:Str)=>B++(#[]:Array Nat)++p.cps) t.cps ts)=_;rw[iT];apply congrArg;apply Array.toList_inj.mp;simp
def HU (K:yav):V->List V->Hp->VK->Prop:=λx vs H Q=>∃l ts,x=.str ⟨#[]⟩/\vs=[.ref l]/\cG K H l (ts.map V.str)/\(ts.map λt=>t.length).sum<=100000/\Q (.str (vI ts)) H
theorem jQ:∀{L:List Str} {B:yez},aK (L.map V.str) B->StrsAre B L
 | [],_,h=>by cases h;exact .nil
 | t::L,_,h=>by
   cases h with
   | cons r S=>
     obtain⟨k,rfl⟩:=r;exact .cons _ _ (jQ S)
theorem Bt:Cp X "str.join" (HU X.K):=by
 intro π s σ H x vs v us Q I rx B h;obtain⟨l,L,rfl,rfl,hl,Y,q⟩:=h;obtain⟨t,rfl⟩:=rx;obtain⟨u1,rfl,S⟩:=cC B;cases S;obtain⟨Z,B,p,hz⟩:=I.list hl;refine join_list (ys:=L) p.isList (jQ B) ?_ λt' k=>?_
 ·have e:L.length*(Str.mk #[]).length=0:=Nat.mul_zero _;rw[e];exact ycy Y (by decide)
 ·rw[yp];exact⟨.str _,H,I.tok _,⟨_,rfl⟩,q⟩
def CP (te:WE):WE:=λτ G q=>te τ G λy G2=>∃a ts,y=.ref a/\G2 a=some (.lst (ts.map W.str))/\(ts.map λt=>t.length).sum<=100000/\q (.str (vI ts)) G2
theorem jR:∀{B:List Str} {vs:List V},aJ K H (B.map W.str) vs->vs=B.map V.str
 | [],_,h=>by cases h;rfl
 | t::B,_,h=>by
   cases h with
   | cons r L=>
     cases r;rw[jR L]
     rfl
theorem Bu {z:Str} {op:Pos} {te:WE} (he:QE X e te) (hz:z=⟨#[]⟩:=by rfl)
 (B:attributeBase (.Constant (.str z) k op) "join" X.env (eval (.Constant (.str z) k op) X.env)=eval (.Constant (.str z) k op) X.env:=by rfl)
 (S:((backTo cpos (starEach [e] X.env)).all (λx=>!x.1)&&(backToKw cpos (keywordEach [] X.env)).all (λx=>x.1.isSome)
   &&decide (([e]:List Expr).length+([]:List Keyword).length+(if ([]:List Keyword).isEmpty then 0 else 1)<30))=true:=by rfl)
 (L:(apos.endLine==cpos.line)=true:=by rfl) (Y:starEach [e] X.env=(false,eval e X.env)::starEach [] X.env:=by rfl) (Z:plZ cpos X []:=by rfl):
 QE X (.Call (.Attribute (.Constant (.str z) k op) "join" apos) [e] [] cpos) (CP te):=
 (jt PySem.F.plainAttrs_str PySem.F.slot_str_join PySem.F.type_str_join Bt lJ (bQ he pa_nil Y) B S L Y Z).imp λσ H Q z0=>z0.el λτ G q Y hg ht hQ=>by
   subst hz;refine⟨rfl,τ,G,_,Y,hg,ht,λv2 H2 w2 G2 t2 r2 g2 q2=>?_⟩;obtain⟨a,ts,rfl,e2,hl,q2⟩:=q2;cases r2;obtain⟨_,xs,h1,rr⟩:=g2 _ _ e2;rw[jR rr] at h1;exact⟨_,ts,rfl,rfl,cG.of h1,hl,hQ _ _ _ _ t2 (.str _) g2 q2⟩
def EZ:V->List V->Hp->VK->Prop:=λx vs H Q=>∃z c,x=.str z/\vs=[.str ⟨#[c]⟩]/\Q (.int ((z.cps.toList.count c:Nat):Int)) H
theorem yq:Cp X "str.count" EZ:=by
 intro π s σ H x vs v us Q I rx L h;obtain⟨z,c,rfl,rfl,q⟩:=h;obtain⟨t,rfl⟩:=rx;obtain⟨S,rfl,B⟩:=cC L;obtain⟨t',rfl⟩:=B;refine SC.count ?_;rw[rS];exact⟨.int _,H,I.tok _,⟨_,rfl⟩,q⟩
def yr (to te:WE):WE:=λτ G q=>to τ G λx G1=>(∃z,x=.str z)/\te τ G1 λy G2=>∃z c,x=.str z/\y=.str ⟨#[c]⟩/\q (.int ((z.cps.toList.count c:Nat):Int)) G2
theorem yt (ho:QE X o to) (he:QE X e te)
 (B:attributeBase o "count" X.env (eval o X.env)=eval o X.env:=by rfl)
 (S:((backTo cpos (starEach [e] X.env)).all (λx=>!x.1)&&(backToKw cpos (keywordEach [] X.env)).all (λx=>x.1.isSome)
   &&decide (([e]:List Expr).length+([]:List Keyword).length+(if ([]:List Keyword).isEmpty then 0 else 1)<30))=true:=by rfl)
 (L:(apos.endLine==cpos.line)=true:=by rfl) (Y:starEach [e] X.env=(false,eval e X.env)::starEach [] X.env:=by rfl) (Z:plZ cpos X []:=by rfl):
 QE X (.Call (.Attribute o "count" apos) [e] [] cpos) (yr to te):=
 (jt PySem.F.plainAttrs_str PySem.F.slot_str_count PySem.F.type_str_count yq ho (bQ he pa_nil Y) B S L Y Z).imp λσ H Q z0=>z0.el λτ G q Y hg ht hQ=>
   ⟨τ,G,_,Y,hg,ht,λv H1 w G1 t1 r1 g1 q1=>by
     obtain⟨⟨z,rfl⟩,q1⟩:=q1;cases r1;refine⟨rfl,τ,G1,_,Y.mono t1,g1,q1,λv2 H2 w2 G2 t2 r2 g2 q2=>?_⟩;obtain⟨z',c,e1,rfl,q2⟩:=q2;cases e1;cases r2;exact⟨_,c,rfl,rfl,hQ _ _ _ _ (t1.trans t2) (.int _) g2 q2⟩⟩
theorem Bv (a b:Str):(a++b).length=a.length+b.length:=by
 show(a.cps++b.cps).size=_;simp[Str.length]
end
open PySem PySem.Spec PyProof.Rows _N
theorem gQ {β:Type} {C:Gp->Prop} {i:Nat} {τ0:bV} {q:List W->Gp->Prop} (B val:β->W) (L:C G):∀{ps:List β} {acc:List W} {τ:bV},
 (∀p,p∈ps->∀k:W->Gp->Prop,k (val p) G->te (τ0.set i (some (B p))) G k)->acc.length+ps.length<=100000->(∀x,τ.set i x=τ0.set i x)->q (acc++ps.map val) G->bw C (bJ i) kQ te (ps.map B) τ G acc q
 | [],acc,τ,_,_,_,S=>⟨L,by simpa using S⟩
 | p::ps,acc,τ,Z,hl,Y,S=>by
   refine⟨L,?_⟩;show te (τ.set i (some (B p))) G _;rw[Y];refine Z p yby _ ?_;rw[length_cons] at hl;refine⟨by lia,gQ B val L (λu hu=>Z u (ybx _ hu)) (by rw[length_append];simp only[length_cons,length_nil];lia) (λx=>?_) (by simpa using S)⟩;rw[set_set]
theorem fo (h:am G L) (B:L p=none):G p=none:=by
 cases e:G p with
 | none=>rfl
 | some g=>rw[h _ _ e] at B;cases B
theorem gk:av (av G p g) p g'=av G p g':=by
 funext b
 unfold av;split<;> rfl
theorem bY {c A B:Prop} {d:Decidable c} (h1:c->A) (h2:¬c->B): @ite Prop c d A B:=by
 cases d with
 | isTrue h=>exact h1 h
 | isFalse h=>exact h2 h
section
variable {o:Obj} {kvs:List (aW×V)}
theorem aw.swap {u v:HO} (I:aw X π σ H s) (e:H a=some u) (un:Un X.fs X.ex X.H₀ (upd H a v) X.s₀.heap s.heap) (S:bH X.prog X.w (upd H a v) s.heap a v) (nu:∀xs,u≠ .tup xs) (Z:∀x,u≠ .own x):aw X π σ (upd H a v) s:=by
 have ne:∀b,H b=none->b≠a:=λb hb z=>by rw[z,e] at hb;cases hb
 refine⟨I.ok,I.os,I.bare,un,I.loc,I.cell,by rw[ax (ne _ I.free)];exact I.free,λx c B=>by rw[ax (ne _ (I.freeC x c B))];exact I.freeC x c B,λp L=>?_,λb w hb=>?_,I.len⟩
 ·obtain⟨h1,h2,Y⟩:=I.pin p L;exact⟨h1,by rw[ax (ne _ h2)];exact h2,Y⟩
 ·by_cases hba:b=a
  ·subst hba;rw[aY] at hb;cases hb;exact S
  ·rw[ax hba] at hb;refine(I.hok b w hb).stay (λd v _ q=>q) (λd q=>?_) λd xs q=>?_
   ·rw[ax (λz=>by rw[z,e] at q;exact Z _ (Option.some.inj q))];exact q
   ·rw[ax (λz=>by rw[z,e] at q;exact nu _ (Option.some.inj q))];exact q
theorem aw.freeze (I:aw X π σ H s) (e:H a=some (.dK kvs)) (S:s.heap.get? a=some o):aw X π σ (upd H a (.frz o (.dK kvs))) s:=by
 refine I.swap e ?_ ⟨S,(I.hok a _ e)⟩ (λ_ z=>by cases z) (λ_ z=>by cases z);have U:=I.base;refine⟨U.keep,U.slot,λb L h1 h2 Y=>?_,U.there,λb xs h1=>?_,λb L w h1=>?_,λb ps h1=>?_⟩
 ·have B:=U.free b L h1 h2 Y;rw[ax (λz=>by rw[z,e] at B;cases B)];exact B
 ·have B:=U.tups b xs h1;rw[ax (λz=>by rw[z,e] at B;cases B)];exact B
 ·have B:=U.frzs b L w h1;rw[ax (λz=>by rw[z,e] at B;cases B)];exact B
 ·obtain⟨m,B⟩:=U.tbls b ps h1;exact⟨m,by rw[ax (λz=>by rw[z,e] at B;cases B)];exact B⟩
theorem aw.thaw (I:aw X π σ H s) (e:H a=some (.frz o (.dK kvs))) (h0:∀L w,X.H₀ a≠some (.frz L w)):aw X π σ (upd H a (.dK kvs)) s:=by
 refine I.swap e ?_ (I.hok a _ e).2 (λ_ z=>by cases z) (λ_ z=>by cases z);have U:=I.base;refine⟨U.keep,U.slot,λb L h1 h2 S=>?_,U.there,λb xs h1=>?_,λb L w h1=>?_,λb ps h1=>?_⟩
 ·have B:=U.free b L h1 h2 S;rw[ax (λz=>by rw[z,e] at B;cases B)];exact B
 ·have B:=U.tups b xs h1;rw[ax (λz=>by rw[z,e] at B;cases B)];exact B
 ·have B:=U.frzs b L w h1;rw[ax (λz=>by rw[z] at h1;exact h0 _ _ h1)];exact B
 ·obtain⟨m,B⟩:=U.tbls b ps h1;exact⟨m,by rw[ax (λz=>by rw[z,e] at B;cases B)];exact B⟩
theorem aw.nofrz (I:aw X π σ H s) (e:H a=some (.dK kvs)):∀B w,X.H₀ a≠some (.frz B w):=λB w h=>by
 have:=I.base.frzs a B w h;rw[e] at this;cases this
noncomputable def Lq (d:Addr) (o:Obj) (kvs:List (aW×V)):It:=⟨λi H=>H d=some (.frz o (.dK kvs))/\i<kvs.length,λi H y H'=>H'=H/\∃kv,kvs[i]?=some kv/\y=kV kv.1,λi H=>H d=some (.frz o (.dK kvs))/\kvs.length<=i⟩
theorem aw.dictAt {es:Array DictEntry} {ep:Nat} (I:aw X π σ H s) (e:H a=some (.frz o (.dK kvs))) (S:o.data=.dict es ep):∃vs,KV kvs vs/\s.heap.DictAt (bg X.prog X.w) a vs ep/\(a==sysModules)=false:=by
 obtain⟨h1,_,h2,vs,h3,o2,Y,ab,B,Z,L,h7⟩:=I.hok a _ e;rw[h1] at B;cases B;rw[S] at L;cases L;exact⟨vs,h3,⟨o,es,h1,Z,S,h7⟩,h2⟩
theorem tV {k:aW} (h:jk k v=true):aT (kV k) v:=by
 rcases bt h with⟨i,t,rfl,rfl⟩ | ⟨x,t,rfl,rfl⟩
 ·exact⟨t,rfl⟩
 ·exact⟨t,rfl⟩
theorem vJ {es:Array DictEntry} {ep:Nat} (it d:Addr) (S:d≠it) (hd:o.data=.dict es ep):km P w K tg (Lq d o kvs) [it] it (λi h=>i<=kvs.length/\h.IsKeyIter it d i kvs.length ep) where
 mem:=by simp
 obj:=λi h st b hb=>by
  have e:b=it:=by simpa using hb
  subst e;obtain⟨_,o,Y,e2,e3⟩:=st;exact⟨_,Y,λv z=>by rw[e3] at z;cases z⟩
 keep:=λi h h' st k=>by
  obtain⟨hi,o,Y,e2,e3⟩:=st;exact⟨hi,o,k it (by simp) _ Y,e2,e3⟩
 item:=by
  intro X hP hw hK hc i π s σ H E I hf st hg;subst hP hw hK;obtain⟨f0,f1,f2,f3,f4,f5⟩:=hf it (by simp);obtain⟨L,hi⟩:=hg;obtain⟨vs,kv,da,_⟩:=I.dictAt L hd;have hl:=kv.length;refine(Walks.dictKeys (knd:=bg X.prog X.w) (I.ok.hd hc) it d S vs ep).item i s _ _ (by lia) ⟨by rw[←hl];exact st.2,da⟩ λv h' tk hv Z kk=>?_;obtain⟨k,x,Y,e2⟩:=hv;have I1:aw X π σ H { s with heap:=h',toks:=tk }:=I.turned (λb o hb e=>kk b o (by simpa using hb) e) f0 f1 f3 f4 f5;obtain⟨⟨o',g1,g2,g3⟩,_⟩:=id Z;have hk:∃B,kvs[i]?=some B/\B.1=k:=by
   have h1:=KV.keys kv;have h2:(kvs.map (·.1))[i]?=some k:=by rw[h1,List.getElem?_map,Y];rfl
   rw[List.getElem?_map] at h2;cases h3:kvs[i]? with
   | none=>rw[h3] at h2;cases h2
   | some p=>rw[h3] at h2;exact⟨p,rfl,Option.some.inj h2⟩
  obtain⟨B,h3,h4⟩:=hk;refine⟨_,rfl,kE (s:={ s with heap:=h',toks:=tk }) (n:="dict_keyiterator") g1 g2 g3 (by decide) ⟨kV k,H,I1,tV e2,⟨rfl,B,h3,by rw[h4]⟩,⟨by lia,by rw[hl];exact Z.1⟩,λb hb=>(hf b hb).1⟩⟩
 done:=by
  intro X hP hw hK hc i π s σ H E I hf st hg;subst hP hw hK;obtain⟨f0,f1,f2,f3,f4,f5⟩:=hf it (by simp);obtain⟨L,hi⟩:=hg;obtain⟨vs,kv,da,_⟩:=I.dictAt L hd;have hl:=kv.length;have ab:i=kvs.length:=Nat.le_antisymm st.1 hi;subst ab;exact(Walks.dictKeys (knd:=bg X.prog X.w) (I.ok.hd hc) it d S vs ep).done s _ _ (by rw[←hl];exact⟨st.2,da⟩) λh' tk kk=>⟨rfl,I.turned (t':=tk) (λb o hb e=>kk b o (by simpa using hb) e) f0 f1 f3 f4 f5⟩
 self:=λA i s Q E st h=>wpAny_pyIter_keyiter st.2 h
variable {tg:Expr}
theorem Bw {p:Pos} (hN:X.N[i]?=some x) (hv:Ck X.env.scope x) (hd:dbz x:=by decide) (S:(x==("__classdict__":Str))=false:=by decide):
 PI X tg (.Name x p) (λσ H R=>∃a kvs,σ[i]?=some (some (.ref a))/\H a=some (.dK kvs)/\∀o,R (Lq a o kvs) (upd H a (.frz o (.dK kvs)))):=by
 rintro π s σ H R I ⟨a,kvs,hi,e,h⟩;refine bE (jm (pos:=p) hN hv hd S π s σ H (λv H'=>v=.ref a/\H'=H) I ⟨_,hi,rfl,rfl⟩) λu B z9=>?_;obtain⟨v,H1,I1,r,Y,hH⟩:=z9;subst Y;subst hH;obtain rfl:u=Value.ref a:=r;obtain⟨_,hm,vs,kv,o,es,ep,h1,h2,Z,h4⟩:=wU I1.hok e;have J:=I1.freeze e h1;refine wpAny_pyIter_dict (knd:=bg X.prog X.w) hm ⟨o,es,h1,h2,Z,h4⟩ ?_;have L:a≠B.heap.objs.size:=ne_of_lt (ybv h1);refine⟨B.heap.objs.size,[B.heap.objs.size],_,_,_,rfl,J.kept (t':=B.toks) λb o e=>ybz _ e,vJ (o:=o) (kvs:=kvs) (es:=es) (ep:=ep) _ a L Z,⟨zero_le _,by rw[kv.length];exact⟨_,ybw _ rfl,rfl,rfl⟩⟩,λb hb=>?_,h o⟩;have e:b=B.heap.objs.size:=by simpa using hb
 subst e;exact J.fpOk (ycx _) (J.hok.fresh (ycx _))
end
noncomputable def cg (kvs:List (aW×W)) (k:aW):Option W:=(kvs.find? λkv=>decide (kv.1=k)).map (·.2)
noncomputable def cy (kvs:List (aW×W)) (k:aW) (w:W):List (aW×W):=
 if (kvs.any λkv=>decide (kv.1=k))=true then kvs.map (λkv=>if kv.1=k then (kv.1,w) else kv) else kvs++[(k,w)]
inductive DP (K:yav) (H:Hp):List (aW×W)->List (aW×V)->Prop where
 | nil:DP K H [] []
 | cons {k:aW} {w:W} {v:V} {kvs:List (aW×W)} {us:List (aW×V)} (r:bO K H w v) (t:DP K H kvs us):DP K H ((k,w)::kvs) ((k,v)::us)
section
variable {H1:Hp}
theorem DP.of:∀{kvs:List (aW×W)} {us:List (aW×V)},us.map (·.1)=kvs.map (·.1)->aJ K H (kvs.map (·.2)) (us.map (·.2))->DP K H kvs us
 | [],[],_,_=> .nil
 | [],_::_,h,_=>by simp at h
 | _::_,[],h,_=>by simp at h
 | (k,w)::kvs,(L,v)::us,h,r=>by
   simp only[map_cons,List.cons.injEq] at h;obtain⟨rfl,h⟩:=h;cases r with
   | cons r B=>exact .cons r (DP.of h B)
theorem DP.keys {kvs:List (aW×W)} {us:List (aW×V)} (d:DP K H kvs us):us.map (·.1)=kvs.map (·.1):=by
 induction d with
 | nil=>rfl
 | cons r t ih=>rw[map_cons,map_cons,ih]
theorem DP.vals {kvs:List (aW×W)} {us:List (aW×V)} (d:DP K H kvs us):aJ K H (kvs.map (·.2)) (us.map (·.2)):=by
 induction d with
 | nil=>exact .nil
 | cons r t ih=>exact .cons r ih
theorem DP.len {kvs:List (aW×W)} {us:List (aW×V)} (d:DP K H kvs us):us.length=kvs.length:=by
 have:=congrArg List.length d.keys;simpa using this
theorem DP.mono {kvs:List (aW×W)} {us:List (aW×V)} (t:aE H H1) (d:DP K H kvs us):DP K H1 kvs us:=DP.of d.keys (d.vals.mono t)
theorem DP.val {kvs:List (aW×W)} {us:List (aW×V)} (d:DP K H kvs us) (k:aW):(cg kvs k=none/\jv us k=none)∨∃w v,cg kvs k=some w/\jv us k=some v/\bO K H w v:=by
 induction d with
 | nil=>exact .inl ⟨rfl,rfl⟩
 | @cons B w v kvs us r t ih=>
   by_cases e:B=k
   ·exact .inr ⟨w,v,by simp[cg,List.find?_cons,e],nM e,r⟩
   ·rw[show cg ((B,w)::kvs) k=cg kvs k by simp[cg,List.find?_cons,e],nN (p:=(B,v)) e];exact ih
theorem DP.any {kvs:List (aW×W)} {us:List (aW×V)} (d:DP K H kvs us) (k:aW):(us.any λB=>decide (B.1=k))=kvs.any λB=>decide (B.1=k):=by
 induction d with
 | nil=>rfl
 | cons r t ih=>rw[any_cons,any_cons,ih]
theorem DP.put {kvs:List (aW×W)} {us:List (aW×V)} (d:DP K H kvs us) (k:aW) {w:W} {v:V} (r:bO K H w v):DP K H (cy kvs k w) (nK us k v):=by
 unfold cy nK;rw[d.any k]
 by_cases e:(kvs.any λS=>decide (S.1=k))=true
 ·rw[ycv e,ycv e];clear e
  induction d with
  | nil=>exact .nil
  | @cons L Z Y kvs us B t ih=>
    rw[map_cons,map_cons]
    by_cases e:L=k
    ·rw[ycv e,ycv e];exact .cons r ih
    ·rw[ycw e,ycw e];exact .cons B ih
 ·rw[ycw e,ycw e];clear e
  induction d with
  | nil=>exact .cons r .nil
  | cons B t ih=>exact .cons B ih
end
theorem jS (kvs:List (aW×W)) (k:aW) (w:W):(cy kvs k w).length<=kvs.length+1:=by
 unfold cy;split
 ·rw[length_map];lia
 ·rw[length_append,length_cons,length_nil];lia
def GD (G:Gp) (a:Addr) (kvs:List (aW×W)):Prop:=G a=some (.dic kvs)∨∃o us,G a=some (.fdc o us kvs)
section
variable {G:Gp} {kvs:List (aW×W)}
theorem GD.rd (h:GD G a kvs) (g:aB K H G):kvs.length<=100000/\∃us,Rd H a (.dK us)/\DP K H kvs us:=by
 rcases h with h | ⟨o,us,h⟩
 ·obtain⟨l,us,e,n,r⟩:=g a _ h;exact⟨l,us,.inl e,DP.of n r⟩
 ·obtain⟨l,e,n,r⟩:=g a _ h;exact⟨l,us,.inr ⟨o,e⟩,DP.of n r⟩
theorem aE.dk {us:List (aW×V)} (B:H a=some (.dK us)) (o:HO):aE H (upd H a o):=
 ⟨λ_ _ h=>by rw[ax (iH h B (by intro z;cases z))];exact h,λ_ _ _ h=>by rw[ax (iH h B (by intro z;cases z))];exact h⟩
theorem aE.fz {us:List (aW×V)} (B:H a=some (.frz L (.dK us))) (o:HO):aE H (upd H a o):=
 ⟨λ_ _ h=>by rw[ax (iH h B (by intro z;cases z))];exact h,λ_ _ _ h=>by rw[ax (iH h B (by intro z;cases z))];exact h⟩
end
section
def rT:W2:=λx y G q=>match x,y with
 | .ref a,.str z=>∃kvs w,GD G a kvs/\cg kvs (.inr z)=some w/\q w G
 | x,y=>ym x y G q
theorem HV:FW X rT:=by
 rintro value B π s σ H x y v u Q I rx ry ⟨wx,wy,G,q,Z,r2,g,h,hQ⟩ L;unfold rT at h;split at h
 ·rename_i a z;obtain⟨kvs,w,hd,S,h⟩:=h;cases Z;cases r2;cases rx;obtain⟨_,us,rd,dp⟩:=hd.rd g;obtain⟨hl,hm,vs,Y,dd⟩:=fN I.hok rd;rcases dp.val (.inr z) with⟨e,_⟩ | ⟨w',v',e,e',r⟩
  ·rw[e] at S;cases S
  ·rw[e] at S;cases S;obtain⟨u',hw,ru⟩:=fH.some_of (v:=v') (o:=valueAt vs (.inr z)) (by rw[←e'];exact Y.val (.inr z));exact tail_any dd.typeIs PySem.F.slot_dict_getitem.lookup (wpAny_getItem_of (jw (P:=X.prog) (w:=X.w) (k:= .inr z) ry) dd.mapOf hw ⟨v',H,I.tok _,ru,hQ _ H _ G (aE.refl H) r g h⟩) L
 ·exact HR value B π s σ H x y v u Q I rx ry ⟨wx,wy,G,q,Z,r2,g,h,hQ⟩ L
structure NE (ws:List W) (x:W):Prop where
 fx:x.flat=true
 fs:W.flats ws=true
 hd:W.deps ws<=149
inductive Kl (G:Gp) (a:Addr):W->Bool->Prop where
 | dic {kvs:List (aW×W)} {z:Str} (h:GD G a kvs):Kl G a (.str z) (cg kvs (.inr z)).isSome
 | lst {ws:List W} {x:W} (h:G a=some (.lst ws)) (l:NE ws x):Kl G a x (ws.any λw=>w.eq x)
def E2:W2:=λx y G q=>match y with
 | .ref a=>∃b,Kl G a x b/\q (.bl b) G
 | _=>False
def yu:W2:=λx y G q=>match y with
 | .ref a=>∃b,Kl G a x b/\q (.bl (!b)) G
 | _=>False
theorem DP.isSome {kvs:List (aW×W)} {us:List (aW×V)} (d:DP K H kvs us) (k:aW):(jv us k).isSome=(cg kvs k).isSome:=by
 rcases d.val k with⟨e,B⟩ | ⟨L,S,e,B,r⟩
 ·rw[e,B];rfl
 ·rw[e,B];rfl
open Classical in
theorem yv (hr:aH k X.A) {wx:W} {x:V} {v:Value} {ws:List W} {G:Gp} (I:aw X π σ H s) (rx:aT x v) (r1:bO X.K H wx x) (g:aB X.K H G) (ea:G a=some (.lst ws)) (l:NE ws wx):
 ∃(e:Value->Bool) (B:yez),s.heap.IsList a B.toArray/\(∀y,y∈B.toArray->SeqAt.EqAt X.A.in1 s y v (e y))/\(B.toArray.any e=ws.any λw=>w.eq wx)/\B.length=ws.length/\∀(i:Nat) (w:W) (z:Value),ws[i]?=some w->B[i]?=some z->e z=w.eq wx:=by
 obtain⟨_,xs,e1,ra⟩:=g _ _ ea;obtain⟨B,rv,p,_⟩:=I.list (cG.of e1);have l1:B.length=ws.length:=by rw[←rv.length,ra.length]
 have hu:=hr.un;have hd:=l.hd;have Z:∀(i:Nat) (w:W) (z:Value),ws[i]?=some w->B[i]?=some z->decide (∃L,L∈ws/\(∃S,bO X.K H L S/\aT S z)/\L.eq wx=true)=w.eq wx/\SeqAt.EqAt X.A.in1 s z v (w.eq wx):=λi w z ew ez=>by
  obtain⟨va,ai,ab⟩:=ra.get ew;obtain⟨ua,ad,qa⟩:=rv.get ai;rw[ez] at ad;cases ad;have fw:=W.flats_get l.fs ew;refine⟨?_,(fW I 150 X.A.in1 (w1:=w) (w2:=wx) (Nat.lt_of_le_of_lt (W.deps_get ew) (by lia)) fw l.fx (by show X.A.units+1+150<cLine;lia) ab r1 qa rx).1⟩
  by_cases hw:w.eq wx=true
  ·rw[hw];exact ydz ⟨w,List.mem_of_getElem? ew,⟨va,ab,qa⟩,hw⟩
  ·have:¬∃L,L∈ws/\(∃S,bO X.K H L S/\aT S z)/\L.eq wx=true:=λz9=>by
    obtain⟨L,hm,⟨S,ar,af⟩,he⟩:=z9
    obtain⟨j,hj⟩:=List.getElem?_of_mem hm;have hv:=af.inj qa;subst hv;have:=bO.inj (W.flats_get l.fs hj) fw ar ab;subst this;exact hw he
   rw[ydy this];simpa using hw
 refine⟨λz=>decide (∃L,L∈ws/\(∃S,bO X.K H L S/\aT S z)/\L.eq wx=true),B,p.isList,λz hz=>?_,?_,l1,λi w z ew ez=>(Z i w z ew ez).1⟩
 ·obtain⟨i,hi⟩:=List.getElem?_of_mem (show z∈B by simpa using hz);have Y:i<ws.length:=by rw[←l1];exact(List.getElem?_eq_some_iff.mp hi).1
  obtain⟨k1,k2⟩:=Z i _ z (ycz Y) hi;show SeqAt.EqAt _ s z v (decide _);rw[k1];exact k2
 ·rw[show B.toArray.any (λz=>decide (∃L,L∈ws/\(∃S,bO X.K H L S/\aT S z)/\L.eq wx=true))=B.any (λz=>decide (∃L,L∈ws/\(∃S,bO X.K H L S/\aT S z)/\L.eq wx=true)) by simp];rw[Bool.eq_iff_iff,List.any_eq_true,List.any_eq_true];constructor
  ·rintro⟨z,hz,he⟩;obtain⟨L,hm,_,aj⟩:=of_decide_eq_true he;exact⟨L,hm,aj⟩
  ·rintro⟨w,hm,he⟩;obtain⟨i,hi⟩:=List.getElem?_of_mem hm;have Y:i<B.length:=by rw[l1];exact(List.getElem?_eq_some_iff.mp hi).1
   have k1:=(Z i w B[i] hi (ycz Y)).1;exact⟨B[i],getElem_mem Y,k1.trans he⟩
theorem CQ (hr:aH k X.A):eo X (compareOp .In) E2:=by
 rintro π s σ H x y v u Q I rx ry ⟨wx,wy,G,q,L,r2,g,h,S⟩;unfold E2 at h;split at h
 ·obtain⟨b,hb,h⟩:=h;cases r2;cases ry;cases hb with
  | dic hd=>
    cases L;obtain⟨_,us,rd,dp⟩:=hd.rd g;obtain⟨hl,hm,vs,B,dd⟩:=fN I.hok rd;refine wpAny_in_of (jw (P:=X.prog) (w:=X.w) (k:= .inr _) rx) hm dd.mapOf ⟨.bl _,H,I.tok _,rfl,S _ H _ G (aE.refl H) ?_ g h⟩;rw[←(B.val _).isSome_eq,dp.isSome];exact .bl _
  | lst Y l=>
    obtain⟨e,Z,p,he,ha,_⟩:=yv hr I rx L g Y l;refine SeqAt.in_listAt e p he ?_;rw[ha];exact⟨.bl _,H,I,rfl,S _ H _ G (aE.refl H) (.bl _) g h⟩
 ·exact h.elim
theorem oO (hr:aH k X.A):eo X (compareOp .NotIn) yu:=by
 rintro π s σ H x y v u Q I rx ry ⟨wx,wy,G,q,L,r2,g,h,S⟩;unfold yu at h;split at h
 ·obtain⟨b,hb,h⟩:=h;cases r2;cases ry;cases hb with
  | dic hd=>
    cases L;obtain⟨_,us,rd,dp⟩:=hd.rd g;obtain⟨hl,hm,vs,B,dd⟩:=fN I.hok rd;refine wpAny_notIn_of (jw (P:=X.prog) (w:=X.w) (k:= .inr _) rx) hm dd.mapOf ⟨.bl _,H,I.tok _,rfl,S _ H _ G (aE.refl H) ?_ g h⟩;rw[←(B.val _).isSome_eq,dp.isSome];exact .bl _
  | lst Y l=>
    obtain⟨e,Z,p,he,ha,_⟩:=yv hr I rx L g Y l;refine SeqAt.notIn_listAt e p he ?_;rw[ha];exact⟨.bl _,H,I,rfl,S _ H _ G (aE.refl H) (.bl _) g h⟩
 ·exact h.elim
def CS:WE:=λ_ G q=>∀p,G p=none->q (.ref p) (av G p (.dic []))
theorem Bx:QE X (.Dict [] [] pos) CS:=
 pe_dnewK.imp λσ H Q Z=>Z.el λτ G q hs L Y S p B=>S _ _ _ _ (aE.new B _) (.ref p) (L.lay (g:= .dic []) (aE.new B _) ⟨zero_le _,[],aY,rfl,.nil⟩) (Y p (L.fresh B))
noncomputable def kW:aW->W
 | .inl i=> .int i
 | .inr x=> .str x
theorem yw (k:aW):bO K H (kW k) (kV k):=by
 cases k with
 | inl i=>exact .int i
 | inr x=>exact .str x
theorem Lr {k:aW} (r:bO K H (kW k) v):v=kV k:=by
 cases k<;> cases r<;> rfl
def Km {α:Type} (mk:α->aW) (d:cj) (τ:bV) (w x y:W) (G:Gp):Prop:=∃a z kvs,x=.ref a/\y=kW (mk z)/\G a=some (.dic kvs)/\kvs.length+1<=100000/\d.nx τ (av G a (.dic (cy kvs (mk z) w)))
theorem yx {α:Type} (mk:α->aW) {o i value:Expr} {to ti tv:WE} {pos:Pos} (hv:QE X value tv) (ho:QE X o to) (hi:QE X i ti) (hs:swapsWith value (some (.Subscript o i pos')) pos.line X.env=pure false:=by rfl):
 QS X (.Assign [.Subscript o i pos'] value pos) (λd τ G=>tv τ G λw Y=>to τ Y λx L=>ti τ L λy B=>Km mk d τ w x y B):=by
 intro π s σ H D I h;obtain⟨τ,G,d,S,hg,ht,l⟩:=h;refine wpAny_Assign_Subscript (bE (hv π s σ H (λv H1=>∃w Y,aE H H1/\bO X.K H1 w v/\aB X.K H1 Y/\to τ Y λx L=>ti τ L λy B=>Km mk d τ w x y B) I ⟨τ,G,_,S,hg,ht,λv H1 w Y t1 r1 g1 q1=>⟨w,Y,t1,r1,g1,q1⟩⟩) λr s1 z9=>?_) hs;obtain⟨v,H1,I1,rv,w,Y,t1,r1,g1,q1⟩:=z9;refine bE (ho π s1 σ H1 (λv2 H2=>∃w2 L,aE H1 H2/\bO X.K H2 w2 v2/\aB X.K H2 L/\ti τ L λy B=>Km mk d τ w w2 y B) I1 ⟨τ,Y,_,S.mono t1,g1,q1,λv2 H2 w2 L t2 r2 g2 q2=>⟨w2,L,t2,r2,g2,q2⟩⟩) λu s2 z9=>?_;obtain⟨x,H2,I2,rx,w2,L,t2,r2,g2,q2⟩:=z9;refine bE (hi π s2 σ H2 (λv3 H3=>∃w3 B,aE H2 H3/\bO X.K H3 w3 v3/\aB X.K H3 B/\Km mk d τ w w2 w3 B) I2 ⟨τ,L,_,(S.mono t1).mono t2,g2,q2,λv3 H3 w3 B t3 r3 g3 q3=>⟨w3,B,t3,r3,g3,q3⟩⟩) λiv s3 z9=>?_;obtain⟨y,H3,I3,ry,w3,B,t3,r3,g3,a,z,kvs,e1,e2,e3,hl,q3⟩:=z9;subst e1 e2;cases r2;obtain rfl:=Lr r3;cases rx;obtain⟨_,us,e4,n4,r4⟩:=g3 a _ e3;have dp:=DP.of n4 r4;obtain⟨zl,hd,vs,Z,dd⟩:=wU I3.hok e4;have hz:vs.length<=sizeLine:=by rw[←Z.length];exact zl
 have ai:kvs.length+1<=sizeLine:=bA hl;have af:(nK us (mk z) v).length<=sizeLine:=by have:=nO us (mk z) v;have:=dp.len;lia
 refine wpAny_setItem_pairs (hsz:=hz) (jw (P:=X.prog) (w:=X.w) (k:=mk z) ry) dd λh' ab hs=>?_;have he:∃q,h'.get? a=some q:=let ⟨q,_,_,hq,_⟩:=ab;⟨q,hq⟩;have I4:=sL (t':=s3.toks+1) I3 (by rw[e4];exact True.intro) hs he (wV af hd (Z.put (mk z) rv) ab);have tt:=(t1.trans t2).trans t3;have t4:=aE.dk e4 (.dK (nK us (mk z) v));have ad:=(dp.put (mk z) (r1.mono (t2.trans t3))).mono t4;exact⟨σ,_,I4,l.nx σ _ τ _ (tt.trans t4) (S.mono (tt.trans t4)) (g3.lay (g:= .dic _) t4 ⟨ycy (jS _ _ _) hl,_,aY,ad.keys,ad.vals⟩) q3⟩
def CT (tv to ti:WE):WS:=λd τ G=>tv τ G λw G1=>to τ G1 λx G2=>ti τ G2 λy G3=>∃a z kvs,x=.ref a/\y=.str z/\G3 a=some (.dic kvs)/\kvs.length+1<=100000/\d.nx τ (av G3 a (.dic (cy kvs (.inr z) w)))
theorem tW {o i value:Expr} {to B tv:WE} {pos:Pos} (Y:QE X value tv) (L:QE X o to) (hi:QE X i B) (S:swapsWith value (some (.Subscript o i pos')) pos.line X.env=pure false:=by rfl):QS X (.Assign [.Subscript o i pos'] value pos) (CT tv to B):=yx Sum.inr Y L hi S
noncomputable def cj.th (a:Addr) (d:cj):cj where
 nx:=λτ G=>∃o us kvs,G a=some (.fdc o us kvs)/\d.nx τ (av G a (.dic kvs))
 rt:=λw G=>∃o us kvs,G a=some (.fdc o us kvs)/\d.rt w (av G a (.dic kvs))
 bk:=λτ G=>∃o us kvs,G a=some (.fdc o us kvs)/\d.bk τ (av G a (.dic kvs))
 ct:=λτ G=>∃o us kvs,G a=some (.fdc o us kvs)/\d.ct τ (av G a (.dic kvs))
noncomputable def eX.th (a:Addr) (d:eX):eX where
 nx:=λτ G=>∃o us,G a=some (.frz o (.dK us))/\d.nx τ (upd G a (.dK us))
 rt:=λw G=>∃o us,G a=some (.frz o (.dK us))/\d.rt w (upd G a (.dK us))
 bk:=λτ G=>∃o us,G a=some (.frz o (.dK us))/\d.bk τ (upd G a (.dK us))
 ct:=λτ G=>∃o us,G a=some (.frz o (.dK us))/\d.ct τ (upd G a (.dK us))
theorem By (h:PS X st t):PS X st (λD σ H=>∃a us,H a=some (.dK us)/\t (eX.th a D) σ H):=by
 rintro π s σ H D I ⟨a,us,e,q⟩;have h0:=I.nofrz e;refine bE (h π s σ H _ I q) λf Y z=>?_;cases f with
 | next=>obtain⟨B,H1,L,o,us,e,q⟩:=z;exact⟨B,_,L.thaw e h0,q⟩
 | cont=>obtain⟨B,H1,L,o,us,e,q⟩:=z;exact⟨B,_,L.thaw e h0,q⟩
 | brk=>obtain⟨B,H1,L,o,us,e,q⟩:=z;exact⟨B,_,L.thaw e h0,q⟩
 | ret u=>obtain⟨v,B,H1,L,S,o,us,e,q⟩:=z;exact⟨v,B,_,L.thaw e h0,S,q⟩
theorem aB.thaw {us:List (aW×V)} {kvs:List (aW×W)} (g:aB K H G) (e:G a=some (.fdc o us kvs)):
 H a=some (.frz o (.dK us))/\aE H (_L.upd H a (.dK us))/\aB K (_L.upd H a (.dK us)) (av G a (.dic kvs)):=by
 obtain⟨l,B,n,r⟩:=g a _ e;have t:=aE.fz B (.dK us);exact⟨B,t,g.lay (g:= .dic _) t ⟨l,us,aY,n,r.mono t⟩⟩
def CU (t:WS):WS:=λd τ G=>∃a kvs,G a=some (.dic kvs)/\t (d.th a) τ G
theorem jf (h:QS X st t):QS X st (CU t):=
 (By h).imp λD σ H z0=>z0.el λτ G d hs hg z9 l=>by
   obtain⟨a,kvs,ea,ht⟩:=z9
   obtain⟨_,us,e1,_⟩:=hg a _ ea;refine⟨a,us,e1,τ,G,d.th a,hs,hg,ht,⟨?_,?_,?_,?_⟩⟩
   ·rintro ad H1 ab G1 Z s1 L ⟨o,us,kvs,e,q⟩;obtain⟨S,B,Y⟩:=L.thaw e;exact⟨o,us,S,l.nx _ _ _ _ (Z.trans B) (s1.mono B) Y q⟩
   ·rintro v H1 w G1 Z r1 L ⟨o,us,kvs,e,q⟩;obtain⟨S,B,Y⟩:=L.thaw e;exact⟨o,us,S,l.rt _ _ _ _ (Z.trans B) (r1.mono B) Y q⟩
   ·rintro ad H1 ab G1 Z s1 L ⟨o,us,kvs,e,q⟩;obtain⟨S,B,Y⟩:=L.thaw e;exact⟨o,us,S,l.bk _ _ _ _ (Z.trans B) (s1.mono B) Y q⟩
   ·rintro ad H1 ab G1 Z s1 L ⟨o,us,kvs,e,q⟩;obtain⟨S,B,Y⟩:=L.thaw e;exact⟨o,us,S,l.ct _ _ _ _ (Z.trans B) (s1.mono B) Y q⟩
theorem aB.freeze {us:List (aW×V)} {kvs:List (aW×W)} (g:aB K H G) (e:G a=some (.dic kvs)) (L:H a=some (.dK us)) (o:Obj):
 aE H (_L.upd H a (.frz o (.dK us)))/\aB K (_L.upd H a (.frz o (.dK us))) (av G a (.fdc o us kvs)):=by
 obtain⟨l,S,B,n,r⟩:=g a _ e;rw[L] at B;cases B;have t:=aE.dk L (.frz o (.dK us));exact⟨t,g.lay (g:= .fdc _ _ _) t ⟨l,aY,n,r.mono t⟩⟩
theorem yy {us:List (aW×V)} {kvs:List (aW×W)}:sS K (Lq a o us) (kvs.map λp=>kW p.1) (λG=>G a=some (.fdc o us kvs)) H where
 stop:=λi H1 G t g e Y=>by
  obtain⟨_,B,n,r⟩:=g a _ e;have:=(DP.of n r).len;rw[length_map] at Y;exact⟨B,by lia⟩
 go:=λi w H1 G t g eG e=>by
  obtain⟨_,B,n,r⟩:=g a _ eG;have Y:=(DP.of n r).len;rw[List.getElem?_map] at e;cases hk:kvs[i]? with
  | none=>rw[hk] at e;cases e
  | some p=>
    rw[hk] at e;cases e;have hi:=(List.getElem?_eq_some_iff.mp hk).1;refine⟨⟨B,by lia⟩,λx H' z9=>?_⟩;obtain⟨eH,Z,h1,h2⟩:=z9;subst eH h2;have S:(us.map (·.1))[i]?=some Z.1:=by rw[List.getElem?_map,h1];rfl
    rw[n,List.getElem?_map,hk] at S;have L:p.1=Z.1:=Option.some.inj S;exact⟨aE.refl _,by show bO K _ (kW p.1) _;rw[L];exact yw _,g⟩
variable {tg:Expr}
def yz (i:Nat):WI:=λτ G r=>match τ[i]? with
 | some (some (.ref a))=>∃kvs,G a=some (.dic kvs)/\∀o us,r (kvs.map λp=>kW p.1) (λG=>G a=some (.fdc o us kvs)) (av G a (.fdc o us kvs))
 | _=>False
theorem mH (i:Nat) {p:Pos} (hN:X.N[i]?=some x) (hv:Ck X.env.scope x) (hd:dbz x:=by decide) (L:(x==("__classdict__":Str))=false:=by decide):QI X tg (.Name x p) (yz i):=
 (Bw hN hv hd L).imp λσ H R z9=>by
   obtain⟨τ,G,r,hs,S,B,hR⟩:=z9
   unfold yz at B;split at B
   ·rename_i a e;obtain⟨kvs,Z,B⟩:=B;obtain⟨v,e1,rv⟩:=hs.2 i _ e;cases rv;obtain⟨_,us,Y,_⟩:=S a _ Z;refine⟨a,us,e1,Y,λo=>?_⟩;obtain⟨t,g⟩:=S.freeze Z Y o;exact hR _ _ _ _ _ t g yy (B o us)
   ·exact B.elim
end
section
variable {elts:List Expr} {tp:Pos}
end
inductive Bz (G:Gp) (a:Addr):Nat->Prop where
 | lst {ws:List W} (h:G a=some (.lst ws)):Bz G a ws.length
 | dic {kvs:List (aW×W)} (h:GD G a kvs):Bz G a kvs.length
def lp:List W->Gp->WK->Prop:=λws G q=>match ws with
 | [.ref a]=>∃n:Nat,Bz G a n/\q (.int n) G
 | ws=>yn ws G q
theorem E3:cV X (.builtin "len") lp:=by
 rintro π s σ H xs us Q I r ⟨ws,G,q,B,g,h,L⟩;unfold lp at h;split at h
 ·obtain⟨n,hn,h⟩:=h;cases hn with
  | lst e=>exact Cv π s σ H xs us Q I r ⟨_,G,q,B,g,⟨_,e,h⟩,L⟩
  | dic hd=>
    obtain⟨v,rfl,S⟩:=B.one;cases S;obtain⟨u,rfl,Y⟩:=cC r;cases Y;obtain⟨_,us,rd,dp⟩:=hd.rd g;refine GQ I rd λt s' Z=>⟨.int us.length,H,Z,⟨t,rfl⟩,L _ H _ G (aE.refl H) ?_ g h⟩;rw[dp.len];exact .int _
 ·exact EY π s σ H xs us Q I r ⟨ws,G,q,B,g,h,L⟩
inductive E4 (G:Gp) (a:Addr):List W->Prop where
 | lst {ws:List W} (h:G a=some (.lst ws)):E4 G a ws
 | dic {kvs:List (aW×W)} (h:GD G a kvs):E4 G a (kvs.map λp=>kW p.1)
def rV:List W->Gp->WK->Prop:=λws G q=>match ws with
 | [.ref a]=>∃ws,E4 G a ws/\∀p,G p=none->q (.ref p) (av G p (.lst ws))
 | ws=>sQ ws G q
theorem tX {P:Program} {w:World}:∀{us:List (aW×V)} {vs:List (aW×Value)} {B:yez},KV us vs->B.length=vs.length->(∀(j:Nat) (v:Value),B[j]?=some v->∃(k:aW) (x:Value),vs[j]?=some (k,x)/\(bg P w).is k v=true)->aK (us.map λp=>kV p.1) B
 | [],_,[],.nil,_,_=> .nil
 | [],_,_::_,.nil,h,_=>by simp at h
 | _::_,_,[],.cons _ _,h,_=>by simp at h
 | p::us,_,u::B,.cons r t,h,L=>by
   obtain⟨k,x,S,Y⟩:=L 0 u rfl;cases S;refine .cons ?_ (tX (P:=P) (w:=w) t (by simpa using h) λj v e=>by simpa using L (j+1) v (by simpa using e));show aT (kV p.1) u;rw[show p.1=k from r.1];exact tV Y
theorem BA (hc:X.calm=true):cV X (.type "list") rV:=by
 rintro π s σ H xs us Q I r ⟨ws,G,q,S,g,h,hQ⟩;unfold rV at h;split at h
 ·rename_i a;obtain⟨ws,hw,h⟩:=h;cases hw with
  | lst e=>exact xi π s σ H xs us Q I r ⟨_,G,q,S,g,⟨_,e,h⟩,hQ⟩
  | dic hd=>
    obtain⟨v,rfl,r1⟩:=S.one;cases r1;obtain⟨u,rfl,ru⟩:=cC r;cases ru;obtain⟨hl,us,rd,dp⟩:=hd.rd g;obtain⟨zl,hm,vs,Y,dd⟩:=fN I.hok rd;obtain⟨ep,ab⟩:=dd.dictAt;refine PySem.W.kdl_call (PySem.W.kdl_dict (knd:=bg X.prog X.w) (kvs:=vs) (ep:=ep) hm) (I.ok.hd hc) ab (by rw[←Y.length];exact zl) λh' tk B c' kp e L=>?_;have rv:aK (us.map λp=>kV p.1) B.toList:=tX (P:=X.prog) (w:=X.w) Y (by rw[Array.length_toList];exact L.1) λj v e=>L.2 j v (by rw[←Array.getElem?_toList];exact e);have hsz:(us.map λp=>kV p.1).length<=sizeLine:=by rw[length_map];exact zl
    have Z:=I.hok.fresh (ycx s.heap.objs.size);have e':h'.get? s.heap.objs.size=some { cls:= .type "list",data:= .seq B.toList.toArray c' }:=by simpa using e
    refine⟨.ref s.heap.objs.size,_,I.laid (t':=tk) (λb o q=>kp b o q) (ycx _) (show bH X.prog X.w _ h' _ (.lst (us.map λp=>kV p.1)) from ⟨hsz,B.toList,c',rv,e'⟩),rfl,?_⟩;have rr:∀{kvs:List (aW×W)} {us:List (aW×V)},DP X.K H kvs us->aJ X.K H (kvs.map λp=>kW p.1) (us.map λp=>kV p.1):=by
     intro kvs us d
     induction d with
     | nil=>exact .nil
     | cons r t ih=>exact .cons (yw _) ih
    exact hQ _ _ _ _ (aE.new Z _) (.ref _) (g.put (aE.new Z _) (rr dp) (by rw[length_map];exact hl)) (h _ (g.fresh Z))
 ·exact xi π s σ H xs us Q I r ⟨ws,G,q,S,g,h,hQ⟩
inductive lq (G:Gp):W->W->Prop where
 | int (i:Int):lq G (.int i) (.int i)
 | lst {a b:Addr} {ws us:List W} (ea:G a=some (.lst ws)) (eb:G b=some (.lst us)) (f1:W.flats ws=true) (f2:W.flats us=true) (hd:W.deps ws<=8) (he:W.eqs ws us=true):lq G (.ref a) (.ref b)
inductive HW (G:Gp) (a b:Addr):Bool->Prop where
 | lst {ws us:List W} (ea:G a=some (.lst ws)) (eb:G b=some (.lst us)) (f1:W.flats ws=true) (f2:W.flats us=true) (hd:W.deps ws<=149):HW G a b (W.eqs ws us)
 | dic {kvs us:List (aW×W)} (ea:GD G a kvs) (eb:GD G b us) (hl:kvs.length=us.length) (hv:∀p,p∈kvs->∃w',cg us p.1=some w'/\lq G p.2 w'):HW G a b true
def HX:W2:=λx y G q=>match x,y with
 | .ref a,.ref b=>∃r,HW G a b r/\q (.bl r) G
 | x,y=>At x y G q
def HY:W2:=λx y G q=>match x,y with
 | .ref a,.ref b=>∃r,HW G a b r/\q (.bl (!r)) G
 | x,y=>Au x y G q
theorem tY (hu:A.units+20<cLine) (I:aw X π σ H s) (g:aB X.K H G) (h:lq G w1 w2) (r1:bO X.K H w1 v1) (r2:bO X.K H w2 v2) (q1:aT v1 u1) (q2:aT v2 u2):SeqAt.EqAt A s u1 u2 true:=by
 cases h with
 | int i=>
   cases r1;cases r2;have:=(fW I 10 A (w1:= .int i) (w2:= .int i) (by show 0<10;decide) rfl rfl (by lia) (.int i) (.int i) q1 q2).1;rw[rP] at this;simpa using this
 | @lst a b ws us ea eb f1 f2 hd Z=>
   cases r1;cases r2;cases q1;cases q2
   by_cases hne:a=b
   ·subst hne;exact SeqAt.EqAt.same _
   obtain⟨_,xs,e1,ra⟩:=g _ _ ea;obtain⟨_,ys,e2,rb⟩:=g _ _ eb;obtain⟨Y,rv,p,_⟩:=I.list (cG.of e1);obtain⟨B,L,p2,_⟩:=I.list (cG.of e2);have l1:Y.length=ws.length:=by rw[←rv.length,ra.length]
   have l2:B.length=us.length:=by rw[←L.length,rb.length]
   have S:ws.length=us.length:=by
    by_cases S:ws.length=us.length
    ·exact S
    ·rw[lS S] at Z;cases Z
   have c1:=SeqAt.RcAt.lists p.isList p2.isList (by rw[size_toArray,size_toArray,l1,l2,S]) (A:=A) (by lia) (K6 I (n:=10) (by lia) f1 f2 (by show A.units+1+10<cLine;lia) ra rb rv L);have er:=fC ws us;rw[←S,Nat.min_self,beq_self_eq_true,Bool.and_true] at er;rw[size_toArray,l1,er,Z] at c1;exact SeqAt.EqAt.of_refs hne c1
theorem tZ (hu:A.units+20<cLine) (I:aw X π σ H s) (g:aB X.K H G) {Z:List (aW×Value)} {us:List (aW×W)} {ub:List (aW×V)} (db:DP X.K H us ub) (rb:KV ub Z):
 ∀{kvs:List (aW×W)} {L:List (aW×V)} {B:List (aW×Value)},DP X.K H kvs L->KV L B->(∀p,p∈kvs->∃S,cg us p.1=some S/\lq G p.2 S)->PySem.W.KeqHits A s Z B true:=by
 intro kvs L B d
 induction d generalizing B with
 | nil=>
   intro r _;cases r;exact .nil
 | @cons k w v kvs L Y t ih=>
   intro r hv;cases r with
   | @cons _ b _ bs r1 rt=>
     obtain⟨b1,b2⟩:=b;obtain⟨e1,r2⟩:=r1;cases (show k=b1 from e1);obtain⟨S,hw,sv⟩:=hv _ yby;rcases db.val k with⟨e,_⟩ | ⟨w2,v2,e,e',r3⟩
     ·rw[e] at hw;cases hw
     ·rw[e] at hw;cases hw;obtain⟨y,hy,ry⟩:=fH.some_of (v:=v2) (o:=valueAt Z k) (by rw[←e'];exact rb.val k);exact .hit (e:=true) (b:=true) hy (tY hu I g sv Y r3 r2 ry) (ih rt λp hp=>hv p (ybx _ hp))
theorem HZ (hr:aH k X.A):eo X (compareOp .Eq) HX:=by
 rintro π s σ H x y v u Q I rx ry ⟨wx,wy,G,q,S,r2,g,h,Y⟩;unfold HX at h;split at h
 ·obtain⟨r,he,h⟩:=h;cases he with
  | lst L eb f1 f2 hd=>exact Hx hr π s σ H x y v u Q I rx ry ⟨_,_,G,q,S,r2,g,⟨_,_,L,eb,f1,f2,hd,h⟩,Y⟩
  | dic L eb hl hv=>
    cases S;cases r2;cases rx;cases ry;have hu:=hr.un;obtain⟨_,ua,ra,da⟩:=L.rd g;obtain⟨_,ub,rb,db⟩:=eb.rd g;obtain⟨_,ma,ka,qa,ab⟩:=fN I.hok ra;obtain⟨_,mb,kb,qb,Z⟩:=fN I.hok rb;have B:ka.length=kb.length:=by rw[←qa.length,←qb.length,da.len,db.len,hl]
    refine PySem.W.keq_eq ma mb ab Z (by lia) (λ_=>tZ (A:=X.A.in1) (by show X.A.units+1+20<cLine;lia) I g db qb da qa hv) ?_;rw[B,beq_self_eq_true,Bool.true_and];exact⟨.bl _,H,I,rfl,Y _ H _ G (aE.refl H) (.bl _) g h⟩
 ·exact Ee hr π s σ H x y v u Q I rx ry ⟨wx,wy,G,q,S,r2,g,h,Y⟩
theorem Ia (hr:aH k X.A):eo X (compareOp .NotEq) HY:=by
 rintro π s σ H x y v u Q I rx ry ⟨wx,wy,G,q,S,r2,g,h,Y⟩;unfold HY at h;split at h
 ·obtain⟨r,he,h⟩:=h;cases he with
  | lst L eb f1 f2 hd=>exact Hy hr π s σ H x y v u Q I rx ry ⟨_,_,G,q,S,r2,g,⟨_,_,L,eb,f1,f2,hd,h⟩,Y⟩
  | dic L eb hl hv=>
    cases S;cases r2;cases rx;cases ry;have hu:=hr.un;obtain⟨_,ua,ra,da⟩:=L.rd g;obtain⟨_,ub,rb,db⟩:=eb.rd g;obtain⟨_,ma,ka,qa,ab⟩:=fN I.hok ra;obtain⟨_,mb,kb,qb,Z⟩:=fN I.hok rb;have B:ka.length=kb.length:=by rw[←qa.length,←qb.length,da.len,db.len,hl]
    refine PySem.W.keq_ne ma mb ab Z (by lia) (λ_=>tZ (A:=X.A.in1) (by show X.A.units+1+20<cLine;lia) I g db qb da qa hv) ?_;rw[B,beq_self_eq_true,Bool.true_and];exact⟨.bl _,H,I,rfl,Y _ H _ G (aE.refl H) (.bl _) g h⟩
 ·exact Ef hr π s σ H x y v u Q I rx ry ⟨wx,wy,G,q,S,r2,g,h,Y⟩
structure OL (ws:List W) (x:W) (j:Nat):Prop where
 hit:∃w,ws[j]?=some w/\w.eq x=true
 no:∀m w,m<j->ws[m]?=some w->w.eq x=false
section
variable {R:Result->Shared->Prop} {I:Addr} {fp wr:List Addr} {Gn:Array GenState->Array GenState->Prop} {n:Nat} {P:Nat->Value->Prop} {St:Nat->Shared->Prop}
end
section
set_option maxHeartbeats 3200000 in
end
section
set_option maxHeartbeats 4000000 in
inductive Ib (G:Gp) (a:Addr) (kvs:List (aW×W)):Prop where
 | dic (h:GD G a kvs):Ib G a kvs
 | lst {ps:List (aW×W)} (h:G a=some (.lst (ps.map λp=> .tup [kW p.1,p.2]))) (e:kvs=ps.foldl (λa p=>cy a p.1 p.2) []):Ib G a kvs
end
def jT (prog:Program) (w:World) (A:Around) (s:Shared) (u v:Value):Prop:=∀(E:yey) (Q:Bool->Shared->Prop),Q true s->wpAny (model prog w) A (eqBool u v) Q E s
theorem jT.of (h:SeqAt.EqAt A s u v true):jT prog w A s u v:=λE Q q=>h prog w E Q q
theorem jT.refs (h:l≠b->∀(E:yey) (Q:yey),Q (.bool true) s->wpAny (model prog w) A (richCompare .Eq (.ref l) (.ref b)) Q E s):jT prog w A s (.ref l) (.ref b):=by
 by_cases hne:l=b
 ·subst hne;exact .of (SeqAt.EqAt.same _)
 ·exact λE Q q=>wpAny_holding (wpAny_ite_split (λB=>absurd (by have:=eq_of_beq B;injection this) hne) λ_=>wax (h hne E _ (wpAny_truthy_bool q)))
theorem BB (hl:s.heap.IsTuple l #[S,Y]) (hb:s.heap.IsTuple b #[B,L]) (hu:A.units<cLine) (h1:jT prog w A.in1 s S B) (h2:jT prog w A.in1 s Y L) (E:yey) (Q:yey) (q:Q (.bool true) s):
 wpAny (model prog w) A (richCompare .Eq (.ref l) (.ref b)) Q E s:=by
 obtain⟨o1,Z,c1,n1,d1⟩:=id hl;obtain⟨o2,e2,c2,n2,d2⟩:=id hb;refine wpAny_richCompare_same_room (T:="tuple") ⟨o1,Z,c1⟩ ⟨o2,e2,c2⟩ PySem.F.slot_tuple_eq (wpAny_call_entry PySem.F.slot_tuple_eq ⟨o1,Z,c1⟩ PySem.F.entry_tuple_eq ?_ (PySem.F.args_tuple_eq_2 _ _)) hu;unfold Builtin.«tuple.__eq__»
 k_delta "compare"
 refine wax ?_;unfold slotArgs;refine wpAny_ite_false (by rfl) (wpAny_ite_false (by rfl) (wpAny_pure ?_));dsimp only;refine wax (wpAny_isInstance (T:="tuple") (b:=true) ⟨o2,e2,c2⟩ (by rfl) ?_);refine wpAny_ite_false (by rfl) ?_;refine wax (wpAny_tupleItemsOf Z d1 ?_);refine wax (wpAny_tupleItemsOf e2 d2 ?_);rw[show(#[S,Y]:Array Value).toList.zip (#[B,L]:Array Value).toList=[(S,B),(Y,L)] from rfl];simp only[forIn_cons,forIn_nil];refine wax (wax (wax (h1 _ _ ?_)));refine wpAny_ite_false (by rfl) (wpAny_pure ?_);dsimp only;refine wax (wax (h2 _ _ ?_));refine wpAny_ite_false (by rfl) (wpAny_pure ?_);refine wpAny_pure ?_;dsimp only;exact wpAny_pure ⟨.bool true,rfl,(λz=>nomatch z),q⟩
theorem mI (hc:(c=2/\r=true)∨(c=3/\r=false)) (S:s.heap.get? l=some o1) (Z:o1.data=.seq items L) (Y:s.heap.get? b=some o2) (d2:o2.data=.seq B n2) (hz:items.size=B.size) 
 (he:∀(j:Nat) (u v:Value),items[j]?=some u->B[j]?=some v->jT prog w A.in1 s u v) (hR:R (.ok (.ret (.bool r))) s):
 ∀(m i:Nat) (t t':Tok),i+m=items.size->codeAny (model prog w) A (.builtin "list.__eq__.loop" ⟨[.ref l,.ref b,.int (i:Int) t,.int c t'],[]⟩) R s
 | 0,i,t,t',hi=>by
   refine codeAny_builtin PySem.MeetsSeq3.entry_eq_loop ?_;have L:items[i]?=none:=by simp;lia
   unfold Builtin.«list.__eq__.loop»
   k_delta "cmpOps"
   rcases hc with⟨rfl,rfl⟩ | ⟨rfl,rfl⟩
   ·dsimp only;rw[show(([CmpOp.Lt,CmpOp.LtE,CmpOp.Eq,CmpOp.NotEq,CmpOp.Gt,CmpOp.GtE]:List CmpOp)[Int.toNat 2]?)=some CmpOp.Eq from rfl];refine wax (wpAny_listItems S Z (wax (wpAny_listItems Y d2 ?_)));rw[Int.toNat_natCast,L];refine wax (wpAny_listItems S Z (wax (wpAny_listItems Y d2 ?_)));refine wpAny_pure ?_;show R (Except.ok (Flow.ret (Value.bool (items.size==B.size)))) s;rw[hz,beq_self_eq_true];exact hR
   ·dsimp only;rw[show(([CmpOp.Lt,CmpOp.LtE,CmpOp.Eq,CmpOp.NotEq,CmpOp.Gt,CmpOp.GtE]:List CmpOp)[Int.toNat 3]?)=some CmpOp.NotEq from rfl];refine wax (wpAny_listItems S Z (wax (wpAny_listItems Y d2 ?_)));rw[Int.toNat_natCast,L];refine wax (wpAny_listItems S Z (wax (wpAny_listItems Y d2 ?_)));refine wpAny_pure ?_;show R (Except.ok (Flow.ret (Value.bool (items.size !=B.size)))) s;rw[hz,bne_self_eq_false];exact hR
 | m+1,i,t,t',hi=>by
   have ih:=mI hc S Z Y d2 hz he hR m (i+1) 0 0 (by lia);refine codeAny_builtin PySem.MeetsSeq3.entry_eq_loop ?_;have l1:i<items.size:=by lia
   have L:items[i]?=some items[i]:=by simp
   have n2:B[i]?=some (B[i]'(by lia)):=by simp
   unfold Builtin.«list.__eq__.loop»
   k_delta "cmpOps"
   rcases hc with⟨rfl,rfl⟩ | ⟨rfl,rfl⟩
   ·dsimp only;rw[show(([CmpOp.Lt,CmpOp.LtE,CmpOp.Eq,CmpOp.NotEq,CmpOp.Gt,CmpOp.GtE]:List CmpOp)[Int.toNat 2]?)=some CmpOp.Eq from rfl];refine wax (wpAny_listItems S Z (wax (wpAny_listItems Y d2 ?_)));rw[Int.toNat_natCast,L,n2];refine wax (he i _ _ L n2 _ _ ?_);refine wpAny_ite_true (by rfl) ?_;exact wpAny_pure ⟨PySem.plainId_quiet PySem.MeetsSeq3.plain_eq_loop _,ih⟩
   ·dsimp only;rw[show(([CmpOp.Lt,CmpOp.LtE,CmpOp.Eq,CmpOp.NotEq,CmpOp.Gt,CmpOp.GtE]:List CmpOp)[Int.toNat 3]?)=some CmpOp.NotEq from rfl];refine wax (wpAny_listItems S Z (wax (wpAny_listItems Y d2 ?_)));rw[Int.toNat_natCast,L,n2];refine wax (he i _ _ L n2 _ _ ?_);refine wpAny_ite_true (by rfl) ?_;exact wpAny_pure ⟨PySem.plainId_quiet PySem.MeetsSeq3.plain_eq_loop _,ih⟩
theorem uc (ab:(op=.Eq/\r=true)∨(op=.NotEq/\r=false)) (hl:s.heap.IsList l items) (hb:s.heap.IsList b B) (hz:items.size=B.size) (hu:A.units<cLine)
 (he:∀(j:Nat) (u v:Value),items[j]?=some u->B[j]?=some v->jT prog w A.in1 s u v) (E:yey) (Q:yey) (q:Q (.bool r) s):
 wpAny (model prog w) A (richCompare op (.ref l) (.ref b)) Q E s:=by
 obtain⟨o1,L,c1,n1,d1⟩:=id hl;obtain⟨o2,Y,c2,n2,d2⟩:=id hb;rcases ab with⟨rfl,rfl⟩ | ⟨rfl,rfl⟩
 ·refine wpAny_richCompare_same_room (T:="list") ⟨o1,L,c1⟩ ⟨o2,Y,c2⟩ PySem.F.slot_list_eq (call_meetsIn PySem.F.slot_list_eq ⟨o1,L,c1⟩ PySem.F.entry_list_eq (PySem.F.args_list_eq_2 _ _) (S:=λZ R s'=>Z=A/\s'=s/\R (.ok (.ret (.bool true))) s) ?_ ⟨rfl,rfl,(λz=>nomatch z),q⟩) hu;rintro Z R s' ⟨rfl,rfl,hR⟩;unfold Builtin.«list.__eq__»
  k_delta "listCompare"
  refine wax ?_;unfold slotArgs;refine wpAny_ite_false (by rfl) (wpAny_ite_false (by rfl) (wpAny_pure ?_));dsimp only;refine wax (wpAny_isInstance (T:="list") (b:=true) ⟨o2,Y,c2⟩ PySem.AutoSeq1.sub_list_list ?_);refine wpAny_ite_false (by rfl) ?_;refine wpAny_ite_true (by rfl) ?_;refine wax (wpAny_listItems L d1 (wax (wpAny_listItems Y d2 ?_)));refine wpAny_ite_false (by rw[hz,bne_self_eq_false];rfl) ?_;exact wpAny_pure ⟨PySem.plainId_quiet PySem.MeetsSeq3.plain_eq_loop _,mI (.inl ⟨rfl,rfl⟩) L d1 Y d2 hz he hR items.size 0 0 0 (by lia)⟩
 ·refine wpAny_richCompare_same_room (T:="list") ⟨o1,L,c1⟩ ⟨o2,Y,c2⟩ PySem.F.slot_list_ne (call_meetsIn PySem.F.slot_list_ne ⟨o1,L,c1⟩ PySem.F.entry_list_ne (PySem.F.args_list_ne_2 _ _) (S:=λZ R s'=>Z=A/\s'=s/\R (.ok (.ret (.bool false))) s) ?_ ⟨rfl,rfl,(λz=>nomatch z),q⟩) hu;rintro Z R s' ⟨rfl,rfl,hR⟩;unfold Builtin.«list.__ne__»
  k_delta "listCompare"
  refine wax ?_;unfold slotArgs;refine wpAny_ite_false (by rfl) (wpAny_ite_false (by rfl) (wpAny_pure ?_));dsimp only;refine wax (wpAny_isInstance (T:="list") (b:=true) ⟨o2,Y,c2⟩ PySem.AutoSeq1.sub_list_list ?_);refine wpAny_ite_false (by rfl) ?_;refine wpAny_ite_true (by rfl) ?_;refine wax (wpAny_listItems L d1 (wax (wpAny_listItems Y d2 ?_)));refine wpAny_ite_false (by rw[hz,bne_self_eq_false];rfl) ?_;exact wpAny_pure ⟨PySem.plainId_quiet PySem.MeetsSeq3.plain_eq_loop _,mI (.inr ⟨rfl,rfl⟩) L d1 Y d2 hz he hR items.size 0 0 0 (by lia)⟩
inductive FZ (G:Gp) (a b:Addr):Bool->Prop where
 | old {r:Bool} (h:HW G a b r):FZ G a b r
 | nil {ws:List W} (ea:G a=some (.lst ws)) (eb:G b=some (.lst [])):FZ G a b ws.isEmpty
def mJ:W2:=λx y G q=>match x,y with
 | .ref a,.ref b=>∃r,FZ G a b r/\q (.bl r) G
 | x,y=>At x y G q
def oP:W2:=λx y G q=>match x,y with
 | .ref a,.ref b=>∃r,FZ G a b r/\q (.bl (!r)) G
 | x,y=>Au x y G q
theorem ud (hr:aH k X.A) (L:(op=.Eq/\r=true)∨(op=.NotEq/\r=false)) (I:aw X π σ H s) (g:aB X.K H G) (Y:G a=some (.lst [])) (eb:G b=some (.lst [])) (E:yey) (Q:yey) (q:Q (.bool r) s):wpAny (model X.prog X.w) X.A (richCompare op (.ref a) (.ref b)) Q E s:=by
 have hu:=hr.un;obtain⟨_,xs,e1,Z⟩:=g _ _ Y;obtain⟨_,ys,e2,rb⟩:=g _ _ eb;cases Z;cases rb;obtain⟨ab,rv,p,_⟩:=I.list (cG.of e1);obtain⟨S,B,p2,_⟩:=I.list (cG.of e2);cases rv;cases B;exact uc L p.isList p2.isList rfl (by lia) (λj u v hj hv=>by cases hj) E Q q
theorem yA (hr:aH k X.A) {G:Gp} (I:aw X π σ H s) (g:aB X.K H G) {a b:Addr} {x:W} {ws:List W} (Y:G a=some (.lst (x::ws))) (eb:G b=some (.lst [])) (E:yey) (Q:yey):
 (Q (.bool false) s->wpAny (model X.prog X.w) X.A (richCompare .Eq (.ref a) (.ref b)) Q E s)/\(Q (.bool true) s->wpAny (model X.prog X.w) X.A (richCompare .NotEq (.ref a) (.ref b)) Q E s):=by
 have hu:=hr.un;obtain⟨_,xs,e1,Z⟩:=g _ _ Y;obtain⟨_,ys,e2,rb⟩:=g _ _ eb;obtain⟨L,rv,p,_⟩:=I.list (cG.of e1);obtain⟨B,S,p2,_⟩:=I.list (cG.of e2);have l1:L.length=(x::ws).length:=by rw[←rv.length,Z.length]
 have l2:B.length=([]:List W).length:=by rw[←S.length,rb.length]
 have ne:(L.toArray.size !=B.toArray.size)=true:=by rw[size_toArray,size_toArray,l1,l2];simp
 exact⟨λq=>SeqAt.RcAt.lists_lengths p.isList p2.isList (by simpa using ne) (A:=X.A) (by lia) X.prog X.w E Q q,λq=>SeqAt.RcNeAt.lists_lengths p.isList p2.isList (by simpa using ne) (A:=X.A) (by lia) X.prog X.w E Q q⟩
theorem CV (hr:aH k X.A):eo X (compareOp .Eq) mJ:=by
 rintro π s σ H x y v u Q I rx Y ⟨wx,wy,G,q,L,Z,g,h,S⟩;unfold mJ at h;split at h
 ·rename_i a b;obtain⟨r,he,h⟩:=h;have B:EP X π σ Q (.bool r) s:=⟨.bl _,H,I,rfl,S _ H _ G (aE.refl H) (.bl _) g h⟩;cases he with
  | old he=>exact HZ hr π s σ H x y v u Q I rx Y ⟨_,_,G,q,L,Z,g,⟨r,he,h⟩,S⟩
  | @nil ws ea eb=>
    cases L;cases Z;cases rx;cases Y;cases ws with
    | nil=>exact ud hr (.inl ⟨rfl,rfl⟩) I g ea eb X.xe _ B
    | cons x ws=>exact(yA hr I g ea eb X.xe _).1 B
 ·exact Ee hr π s σ H x y v u Q I rx Y ⟨wx,wy,G,q,L,Z,g,h,S⟩
theorem yB (hr:aH k X.A):eo X (compareOp .NotEq) oP:=by
 rintro π s σ H x y v u Q I rx Y ⟨wx,wy,G,q,L,Z,g,h,S⟩;unfold oP at h;split at h
 ·rename_i a b;obtain⟨r,he,h⟩:=h;have B:EP X π σ Q (.bool (!r)) s:=⟨.bl _,H,I,rfl,S _ H _ G (aE.refl H) (.bl _) g h⟩;cases he with
  | old he=>exact Ia hr π s σ H x y v u Q I rx Y ⟨_,_,G,q,L,Z,g,⟨r,he,h⟩,S⟩
  | @nil ws ea eb=>
    cases L;cases Z;cases rx;cases Y;cases ws with
    | nil=>exact ud hr (.inr ⟨rfl,rfl⟩) I g ea eb X.xe _ B
    | cons x ws=>exact(yA hr I g ea eb X.xe _).2 B
 ·exact Ef hr π s σ H x y v u Q I rx Y ⟨wx,wy,G,q,L,Z,g,h,S⟩
section
variable {tg:Expr}
end
section
variable {N:List Str} {qual:Str} {f:Addr} {cdv:Value} {outer:List Env} {E:XK}
end
def Lv (x y:W):Prop:=x.flat=true/\y.flat=true/\x.dep<=140/\x.eq y=true
mutual
inductive Lx (h:Heap):Nat->W->Value->Prop where
 | int {d:Nat} (n:Int) (t:Tok):Lx h d (.int n) (.int n t)
 | tup {d:Nat} {a:Addr} {o:Obj} {items:Array Value} {n:Nat} {ws:List W} (gO:h.get? a=some o) (hc:o.cls=.type "tuple") (dO:o.data=.seq items n) (hs:BC h d ws items.toList):Lx h (d+1) (.tup ws) (.ref a)
inductive BC (h:Heap):Nat->List W->List Value->Prop where
 | nil {d:Nat}:BC h d [] []
 | cons {d:Nat} {w:W} {v:Value} {ws:List W} {vs:yez} (r:Lx h d w v) (rs:BC h d ws vs):BC h d (w::ws) (v::vs)
end
section
variable {h h':Heap}
end
section
variable (P:Program) (w:World)
end
inductive Sh:W->W->Prop where
 | int (n m:Int):Sh (.int n) (.int m)
 | tup {xs ys:List W} (h:∀p,p∈xs.zip ys->Sh p.1 p.2):Sh (.tup xs) (.tup ys)
inductive Ly (K:yav) (H:Hp):List (O×W)->List (O×Addr×Value)->Prop where
 | nil:Ly K H [] []
 | cons {k:O} {a:Addr} {w:W} {v:V} {u:Value} {kvs:List (O×W)} {xs:List (O×Addr×Value)} (rk:bO K H (.tup (ag k)) (.ref a)) (rv:bO K H w v) (ru:aT v u) (t:Ly K H kvs xs):Ly K H ((k,w)::kvs) ((k,a,u)::xs)
open PySem PySem.Spec PyProof.Rows _N PySem.W
section
variable {it d:Addr} {ep:Nat} {es:Array DictEntry}
end
end _L
set_option maxHeartbeats 1000000
namespace _L
open PySem PySem.Spec PyProof.Rows _N PySem.W
inductive NV (K:yav) (H:Hp):List O->List Value->Prop where
 | nil:NV K H [] []
 | cons {o:O} {a:Addr} {os:List O} {us:yez} (r:bO K H (.tup (ag o)) (.ref a)) (hd:o.dp<=3) (t:NV K H os us):NV K H (o::os) (.ref a::us)
open PySem PySem.Spec PyProof.Rows
section
variable {G:Gp} {q:WK} {b:Addr} {i j:Int} {xs ys:List W} {z z':PySem.Str} {ns:List Int} {y:W} {c d:Bool}
theorem N0:fS (.int i) (.int j) G q=q (.int (i+j)) G:=rfl
theorem N3:fS (.tup xs) (.tup ys) G q=(xs.length+ys.length<=100000/\q (.tup (xs++ys)) G):=rfl
theorem N4:fS (.ref a) (.ref b) G q=(∃xs ys,G a=some (.lst xs)/\G b=some (.lst ys)/\xs.length+ys.length<=100000/\∀p,G p=none->q (.ref p) (av G p (.lst (xs++ys)))):=rfl
theorem NG:fS (.str z) (.str z') G q=(z.length+z'.length<=100000/\q (.str (z++z')) G):=rfl
theorem N5:yk (.int i) (.int j) G q=(lh i j/\q (.int (i*j)) G):=rfl
theorem N6:rT (.ref a) (.str z) G q=(∃kvs w,GD G a kvs/\cg kvs (.inr z)=some w/\q w G):=rfl
theorem N7:rT (.str z) (.int i) G q=(z.length<=100000/\∃c,dQ z.cps.toList i=some c/\q (.str ⟨#[c]⟩) G):=rfl
theorem N8:rT (.tup xs) (.int i) G q=(∃w,dQ xs i=some w/\q w G):=rfl
theorem N9:rT (.scr ns) (.int i) G q=(∃n,dQ ns i=some n/\q (.int n) G):=rfl
theorem Oa:rT (.ref a) (.int i) G q=(∃xs w,G a=some (.lst xs)/\dQ xs i=some w/\q w G):=rfl
theorem Ob:mJ (.ref a) (.ref b) G q=(∃r,FZ G a b r/\q (.bl r) G):=rfl
theorem Oc:mJ (.tup xs) y G q=((W.tup xs).flat=true/\y.flat=true/\(W.tup xs).dep<=150/\q (.bl ((W.tup xs).eq y)) G):=rfl
theorem Od:mJ (.int i) y G q=((W.int i).flat=true/\y.flat=true/\(W.int i).dep<=150/\q (.bl ((W.int i).eq y)) G):=rfl
theorem Oe:mJ (.str z) y G q=((W.str z).flat=true/\y.flat=true/\(W.str z).dep<=150/\q (.bl ((W.str z).eq y)) G):=rfl
theorem Of:mJ (.bl c) y G q=((W.bl c).flat=true/\y.flat=true/\(W.bl c).dep<=150/\q (.bl ((W.bl c).eq y)) G):=rfl
theorem Og:mJ .non y G q=(W.non.flat=true/\y.flat=true/\W.non.dep<=150/\q (.bl (W.non.eq y)) G):=rfl
theorem Oh:oP (.ref a) (.ref b) G q=(∃r,FZ G a b r/\q (.bl (!r)) G):=rfl
theorem Oi:oP (.tup xs) y G q=((W.tup xs).flat=true/\y.flat=true/\(W.tup xs).dep<=150/\q (.bl (!(W.tup xs).eq y)) G):=rfl
theorem Oj:oP (.int i) y G q=((W.int i).flat=true/\y.flat=true/\(W.int i).dep<=150/\q (.bl (!(W.int i).eq y)) G):=rfl
theorem Ol:oP (.str z) y G q=((W.str z).flat=true/\y.flat=true/\(W.str z).dep<=150/\q (.bl (!(W.str z).eq y)) G):=rfl
theorem Om:oP (.bl c) y G q=((W.bl c).flat=true/\y.flat=true/\(W.bl c).dep<=150/\q (.bl (!(W.bl c).eq y)) G):=rfl
theorem On:oP .non y G q=(W.non.flat=true/\y.flat=true/\W.non.dep<=150/\q (.bl (!W.non.eq y)) G):=rfl
theorem Oo:AE (.int i) (.int j) G q=q (.bl (decide (i<j))) G:=rfl
theorem Op:AE (.tup xs) (.tup ys) G q=(W.flats xs=true/\W.flats ys=true/\W.deps xs<=149/\W.ords xs ys=true/\q (.bl (W.lts xs ys)) G):=rfl
theorem Oq:xl (.int i) (.int j) G q=q (.int (i-j)) G:=rfl
theorem Os:xl (.bl c) (.bl d) G q=q (.int (b2i c-b2i d)) G:=rfl
theorem Ot {C:Int->Int->Prop} {f:Int->Int->W}:q0 C f (.int i) (.int j) G q=(C i j/\q (f i j) G):=rfl
theorem Ou:kN f (.int i) (.int j) G q=q (f i j) G:=rfl
theorem Ov:lp [.ref a] G q=(∃n:Nat,Bz G a n/\q (.int n) G):=rfl
theorem Ow:lp [.str z] G q=(z.length<=100000/\q (.int z.length) G):=rfl
theorem Ox:lp [.tup xs] G q=q (.int xs.length) G:=rfl
theorem Oy:lp [.scr ns] G q=q (.int ns.length) G:=rfl
theorem Oz:Lg (.int i) (.int j) G q=q (.bl (decide (i≥j))) G:=rfl
theorem OA:mJ (.ref a) (.int i) G q=((W.ref a).flat=true/\(W.int i).flat=true/\(W.ref a).dep<=150/\q (.bl ((W.ref a).eq (.int i))) G):=rfl
end
section
variable {τ:bV} {G:Gp} {d:cj} {k:Int} {a b:Str} {ws:List W} {t u v:WS} {c:WT}
end
def mK (r r':W2) (ta tb tc:WE):WE:=λτ G q=>ta τ G λx G1=>tb τ G1 λy G2=>r x y G2 λz G3=>∃k,z=.bl k/\(if k=true then tc τ G3 λv G4=>r' y v G4 q else q (.bl false) G3)
theorem gJ.chain {r r':W2} {ta tb tc:WE} {σ:St} {H:Hp} {Q:VK} (h:gJ K (mK r r' ta tb tc) σ H Q):pO (LR K r) (LR K r') (gJ K ta) (gJ K tb) (gJ K tc) σ H Q:=by
 obtain⟨τ,G,q,S,hg,ht,hQ⟩:=h;refine⟨τ,G,_,S,hg,ht,λv H1 w G1 t1 r1 g1 q1=>?_⟩;refine⟨τ,G1,_,S.mono t1,g1,q1,λv2 H2 w2 G2 t2 r2 g2 q2=>?_⟩;refine⟨w,w2,G2,_,r1.mono t2,r2,g2,q2,λv3 H3 w3 Y t3 r3 g3 B=>?_⟩;obtain⟨k,rfl,B⟩:=B;cases r3;refine⟨k,rfl,?_⟩;have L:=(t1.trans t2).trans t3;cases k with
 | false=>exact hQ _ H3 _ Y L (.bl false) g3 B
 | true=>
   refine⟨τ,Y,_,S.mono L,g3,B,λv4 H4 w4 G4 Z r4 g4 q4=>?_⟩;exact⟨w2,w4,G4,q,(r2.mono t3).mono Z,r4,g4,q4,λv5 H5 w5 G5 t5 r5 g5 q5=>hQ v5 H5 w5 G5 ((L.trans Z).trans t5) r5 g5 q5⟩
theorem yC {op B:CmpOp} {r S:W2} {a b c:Expr} {ta tb tc:WE} (Y:eo X (compareOp op) r) (L:eo X (compareOp B) S) (ha:QE X a ta) (hb:QE X b tb) (hc:QE X c tc)
 (Z:lastMarks [op,B] [b,c]=false:=by with_unfolding_all rfl):QE X (.Compare a [op,B] [b,c] pos) (mK r S ta tb tc):=
 (wv Y L ha hb hc Z).imp λ_ _ _ h=>h.chain
theorem yD {op B:CmpOp} {r S:W2} {a b c:Expr} {ta tb tc:WE} (ho:eo X (compareOp op) r) (L:eo X (compareOp B) S) (ha:QE X a ta) (hb:QE X b tb) (hc:QE X c tc)
 (hm:lastMarks [op,B] [b,c]=false:=by with_unfolding_all rfl):QT X (.Compare a [op,B] [b,c] pos) (nQ (mK r S ta tb tc)):=
 (ww ho L ha hb hc hm).imp λσ H Q h=>by
   obtain⟨τ,G,q,hs,Y,Z,hQ⟩:=h.test;exact gJ.chain ⟨τ,G,q,hs,Y,Z,hQ⟩
def BD:W2:=λx y G q=>match x,y with
 | .str a,.str b=>q (.bl (!decide (b.cps.toList<a.cps.toList))) G
 | .int i,.int j=>q (.bl (decide (i<=j))) G
 | _,_=>False
theorem ue:eo X (compareOp .LtE) BD:=by
 rintro π s σ H x y v u Q I rx S ⟨wx,Z,G,q,B,Y,g,h,L⟩;unfold BD at h;split at h
 ·cases B;cases Y;obtain⟨t,rfl⟩:=rx;obtain⟨t',rfl⟩:=S;exact P.le_str ⟨.bl _,H,I,rfl,L _ H _ G (aE.refl H) (.bl _) g h⟩
 ·exact Ed π s σ H x y v u Q I rx S ⟨_,_,G,q,B,Y,g,h,L⟩
 ·exact h.elim
noncomputable def aq (m:Nat):List Nat:=(Nat.toDigits 10 m).map Char.toNat
theorem oQ (m:Nat):PySem.Str.ofString (toString ((m:Nat):Int))=⟨(aq m).toArray⟩:=by
 have h:=W.KIN.signs_num m;generalize PySem.Str.ofString (toString ((m:Nat):Int))=z at h ⊢;obtain⟨a⟩:=z;show Str.mk a=_;have h:a.toList=aq m:=h;rw[←h]
def vK:List W->Gp->WK->Prop:=λws G q=>match ws with
 | [.int i]=>∃m:Nat,i=(m:Int)/\m<2^1900/\q (.str ⟨(aq m).toArray⟩) G
 | _=>False
theorem log2_lt (h:m<2^1900):m.log2<1920:=by
 by_cases h0:m=0
 ·rw[h0];decide
 ·exact Nat.lt_trans ((Nat.log2_lt h0).mpr h) (by decide)
theorem yE:cV X (.type "str") vK:=by
 rintro π s σ H xs us Q I r ⟨ws,G,q,B,g,h,Y⟩;cases B with
 | nil=>exact False.elim h
 | cons S L=>
   cases L with
   | cons _ _=>cases S<;> exact False.elim h
   | nil=>
     cases S with
     | int i=>
       obtain⟨m,rfl,hm,Z⟩:=h;obtain⟨u,rfl,t,rfl⟩:=cC r;refine PySem.P.str_of_int (log2_lt hm) ⟨.str _,H,I.tok _,⟨_,rfl⟩,Y _ H _ G (aE.refl H) ?_ g Z⟩;rw[oQ];exact .str _
     | _=>exact False.elim h
def yF:List W->Gp->WK->Prop:=λws G q=>match ws with
 | [.str z]=>PySem.NumText.AllDigits z.cps.toList/\z.cps.toList≠[]/\z.length<=600/\q (.int ((PySem.NumText.digitsVal z.cps.toList:Nat):Int)) G
 | ws=>Ec ws G q
theorem E5:cV X (.type "int") yF:=by
 rintro π s σ H xs us Q I r ⟨ws,G,q,B,g,h,S⟩;unfold yF at h;split at h
 ·rename_i z;obtain⟨h1,h2,Y,h4⟩:=h;cases B with
  | cons Z L=>
    cases L;cases Z;obtain⟨u,rfl,t,rfl⟩:=cC r;exact W.KIN.call_text (PySem.intText_digits h1 h2 (ycy Y (by decide))) (ycy Y (by decide)) ⟨.int _,H,I.tok _,⟨_,rfl⟩,S _ H _ G (aE.refl H) (.int _) g h4⟩
 ·exact GZ π s σ H xs us Q I r ⟨_,G,q,B,g,h,S⟩
section
variable {G:Gp} {q:WK} {a b:Str} {i j:Int}
theorem OB:BD (.str a) (.str b) G q=q (.bl (!decide (b.cps.toList<a.cps.toList))) G:=rfl
theorem OC:BD (.int i) (.int j) G q=q (.bl (decide (i<=j))) G:=rfl
end
def DfA (K:yav) (mg:yew) (u x:Str) (st:Stmt) (ps:List Str):Prop:=∃(f:Addr) (fd:FuncData),bf K x x st f fd/\bv K fd ps []/\mg u=some (.ref f)
section
variable {u:Str} {sp:aX}
theorem DfA.fx (D:DfA K mg u x st ps) (h:∀(f:Addr) (fd:FuncData),bf K x x st f fd->io P w K mg base k f fd ps sp):Fx P w K mg base u ps k sp:=by
 obtain⟨f,fd,F,b,m⟩:=D;exact⟨f,fd,h f fd F,m,F.kp,b⟩
end
theorem mL {a b:Int} {p m:Nat} (B:a=(p:Int)) (hb:b=(m:Int)):sliceRange a b 1=(List.range (m-p)).map λk=>p+k:=by
 subst B hb;unfold sliceRange;simp only[show(1:Int) > 0 by decide,if_true];have L:(if (p:Int)<(m:Int) then ((m:Int)-p+1-1)/1 else 0).toNat=m-p:=by split<;> lia
 rw[L];apply List.map_congr_left;intro k _;lia
theorem clip_n {p n:Nat}:max 0 (min (if (p:Int)<0 then (p:Int)+n else p) n)=((min p n:Nat):Int):=by
 rw[ycw (by lia),_H.cmin];exact Int.max_eq_right (Int.natCast_nonneg _)
theorem yG (lo hi:Option Int) (p q n:Nat) (L:p<=n) (h1:(lo=none/\p=0)∨lo=some (p:Int)) (h2:(hi=none/\n<=q)∨hi=some (q:Int)):Builtin.Str.strSliceIndices lo hi 1 n=(List.range (min q n-p)).map λk=>p+k:=by
 have B:min p n=p:=Nat.min_eq_left L;rcases h1 with⟨rfl,rfl⟩ | rfl<;> rcases h2 with⟨rfl,h⟩ | rfl
 ·exact mL rfl (show(n:Int)=((min q n:Nat):Int) by rw[min_eq_right h])
 ·exact mL rfl clip_n
 ·exact mL (clip_n.trans (by rw[B])) (show(n:Int)=((min q n:Nat):Int) by rw[min_eq_right h])
 ·exact mL (clip_n.trans (by rw[B])) clip_n
theorem lr (l:List Nat) (p:Nat):∀m,p+m<=l.length->((List.range m).map λk=>p+k).filterMap (l.toArray[·]?)=(l.drop p).take m
 | 0,_=>by simp
 | m+1,h=>by
   rw[List.range_succ,map_append,List.filterMap_append,lr l p m (by lia)];have B:(l.drop p)[m]?=some l[p+m]:=by rw[List.getElem?_drop,ycz (by lia)]
   rw[List.take_succ,B];simp[ycz (show p+m<l.length by lia)]
theorem vL (l:List Nat) (lo hi:Option Int) (p q:Nat) (L:p<=l.length) (h1:(lo=none/\p=0)∨lo=some (p:Int)) (h2:(hi=none/\l.length<=q)∨hi=some (q:Int)):Txt.slice ⟨l.toArray⟩ lo hi=⟨((l.drop p).take (q-p)).toArray⟩:=by
 unfold Txt.slice;have Y:(⟨l.toArray⟩:Str).length=l.length:=by simp[Str.length]
 rw[Y,yG lo hi p q l.length L h1 h2];have Z:((List.range (min q l.length-p)).map λk=>p+k).length=min q l.length-p:=by simp
 rw[Z];have S:(l.drop p).take (q-p)=(l.drop p).take (min q l.length-p):=by
  rcases Nat.le_total q l.length with h | h
  ·rw[Nat.min_eq_left h]
  ·rw[min_eq_right h,take_of_length_le (by rw[length_drop];lia),take_of_length_le (by rw[length_drop];exact ycx _)]
 rw[S];split
 ·rename_i h;have h:min q l.length-p=l.length:=by simpa using h
  have h0:(l.drop p).take (min q l.length-p)=l:=by
   rw[h];rcases Nat.eq_zero_or_pos p with rfl | B
   ·rw[drop_zero,take_length]
   ·have:l.length=0:=by lia
    rw[List.length_eq_zero_iff.mp this]
    rfl
  rw[h0]
 ·rw[lr l p _ (by lia)]
def rW:W3:=λx lo hi G k=>match x with
 | .str z=>z.length<=100000/\∃p q:Nat,p<=z.length/\((lo=none/\p=0)∨lo=some (p:Int))/\((hi=none/\z.length<=q)∨hi=some (q:Int))/\k (.str ⟨((z.cps.toList.drop p).take (q-p)).toArray⟩) G
 | x=>re x lo hi G k
theorem Ic:GJ X (Ny X.K rW):=by
 rintro π s σ H x v vl Z lo hi sl Q I rx Y pl pu ⟨w,G,q,r,g,h,S⟩;unfold rW at h;split at h
 ·rename_i z;obtain⟨hz,p,qq,hp,h1,h2,h⟩:=h;have ez:(⟨z.cps.toList.toArray⟩:Str)=z:=by cases z;simp
  have L:=vL z.cps.toList lo hi p qq (by rw[mF];exact hp) h1 (by rw[mF];exact h2);rw[ez] at L;rw[←L] at h;cases r;obtain⟨t,rfl⟩:=rx;refine⟨"str",_,slot_str_getitem.lookup,typeIs_str s z t,?_⟩;have hl:∃l:Option (Int×Tok),vl=partValue l/\l.map (·.1)=lo:=by
   cases pl with
   | none=>exact⟨none,rfl,rfl⟩
   | int i t=>exact⟨some (i,t),rfl,rfl⟩
  have hu:∃u:Option (Int×Tok),Z=partValue u/\u.map (·.1)=hi:=by
   cases pu with
   | none=>exact⟨none,rfl,rfl⟩
   | int i t=>exact⟨some (i,t),rfl,rfl⟩
  obtain⟨l,rfl,el⟩:=hl;obtain⟨u,rfl,eu⟩:=hu;refine wpAny_getItem_str_slice (l:=l) (u:=u) (st:=none) ?_ rfl ?_
  ·obtain⟨o,e1,e2,e3⟩:=Y;exact⟨o,e1,e2,e3⟩
  ·have B:=Txt.slice_le z lo hi;rw[←el,←eu] at h B;unfold sliceMade;split
   ·rename_i hy;have e:Txt.slice z (l.map (·.1)) (u.map (·.1))=z:=ycv hy;rw[e] at h;exact⟨.str z,H,I,⟨_,rfl⟩,S _ H _ G (aE.refl H) (.str _) g h⟩
   ·rename_i hn;have e:=show Txt.slice z (l.map (·.1)) (u.map (·.1))=_ from ycw hn
    rw[e] at h B;exact⟨ycy B (bA hz),.str _,H,I.tok _,⟨_,rfl⟩,S _ H _ G (aE.refl H) (.str _) g h⟩
 ·exact K5 π s σ H x v vl Z lo hi sl Q I rx Y pl pu ⟨w,G,q,r,g,h,S⟩
def Ie (te:WE) (tl th:WO):WE:=λτ G q=>te τ G λx G1=>tl τ G1 λl G2=>th τ G2 λu G3=>rW x l u G3 q
theorem vM {lo hi:Option Expr} {tl th:WO} (he:QE X e te) (hl:QO X lo tl) (hu:QO X hi th):QE X (.Subscript e (.Slice lo hi none p2) pos) (Ie te tl th):=
 (wK Ic he hl hu).imp λσ H Q z0=>z0.el λτ G q B Z ht hQ=>⟨τ,G,_,B,Z,ht,λv H1 w G1 S r1 g1 q1=>⟨τ,G1,_,B.mono S,g1,q1,λl H2 G2 L g2 q2=>
   ⟨τ,G2,_,(B.mono S).mono L,g2,q2,λu H3 G3 Y g3 q3=>⟨w,G3,q,(r1.mono L).mono Y,g3,q3,λv4 H4 w4 G4 t4=>hQ v4 H4 w4 G4 (((S.trans L).trans Y).trans t4)⟩⟩⟩⟩
theorem OD {z:Str} {lo hi:Option Int} {G:Gp} {k:WK}:rW (.str z) lo hi G k=(z.length<=100000/\∃p q:Nat,p<=z.length/\((lo=none/\p=0)∨lo=some (p:Int))/\((hi=none/\z.length<=q)∨hi=some (q:Int))/\k (.str ⟨((z.cps.toList.drop p).take (q-p)).toArray⟩) G):=rfl
theorem Lz {xs:List W} {lo hi:Option Int} {G:Gp} {k:WK}:rW (.tup xs) lo hi G k=re (.tup xs) lo hi G k:=rfl
theorem OE {lo hi:Option Int} {G:Gp} {k:WK}:rW (.ref a) lo hi G k=re (.ref a) lo hi G k:=rfl
theorem OF {lo hi:Option Int} {G:Gp} {k:WK}:rW (.scr ns) lo hi G k=re (.scr ns) lo hi G k:=rfl
def GTx (K:yav) (a:Addr) (ts:List Str):Prop:=∃(d:Option Addr) (n:Nat) (sl:Array (Option Value)) (us:yez),K.lookup a=some ⟨.type "tuple",d,.seq us.toArray n,sl⟩/\aK (ts.map V.str) us
def LB (a:Addr) (ts:List Str):W2:=λx y G q=>∃z,x=.str z/\y=.ref a/\q (.bl (ts.any λt=>t==z)) G
noncomputable def BE (z:Str):Value->Bool
 | .str t _=>t==z
 | _=>false
theorem uf (z:Str):∀{B:List Str} {us:yez},aK (B.map V.str) us->us.any (BE z)=B.any (λt=>t==z)/\∀y,y∈us->∃t k,y=Value.str t k
 | [],[],_=>⟨rfl,λy h=>by cases h⟩
 | [],_::_,h=>by cases h
 | _::_,[],h=>by cases h
 | t::B,u::us,h=>by
   cases h with
   | cons h1 h2=>
     obtain⟨k,rfl⟩:=h1;obtain⟨S,Y⟩:=uf z h2;refine⟨?_,λy L=>?_⟩
     ·rw[any_cons,any_cons,S]
      rfl
     ·rcases mem_cons.mp L with rfl | L
      ·exact⟨t,k,rfl⟩
      ·exact Y y L
theorem Ig (hK:GTx X.K a B):eo X (compareOp .In) (LB a B):=by
 rintro π s σ H x y v u Q I rx ry ⟨wx,wy,G,q,S,r2,g,h,hQ⟩;obtain⟨z,Z,e2,h⟩:=h;subst Z e2;cases S;cases r2;obtain⟨t,rfl⟩:=rx;cases ry;obtain⟨d,n,sl,us,hk,L⟩:=hK;obtain⟨i1,i2⟩:=uf z L;have hh:=I.kIn _ _ hk;refine SeqAt.in_tupleAt (BE z) ⟨_,hh,rfl,n,rfl⟩ (λy Y=>?_) ?_
 ·obtain⟨t',k,rfl⟩:=i2 y (by simpa using Y);exact SeqAt.EqAt.str_str _ _ _ _
 ·rw[show us.toArray.any (BE z)=us.any (BE z) by simp,i1];exact⟨.bl _,H,I,rfl,hQ _ H _ G (aE.refl H) (.bl _) g h⟩
abbrev WF:=Str->bV->Gp->(Str->Gp->Prop)->Prop
def Ii:WF:=λout _ G q=>q out G
def Ij (b:Str) (t:WF):WF:=λout τ G q=>(out++b).length<=100000/\t (out++b) τ G q
def Ik (x:W) (z:Str):Prop:=x=.str z∨∃m:Nat,x=.int (m:Int)/\m<2^1900/\z=⟨(aq m).toArray⟩
def Im (te:WE) (t:WF):WF:=λout τ G q=>te τ G λx G1=>∃z,Ik x z/\(out++z).length<=100000/\t (out++z) τ G1 q
def QF (X:Cx) (es:List Expr) (t:WF):Prop:=∀(π:List (Addr×Obj)) (s:Shared) (σ:St) (H:Hp) (out:Str) (Q:VK) (τ:bV) (G:Gp) (q:Str->Gp->Prop),aw X π σ H s->aV X.K H τ σ->aB X.K H G->t out τ G q->
 (∀z H1 G1,aE H H1->aB X.K H1 G1->q z G1->Q (.str z) H1)->out.length<=100000->wpAny (model X.prog X.w) X.A (joinParts out (evalEach es X.env)) (EP X π σ Q) X.xe s
theorem rX:QF X [] Ii:=λπ s σ H S Q τ G q I hs B Y L Z=>joinParts_nilE (joinParts_nil ⟨.str _,H,I.tok _,⟨_,rfl⟩,L _ H G (aE.refl H) B Y⟩ (bA Z))
theorem gR (h:QF X es t):QF X (.Constant (.str b) j p::es) (Ij b t):=λπ s σ H Z Q τ G q I S L B Y hl=>by
 refine joinParts_consE (joinParts_cons (Calls.Constant_str ?_));exact⟨bA B.1,h π _ σ H _ Q τ G q (I.tok _) S L B.2 Y B.1⟩
theorem mM (he:QE X e te) (h:QF X es t):QF X (.FormattedValue e (-1) none p::es) (Im te t):=λπ s σ H B Q τ G q I hs hg ht hQ hl=>by
 have ab:=he π s σ H (λv H1=>∃w S,aE H H1/\bO X.K H1 w v/\aB X.K H1 S/\∃z,Ik w z/\(B++z).length<=100000/\t (B++z) τ S q) I ⟨τ,G,_,hs,hg,ht,λv H1 w S t1 r1 g1 q1=>⟨w,S,t1,r1,g1,q1⟩⟩;refine joinParts_consE (joinParts_cons (FormattedValue_plain (bE ab λv s1 z9=>?_)));obtain⟨x,H1,I2,r1,w,S,t1,Y,g1,z,hw,Z,q1⟩:=z9;have L:∀s2:Shared,aw X π σ H1 s2->(B++z).length<=sizeLine/\wpAny (model X.prog X.w) X.A (joinParts (B++z) (evalEach es X.env)) (EP X π σ Q) X.xe s2:=λs2 I3=>
  ⟨bA Z,h π s2 σ H1 _ Q τ S q I3 (hs.mono t1) g1 q1 (λz' H2 G2 t2=>hQ z' H2 G2 (t1.trans t2)) Z⟩
 rcases hw with rfl | ⟨m,rfl,hm,rfl⟩
 ·cases Y;obtain⟨k,rfl⟩:=r1;exact wpAny_formatField_str (L _ I2) (L _ (I2.tok _)) (bA (by have:=Bv B z;lia))
 ·cases Y;obtain⟨k,rfl⟩:=r1;refine wpAny_formatField_int (log2_lt hm) ?_;rw[oQ];exact L _ ((I2.tok _).tok _)
def Io (t:WF):WE:=λτ G q=>t Str.empty τ G λz G1=>q (.str z) G1
theorem yH (h:QF X (L::B::es) t):QE X (.JoinedStr (L::B::es) pos) (Io t):=by
 rintro π s σ H Q I ⟨τ,G,q,hs,S,Y,hQ⟩;exact JoinedStr_many (h π s σ H Str.empty Q τ G _ I hs S Y (λz H1 G1 Z g1 q1=>hQ _ H1 _ G1 Z (.str _) g1 q1) (by decide))
noncomputable def fq (sep:List Nat):List (List Nat)->List Nat
 | []=>[]
 | [l]=>l
 | l::m::r=>l++sep++fq sep (m::r)
theorem mO (sep l:List Nat) (r:List (List Nat)) (h:r≠[]):fq sep (l::r)=l++sep++fq sep r:=by
 cases r with
 | nil=>exact absurd rfl h
 | cons m r=>rfl
theorem lu (sep:List Nat):∀(r:List (List Nat)) (b:List Nat),List.foldl (λB (p:Str)=>B++sep.toArray++p.cps) b.toArray (r.map λl=>(⟨l.toArray⟩:Str))=(fq sep (b::r)).toArray
 | [],b=>by simp[fq]
 | l::r,b=>by
   rw[map_cons,List.foldl_cons,mO sep b (l::r) (by simp)];have e:b.toArray++sep.toArray++(⟨l.toArray⟩:Str).cps=(b++sep++l).toArray:=by simp
   rw[e,lu sep r];cases r with
   | nil=>simp[fq]
   | cons m r=>rw[mO sep _ (m::r) (by simp),mO sep l (m::r) (by simp)];simp
theorem yI (sep:List Nat) (ls:List (List Nat)):Txt.join ⟨sep.toArray⟩ (ls.map λl=>(⟨l.toArray⟩:Str))=⟨(fq sep ls).toArray⟩:=by
 unfold Txt.join Builtin.Str.glued;cases ls with
 | nil=>rfl
 | cons l ls=>
   show Str.mk (List.foldl (λB (p:Str)=>B++sep.toArray++p.cps) l.toArray (ls.map λl=>(⟨l.toArray⟩:Str)))=_;rw[lu]
def E6 (K:yav) (sep:List Nat):V->List V->Hp->VK->Prop:=λx vs H Q=>∃l ls,x=.str ⟨sep.toArray⟩/\vs=[.ref l]/\cG K H l ((ls.map λl=>(⟨l.toArray⟩:Str)).map V.str)/\(ls.map List.length).sum+ls.length*sep.length<=100000/\Q (.str ⟨(fq sep ls).toArray⟩) H
theorem yJ:Cp X "str.join" (E6 X.K sep):=by
 intro π s σ H x vs v us Q I rx B h;obtain⟨l,ls,rfl,rfl,hl,S,q⟩:=h;obtain⟨t,rfl⟩:=rx;obtain⟨u1,rfl,L⟩:=cC B;cases L;obtain⟨Z,B,p,hz⟩:=I.list hl;refine join_list (ys:=ls.map λl=>(⟨l.toArray⟩:Str)) p.isList (jQ B) ?_ λt' k=>?_
 ·have Y:((ls.map λl=>(⟨l.toArray⟩:Str)).map (·.length)).sum=(ls.map List.length).sum:=by
   rw[map_map]
   congr 1
  have e2:(Str.mk sep.toArray).length=sep.length:=by simp[Str.length]
  rw[Y,e2,length_map];exact ycy S (by decide)
 ·rw[yI];exact⟨.str _,H,I.tok _,⟨_,rfl⟩,q⟩
def mP (sep:List Nat) (te:WE):WE:=λτ G q=>te τ G λy G2=>∃a ls,y=.ref a/\G2 a=some (.lst (ls.map λl=>W.str ⟨l.toArray⟩))/\(ls.map List.length).sum+ls.length*sep.length<=100000/\q (.str ⟨(fq sep ls).toArray⟩) G2
theorem jU (sep:List Nat) {z:Str} {op:Pos} {te:WE} (he:QE X e te) (hz:z=⟨sep.toArray⟩:=by rfl)
 (B:attributeBase (.Constant (.str z) k op) "join" X.env (eval (.Constant (.str z) k op) X.env)=eval (.Constant (.str z) k op) X.env:=by rfl)
 (S:((backTo cpos (starEach [e] X.env)).all (λx=>!x.1)&&(backToKw cpos (keywordEach [] X.env)).all (λx=>x.1.isSome)
   &&decide (([e]:List Expr).length+([]:List Keyword).length+(if ([]:List Keyword).isEmpty then 0 else 1)<30))=true:=by rfl)
 (L:(apos.endLine==cpos.line)=true:=by rfl) (Y:starEach [e] X.env=(false,eval e X.env)::starEach [] X.env:=by rfl) (Z:plZ cpos X []:=by rfl):
 QE X (.Call (.Attribute (.Constant (.str z) k op) "join" apos) [e] [] cpos) (mP sep te):=
 (jt PySem.F.plainAttrs_str PySem.F.slot_str_join PySem.F.type_str_join (yJ (sep:=sep)) lJ (bQ he pa_nil Y) B S L Y Z).imp λσ H Q z0=>z0.el λτ G q Y hg ht hQ=>by
   subst hz;refine⟨rfl,τ,G,_,Y,hg,ht,λv2 H2 w2 G2 t2 r2 g2 q2=>?_⟩;obtain⟨a,ls,rfl,e2,hl,q2⟩:=q2;cases r2;obtain⟨_,xs,h1,rr⟩:=g2 _ _ e2;have ab:aJ X.K H2 ((ls.map λl=>(⟨l.toArray⟩:Str)).map W.str) xs:=by rw[map_map];exact rr
   rw[jR ab] at h1;exact⟨_,ls,rfl,rfl,cG.of h1,hl,hQ _ _ _ _ t2 (.str _) g2 q2⟩
open PySem PySem.Spec PyProof.Rows _N
theorem oS:∀d:Nat,d<10->(Nat.digitChar d).toNat=48+d:=by decide
theorem ug (m:Nat):aq m=if m<10 then [48+m] else aq (m/10)++[48+m%10]:=by
 unfold aq;rw[Nat.toDigits_eq_if (by decide)];split
 ·rename_i h;rw[map_cons,map_nil,oS m h]
 ·rw[map_append,map_cons,map_nil,oS _ (Nat.mod_lt _ (by decide))]
theorem fu:∀(n m:Nat),m<=n->(aq m).all ck=true/\fh (aq m)=m/\(m≠0->(aq m).head?≠some 48)/\aq m≠[]
 | 0,m,h=>by
   have:m=0:=by lia
   subst this;rw[ug];exact⟨rfl,rfl,λh=>absurd rfl h,by simp⟩
 | n+1,m,h=>by
   rw[ug];split
   ·rename_i L;refine⟨?_,?_,λh0 B=>?_,by simp⟩
    ·simp only[all_cons,all_nil,Bool.and_true];exact ydz ⟨by lia,by lia⟩
    ·show 0*10+(48+m-48)=m;lia
    ·have:=Option.some.inj B;lia
   ·rename_i L;obtain⟨h1,h2,S,Y⟩:=fu n (m/10) (by lia);refine⟨?_,?_,λh0 B=>?_,by simp⟩
    ·rw[List.all_append,h1];simp only[all_cons,all_nil,Bool.and_true,Bool.true_and];exact ydz ⟨by lia,by have:=Nat.mod_lt m (y:=10) (by decide);lia⟩
    ·unfold fh at h2 ⊢;rw[List.foldl_append,h2];show m/10*10+(48+m%10-48)=m;lia
    ·rw[List.head?_append] at B;cases e:(aq (m/10)).head? with
     | none=>exact Y (List.head?_eq_none_iff.mp e)
     | some y=>
       rw[e] at B;exact S (by lia) (e.trans B)
theorem jV (B:0<k) (h:m<10^k):(aq m).length<=k:=by
 unfold aq;rw[length_map];exact(Nat.length_toDigits_le_iff (by decide) B).mpr h
theorem fgOk:rG aq:=⟨λm B=>by
 obtain⟨h1,h2,L,S⟩:=fu m m (ycx _);have Y:=jV (k:=60) (by decide) B;have h0:1<=(aq m).length:=length_pos_iff.mpr S;unfold aR;rw[h1,ydz ⟨h0,Y⟩,Bool.true_and,Bool.true_and,Bool.or_eq_true]
 by_cases hz:m=0
 ·subst hz;exact .inl rfl
 ·exact .inr (ydz (L hz)),λm=>(fu m m (ycx _)).2.1⟩
theorem mQ {n:Int} (h0:0<=n) (h1:n<10^300):n.toNat<2^1900/\(aq n.toNat).length<=300:=by
 have h2:((n.toNat:Nat):Int)<((10^300:Nat):Int):=by
  rw[Int.toNat_of_nonneg h0];exact Int.lt_of_lt_of_le h1 (by decide+kernel)
 have B:n.toNat<10^300:=Int.ofNat_lt.mp h2;exact⟨Nat.lt_trans B (by decide+kernel),jV (by decide) B⟩
theorem mS:∀a:O,a.NF->O.mx a<10^300->(bD aq a).length<=320*a.size+1
 | .z,_,_=>by decide
 | .c e n r,L,B=>by
   have h1:=mS e L.1 (Int.lt_of_le_of_lt O.mx_he B);have h2:=mS r L.2.2.2 (Int.lt_of_le_of_lt O.mx_hr B);have S:=L.2.1;have h3:=(mQ (n:=n) (by lia) (Int.lt_of_le_of_lt O.mx_hn B)).2;have h4:(eU e (bD aq e)).length<=(bD aq e).length+4:=by
    unfold eU;split
    ·simp
    ·split<;> simp
   have Y:(cB aq e n (bD aq e)).length<=(bD aq e).length+305:=by
    unfold cB;split
    ·lia
    ·split
     ·lia
     ·simp only[length_append,length_cons];lia
   have h6:(cP aq r).length<=(bD aq r).length+1:=by
    cases r with
    | z=>simp[cP]
    | c Z n' r'=>simp[cP]
   rw[fR,length_append];have hs:O.size (.c e n r)=1+O.size e+O.size r:=rfl;lia
theorem BF (h:Heap) (x:∃o,h.get? f=some o/\o.data=.func fd):∃k,(k=Keeper.frame∨k=Keeper.machine∨k=Keeper.boundFrame)/\Looks M h (keeperOf (.ref f)) k:=by
 obtain⟨o,e,d⟩:=x;refine⟨.frame,.inl rfl,(PySem.W.Looks.ld (part:=none) e).andThen ?_⟩;rw[d];exact .now
def Vf (P:Program) (w:World) (K:yav) (mg:yew) (base:Heap) (k:Nat) (fl:Addr) (sp:aX):Prop:=∃(fd:FuncData) (ps:List Str),sX P w K mg base k fl fd ps sp/\bv K fd ps []/\∃o,K.lookup fl=some o/\o.data=.func fd
theorem Ip (F:bf K x q st f fd) (b:bv K fd ps []) (h:sX P w K mg base k f fd ps sp):Vf P w K mg base k f sp:=by
 obtain⟨_,_,_,_,_,_,_,_,_,_,B,_⟩:=F.ex;exact⟨fd,ps,h,b,_,B,rfl⟩
section
variable {N:List Str} {qual:Str} {f:Addr} {cdv:Value} {outer:List Env} {E:XK}
def mT (i:Nat) (Fu:Addr->aX->Prop) (t:WA) (e:WX):WE:=λτ G q=>∃fl sp,τ[i]?=some (some (.ref fl))/\Fu fl sp/\t τ G λws G1=>sp ws G1 q e
theorem oU (i:Nat) {Fu:Addr->aX->Prop} {p pos:Pos} {Y:Expr} {t:WA} {e:WX} (hF:∀fl sp,Fu fl sp->Vf P w K mg base k fl sp) (hr:aH k (A.deeper (envOfC qual scope s.heap.objs.size f cdv)))
 (hE:∀c H1 L,aE H H1->aB K H1 L->e c L->E c none H1) (hN:N[i]?=some x) (hv:Ck scope x) (ha:QA (bn (dy P w) P w K mg base N qual scope f cdv A outer s H E) (Y::es) t) (aj:dbz x:=by decide) (ab:(x==("__classdict__":Str))=false:=by decide)
 (he:starEach (Y::es) (envOfC qual scope s.heap.objs.size f cdv)=(false,eval Y (envOfC qual scope s.heap.objs.size f cdv))::starEach es (envOfC qual scope s.heap.objs.size f cdv):=by rfl) (af:(backTo pos (starEach es (envOfC qual scope s.heap.objs.size f cdv))).any (·.1)=false:=by rfl):
 QE (bn (dy P w) P w K mg base N qual scope f cdv A outer s H E) (.Call (.Name x p) (Y::es) [] pos) (mT i Fu t e):=by
 rintro π s1 σ H1 Q I ⟨τ,G,q,hs,hg,⟨fl,sp,hi,hm,ht⟩,hQ⟩;obtain⟨fd,ps,F,hb,o,ho,ad⟩:=hF fl sp hm;obtain⟨v0,ai,r0⟩:=hs.2 i _ hi;cases r0;refine wpAny_Call_Name_kw (bE (jm (X:=bn (dy P w) P w K mg base N qual scope f cdv A outer s H E) (pos:=p) hN hv aj ab π s1 σ H1 (λv H'=>v=.ref fl/\H'=H1) I ⟨_,ai,rfl,rfl⟩) λu s2 z9=>?_);obtain⟨v,H2,I2,r,ar,hH⟩:=z9;subst ar;subst hH;obtain rfl:u=Value.ref fl:=r;have hA:wpAny (model P w) _ (spliced (backTo pos (starEach (Y::es) _))) (λus B=>(∃o,B.heap.get? fl=some o/\o.data=.func fd)/\wpAny (model P w) _ (call (.ref fl) ([]++us)) (EP _ π σ Q) _ B) _ s2:=
  bE (ha pos π s2 σ H2 _ I2 ⟨τ,G,_,hs,hg,ht,λvs Z ws S t3 r3 g3 q3=>(⟨ws,S,t3,r3,g3,q3⟩:∃ws S,aE H2 Z/\aJ K Z ws vs/\aB K Z S/\sp ws S q e)⟩) λus s3 z9=>(by obtain⟨vs,Z,I3,r3,ws,S,t3,rr,g3,q3⟩:=z9;exact 
   ⟨⟨o,I3.kIn _ _ ho,ad⟩,jq (X:=bn (dy P w) P w K mg base N qual scope f cdv A outer s H E) (ds:=[]) (dvs:=[]) (E:=λc _ H1=>∃L,aB K H1 L/\e c L) F hr hb .nil (lV λC H1 t1 z9=>(by obtain⟨L,g1,z⟩:=z9;exact hE _ H1 L t1 g1 z)) I3 r3 (by
     rw[append_nil];exact⟨ws,S,q,e,rr,g3,q3,λv H4 w G4 t4=>hQ v H4 w G4 (t3.trans t4),λc d H4 G4 _ g4 z=>⟨G4,g4,z⟩⟩)⟩)
 rw[show starEach (Y::es) (bn (dy P w) P w K mg base N qual scope f cdv A outer s H E).env=_ from he] at hA ⊢;exact PySem.W.callWith_of (by show((false||(backTo pos (starEach es _)).any (·.1))||false)=false;rw[af];rfl) (BF (fd:=fd)) (Calls.evalArgs_plain hA)
end
def mU (P:Program) (w:World) (K:yav) (a:Addr) (kvs:List (Str×Addr)):Prop:=(a==sysModules)=false/\∃o es ep,K.lookup a=some o/\o.ExactDict/\o.data=.dict es ep/\KeysOf (bg P w) es/\∀z,findBy (bg P w).is es (.inr z)=(kvs.lookup z).map Value.ref
theorem mU.map (h:mU X.prog X.w X.K a kvs) (I:aw X π σ H s):∃f,s.heap.MapOf (bg X.prog X.w) a f/\∀z,f (.inr z)=(kvs.lookup z).map Value.ref:=by
 obtain⟨_,o,es,ep,h1,h2,L,S,B⟩:=h;exact⟨_,⟨o,es,ep,I.kIn _ _ h1,h2,L,S,λ_=>rfl⟩,B⟩
def Iq (a:Addr) (kvs:List (Str×Addr)):W2:=λx y G q=>∃z b,x=.ref a/\y=.str z/\kvs.lookup z=some b/\q (.ref b) G
theorem oV (hK:mU X.prog X.w X.K a kvs):FW X (Iq a kvs):=by
 rintro value L π s σ H x y v u Q I rx ry ⟨wx,wy,G,q,Z,r2,g,⟨z,b,e1,e2,hb,h⟩,hQ⟩ B;subst e1 e2;cases Z;cases r2;cases rx;obtain⟨f,S,Y⟩:=hK.map I;exact tail_any S.typeIs PySem.F.slot_dict_getitem.lookup (wpAny_getItem_of (jw (P:=X.prog) (w:=X.w) (k:= .inr z) ry) S (by rw[Y,hb];rfl) ⟨.ref b,H,I.tok _,rfl,hQ _ H _ G (aE.refl H) (.ref b) g h⟩) B
def Ir (a:Addr) (kvs:List (Str×Addr)):W2:=λx y G q=>∃z,x=.str z/\y=.ref a/\q (.bl (!(kvs.lookup z).isSome)) G
theorem yK (B:mU X.prog X.w X.K a kvs):eo X (compareOp .NotIn) (Ir a kvs):=by
 rintro π s σ H x y v u Q I rx ry ⟨wx,wy,G,q,S,r2,g,⟨z,Y,e2,h⟩,Z⟩;subst Y e2;cases S;cases r2;cases ry;obtain⟨f,hm,L⟩:=B.map I;refine wpAny_notIn_of (jw (P:=X.prog) (w:=X.w) (k:= .inr z) rx) B.1 hm ⟨.bl _,H,I.tok _,rfl,Z _ H _ G (aE.refl H) (.bl _) g ?_⟩;rw[L,Option.isSome_map];exact h
def Iu (K:yav):List W->Gp->WK->Prop:=λws G q=>∃a ts,ws=[.ref a]/\GTx K a ts/\ts.length<=1000/\q (.int ts.length) G
theorem GTx.sq (h:GTx K a B) (S:B.length<=sizeLine):dG K H a (B.map V.str):=by
 obtain⟨d,n,L,us,h1,h2⟩:=h;have:=h2.length;rw[length_map] at this;exact .inr ⟨_,us.toArray,n,h1,rfl,rfl,by simpa using (show us.length<=sizeLine by lia),by simpa using h2⟩
open PySem PySem.Spec PyProof.Rows PySem.Builtin PySem.Builtin.Str
theorem lv:∀l:List (Str×Tok),aK ((l.map (·.1)).map V.str) (strValues l)
 | []=> .nil
 | p::l=> .cons ⟨p.2,rfl⟩ (lv l)
def E7:V->List V->Hp->VK->Prop:=λx vs H Q=>∃z c,x=.str z/\vs=[.str ⟨#[c]⟩]/\z.length<=100000/\∀l,H l=none->Q (.ref l) (upd H l (.lst ((Txt.split z ⟨#[c]⟩).map V.str)))
theorem yL:Cp X "str.split" E7:=by
 intro π s σ H x vs v us Q I rx Z h;obtain⟨z,c,rfl,rfl,hz,q⟩:=h;obtain⟨t,rfl⟩:=rx;obtain⟨u1,rfl,Y⟩:=cC Z;obtain⟨u,rfl⟩:=Y;have hS:sizeLine=16777216:=sizeLine_eq;have L:(partsBetween z (occurrences z ⟨#[c]⟩ 0 z.length (z.length+1)) (Str.length ⟨#[c]⟩)).length<=sizeLine:=by
  have e1:=StrLaws.occ_length_le z ⟨#[c]⟩ 0 z.length (z.length+1);rw[length_partsBetween];lia
 have S:(Txt.split z ⟨#[c]⟩).length<=sizeLine:=by
  unfold Txt.split;split
  ·rw[length_singleton];lia
  ·split
   ·rw[length_singleton];lia
   ·exact L
 have h:∀(l:List (Str×Tok)) (k:Nat),l.map (·.1)=Txt.split z ⟨#[c]⟩->EP X π σ Q (.ref s.heap.objs.size) { s with heap:=s.heap.push { cls:= .type "list",data:= .seq (strValues l).toArray },toks:=k }:=λl k e=>by
  refine⟨.ref s.heap.objs.size,_,I.laid (t':=k) (λb o hb=>ybz _ hb) (ycx _) (show bH X.prog X.w _ _ _ (.lst ((Txt.split z ⟨#[c]⟩).map V.str)) from ⟨by rw[length_map];exact S,strValues l,0,by rw[←e];exact lv l,ybw _ rfl⟩),rfl,q _ (I.hok.fresh (ycx _))⟩
 have B:(Str.length ⟨#[c]⟩==0)=false:=rfl;cases h1:(decide (z.length<Str.length ⟨#[c]⟩)||decide (strKind z<strKind ⟨#[c]⟩))
 ·cases hf:(occurrences z ⟨#[c]⟩ 0 z.length (z.length+1)).isEmpty
  ·refine call_meets F.slot_str_split (typeIs_str _ _ _) F.entry_str_split (F.args_str_split_2 _ _) (meets_str_split_sep z ⟨#[c]⟩ t u h1 B hf (by lia) L) ?_;show wants _ _ _ { s with toks:=_,heap:=s.heap.push { cls:= .type "list",data:= .seq (strsFrom s.toks (partsBetween z (occurrences z ⟨#[c]⟩ 0 z.length (z.length+1)) (Str.length ⟨#[c]⟩))).toArray } };rw[strsFrom_eq];exact h (numbered s.toks _) _ ((numbered_texts _ _).trans ((ycw (ne_true_of_eq_false h1)).trans (ycw (ne_true_of_eq_false hf))).symm)
  ·exact call_meets F.slot_str_split (typeIs_str _ _ _) F.entry_str_split (F.args_str_split_2 _ _) (meets_str_split_not_found z ⟨#[c]⟩ t u h1 B hf) (h [(z,t)] s.toks ((ycw (ne_true_of_eq_false h1)).trans (ycv hf)).symm)
 ·exact call_meets F.slot_str_split (typeIs_str _ _ _) F.entry_str_split (F.args_str_split_2 _ _) (meets_str_split_cannot_occur z ⟨#[c]⟩ t u h1) (h [(z,t)] s.toks (ycv h1).symm)
def rY (to te:WE):WE:=λτ G q=>to τ G λx G1=>(∃z,x=.str z)/\te τ G1 λy G2=>∃z c,x=.str z/\y=.str ⟨#[c]⟩/\z.length<=90000/\∀p,G2 p=none->q (.ref p) (av G2 p (.lst ((Txt.split z ⟨#[c]⟩).map W.str)))
theorem iB:∀l:List Str,aJ K H (l.map W.str) (l.map V.str)
 | []=> .nil
 | x::l=> .cons (.str x) (iB l)
theorem vN (z:Str) (c:Nat):(Txt.split z ⟨#[c]⟩).length<=z.length+2:=by
 have B:=StrLaws.occ_length_le z ⟨#[c]⟩ 0 z.length (z.length+1);unfold Txt.split;split
 ·rw[length_singleton];lia
 ·split
  ·rw[length_singleton];lia
  ·rw[length_partsBetween];lia
theorem oW (ho:QE X o to) (he:QE X e te)
 (B:attributeBase o "split" X.env (eval o X.env)=eval o X.env:=by rfl)
 (S:((backTo cpos (starEach [e] X.env)).all (λx=>!x.1)&&(backToKw cpos (keywordEach [] X.env)).all (λx=>x.1.isSome)
   &&decide (([e]:List Expr).length+([]:List Keyword).length+(if ([]:List Keyword).isEmpty then 0 else 1)<30))=true:=by rfl)
 (L:(apos.endLine==cpos.line)=true:=by rfl) (Y:starEach [e] X.env=(false,eval e X.env)::starEach [] X.env:=by rfl) (Z:plZ cpos X []:=by rfl):
 QE X (.Call (.Attribute o "split" apos) [e] [] cpos) (rY to te):=
 (jt PySem.F.plainAttrs_str PySem.F.slot_str_split PySem.F.type_str_split yL ho (bQ he pa_nil Y) B S L Y Z).imp λσ H Q z0=>z0.el λτ G q Y hg ht hQ=>
   ⟨τ,G,_,Y,hg,ht,λv H1 w G1 t1 r1 g1 q1=>by
     obtain⟨⟨z,rfl⟩,q1⟩:=q1;cases r1;refine⟨rfl,τ,G1,_,Y.mono t1,g1,q1,λv2 H2 w2 G2 t2 r2 g2 q2=>?_⟩;obtain⟨z',c,e1,rfl,hz,q2⟩:=q2;cases e1;cases r2;refine⟨_,c,rfl,rfl,by lia,λl hl=>?_⟩;have tn:=aE.new hl (HO.lst ((Txt.split z ⟨#[c]⟩).map V.str));have ab:=vN z c;exact hQ _ _ _ _ ((t1.trans t2).trans tn) (.ref l) (g2.put tn (iB _) (by rw[length_map];lia)) (q2 l (g2.fresh hl))⟩
theorem E8:cV X (.builtin "len") (Iu X.K):=by
 rintro π s σ H xs us Q I r ⟨ws,G,q,B,g,⟨a,ts,e,L,Z,h⟩,Y⟩;subst e;obtain⟨v,rfl,S⟩:=B.one;cases S;exact cY π s σ H _ us Q I r ⟨_,_,rfl,.inr (L.sq (by rw[sizeLine_eq];lia)),by rw[length_map];exact Y _ H _ G (aE.refl H) (.int _) g h⟩
end _L
namespace _N
noncomputable def dP (c:Nat):List Nat->List (List Nat)
 | []=>[[]]
 | x::l=>if x=c then []::dP c l else match dP c l with
   | p::ps=>(x::p)::ps
   | []=>[[x]]
noncomputable def ie (c:Nat):List (List Nat)->List Nat
 | []=>[]
 | [p]=>p
 | p::q::ps=>p++c::ie c (q::ps)
theorem oY:∀{p:List Nat},c∉p->dP c p=[p]
 | [],_=>rfl
 | x::p,h=>by
   rw[mem_cons,not_or] at h;unfold dP;rw[ycw (Ne.symm h.1),oY h.2]
theorem uh:∀{p:List Nat} (l:List Nat),c∉p->dP c (p++c::l)=p::dP c l
 | [],l,_=>by
   show dP c (c::l)=_
   conv=>lhs;unfold dP
   rw[ycv rfl]
 | x::p,l,h=>by
   rw[mem_cons,not_or] at h;show dP c (x::(p++c::l))=_
   conv=>lhs;unfold dP
   rw[ycw (Ne.symm h.1),uh l h.2]
theorem mV:∀{ps:List (List Nat)},ps≠[]->(∀p,p∈ps->c∉p)->dP c (ie c ps)=ps
 | [],h,_=>absurd rfl h
 | [p],_,h=>oY (h p yby)
 | p::q::ps,_,h=>by
   unfold ie;rw[uh _ (h p yby),mV (by simp) λx B=>h x (ybx _ B)]
end _N
namespace _L
open PySem PySem.Spec PyProof.Rows PySem.Builtin PySem.Builtin.Str _N
theorem CW (c:Nat):∀ps:List Str,(Str.join ⟨#[c]⟩ ps).cps.toList=ie c (ps.map λp=>p.cps.toList)
 | []=>rfl
 | [p]=>rfl
 | p::q::ps=>by
   have ih:=CW c (q::ps);show((p++⟨#[c]⟩++Str.join ⟨#[c]⟩ (q::ps)):Str).cps.toList=p.cps.toList++c::ie c ((q::ps).map λp=>p.cps.toList);rw[←ih];show((p.cps++ #[c])++(Str.join ⟨#[c]⟩ (q::ps)).cps).toList=_;simp
theorem lw (l:List Nat) (c:Nat):Txt.split (⟨l.toArray⟩:Str) ⟨#[c]⟩=(dP c l).map λp=>(⟨p.toArray⟩:Str):=by
 have h1:(Str.join ⟨#[c]⟩ (Txt.split (⟨l.toArray⟩:Str) ⟨#[c]⟩)).cps.toList=(⟨l.toArray⟩:Str).cps.toList:=by rw[StrLaws.join_split]
 rw[CW] at h1;have h2:(⟨l.toArray⟩:Str).cps.toList=l:=by simp
 rw[h2] at h1;have S:(Txt.split (⟨l.toArray⟩:Str) ⟨#[c]⟩)≠[]:=by
  unfold Txt.split;split
  ·simp
  ·split
   ·simp
   ·intro z;have:=congrArg List.length z;rw[length_partsBetween] at this;simp at this
 have B:=mV (c:=c) (ps:=(Txt.split (⟨l.toArray⟩:Str) ⟨#[c]⟩).map λp=>p.cps.toList) (by simpa using S) λp L=>by
  obtain⟨y,Y,rfl⟩:=mem_map.mp L;exact StrLaws.split_free _ c y Y
 rw[h1] at B;rw[B,map_map]
 conv=>lhs;rw[←List.map_id (Txt.split (⟨l.toArray⟩:Str) ⟨#[c]⟩)]
 apply List.map_congr_left;intro x _;show x=⟨x.cps.toList.toArray⟩;simp
open PySem PySem.Spec PyProof.Rows
def wf (k:Bool) (h:Heap) (a:Addr) (xs:Array Value):Prop:=match k with | true=>h.IsTuple a xs | false=>h.IsList a xs
def pK (k:Bool) (h:Heap) (i a:Addr) (n:Nat):Prop:=match k with | true=>h.IsTupleIter i a n | false=>h.IsListIter i a n
noncomputable def NH:Bool->String
 | true=>"tuple_iterator"
 | false=>"list_iterator"
section
variable {k:Bool} {h h':Heap} {b i:Addr} {n:Nat} {xs:Array Value}
theorem wf.extBut (x:wf k h a xs) (L:Heap.ExtBut b h h') (B:a≠b):wf k h' a xs:=by
 cases k
 ·exact Heap.IsList.extBut x L B
 ·exact Heap.IsTuple.extBut x L B
theorem pK.extBut (x:pK k h i a n) (L:Heap.ExtBut b h h') (B:i≠b):pK k h' i a n:=by
 cases k
 ·exact Heap.IsListIter.extBut x L B
 ·exact Heap.IsTupleIter.extBut x L B
theorem pK.at (x:pK k h i a n) (e:∀o,h.get? i=some o->h'.get? i=some o):pK k h' i a n:=by
 cases k
 ·exact Heap.IsListIter.at x e
 ·exact Heap.IsTupleIter.at x e
theorem pK.obj (x:pK k h i a n):∃o,h.get? i=some o/\∀v,o.data≠ .cell v:=by
 cases k<;> obtain⟨o,B,_,d⟩:=x<;> exact⟨o,B,λv q=>by rw[d] at q;cases q⟩
theorem pK.mk (e:h.get? i=some { cls:= .type (NH k),data:= .fields #[.ref a,.int 0 0] }):pK k h i a 0:=by
 cases k<;> exact⟨_,e,rfl,rfl⟩
end
theorem yM {k:Bool} {it t:Addr} {x:Value} (a:pK k s.heap it t i) (b:wf k s.heap t items) (e:items[i]?=some x) (q:∀h',pK k h' it t (i+1)->Heap.SameBut it s.heap h'->Q x { s with heap:=h' }):wpAny (model prog w) A (Builtin.SmallTypes.nextOf (.ref it)) Q E s:=by
 cases k
 ·exact wpAny_nextOf_list_item a b e q
 ·exact fY a b e q
theorem BG {k:Bool} {it t:Addr} (B:A.handled=none) (a:pK k s.heap it t i) (b:wf k s.heap t items) (e:items[i]?=none) (q:∀h' x,Heap.ExtBut it s.heap h'->(∃o,h'.get? x=some o/\o.cls=.type "StopIteration")->E (.ref x) { s with heap:=h' }):wpAny (model prog w) A (Builtin.SmallTypes.nextOf (.ref it)) Q E s:=by
 cases k
 ·exact wpAny_nextOf_list_end B a b e q
 ·exact kP B a b e q
structure ZM (k:Bool) (z p r i j a b:Addr) (n:Nat) (f:Value) (h:Heap):Prop where
 hz:IsZip h z p r f
 hp:IsPair h p (.ref i) (.ref j)
 hr:∃x y,IsPair h r x y
 hi:h.IsTupleIter i a n
 hj:pK k h j b n
theorem vO {k:Bool} {z p r i j a b:Addr} {n:Nat} {xs ys:Array Value} {x y:Value} {Q:Option Value->Shared->Prop} (D:ZA z p r i j a b) (T:ZM k z p r i j a b n .none s.heap) (ha:s.heap.IsTuple a xs) (hb:wf k s.heap b ys) (hx:xs[n]?=some x) (hy:ys[n]?=some y)
 (q:∀h',ZM k z p r i j a b (n+1) (rawInt s.heap.objs.size) h'->IsPair h' s.heap.objs.size x y->(∀c o,c≠z->c≠r->c≠i->c≠j->s.heap.get? c=some o->h'.get? c=some o)->Q (some (.ref s.heap.objs.size)) { s with heap:=h' }):wpAny (model prog w) A (pyNext (.ref z)) Q E s:=by
 obtain⟨Y,hp,⟨u,v,hr⟩,hi,hj⟩:=T;have hT:s.TypeIs (.ref z) "zip":=⟨_,Y,rfl⟩;unfold pyNext;refine wax (wpAny_attempt (wpAny_callSpecial?_slot (name:=Str.ofString "__next__") hT F.slot_zip_next (wpAny_call_entry F.slot_zip_next hT F.entry_zip_next ?_ (F.args_zip_next_1 _))));show wpAny _ _ (field (.ref z) 2 >>= _) _ _ _;refine wax (wpAny_field Y rfl (x:= .bool false) rfl ?_);show wpAny _ _ (field (.ref z) 3 >>= _) _ _ _;refine wax (wpAny_field Y rfl (x:= .ref p) rfl ?_);refine wax (wpAny_seqItems hp rfl ?_);show wpAny _ _ (Builtin.SmallTypes.ownedTupleIsFree (.ref z) >>= _) _ _ _;refine wax ?_;unfold Builtin.SmallTypes.ownedTupleIsFree;refine wax (wpAny_field Y rfl (x:= .none) rfl (wpAny_pure ?_));simp only[if_true];refine wax (wpAny_rule ?_);refine wax (wpAny_field Y rfl (x:= .ref r) rfl ?_);refine wax (wpAny_setField_rec Y (by simp) λh1 z1 L=>?_);have z1:IsZip h1 z p r .ellipsis:=z1;refine wax ?_;simp only[List.zipIdx_cons,List.zipIdx_nil,forIn_cons,forIn_nil];refine wax (wax (wpAny_onRaise ?_));show wpAny _ _ (Builtin.SmallTypes.nextOf (.ref i) >>= _) _ _ _;refine wax (fY (hi.extBut L.extBut D.zi) (ha.extBut L.extBut D.az) hx λh2 i2 b2=>wpAny_pure ?_);have r2:IsPair h2 r u v:=b2.extBut _ _ D.ri (L.extBut _ _ D.zr hr);refine wax (wpAny_seqItems r2 rfl ?_);refine wax (wpAny_updateSeq_pair r2 λh3 r3 b3=>?_);have r3:IsPair h3 r x v:=r3;refine wax (wpAny_letGo (wpAny_pure ?_));refine wax (wax (wpAny_onRaise ?_));show wpAny _ _ (Builtin.SmallTypes.nextOf (.ref j) >>= _) _ _ _;refine wax (yM (((hj.extBut L.extBut D.zj).extBut b2.extBut D.ij.symm).extBut b3.extBut D.rj.symm) (((hb.extBut L.extBut D.bz).extBut b2.extBut D.bi).extBut b3.extBut D.br) hy λh4 j4 Z=>wpAny_pure ?_);have r4:IsPair h4 r x v:=Z.extBut _ _ D.rj r3;refine wax (wpAny_seqItems r4 rfl ?_);refine wax (wpAny_updateSeq_pair r4 λB r5 b5=>?_);have r5:IsPair B r x y:=r5;refine wax (wpAny_letGo (wpAny_pure (wpAny_pure ?_)));refine wax (wpAny_seqItems r5 rfl ?_);refine wax (wpAny_newTuple ?_);have sz:B.objs.size=s.heap.objs.size:=by rw[b5.1,Z.1,b3.1,b2.1,L.1]
 have z5:IsZip B z p r .ellipsis:=b5.extBut _ _ D.zr.symm (Z.extBut _ _ D.zj.symm (b3.extBut _ _ D.zr.symm (b2.extBut _ _ D.zi.symm z1)));have k5:∀c o,c≠z->c≠r->c≠i->c≠j->s.heap.get? c=some o->B.get? c=some o:=λc o S c2 c3 c4 e=>b5.extBut _ _ c2 (Z.extBut _ _ c4 (b3.extBut _ _ c2 (b2.extBut _ _ c3 (L.extBut _ _ S e))));have i5:B.IsTupleIter i a (n+1):=((i2.extBut b3.extBut D.ri.symm).extBut Z.extBut D.ij).extBut b5.extBut D.ri.symm;have j5:pK k B j b (n+1):=j4.extBut b5.extBut D.rj.symm;have ab:z<B.objs.size:=ybv z5;show wpAny _ _ (Builtin.SmallTypes.ownedTupleHandOut (.ref z) (.ref B.objs.size) >>= _) _ _ _;refine wax ?_;unfold Builtin.SmallTypes.ownedTupleHandOut;have z6:IsZip (B.push { cls:= .type "tuple",data:= .seq #[x,y] }) z p r .ellipsis:=ybz _ z5;refine wax (wpAny_setField_rec z6 (by simp) λh7 z7 b7=>?_);have z7:IsZip h7 z p r (rawInt B.objs.size):=z7;refine wpAny_setField_rec z7 (by simp) λh8 z8 b8=>?_;have z8:IsZip h8 z p r (rawInt B.objs.size):=z8;have up:∀c o,c≠z->B.get? c=some o->h8.get? c=some o:=λc o S e=>b8.extBut _ _ S (b7.extBut _ _ S (ybz _ e));have t8:IsPair h8 B.objs.size x y:=b8.extBut _ _ (Nat.ne_of_gt ab) (b7.extBut _ _ (Nat.ne_of_gt ab) (ybw _ rfl));rw[sz] at z8 t8;refine wpAny_pure ⟨_,rfl,wpAny_pure ?_⟩;show Q (some (.ref B.objs.size)) _;rw[sz];exact q h8 ⟨z8,up _ _ D.zp (k5 _ _ D.zp D.pr D.pi D.pj hp),⟨_,_,up _ _ D.zr r5⟩,i5.at λo e=>up _ o D.zi e,j5.at λo e=>up _ o D.zj e⟩ t8 λc o S c2 c3 c4 e=>up c o S (k5 c o S c2 c3 c4 e)
theorem yN {k:Bool} {z p r i j a b:Addr} {n:Nat} {xs ys:Array Value} {Q:Option Value->Shared->Prop} (hh:A.handled=none) (D:ZA z p r i j a b) (T:ZM k z p r i j a b n .none s.heap) (ha:s.heap.IsTuple a xs) (hb:wf k s.heap b ys) (hx:xs[n]?=none∨ys[n]?=none)
 (q:∀h',(∀c o,c≠z->c≠r->c≠i->c≠j->s.heap.get? c=some o->h'.get? c=some o)->Q none { s with heap:=h' }):wpAny (model prog w) A (pyNext (.ref z)) Q E s:=by
 obtain⟨Y,hp,⟨u,v,hr⟩,hi,hj⟩:=T;have hT:s.TypeIs (.ref z) "zip":=⟨_,Y,rfl⟩;unfold pyNext;have Z:∀(h':Heap) (e:Addr),(∀c o,c≠z->c≠r->c≠i->c≠j->s.heap.get? c=some o->h'.get? c=some o)->(∃o,h'.get? e=some o/\o.cls=.type "StopIteration")->wpAny (model prog w) A (do if (←isInstance (.ref e) (.type "StopIteration")) then pure none else throw (.ref e)) Q E { s with heap:=h' }:=λh' e k he=>by
  obtain⟨o,ho,hc⟩:=he;exact wax (wpAny_isInstance (T:="StopIteration") (b:=true) ⟨o,ho,hc⟩ isSubtype_stop (wpAny_pure (q _ k)))
 refine wax (wpAny_attempt (wpAny_callSpecial?_slot (name:=Str.ofString "__next__") hT F.slot_zip_next (wpAny_call_entry F.slot_zip_next hT F.entry_zip_next ?_ (F.args_zip_next_1 _))));show wpAny _ _ (field (.ref z) 2 >>= _) _ _ _;refine wax (wpAny_field Y rfl (x:= .bool false) rfl ?_);show wpAny _ _ (field (.ref z) 3 >>= _) _ _ _;refine wax (wpAny_field Y rfl (x:= .ref p) rfl ?_);refine wax (wpAny_seqItems hp rfl ?_);show wpAny _ _ (Builtin.SmallTypes.ownedTupleIsFree (.ref z) >>= _) _ _ _;refine wax ?_;unfold Builtin.SmallTypes.ownedTupleIsFree;refine wax (wpAny_field Y rfl (x:= .none) rfl (wpAny_pure ?_));simp only[if_true];refine wax (wpAny_rule ?_);refine wax (wpAny_field Y rfl (x:= .ref r) rfl ?_);refine wax (wpAny_setField_rec Y (by simp) λh1 z1 S=>?_);have z1:IsZip h1 z p r .ellipsis:=z1;refine wax ?_;simp only[List.zipIdx_cons,List.zipIdx_nil,forIn_cons,forIn_nil];refine wax (wax (wpAny_onRaise ?_));show wpAny _ _ (Builtin.SmallTypes.nextOf (.ref i) >>= _) _ _ _;cases e1:xs[n]? with
 | none=>
   refine wax (kP hh (hi.extBut S.extBut D.zi) (ha.extBut S.extBut D.az) e1 λh2 e b2 he=>?_);obtain⟨oe,B,L⟩:=he;have z2:IsZip h2 z p r .ellipsis:=b2 _ _ D.zi.symm z1;have ez:e≠z:=λx=>by subst x;rw[z2] at B;cases B;simp at L
   exact wpAny_setField_rec z2 (by simp) λh3 _ b3=>Z h3 e (λc o c1 _ c3 _ x=>b3.extBut _ _ c1 (b2 _ _ c3 (S.extBut _ _ c1 x))) ⟨oe,b3.extBut _ _ ez B,L⟩
 | some x=>
   have e2:ys[n]?=none:=by rcases hx with h | h; ·rw[e1] at h;cases h
                           ·exact h
   refine wax (fY (hi.extBut S.extBut D.zi) (ha.extBut S.extBut D.az) e1 λh2 i2 b2=>wpAny_pure ?_);have r2:IsPair h2 r u v:=b2.extBut _ _ D.ri (S.extBut _ _ D.zr hr);refine wax (wpAny_seqItems r2 rfl ?_);refine wax (wpAny_updateSeq_pair r2 λh3 r3 b3=>?_);refine wax (wpAny_letGo (wpAny_pure ?_));refine wax (wax (wpAny_onRaise ?_));show wpAny _ _ (Builtin.SmallTypes.nextOf (.ref j) >>= _) _ _ _;refine wax (BG hh (((hj.extBut S.extBut D.zj).extBut b2.extBut D.ij.symm).extBut b3.extBut D.rj.symm) (((hb.extBut S.extBut D.bz).extBut b2.extBut D.bi).extBut b3.extBut D.br) e2 λh4 e b4 he=>?_);obtain⟨oe,B,L⟩:=he;have z4:IsZip h4 z p r .ellipsis:=b4 _ _ D.zj.symm (b3.extBut _ _ D.zr.symm (b2.extBut _ _ D.zi.symm z1));have ez:e≠z:=λx=>by subst x;rw[z4] at B;cases B;simp at L
   exact wpAny_setField_rec z4 (by simp) λh5 _ b5=>Z h5 e (λc o c1 c2 c3 c4 x=>b5.extBut _ _ c1 (b4 _ _ c4 (b3.extBut _ _ c2 (b2.extBut _ _ c3 (S.extBut _ _ c1 x))))) ⟨oe,b5.extBut _ _ ez B,L⟩
noncomputable def Kn (h:Heap) (a:Addr):Heap:=h.push { cls:= .type "tuple_iterator",data:= .fields #[.ref a,.int 0 0] }
noncomputable def Iw (k:Bool) (h:Heap) (a b:Addr):Heap:=(Kn h a).push { cls:= .type (NH k),data:= .fields #[.ref b,.int 0 0] }
noncomputable def Iy (k:Bool) (h:Heap) (a b:Addr):Heap:=(Iw k h a b).push { cls:= .type "tuple",data:= .seq #[.ref h.objs.size,.ref (Kn h a).objs.size] }
noncomputable def E9 (k:Bool) (h:Heap) (a b:Addr):Heap:=(Iy k h a b).push { cls:= .type "tuple",data:= .seq #[.none,.none] }
noncomputable def CY (k:Bool) (h:Heap) (a b:Addr):Heap:=(E9 k h a b).push { cls:= .type "zip",data:= .fields #[.none,.bool false,.bool false,.ref (Iw k h a b).objs.size,.ref (Iy k h a b).objs.size] }
theorem yO (a b:Addr) (xs ys:Array Value):Meets (Builtin.«zip.__new__» ⟨[.type "zip",.ref a,.ref b],[]⟩) (λ_ R s=>s.heap.IsTuple a xs/\s.heap.IsTuple b ys/\R (.ok (.ret (.ref (E9 true s.heap a b).objs.size))) { s with heap:=CY true s.heap a b }):=
 .of_wp λprog w A R s h=>by
  obtain⟨B,g,d,tk,os⟩:=s;obtain⟨S,hb,h⟩:=h;have L:=sub_zip;have h1:Heap.IsTuple (Shared.heap ⟨B,g,d,tk,os⟩) a xs:=S;have h2:Heap.IsTuple (Shared.heap ⟨B.push { cls:= .type "tuple_iterator",data:= .fields #[.ref a,.int 0 0] },g,d,tk,os⟩) b ys:=Heap.IsTuple.push hb _
  wp_walk using wpAny_pyIter_tuple h1,wpAny_pyIter_tuple h2
  exact⟨_,rfl,h⟩
theorem yP (a b:Addr) (xs ys:Array Value):Meets (Builtin.«zip.__new__» ⟨[.type "zip",.ref a,.ref b],[]⟩) (λ_ R s=>s.heap.IsTuple a xs/\s.heap.IsList b ys/\R (.ok (.ret (.ref (E9 false s.heap a b).objs.size))) { s with heap:=CY false s.heap a b }):=
 .of_wp λprog w A R s h=>by
  obtain⟨B,g,d,tk,os⟩:=s;obtain⟨S,hb,h⟩:=h;have L:=sub_zip;have h1:Heap.IsTuple (Shared.heap ⟨B,g,d,tk,os⟩) a xs:=S;have h2:Heap.IsList (Shared.heap ⟨B.push { cls:= .type "tuple_iterator",data:= .fields #[.ref a,.int 0 0] },g,d,tk,os⟩) b ys:=Heap.IsList.push hb _
  wp_walk using wpAny_pyIter_tuple h1,wpAny_pyIter_list h2
  exact⟨_,rfl,h⟩
theorem yQ (k:Bool) (a b:Addr) (xs ys:Array Value):Meets (Builtin.«zip.__new__» ⟨[.type "zip",.ref a,.ref b],[]⟩) (λ_ R s=>s.heap.IsTuple a xs/\wf k s.heap b ys/\R (.ok (.ret (.ref (E9 k s.heap a b).objs.size))) { s with heap:=CY k s.heap a b }):=by
 cases k
 ·exact yP a b xs ys
 ·exact yO a b xs ys
theorem vP {k:Bool} {a b:Addr} {xs ys:Array Value} (ha:s.heap.IsTuple a xs) (hb:wf k s.heap b ys)
 (q:∀h',ZM k (s.heap.objs.size+4) (s.heap.objs.size+2) (s.heap.objs.size+3) s.heap.objs.size (s.heap.objs.size+1) a b 0 .none h'->(∀c o,s.heap.get? c=some o->h'.get? c=some o)->Q (.ref (s.heap.objs.size+4)) { s with heap:=h' }):
 wpAny (model prog w) A (call (.type "zip") [.ref a,.ref b]) Q E s:=by
 refine callType_new F.called_zip (by decide) (F.typeCall_zip_2 _ _) (F.newCall_zip_2 _ _) (λobj=>F.args_object_init_3 obj _ _) F.entry_zip_new (yQ k a b xs ys) ⟨ha,hb,?_⟩;have S:(Kn s.heap a).objs.size=s.heap.objs.size+1:=Heap.size_push ..;have L:(Iw k s.heap a b).objs.size=s.heap.objs.size+2:=by unfold Iw;rw[Heap.size_push,S]
 have B:(Iy k s.heap a b).objs.size=s.heap.objs.size+3:=by unfold Iy;rw[Heap.size_push,L]
 have z4:(E9 k s.heap a b).objs.size=s.heap.objs.size+4:=by unfold E9;rw[Heap.size_push,B]
 have Y:(CY k s.heap a b).get? (E9 k s.heap a b).objs.size=some _:=ybw _ rfl;have Z:(CY k s.heap a b).get? (Iy k s.heap a b).objs.size=some _:=ybz _ (ybw _ rfl);have g3:(CY k s.heap a b).get? (Iw k s.heap a b).objs.size=some _:=ybz _ (ybz _ (ybw _ rfl));have g2:(CY k s.heap a b).get? (Kn s.heap a).objs.size=some _:=ybz _ (ybz _ (ybz _ (ybw _ rfl)));have g1:(CY k s.heap a b).get? s.heap.objs.size=some _:=ybz _ (ybz _ (ybz _ (ybz _ (ybw _ rfl))));rw[L,B,z4] at Y;rw[S,L] at g3;rw[B] at Z;rw[S] at g2;show _/\_;rw[z4];exact⟨⟨_,Y,rfl⟩,q _ ⟨Y,g3,⟨_,_,Z⟩,⟨_,g1,rfl,rfl⟩,pK.mk g2⟩ λc o x=>ybz _ (ybz _ (ybz _ (ybz _ (ybz _ x))))⟩
def CZ (k:Bool) (K:yav) (H:Hp) (a:Addr) (xs:List V):Prop:=match k with | true=>dG K H a xs | false=>cG K H a xs
theorem aw.sqv {k:Bool} (I:aw X π σ H s) (h:CZ k X.K H a xs):∃B:List Value,aK xs B/\wf k s.heap a B.toArray/\xs.length<=sizeLine:=by
 cases k
 ·obtain⟨B,r,p,z⟩:=I.list h;exact⟨B,r,p.isList,z⟩
 ·exact I.tuple h
theorem aw.sqv_inj {k:Bool} (I:aw X π σ H s) (h:CZ k X.K H a xs) (h':CZ k X.K H a ys):xs=ys:=by
 cases k
 ·exact I.list_inj h h'
 ·exact I.tuple_inj h h'
noncomputable def Iz (k:Bool) (K:yav) (a b:Addr):It:=
 ⟨λi H=>∃xs ys x y,dG K H a xs/\CZ k K H b ys/\xs[i]?=some x/\ys[i]?=some y,
  λi H v H'=>∃p x y,H p=none/\(∀xs,dG K H a xs->xs[i]?=some x)/\(∀ys,CZ k K H b ys->ys[i]?=some y)/\v=.ref p/\H'=upd H p (.tup [x,y]),
  λi H=>∃xs ys,dG K H a xs/\CZ k K H b ys/\(xs.length<=i∨ys.length<=i)⟩
theorem ZM.obj {k:Bool} {z p r i j a b:Addr} {n:Nat} (T:ZM k z p r i j a b n f h) {c:Addr} (B:c∈[z,p,r,i,j]):∃o,h.get? c=some o/\∀v,o.data≠ .cell v:=by
 obtain⟨Y,L,⟨x,y,hr⟩,⟨oi,hi,_,S⟩,Z⟩:=T;simp only[mem_cons,mem_nil_iff,or_false] at B;rcases B with rfl | rfl | rfl | rfl | rfl
 ·exact⟨_,Y,λv q=>by cases q⟩
 ·exact⟨_,L,λv q=>by cases q⟩
 ·exact⟨_,hr,λv q=>by cases q⟩
 ·exact⟨_,hi,λv q=>by rw[S] at q;cases q⟩
 ·exact Z.obj
theorem vQ {kb:Bool} {z p r i j a b:Addr} (D:ZA z p r i j a b):km P w K (.Tuple elts k pos) (Iz kb K a b) [z,p,r,i,j] z (λn h=>ZM kb z p r i j a b n .none h) where
 mem:=by simp
 obj:=λn h T c B=>T.obj B
 keep:=λn h h' T kk=>by
  obtain⟨hz,hp,⟨x,y,hr⟩,hi,hj⟩:=T;exact⟨kk z (by simp) _ hz,kk p (by simp) _ hp,⟨x,y,kk r (by simp) _ hr⟩,hi.at λo e=>kk i (by simp) o e,hj.at λo e=>kk j (by simp) o e⟩
 item:=by
  intro X hP hw hK B n π s σ H E I hf T hg;subst hP hw hK;obtain⟨xs,ys,x,y,qa,qb,ex,ey⟩:=hg;obtain⟨S,rv,pa,aj⟩:=I.tuple qa;obtain⟨Y,Z,pb,ar⟩:=I.sqv qb;obtain⟨ux,as,rx⟩:=rv.get ex;obtain⟨uy,af,ry⟩:=Z.get ey;refine vO D T (show s.heap.IsTuple a S.toArray from pa) pb (by simpa using as) (by simpa using af) λh1 T1 t1 k1=>⟨_,rfl,?_⟩;refine wpAny_letOwnedTupleGo_zip T1.hz λh2 ai L=>?_;have lt:∀{c:Addr} {o:Obj},s.heap.get? c=some o->c≠s.heap.objs.size:=λe=>ne_of_lt (ybv e);have ab:H s.heap.objs.size=none:=I.hok.fresh (ycx _);have ad:z≠s.heap.objs.size:=lt T.hz;have keep:∀c o,c≠z->c≠r->c≠i->c≠j->s.heap.get? c=some o->h2.get? c=some o:=λc o c1 c2 c3 c4 e=>L.extBut c o c1 (k1 c o c1 c2 c3 c4 e);have tn:h2.get? s.heap.objs.size=some { cls:= .type "tuple",data:= .seq #[ux,uy] }:=L.extBut _ _ (Ne.symm ad) t1;refine⟨.ref s.heap.objs.size,upd H s.heap.objs.size (.tup [x,y]),I.pair (ch:=[z,r,i,j]) (λc B=>hf c (CI B)) (λc o B e=>?_) tn rx ry,rfl,⟨_,x,y,ab,λzs hz=>by rw[I.tuple_inj hz qa];exact ex,λzs hz=>by rw[I.sqv_inj hz qb];exact ey,rfl,rfl⟩,⟨ai,?_,?_,?_,?_⟩,λc B=>?_⟩
  ·obtain⟨c1,c2,c3,c4⟩:=xP B;exact keep c o c1 c2 c3 c4 e
  ·exact L.extBut _ _ D.zp T1.hp
  ·obtain⟨x',y',hr⟩:=T1.hr;exact⟨x',y',L.extBut _ _ D.zr hr⟩
  ·exact T1.hi.extBut L.extBut D.zi
  ·exact T1.hj.extBut L.extBut D.zj
  ·obtain⟨o,e,_⟩:=T.obj B;rw[ax (lt e)];exact(hf c B).1
 done:=by
  intro X hP hw hK B n π s σ H E I hf T hg;subst hP hw hK;obtain⟨xs,ys,qa,qb,hl⟩:=hg;obtain⟨S,rv,pa,aj⟩:=I.tuple qa;obtain⟨Y,Z,pb,ar⟩:=I.sqv qb;have la:=rv.length;have lb:=Z.length;have hx:S.toArray[n]?=none∨Y.toArray[n]?=none:=by
   rcases hl with h | h
   ·exact .inl (by simp;lia)
   ·exact .inr (by simp;lia)
  refine yN (I.ok.hd B) D T (show s.heap.IsTuple a S.toArray from pa) pb hx λh' k1=>⟨rfl,?_⟩;exact I.turns (ch:=[z,r,i,j]) (λc B=>hf c (CI B)) λc o B e=>by
   obtain⟨c1,c2,c3,c4⟩:=xP B;exact k1 c o c1 c2 c3 c4 e
 self:=λ_ _ _ _ _ T h=>wpAny_pyIter_zip T.hz h
inductive yR (K:yav) (G:Gp):W->W->Bool->List W->List W->(Gp->Prop)->Prop where
 | tt (xs ys:List W):yR K G (.tup xs) (.tup ys) true xs ys λ_=>True
 | kl {a b:Addr} {ts:List Str} {l:List W} (h:GTx K a ts) (hl:ts.length<=1000) (e:G b=some (.lst l)):yR K G (.ref a) (.ref b) false (ts.map W.str) l λG=>G b=some (.lst l)
def ui (K:yav) (ta:WA):WI:=λτ G r=>ta τ G λws G1=>∃x y k xs ys C,ws=[x,y]/\yR K G1 x y k xs ys C/\r (du xs ys) C G1
theorem BH {H:Hp} {G:Gp} {x y:W} {k:Bool} {xs ys:List W} {C:Gp->Prop} {v u:V} (h:yR K G x y k xs ys C) (g:aB K H G) (S:bO K H x v) (Z:bO K H y u):∃a b,v=.ref a/\u=.ref b/\∀H1 B,aE H H1->aB K H1 B->C B->∃vs us,dG K H1 a vs/\CZ k K H1 b us/\aJ K H1 xs vs/\aJ K H1 ys us:=by
 cases h with
 | tt xs ys=>
   cases S with
   | @tup a _ vs ha ra=>
     cases Z with
     | @tup b _ us hb L=>exact⟨a,b,rfl,rfl,λH1 B t Y _=>⟨vs,us,dG.of (t.tup _ _ ha),dG.of (t.tup _ _ hb),ra.mono t,L.mono t⟩⟩
 | @kl a b ts l hT hl e=>
   cases S;cases Z;refine⟨a,b,rfl,rfl,λH1 B t Y e1=>?_⟩;obtain⟨_,us,h1,L⟩:=Y _ _ e1;exact⟨_,us,hT.sq (by rw[sizeLine_eq];lia),cG.of h1,iB ts,L⟩
theorem yS {k:Bool} {a b:Addr} {ws us:List W} {C:Gp->Prop} {H:Hp} (Z:∀H1 Y,aE H H1->aB K H1 Y->C Y->∃vs xs,dG K H1 a vs/\CZ k K H1 b xs/\aJ K H1 ws vs/\aJ K H1 us xs):sS K (Iz k K a b) (du ws us) C H where
 stop:=λi H1 G t g e hl=>by
  obtain⟨vs,xs,h1,h2,B,L⟩:=Z H1 G t g e;refine⟨vs,xs,h1,h2,?_⟩;rw[iP] at hl;rw[←B.length,←L.length];lia
 go:=λi w H1 G t g eG e=>by
  obtain⟨vs,xs,h1,h2,B,L⟩:=Z H1 G t g eG;obtain⟨x,y,ex,ey,rfl⟩:=nZ e;obtain⟨vx,e1,r1⟩:=B.get ex;obtain⟨vy,e2,r2⟩:=L.get ey;refine⟨⟨vs,xs,vx,vy,h1,h2,e1,e2⟩,λv H' z9=>?_⟩;obtain⟨p,x',y',hp,q1,q2,ev,eH⟩:=z9;have z1:=q1 _ h1;have S:=q2 _ h2;rw[e1] at z1;cases z1;rw[e2] at S;cases S;subst ev eH;have tn:=aE.new hp (HO.tup [vx,vy]);exact⟨tn,.tup aY (.cons (r1.mono tn) (.cons (r2.mono tn) .nil)),g.keep hp _⟩
theorem wf.lt {k:Bool} {xs:Array Value} (x:wf k h a xs):a<h.objs.size:=by
 cases k<;> obtain⟨o,B,_⟩:=x<;> exact ybv B
theorem mW {elts:List Expr} {tp:Pos} {a b:Expr} {ta:WA} {p pos:Pos} (hg:Gl X "zip") (hm:X.mg "zip"=none) (ha:QA X [a,b] ta) (hs:starEach [a,b] X.env=[(false,eval a X.env),(false,eval b X.env)]:=by rfl) (L:starEach [b] X.env=[(false,eval b X.env)]:=by rfl):
 QI X (.Tuple elts k tp) (.Call (.Name "zip" p) [a,b] [] pos) (ui X.K ta):=by
 rintro π s σ H R I ⟨τ,G,r,ad,hG,ht,hR⟩;refine Call_ (ig I hg hm xq (PyProof.Rows.callWith_type1 (bE (ha pos π s σ H (λvs H1=>∃ws G1,aE H H1/\aJ X.K H1 ws vs/\aB X.K H1 G1/\∃x y k xs ys C,ws=[x,y]/\yR X.K G1 x y k xs ys C/\r (du xs ys) C G1) I ⟨τ,G,_,ad,hG,ht,λvs H1 ws G1 t1 r1 S q1=>⟨ws,G1,t1,r1,S,q1⟩⟩) λus B z9=>?_) (by rw[hs,L]) (by rw[L];rfl)));obtain⟨vs,H1,Y,ru,ws,G1,t1,r1,S,x,y,kb,xs,ys,C,e,hS,q1⟩:=z9;subst e;obtain⟨v1,v2,rfl,ra,rb⟩:=r1.two;obtain⟨pa,pb,rfl,rfl,hZ⟩:=BH hS S ra rb;obtain⟨u1,u2,rfl,w1,w2⟩:=wz ru;cases (show u1=Value.ref pa from w1);cases (show u2=Value.ref pb from w2);have hC:C G1:=by cases hS<;> first | trivial | assumption
 obtain⟨vs,us,h1,h2,_,_⟩:=hZ H1 G1 (aE.refl H1) S hC;obtain⟨ab,_,p1,_⟩:=Y.tuple h1;obtain⟨af,_,p2,_⟩:=Y.sqv h2;refine vP (show B.heap.IsTuple pa ab.toArray from p1) p2 λh' T kk=>?_;refine wpAny_pyIter_zip T.hz ?_;have I2:aw X π σ H1 { B with heap:=h' }:=Y.kept (t':=B.toks) kk;refine⟨_,[B.heap.objs.size+4,B.heap.objs.size+2,B.heap.objs.size+3,B.heap.objs.size,B.heap.objs.size+1],_,_,H1,rfl,I2,vQ (Ej p1.lt p2.lt),T,λc hc=>?_,hR _ H1 _ _ G1 t1 S (yS hZ) q1⟩;have Z:B.heap.objs.size<=c:=by
  simp only[mem_cons,mem_nil_iff,or_false] at hc;rcases hc with rfl | rfl | rfl | rfl | rfl
  ·exact Nat.le_add_right _ _
  ·exact Nat.le_add_right _ _
  ·exact Nat.le_add_right _ _
  ·exact ycx _
  ·exact Nat.le_add_right _ _
 exact Y.fpOk Z (Y.hok.fresh Z)
noncomputable def oZ (kvs:List (aW×W)) (k:aW):List (aW×W):=kvs.filter λkv=>decide (kv.1≠k)
theorem DP.del {kvs:List (aW×W)} {us:List (aW×V)} (d:DP K H kvs us) (k:aW):DP K H (oZ kvs k) (iL us k):=by
 unfold oZ iL
 induction d with
 | nil=>exact .nil
 | @cons B w v kvs us r t ih=>
   rw[filter_cons,filter_cons]
   by_cases h:B=k
   ·rw[ydy (λz=>z h)];exact ih
   ·rw[ydz h];exact .cons r ih
def IA:V->List V->Hp->VK->Prop:=λx vs H Q=>∃a kvs k v,x=.ref a/\vs=[kV k]/\H a=some (.dK kvs)/\jv kvs k=some v/\Q v (upd H a (.dK (iL kvs k)))
theorem BI:Cp X "dict.pop" IA:=by
 rintro π s σ H x vs v us Q I rx Z ⟨a,kvs,k,L,Y,e2,e,l,q⟩;subst Y e2;cases rx;obtain⟨u1,rfl,S⟩:=cC Z;exact GP I e S l (.inl rfl) λw' s' I' B=>⟨L,_,I',B,q⟩
def C0 (to tk:WE):WE:=λτ G q=>to τ G λx G1=>match x with
 | .ref a=>(∃kvs,G1 a=some (.dic kvs))/\tk τ G1 λy G2=>∃z kvs w,y=.str z/\G2 a=some (.dic kvs)/\cg kvs (.inr z)=some w/\q w (av G2 a (.dic (oZ kvs (.inr z))))
 | _=>False
theorem BJ {o k:Expr} {to tk:WE} (ho:QE X o to) (hk:QE X k tk)
 (B:attributeBase o "pop" X.env (eval o X.env)=eval o X.env:=by rfl)
 (S:((backTo cpos (starEach [k] X.env)).all (λx=>!x.1)&&(backToKw cpos (keywordEach [] X.env)).all (λx=>x.1.isSome)
   &&decide (([k]:List Expr).length+([]:List Keyword).length+(if ([]:List Keyword).isEmpty then 0 else 1)<30))=true:=by rfl)
 (L:(apos.endLine==cpos.line)=true:=by rfl) (Y:starEach [k] X.env=(false,eval k X.env)::starEach [] X.env:=by rfl) (ab:plZ cpos X []:=by rfl):
 QE X (.Call (.Attribute o "pop" apos) [k] [] cpos) (C0 to tk):=
 (jt PySem.F.plainAttrs_dict PySem.F.slot_dict_pop PySem.F.type_dict_pop BI ho (bQ hk pa_nil Y) B S L Y ab).imp λσ H Q z0=>z0.el λτ G q Y hg ht hQ=>
   ⟨τ,G,_,Y,hg,ht,λv H1 w G1 t1 r1 g1 Z=>by
     split at Z
     ·rename_i a;cases r1;obtain⟨⟨kvs,e1⟩,Z⟩:=Z;obtain⟨_,us,h1,_⟩:=g1 a _ e1;refine⟨.inr (.inr (.inl ⟨rfl,.inl ⟨us,h1⟩⟩)),τ,G1,_,Y.mono t1,g1,Z,λv2 H2 w2 G2 t2 r2 g2 q2=>?_⟩;obtain⟨z,kvs,w3,rfl,e2,hv,q2⟩:=q2;cases r2;obtain⟨hl,us,h2,n,rr⟩:=g2 a _ e2;have dp:=DP.of n rr;rcases dp.val (.inr z) with⟨e,e'⟩ | ⟨w',v',e,e',r⟩
      ·rw[e] at hv;cases hv
      ·rw[e] at hv;cases hv;have tl:=aE.dk h2 (.dK (iL us (.inr z)));have dd:=(dp.del (.inr z)).mono tl;refine⟨a,us,.inr z,v',rfl,rfl,h2,e',hQ _ _ _ _ ((t1.trans t2).trans tl) (r.mono tl) (g2.lay (g:= .dic (oZ kvs (.inr z))) tl ⟨ycy (List.length_filter_le ..) hl,_,aY,dd.keys,dd.vals⟩) q2⟩
     ·exact Z.elim⟩
theorem yT (hl:s.heap.IsTuple l #[S,Y]) (hb:s.heap.IsTuple b #[B,L]) (hu:A.units<cLine) (h1:jT prog w A.in1 s S B) (h2:jT prog w A.in1 s Y L) (E:yey) (Q:yey) (q:Q (.bool false) s):
 wpAny (model prog w) A (richCompare .NotEq (.ref l) (.ref b)) Q E s:=by
 obtain⟨o1,Z,c1,n1,d1⟩:=id hl;obtain⟨o2,e2,c2,n2,d2⟩:=id hb;refine wpAny_richCompare_same_room (T:="tuple") ⟨o1,Z,c1⟩ ⟨o2,e2,c2⟩ PySem.F.slot_tuple_ne (wpAny_call_entry PySem.F.slot_tuple_ne ⟨o1,Z,c1⟩ PySem.F.entry_tuple_ne ?_ (PySem.F.args_tuple_ne_2 _ _)) hu;unfold Builtin.«tuple.__ne__»
 k_delta "compare"
 refine wax ?_;unfold slotArgs;refine wpAny_ite_false (by rfl) (wpAny_ite_false (by rfl) (wpAny_pure ?_));dsimp only;refine wax (wpAny_isInstance (T:="tuple") (b:=true) ⟨o2,e2,c2⟩ (by rfl) ?_);refine wpAny_ite_false (by rfl) ?_;refine wax (wpAny_tupleItemsOf Z d1 ?_);refine wax (wpAny_tupleItemsOf e2 d2 ?_);rw[show(#[S,Y]:Array Value).toList.zip (#[B,L]:Array Value).toList=[(S,B),(Y,L)] from rfl];simp only[forIn_cons,forIn_nil];refine wax (wax (wax (h1 _ _ ?_)));refine wpAny_ite_false (by rfl) (wpAny_pure ?_);dsimp only;refine wax (wax (h2 _ _ ?_));refine wpAny_ite_false (by rfl) (wpAny_pure ?_);refine wpAny_pure ?_;dsimp only;exact wpAny_pure ⟨.bool false,rfl,(λz=>nomatch z),q⟩
structure vR (G:Gp) (x y:W):Prop where
 ex:∃x1 y1 a b,x=.tup [x1,.ref a]/\y=.tup [y1,.ref b]/\Lv x1 y1/\lq G (.ref a) (.ref b)
theorem vR.rc (hu:A.units+162<cLine) {G:Gp} {x y:W} {v u:V} {p q:Value} (h:vR G x y) (I:aw X π σ H s) (g:aB X.K H G) (r1:bO X.K H x v) (r2:bO X.K H y u) (q1:aT v p) (q2:aT u q):
 ∃l b,p=.ref l/\q=.ref b/\∀(E:yey) (Q:yey),(Q (.bool true) s->wpAny (model X.prog X.w) A (richCompare .Eq (.ref l) (.ref b)) Q E s)/\(Q (.bool false) s->wpAny (model X.prog X.w) A (richCompare .NotEq (.ref l) (.ref b)) Q E s):=by
 obtain⟨x1,y1,a,b,rfl,rfl,⟨f1,f2,hd,he⟩,hs⟩:=h.ex;cases r1 with
 | @tup l _ xs hT rr=>
   cases r2 with
   | @tup m _ ys Y L=>
     cases (show p=Value.ref l from q1);cases (show q=Value.ref m from q2);obtain⟨ad,rv,Z,_⟩:=I.tuple (dG.of hT);obtain⟨ab,S,B,_⟩:=I.tuple (dG.of Y);obtain⟨v1,v2,rfl,a1,a2⟩:=rr.two;obtain⟨u1,u2,rfl,b1,b2⟩:=L.two;obtain⟨p1,p2,rfl,c1,c2⟩:=lU rv;obtain⟨t1,t2,rfl,d1,d2⟩:=lU S;have h1:=(fW I 150 A.in1 (w1:=x1) (w2:=y1) (by omega) f1 f2 (by show A.units+1+150<cLine;omega) a1 b1 c1 d1).1;rw[he] at h1;have h2:=tY (A:=A.in1) (by show A.units+1+20<cLine;omega) I g hs a2 b2 c2 d2;exact⟨l,m,rfl,rfl,λE Q=>⟨BB Z B (by omega) (.of h1) (.of h2) E Q,yT Z B (by omega) (.of h1) (.of h2) E Q⟩⟩
def LC:W2:=λx y G q=>vR G x y/\q (.bl true) G
def LD:W2:=λx y G q=>vR G x y/\q (.bl false) G
theorem IB (hr:aH k X.A):eo X (compareOp .Eq) LC:=by
 rintro π s σ H x y v u Q I rx S ⟨wx,wy,G,q,B,Y,g,⟨Z,h⟩,L⟩;have hu:=hr.un;obtain⟨l,b,rfl,rfl,hc⟩:=Z.rc (A:=X.A) (by lia) I g B Y rx S;exact(hc X.xe _).1 ⟨.bl _,H,I,rfl,L _ H _ G (aE.refl H) (.bl _) g h⟩
theorem yU (hr:aH k X.A):eo X (compareOp .NotEq) LD:=by
 rintro π s σ H x y v u Q I rx S ⟨wx,wy,G,q,B,Y,g,⟨Z,h⟩,L⟩;have hu:=hr.un;obtain⟨l,b,rfl,rfl,hc⟩:=Z.rc (A:=X.A) (by lia) I g B Y rx S;exact(hc X.xe _).2 ⟨.bl _,H,I,rfl,L _ H _ G (aE.refl H) (.bl _) g h⟩
def IC:W2:=λx y G q=>∃a b ws us,x=.ref a/\y=.ref b/\G a=some (.lst ws)/\G b=some (.lst us)/\ws.length=us.length/\(∀(j:Nat) (x y:W),ws[j]?=some x->us[j]?=some y->vR G x y)/\q (.bl false) G
theorem Fa (hr:aH k X.A):eo X (compareOp .NotEq) IC:=by
 rintro π s σ H x y v u Q I rx ry ⟨wx,wy,G,q,r1,r2,g,⟨a,b,ws,us,Z,e2,ea,eb,hl,he,h⟩,hQ⟩;subst Z e2;cases r1;cases r2;cases rx;cases ry;have hu:=hr.un;obtain⟨_,xs,Z,ra⟩:=g _ _ ea;obtain⟨_,ys,e2,rb⟩:=g _ _ eb;obtain⟨ab,rv,p,_⟩:=I.list (cG.of Z);obtain⟨S,Y,p2,_⟩:=I.list (cG.of e2);have l1:ab.length=ws.length:=by rw[←rv.length,ra.length]
 have l2:S.length=us.length:=by rw[←Y.length,rb.length]
 refine uc (.inr ⟨rfl,rfl⟩) p.isList p2.isList (by rw[size_toArray,size_toArray,l1,l2,hl]) (by lia) (λj u v hj hv=>?_) X.xe _ ⟨.bl _,H,I,rfl,hQ _ H _ G (aE.refl H) (.bl _) g h⟩;rw[List.getElem?_toArray] at hj hv;have j1:j<ws.length:=by rw[←l1];exact(List.getElem?_eq_some_iff.mp hj).1
 have gw:=ycz j1;have gu:=ycz (show j<us.length by lia);obtain⟨x,hx,rx⟩:=ra.get gw;obtain⟨y,hy,ry⟩:=rb.get gu;obtain⟨u',L,qu⟩:=rv.get hx;obtain⟨v',B,qv⟩:=Y.get hy;rw[hj] at L;rw[hv] at B;cases L;cases B;obtain⟨l,b,rfl,rfl,hc⟩:=(he j _ _ gw gu).rc (A:=X.A.in1) (by show X.A.units+1+162<cLine;lia) I g rx ry qu qv;exact jT.refs λ_ E Q=>(hc E Q).1
structure jg (K:yav) (mg:yew) (ns:List Str) (cs:List Addr):Prop where
 len:cs.length=ns.length
 mgs:∀(i:Nat) (x:Str) (c:Addr),ns[i]?=some x->cs[i]?=some c->mg x=some (.ref c)
 xo:∀(i:Nat) (c:Addr),cs[i]?=some c->XO K c
 mro:∀(i j:Nat) (c d:Addr),cs[i]?=some c->cs[j]?=some d->mroIn K c (.ref d)=some (decide (i=j∨j=0))
noncomputable def BK (x:Option (Option Value)) (s:String):Bool:=match x with | some (some (.builtin t))=>t==s | _=>false
noncomputable def ID (x:Option (Option Value)):Bool:=match x with | some none=>true | _=>false
noncomputable def IE (x:Option Value):Bool:=match x with | some (.type t)=>t=="type" | _=>false
noncomputable def LF (K:yav) (c:Addr):Bool:=PySem.W.excIn K c bmV "ValueError.__new__"&&(BK (findIn K (.ref c) "__getattribute__") "BaseException.__getattribute__"&&(ID (findIn K (.ref c) "__getattr__")&&(BK (findIn K (.ref c) "__class__") "object.__class__"&&((clsIn K c).isSome&&(IE (PySem.W.typeIn K (.ref c))&&PySem.W.instIn K (.ref c) (.type "type")==some true)))))
noncomputable def LH (K:yav) (cs:List Addr):Bool:=cs.all (LF K)&&(List.range cs.length).all λi=>(List.range cs.length).all λj=>mroIn K (cs.getD i 0) (.ref (cs.getD j 0))==some (decide (i=j∨j=0))
theorem uj {x:Option (Option Value)} {s:String} (h:BK x s=true):x=some (some (.builtin s)):=by
 unfold BK at h;split at h
 ·rw[eq_of_beq h]
 ·cases h
theorem Fb (h:LF K c=true):XO K c:=by
 unfold LF at h;simp only[Bool.and_eq_true] at h;obtain⟨h1,h2,L,Z,S,B,Y⟩:=h;refine⟨XC.of h1,⟨uj h2,?_,uj Z⟩,Option.isSome_iff_exists.mp S,?_,eq_of_beq Y⟩
 ·unfold ID at L;split at L
  ·assumption
  ·cases L
 ·unfold IE at B;split at B
  ·rename_i t e;rw[e,eq_of_beq B]
  ·cases B
theorem jg.of {ns:List Str} {cs:List Addr} (S:ns.map mg=cs.map λc=>some (.ref c)) (hb:LH K cs=true):jg K mg ns cs:=by
 unfold LH at hb;rw[Bool.and_eq_true] at hb;have hl:cs.length=ns.length:=by have:=congrArg List.length S;rw[length_map,length_map] at this;exact this.symm
 refine⟨hl,λi x c Z B=>?_,λi c B=>Fb (all_eq_true.mp hb.1 c (List.mem_of_getElem? B)),λi j c d B L=>?_⟩
 ·have:(ns.map mg)[i]?=(cs.map λc=>some (Value.ref c))[i]?:=by rw[S]
  rw[List.getElem?_map,List.getElem?_map,Z,B] at this;exact Option.some.inj this
 ·have hi:=(List.getElem?_eq_some_iff.mp B).1;have Y:=(List.getElem?_eq_some_iff.mp L).1;have:=all_eq_true.mp (all_eq_true.mp hb.2 i (mem_range.mpr hi)) j (mem_range.mpr Y);rw[List.getD_eq_getElem?_getD,List.getD_eq_getElem?_getD,B,L] at this;exact eq_of_beq this
noncomputable def vS (w:World) (x:Str×Tok×Addr):DictEntry:=⟨PyData.keyHash w.params x.1,.str x.1 x.2.1,.ref x.2.2⟩
theorem mU.of (es:List (Str×Tok×Addr)) (L:(a==sysModules)=false) (h:K.lookup a=some ⟨.type "dict",none,.dict (es.map (vS w)).toArray ep,#[]⟩):mU P w K a (es.map λx=>(x.1,x.2.2)):=by
 refine⟨L,_,_,_,h,⟨rfl,rfl,rfl⟩,rfl,λe B=>?_,λz=>?_⟩
 ·obtain⟨x,_,rfl⟩:=mem_map.mp (List.mem_toArray.mp B);exact⟨.inr x.1,beq_self_eq_true x.1,rfl⟩
 ·unfold findBy;rw[List.find?_toArray];clear h
  induction es with
  | nil=>rfl
  | cons x es ih=>
    rw[map_cons,List.find?_cons,map_cons,lookup_cons];cases e:x.1==z with
    | true=>
      rw[show(bg P w).is (.inr z) (vS w x).key=true from e,show(z==x.1)=true by rw[eq_of_beq e];exact beq_self_eq_true z]
      rfl
    | false=>
      rw[show(bg P w).is (.inr z) (vS w x).key=false from e,show(z==x.1)=false from Bool.eq_false_iff.mpr λq=>by rw[eq_of_beq q,beq_self_eq_true] at e;cases e];exact ih
theorem BL (M:Kk X.prog X.w X.K X.mg X.base x C ps k sp) (hr:aH (k+1) X.A) (B:Gl X x) (L:dbz x:=by decide):QE X (.Call (.Name x p) [] [] pos) (ou C sp [] jx):=by
 obtain⟨f,fd,M,F,Z,b⟩:=M;exact(wI (dvs:=[]) M F hr B Z b .nil (ju (X:=X)) L).imp λσ H Q h=>by
  obtain⟨τ,G,q,hs,B,S,Y⟩:=gJ.make (dvs:=[]) (λ_=> .nil) h;exact Y [] H [] G (aE.refl H) .nil B S
section
variable {h:Heap} {u qual:Str} {f T C:Addr} {oc:Value} {od an:Option Addr} {osl:Array (Option Value)} {kV doc pm cdv ct:Value}
theorem lnT {α:Type} {n:Nat} {p:List α->Prop} (h:∀us:List α,us.length=n->p us) (us:List α) (e:us.length+1=n+1):p us:=h us (Nat.succ.inj e)
theorem Df.mk (X:K.In h) (G:h.Ns mainGlobals mg) (a:nsIn K mainGlobals x=some (some (.ref f))) (l:K.lookup f=some ⟨oc,od,.func (fnOf x x (bq st) (aZ st) (ae st) .none kV doc pm an cdv ct),osl⟩) (c:codeIn K cdv x=true) (k:keepIn K (.ref f)=true) (b:∀(kV doc pm:Value) (an:Option Addr) (cdv ct:Value) (us:yez),us.length=ps.length->bindArgs (fnOf x x (bq st) (aZ st) (ae st) .none kV doc pm an cdv ct) ⟨us,[]⟩=pure (ps.zip us)):Df K mg x st ps:=⟨f,_,fV l c k,(fV l c k).binds b,mg_of X G a⟩
theorem DfA.mk (X:K.In h) (G:h.Ns mainGlobals mg) (a:nsIn K mainGlobals u=some (some (.ref f))) (l:K.lookup f=some ⟨oc,od,.func (fnOf x x (bq st) (aZ st) (ae st) .none kV doc pm an cdv ct),osl⟩) (c:codeIn K cdv x=true) (k:keepIn K (.ref f)=true) (b:∀(kV doc pm:Value) (an:Option Addr) (cdv ct:Value) (us:yez),us.length=ps.length->bindArgs (fnOf x x (bq st) (aZ st) (ae st) .none kV doc pm an cdv ct) ⟨us,[]⟩=pure (ps.zip us)):DfA K mg u x st ps:=⟨f,_,fV l c k,(fV l c k).binds b,mg_of X G a⟩
theorem Md.mk (a:findIn K (.ref C) m=some (some (.ref f))) (i:isFn K (.ref f)=true) (l:K.lookup f=some ⟨oc,od,.func (fnOf m qual (bq st) (aZ st) (ae st) .none kV doc pm an cdv ct),osl⟩) (c:codeIn K cdv qual=true) (k:keepIn K (.ref f)=true) (b:∀(kV doc pm:Value) (an:Option Addr) (cdv ct:Value) (us:yez),us.length=ps.length->bindArgs (fnOf m qual (bq st) (aZ st) (ae st) .none kV doc pm an cdv ct) ⟨us,[]⟩=pure (ps.zip us)):Md K C m qual st ps:=⟨f,_,⟨a,i,k⟩,fV l c k,(fV l c k).binds b⟩
theorem MdI.mk (z:PySem.W.makesIn K C=true) (y:keepIn K (.ref C)=true) (M:Md K C "__init__" qual st ps):MdI K C qual st ps:=by
 obtain⟨f,fd,m,F,b⟩:=M;exact⟨f,fd,⟨z,m.at_,m.fn,y⟩,F,b⟩
theorem DfD.mk (X:K.In h) (G:h.Ns mainGlobals mg) (Z:aT S B) (hr:∀H,bO K H Y S) (a:nsIn K mainGlobals x=some (some (.ref f))) (l:K.lookup f=some ⟨oc,od,.func (fnOf x x (bq st) (aZ st) (ae st) (.ref T) kV doc pm an cdv ct),osl⟩) (c:codeIn K cdv x=true) (k:keepIn K (.ref f)=true) (t:K.lookup T=some ⟨tc,td,.seq #[B] tn,ts⟩)
 (b:∀(kV doc pm:Value) (an:Option Addr) (cdv ct:Value) (us:yez),us.length=ps.length->∃k,bindArgs (fnOf x x (bq st) (aZ st) (ae st) (.ref T) kV doc pm an cdv ct) ⟨us,[]⟩=seqItems? (.ref T) >>= k/\k (some #[B])=pure (ps.zip us))
 (e:∀(kV doc pm:Value) (an:Option Addr) (cdv ct:Value) (us:yez),us.length+1=ps.length->∃k,bindArgs (fnOf x x (bq st) (aZ st) (ae st) (.ref T) kV doc pm an cdv ct) ⟨us,[]⟩=seqItems? (.ref T) >>= k/\k (some #[B])=pure (ps.zip (us++[B]))):DfD K mg x st ps [Y]:=
 ⟨f,_,T,[B],[S],lT l c k t rfl,(lT (ds:=[B]) l c k t rfl).binds λkV doc pm an cdv ct us L=>by rw[append_nil] at L ⊢;exact b kV doc pm an cdv ct us L,(lT (ds:=[B]) l c k t rfl).binds λkV doc pm an cdv ct us L=>e kV doc pm an cdv ct us (by rw[length_append] at L;exact L),mg_of X G a,.cons Z .nil,λH=> .cons (hr H) .nil⟩
theorem map_cg {c:Addr} {ns:List Str} {cs:List Addr} (h:mg x=some (.ref c)) (t:ns.map mg=cs.map λc=>some (Value.ref c)):(x::ns).map mg=(c::cs).map λc=>some (Value.ref c):=by rw[map_cons,map_cons,h,t]
theorem gi_mk (X:K.In h) (G:h.Ns mainGlobals mg) (a:nsIn K mainGlobals x=some (some (.int n t))):∃t:Tok,mg x=some (.int n t):=⟨t,mg_of X G a⟩
theorem GTx.mk (l:K.lookup b=some ⟨.type "tuple",d,.seq us.toArray n,B⟩) (v:aK (ts.map V.str) us):GTx K b ts:=⟨d,n,B,us,l,v⟩
theorem ck_mk {Q:Addr->Prop} (X:K.In h) (G:h.Ns mainGlobals mg) (a:nsIn K mainGlobals x=some (some (.ref C))) (q:Q C):∃C:Addr,mg x=some (.ref C)/\Q C:=⟨C,mg_of X G a,q⟩
theorem ex_mk {ns:List Str} {cs:List Addr} (m:ns.map mg=cs.map λc=>some (Value.ref c)) (t:LH K cs=true):∃cs,jg K mg ns cs:=⟨cs,jg.of m t⟩
theorem map_nl:([]:List Str).map mg=([]:List Addr).map λc=>some (Value.ref c):=rfl
end
def uk (i:Nat) (C:Addr) (m:Str) (sp:aX) (dws:List W) (to:WE) (t:WA):zQ->WS:=λex d τ G=>to τ G λx G1=>∃a fs,x=.ref a/\G1 a=some (.ins C fs)/\fs.lookup m=none/\t τ G1 λws G2=>sp (x::(ws++dws)) G2 (λv G3=>d.nx (τ.set i (some v)) G3) λc G3=>∀D,c=.ref D->ex D τ G3
theorem BM (i:Nat) {y:Str} {m:Str} {sp:aX} {dws:List W} {o e:Expr} {to:WE} {t:WA} {S L:Pos} {pl:Sem Bool} (ad:∀e s,¬X.xe e s) (hN:X.N.Nodup) (hi:X.N[i]?=some y) (hy:zV X.env.scope y) (ho:QE X o to) (M:Li X.prog X.w X.K X.mg X.base C m ps k sp dws) (hr:aH k X.A) (ha:QA X (e::es) t)
 (ai:seZ X e es:=by rfl) (ar:plZ cpos X es:=by rfl)
 (ht:eval (.Call (.Attribute o m apos) (e::es) [] cpos) X.env=(do
   let ov ←eval o X.env
   standAt apos.atName
   let (f,first) ←holding [ov] (getMethod ov m pl)
   callWith cpos f first (backTo cpos (starEach (e::es) X.env)) (backToKw cpos (keywordEach [] X.env))):=by rfl)
 (af:swapsWith (.Call (.Attribute o m apos) (e::es) [] cpos) (some (.Name y L)) S.line X.env=pure false:=by rfl) (hf:X.fn y=true∨X.env.scope.names.lookup y=some .local:=by first | exact .inl rfl | exact .inr rfl | assumption):
 QY X (.Assign [.Name y L] (.Call (.Attribute o m apos) (e::es) [] cpos) S) (uk i C m sp dws to t):=by
 rintro ex π s σ H D I ⟨τ,G,d,rs,rg,aj,l⟩;obtain⟨⟨f,fd,ds,dvs,hm,F,hb,hd,ab⟩,c⟩:=M;have go:=ho π s σ H (λv H1=>∃a dx fs',v=.ref a/\H1 a=some (.ins C dx fs')/\fs'.lookup m=none/\LA X.K t σ H1 λvs H2=>xf X.K sp (.ref a::(vs++dvs)) H2 (λv B=>D.nx (σ.set i (some v)) B) λc _ B=>∀D,c=.ref D->aE H B/\∃Y,aV X.K B τ σ/\aB X.K B Y/\ex D τ Y) I
  ⟨τ,G,_,rs,rg,aj,λv H1 w G1 t1 r1 g1 q1=>by
    obtain⟨a,fs,rfl,hG,hl,q1⟩:=q1;cases r1;obtain⟨_,dx,fs',hH,hn,_⟩:=g1 a _ hG;refine⟨a,dx,fs',rfl,hH,dX hn hl,τ,G1,_,rs.mono t1,g1,q1,λvs H2 ws G2 t2 r2 g2 q2=>?_⟩;exact⟨.ref a::(ws++dws),G2,_,_,.cons (.ref a) (r2.append (ab _)),g2,q2,λv B w3 Y t3 r3 g3 Z=>l.nx _ B _ Y ((t1.trans t2).trans t3) ((rs.mono ((t1.trans t2).trans t3)).set r3 i) g3 Z,
     λc dd B Y t3 g3 Z C ec=>⟨(t1.trans t2).trans t3,Y,rs.mono ((t1.trans t2).trans t3),g3,Z C ec⟩⟩⟩
 refine wpAny_Assign_Name (PySem.W.methodCall_KW (pl:=pl) (wpAny_mono go (λu s1 h1=>?_) λe s1 z=>(ad e s1 z).elim) ht) af;obtain⟨v,H1,I1,rx,a,dx,fs',e1,ea,hl,q⟩:=h1;subst e1;obtain rfl:u=Value.ref a:=rx;refine fU I1 ea c hm hl ?_;refine callWith_K (first:=[.ref a]) (h₀:=X.base) I.ok.mod.kin hm.kp (wpAny_mono (ha cpos π s1 σ H1 _ I1 q) (λus s2 ⟨vs,H2,I2,r,q2⟩=>⟨I2.kIn,?_⟩) λe s1 z=>(ad e s1 z).elim) ai ar;exact AR (us:= .ref a::us) (vs:= .ref a::vs) F hr hb hd I2 (.cons rfl r) q2 λu s' z9=>(by obtain⟨v,B,I3,rv,Z⟩:=z9;exact gG I3 hN hi hy rv (λs2 I2=>⟨_,B,I2,Z⟩) hf)
section
variable {M:Model} {EE:yey}
theorem pc {env:Env} {outer:List Env} {L e:Addr} {af a0:Value} {Q:Unit->Shared->Prop}
 (aj:A.frames=some (env::outer)) (hl:s.heap.FunFrames base (env::outer)) (hf:env.frame=some L) (ht:s.heap.TracedAtW base e af a0 fl) (ad:base.StaysIn s.heap) (ar:base.get? e=none)
 (h:∀h',Heap.LeftW base (env::outer) e af a0 s.heap h'->Q () { s with heap:=h' }):wpAny M A (leaving env (.ref e)) Q EE s:=by
 by_cases hfl:fl=rawInt L
 ·subst hfl;unfold leaving;refine wax (wpAny_noteFrame_againW hf ht ?_);exact wpAny_setFlight_noneW ad hl ht λh' k1 k2 k3 k4=>h h' ⟨k1,k2,k3,λb o hb hn=>⟨o.slots,k4 b o hb hn⟩⟩
 obtain⟨oe,vs,T,oT,ts,he,⟨ai,h0⟩,hd,h1,as,az,hT,Z,h3⟩:=ht;subst ai;unfold leaving noteFrame;simp only[hf];refine wax (wax (wpAny_field he hd h1 ?_));rw[ycv (show(Value.ref T !=Value.none)=true from by simp)];refine wax (wpAny_field hT Z h3 ?_);rw[ycw (show ¬((fl==rawInt L)=true) from λz=>hfl (beq_iff_eq.mp z))];refine wax (wpAny_setField hT Z (Array.getElem?_eq_some_iff.mp h3).1 ?_);have S:∀b,b≠T->(s.heap.update T (Obj.mapFields (·.setIfInBounds 3 Value.none))).get? b=s.heap.get? b:=λb hb=>Heap.get?_update_other _ _ (Ne.symm hb);have B:∀b o,s.heap.get? b=some o->(∀vs,o.data≠ .fields vs)->b≠T:=λb o hb Y q=>by
  rw[q,hT] at hb;injection hb with hb;subst hb;exact Y ts Z
 refine wpAny_newEntryW aj (hl.of_keeps λb o hb Y=>⟨o,(S b (B b o hb Y)).trans hb,rfl⟩) hf ((S e (Ne.symm az)).trans he)
  (λb o ab=>(S b λq=>by rw[q,as] at ab;cases ab).trans (ad b o ab)) ar hd (Array.getElem?_eq_some_iff.mp h1).1 h0
  λh' z9=>(by obtain⟨x1,x2,x3,x4⟩:=z9;exact h h' ⟨x1,x2,x3,λb o hb Y=>x4 b o ((S b (B b o hb Y)).trans hb) Y⟩)
theorem rZ {α:Type} {l:List Env} {e:Addr} {aj a0:Value} {ai:String} {env:Env} {Q:α->Shared->Prop}
 (as:base.StaysIn s.heap) (hl:s.heap.FunFrames base l) (ht:s.heap.TracedAtW base e aj a0 fl)
 (h:∀h' fl',base.StaysIn h'->h'.FunFrames base l->h'.TracedAtW base e aj a0 fl'->s.heap.UpToSlots h'->EE (.ref e) { s with heap:=h' }):
 wpAny M A (PySem.passOn ai (.ref e) env:Sem α) Q EE s:=by
 obtain⟨oe,vs,T,oT,ts,he,ar,hd,h1,ad,af,hT,Y,h3⟩:=ht;have Z:3<ts.size:=(Array.getElem?_eq_some_iff.mp h3).1;have L:∀b,b≠T->(s.heap.update T (Obj.mapFields (·.setIfInBounds 3 (env.frame.elim Value.none λf=>rawInt f)))).get? b=s.heap.get? b:=
  λb hb=>Heap.get?_update_other _ _ (Ne.symm hb)
 have B:∀b o,s.heap.get? b=some o->(∀vs,o.data≠ .fields vs)->b≠T:=λb o hb S q=>by
  rw[q,hT] at hb;injection hb with hb;subst hb;exact S ts Y
 unfold PySem.passOn PySem.setFlight;refine wax (wpAny_field he hd h1 ?_);rw[ycw (show ¬(Value.ref T==Value.none)=true from by simp)];refine wax (wax (wpAny_field he hd h1 ?_));rw[ycv (show(Value.ref T !=Value.none)=true from by simp)];refine wpAny_setField hT Y Z (wpAny_throw (h _ (env.frame.elim Value.none λf=>rawInt f) (λb o ab=>(L b λq=>by rw[q,ad] at ab;cases ab).trans (as b o ab))
  (hl.of_keeps λb o hb S=>⟨o,(L b (B b o hb S)).trans hb,rfl⟩) ?_ λb o hb S=>⟨o.slots,(L b (B b o hb S)).trans hb⟩))
 exact⟨oe,vs,T,_,_,(L e (Ne.symm af)).trans he,ar,hd,h1,ad,af,Heap.get?_update_self _ hT (Obj.isFreed_of_fields (Obj.data_mapFields Y _)),Obj.data_mapFields Y _,by simp[Z]⟩
end
section
variable {N:List Str} {qual:Str} {f:Addr} {cdv:Value} {outer:List Env} {E:XK}
theorem LJ (Y:(A.deeper (envOfC qual scope s.heap.objs.size f cdv)).frames=some (envOfC qual scope s.heap.objs.size f cdv::outer)) (hl:s3.heap.FunFrames B (envOfC qual scope s.heap.objs.size f cdv::outer))
 (ab:∀b∈cU (envOfC qual scope s.heap.objs.size f cdv::outer),H' b=none/\∃o,s3.heap.get? b=some o/\∀vs,o.data≠ .fields vs) (F:Fl P w (cU (envOfC qual scope s.heap.objs.size f cdv::outer)) H H' s.heap s3.heap a T (.ref C) fl) (os:s3.os=s.os) (bare:AllBare s3.gens) (hw:E (.ref C) none H'):
 (bn (dy P w) P w K mg base N qual scope f cdv A outer s H E).xe (.ref a) s3:=by
 obtain⟨a0,tr⟩:=F.traced;show wpAny _ _ (leaving (envOfC qual scope s.heap.objs.size f cdv) (.ref a)) _ _ s3;refine pc (base:=hideAll s3.heap (a::T::cU (envOfC qual scope s.heap.objs.size f cdv::outer))) (outer:=outer) (L:=s.heap.objs.size) Y (cM hl λb z=> .tail _ (.tail _ z)) rfl tr (λb o q=>of_hideAll _ q) (hideAll_none _ (.head _)) λh3 left=>?_;obtain⟨k1,_,k3,k4⟩:=left;obtain⟨T',S⟩:=F.move ab k1 k3 k4;have nL:∀b o,s.heap.get? b=some o->b∉cU outer->b∉cU (envOfC qual scope s.heap.objs.size f cdv::outer):=λb o q hb z=>by
  rcases mem_cons.mp (show b∈s.heap.objs.size::cU outer from z) with z | z
  ·exact absurd (ybv q) (by rw[z];exact lt_irrefl _)
  ·exact hb z
 exact⟨a,T',C,H',rfl,os,bare,⟨⟨λb o q n hb Z=>S.un.keep b o q n (nL b o q hb) Z,λb o q n hb Z=>S.un.slot b o q n (ybx _ hb) Z,S.un.free,S.un.there,S.un.tups,S.un.frzs,S.un.tbls⟩,S.hok,S.na,S.nT,S.ha,S.hT,S.tr⟩,hw⟩
theorem IF (I:aw (bn (dy P w) P w K mg base N qual scope f cdv A outer s H E) π σ H' s3) (na:s.heap.get? a=none) (Y:s.heap.get? T=none) (ha:H' a=none) (Z:H' T=none)
 (tr:∃oe vs L S a0,s3.heap.get? a=some oe/\(oe.cls=c/\vs[0]?=some a0)/\oe.data=.fields vs/\vs[1]?=some (.ref T)/\T≠a/\s3.heap.get? T=some L/\L.data=.fields S/\S[3]?=some fl):Fl P w (cU (envOfC qual scope s.heap.objs.size f cdv::outer)) H H' s.heap s3.heap a T c fl:=
 ⟨⟨λb o q n hb B=>I.base.keep b o q n (λz=>hb (ybx _ z)) B,λb o q n hb B=>by
    rcases mem_cons.mp (show b∈s.heap.objs.size::cU outer from hb) with z | z
    ·exact absurd (ybv q) (by rw[z];exact lt_irrefl _)
    ·exact I.base.slot b o q n z B,I.base.free,I.base.there,I.base.tups,I.base.frzs,I.base.tbls⟩,I.hok,na,Y,ha,Z,tr⟩
theorem yV {σ:St} {H1 H2:Hp} {s':Shared} {m:yew} {E':XK} {e:Value} {use:Option (Value->Sem Unit)} {aj:Value} {B:Env} (I2:aw (bn (dy P w) P w K mg base N qual scope f cdv A outer s H E) π σ H2 s2) (S:s2.heap.objs.size<=C)
 (IX:aw (bn (dy P w) P w K mg base N qual scope f cdv A outer s H E) π σ H1 s1) (ns:s1.heap.Ns C m) (hC:H1 C=none) (hx:dy P w (envOfC qual scope s.heap.objs.size f cdv::outer) H1 s1 E' e s') (hE:∀C H1,aE H H1->E' (.ref C) none H1->E (.ref C) none H1) (a3:B.frame=(envOfC qual scope s.heap.objs.size f cdv).frame):
 notedBy (model P w) (A.deeper (envOfC qual scope s.heap.objs.size f cdv)) B (λx ar=>compPost (model P w) (A.deeper (envOfC qual scope s.heap.objs.size f cdv)) (bn (dy P w) P w K mg base N qual scope f cdv A outer s H E).xe use Q aj C (.error x) ar) e s':=by
 obtain⟨a,T,D,H',rfl,os,bare,F,hw⟩:=hx;have I':=F.inv IX os bare;obtain⟨a0,tr⟩:=F.traced;have ad:noteFrame (.ref a) B=noteFrame (.ref a) (envOfC qual scope s.heap.objs.size f cdv):=by unfold PySem.noteFrame PySem.frameOf;rw[a3]
 show wpAny _ _ (noteFrame (.ref a) B) _ _ s';rw[ad];refine wpAny_noteFrame_onW (base:=hideAll s'.heap (a::T::cU (envOfC qual scope s.heap.objs.size f cdv::outer))) (outer:=outer) (L:=s.heap.objs.size) I'.ok.frames (cM I'.stack λb z=> .tail _ (.tail _ z)) rfl tr (λb o q=>of_hideAll _ q) (hideAll_none _ (.head _)) λh3 ab=>?_;obtain⟨k1,_,k3,k4⟩:=ab;obtain⟨T',Y⟩:=F.move I'.frmem k1 k3 k4;have I3:aw (bn (dy P w) P w K mg base N qual scope f cdv A outer s H E) π σ H' { s' with heap:=h3 }:=Y.inv IX os bare;have nf:C∉cU (envOfC qual scope s.heap.objs.size f cdv::outer):=λhb=>by
  rcases mem_cons.mp (I2.stkSub C hb) with z | z
  ·exact absurd I2.lt (by rw[←z];exact not_lt.mpr S)
  ·exact I2.nofs S z
 obtain⟨oC,es,ep,eC,hd,r⟩:=ns;have af:H' C=none:=Y.un.free C oC eC hC (by simp);refine⟨m,⟨oC,es,ep,Y.un.keep C oC eC hC nf (by simp),hd,r⟩,λh' sb as _=>?_⟩;have az:C≠(bn (dy P w) P w K mg base N qual scope f cdv A outer s H E).env.locals:=λz=>absurd I2.lt (not_lt.mpr (z▸S));have I6:aw (bn (dy P w) P w K mg base N qual scope f cdv A outer s H E) π σ H' { s' with heap:=h' }:=I3.turned (t':=s'.toks) (λb o hb e=>(sb.2 b hb).trans e) af az (.inr (ycy I2.sz S)) (λx c e z=>by
  obtain⟨v,o,ho,_⟩:=I2.cell x c e;exact absurd (ybv ho) (not_lt.mpr (z▸S))) λp hp z=>absurd (ybv (I2.pin p hp).1) (not_lt.mpr (z▸S))
 have Z:∀b,s1.heap.get? b=none->s.heap.get? b=none:=λb q=>by
  cases z:s.heap.get? b with
  | none=>rfl
  | some o=>
    obtain⟨o',e'⟩:=IX.base.there b o z (λy=>nomatch y);rw[q] at e';cases e'
 have nC:∀b,s1.heap.get? b=none->b≠C:=λb q z=>by rw[z,eC] at q;cases q
 have tl:aE H H':=⟨λb xs q=>F.un.tups b xs (IX.base.tups b xs q),λb o u q=>F.un.frzs b o _ (IX.base.frzs b o _ q)⟩;obtain⟨oe,vs,oT,ts,a1,e1,e2,e3,e4,e5,e6,e7,e8⟩:=Y.tr;have F6:=IF (c:= .ref D) (fl:=rawInt s.heap.objs.size) I6 (Z a Y.na) (Z T' Y.nT) Y.ha Y.hT ⟨oe,vs,oT,ts,a1,(sb.2 a (nC a Y.na)).trans e1,e2,e3,e4,e5,(sb.2 T' (nC T' Y.nT)).trans e6,e7,e8⟩;obtain⟨a2,ai⟩:=F6.traced;refine rZ (base:=hideAll h' (a::T'::cU (envOfC qual scope s.heap.objs.size f cdv::outer))) (l:=envOfC qual scope s.heap.objs.size f cdv::outer) (λb o q=>of_hideAll _ q) (cM I6.stack λb z=> .tail _ (.tail _ z)) ai λh8 fl' k1 k2 k3 k4=>?_;obtain⟨T8,F8⟩:=F6.move I6.frmem k1 k3 k4;exact LJ (s3:={ s' with heap:=h8 }) I'.ok.frames k2 (λb hb=>let ⟨n,o,e,d⟩:=I6.frmem b hb;let ⟨sl,e2⟩:=k4 b o e d;⟨n,_,e2,d⟩) F8 (os.trans IX.os) bare (hE D H' tl hw)
end
section
variable {R:Result->Shared->Prop}
theorem r9 {elt iter:Expr} {ifs:List Expr} {it B:Value} {env:Env} (I:Nat->Shared->Prop)
 (L:∀n s,I n s->wpAny (model prog w) A (pyNext it) (λr Y=>match r with
   | none=>R (.ok .next) Y
   | some v=>wpAny (model prog w) A (letOwnedTupleGo tg it v) (λ_ s2=>wpAny (model prog w) A (assign tg env v) (λ_ s3=>wpAny (model prog w) A (Cz ifs env) (λok S=>
      if ok=true then wpAny (model prog w) A (eval elt env) (λx s5=>wpAny (model prog w) A (call (.builtin "list.append") [B,x]) (λ_ Z=>∃m,m<n/\I m Z) nox s5) (notedBy (model prog w) A env λe s'=>R (.error e) s') S
      else ∃m,m<n/\I m S) nox s3) nox s2) nox Y) nox s) (n:Nat) (h:I n s):
 codeAny (model prog w) A (.compLoop (.ListComp elt [⟨tg,iter,ifs,0⟩] scope pos) 0 it B env) R s:=by
 refine codeAny_loop rfl I (λn s hI=>?_) n h;show wpAny _ A ((compTurn (.ListComp elt [⟨tg,iter,ifs,0⟩] scope pos) 0 it B env).onRaise (λx=>do noteFrame x env;theTreesLotGoes x)) _ _ s;refine wpAny_noted ?_;rw[compTurn_list];refine wax (wpAny_standAt (wax (wpAny_mono (L n s hI) (λr Y h1=>?_) λ_ _ z=>z.elim)));cases r with
 | none=>exact wpAny_pure h1
 | some v=>
   refine wax (wpAny_mono h1 (λ_ s2 h2=>wax (wpAny_mono h2 (λ_ s3 h3=>wax (wpAny_mono h3 (λok S h4=>?_) λ_ _ z=>z.elim)) λ_ _ z=>z.elim)) λ_ _ z=>z.elim);cases ok with
   | false=>exact wpAny_pure ⟨rfl,h4⟩
   | true=>
     refine wax (wax (wpAny_mono h4 (λx s5 h5=>?_) λ_ _ z=>z));exact wax (wpAny_mono h5 (λ_ Z h6=>wpAny_pure (wpAny_pure ⟨rfl,h6⟩)) λ_ _ z=>z.elim)
end
noncomputable def vT (X:Cx) (N:List Str) (scope:Scope) (C:Addr) (fp:List Addr) (s₀:Shared) (H₀:Hp) (E:XK):Cx:={ fJ X N scope C fp s₀ H₀ with xe:=λe s'=>∃π σ H1 s1,aw (fJ X N scope C fp s₀ H₀) π σ H1 s1/\dy X.prog X.w X.stack H1 s1 E e s' }
section
variable {H2:Hp} {s2:Shared} {N:List Str} {fv:List (Option Nat)} {fp:List Addr} {tg elt iter:Expr} {ifs:List Expr} {J:It} {it:Addr} {tn:Nat->Heap->Prop} {g:WG} {tt:WT} {te:WE} {ws:List W} {Cd:Gp->Prop} {τ:bV} {G:Gp} {q:List W->Gp->Prop}
theorem aw.toY {s0:Shared} {H0 H1:Hp} {E:XK} (I:aw (fJ X N scope C fp s0 H0) π σ H1 s1):aw (vT X N scope C fp s0 H0 E) π σ H1 s1:=by
 obtain⟨⟨⟩⟩:=I;constructor<;> first | assumption | (constructor<;> assumption)
theorem aw.ofY {s0:Shared} {H0 H1:Hp} {E:XK} (I:aw (vT X N scope C fp s0 H0 E) π σ H1 s1):aw (fJ X N scope C fp s0 H0) π σ H1 s1:=by
 obtain⟨⟨⟩⟩:=I;constructor<;> first | assumption | (constructor<;> assumption)
theorem iU (I:aw X π σ H2 s2) (S:eA X scope N fv) (hc:X.calm=true) (T:km X.prog X.w X.K tg J fp it tn) (st:tn 0 s2.heap) (hf:∀b∈fp,iX X π H2 b)
 (hg:∀C,QG (fJ X N scope C fp s2 H2) tg g) (c5:∀C,AB (fJ X N scope C fp s2 H2) ifs tt) (b9:∀C,QE (vT X N scope C fp s2 H2 E1) elt te)
 (b3:sS X.K J ws Cd H2) (hs:aV X.K H2 τ σ) (gr:aB X.K H2 G) (hw:bw Cd g tt te ws (dN fv τ) G [] q) {RR:Value->Addr->Result->Shared->Prop} {E:yey}
 (cc:∀D C s',sU X π σ H2 s2 G q D C s'->RR (.ref D) C (.ok .next) s')
 (c2:∀D C e s' H1 s1,s2.heap.objs.size<=C->aw X π σ H1 s1->(∃m,s1.heap.Ns C m)->H1 C=none->dy X.prog X.w X.stack H1 s1 E1 e s'->notedBy (model X.prog X.w) X.A (fJ X N scope C fp s2 H2).env (λx cd=>RR (.ref D) C (.error x) cd) e s'):
 wpAny (model X.prog X.w) X.A (newList []) (λB s3=>wpAny (model X.prog X.w) X.A (newFunctionEnv scope X.env.globals (fZ X.env scope.names []) [] X.env.qual none .none (some X.env)) (λa5 s4=>
  codeAny (model X.prog X.w) X.A (.compStart (.ListComp elt [⟨tg,iter,ifs,0⟩] scope pos) 0 (.ref it) B { a5 with scope:=relabel scope X.env }) (RR B a5.locals) s4) E s3) E s2:=by
 have be:∀b∈fp,b<s2.heap.objs.size:=λb hb=>let ⟨o,e,_⟩:=T.obj _ _ st b hb;ybv e;refine wpAny_newObj_type (wpAny_newFunctionEnv S.nocell (by intro y hy;simp at hy) (λh1 aj ad=>?_) S.kind);dsimp only at aj ad ⊢;generalize hP:s2.heap.push { cls:= .type "list",dict:=none,data:= .seq ([]:yez).toArray }=P at aj ad ⊢;generalize hD:s2.heap.objs.size=D at*;have hC:P.objs.size=D+1:=by rw[←hP,Heap.size_push,hD]
 generalize hCC:P.objs.size=C at*;have a3:D≠C:=by rw[hC];exact ne_of_lt (lt_succ_self _)
 have Y:D<=C:=by rw[hC];exact Nat.le_succ _
 have bd:∀b o,s2.heap.get? b=some o->h1.get? b=some o:=λb o e=>ad.extBut b o (ne_of_lt (ydw (ybv e) (by rw[hD];exact Y))) (ybz _ (hP▸ybz _ e));have b5:h1.PlainList D #[]:=⟨0,ad.extBut _ _ a3 (ybz _ (by rw[←hP,←hD];exact ybw _ rfl))⟩;have look:∀x c,(fZ X.env scope.names []).lookup x=some c->X.env.cells.lookup x=some c:=dH (S.cells I) (λx c e=>by simp at e);have cD:∀x c,(fZ X.env scope.names []).lookup x=some c->c≠D:=λx c e z=>by
  obtain⟨v,o,ho,_⟩:=I.cell x c (look x c e);exact absurd (ybv ho) (by rw[z,hD];exact lt_irrefl _)
 have sD:D∉cU X.stack:=λhb=>by
  rcases mem_cons.mp (I.stkSub D hb) with z | z
  ·exact absurd I.lt (by rw[←z,hD];exact lt_irrefl _)
  ·exact I.nofs (by rw[hD];exact ycx _) z
 have fD:D∉fp:=λhb=>absurd (be D hb) (lt_irrefl _);have a6:∀{H1:Hp} {ps:List (Addr×Obj)},(∀b∈fp,H1 b=none)->(∀p∈ps,p.1∉fp)->∀b∈fp,iX (fJ X N scope C fp s2 H2) ps H1 b:=λ{H1 ps} hn hp b hb=>by
  refine⟨hn b hb,ne_of_lt (ydw (be b hb) Y),λhx=>?_,.inl hb,λx c e=>(hf b hb).2.2.2.2.1 x c (look x c e),λp cs z=>hp p cs (z▸hb)⟩;rcases mem_cons.mp (I.stkSub b hx) with z | z
  ·exact(hf b hb).2.1 z
  ·exact(hf b hb).2.2.1 z
 have J0:aw (fJ X N scope C fp s2 H2) [] (dN fv σ) H2 { s2 with heap:=h1,toks:=s2.toks+([]:List (Str×Value)).length }:=vi I S hf (by rw[hD];exact be) bd (by rw[hD];exact Y) aj;have a4:codeAny (model X.prog X.w) X.A (.compLoop (.ListComp elt [⟨tg,iter,ifs,0⟩] scope pos) 0 (.ref it) (.ref D) (fJ X N scope C fp s2 H2).env) (RR (.ref D) C) { s2 with heap:=h1,toks:=s2.toks+([]:List (Str×Value)).length }:=by
  refine r9 (λn s=>∃i ai H1 as G1 B vs Z,Hr (fJ X N scope C fp s2 H2) fp tn ws H2 D (λl as G1 B=>bw Cd g tt te l as G1 B q) n s i ai H1 as G1 B vs Z) ?_ ws.length
   ⟨0,_,H2,_,G,[],[],[],by simp,zero_le _,J0,T.keep _ _ _ st λb _ o e=>bd b o e,λb hb=>(hf b hb).1,I.hok.fresh (by rw[hD];exact ycx _),b5,.nil,.nil,aE.refl _,xp hs,gr,by simpa using hw,by simp⟩
  rintro n s ⟨i,ai,H1,as,G1,B,vs,Z,rfl,hi,J1,bl,b2,d1,b8,a0,ar,t1,s1,g1,q1,a2⟩;obtain⟨kk,eD⟩:=b8;have b4:aw (fJ X N scope C fp s2 H2) [(D,{ cls:= .type "list",data:= .seq Z.toArray kk })] ai H1 s:=J1.pins_of λp hp=>by
   have e:=mem_singleton.mp hp;subst e;exact⟨eD,d1,a3,sD,λv z=>by cases z⟩
  have a7:∀p∈[((D,{ cls:= .type "list",data:= .seq Z.toArray kk }):Addr×Obj)],p.1∉fp:=λp hp=>by
   have e:=mem_singleton.mp hp;subst e;exact fD
  by_cases hlt:i<ws.length
  ·have ed:ws.drop i=ws[i]::ws.drop (i+1):=drop_eq_getElem_cons hlt;rw[ed] at q1;obtain⟨c1,q1⟩:=q1;obtain⟨go,yl⟩:=b3.go i ws[i] H1 G1 t1 g1 c1 (ycz hlt);refine bE (T.item (fJ X N scope C fp s2 H2) rfl rfl rfl hc i _ s ai H1 nox b4 (a6 b2 a7) bl go) λr s4 z9=>?_;obtain⟨u,hr,h4⟩:=z9;subst hr;refine bE h4 λ_ s5 z9=>?_;obtain⟨x,H5,I5,r5,y5,az,c0⟩:=z9;obtain⟨tx,rx,gx⟩:=yl x H5 y5;have ca:=I5.pinned (a6 c0 a7) (T.obj _ _ az);refine bE (hg C _ s5 ai H5 x u (λab H6=>∃L G6,aE H5 H6/\aV X.K H6 L ab/\aB X.K H6 G6/\tt L G6 λb G3=>if b=true then te L G3 λv G4=>B.length+1<=100000/\bw Cd g tt te (ws.drop (i+1)) L G4 (B++[v]) q else bw Cd g tt te (ws.drop (i+1)) L G3 B q) ca r5
    ⟨ws[i],as,G1,_,rx,s1.mono tx,gx,q1,λab H6 L G6 t6 s6 g6 q6=>⟨L,G6,t6,s6,g6,q6⟩⟩) λ_ s6 z9=>?_;obtain⟨ab,H6,I6,L,G6,t6,a1,g6,q6⟩:=z9
   refine bE (c5 C _ s6 ab H6 (λb H7=>∃G7,aE H6 H7/\aB X.K H7 G7/\(if b=true then te L G7 λv G4=>B.length+1<=100000/\bw Cd g tt te (ws.drop (i+1)) L G4 (B++[v]) q else bw Cd g tt te (ws.drop (i+1)) L G7 B q)) I6
    ⟨L,G6,_,a1,g6,q6,λb H7 G7 t7 g7 q7=>⟨G7,t7,g7,q7⟩⟩) λok s7 z9=>?_;obtain⟨H7,I7,G7,t7,g7,q7⟩:=z9
   have bi:aE H1 H7:=(tx.trans t6).trans t7
   -- what the π keep up to a later state
   have af:∀{bz:St} {H8:Hp} {s8:Shared},aw (fJ X N scope C fp s2 H2) ([(D,{ cls:= .type "list",data:= .seq Z.toArray kk })]++jn fp s5.heap) bz H8 s8->tn (i+1) s8.heap/\(∀b∈fp,H8 b=none)/\H8 D=none/\s8.heap.get? D=some { cls:= .type "list",data:= .seq Z.toArray kk }/\∀b∈fp,∃o,s8.heap.get? b=some o:=λ{bz H8 s8} I8=>by
    refine⟨T.keep _ _ _ az λb hb o e=>(I8.pin (b,o) (yex _ (yex _ (dq hb e)))).1,λb hb=>?_,(I8.pin (D,_) (yex _ (mem_append_left _ yby))).2.1,(I8.pin (D,_) (yex _ (mem_append_left _ yby))).1,λb hb=>?_⟩
    ·obtain⟨o,e,_⟩:=T.obj _ _ az b hb;exact(I8.pin (b,o) (yex _ (yex _ (dq hb e)))).2.1
    ·obtain⟨o,e,_⟩:=T.obj _ _ az b hb;exact⟨o,(I8.pin (b,o) (yex _ (yex _ (dq hb e)))).1⟩
   cases ok with
   | false=>
     rw[ycw ydx] at q7 ⊢;obtain⟨k1,k2,k3,k4,_⟩:=af I7;exact⟨ws.length- (i+1),by lia,i+1,ab,H7,L,G7,B,vs,Z,rfl,hlt,I7.pins_of λp hp=>absurd hp (by simp),k1,k2,k3,⟨kk,k4⟩,a0,ar.mono bi,t1.trans bi,a1.mono t7,g7,q7,a2⟩
   | true=>
     rw[ycv rfl] at q7 ⊢;refine wpAny_mono (b9 C _ s7 ab H7 (λv H8=>∃w8 G8,aE H7 H8/\bO X.K H8 w8 v/\aB X.K H8 G8/\B.length+1<=100000/\bw Cd g tt te (ws.drop (i+1)) L G8 (B++[w8]) q) (aw.toY I7)
      ⟨L,G7,_,a1.mono t7,g7,q7,λv H8 w8 G8 t8 r8 g8 q8=>⟨w8,G8,t8,r8,g8,q8⟩⟩) (λu8 s8 h8=>?_) λe1 s9 z9=>(by obtain⟨p9,c6,H9,c3,J9,c4⟩:=z9;exact c2 D C e1 s9 H9 c3 Y (I.call' (ch:=fp) J9.os J9.base J9.hok J9.bare λb hb=>⟨(hf b hb).2.2.2.1,(hf b hb).2.1,λx c e=>(hf b hb).2.2.2.2.1 x c e,λp hp=>(hf b hb).2.2.2.2.2 p hp⟩) (let ⟨m,hn,_⟩:=J9.loc;⟨m,hn⟩) J9.free c4)
     obtain⟨v8,H8,I8,co,w8,G8,t8,r8,g8,cn,q8⟩:=h8
     replace I8:=aw.ofY I8
     obtain⟨k1,k2,k3,k4,k5⟩:=af I8;have bj:aE H1 H8:=bi.trans t8;refine wpAny_list_append_plain ⟨kk,k4⟩ (λh9 cp b6=>?_) (by rw[size_toArray,←a0.length,←ar.length];exact bA a2);have I9:aw (fJ X N scope C fp s2 H2) [] ab H8 { s8 with heap:=h9 }:=(I8.pins_of (pins':=[]) λp hp=>absurd hp (by simp)).turned (t':=s8.toks) (λb o hb e=>(b6.2 b hb).trans e) k3 a3 (.inr (by show s2.heap.objs.size<=D;rw[hD];exact ycx _)) (λx c e=>cD x c e) λp hp=>absurd (show p∈([]:List (Addr×Obj)) from hp) (by simp);refine⟨ws.length- (i+1),by lia,i+1,ab,H8,L,G8,B++[w8],vs++[v8],Z++[u8],rfl,hlt,I9,T.keep _ _ _ k1 λb hb o e=>(b6.2 b (λz=>fD (z▸hb))).trans e,k2,k3,by simpa using cp,a0.append (.cons co .nil),(ar.mono bj).append (.cons r8 .nil),t1.trans bj,(a1.mono t7).mono t8,g8,q8,by rw[length_append];exact cn⟩
  ·have e:i=ws.length:=by lia
   subst e;rw[List.drop_length] at q1;refine bE (T.done (fJ X N scope C fp s2 H2) rfl rfl rfl hc _ _ s ai H1 nox b4 (a6 b2 a7) bl (b3.stop _ H1 G1 t1 g1 q1.1 (ycx _))) λr s4 z9=>?_;obtain⟨hr,I4⟩:=z9;subst hr;have b7:=(I4.pin (D,_) (yex _ yby)).1;have zl:vs.length<=sizeLine:=by rw[←ar.length];exact bA a2
   have cw:∀b o,s2.heap.get? b=some o->b≠D:=λb o e=>by
    have:=ybv e;rw[hD] at this;exact ne_of_lt this
   refine cc D C s4 ⟨upd H1 D (.lst vs),G1,B,let ⟨m,hn,_⟩:=I4.loc;⟨m,hn⟩,?_,?_,by rw[hD];exact Y,t1.trans (aE.new d1 _),?_,gr.fresh (I.hok.fresh (by rw[hD];exact ycx _)),g1.fresh d1,q1.2⟩
   ·refine I.call' (ch:=fp) I4.os ⟨λb o e n hb hx=>I4.base.keep b o e n hb hx,λb o e n hb hx=>I4.base.slot b o e n hb hx,λb o e n hx=>?_,λb o e hx=>I4.base.there b o e hx,λb xs e=>?_,λb o u e=>?_,λb ps e=>?_⟩ ?_ I4.bare λb hb=>⟨(hf b hb).2.2.2.1,(hf b hb).2.1,λx c e=>(hf b hb).2.2.2.2.1 x c e,λp hp=>(hf b hb).2.2.2.2.2 p hp⟩
    ·rw[ax (cw b o e)];exact I4.base.free b o e n hx
    ·rw[ax (aU (I4.base.tups b xs e) d1)];exact I4.base.tups b xs e
    ·rw[ax (aU (I4.base.frzs b o u e) d1)];exact I4.base.frzs b o u e
    ·obtain⟨b1,e'⟩:=I4.base.tbls b ps e;exact⟨b1,by rw[ax (aU e' d1)];exact e'⟩
    ·intro b u e
     by_cases hbD:b=D
     ·subst hbD;rw[aY] at e;cases e;exact⟨zl,Z,kk,a0,b7⟩
     ·rw[ax hbD] at e;exact(I4.hok b u e).stay (λc v _ q=>q) (λc q=>by rw[ax (aU q d1)];exact q) λc xs q=>by rw[ax (aU q d1)];exact q
   ·rw[ax (Ne.symm a3)];exact I4.free
   ·exact(g1.upd (aE.new d1 _) (g1.fresh d1)).track aY (ar.mono (aE.new d1 _)) a2
 exact codeAny_compStart_list a4 (T.self _ 0 _ _ _ (T.keep _ _ _ st λb _ o e=>bd b o e) a4)
end
section
variable {N':List Str} {qual:Str} {sc:Scope} {f:Addr} {cdv:Value} {outer:List Env} {s0:Shared} {H0:Hp} {E:XK} {N:List Str} {fv:List (Option Nat)} {tg elt iter:Expr} {ifs:List Expr} {g:WG} {tt:WT} {te:WE}
abbrev zR (K:yav) (e:WX):XK:=λc _ H1=>∃G1,aB K H1 G1/\e c G1
theorem yW {wi:WI} {e:WX} (hE:∀c H1 L,aE H0 H1->aB K H1 L->e c L->E c none H1) (S:eA (bn (dy P w) P w K mg base N' qual sc f cdv A outer s0 H0 E) scope N fv) (hi:QI (bn (dy P w) P w K mg base N' qual sc f cdv A outer s0 H0 E) tg iter wi)
 (hg:∀C fp s2 H2,QG (fJ (bn (dy P w) P w K mg base N' qual sc f cdv A outer s0 H0 E) N scope C fp s2 H2) tg g) (ar:∀C fp s2 H2,AB (fJ (bn (dy P w) P w K mg base N' qual sc f cdv A outer s0 H0 E) N scope C fp s2 H2) ifs tt) (ad:∀C fp s2 H2,QE (vT (bn (dy P w) P w K mg base N' qual sc f cdv A outer s0 H0 E) N scope C fp s2 H2 (zR K e)) elt te)
 (hs:∀x,foldedSetIterable iter (envOfC qual sc s0.heap.objs.size f cdv) x=pure x:=by intro _;rfl):QE (bn (dy P w) P w K mg base N' qual sc f cdv A outer s0 H0 E) (.ListComp elt [⟨tg,iter,ifs,0⟩] scope pos) (nY wi fv g tt te):=by
 rintro π s σ H Q I ⟨τ,G,q,ab,hG,ht,hQ⟩;rw[eval_ListComp];refine wpAny_comprehension_free (use:=none) rfl hs (gf (S.cells I)) S.kind S.names (bE (hi π s σ H (λJ H1=>∃ws Cd L,aE H H1/\aB K H1 L/\sS K J ws Cd H1/\bw Cd g tt te ws (dN fv τ) L [] λrs G2=>∀p,L p=none->q (.ref p) (av G2 p (.lst rs))) I
  ⟨τ,G,_,ab,hG,ht,λJ H1 ws C L t1 Z it r1=>⟨ws,C,L,t1,Z,it,r1⟩⟩) λv s1 h1=>bE h1 λa0 s2 h2=>?_)
 obtain⟨it,fp,tn,J,H2,e1,Y,T,as,f2,ws,Cd,L,t1,Z,af,hw⟩:=h2;subst e1;refine iU (RR:=λai C=>compPost (model P w) (bn (dy P w) P w K mg base N' qual sc f cdv A outer s0 H0 E).A (bn (dy P w) P w K mg base N' qual sc f cdv A outer s0 H0 E).xe none (EP (bn (dy P w) P w K mg base N' qual sc f cdv A outer s0 H0 E) π σ Q) ai C) Y S rfl T as f2 (λC=>hg C fp s2 H2) (λC=>ar C fp s2 H2) (λC=>ad C fp s2 H2) af (ab.mono t1) Z hw (λD C s' z9=>?_) λD C e1 s' H1 s1 B IX z9 hC hx=>(by obtain⟨m,ns⟩:=z9;exact yV Y B IX ns hC hx (λC H1 tl z9=>(by obtain⟨L,Z,z⟩:=z9;exact hE _ H1 L tl Z z)) rfl);obtain⟨Hf,Gf,rs,⟨m,hn⟩,I5,hC,B,t5,g5,hD,az,q5⟩:=z9;refine⟨m,hn,λh' sb=>?_⟩;have aj:C≠(bn (dy P w) P w K mg base N' qual sc f cdv A outer s0 H0 E).env.locals:=λz=>absurd Y.lt (not_lt.mpr (z▸B));have I6:aw (bn (dy P w) P w K mg base N' qual sc f cdv A outer s0 H0 E) π σ Hf { s' with heap:=h' }:=I5.turned (t':=s'.toks) (λb o hb e=>(sb.2 b hb).trans e) hC aj (.inr (ycy Y.sz B)) (λx c e z=>by
  obtain⟨v,o,ho,_⟩:=Y.cell x c e;exact absurd (ybv ho) (not_lt.mpr (z▸B))) λp hp z=>absurd (ybv (Y.pin p hp).1) (not_lt.mpr (z▸B))
 exact⟨.ref D,Hf,I6,rfl,hQ _ Hf _ _ (t1.trans t5) (.ref D) g5 (q5 D hD)⟩
theorem BN:dr (dy X.prog X.w) (vT X N scope C fp s2 H2 E1) E1:=λπ σ H s e s' I B=>⟨π,σ,H,s,aw.ofY I,B⟩
theorem yX {X:Cx} {fp:List Addr} {H2:Hp} {sp:aX} {dws:List W} {p pos:Pos} {B:Expr} {t:WA} {e:WX} (F:Rx X.prog X.w X.K X.mg X.base x ps k sp dws) (hr:aH k X.A)
 (hg:Gl (vT X N scope C fp s2 H2 (zR X.K e)) x) (ha:QA (vT X N scope C fp s2 H2 (zR X.K e)) (B::es) t) (Z:dbz x:=by decide)
 (he:starEach (B::es) (vT X N scope C fp s2 H2 (zR X.K e)).env=(false,eval B (vT X N scope C fp s2 H2 (zR X.K e)).env)::starEach es (vT X N scope C fp s2 H2 (zR X.K e)).env:=by rfl) (S:(backTo pos (starEach es (vT X N scope C fp s2 H2 (zR X.K e)).env)).any (·.1)=false:=by rfl):
 QE (vT X N scope C fp s2 H2 (zR X.K e)) (.Call (.Name x p) (B::es) [] pos) (lW sp dws t e):=by
 obtain⟨f1,fd,ds,dvs,F1,h2,h3,h4,h5,h6⟩:=F;refine(ja (X:=vT X N scope C fp s2 H2 (zR X.K e)) (E:=zR X.K e) F1 hr hg h2 h3 h4 h5 BN ha Z he S).imp λσ H2 Q h=>?_;obtain⟨τ,G,q,hs,Y,ht,hQ⟩:=h;exact⟨τ,G,_,hs,Y,ht,λvs H1 ws G1 t1 r1 g1 q1=>⟨ws++dws,G1,q,e,r1.append (h6 H1),g1,q1,λv H3 w L t3=>hQ v H3 w L (t1.trans t3),λc d H3 L _ g3 z=>⟨L,g3,z⟩⟩⟩
end
section
variable {H2:Hp} {s2:Shared} {N:List Str} {fv:List (Option Nat)} {fp:List Addr} {tg elt iter:Expr} {ifs:List Expr} {J:It} {it:Addr} {tn:Nat->Heap->Prop} {g:WG} {tt:WT} {te:WE} {ws:List W} {Cd:Gp->Prop} {τ:bV} {G:Gp} {q:List W->Gp->Prop}
theorem jW (I:aw X π σ H2 s2) (S:eA X scope N fv) (hc:X.calm=true) (T:km X.prog X.w X.K tg J fp it tn) (st:tn 0 s2.heap) (hf:∀b∈fp,iX X π H2 b)
 (hg:∀C,QG (fJ X N scope C fp s2 H2) tg g) (ad:∀C,AB (fJ X N scope C fp s2 H2) ifs tt) (Y:∀C,QE (fJ X N scope C fp s2 H2) elt te)
 (ab:sS X.K J ws Cd H2) (hs:aV X.K H2 τ σ) (gr:aB X.K H2 G) (hw:bw Cd g tt te ws (dN fv τ) G [] q) {RR:Value->Addr->Result->Shared->Prop} {E:yey}
 (Z:∀D C s',sU X π σ H2 s2 G q D C s'->RR (.ref D) C (.ok .next) s'):
 wpAny (model X.prog X.w) X.A (newList []) (λL s3=>wpAny (model X.prog X.w) X.A (newFunctionEnv scope X.env.globals (fZ X.env scope.names []) [] X.env.qual none .none (some X.env)) (λB s4=>
  codeAny (model X.prog X.w) X.A (.compStart (.ListComp elt [⟨tg,iter,ifs,0⟩] scope pos) 0 (.ref it) L { B with scope:=relabel scope X.env }) (RR L B.locals) s4) E s3) E s2:=
 iU (E1:=λ_ _ _=>False) I S hc T st hf hg ad (λC π s σ H Q I h=>wpAny_mono (Y C π s σ H Q I.ofY h) (λv s' z9=>(by obtain⟨u,H1,I1,r,q⟩:=z9;exact ⟨u,H1,I1.toY,r,q⟩)) λ_ _ z=>z.elim) ab hs gr hw Z λD C e s' H1 s1 _ _ _ _ h=>by
  obtain⟨_,_,_,_,_,_,_,_,z⟩:=h;exact z.elim
theorem ul (S:eA X scope N fv) (hc:X.calm=true) (hi:QI X tg iter wi) (hg:∀C fp s2 H2,QG (fJ X N scope C fp s2 H2) tg g) (af:∀C fp s2 H2,AB (fJ X N scope C fp s2 H2) ifs tt) (ab:∀C fp s2 H2,QE (fJ X N scope C fp s2 H2) elt te)
 (hs:∀x,foldedSetIterable iter X.env x=pure x:=by intro _;rfl):QE X (.ListComp elt [⟨tg,iter,ifs,0⟩] scope pos) (nY wi fv g tt te):=by
 rintro π s σ H Q I ⟨τ,G,q,Y,hG,ht,hQ⟩;rw[eval_ListComp];refine wpAny_comprehension_free (use:=none) rfl hs (gf (S.cells I)) S.kind S.names (bE (hi π s σ H (λJ H1=>∃ws Cd L,aE H H1/\aB X.K H1 L/\sS X.K J ws Cd H1/\bw Cd g tt te ws (dN fv τ) L [] λrs G2=>∀p,L p=none->q (.ref p) (av G2 p (.lst rs))) I
  ⟨τ,G,_,Y,hG,ht,λJ H1 ws C L t1 g1 it r1=>⟨ws,C,L,t1,g1,it,r1⟩⟩) λv s1 h1=>bE h1 λas s2 h2=>?_)
 obtain⟨it,fp,tn,J,H2,e,Z,T,aj,f2,ws,Cd,L,t1,g1,ad,hw⟩:=h2;subst e;refine jW (RR:=λai C=>compPost (model X.prog X.w) X.A X.xe none (EP X π σ Q) ai C) Z S hc T aj f2 (λC=>hg C fp s2 H2) (λC=>af C fp s2 H2) (λC=>ab C fp s2 H2) ad (Y.mono t1) g1 hw λD C s' z9=>?_;obtain⟨Hf,Gf,rs,⟨m,hn⟩,I5,hC,B,t5,g5,hD,az,q5⟩:=z9;refine⟨m,hn,λh' sb=>?_⟩;have ar:C≠X.env.locals:=λz=>absurd Z.lt (not_lt.mpr (z▸B));have I6:aw X π σ Hf { s' with heap:=h' }:=I5.turned (t':=s'.toks) (λb o hb e=>(sb.2 b hb).trans e) hC ar (.inr (ycy Z.sz B)) (λx c e z=>by
  obtain⟨v,o,ho,_⟩:=Z.cell x c e;exact absurd (ybv ho) (not_lt.mpr (z▸B))) λp hp z=>absurd (ybv (Z.pin p hp).1) (not_lt.mpr (z▸B))
 exact⟨.ref D,Hf,I6,rfl,hQ _ Hf _ _ (t1.trans t5) (.ref D) g5 (q5 D hD)⟩
theorem BO (i:Nat) {y:Str} {py Y:Pos} {wi:WI} (S:eA X scope N fv) (hc:X.calm=true) (hN:X.N.Nodup) (af:X.N[i]?=some y) (hy:zV X.env.scope y) (hi:QI X tg iter wi) (hg:∀C fp s2 H2,QG (fJ X N scope C fp s2 H2) tg g) (as:∀C fp s2 H2,AB (fJ X N scope C fp s2 H2) ifs tt) (ai:∀C fp s2 H2,QE (fJ X N scope C fp s2 H2) elt te)
 (ad:swapsWith (.ListComp elt [⟨tg,iter,ifs,0⟩] scope pos) (some (.Name y py)) Y.line X.env=pure true:=by rfl) (hs:∀x,foldedSetIterable iter X.env x=pure x:=by intro _;rfl) (a2:X.fn y=true∨X.env.scope.names.lookup y=some .local:=by first | exact .inl rfl | exact .inr rfl | assumption):
 QS X (.Assign [.Name y py] (.ListComp elt [⟨tg,iter,ifs,0⟩] scope pos) Y) (im (nY wi fv g tt te) (bJ i)):=by
 rintro π s σ H D0 I ⟨τ,G,d,Z,hG,ht,l⟩;rw[exec_Assign_Name_used _ _ _ _ ad];refine wax (wpAny_standAt (wax ?_));show wpAny _ _ (do let _ ←comprehension (.ListComp elt [⟨tg,iter,ifs,0⟩] scope pos) scope X.env _ (newList []) false (eval iter X.env) (some (assign (.Name y py) X.env))) _ _ s;refine wax (wpAny_mono (wpAny_comprehension_free (use:=some (assign (.Name y py) X.env)) (Q:=λ_ s'=>SP X π D0 .next s') rfl hs (gf (S.cells I)) S.kind S.names (bE (hi π s σ H (λJ H1=>∃ws Cd G1,aE H H1/\aB X.K H1 G1/\sS X.K J ws Cd H1/\bw Cd g tt te ws (dN fv τ) G1 [] λrs G2=>∀p,G1 p=none->bJ i (.ref p) τ (av G2 p (.lst rs)) d.nx) I
  ⟨τ,G,_,Z,hG,ht,λJ H1 ws C G1 t1 g1 it r1=>⟨ws,C,G1,t1,g1,it,r1⟩⟩) λv s1 h1=>bE h1 λa3 s2 h2=>?_)) (λ_ s' hq=>wpAny_pure (wpAny_pure hq)) λ_ _ e=>e)
 obtain⟨it,fp,tn,J,H2,e,I2,T,a0,f2,ws,Cd,G1,t1,g1,ar,hw⟩:=h2;subst e;refine jW (RR:=λaz C=>compPost (model X.prog X.w) X.A X.xe (some (assign (.Name y py) X.env)) (λ_ s'=>SP X π D0 .next s') az C) I2 S hc T a0 f2 (λC=>hg C fp s2 H2) (λC=>as C fp s2 H2) (λC=>ai C fp s2 H2) ar (Z.mono t1) g1 hw λD C s' z9=>?_;obtain⟨Hf,Gf,rs,⟨m,hn⟩,I5,hC,L,t5,g5,hD,a4,q5⟩:=z9;have ab:C≠X.env.locals:=λz=>absurd I2.lt (not_lt.mpr (z▸L));have B:∀x c,X.env.cells.lookup x=some c->c≠C:=λx c e z=>by
  obtain⟨v,o,ho,_⟩:=I2.cell x c e;exact absurd (ybv ho) (not_lt.mpr (z▸L))
 show wpAny _ _ (assign (.Name y py) X.env (.ref D)) _ _ s';refine wpAny_assign_Name (kD I5 hN af hy (v:= .ref D) rfl (λs6 I6 z9=>?_) a2);obtain⟨a,a1,ha⟩:=z9;have aj:C≠a:=by
  rcases ha with z | z
  ·rw[z];exact ab
  ·exact Ne.symm (B y a z)
 refine⟨m,hn.sameBut a1 aj,λh' sb=>?_⟩;have I7:aw X π (σ.set i (some (.ref D))) Hf { s6 with heap:=h' }:=I6.turned (t':=s6.toks) (λb o hb e=>(sb.2 b hb).trans e) hC ab (.inr (ycy I2.sz L)) B λp hp z=>absurd (ybv (I2.pin p hp).1) (not_lt.mpr (z▸L));exact⟨_,Hf,I7,l.nx _ Hf _ _ (t1.trans t5) ((Z.mono (t1.trans t5)).set (.ref D) i) g5 (q5 D hD)⟩
end
theorem dR (F:bf K x qual st f fd) (hb:∀(cdv:Value) (A:Around) (outer:List Env) (s:Shared) (H:Hp) (E:XK),N.Nodup->aH k (A.deeper (envOfC qual (ae st) s.heap.objs.size f cdv))->∃t,lO (bn wS P w K mg base N qual (ae st) f cdv A outer s H E).nox (aZ st) t/\∀(ws:List W) (G:Gp) (q:WK) (e:WX),sp ws G q e->t {nx:=λ_ B=>∃G0,am G0 B/\q .non G0,rt:=λw B=>∃G0,am G0 B/\q w G0 } (ip N ws) G) (S:ay N ps (ae st):=by walk_at "s") (len:∀ws G q e,sp ws G q e->ws.length=ps.length:=by walk_at "l"):io P w K mg base (k+1) f fd ps sp:=Eb F S len λ_ _ _ _ _ _ hr=>hb _ _ _ _ _ _ S.nd hr
end _L
end
variable {E:PySem.Value->PySem.Shared->Prop} {s:PySem.Shared} {A:PySem.Around} {prog:PySem.Program} {π:List (PySem.Addr×PySem.Obj)} {pos:PySem.Pos} {us:List PySem.Value} {Q:PySem.Value->PySem.Shared->Prop} {x:PySem.Str} {e:PySem.Expr} {a:PySem.Addr} {k:Nat} {fd:PySem.FuncData} {es:List PySem.Expr} {ps:List PySem.Str} {u:PySem.Value} {i:Nat} {st:PySem.Stmt} {bm:List PySem.Value} {scope:PySem.Scope} {body:List PySem.Stmt} {items:Array PySem.Value}
open PySem PySem.Spec PyProof.Rows _L _N
seal QE QT QW QA QS lO QG FV QI QO AB eo FW cV
seal PySem.compareOp PySem.binaryOp PySem.unaryOp
set_option bootstrap.genMatcherCode true
set_option compiler.extract_closed false
namespace Mq
open Lean
def ml (f : List String → MacroM (Syntax × List String)) : Nat → List String → MacroM (Array Syntax × List String)
  | 0, ts => return (#[], ts)
  | k + 1, ts => do
    let (x, ts) ← f ts
    let (a, ts) ← ml f k ts
    return (#[x] ++ a, ts)
def go : Nat → List String → MacroM (Syntax × List String)
  | n + 1, t :: ts => do
    let c := t.front
    let d := (t.drop 1).toString
    let h := mkIdent (← Macro.addMacroScope d.toName)
    let N (k : Name) (a : Array Syntax) : MacroM (Syntax × List String) := return (Syntax.node .none k a, ts)
    if t == "_" then N ``Parser.Term.hole #[mkAtom "_"]
    else if c == '?' then N ``Parser.Term.syntheticHole #[mkAtom "?", if d == "" then mkAtom "_" else h]
    else if c == '.' then N ``Parser.Term.dotIdent #[mkAtom ".", mkIdent d.toName]
    else if c.isDigit then return (Syntax.mkNumLit t, ts)
    else if c == '%' then return (Syntax.mkStrLit d, ts)
    else if c == '@' then return (← `(tactic| walk_at $(Syntax.mkStrLit d)), ts)
    else if c == '(' || c == '|' || c == ';' || c == '<' then
      let (a, ts) ← ml (go n) d.toNat! ts
      let b : TSyntaxArray `tactic := ⟨a.toList.map (⟨·⟩)⟩
      let r : Syntax ← if c == '(' then pure (Syntax.node .none ``Parser.Term.app #[a[0]!, mkNullNode (a.extract 1 a.size)]) else if c == '|' then `(tactic| first $[| $b:tactic]*) else if c == ';' then `(tactic| ($[$b:tactic];*)) else pure (Syntax.node .none ``Parser.Term.anonymousCtor #[mkAtom "⟨", mkNullNode (mkSepArray a (mkAtom ",")), mkAtom "⟩"])
      return (r, ts)
    else if c == ',' then
      let (a, _) ← ml (go n) (d.splitOn ",").length ((d.splitOn ",").map ("@" ++ ·))
      let b : TSyntaxArray `tactic := ⟨a.toList.map (⟨·⟩)⟩
      return (← `(tactic| first | ($[$b:tactic];*) | (rotate_left $(Syntax.mkNumLit (toString a.size)):num; $[$b:tactic];*)), ts)
    else if "^!~#$:=-".any (· == c) then
      let (x, ts) : Syntax × List String ← if c == '-' then pure ((mkIdent d.toName).raw, ts) else go n ts
      let y : TSyntax `term := ⟨x⟩
      let r : Syntax ← if c == '^' then `(by $(⟨x⟩):tactic) else if c == '!' then `(tactic| exact $y) else if c == '~' then `(tactic| refine' $y) else if c == '#' then `(tactic| with_reducible show $y) else if c == ':' then `(tactic| case $h:ident => $(⟨x⟩):tactic) else if c == '-' then `(tactic| subst $y) else if c == '=' then pure (Syntax.node .none ``Parser.Term.namedArgument #[mkAtom "(", mkIdent d.toName, mkAtom ":=", x, mkAtom ")"]) else `(fun $((d.splitOn ",").toArray.map fun (k : String) => (⟨if k == "_" then Syntax.node .none ``Parser.Term.hole #[mkAtom "_"] else (mkIdent k.toName).raw⟩ : TSyntax ``Parser.Term.funBinder))* => $y)
      return (r, ts)
    else
      let x ← Macro.resolveGlobalName t.toName
      return (match x with | (k, []) :: _ => mkCIdent k | _ => mkIdent t.toName, ts)
  | _, _ => Macro.throwUnsupported
def tac (s : String) : MacroM (TSyntax `tactic) := do
  let (x, _) ← go 99 (s.splitOn " ")
  return ⟨x⟩
def sl : List String → MacroM (Array Syntax)
  | [] => return #[]
  | k :: ks => do
    let (x, _) ← go 1 [k]
    return #[← `(Parser.Tactic.simpLemma| $(⟨x⟩):term)] ++ (← sl ks)
def red (s : String) : MacroM (TSyntax `tactic) := do
  let xs := mkSepArray (← sl (s.splitOn " ")) (mkAtom ",")
  `(tactic| simp (config := { failIfUnchanged := false, maxSteps := 2000000 }) only [$(⟨xs⟩),*])
end Mq
open Lean in
local macro_rules | `(tactic| walk_at $s) => match s.getString with
  | "$u" => `(tactic| unfold _L.NoAttr)
  | "$q" => `(tactic| ((try dsimp only); (repeat' apply And.intro) <;> walk_at "m"))
  | "$i" => `(tactic| k_is)
  | "$s" => `(tactic| simp [nW])
  | "$a" => `(tactic| assumption)
  | "$o" => `(tactic| omega)
  | "$k" => `(tactic| decide +kernel)
  | "$d" => `(tactic| decide)
  | "Ix" => do let a ← (Array.range 13).mapM fun i => `(tactic| exact (show (_ : List PySem.Str)[$(quote i)]? = _ from rfl)); `(tactic| first $[| $a:tactic]*)
  | "R" => Mq.red "EH E2 yu CS CT CU yz rV CO CP yr EF HG CH ou sZ EF oo e9 EB vt ip jy K1 nQ sM dE wC Hs w6 kM im xD sY xI xL CF CC xK lW bJ iM FX dW jx D7 wY Hk GS Nv GU Cs GV wX GX wZ Cy sR Hq Ho HE nY Ei kQ nU fO nS Hj re xh sQ Eh Ec xF List.map_cons List.map_nil List.length_cons List.length_nil List.replicate_succ List.replicate_zero List.cons_append List.nil_append List.append_nil List.getElem?_cons_zero List.getElem?_cons_succ List.set_cons_zero List.set_cons_succ Nat.reduceAdd Nat.reduceSub Nat.zero_add Nat.add_zero Nat.sub_self Nat.sub_zero HN HP Lo Option.some.injEq exists_eq_left' yd A5 rP ye A6 Ln decide_eq_true_eq Bool.not_eq_true' decide_eq_false_iff_not true_and Nat.zero_le EQ lh sW xA Ac Gy Int.reduceLE Int.reduceLT Nat.reducePow Nat.reduceLT Nat.reduceLeDiff Int.reduceToNat Int.reducePow Int.reduceNeg and_true or_true true_or and_self A9 ES Ba Bb Bc Be Bf Bh Bi Bj Bk Bl Bm Bn Bo Int.toNat_natCast if_true if_false Bool.false_eq_true Bool.true_eq_false Bool.not_true Bool.not_false eq_self not_true_eq_false not_false_eq_true ET EU EV EW N0 N3 N4 NG N5 N6 N7 N8 N9 Oa Ob Oc Od Oe Of Og Oh Oi Oj Ol Om On Oo Op Oq Os Ot Ou Ov Ow Ox Oy Oz OA mK vK yF OB OC Ie OD Lz OE OF"
  | k => match ("s ! <7 rfl rfl rfl ^ @$k rfl ^ @$k ^ @$k
Qn |3 ! (2 Or.inl rfl ! (2 Or.inr (2 Or.inl rfl ! (2 Or.inr (2 Or.inr rfl
Qo |2 ! (2 Or.inl rfl ! (2 Or.inr rfl
Qv ;2 # (4 QE _ (3 Expr.Name _ _ _ |5 ! (4 cH 0 rfl ^ @Qn ! (4 cH 1 rfl ^ @Qn ! (4 cH 2 rfl ^ @Qn ! (4 cH 3 rfl ^ @Qn ! (4 cH _ ^ @Ix ^ @Qn
Qg ;2 # (4 QG _ _ _ |2 ;2 # (4 QG _ (3 Expr.Name _ _ _ |2 ! (5 xw _ ^ @$k ^ @Ix ^ @Qo ! (5 sO _ ^ @$a ^ @Ix ^ @Qo ;2 ~ (3 D9 rfl ? ,Qgs
Qgs ;2 # (4 FV _ _ _ |2 ! Aq ;2 ~ (3 w9 ? ? ,Qg,Qgs
Qss ;2 # (4 lO _ _ _ |2 ! aM ;2 ~ (3 ac ? ? ,Qs,Qss
Qset ;2 # (4 QS _ (4 Stmt.Assign (3 List.cons (3 Expr.Name _ _ List.nil _ _ _ |1 ~ (6 cr _ ^ @$a ^ @Ix ^ @Qo ?
Qcomp ;2 # (4 QS _ (4 Stmt.Assign (3 List.cons (3 Expr.Name _ _ List.nil (5 Expr.ListComp _ _ _ _ _ _ |1 ~ (11 BO _ (2 lQ ^ |2 ! rfl @$k rfl ^ @$a ^ @Ix ^ @Qo ? $_,_,_,_ ? $_,_,_,_ ? $_,_,_,_ ?
Qid ;2 # (5 QI _ _ _ _ |1 ! (4 mH _ ^ @Ix ^ @Qn
Qs ;2 # (4 QS _ _ _ |15 ;2 ~ (2 bW ? ,Qe ;3 # (4 QS _ (6 Stmt.For _ (5 Expr.Call (4 Expr.Attribute _ _ _ _ _ _ _ _ _ _ ~ (2 jf (6 cK PassesOwn.never rfl ? ? ? ,Qid,Qg,Qss ;3 # (4 QS _ (6 Stmt.For _ (3 Expr.Name %rules _ _ _ _ _ ~ (2 jf (6 cK PassesOwn.never rfl ? ? ? ,Qid,Qg,Qss ;3 # (4 QS _ (4 Stmt.Assign (3 List.cons (4 Expr.Subscript _ _ _ List.nil _ _ _ ~ (4 tW ? ? ? ,Qe,Qe,Qe ;3 # (4 QS _ (4 Stmt.Assign (3 List.cons (4 Expr.Attribute _ _ _ List.nil _ _ _ ~ (3 ED ? ? ,Qe,Qe ;2 ~ (4 a9 ? ? ? ,Qt,Qss,Qss ;2 @Qcomp ,Qi,Qg,Qts,Qe ;2 @Qset ,Qe ;2 ~ (3 Ea ? ? ,Qe,Qg ;2 ~ (6 cK PassesOwn.never rfl ? ? ? ,Qi,Qg,Qss ;2 ~ (4 gK PassesOwn.never ? ? ,Qt,Qss ;2 ~ (6 cK PassesOwn.leaving rfl ? ? ? ,Qi,Qg,Qss ;2 ~ (4 gK PassesOwn.leaving ? ? ,Qt,Qss ;2 ~ (2 bI ? ,Qe ;2 # (4 QS _ (4 Stmt.Raise _ _ _ _ ! xE
Qa ;2 # (4 QA _ _ _ |2 ! ce ;2 ~ (3 aS ? ? ,Qe,Qa
Qi ;2 # (5 QI _ _ _ _ |4 ;2 ~ (4 vo rfl ^ @$a ? ,Qa ;2 ~ (4 xn rfl ^ @$a ? ,Qa ;2 ~ (2 mG ? ,Qe @Qid
Qp ;2 # (4 QO _ _ _ |2 ! Av ;2 ~ (2 Aw ? ,Qe
Qts ;2 # (4 AB _ _ _ |2 ! sT ;2 ~ (2 AC ? ,Qt
Qe ;2 # (4 QE _ _ _ |23 @Qv ! wW ;2 # (4 QE _ (3 Expr.Name _ _ _ ! (3 AF rfl ^ @$a ;2 # (4 QE _ (3 Expr.Name _ _ _ ! (3 dI rfl ^ @$a ;3 # (4 QE _ (4 Expr.Attribute _ _ _ _ ~ (2 EC ? ,Qe ;2 ~ (4 vM ? ? ? ,Qe,Qp,Qp ;2 ~ (4 kL HV ? ? ,Qe,Qe ;2 # (4 QE _ (5 Expr.Call _ _ _ _ _ |26 ;2 # (4 QE _ (5 Expr.Call (4 Expr.Attribute _ _ _ _ _ _ _ |3 ;2 ~ (4 xN ? ^ @$a (3 aH.mono ^ @$a ^ @$o ,Qe ;2 ~ (5 AQ ? ^ @$a (3 aH.mono ^ @$a ^ @$o ? ,Qe,Qa ;2 ~ (2 xO ? ,Qe ;2 # (4 QE _ (5 Expr.Call (3 Expr.Name _ _ (3 List.cons (3 Expr.Name _ _ (3 List.cons (3 Expr.Name _ _ List.nil _ _ _ |2 ~ (8 cu ^ @Ix ^ @Qn ^ @$a ^ @$a rfl ^ @$a rfl ~ (11 xM =T %ValueError ^ @Ix ^ @Qn rfl Lb Ex ^ @$a rfl ^ @$a rfl ;2 ~ (2 AJ ? ,Qe ;2 ~ (5 Et ^ @$a (3 aH.mono ^ @$a ^ @$o rfl ? ,Qa ;2 ~ (5 Eu ^ @$a (3 aH.mono ^ @$a ^ @$o rfl ? ,Qa ;2 ~ (6 eY (2 HH rfl rfl ^ @$a PyProof.Rows.boot_all ? ,Qa ;2 ~ (6 eY E3 rfl ^ @$a PySem.boot_len ? ,Qa ;2 ~ (6 eY (2 Hn rfl rfl ^ @$a Hu ? ,Qa ;2 ~ (6 eY (2 Ev rfl rfl ^ @$a Ht ? ,Qa ;2 ~ (6 cI sP rfl ^ @$a lR ? ,Qa ;2 ~ (6 cI (2 BA rfl rfl ^ @$a xx ? ,Qa ;2 ~ (6 cI E5 rfl ^ @$a PyProof.Rows.boot_int ? ,Qa ;2 ~ (6 cI yE rfl ^ @$a PyProof.Rows.boot_str ? ,Qa ;2 ~ (10 jB =T %int =x %int ^ @$s PyProof.Rows.boot_int ^ @$a rfl ^ @$a rfl ? ,Qe ;2 ~ (10 jB =T %bool =x %bool ^ @$s PyProof.Rows.boot_bool ^ @$a rfl ^ @$a rfl ? ,Qe ;2 ~ (10 jB =T %tuple =x %tuple ^ @$s lR ^ @$a rfl ^ @$a rfl ? ,Qe ;2 ~ (10 jB =T %list =x %list ^ @$s xx ^ @$a rfl ^ @$a rfl ? ,Qe ;2 ~ (10 jB =T %str =x %str ^ @$s PyProof.Rows.boot_str ^ @$a rfl ^ @$a rfl ? ,Qe ;2 ~ (6 bb ^ @$a (3 aH.mono ^ @$a ^ @$o ^ @$a rfl ? ,Qa ! (4 El ^ @$a (3 aH.mono ^ @$a ^ @$o rfl ;2 ~ (3 fX ? ? ,Qe,Qe ;2 ~ (3 Ez ? ? ,Qe,Qe ;2 ~ (5 EG ^ @$a (3 aH.mono ^ @$a ^ @$o rfl ? ,Qa ;2 ~ (2 Bu ? ,Qe ;2 ~ (3 yt ? ? ,Qe,Qe ;2 ~ (2 xO ? ,Qe ;2 # (4 QE _ (5 Expr.BinOp _ _ _ _ _ |7 ;2 ~ (4 eS iA ? ? ,Qe,Qe ;2 ~ (4 eS Hh ? ? ,Qe,Qe ;2 ~ (4 eS EX ? ? ,Qe,Qe ;2 ~ (4 eS Es ? ? ,Qe,Qe ;2 ~ (4 eS Hc ? ? ,Qe,Qe ;2 ~ (4 eS Ey ? ? ,Qe,Qe ;2 ~ (4 eS HC ? ? ,Qe,Qe ;2 ~ (2 D8 ? ,Qa ;2 ~ (2 il ? ,Qa ! GR ! Bx ! DX ! DY ;2 ~ (2 Ek ? ,Qe ;2 ~ (2 p8 ? ,Qe ;2 # (4 QE _ (5 Expr.Compare _ _ _ _ _ |10 ;2 ~ (6 yC ue ue ? ? ? ,Qe,Qe,Qe ;2 ~ (5 dM (2 CV ^ @$a ? ? (2 bZ _ ,Qe,Qe ;2 ~ (5 dM (2 yB ^ @$a ? ? (2 bZ _ ,Qe,Qe ;2 ~ (5 dM (2 CA ^ @$a ? ? (2 bZ _ ,Qe,Qe ;2 ~ (5 dM Ed ? ? (2 bZ _ ,Qe,Qe ;2 ~ (5 dM Hd ? ? (2 bZ _ ,Qe,Qe ;2 ~ (5 dM He ? ? (2 bZ _ ,Qe,Qe ;2 ~ (5 dM Cw ? ? (2 bZ _ ,Qe,Qe ;2 ~ (5 dM (2 CQ ^ @$a ? ? rfl ,Qe,Qe ;2 ~ (5 dM (2 oO ^ @$a ? ? rfl ,Qe,Qe ;2 ~ (2 D5 ? ,Qe ;2 ~ (3 D6 ? ? ,Qe,Qe ;2 ~ (3 GW ? ? ,Qe,Qe ;2 ~ (4 nR ? ? ? ,Qt,Qe,Qe ;2 ~ (7 ul (2 lQ ^ |2 ! rfl @$k rfl ? $_,_,_,_ ? $_,_,_,_ ? $_,_,_,_ ? ,Qi,Qg,Qts,Qe
Qt ;2 # (4 QT _ _ _ |4 ;2 # (4 QT _ (5 Expr.Compare _ _ _ _ _ |10 ;2 ~ (6 yD ue ue ? ? ? ,Qe,Qe,Qe ;2 ~ (5 cq (2 CV ^ @$a ? ? (2 bZ _ ,Qe,Qe ;2 ~ (5 cq (2 yB ^ @$a ? ? (2 bZ _ ,Qe,Qe ;2 ~ (5 cq (2 CA ^ @$a ? ? (2 bZ _ ,Qe,Qe ;2 ~ (5 cq Ed ? ? (2 bZ _ ,Qe,Qe ;2 ~ (5 cq Hd ? ? (2 bZ _ ,Qe,Qe ;2 ~ (5 cq He ? ? (2 bZ _ ,Qe,Qe ;2 ~ (5 cq Cw ? ? (2 bZ _ ,Qe,Qe ;2 ~ (5 cq (2 CQ ^ @$a ? ? rfl ,Qe,Qe ;2 ~ (5 cq (2 oO ^ @$a ? ? rfl ,Qe,Qe ;2 ~ (2 D4 ? ,Qt ;2 ~ (2 D3 ? ,Qw ;2 ~ (2 DZ ? ,Qe
Qw ;2 # (4 QW _ _ _ |4 ;2 ~ (2 Ap ? ,Qt ;2 ~ (2 p7 ? ,Qt ;2 ~ (3 D1 ? ? ,Qt,Qw ;2 ~ (3 sN ? ? ,Qt,Qw
s ! <7 rfl rfl rfl ^ @$k rfl ^ @$k ^ @$k
a ;3 -hU ~ (2 au $U,hU ? @R
a0 ;2 ~ (2 au $U,hU ? @R
b ;3 -hU1 ~ (2 au $U1,hU1 ? @R
g ;3 ~ (3 _L.GTx.mk ?l ?v :l @$i :v @v
d |7 ;8 ~ (8 _L.Df.mk ?X ?G ?a ?l ?c ?k ?b :X @$a :G @$a :a @$i :l @$i :c @$i :k @$i :b @e ;4 ~ (4 PySem.W.mg_none_of ?X ?G ?a :X @$a :G @$a :a @$i ;4 ~ (4 _L.gi_mk ?X ?G ?a :X @$a :G @$a :a @$i ;5 ~ (5 _L.ck_mk ?X ?G ?a ?q :X @$a :G @$a :a @$i :q @g ;12 ~ (12 _L.DfD.mk ?X ?G ?v ?r ?a ?l ?c ?k ?t ?b ?e :X @$a :G @$a :a @$i :l @$i :c @$i :k @$i :t @$i :r |2 ! $_ (2 .int _ ! $_ .non :v |2 ! <2 _ rfl ! rfl :b @e :e @e ;8 ~ (8 _L.DfA.mk ?X ?G ?a ?l ?c ?k ?b :X @$a :G @$a :a @$i :l @$i :c @$i :k @$i :b @e ;7 ~ (3 Eq.trans (4 mg_of ?X ?G ?a (2 Eq.symm (4 mg_of ?Y ?H ?b :X @$a :G @$a :Y @$a :H @$a :a @$i :b @$i
m |4 ! <4 ^ @$i ^ @$i ^ @$i ^ @$i ;2 @$u @$i ;7 ~ (7 _L.Md.mk ?a ?i ?l ?c ?k ?b :a @$i :i @$i :l @$i :c @$i :k @$i :b @e ;4 ~ (4 _L.MdI.mk ?z ?y ?M :z @$i :y @$i :M @m
k ;5 ~ (5 _L.ck_mk ?X ?G ?a ?q :X @$a :G @$a :a @$i :q @$q
x |2 ! _L.map_nl ;5 ~ (3 _L.map_cg (4 mg_of ?X ?G ?a ?n :X @$a :G @$a :a @$i :n @x".splitOn "\n").find? (·.startsWith (k ++ " ")) with
    | some r => Mq.tac (r.drop (k.length + 1)).toString
    | none => Macro.throwUnsupported
local macro_rules | `(tactic| rfl') => `(tactic| walk_at "R")
local macro_rules | `(tactic| right) => `(tactic| walk_at "s")
local macro_rules | `(tactic| nofun) => `(tactic| walk_at "a0")
local macro_rules | `(tactic| grind) => `(tactic| walk_at "Qss")
local macro_rules | `(tactic| cutsat) => `(tactic| walk_at "a")
local macro_rules | `(tactic| ac_nf) => `(tactic| walk_at "Qe")
local macro_rules | `(tactic| ac_rfl) => `(tactic| walk_at "Qt")
local macro_rules | `(tactic| eq_refl) => `(tactic| walk_at "Qs")
local macro_rules | `(tactic| walk_at "l") => `(tactic| (intro ws G q e h; repeat (first | (obtain ⟨h1, _⟩ := h; subst h1; rfl) | obtain ⟨_, h⟩ := h)))
namespace _W
open PySem PySem.Spec PyProof.Rows _L _N
set_option hygiene false
set_option hygiene true
noncomputable def aG (i:Nat):Stmt:=PySem.Challenge.pw_hydrahouse_k76_desk_refusals.main.body.getD i (.Pass ⟨0,0,0,0⟩)
noncomputable def eV (i j:Nat):Stmt:=(Lh (aG i)).getD j (.Pass ⟨0,0,0,0⟩)
structure Txt (P:Program) (w:World) (K:yav) (mg:yew):Prop where
 qa:DfD K mg "is_whole" (aG 16) ["thing","least"] [.int 0]
 qb:Df K mg "whole" (aG 17) ["n"]
 qc:Df K mg "endless" (aG 18) []
 qd:DfD K mg "raised" (aG 19) ["exponent","times"] [.int 1]
 qe:Df K mg "compare" (aG 20) ["a","b"]
 qf:Df K mg "whole_part" (aG 21) ["a"]
 qg:Df K mg "without_whole" (aG 22) ["a"]
 qh:Df K mg "is_limit" (aG 23) ["a"]
 qi:Df K mg "greatest" (aG 24) ["a"]
 qj:Df K mg "deep" (aG 25) ["a"]
 qk:Df K mg "plus" (aG 27) ["a","b"]
 ql:Df K mg "parts_above" (aG 28) ["a","exponent"]
 qm:Df K mg "minus" (aG 29) ["a","b"]
 qn:Df K mg "ladder" (aG 35) ["a","n"]
 qo:Df K mg "rung" (aG 37) ["a","b"]
 qp:Df K mg "fits" (aG 42) ["a","base"]
 qq:Df K mg "worth" (aG 43) ["a","base"]
 qr:Df K mg "to_the" (aG 44) ["base","n"]
 qs:Df K mg "small_enough" (aG 45) ["n"]
 qt:Df K mg "down" (aG 46) ["a","base"]
 qu:Df K mg "times" (aG 48) ["a","b"]
 qv:Df K mg "divided" (aG 49) ["a","b"]
 qw:Df K mg "power" (aG 54) ["a","b"]
 qx:Df K mg "power_of_part" (aG 55) ["part","b"]
 qy:DfA K mg "is_too_great_powers" "is_too_great" (aG 56) ["a","b"]
 qz:Df K mg "is_figure" (aG 68) ["sign"]
 qA:Df K mg "is_letter" (aG 69) ["sign"]
 qB:Df K mg "is_figures" (aG 70) ["text"]
 qC:Df K mg "is_name" (aG 71) ["text"]
 qD:Df K mg "thing_of" (aG 72) ["word"]
 qE:Df K mg "steps_of" (aG 74) ["text"]
 qF:Df K mg "looked_up" (aG 75) ["steps","names"]
 qG:Df K mg "reckoned" (aG 76) ["steps"]
 qH:Df K mg "joined" (aG 77) ["first","sign","second"]
 qI:Df K mg "is_too_great" (aG 78) ["a"]
 qJ:Df K mg "has_many_parts" (aG 80) ["a"]
 qK:Df K mg "points" (aG 83) ["tree"]
 qL:DfD K mg "cut" (aG 85) ["tree","way","many"] [.int 1]
 qM:Df K mg "is_head" (aG 86) ["tree","way"]
 qN:Df K mg "points_left" (aG 87) ["tree","way","many"]
 qO:Df K mg "shown" (aG 92) ["a"]
 qP:Df K mg "part_shown" (aG 93) ["exponent","many"]
 qQ:Df K mg "power_shown" (aG 94) ["exponent"]
 qR:DfD K mg "read" (aG 95) ["text","names"] [.non]
 qS:Df K mg "tree_read" (aG 97) ["text"]
 qT:Df K mg "is_room" (aG 98) ["begun"]
 qU:Df K mg "new_name" (aG 100) ["word","kept"]
 qV:Df K mg "kept_name" (aG 101) ["word","kept"]
 qW:Df K mg "expression" (aG 102) ["word","kept"]
 qX:Df K mg "whole_number" (aG 103) ["word","kept"]
 qY:Df K mg "tree_told" (aG 104) ["word","kept"]
 qZ:Df K mg "way_told" (aG 105) ["word","kept"]
 qax:Df K mg "tell_number" (aG 108) ["things"]
 qbx:Df K mg "tell_dropped" (aG 109) ["things"]
 qcx:Df K mg "tell_minus" (aG 111) ["things"]
 qdx:Df K mg "tell_share" (aG 112) ["things"]
 qex:Df K mg "tell_rung" (aG 114) ["things"]
 qfx:Df K mg "tell_step" (aG 115) ["things"]
 qgx:Df K mg "tell_cut" (aG 117) ["things"]
 qhx:Df K mg "tell_down" (aG 119) ["things"]
 qix:Df K mg "tell_worth" (aG 120) ["things"]
 qjx:Df K mg "words_of" (aG 122) ["row"]
 qkx:Df K mg "things_of" (aG 123) ["words","kept"]
 qlx:Df K mg "_law_compare" (aG 126) ["_law_a","_law_b"]
 qmx:Df K mg "_law_with" (aG 127) ["_law_number","_law_exponent","_law_many"]
 qnx:Df K mg "_law_size" (aG 128) ["_law_number"]
 qox:Df K mg "_law_next" (aG 129) ["_law_pool_here","_law_cell"]
 qpx:Df K mg "_law_pool" (aG 130) ["_law_script"]
 qqx:Df K mg "_law_shown" (aG 131) ["_law_number"]
 qrx:Df K mg "_law_name" (aG 132) ["_law_cell"]
 qsx:Df K mg "_law_marks" (aG 133) ["_law_e"]
 qtx:Df K mg "_law_said" (aG 134) ["_law_desk","_law_line"]
 qux:Df K mg "_law_no_rows" (aG 135) ["_law_cell","_law_many"]
 qvx:Df K mg "_law_no_words" (aG 136) ["_law_name_here","_law_many","_law_told"]
 qwx:Df K mg "_law_no_deeds" (aG 137) ["_law_many","_law_number"]
 qxx:Df K mg "_law_bad" (aG 138) ["_law_name_here","_law_told","_law_cell"]
 qyx:Df K mg "_law_kept" (aG 139) ["_law_desk","_law_model"]
 qzx:Df K mg "_law_let_and_dropped" (aG 140) ["_law_desk","_law_name_here"]
 qAx:mg "is_too_great_readings"=mg "is_too_great"
 k_Reading:∃C:Addr,mg "Reading"=some (.ref C)/\kn K C/\NoAttr K C "text"/\NoAttr K C "place"/\NoAttr K C "steps"/\MdI K C "Reading.__init__" (eV 73 0) ["self","text"]/\Md K C "read_sum" "Reading.read_sum" (eV 73 1) ["self","within"]/\Md K C "read_product" "Reading.read_product" (eV 73 2) ["self","within"]/\Md K C "read_power" "Reading.read_power" (eV 73 3) ["self","within"]/\Md K C "read_thing" "Reading.read_thing" (eV 73 4) ["self","within"]/\Md K C "word" "Reading.word" (eV 73 5) ["self"]/\Md K C "pass_by" "Reading.pass_by" (eV 73 6) ["self","sign"]/\Md K C "sign" "Reading.sign" (eV 73 7) ["self"]
 k_Desk:∃C:Addr,mg "Desk"=some (.ref C)/\kn K C/\NoAttr K C "kept"/\MdI K C "Desk.__init__" (eV 124 0) ["self"]/\Md K C "say" "Desk.say" (eV 124 1) ["self","row"]
 x_:∃cs:List Addr,jg K mg ["HydraError","NoFit","NoHead","NoLimit","NoName","NoNumber","NoRow","NoText","Nought","TooGreat","TooHigh","NoStep","NoFall","NoChore"] cs
 gd_READERS:∃a b0 b1 b2 b3 b4 b5 b6:Addr,mg "READERS"=some (.ref a)/\mU P w K a [("NAME",b0),("KEPT",b1),("EXPR",b2),("N",b3),("BASE",b4),("TREE",b5),("WAY",b6)]/\mg "new_name"=some (.ref b0)/\mg "kept_name"=some (.ref b1)/\mg "expression"=some (.ref b2)/\mg "whole_number"=some (.ref b3)/\mg "whole_number"=some (.ref b4)/\mg "tree_told"=some (.ref b5)/\mg "way_told"=some (.ref b6)
 gd_FORMS:∃a b0 b1 b2 b3 b4 b5 b6 b7 b8 b9 b10 b11 b12 b13:Addr,mg "FORMS"=some (.ref a)/\mU P w K a [("let",b0),("tell",b1),("drop",b2),("hold",b3),("minus",b4),("share",b5),("common",b6),("rung",b7),("step",b8),("tree",b9),("cut",b10),("write",b11),("down",b12),("worth",b13)]/\GTx K b0 ["NAME","EXPR"]/\GTx K b1 ["EXPR"]/\GTx K b2 ["KEPT"]/\GTx K b3 ["EXPR","EXPR"]/\GTx K b4 ["EXPR","EXPR"]/\GTx K b5 ["EXPR","EXPR"]/\GTx K b6 ["EXPR","EXPR"]/\GTx K b7 ["EXPR","EXPR"]/\GTx K b8 ["EXPR","N"]/\GTx K b9 ["TREE"]/\GTx K b10 ["TREE","WAY","N"]/\GTx K b11 ["N","BASE"]/\GTx K b12 ["EXPR","BASE"]/\GTx K b13 ["EXPR","BASE"]
 gd_DEEDS:∃a b0 b1 b2 b3 b4 b5 b6 b7 b8 b9 b10 b11 b12 b13:Addr,mg "DEEDS"=some (.ref a)/\mU P w K a [("let",b0),("tell",b1),("drop",b2),("hold",b3),("minus",b4),("share",b5),("common",b6),("rung",b7),("step",b8),("tree",b9),("cut",b10),("write",b11),("down",b12),("worth",b13)]/\mg "tell_number"=some (.ref b0)/\mg "tell_number"=some (.ref b1)/\mg "tell_dropped"=some (.ref b2)/\mg "tell_order"=some (.ref b3)/\mg "tell_minus"=some (.ref b4)/\mg "tell_share"=some (.ref b5)/\mg "tell_common"=some (.ref b6)/\mg "tell_rung"=some (.ref b7)/\mg "tell_step"=some (.ref b8)/\mg "tell_tree"=some (.ref b9)/\mg "tell_cut"=some (.ref b10)/\mg "tell_written"=some (.ref b11)/\mg "tell_down"=some (.ref b12)/\mg "tell_worth"=some (.ref b13)
 qBx:∃t:Tok,mg "MOST_EXPONENT"=some (.int 200 t)
 qCx:∃t:Tok,mg "MOST_FACTORS"=some (.int 24 t)
 qDx:∃t:Tok,mg "MOST_PARTS_powers"=some (.int 24 t)
 qEx:∃t:Tok,mg "MOST_SIGNS"=some (.int 2000 t)
 qFx:∃t:Tok,mg "MOST_FIGURES"=some (.int 60 t)
 qGx:∃t:Tok,mg "MOST_LETTERS"=some (.int 8 t)
 qHx:∃t:Tok,mg "MOST_BRACKETS"=some (.int 20 t)
 qIx:∃t:Tok,mg "MOST_PARTS_readings"=some (.int 400 t)
 qJx:∃t:Tok,mg "MOST_DEEP_readings"=some (.int 40 t)
 qKx:∃t:Tok,mg "MOST_POINTS"=some (.int 600 t)
 qLx:∃t:Tok,mg "MOST_DEEP_texts"=some (.int 40 t)
 g_JOINING:∃a:Addr,mg "JOINING"=some (.ref a)/\GTx K a ["+","*","^"]
 qMx:mg "ValueError"=none
 qNx:mg "all"=none
 qOx:mg "bool"=none
 qPx:mg "int"=none
 qQx:mg "isinstance"=none
 qRx:mg "len"=none
 qSx:mg "list"=none
 qTx:mg "max"=none
 qUx:mg "range"=none
 qVx:mg "reversed"=none
 qWx:mg "str"=none
 qXx:mg "sum"=none
 qYx:mg "tuple"=none
 qZx:mg "zip"=none
class En where
 P:Program
 w:World
 K:yav
 mg:Str->Option Value
 base:Heap
section
variable [En] {f:Addr} {fd:FuncData}
noncomputable abbrev P:Program:=En.P
noncomputable abbrev w:World:=En.w
noncomputable abbrev K:yav:=En.K
noncomputable abbrev mg:Str->Option Value:=En.mg
noncomputable abbrev base:Heap:=En.base
abbrev Tx:Prop:=Txt P w K mg
abbrev BP (x:Str) (ps:List Str) (k:Nat) (sp:aX) (ds:List W):Prop:=K9 P w K mg base x ps k sp ds
abbrev bu (x:Str) (ps:List Str) (k:Nat) (sp:aX):Prop:=Fx P w K mg base x ps k sp
abbrev bo (k:Nat) (f:Addr) (fd:FuncData) (ps:List Str) (sp:aX):Prop:=io P w K mg base k f fd ps sp
abbrev bL (k:Nat) (f:Addr) (fd:FuncData) (ps:List Str) (sp:aX):Prop:=sX P w K mg base k f fd ps sp
abbrev iC (x:Str) (ps:List Str) (k:Nat) (sp:aX) (ds:List W):Prop:=Rx P w K mg base x ps k sp ds
abbrev gS (C:Addr) (m:Str) (ps:List Str) (k:Nat) (sp:aX) (ds:List W):Prop:=Li P w K mg base C m ps k sp ds
abbrev yY (C:Addr) (m:Str) (ps:List Str) (k:Nat) (sp:aX) (ds:List W):Prop:=Mt P w K mg base C m ps k sp ds
abbrev IG (x:Str) (C:Addr) (ps:List Str) (k:Nat) (sp:aX):Prop:=Kk P w K mg base x C ps k sp
abbrev II (k:Nat) (f:Addr) (sp:aX):Prop:=Vf P w K mg base k f sp
set_option maxHeartbeats 0
variable {C:Addr} {G:Gp} {G0:Gp} {NT:Addr} {S:Addr} {T:Addr} {Y:Addr} {b:Nat} {c:Nat} {cs:List Addr} {d:Nat} {ds:yez} {h:Heap} {j:Nat} {js:List Nat} {kvs:List (aW×W)} {l:List Nat} {ls:List (List Nat)} {m:List Nat} {one:List Nat->Rd} {p:Addr} {rd:List Nat->Rd} {s':List bx} {t1:Tok} {tk:Tok} {ys:List W} {τ:bV}
def BQ:aX:=λws G q _=>∃a b:O,ws=[.tup (ag a),.tup (ag b)]/\a.dp<=60/\q (.int (O.cmp a b)) G
def IJ:aX:=λws G q _=>∃a x:O,ws=[.tup (ag a),.tup (ag x)]/\a.NF/\a.dp<=60/\a.len<=1000/\q (.int (O.stay x a)) G
def Fc:aX:=λws G q _=>∃a b:O,ws=[.tup (ag a),.tup (ag b)]/\a.NF/\a.dp<=60/\b.dp<=60/\a.len<=1000/\b.len<=1000/\q (.tup (ag (O.plusO a b))) G
theorem LK (F:bf K "compare" "compare" (aG 20) f fd):bo 1 f fd ["a","b"] BQ:=by
 refine dR F (N:=["a","b"]) λ_ _ _ _ _ _ nd hr=>?_;apply al
 ·grind
 ·rintro ws G q e ⟨a,b,rfl,L,B⟩;rfl';have h1:=jM a b;have S:=bh a;rw[eJ,h1.2];refine⟨aI a,aI b,by lia,?_⟩;rcases O.cmp_range a b with k | k | k
  ·rw[ycw (by simp;intro z;rw[z,O.cmp_self] at k;lia),ycv (by simp;lia)];exact⟨cx a,cx b,k9 a (by lia),h1.1,am.done (by rw[k] at B;exact B)⟩
  ·rw[ycv (by simpa using O.cmp_eq _ _ k)];exact am.done (by rw[k] at B;exact B)
  ·rw[ycw (by simp;intro z;rw[z,O.cmp_self] at k;lia),ycw (by simp;lia)];exact⟨cx a,cx b,k9 a (by lia),h1.1,am.done (by rw[k] at B;exact B)⟩
theorem LL (F:bf K "parts_above" "parts_above" (aG 28) f fd) (F1:bu "compare" ["a","b"] 1 BQ) (ml:mg "len"=none):bo 2 f fd ["a","exponent"] IJ:=by
 refine dR F (N:=["a","exponent","low","high","middle"]) λ_ _ _ _ _ _ nd hr=>?_;apply al
 ·grind
 ·rintro ws G q e ⟨a,x,rfl,hn,hx,hl,hq⟩;nofun;cutsat;rw[aL];subst hU;refine au λU hU=>?_;refine⟨λm τ G'=>G'=G/\∃(lo hi:Nat) (S:Option W),τ=[some (.tup (ag a)),some (.tup (ag x)),some (.int (lo:Int)),some (.int (hi:Int)),S]/\lo<=O.stay x a/\O.stay x a<=hi/\hi<=a.len/\m=hi-lo,⟨a.len,rfl,0,a.len,none,rfl,zero_le _,O.stay_le,ycx _,rfl⟩,?_⟩;rintro m τ G' ⟨rfl,lo,hi,S,rfl,h1,h2,h3,rfl⟩;rfl';split
  ·rename_i ab;refine⟨λY G1=>G1=G'/\∃(L B:Nat) (S:Option W),Y=[some (.tup (ag a)),some (.tup (ag x)),some (.int (L:Int)),some (.int (B:Int)),S]/\L<=O.stay x a/\O.stay x a<=B/\B<=a.len/\B-L<hi-lo,?_,?_⟩
   ·rintro Y G1 ⟨rfl,L,B,S,rfl,k1,k2,k3,k4⟩;exact⟨_,k4,rfl,L,B,S,rfl,k1,k2,k3,rfl⟩
   ·have em:((lo:Int)+hi)/2=(((lo+hi)/2:Nat):Int):=by lia
    obtain⟨y,n,hp⟩:=O.getP_some (a:=a) (i:=(lo+hi)/2) (by lia);rw[em];refine⟨_,my hp,?_⟩;have hs:=O.getP_size hp;have Z:=O.above_iff (e:=x) hn hp;unfold dD fK;rfl';refine⟨y,x,rfl,by lia,?_⟩;rfl';split
    ·rename_i hc;have:=Z.mp hc;exact⟨(lo+hi)/2+1,hi,_,rfl,by lia,h2,h3,by lia⟩
    ·rename_i hc;have:=λz=>hc (Z.mpr z);exact⟨lo,(lo+hi)/2,_,rfl,h1,by lia,by lia,by lia⟩
  ·subst hU;rfl';have:(lo:Int)=O.stay x a:=by lia
   rw[this];exact am.done hq
theorem LM (F:bf K "plus" "plus" (aG 27) f fd) (F1:bu "parts_above" ["a","exponent"] 2 IJ) (ml:mg "len"=none):bo 3 f fd ["a","b"] Fc:=by
 refine dR F (N:=["a","b","exponent","stay","both"]) λ_ _ _ _ _ _ nd hr=>?_;apply al
 ·grind
 ·rintro ws G q e ⟨a,b,rfl,hn,hx,hy,hl,ab,hq⟩;have hd:=bh b;nofun;refine⟨aI b,by lia,?_⟩;rw[aQ];cases b with
  | z=>
    rw[ycv (by simp)];exact am.done hq
  | c e n r=>
    rw[ycw (by simp)];simp only[O.len] at ab;have aj:e.dp<=60:=by simp only[O.dp] at hy;lia
    subst hU;refine au λU hU=>?_;rw[bc];unfold dD fK;rfl';cutsat;refine⟨a,e,rfl,hn,hx,hl,?_⟩;subst hU;have af:=O.stay_le (e:=e) (a:=a);have L:=O.same_stay (e:=e) hn;have Z:=O.take_stay (e:=e) hn;have e1:cL (W.tup [W.tup (ag e),W.int n]::ag r) (some 1) none=ag r:=by rw[show(1:Int)=((1:Nat):Int) from rfl,jK];rfl
    have e2:cL (ag a) none (some (O.stay e a:Int))=ag (O.filt (λx _=>decide (0<O.cmp x e)) a):=by rw[yg,iy,Z]
    have l1:=fk (λx _=>decide (0<O.cmp x e)) a;have Y:q (.tup (ag (O.filt (λx _=>decide (0<O.cmp x e)) a)++(dD e (O.same e a+n)::ag r))) G:=by
     rw[O.plus_c,fj,bc] at hq;exact hq
    refine au λU hU=>?_;have S:O.same e a=0->U { nx:=λx G1=>∃G0,am G0 G1/\q W.non G0,rt:=λw G1=>∃G0,am G0 G1/\q w G0 } [some (W.tup (ag a)),some (W.tup (W.tup [W.tup (ag e),W.int n]::ag r)),some (W.tup (ag e)),some (W.int (O.stay e a)),none] G:=λhz=>by
     subst hU;rfl';rw[e2];refine⟨by rw[aL,aL];lia,am.done ?_⟩;rw[hz,Int.zero_add] at Y;exact Y
    rfl';rw[aL];split
    ·rename_i ad;obtain⟨y,m,hp⟩:=O.getP_some (a:=a) (i:=O.stay e a) (by lia);have hs:=O.getP_size hp;have ai:=bh y;refine⟨_,my hp,?_⟩;rw[hp] at L;have B:O.same e a=if y=e then m else 0:=L
     unfold dD fK;rfl';refine⟨aI y,aI e,by lia,?_⟩;rw[eJ]
     by_cases hye:y=e
     ·rw[ycv (by simpa using hye)];refine⟨_,my hp,?_⟩;unfold dD fK;rfl';rw[e1,e2];rw[ycv hye] at B;refine⟨by rw[aL];lia,by rw[length_append,aL,aL];simp;lia,am.done ?_⟩;rw[B] at Y;rw[append_assoc];exact Y
     ·rw[ycw (by simpa using hye)];rw[ycw hye] at B;exact S B
    ·rename_i ad;rw[O.getP_none.mpr (by lia)] at L;exact S L
theorem jX:∀{a:O} {x:O} {n:Int},a.NF->O.last a=.c x n .z->O.same .z a=if x=.z then n else 0
 | .z,_,_,_,h=>by cases h
 | .c e m .z,x,n,B,h=>by
   have:O.last (.c e m .z)=.c e m .z:=rfl;rw[this] at h;injection h with h1 h2 _
   subst h1 h2
   by_cases k:e=.z
   ·subst k;rw[ycv rfl,O.same_self B.2.2.1]
   ·rw[ycw k,O.same_ne k];rfl
 | .c e m (.c S Y Z),x,n,B,h=>by
   have e0:O.last (.c e m (.c S Y Z))=O.last (.c S Y Z):=by simp[O.last]
   rw[e0] at h;have L:e≠ .z:=λz=>by
    subst z;have:=B.2.2.1.1;cases S<;> simp[O.cmp] at this
   rw[O.same_ne L];exact jX B.2.2.2 h
theorem pd:∀{a:O},a.NF->O.same .z a=0->O.filt (λy _=>decide (¬y=.z)) a=a
 | .z,_,_=>rfl
 | .c e m r,L,h=>by
   have B:e≠ .z:=λz=>by
    subst z;rw[O.same_self L.2.2.1] at h;have:=L.2.1;lia
   rw[O.same_ne B] at h;rw[O.filt_c,ycv (by simpa using B),pd L.2.2.2 h]
theorem jY:∀{a:O},a.NF->O.same .z a≠0->O.filt (λy _=>decide (¬y=.z)) a=O.init a
 | .z,_,h=>absurd rfl h
 | .c e m .z,S,h=>by
   have:e=.z:=Classical.byContradiction λk=>h (by rw[O.same_ne k];rfl);subst this
   rfl
 | .c e m (.c L Y Z),S,h=>by
   have B:e≠ .z:=λz=>by
    subst z;have:=S.2.2.1.1;cases L<;> simp[O.cmp] at this
   rw[O.same_ne B] at h;have e0:O.init (.c e m (.c L Y Z))=.c e m (O.init (.c L Y Z)):=by simp[O.init]
   rw[O.filt_c,ycv (by simpa using B),jY S.2.2.2 h,e0]
def vU:aX:=λws G q _=>∃a:O,ws=[.tup (ag a)]/\a.NF/\a.dp<=60/\q (.int (O.same .z a)) G
def BR:aX:=λws G q _=>∃a:O,ws=[.tup (ag a)]/\a.NF/\a.dp<=60/\q (.tup (ag (O.filt (λy _=>decide (¬y=.z)) a))) G
theorem LN (F:bf K "whole_part" "whole_part" (aG 21) f fd):bo 1 f fd ["a"] vU:=by
 refine dR F (N:=["a"]) λ_ _ _ _ _ _ nd hr=>?_;apply al
 ·grind
 ·rintro ws G q e ⟨a,rfl,Z,hd,B⟩;have S:=bh a;rfl';refine⟨aI a,by lia,?_⟩;rw[aQ]
  by_cases hz:a=.z
  ·subst hz;rw[ycv (by simp)];exact am.done B
  ·rw[ycw (by simpa using hz)];obtain⟨x,n,h1,h2⟩:=rR hz;have hw:=jX Z h1;have hs:=O.getP_size h2;have Y:=bh x;refine⟨_,eK h2,?_⟩;unfold dD fK;rfl';refine⟨aI x,by lia,?_⟩;rw[aQ]
   by_cases hx:x=.z
   ·rw[ycw (by simpa using hx)];rw[ycv hx] at hw;have L:=eK h2;unfold dD fK at L;refine⟨_,L,?_⟩;rfl';rw[hw] at B;exact am.done B
   ·rw[ycv (by simpa using hx)];rw[ycw hx] at hw;rw[hw] at B;exact am.done B
theorem LP (F:bf K "without_whole" "without_whole" (aG 22) f fd) (F1:bu "whole_part" ["a"] 1 vU):bo 2 f fd ["a"] BR:=by
 refine dR F (N:=["a"]) λ_ _ _ _ _ _ nd hr=>?_;apply al
 ·grind
 ·rintro ws G q e ⟨a,rfl,L,S,B⟩;rfl';refine⟨a,rfl,L,S,?_⟩;rfl';split
  ·rename_i h;rw[pd L h] at B;exact am.done B
  ·rename_i h;rw[jY L h] at B;rw[oH];exact am.done B
def BS:aX:=λws G q _=>∃n k:Int,ws=[.int n,.int k]/\q (.bl (decide (k<=n))) G
theorem scWh:ay ["thing","least"] ["thing","least"] (ae (aG 16)):=by right
theorem LQ (F:ir K "is_whole" "is_whole" (aG 16) f fd T ds) (L:mg "isinstance"=none) (S:mg "int"=none) (mb:mg "bool"=none):bo 1 f fd ["thing","least"] BS:=by
 have nd:=scWh.nd;refine HA F scWh (λws G q e h=>by obtain⟨_,_,rfl,_⟩:=h;rfl) (λcdv A outer s H E hr=>?_);apply al
 ·grind
 ·rintro ws G q e ⟨n,k,rfl,B⟩;rfl';exact am.done B
def BU:aX:=λws G q _=>∃(x:O) (n:Int),ws=[.tup (ag x),.int n]/\0<=n/\q (.tup (ag (if n=0 then .z else .c x n .z))) G
theorem scRs:ay ["exponent","times"] ["exponent","times"] (ae (aG 19)):=by right
theorem IK (F:ir K "raised" "raised" (aG 19) f fd T ds) (F1:BP "is_whole" ["thing","least"] 1 BS [.int 0]):bo 2 f fd ["exponent","times"] BU:=by
 have nd:=scRs.nd;refine HA F scRs (λws G q e h=>by obtain⟨_,_,rfl,_⟩:=h;rfl) (λcdv A outer s H E hr=>?_);apply al
 ·grind
 ·rintro ws G q e ⟨x,n,rfl,L,B⟩;rfl';refine⟨n,0,rfl,?_⟩;rfl';rw[ycw (by lia)];split
  ·rename_i h;rw[ycv h] at B;exact am.done B
  ·rename_i h;rw[ycw h,bc] at B;exact am.done B
def vV:aX:=λws G q _=>∃n:Int,ws=[.int n]/\0<=n/\q (.tup (ag (O.wh n))) G
theorem LU (F:bf K "whole" "whole" (aG 17) f fd) (F1:bu "raised" ["exponent","times"] 2 BU):bo 3 f fd ["n"] vV:=by
 refine dR F (N:=["n"]) λ_ _ _ _ _ _ nd hr=>?_;apply al
 ·grind
 ·rintro ws G q e ⟨n,rfl,L,B⟩;rfl';exact⟨.z,n,rfl,L,am.done B⟩
noncomputable def ky (e:O):O->O
 | .z=> .z
 | .c f d t=> .c (O.plusO e f) d (ky e t)
theorem lx (e:O):∀b:O,mapP (λ_ _=>true) (λx m=>dD (O.plusO e x) m) b=ag (ky e b)
 | .z=>rfl
 | .c f d t=>by rw[mapP,ycv rfl,lx e t];rfl
theorem pe (e:O):∀b:O,(ky e b).len=b.len
 | .z=>rfl
 | .c f d t=>by simp only[ky,O.len,pe e t]
theorem lz {e:O} {n:Int} {r:O}:∀{b:O},b.NF->O.mulP e n r b=O.app (ky e (O.filt (λy _=>decide (¬y=.z)) b)) (if O.same .z b=0 then .z else .c e (n*O.same .z b) r)
 | .z,_=>rfl
 | .c f d t,hb=>by
   rw[O.mulP_c,O.filt_c]
   by_cases k:f=.z
   ·subst k;have B:=hb.2.1;rw[ycv rfl,ycw (by simp),O.Lt_z hb.2.2.1,O.same_self (r:= .z) trivial,ycw (by lia)]
    rfl
   ·rw[ycw k,ycv (by simpa using k),O.same_ne k,lz hb.2.2.2]
    rfl
def Fd:aX:=λws G q _=>∃a b:O,ws=[.tup (ag a),.tup (ag b)]/\a.NF/\b.NF/\a.dp<=40/\b.dp<=40/\O.hw a<=1000/\O.hw b<=1000/\O.mx a<=oN/\O.mx b<=oN/\q (.tup (ag (O.timesO a b))) G
theorem LV (F:bf K "times" "times" (aG 48) f fd) (F1:bu "whole_part" ["a"] 1 vU) (F2:bu "without_whole" ["a"] 2 BR) (F3:bu "plus" ["a","b"] 3 Fc) (mt:mg "tuple"=none):bo 4 f fd ["a","b"] Fd:=by
 refine dR F (N:=["a","b","exponent","parts","many"]) λ_ _ _ _ _ _ nd hr=>?_;apply al
 ·grind
 ·rintro ws G q e ⟨a,b,rfl,na,S,da,db,sa,sb,ma,mb,B⟩;have ar:=bh a;have az:=bh b;have la:=O.len_le_hw a;have lb:=O.len_le_hw b;nofun;refine⟨aI a,by lia,?_⟩;rw[aQ];cases a with
  | z=>
    rw[ycv (by simp)];exact am.done B
  | c e n r=>
    rw[ycw (by simp)];refine⟨aI b,by lia,?_⟩;rw[aQ]
    by_cases hb0:b=.z
    ·subst hb0;rw[ycv (by simp)];exact am.done B
    ·rw[ycw (by simpa using hb0)];subst hU;rw[O.hw_c] at sa;simp only[O.dp,O.len] at da la;have af:=O.len_le_hw e;have as:=O.len_le_hw r;rw[bc];unfold dD fK;nofun;cutsat;refine⟨b,rfl,S,by lia,?_⟩;rfl';show bw _ _ _ _ _ [none,none,none,some (W.tup (ag e))] G [] _;have lf:=fk (λy _=>decide (¬y=O.z)) b;have df:=O.dp_filt (λy _=>decide (¬y=O.z)) b;have sf:=O.hw_filt (λy _=>decide (¬y=O.z)) b;refine cR (λ_ _=>true) (λx m=>dD (O.plusO e x) m) trivial (tT _) (λy m hy k Y=>?_) (λy m hy _ k Y=>?_) (by rw[length_nil];lia) (λ_=>rfl) λZ ab=>?_
     ·rfl';exact Y
     ·have ly:=O.len_le_hw y;unfold dD fK at Y ⊢;rfl';exact⟨e,y,rfl,na.1,by lia,by lia,by lia,by lia,Y⟩
     rw[nil_append,lx];have L:=aa (G:=G) (a:=Z) (g:=GO.lst (ag (ky e (O.filt (λy _=>decide (¬y=O.z)) b))));have le:am G (av G Z (GO.lst (ag (ky e (O.filt (λy _=>decide (¬y=O.z)) b))))):=am.new ab;generalize av G Z (GO.lst (ag (ky e (O.filt (λy _=>decide (¬y=O.z)) b))))=G1 at L le ⊢;cutsat;refine⟨b,rfl,S,by lia,?_⟩;have ad:O.timesO (.c e n r) b=_:=lz (e:=e) (n:=n) (r:=r) S;rw[ad] at B;have hn:=na.2.1;have ai:=O.same_le_mx .z S;have aj:=O.same_nonneg .z S;rw[O.mx_c] at ma;have lm:=pe e (O.filt (λy _=>decide (¬y=O.z)) b);cutsat;split
     ·rename_i h0;refine⟨_,L,G,le,?_⟩;rw[ycv h0] at B;have:O.app (ky e (O.filt (λy _=>decide (¬y=O.z)) b)) .z=ky e (O.filt (λy _=>decide (¬y=O.z)) b):=oF (by rw[fj,EM,append_nil]);rw[this] at B;exact B
     ·rename_i h0;rw[ycw h0,fj,bc] at B;subst hU;have e1:cL (W.tup [W.tup (ag e),W.int n]::ag r) (some 1) none=ag r:=by rw[show(1:Int)=((1:Nat):Int) from rfl,jK];rfl
      rfl';rw[e1];refine⟨_,L,.inl (.inr (Bp (by lia) (by lia) (by lia) (by lia))),by rw[aL,lm];lia,by rw[length_append,aL,aL,length_cons,length_nil,lm];lia,G,le,?_⟩;rw[append_assoc];exact B
def IL:aX:=λws G q _=>∃(e:O) (n:Int) (b:O),ws=[dD e n,.tup (ag b)]/\e.NF/\b.NF/\1<=n/\e.dp<=40/\b.dp<=40/\O.hw e<=1000/\O.hw b<=1000/\O.mx e<=oN/\O.mx b<=oN/\q (.tup (ag (.c (O.timesO e b) (if 0<O.same .z b then n else 1) .z))) G
theorem LW (F:bf K "power_of_part" "power_of_part" (aG 55) f fd) (F1:bu "whole_part" ["a"] 1 vU) (F2:bu "times" ["a","b"] 4 Fd) (F3:bu "raised" ["exponent","times"] 2 BU):bo 5 f fd ["part","b"] IL:=by
 refine dR F (N:=["part","b","many"]) λ_ _ _ _ _ _ nd hr=>?_;apply al
 ·grind
 ·rintro ws G q e0 ⟨e,n,b,rfl,ne,nb,hn,Z,ad,ab,S,af,Y,hq⟩;unfold dD fK;refine au λU hU=>?_;have B:∀k:Int,1<=k->k=(if 0<O.same .z b then n else 1)->U { nx:=λx L=>∃G0,am G0 L/\q W.non G0,rt:=λw L=>∃G0,am G0 L/\q w G0 } [some (.tup [.tup (ag e),.int n]),some (.tup (ag b)),some (.int k)] G:=λk hk ek=>by
   subst hU;rfl';refine⟨e,b,rfl,ne,nb,Z,ad,ab,S,af,Y,_,k,rfl,by lia,?_⟩;rw[ycw (by lia),ek];exact am.done hq
  rfl';refine⟨b,rfl,nb,by lia,?_⟩;rfl';split
  ·rename_i h;exact B n hn (by rw[ycv h])
  ·rename_i h;exact B 1 (by lia) (by rw[ycw h])
def IM:aX:=λws G q _=>∃a b:O,ws=[.tup (ag a),.tup (ag b)]/\b.NF/\b.dp<=60/\25<=O.same .z b/\q (.bl true) G
theorem BV:O.mx O.one<=oN:=by decide+kernel
theorem LX (F:bf K "is_too_great" "is_too_great" (aG 56) f fd) (F1:bu "whole_part" ["a"] 1 vU) (ml:mg "len"=none) {S Z:Tok} (hf:mg "MOST_FACTORS"=some (.int 24 S)) (hp:mg "MOST_PARTS_powers"=some (.int 24 Z)):bo 2 f fd ["a","b"] IM:=by
 refine dR F (N:=["a","b"]) λ_ _ _ _ _ _ nd hr=>?_;apply al
 ·refine' ac ?s1 bU
  case s1=>eq_refl
 ·rintro ws G q e0 ⟨a,b,rfl,L,Y,hb,B⟩;nofun;refine⟨b,rfl,L,by lia,?_⟩;rfl';rw[ycv (by lia)];exact am.done B
def IN (TG:Addr):aX:=λws G q e=>∃a b:O,ws=[.tup (ag a),.tup (ag b)]/\b.NF/\b.dp<=40/\O.hw b<=1000/\O.mx b<=oN/\b≠ .z/\((a=om/\q (.tup (ag (.c b 1 .z))) G)∨((∃n,2<=n/\a=.c .z n .z)/\25<=O.same .z b/\∀G',am G G'->e (.ref TG) G'))
theorem scPw:ay ["a","b"] ["a","b"] (ae (aG 54)):=by right
theorem LY {TG:Addr} (F:bf K "power" "power" (aG 54) f fd) (F1:bu "whole" ["n"] 3 vV) (F2:bu "power_of_part" ["part","b"] 5 IL) (F3:bu "is_too_great_powers" ["a","b"] 2 IM) (ml:mg "len"=none) (mC:mg "TooGreat"=some (.ref TG)) (xC:XC K TG bT):bL 6 f fd ["a","b"] (IN TG):=by
 have nd:=scPw.nd;refine bX (k:=5) F scPw (λws G q e h=>by obtain⟨_,_,rfl,_⟩:=h;rfl) (λcdv A outer s0 H E ws G q e hr ab hE=>?_);obtain⟨a,b,rfl,Y,ar,af,L,S,Z⟩:=ab;apply al
 ·refine' ac ?s1 (ac ?s2 (ac ?s3 (ac (a9 ?c4 (ak (aP mC xC (λH1 G1=>hE _ H1 G1) rfl)) aM) bU)))
  case s1=>eq_refl
  case s2=>eq_refl
  case s3=>eq_refl
  case c4=>ac_rfl
 ·have ai:=bh b;nofun;refine⟨aI b,by lia,?_⟩;rw[aQ,ycw (by simpa using S)];subst hU;have e1:O.wh 1=O.one:=rfl;have B:∃(x:O) (n:Int),a=.c x n .z/\x.dp<=1/\a≠O.one/\((x=.z/\∀G',am G G'->e (.ref TG) G')/\25<=O.same .z b∨(x=O.one/\n=1/\q (.tup (ag (.c b 1 .z))) G)):=by
   rcases Z with⟨rfl,h⟩ | ⟨⟨n,hn,rfl⟩,h1,h2⟩
   ·exact⟨O.one,1,rfl,by decide,(λz=>by cases z),.inr ⟨rfl,rfl,h⟩⟩
   ·exact⟨.z,n,rfl,by decide,(λz=>by cases z;lia),.inl ⟨⟨rfl,h2⟩,h1⟩⟩
  obtain⟨x,n,rfl,hx,h1,Z⟩:=B;have aj:=bh (.c x n .z);have ad:=bh x;have hd:(O.c x n .z).dp<=2:=by simp only[O.dp];lia
  nofun;refine⟨aI _,by lia,?_⟩;rw[aQ,ycw (by simp)];refine⟨1,rfl,by lia,?_⟩;rw[e1];refine⟨aI _,aI O.one,by lia,?_⟩;rw[eJ,ycw (by intro z;exact h1 (of_decide_eq_true z))];subst hU;refine au λU hU=>?_;rw[bc];unfold dD fK;rfl';rw[ycv (by rfl)];refine⟨aI x,by lia,?_⟩;rw[aQ];rcases Z with⟨⟨rfl,h2⟩,h3⟩ | ⟨rfl,rfl,h2⟩
  ·rw[ycw (by simp)];cutsat;exact⟨.c .z n .z,b,rfl,Y,by lia,h3,by rfl';exact h2 G (am.refl G)⟩
  ·rw[ycv (by simp[O.one])];refine⟨O.one,1,b,rfl,O.NF.one,Y,by lia,by decide,by lia,by decide,by lia,BV,L,am.done ?_⟩;rw[O.one_times Y];have:(if 0<O.same .z b then (1:Int) else 1)=1:=by split<;> rfl
   rw[this];exact h2
noncomputable def jZ:O->List O
 | .z=>[]
 | .c e _ r=>e::jZ r
noncomputable def um (os:List O):Nat:=(os.map O.size).sum
theorem lA:∀a:O,mapP (λ_ _=>true) (λe _=> .tup (ag e)) a=cf (jZ a)
 | .z=>rfl
 | .c e n r=>by rw[mapP,ycv rfl,lA r];rfl
theorem pf:∀a:O,(jZ a).length=a.len
 | .z=>rfl
 | .c e n r=>by simp only[jZ,length_cons,pf r,O.len]
theorem uo:∀a:O,um (jZ a)+a.len=a.size
 | .z=>rfl
 | .c e n r=>by
   have:=uo r;simp only[jZ,um,map_cons,sum_cons,O.len,O.size] at this ⊢;lia
theorem uq:∀(a:O) (x:O),x∈jZ a->x.dp<=a.dp
 | .z,x,h=>by cases h
 | .c e n r,x,h=>by
   simp only[O.dp];rcases mem_cons.mp h with rfl | h
   ·lia
   ·have:=uq r x h;lia
theorem ur:∀(a:O) (x:O),x∈jZ a->O.hw x<=O.hw a
 | .z,x,h=>by cases h
 | .c e n r,x,h=>by
   rw[O.hw_c];rcases mem_cons.mp h with rfl | h
   ·lia
   ·have:=ur r x h;lia
theorem jh (a b:List O):um (a++b)=um a+um b:=by simp[um]
def NI (G:Gp) (a:O) (p:Addr) (j:Nat) (τ:bV) (G':Gp):Prop:=∃(os:List O) (m:Nat) (t3:Option W),j=um os+os.length/\τ=[some (.tup (ag a)),some (.int (m:Int)),some (.ref p),t3]/\am G G'/\G' p=some (.lst (cf os))/\m+um os=a.size/\os.length<=m+1/\∀x,x∈os->x.dp<=60/\O.hw x<=20000
def IP:aX:=λws G q _=>∃a:O,ws=[.tup (ag a)]/\a.dp<=60/\O.hw a<=20000/\∀G',am G G'->q (.bl (decide (400<a.size))) G'
theorem LZ (F:bf K "has_many_parts" "has_many_parts" (aG 80) f fd) (hm:mg "MOST_PARTS_readings"=some (.int 400 t1)) (ml:mg "len"=none):bo 1 f fd ["a"] IP:=by
 refine dR F (N:=["a","many","left","number"]) λ_ _ _ _ _ _ nd hr=>?_;apply al
 ·grind
 ·rintro ws G q e ⟨a,rfl,hd,hs,hq⟩;nofun;cutsat;intro p hp;subst hU;refine au λU hU=>?_;refine mB (NI G a p) ⟨_,[a],0,none,rfl,rfl,am.new hp,aa,by simp[um],by simp,λx hx=>by rw[mem_singleton.mp hx];exact⟨hd,hs⟩⟩ ?_;rintro j τ G' ⟨os,m,t3,rfl,rfl,Z,hG,hsz,ar,af⟩ B hB;have az:(os=[]∨400<m)->∀G2,am G G2->U { nx:=λx S=>∃G0,am G0 S/\q W.non G0,rt:=λw S=>∃G0,am G0 S/\q w G0 } [some (W.tup (ag a)),some (W.int ↑m),some (W.ref p),t3] G2:=λh G2 Y=>by
   subst hU;rfl';have e1:decide ((400:Int)<(m:Int))=decide (400<a.size):=by
    apply decide_eq_decide.mpr;rcases h with h | h
    ·subst h;simp[um] at hsz;lia
    ·lia
   rw[e1];exact am.done (hq G2 Y)
  rfl';intro p1 L;refine⟨_,.nil (ah hG L) aa,?_⟩;rcases List.eq_nil_or_concat os with e | ⟨os,o,e⟩
  ·subst e;rw[ycw (by decide)];exact az (.inl rfl) _ (Z.trans (am.new L))
  ·subst e;rw[List.concat_eq_append] at*;rw[ycv (by simp[cf])];refine bY (λh4=>?_) λh4=>az (.inr (by lia)) _ (Z.trans (am.new L));have as:=ah (g:=GO.lst []) hG L;have ad:=Z.trans (am.new (g:=GO.lst []) L);generalize av G' p1 (GO.lst [])=S at as ad ⊢;rw[jh] at hsz;rw[length_append,length_singleton] at ar;have a2:um [o]=o.size:=by simp[um]
   have ho:=uo o;have hl:=pf o;have aj:=af o (by simp);have a3:=O.len_le_hw o;refine⟨λa0 S=>∃m1,m1<um (os++[o])+(os++[o]).length/\NI G a p m1 a0 S,λ_ _ h=>h,?_⟩;subst hB;nofun;refine⟨cf os,.tup (ag o),by rw[cQ];exact as,?_⟩;cutsat;have hP:G p=none:=hp;have Y:am G (av S p (GO.lst (cf os))):=am.put ad hp;have ab:av S p (GO.lst (cf os)) p=some (.lst (cf os)):=aa;have a1:(ag o).length=o.len:=aL o;rw[a1];generalize av S p (GO.lst (cf os))=G2 at Y ab ⊢;subst hU;rfl';refine⟨⟨_,ab⟩,?_⟩;show bw _ _ _ _ _ [none,none] G2 [] _;refine cR (λ_ _=>true) (λe _=> .tup (ag e)) trivial (fG o) (λy m hy k hk=>?_) (λy m _ _ k hk=>?_) (by rw[length_nil];lia) (λ_=>rfl) λp2 ai=>?_
   ·rfl';exact hk
   ·unfold dD fK;rfl';exact hk
   ·rw[nil_append,lA];refine⟨_,_,ah ab ai,aa,?_,?_⟩
    ·simp only[cf,length_map];lia
    ·refine⟨um (os++jZ o)+(os++jZ o).length,?_,os++jZ o,m+o.len,some (.tup (ag o)),rfl,?_,am.put (Y.trans (am.new ai)) hp,?_,?_,?_,?_⟩
     ·rw[jh,jh,length_append,length_append,length_singleton];lia
     ·rw[Int.natCast_add]
     ·rw[aa];simp[cf]
     ·rw[jh];lia
     ·rw[length_append];lia
     ·intro x hx;rcases mem_append.mp hx with h | h
      ·exact af x (mem_append_left _ h)
      ·exact⟨ycy (uq o x h) aj.1,ycy (ur o x h) aj.2⟩
def yZ (d:Nat):aX:=λws G q _=>∃a:O,ws=[.tup (ag a)]/\a.dp<d/\q (.int (O.mx a)) G
theorem L0 (F:bf K "greatest" "greatest" (aG 24) f fd) (F1:bu "greatest" ["a"] k (yZ d)) (mx:mg "max"=none):bo (k+1) f fd ["a"] (yZ (d+1)):=by
 refine dR F (N:=["a","found","exponent","times"]) λ_ _ _ _ _ _ nd hr=>?_;apply al
 ·grind
 ·rintro ws G q e ⟨a,rfl,hx,hq⟩;have h0:=O.mx_nonneg a;nofun;cutsat;refine a8 (λws τ L=>L=G/\∃(r:O) (m:Int) (Z S:Option W),ws=ag r/\τ=[some (.tup (ag a)),some (.int m),Z,S]/\max m (O.mx r)=O.mx a/\0<=m/\r.dp<d+1) ?_ ?_ _ _ _ ⟨rfl,a,0,none,none,rfl,rfl,by lia,by lia,hx⟩
  ·rintro τ L ⟨rfl,r,m,Z,S,hw,rfl,Y,B,_⟩;refine⟨trivial,?_⟩;cases r with
   | z=>
     subst hU;rfl';simp only[O.mx] at Y;rw[show m=O.mx a by lia];exact am.done hq
   | c y n r=>cases hw
  ·rintro w1 ws τ L kk ⟨rfl,r,m,Z,S,hw,rfl,Y,B,hd⟩ hk;cases r with
   | z=>cases hw
   | c y n r=>
     rw[bc] at hw;cases hw;refine⟨trivial,?_⟩;simp only[O.dp] at hd;rw[O.mx_c] at Y;unfold dD fK;rfl';refine⟨y,rfl,by lia,?_⟩;rfl';refine hk _ _ ⟨rfl,r,_,_,_,rfl,rfl,?_,?_,by lia⟩
     ·have:=O.mx_nonneg y;split<;> split<;> lia
     ·split<;> split<;> lia
theorem IQ (T:Tx):∀d:Nat,bu "greatest" ["a"] d (yZ d)
 | 0=>T.qi.fx λf fd F=>io.none λws G q e z9=>by obtain⟨a,_,h,_⟩:=z9;lia
 | d+1=>T.qi.fx λf fd F=>L0 F (IQ T d) T.qTx
def BW (d:Nat):aX:=λws G q _=>∃a:O,ws=[.tup (ag a)]/\a.dp<d/\q (.int (a.dp:Int)) G
theorem L7 (F:bf K "deep" "deep" (aG 25) f fd) (F1:bu "deep" ["a"] k (BW d)) (mx:mg "max"=none):bo (k+1) f fd ["a"] (BW (d+1)):=by
 refine dR F (N:=["a","found","part"]) λ_ _ _ _ _ _ nd hr=>?_;apply al
 ·grind
 ·rintro ws G q e ⟨a,rfl,hx,hq⟩;nofun;cutsat;refine a8 (λws τ L=>L=G/\∃(r:O) (m:Int) (Y:Option W),ws=ag r/\τ=[some (.tup (ag a)),some (.int m),Y]/\max m (r.dp:Int)=a.dp/\0<=m/\r.dp<d+1) ?_ ?_ _ _ _ ⟨rfl,a,0,none,rfl,rfl,by lia,by lia,hx⟩
  ·rintro τ L ⟨rfl,r,m,Y,hw,rfl,S,B,_⟩;refine⟨trivial,?_⟩;cases r with
   | z=>
     subst hU;rfl';simp only[O.dp] at S;rw[show m=(a.dp:Int) by lia];exact am.done hq
   | c y n r=>cases hw
  ·rintro w1 ws τ L kk ⟨rfl,r,m,Y,hw,rfl,S,B,hd⟩ Z;cases r with
   | z=>cases hw
   | c y n r=>
     rw[bc] at hw;cases hw;refine⟨trivial,?_⟩;simp only[O.dp] at hd S;unfold dD fK;rfl';refine⟨y,rfl,by lia,?_⟩;rfl';exact Z _ _ ⟨rfl,r,_,_,rfl,rfl,by split<;> lia,by split<;> lia,by lia⟩
theorem IR (T:Tx):∀d:Nat,bu "deep" ["a"] d (BW d)
 | 0=>T.qj.fx λf fd F=>io.none λws G q e z9=>by obtain⟨a,_,h,_⟩:=z9;lia
 | d+1=>T.qj.fx λf fd F=>L7 F (IR T d) T.qTx
def sj (a:O):Prop:=400<a.size∨10^300<=O.mx a∨40<a.dp
noncomputable instance (a:O):Decidable (sj a):=by unfold sj;infer_instance
def IS:aX:=λws G q _=>∃a:O,ws=[.tup (ag a)]/\a.dp<=60/\O.hw a<=20000/\∀G',am G G'->q (.bl (decide (sj a))) G'
theorem L8 (F:bf K "is_too_great" "is_too_great" (aG 78) f fd) (F1:bu "has_many_parts" ["a"] 1 IP) (F2:bu "greatest" ["a"] 61 (yZ 61)) (F3:bu "deep" ["a"] 61 (BW 61)) (hm:mg "MOST_DEEP_readings"=some (.int 40 Z)):bo 62 f fd ["a"] IS:=by
 refine dR F (N:=["a"]) λ_ _ _ _ _ _ nd hr=>?_;apply al
 ·grind
 ·rintro ws G q e ⟨a,rfl,hd,hs,L⟩;rfl';refine⟨a,rfl,hd,hs,λS B=>?_⟩;rfl';have Y:((10:Int)^60)^5=10^300:=by decide+kernel
  simp only[Int.reducePow] at Y;refine bY (λh1=>?_) λh1=>?_
  ·rw[show true=decide (sj a) from (ydz (.inl h1)).symm];exact am.done (L S B)
  refine⟨a,rfl,by lia,?_⟩;rfl';refine⟨.inr ⟨by decide,by decide,by decide+kernel⟩,?_⟩;rw[Y];refine @bY _ _ _ _ (λh2=>?_) λh2=>?_
  ·rw[show true=decide (sj a) from (ydz (.inr (.inl h2))).symm];exact am.done (L S B)
  refine⟨a,rfl,by lia,?_⟩;rfl';have e1:decide ((40:Int)<(a.dp:Int))=decide (sj a):=by
   apply decide_eq_decide.mpr;constructor
   ·intro h;exact .inr (.inr (by lia))
   ·intro h;rcases h with h | h | h
    ·exact absurd h h1
    ·exact absurd h h2
    ·lia
  rw[e1];exact am.done (L S B)
noncomputable abbrev aF (l:List Nat):Str:=⟨l.toArray⟩
theorem dh (l m:List Nat):aF l++aF m=aF (l++m):=by
 show Str.mk (l.toArray++m.toArray)=_;simp
theorem aC (l:List Nat):(aF l).length=l.length:=by simp[Str.length]
theorem mX (x y:Str):(W.str x).eq (.str y)=decide (x=y):=by
 simp only[W.eq];rw[Bool.eq_iff_iff,beq_iff_eq,decide_eq_true_eq]
theorem txS_inj:aF l=aF m↔l=m:=⟨λh=>by have:=congrArg (λz:Str=>z.cps.toList) h;simpa using this,λh=>by rw[h]⟩
theorem cA (l m:List Nat):(W.str (aF l)).eq (.str (aF m))=decide (l=m):=by
 rw[mX];exact decide_eq_decide.mpr txS_inj
noncomputable def BX:List Nat->Bool
 | [x]=>ck x
 | _=>false
noncomputable def BY:List Nat->Bool
 | [x]=>cE x
 | _=>false
def so:aX:=λws G q _=>∃l:List Nat,ws=[.str (aF l)]/\l.length<=1/\q (.bl (BX l)) G
def ss:aX:=λws G q _=>∃l:List Nat,ws=[.str (aF l)]/\l.length<=1/\q (.bl (BY l)) G
theorem mY (a x:Nat):(!decide (([x]:List Nat)<[a]))=decide (a<=x):=by
 rw[Bool.eq_iff_iff];simp[List.cons_lt_cons_iff]
theorem ph (a x:Nat):(!decide (([a]:List Nat)<[x]))=decide (x<=a):=mY x a
theorem L9 (F:bf K "is_figure" "is_figure" (aG 68) f fd):bo 1 f fd ["sign"] so:=by
 refine dR F (N:=["sign"]) λ_ _ _ _ _ _ nd hr=>?_;apply al
 ·grind
 ·rintro ws G q e ⟨l,rfl,L,B⟩;rfl';refine⟨_,rfl,?_⟩;rw[show(Str.ofString "0").cps.toList=[48] from rfl,show(Str.ofString "9").cps.toList=[57] from rfl]
  match l,L with
  | [],_=>exact am.done B
  | [x],_=>
    rw[mY,ph];refine bY (λh=>?_) λh=>?_
    ·rw[show decide (x<=57)=BX [x] from ?_]
     ·exact am.done B
     ·show _=decide (48<=x/\x<=57);exact decide_eq_decide.mpr ⟨λz=>⟨of_decide_eq_true h,z⟩,λz=>z.2⟩
    ·rw[show false=BX [x] from ?_]
     ·exact am.done B
     ·show _=decide (48<=x/\x<=57);exact(ydy λz=>h (ydz z.1)).symm
theorem Ma (F:bf K "is_letter" "is_letter" (aG 69) f fd):bo 1 f fd ["sign"] ss:=by
 refine dR F (N:=["sign"]) λ_ _ _ _ _ _ nd hr=>?_;apply al
 ·grind
 ·rintro ws G q e ⟨l,rfl,L,B⟩;rfl';refine⟨_,rfl,?_⟩;rw[show(Str.ofString "a").cps.toList=[97] from rfl,show(Str.ofString "z").cps.toList=[122] from rfl]
  match l,L with
  | [],_=>exact am.done B
  | [x],_=>
    rw[mY,ph];refine bY (λh=>?_) λh=>?_
    ·rw[show decide (x<=122)=BY [x] from ?_]
     ·exact am.done B
     ·show _=decide (97<=x/\x<=122);exact decide_eq_decide.mpr ⟨λz=>⟨of_decide_eq_true h,z⟩,λz=>z.2⟩
    ·rw[show false=BY [x] from ?_]
     ·exact am.done B
     ·show _=decide (97<=x/\x<=122);exact(ydy λz=>h (ydz z.1)).symm
def Fe:aX:=λws G q _=>∃l:List Nat,ws=[.str (aF l)]/\l.length<=5000/\∀G',am G G'->q (.bl (aR l)) G'
theorem Mb (F:bf K "is_figures" "is_figures" (aG 70) f fd) (F1:bu "is_figure" ["sign"] 1 so) (hm:mg "MOST_FIGURES"=some (.int 60 t1)) (ml:mg "len"=none) (ma:mg "all"=none):bo 2 f fd ["text"] Fe:=by
 refine dR F (N:=["text"]) λ_ _ _ _ _ _ nd hr=>?_;apply al
 ·grind
 ·rintro ws G q e ⟨l,rfl,hl,hq⟩;nofun;have B:∀{c:Prop},¬c->(aR l=true->c)->∀G',am G G'->∃G0,am G0 G'/\q (.bl false) G0:=λhc hi G' le=>by
   have:aR l=false:=Bool.eq_false_iff.mpr λz=>hc (hi z);rw[←this];exact am.done (hq G' le)
  have S:aR l=true->1<=l.length/\l.length<=60/\l.all ck=true:=λh=>by
   unfold aR at h;simp only[Bool.and_eq_true,decide_eq_true_eq] at h;exact⟨h.1.1.1,h.1.1.2,h.1.2⟩
  refine⟨by rw[aC];lia,_,rfl,?_⟩;rw[aC];refine bY (λh1=>?_) λh1=>B (c:=1<=l.length) (λz=>h1 (ydz (by lia))) (λz=>(S z).1) _ (am.refl _);refine bY (λh2=>B (c:=l.length<=60) (λz=>h2 (by lia)) (λz=>(S z).2.1) _ (am.refl _)) λh2=>?_;have h1:1<=l.length:=by have:=of_decide_eq_true h1;lia
  have h2:l.length<=60:=by have:=Decidable.of_not_not h2;lia
  refine gQ (i:=1) (λc:Nat=>W.str (aF [c])) (λc=>W.bl (ck c)) (τ0:=dN _ _) trivial (λc hc k hk=>?_) (by show 0+_<=_;lia) (λ_=>rfl) λp hp=>⟨l.map ck,?_,?_⟩
  ·rfl';exact⟨[c],rfl,ycx _,hk⟩
  ·rw[aa,nil_append,map_map]
   rfl
  have ea:(l.map ck).all id=l.all ck:=by rw[List.all_map];rfl
  rw[ea];have L:=am.new (g:=GO.lst ([]++l.map λc=>W.bl (ck c))) hp;generalize av G p (GO.lst ([]++l.map λc=>W.bl (ck c)))=G1 at L ⊢;refine bY (λY=>B (c:=l.all ck=true) (λz=>by rw[z] at Y;cases Y) (λz=>(S z).2.2) _ L) λY=>?_;have Y:l.all ck=true:=by cases e:l.all ck with | true=>rfl | false=>exact absurd e Y
  have ef:aR l=(decide (l=[48])||decide (l.head?≠some 48)):=by
   unfold aR;rw[Y,ydz ⟨h1,h2⟩]
   rfl
  subst hU;rfl';refine⟨rfl,rfl,zero_le _,?_⟩;rw[show Str.ofString "0"=aF [48] from rfl,cA];refine bY (λZ=>?_) λZ=>?_
  ·have:aR l=true:=by rw[ef,Z];rfl
   rw[←this];exact am.done (hq _ L)
  ·cases l with
   | nil=>exact absurd h1 (by decide)
   | cons x l=>
     refine⟨by rw[aC];lia,x,aA (j:=0) rfl,rfl,rfl,zero_le _,?_⟩;rw[show({ cps:= #[x] }:Str)=aF [x] from rfl,cA];have Z:decide (x::l=[48])=false:=Bool.eq_false_iff.mpr Z;have:(!decide ([x]=[48]))=aR (x::l):=by
      rw[ef,Z,Bool.false_or,Bool.eq_iff_iff];simp
     rw[this];exact am.done (hq _ L)
def Ff:aX:=λws G q _=>∃l:List Nat,ws=[.str (aF l)]/\l.length<=5000/\∀G',am G G'->q (.bl (aN l)) G'
theorem Mc (F:bf K "is_name" "is_name" (aG 71) f fd) (F1:bu "is_letter" ["sign"] 1 ss) (hm:mg "MOST_LETTERS"=some (.int 8 t1)) (ml:mg "len"=none) (ma:mg "all"=none):bo 2 f fd ["text"] Ff:=by
 refine dR F (N:=["text"]) λ_ _ _ _ _ _ nd hr=>?_;apply al
 ·grind
 ·rintro ws G q e ⟨l,rfl,hl,Z⟩;nofun;have B:∀{c:Prop},¬c->(aN l=true->c)->∀Y,am G Y->∃G0,am G0 Y/\q (.bl false) G0:=λhc hi Y le=>by
   have:aN l=false:=Bool.eq_false_iff.mpr λz=>hc (hi z);rw[←this];exact am.done (Z Y le)
  have L:aN l=true->1<=l.length/\l.length<=8/\l≠[119]:=λh=>by
   unfold aN at h;simp only[Bool.and_eq_true,decide_eq_true_eq] at h;exact⟨h.1.1.1,h.1.1.2,h.1.2⟩
  refine⟨by rw[aC];lia,_,rfl,?_⟩;rw[aC];refine bY (λh1=>?_) λh1=>B (c:=1<=l.length) (λz=>h1 (ydz (by lia))) (λz=>(L z).1) _ (am.refl _);refine bY (λh2=>B (c:=l.length<=8) (λz=>h2 (by lia)) (λz=>(L z).2.1) _ (am.refl _)) λh2=>?_;have h1:1<=l.length:=by have:=of_decide_eq_true h1;lia
  have h2:l.length<=8:=by have:=Decidable.of_not_not h2;lia
  refine⟨rfl,rfl,zero_le _,?_⟩;rw[show Str.ofString "w"=aF [119] from rfl,cA];refine bY (λS=>B (c:=l≠[119]) (λz=>z (of_decide_eq_true S)) (λz=>(L z).2.2) _ (am.refl _)) λS=>?_;have S:l≠[119]:=λz=>S (ydz z);subst hU;rfl';refine gQ (i:=1) (λc:Nat=>W.str (aF [c])) (λc=>W.bl (cE c)) (τ0:=dN _ _) trivial (λc hc k hk=>?_) (by show 0+_<=_;lia) (λ_=>rfl) λp hp=>⟨l.map cE,?_,?_⟩
  ·rfl';exact⟨[c],rfl,ycx _,hk⟩
  ·rw[aa,nil_append,map_map]
   rfl
  have ea:(l.map cE).all id=aN l:=by
   rw[List.all_map];unfold aN;rw[ydz ⟨h1,h2⟩,ydz S]
   rfl
  rw[ea];exact am.done (Z _ (am.new hp))
noncomputable def cS:bx->W
 | .num a=> .tup (ag a)
 | .nam l=> .str (aF l)
 | .op x=> .str (aF [x])
def BZ:aX:=λws G q _=>ws=[]/\q (.tup (ag om)) G
theorem Me (F:bf K "endless" "endless" (aG 18) f fd) (F1:bu "whole" ["n"] 3 vV) (F2:BP "raised" ["exponent","times"] 2 BU [.int 1]):bo 4 f fd [] BZ:=by
 refine dR F (N:=[]) λ_ _ _ _ _ _ nd hr=>?_;apply al
 ·grind
 ·rintro ws G q e ⟨rfl,B⟩;rfl';refine⟨1,rfl,by decide,O.wh 1,1,rfl,by decide,am.done ?_⟩;exact B
def y0 (C:Addr):aX:=λws G q e=>∃l:List Nat,ws=[.str (aF l)]/\l.length<=5000/\(∀x,ki l=some x->∀G',am G G'->q (cS x) G')/\(ki l=none->∀G',am G G'->e (.ref C) G')
theorem scTo:ay ["word"] ["word"] (ae (aG 72)):=by right
theorem Mf (F:bf K "thing_of" "thing_of" (aG 72) f fd) (F1:bu "endless" [] 4 BZ) (F2:bu "is_figures" ["text"] 2 Fe) (F3:bu "is_name" ["text"] 2 Ff) (F4:bu "whole" ["n"] 3 vV) (mC:mg "NoText"=some (.ref C)) (xC:XC K C bC) (mi:mg "int"=none):bL 5 f fd ["word"] (y0 C):=by
 have nd:=scTo.nd;refine bX (k:=4) F scTo (λws G q e h=>by obtain⟨_,rfl,_⟩:=h;rfl) (λcdv A outer s H E ws G q e hr ab hE=>?_);obtain⟨l,rfl,hl,B,Y⟩:=ab;apply al
 ·refine' ac ?s1 (ac ?s2 (ac ?s3 (ak (aP mC xC (λH1 Z=>hE _ H1 Z) rfl))))
  case s1=>eq_refl
  case s2=>eq_refl
  case s3=>eq_refl
 ·nofun;refine⟨rfl,rfl,zero_le _,?_⟩;rw[show Str.ofString "w"=aF [119] from rfl,cA];refine bY (λh1=>?_) λh1=>?_
  ·have h1:l=[119]:=of_decide_eq_true h1;refine⟨rfl,am.done (B (.num om) ?_ G (am.refl _))⟩;rw[h1]
   rfl
  have h1:l≠[119]:=λz=>h1 (ydz z);cutsat;refine⟨l,rfl,hl,λZ L=>?_⟩;rfl';refine bY (λh2=>?_) λh2=>?_
  ·have h4:l.all ck=true/\1<=l.length/\l.length<=60:=by
    unfold aR at h2;simp only[Bool.and_eq_true,decide_eq_true_eq] at h2;exact⟨h2.1.2,h2.1.1⟩
   refine⟨λc hc=>?_,λz=>?_,by rw[aC];lia,_,rfl,Int.natCast_nonneg _,am.done ?_⟩
   ·have:=all_eq_true.mp h4.1 c hc;exact of_decide_eq_true this
   ·rw[z] at h4;exact absurd h4.2.1 (by decide)
   ·refine B (.num (O.wh (fh l))) ?_ Z L;unfold ki;rw[ycw h1,ycv h2]
  cutsat;refine⟨l,rfl,hl,λG2 S=>?_⟩;rfl';have h2:aR l=false:=Bool.eq_false_iff.mpr h2;refine bY (λh3=>?_) λh3=>?_
  ·refine am.done (B (.nam l) ?_ G2 (L.trans S));unfold ki;rw[ycw h1,h2,ycw (by decide),ycv h3]
  ·subst hU;rfl';refine Y ?_ G2 (L.trans S);unfold ki;rw[ycw h1,h2,ycw (by decide),ycw h3]
def y7 (a:O):Prop:=a.NF/\kU a
theorem B0 {a:O} (h:kU a):¬sj a:=λz=>by
 obtain⟨h1,h2,B⟩:=h;rcases z with z | z | z
 ·lia
 ·exact absurd h2 (Int.not_lt.mpr z)
 ·lia
def IT (TG:Addr):aX:=λws G q e=>∃(x:Nat) (a b:O) (o:Option O),ws=[.tup (ag a),.str (aF [x]),.tup (ag b)]/\y7 a/\y7 b/\Jn x a b o/\(∀r,o=some r->r.NF->∀G',am G G'->q (.tup (ag r)) G')/\(o=none->∀G',am G G'->e (.ref TG) G')
theorem scJn:ay ["first","sign","second","found"] ["first","sign","second"] (ae (aG 77)):=by right
theorem Mg {TG:Addr} (F:bf K "joined" "joined" (aG 77) f fd) (F1:bu "plus" ["a","b"] 3 Fc) (F2:bu "times" ["a","b"] 4 Fd) (R3:iC "power" ["a","b"] 6 (IN TG) []) (F4:bu "is_too_great_readings" ["a"] 62 IS) (mC:mg "TooGreat"=some (.ref TG)) (xC:XC K TG bT):bL 63 f fd ["first","sign","second"] (IT TG):=by
 have nd:=scJn.nd;refine bX (k:=62) F scJn (λws G q e h=>by obtain⟨_,_,_,_,rfl,_⟩:=h;rfl) (λcdv A outer s0 H E ws G q e hr ab hE=>?_);obtain⟨x,a,b,o,rfl,fa,fb,hj,B,Z⟩:=ab;apply al
 ·refine' ac (a9 ?c1 ?b1 (ak (a9 ?c2 ?b2 (ak (cr 3 nd rfl (by first | exact Or.inl rfl | exact Or.inr rfl) (bb R3 (aH.mono hr (by lia)) hE rfl ?a3)))))) (ac (a9 ?c4 (ak (aP mC xC (λH1 L=>hE _ H1 L) rfl)) aM) (ak ?s5))
  case c1=>ac_rfl
  case b1=>grind
  case c2=>ac_rfl
  case b2=>grind
  case a3=>walk_at "Qa"
  case c4=>ac_rfl
  case s5=>eq_refl
 ·have la:=O.len_le_size a;have lb:=O.len_le_size b;have wa:=O.hw_le_size a;have wb:=O.hw_le_size b;obtain⟨na,a1,a2,a3⟩:=id fa;obtain⟨S,b1,b2,b3⟩:=id fb;have cp:(10:Int)^300<=oN:=by decide+kernel
  have ma:O.mx a<=oN:=ydv (Int.le_of_lt a2) cp;have mb:O.mx b<=oN:=ydv (Int.le_of_lt b2) cp;refine au λU hU=>?_;have go:∀r,o=some r->r.NF->kU r->U { nx:=λx L=>∃G0,am G0 L/\q W.non G0,rt:=λw L=>∃G0,am G0 L/\q w G0 } [some (.tup (ag a)),some (.str (aF [x])),some (.tup (ag b)),some (.tup (ag r))] G:=λr ho Y hs=>by
   have r1:=hs.1;have r3:=hs.2.2;have wr:=O.hw_le_size r;cutsat;refine⟨r,rfl,by lia,by lia,λG' hG=>?_⟩;rfl';refine bY (λh=>absurd h (B0 hs)) λh=>?_;subst hU;rfl';exact am.done (B r ho Y G' hG)
  rfl';refine⟨rfl,rfl,zero_le _,?_⟩;rw[show Str.ofString "+"=aF [43] from rfl,cA,show Str.ofString "*"=aF [42] from rfl];cases hj with
  | add h=>
    rw[ycv (by decide)];exact⟨a,b,rfl,na,by lia,by lia,by lia,by lia,go _ rfl (O.NF.plus na S) h⟩
  | @mul e n h Y=>
    rw[ycw (by decide)];refine⟨rfl,rfl,zero_le _,?_⟩;rw[cA,ycv (by decide)];refine⟨_,_,rfl,na,S,by lia,by lia,by lia,by lia,ma,mb,?_⟩;have e1:O.timesO (.c e 1 .z) (.c .z n .z)=.c e n .z:=by
     have:=O.times_wh (e:=e) (n:=1) (r:= .z) (m:=n) (by lia);rw[O.wh_pos (by lia),Int.one_mul] at this;exact this
    rw[e1];exact go _ rfl ⟨na.1,Y,trivial,trivial⟩ h
  | pow h hb=>
    rw[ycw (by decide)];refine⟨rfl,rfl,zero_le _,?_⟩;rw[cA,ycw (by decide)];exact⟨_,b,rfl,S,by lia,by lia,mb,hb,.inl ⟨rfl,go _ rfl ⟨S,by decide,trivial,trivial⟩ h⟩⟩
  | @ref n m Y hm=>
    rw[ycw (by decide)];refine⟨rfl,rfl,zero_le _,?_⟩;rw[cA,ycw (by decide)];exact⟨_,_,rfl,S,by lia,by lia,mb,(λz=>by cases z),.inr ⟨⟨n,Y,rfl⟩,by rw[O.same_self (r:= .z) trivial];exact hm,Z rfl⟩⟩
def Ko:bx->Prop
 | .num a=>y7 a
 | _=>True
def IU (TG:Addr):aX:=λws G q e=>∃(a:Addr) (s:List bx) (o:Option O),ws=[.ref a]/\G a=some (.lst (s.map cS))/\s.length<=8000/\(∀x,x∈s->Ko x)/\Rn s [] o/\(∀r,o=some r->y7 r->∀G',am G G'->q (.tup (ag r)) G')/\(o=none->∀G',am G G'->e (.ref TG) G')
theorem Fh {y:Nat} {a b r:O} (h:Jn y a b (some r)):kU r:=by
 cases h<;> assumption
theorem scRk:ay ["steps","left","step","second","first"] ["steps"] (ae (aG 76)):=by right
theorem Mh {TG:Addr} (F:bf K "reckoned" "reckoned" (aG 76) f fd) (R1:iC "joined" ["first","sign","second"] 63 (IT TG) []) (mi:mg "isinstance"=none) (mt:mg "tuple"=none):bL 64 f fd ["steps"] (IU TG):=by
 have nd:=scRk.nd;refine bX (k:=63) F scRk (λws G q e h=>by obtain⟨_,_,_,rfl,_⟩:=h;rfl) (λcdv A outer s0 H E ws G q e hr az hE=>?_);obtain⟨a,s,o,rfl,ha,hs,a0,ai,af,aj⟩:=az;apply al
 ·refine' ac ?s1 (ac (cK PassesOwn.leaving rfl ?it ?tg (ak (a9 ?c1 ?b1 (ac ?e1 (ac ?e2 (ak ?e3)))))) (ak ?s3))
  case s1=>eq_refl
  case it=>walk_at "Qi"
  case tg=>walk_at "Qg"
  case c1=>ac_rfl
  case b1=>grind
  case e1=>eq_refl
  case e2=>eq_refl
  case e3=>exact bI (fX (by ac_nf) (bb R1 (aH.mono hr (by lia)) hE rfl (by walk_at "Qa")))
  case s3=>eq_refl
 ·skip
  nofun;intro p hp;have ap:a≠p:=λz=>by rw[z,hp] at ha;cases ha
  cutsat;refine⟨_,(ao ap).trans ha,?_⟩;refine a8 (λws τ G'=>∃(s1:List bx) (st:List O) (t2 t3 t4:Option W),ws=s1.map cS/\τ=[some (.ref a),some (.ref p),t2,t3,t4]/\am G G'/\G' p=some (.lst (cf st.reverse))/\st.length+s1.length<=8000/\(∀x,x∈s1->Ko x)/\(∀o,o∈st->y7 o)/\Rn s1 st o) ?_ ?_ _ _ _ ⟨s,[],_,_,_,rfl,rfl,am.new hp,aa,by simpa using hs,a0,(λo h=>by cases h),ai⟩
  ·rintro τ G' ⟨s1,st,t2,t3,t4,hw,rfl,S,hG,hl,_,B,L⟩;cases s1 with
   | cons x s1=>cases hw
   | nil=>
     refine⟨S _ _ ha,?_⟩;cases L with
     | done r=>
     subst hU;rfl';exact⟨_,_,hG,aA (j:=0) rfl,am.done (af r rfl (B r yby) G' S)⟩
  ·rintro w1 ws τ G' kk ⟨s1,st,t2,t3,t4,hw,rfl,S,hG,hl,ab,B,L⟩ hk;cases s1 with
   | nil=>cases hw
   | cons x s1=>
     cases hw;refine⟨S _ _ ha,?_⟩;rw[length_cons] at hl;have hx:=ab x yby;have ad:∀z,z∈s1->Ko z:=λz hz=>ab z (ybx _ hz);cases L with
     | @num b _ _ _ L=>
       unfold cS;rfl';refine⟨⟨_,hG⟩,_,hG,by simp only[cf,length_map,length_reverse];lia,hk _ _ ⟨s1,b::st,_,_,_,rfl,rfl,am.put S hp,?_,?_,ad,λo ho=>?_,L⟩⟩
       ·rw[aa,reverse_cons,cQ]
       ·rw[length_cons];lia
       ·rcases mem_cons.mp ho with rfl | ho
        ·exact hx
        ·exact B o ho
     | @op y Z b r _ st _ hj L=>
       unfold cS;rfl';simp only[kO];rw[ycw (by decide)];have gb:=B b yby;have ga:=B Z (ybx _ yby);refine⟨cf (Z::st).reverse,.tup (ag b),by rw[hG,reverse_cons,cQ],cf st.reverse,.tup (ag Z),by rw[aa,reverse_cons,cQ],?_⟩;rw[gk];refine⟨⟨_,aa⟩,y,Z,b,_,rfl,ga,gb,hj,λr' ar as G3 Y=>?_,λz=>by cases z⟩;cases ar;refine⟨_,Y _ _ aa,by simp only[cf,length_map,length_reverse];simp only[length_cons] at hl;lia,hk _ _ ⟨s1,r::st,_,_,_,rfl,rfl,am.put ((am.put S hp).trans Y) hp,?_,?_,ad,λo ho=>?_,L⟩⟩
       ·rw[aa,reverse_cons,cQ]
       ·simp only[length_cons] at hl ⊢;lia
       ·rcases mem_cons.mp ho with rfl | ho
        ·exact⟨as,Fh hj⟩
        ·exact B o (ybx _ (ybx _ ho))
     | @bad y Z b _ st hj=>
       unfold cS;rfl';simp only[kO];rw[ycw (by decide)];refine⟨cf (Z::st).reverse,.tup (ag b),by rw[hG,reverse_cons,cQ],cf st.reverse,.tup (ag Z),by rw[aa,reverse_cons,cQ],?_⟩;rw[gk];exact⟨⟨_,aa⟩,y,Z,b,_,rfl,B Z (ybx _ yby),B b yby,hj,(λr z=>by cases z),λ_ G3 Y=>aj rfl G3 ((am.put S hp).trans Y)⟩
noncomputable def mZ (l:List Nat) (p:Nat) (a:Addr):List (Str×W):=[("text",.str (aF l)),("place",.int (p:Int)),("steps",.ref a)]
structure Kq (C:Addr) (G:Gp) (r a:Addr) (l:List Nat) (p:Nat) (s:List bx):Prop where
 hr:G r=some (.ins C (mZ l p a))
 ha:G a=some (.lst (s.map cS))
 pl:p<=l.length
 ll:l.length<=2000
 sl:s.length+l.length<=6000+p
structure B1 (K:yav) (C:Addr):Prop where
 c:kn K C
 t:NoAttr K C "text"
 p:NoAttr K C "place"
 s:NoAttr K C "steps"
def y8 (C:Addr):aX:=λws G q _=>∃(r a:Addr) (l:List Nat) (p:Nat),ws=[.ref r]/\G r=some (.ins C (mZ l p a))/\p<=l.length/\l.length<=2000/\q (.str (aF ((l.drop p).take 1))) G
theorem scSg:ay ["self"] ["self"] (ae (eV 73 7)):=by right
theorem Mj (Y:B1 K C) (F:bf K "sign" "Reading.sign" (eV 73 7) f fd):bo 1 f fd ["self"] (y8 C):=by
 have nd:=scSg.nd;obtain⟨B,ct,L,cs⟩:=Y;refine Eb F scSg (λws G q e h=>by obtain⟨_,_,_,_,rfl,_⟩:=h;rfl) (λcdv A outer s H E hr=>?_);apply al
 ·grind
 ·rintro ws G q e ⟨r,a,l,p,rfl,hr,S,hl,Z⟩;rfl';refine⟨r,C,_,_,rfl,hr,⟨B,ct⟩,rfl,r,C,_,_,rfl,hr,⟨B,L⟩,rfl,?_⟩;rfl';refine⟨r,C,_,_,rfl,hr,⟨B,L⟩,rfl,?_⟩;rfl';refine⟨by rw[aC];lia,p,p+1,by rw[aC];exact S,.inr rfl,.inr rfl,am.done ?_⟩;rw[Nat.add_sub_cancel_left];exact Z
def vW (C:Addr):aX:=λws G q _=>∃(r a:Addr) (l:List Nat) (p x:Nat),ws=[.ref r,.str (aF [x])]/\G r=some (.ins C (mZ l p a))/\p<=l.length/\l.length<=2000/\
 ((l.drop p).head?=some x->q (.bl true) (av G r (.ins C (mZ l (p+1) a))))/\((l.drop p).head?≠some x->q (.bl false) G)
theorem pk (l:List Nat) (x:Nat):l.take 1=[x]↔l.head?=some x:=by
 cases l with
 | nil=>simp
 | cons y l=>simp
theorem scPb:ay ["self","sign"] ["self","sign"] (ae (eV 73 6)):=by right
theorem Ml (hC:B1 K C) (F:bf K "pass_by" "Reading.pass_by" (eV 73 6) f fd) (M1:yY C "sign" ["self"] 1 (y8 C) []):bo 2 f fd ["self","sign"] (vW C):=by
 have nd:=scPb.nd;obtain⟨Y,ct,S,cs⟩:=hC;refine Eb F scPb (λws G q e h=>by obtain⟨_,_,_,_,_,rfl,_⟩:=h;rfl) (λcdv A outer s H E hr=>?_);apply al
 ·grind
 ·rintro ws G q e ⟨r,a,l,p,x,rfl,hr,Z,hl,B,L⟩;nofun;refine⟨r,_,rfl,hr,rfl,r,a,l,p,rfl,hr,Z,hl,?_⟩;rfl';refine⟨rfl,rfl,zero_le _,?_⟩;rw[cA];refine bY (λh=>?_) λh=>?_
  ·exact am.done (L λz=>by rw[ydz ((pk _ _).mpr z)] at h;cases h)
  ·have hx:(l.drop p).head?=some x:=(pk _ _).mp (by
    cases e0:decide (List.take 1 (List.drop p l)=[x]) with
    | true=>exact of_decide_eq_true e0
    | false=>exact absurd e0 h)
   cutsat;refine⟨r,C,_,_,rfl,hr,⟨Y,S⟩,rfl,?_⟩;rfl';refine⟨r,C,_,rfl,hr,⟨Y,S⟩,by simp[mZ],?_⟩;subst hU;rfl';refine am.done ?_;exact B hx
theorem ji (h:G r=some g):av G r g=G:=by
 funext x
 by_cases e:x=r
 ·rw[e,aa,h]
 ·rw[ao e]
theorem B3 (l:List Nat):(dg l).length<=l.length:=by
 have:=congrArg List.length (fF l);rw[length_append] at this;lia
theorem y9 (l:List Nat):l.take (dg l).length=dg l:=by
 have:l.take (dg l).length=(dg l++rF l).take (dg l).length:=by rw[fF]
 rw[this,List.take_append_of_le_length (ycx _),take_length]
theorem zc:(BX (l.take 1)||BY (l.take 1))=decide (dg l≠[]):=by
 cases l with
 | nil=>rfl
 | cons x l=>
   show dz x=_;unfold dg;cases dz x<;> simp
theorem zd (h:dg l≠[]):dg (l.drop 1)=(dg l).drop 1:=by
 cases l with
 | nil=>exact absurd rfl h
 | cons x l=>
   unfold dg at h;show dg l=(dg (x::l)).drop 1
   conv=>rhs;unfold dg
   split
   ·rfl
   ·rename_i B;rw[ycw B] at h;exact absurd rfl h
def Fj (C:Addr):aX:=λws G q _=>∃(r a:Addr) (l:List Nat) (p:Nat),ws=[.ref r]/\G r=some (.ins C (mZ l p a))/\p<=l.length/\l.length<=2000/\q (.str (aF (dg (l.drop p)))) (av G r (.ins C (mZ l (p+(dg (l.drop p)).length) a)))
theorem scWd:ay ["self","first"] ["self"] (ae (eV 73 5)):=by right
theorem Mm (hC:B1 K C) (F:bf K "word" "Reading.word" (eV 73 5) f fd) (M1:yY C "sign" ["self"] 1 (y8 C) []) (F1:bu "is_figure" ["sign"] 1 so) (F2:bu "is_letter" ["sign"] 1 ss):bo 2 f fd ["self"] (Fj C):=by
 have nd:=scWd.nd;obtain⟨hc,ct,cp,cs⟩:=hC;refine Eb F scWd (λws G q e h=>by obtain⟨_,_,_,_,rfl,_⟩:=h;rfl) (λcdv A outer s H E hr=>?_);apply al
 ·grind
 ·rintro ws G q e ⟨r,a,l,p,rfl,hr,hp,hl,hq⟩;have wl:=B3 (l.drop p);rw[length_drop] at wl;nofun;refine⟨r,C,_,_,rfl,hr,⟨hc,cp⟩,rfl,?_⟩;subst hU;refine au λU hU=>?_;refine mB (λj τ G'=>∃i:Nat,i<=(dg (l.drop p)).length/\j=(dg (l.drop p)).length-i/\τ=[some (.ref r),some (.int (p:Int))]/\G'=av G r (.ins C (mZ l (p+i) a))/\dg (l.drop (p+i))=(dg (l.drop p)).drop i) ⟨_,0,zero_le _,rfl,rfl,(ji hr).symm,rfl⟩ ?_;rintro j τ G' ⟨i,hi,rfl,rfl,rfl,hw⟩ B hB;have L:av G r (.ins C (mZ l (p+i) a)) r=some (.ins C (mZ l (p+i) a)):=aa;have Z:((l.drop (p+i)).take 1).length<=1:=by rw[length_take];exact Nat.min_le_left _ _
  have hd:=zc (l:=l.drop (p+i));have go:dg (l.drop (p+i))≠[]->∃N:bV->Gp->Prop,(∀Y S,N Y S->∃m1,m1<(dg (l.drop p)).length-i/\∃i,i<=(dg (l.drop p)).length/\m1=(dg (l.drop p)).length-i/\Y=[some (.ref r),some (.int (p:Int))]/\S=av G r (.ins C (mZ l (p+i) a))/\dg (l.drop (p+i))=(dg (l.drop p)).drop i)/\B { nx:=N,rt:=λw S=>∃G0,am G0 S/\q w G0,bk:=U { nx:=λx S=>∃G0,am G0 S/\q W.non G0,rt:=λw S=>∃G0,am G0 S/\q w G0 },ct:=N } [some (.ref r),some (.int (p:Int))] (av G r (.ins C (mZ l (p+i) a))):=λab=>by
   have af:i<(dg (l.drop p)).length:=by
    rcases Nat.lt_or_ge i (dg (l.drop p)).length with z | z
    ·exact z
    ·rw[hw,List.drop_eq_nil_of_le z] at ab;exact absurd rfl ab
   refine⟨λY S=>Y=[some (.ref r),some (.int (p:Int))]/\S=av G r (.ins C (mZ l (p+(i+1)) a)),?_,?_⟩
   ·rintro Y S ⟨rfl,rfl⟩;refine⟨_,by lia,i+1,af,rfl,rfl,rfl,?_⟩;have:=zd ab;rw[List.drop_drop,hw,List.drop_drop] at this;exact this
   ·subst hB;rfl';refine⟨r,C,_,_,rfl,L,⟨hc,cp⟩,rfl,?_⟩;rfl';refine⟨r,C,_,rfl,L,⟨hc,cp⟩,by simp[mZ],?_⟩;rw[gk]
    rfl
  rfl';refine⟨r,_,rfl,L,rfl,r,a,l,p+i,rfl,L,by lia,hl,_,rfl,Z,?_⟩;dsimp only;refine bY (λh=>go ?_) λh=>?_
  ·rw[h,Bool.true_or] at hd;exact of_decide_eq_true hd.symm
  rw[Bool.eq_false_iff.mpr h,Bool.false_or] at hd;refine⟨r,_,rfl,L,rfl,r,a,l,p+i,rfl,L,by lia,hl,_,rfl,Z,?_⟩;dsimp only;refine bY (λh=>go ?_) λh=>?_
  ·rw[h] at hd;exact of_decide_eq_true hd.symm
  rw[Bool.eq_false_iff.mpr h] at hd;have hz:dg (l.drop (p+i))=[]:=Decidable.of_not_not (of_decide_eq_false hd.symm);have ad:i=(dg (l.drop p)).length:=by
   have:=congrArg List.length (hw.symm.trans hz);rw[length_drop] at this;have:(dg (l.drop p)).length-i=0:=this;lia
  subst hU;rfl';refine⟨r,C,_,_,rfl,L,⟨hc,ct⟩,rfl,r,C,_,_,rfl,L,⟨hc,cp⟩,rfl,?_⟩;rfl';refine⟨by rw[aC];lia,p,p+i,by rw[aC];lia,.inr rfl,.inr rfl,am.done ?_⟩;rw[Nat.add_sub_cancel_left,ad];show q (.str (aF ((l.drop p).take (dg (l.drop p)).length))) _;rw[y9];exact hq
def iV (G G':Gp) (r a:Addr):Prop:=∀x g,x≠r->x≠a->G x=some g->G' x=some g
theorem iV.trans (h:iV G B r a) (g:iV B L r a):iV G L r a:=λx y h1 h2 e=>g x y h1 h2 (h x y h1 h2 e)
theorem iV.r (G:Gp) (r a:Addr) (g:GO):iV G (av G r g) r a:=λx y h1 _ e=>(ao h1).trans e
theorem iV.aq (G:Gp) (r a:Addr) (g:GO):iV G (av G a g) r a:=λx y _ h2 e=>(ao h2).trans e
def fL (C NT:Addr) (fn:List Nat->Rd) (w:Nat):aX:=λws G q e=>∃(r a:Addr) (l:List Nat) (p:Nat) (s:List bx),ws=[.ref r,.int (w:Int)]/\Kq C G r a l p s/\r≠a/\
 (∀s' rest,fn (l.drop p)=some (s',rest)->∀G',iV G G' r a->Kq C G' r a l (l.length-rest.length) (s++s')->q .non G')/\(fn (l.drop p)=none->∀G',iV G G' r a->e (.ref NT) G')
def IV:WS:=λd _ G=>d.rt .non G
theorem IW (h:m.head?≠some 40):aO rd m=match ki (dg m) with | some x=>some ([x],rF m) | none=>none:=by
 unfold aO;split
 ·exact absurd rfl h
 ·rfl
theorem IY (h:rd m=none):aO rd (40::m)=none:=by
 show(match rd m with | some (s,41::r)=>some (s,r) | _=>none)=none;rw[h]
theorem IZ (h:rd m=some (s',41::r)):aO rd (40::m)=some (s',r):=by
 show(match rd m with | some (s,41::r)=>some (s,r) | _=>none)=_;rw[h]
 rfl
theorem Ja (h:rd m=some (s',r)) (B:r.head?≠some 41):aO rd (40::m)=none:=by
 show(match rd m with | some (s,41::r)=>some (s,r) | _=>none)=none;rw[h];split
 ·next e=>cases e;exact absurd rfl B
 ·rfl
theorem eh {p x:Nat} (h:(l.drop p).head?=some x):p<l.length/\l.drop p=x::l.drop (p+1):=by
 have B:p<l.length:=Decidable.by_contra λn=>by rw[List.drop_eq_nil_of_le (by lia)] at h;exact nomatch h
 refine⟨B,?_⟩;rw[drop_eq_getElem_cons B] at h ⊢;rw[Option.some.inj h]
unseal QS in
theorem B4:QS X (.Return none pos) IV:=ps_retN.imp λD σ H S=>S.el λτ G d Y B L l=>l.rt .non H .non G (aE.refl H) .non B L
theorem scRt:ay ["self","within"] ["self","within"] (ae (eV 73 4)):=by right
theorem Mn (hd:d<=20) (a0:5<=k) (hC:B1 K C) (F:bf K "read_thing" "Reading.read_thing" (eV 73 4) f fd) (M1:yY C "pass_by" ["self","sign"] 2 (vW C) []) (M2:yY C "word" ["self"] 2 (Fj C) []) (M3:gS C "read_sum" ["self","within"] k spX []) (hX:1<=d->spX=fL C NT (bp d) (21-d)) (R1:iC "thing_of" ["word"] 5 (y0 NT) []) (hm:mg "MOST_BRACKETS"=some (.int 20 t1)) (mC:mg "NoText"=some (.ref NT)) (xC:XC K NT bC):bL (k+1) f fd ["self","within"] (fL C NT (aO (bp d)) (20-d)):=by
 have nd:=scRt.nd;obtain⟨hc,ct,cp,cs⟩:=hC;refine bX (k:=k) F scRt (λws G q e h=>by obtain⟨_,_,_,_,_,rfl,_⟩:=h;rfl) (λcdv A outer s0 H E ws G q e hr aj hE=>?_);obtain⟨r,a,l,p,s,rfl,X,ra,S,L⟩:=aj;apply al
 ·refine' ac (a9 ?c1 ?b1 aM) (ac (a9 ?c2 (ak (aP mC xC (λH1 G1=>hE _ H1 G1) rfl)) aM) (ac ?s3 (ak (a9 ?c4 (ak (aP mC xC (λH1 G1=>hE _ H1 G1) rfl)) aM))))
  case c1=>ac_rfl
  case b1=>
   refine' ac ?e1 (ak ?e2)
   case e1=>exact bI (fX (by ac_nf) (bb R1 (aH.mono hr (by lia)) hE rfl (by walk_at "Qa")))
   case e2=>exact B4
  case c2=>ac_rfl
  case s3=>exact bI (cN (cH 0) M3 (aH.mono hr (by lia)) hE (by walk_at "Qa"))
  case c4=>ac_rfl
 ·nofun;refine⟨r,_,rfl,X.hr,rfl,r,a,l,p,40,rfl,X.hr,X.pl,X.ll,λhh=>?_,λhh=>?_⟩
  ·obtain⟨hp,Z⟩:=eh hh;dsimp only;rw[ycw (by decide)];subst hU;rfl';have ad:(av G r (.ins C (mZ l (p+1) a))) r=some (.ins C (mZ l (p+1) a)):=aa;refine bY (λh=>?_) λh=>?_
   ·have ai:d=0:=by lia
    subst ai;exact L (by rw[Z];rfl) _ (iV.r G r a _)
   obtain rfl:=hX (by lia);unfold eB;rfl';have Y:=X.ll;have ar:=X.sl;refine⟨r,_,rfl,ad,rfl,r,a,l,p+1,s,by rw[show((21-d:Nat):Int)=((20-d:Nat):Int)+1 by lia],⟨ad,(ao ra.symm).trans X.ha,hp,Y,by lia⟩,ra,λs' rest B G' hK X'=>?_,λhn G' hK=>L (by rw[Z];exact IY hn) G' ((iV.r G r a _).trans hK)⟩;have af:l.drop (l.length-rest.length)=rest:=(hW.trans ⟨l.take (p+1),(take_append_drop _ _).symm⟩ (dj d _ _ _ B).1).drop;refine⟨r,_,rfl,X'.hr,rfl,r,a,l,l.length-rest.length,41,rfl,X'.hr,X'.pl,X'.ll,λh2=>?_,λh2=>?_⟩
   ·obtain⟨a1,ab⟩:=eh h2;have hX:=X'.sl;dsimp only;rw[ycw (by decide)];rw[af] at ab;refine⟨_,am.refl _,S s' _ (by rw[Z];exact IZ (B.trans (congrArg (λz=>some (s',z)) ab))) _ (((iV.r G r a _).trans hK).trans (iV.r G' r a _)) ⟨?_,(ao ra.symm).trans X'.ha,by lia,Y,?_⟩⟩
    ·rw[length_drop,show l.length- (l.length- (l.length-rest.length+1))=l.length-rest.length+1 by lia];exact aa
    ·rw[length_drop];lia
   ·dsimp only;rw[ycv rfl];rw[af] at h2;exact L (by rw[Z];exact Ja B h2) G' ((iV.r G r a _).trans hK)
  ·dsimp only;rw[ycv rfl];have B:=IW (rd:=bp d) hh;have as:=congrArg List.length (fF (l.drop p));rw[length_append,length_drop] at as;have az:=X.pl;have Y:=X.ll;have ar:=X.sl;refine⟨r,C,_,.ref a,rfl,X.hr,⟨hc,cs⟩,rfl,⟨_,X.ha⟩,r,_,rfl,X.hr,rfl,r,a,l,p,rfl,X.hr,X.pl,X.ll,dg (l.drop p),rfl,by lia,λx hx G' hG=>?_,λhn G' hG=>?_⟩
   ·rw[hx] at B;have h1:=xX hx;refine⟨_,hG _ _ ((ao ra.symm).trans X.ha),by rw[length_map];lia,?_⟩;refine⟨_,am.refl _,S [x] (rF (l.drop p)) B _ (λz g h1 h2 e=>(ao h2).trans (hG _ _ ((ao h1).trans e))) ⟨?_,?_,by lia,Y,?_⟩⟩
    ·rw[ao ra,show l.length- (rF (l.drop p)).length=p+(dg (l.drop p)).length by lia];exact hG _ _ aa
    ·rw[map_append];exact aa
    ·rw[length_append,length_singleton];lia
   ·rw[hn] at B;exact L B G' λz g h1 h2 e=>hG _ _ ((ao h1).trans e)
theorem Jb (h:aO rd m=some (s',94::r)) (h2:aO rd r=some (s2,B)):bK rd m=some (s'++s2++[.op 94],B):=by
 unfold bK;rw[h];show(match aO rd r with | some (s2,B)=>some (s'++s2++[bx.op 94],B) | none=>none)=_;rw[h2]
theorem Jc (h:aO rd m=some (s',94::r)) (h2:aO rd r=none):bK rd m=none:=by
 unfold bK;rw[h];show(match aO rd r with | some (s2,B)=>some (s'++s2++[bx.op 94],B) | none=>none)=_;rw[h2]
theorem Jd (h:aO rd m=some (s',r)) (B:r.head?≠some 94):bK rd m=some (s',r):=by
 unfold bK;rw[h];split
 ·next e=>cases e;exact absurd rfl B
 ·rfl
theorem scRp:ay ["self","within"] ["self","within"] (ae (eV 73 3)):=by right
theorem Mo (a2:5<=k) (hC:B1 K C) (F:bf K "read_power" "Reading.read_power" (eV 73 3) f fd) (M1:yY C "pass_by" ["self","sign"] 2 (vW C) []) (M3:gS C "read_thing" ["self","within"] k (fL C NT (aO (bp d)) (20-d)) []):bL (k+1) f fd ["self","within"] (fL C NT (bK (bp d)) (20-d)):=by
 have nd:=scRp.nd;obtain⟨hc,ct,cp,cs⟩:=hC;refine bX (k:=k) F scRp (λws G q e h=>by obtain⟨_,_,_,_,_,rfl,_⟩:=h;rfl) (λcdv A outer s0 H E ws G q e hr a0 hE=>?_);obtain⟨r,a,l,p,s,rfl,X,ra,L,Z⟩:=a0;have S:=kS (dj d);apply al
 ·refine' ac ?s1 (ak (a9 ?c2 (ac ?s3 (ak ?s4)) aM))
  case s1=>exact bI (cN (cH 0) M3 (aH.mono hr (by lia)) hE (by walk_at "Qa"))
  case c2=>ac_rfl
  case s3=>exact bI (cN (cH 0) M3 (aH.mono hr (by lia)) hE (by walk_at "Qa"))
  case s4=>exact bI (fX (by ac_nf) (by ac_nf))
 ·nofun;unfold eB;rfl';refine⟨r,_,rfl,X.hr,rfl,r,a,l,p,s,rfl,X,ra,λs' rest B G' hK X'=>?_,λhn G' hK=>Z (by unfold bK;rw[hn]) G' hK⟩;have aj:l.drop (l.length-rest.length)=rest:=(hW.trans ⟨l.take p,(take_append_drop _ _).symm⟩ (S _ _ _ B).1).drop;subst hU;rfl';have a1:=X.pl;have ai:=X.ll;have a3:=X.sl;refine⟨r,_,rfl,X'.hr,rfl,r,a,l,l.length-rest.length,94,rfl,X'.hr,X'.pl,X'.ll,λh2=>?_,λh2=>?_⟩
  ·obtain⟨az,ar⟩:=eh h2;have hX:=X'.sl;rw[aj] at ar;have Y:=B.trans (congrArg (λz=>some (s',z)) ar);have as:iV G (av G' r (.ins C (mZ l (l.length-rest.length+1) a))) r a:=hK.trans (iV.r G' r a _);dsimp only;rw[ycv rfl];unfold eB;rfl';refine⟨r,_,rfl,aa,rfl,r,a,l,l.length-rest.length+1,s++s',rfl,⟨aa,(ao ra.symm).trans X'.ha,az,ai,by lia⟩,ra,λs2 ad af G2 ab X2=>?_,λhn G2 ab=>Z (Jc Y hn) G2 (as.trans ab)⟩;have h3:=X2.sl;have l1:=(S _ _ _ B).2;have l2:=(S _ _ _ af).2;have l3:=(S _ _ _ B).1.len;have l4:=(S _ _ _ af).1.len;simp only[length_drop,length_append] at l1 l2 l3 l4 h3;refine⟨r,C,_,.ref a,rfl,X2.hr,⟨hc,cs⟩,rfl,⟨_,X2.ha⟩,_,X2.ha,by simp only[length_map,length_append];lia,_,am.refl _,L _ ad (Jb Y af) _ ((as.trans ab).trans (iV.aq G2 r a _)) ⟨(ao ra).trans X2.hr,?_,X2.pl,ai,?_⟩⟩
   ·rw[aa];simp only[map_append,append_assoc]
    rfl
   ·simp only[length_append,length_singleton];lia
  ·dsimp only;rw[ycw (by decide)];rw[aj] at h2;exact⟨_,am.refl _,L s' rest (Jd B h2) G' hK X'⟩
noncomputable def eM (one:List Nat->Rd) (c:Nat) (l:List Nat):Rd:=
 match one l with
 | some (s,r)=>ba one c r.length s r
 | none=>none
theorem pq {r:List Nat} {s:List bx} (h:one l=some (s,r)):eM one c l=ba one c r.length s r:=by unfold eM;rw[h]
theorem pv (h:one l=none):eM one c l=none:=by unfold eM;rw[h]
theorem pw (h:l.head?≠some c) (n:Nat) (s:List bx):ba one c n s l=some (s,l):=by
 cases n with
 | zero=>rfl
 | succ n=>unfold ba;rw[ycw h]
theorem ze (h:one l=some (s2,r)) (n:Nat) (s:List bx):ba one c (n+1) s (c::l)=ba one c n (s++s2++[.op c]) r:=by
 show(if (c::l).head?=some c then match one l with | some (s2,r)=>ba one c n (s++s2++[.op c]) r | none=>none else some (s,c::l))=_;rw[ycv (List.head?_cons ..),h]
theorem zg (h:one l=none) (n:Nat) (s:List bx):ba one c (n+1) s (c::l)=none:=by
 show(if (c::l).head?=some c then match one l with | some (s2,r)=>ba one c n (s++s2++[.op c]) r | none=>none else some (s,c::l))=_;rw[ycv (List.head?_cons ..),h]
def ut (C:Addr) (G:Gp) (r a:Addr) (l:List Nat) (p:Nat) (s:List bx) (one:List Nat->Rd) (c:Nat) (v:Int) (m:Nat) (τ:bV) (G':Gp):Prop:=
 ∃s' rest,rest.length<=m/\τ=[some (.ref r),some (.int v)]/\iV G G' r a/\Kq C G' r a l (l.length-rest.length) (s++s')/\hW l rest/\s'.length+rest.length<=l.length-p/\eM one c (l.drop p)=ba one c m s' rest
theorem scRpd:ay ["self","within"] ["self","within"] (ae (eV 73 2)):=by right
theorem Je (Y:vA one) (bi:5<=k) (hC:B1 K C) (F:bf K "read_product" "Reading.read_product" (eV 73 2) f fd) (M1:yY C "pass_by" ["self","sign"] 2 (vW C) []) (M3:gS C "read_power" ["self","within"] k (fL C NT one w0) []):bL (k+1) f fd ["self","within"] (fL C NT (eM one 42) w0):=by
 have nd:=scRpd.nd;obtain⟨hc,ct,cp,cs⟩:=hC;refine bX (k:=k) F scRpd (λws G q e h=>by obtain⟨_,_,_,_,_,rfl,_⟩:=h;rfl) (λcdv A outer s0 H E ws G q e hr a6 hE=>?_);obtain⟨r,a,l,p,s,rfl,X,ra,ab,Z⟩:=a6;apply al
 ·refine' ac ?s1 (ak (gK PassesOwn.leaving ?c2 (ac ?s3 (ak ?s4))))
  case s1=>exact bI (cN (cH 0) M3 (aH.mono hr (by lia)) hE (by walk_at "Qa"))
  case c2=>ac_rfl
  case s3=>exact bI (cN (cH 0) M3 (aH.mono hr (by lia)) hE (by walk_at "Qa"))
  case s4=>exact bI (fX (by ac_nf) (by ac_nf))
 ·nofun;unfold eB;rfl';have be:=X.pl;have az:=X.ll;have bj:=X.sl;refine⟨r,_,rfl,X.hr,rfl,r,a,l,p,s,rfl,X,ra,λs' rest aj G' hK X'=>?_,λhn G' hK=>Z (pv hn) G' hK⟩;have a1:=Y _ _ _ aj;subst hU;refine mB (ut C G r a l p s one 42 (w0:Int)) ⟨rest.length,s',rest,ycx _,rfl,hK,X',hW.trans ⟨l.take p,(take_append_drop _ _).symm⟩ a1.1,by rw[←length_drop];exact a1.2,pq aj⟩ ?_;rintro n τ G1 ⟨s1,r1,hn,rfl,a3,X1,ar,bl,L⟩ B hB;have a0:=ar.drop;have a4:=X1.sl;have bz:=ar.len;rfl';refine⟨r,_,rfl,X1.hr,rfl,r,a,l,l.length-r1.length,42,rfl,X1.hr,X1.pl,X1.ll,λh2=>?_,λh2=>?_⟩
  ·obtain⟨bd,ad⟩:=eh h2;rw[a0] at ad;have a7:=congrArg List.length ad;rw[length_cons,length_drop] at a7;obtain⟨n,rfl⟩:∃n',n=n'+1:=⟨n-1,by lia⟩;rw[ad] at L;have as:iV G (av G1 r (.ins C (mZ l (l.length-r1.length+1) a))) r a:=a3.trans (iV.r G1 r a _);dsimp only;rw[ycv rfl];refine⟨λa5 G3=>∃m1,m1<n+1/\ut C G r a l p s one 42 (w0:Int) m1 a5 G3,λ_ _ h=>h,?_⟩;subst hB;unfold eB;rfl';refine⟨r,_,rfl,aa,rfl,r,a,l,l.length-r1.length+1,s++s1,rfl,⟨aa,(ao ra.symm).trans X1.ha,bd,az,by lia⟩,ra,λs2 ai a2 G2 af X2=>?_,λhn G2 af=>Z (L.trans (zg hn _ _)) G2 (as.trans af)⟩;have h3:=X2.sl;have S:=Y _ _ _ a2;have l2:=S.2;have l4:=S.1.len;simp only[length_drop,length_append] at l2 l4 h3 a4;refine⟨r,C,_,.ref a,rfl,X2.hr,⟨hc,cs⟩,rfl,⟨_,X2.ha⟩,_,X2.ha,by simp only[length_map,length_append];lia,n,lt_succ_self n,s1++s2++[.op 42],ai,by lia,rfl,(as.trans af).trans (iV.aq G2 r a _),⟨(ao ra).trans X2.hr,?_,X2.pl,az,?_⟩,hW.trans ⟨l.take (l.length-r1.length+1),(take_append_drop _ _).symm⟩ S.1,?_,L.trans (ze a2 _ _)⟩
   ·rw[aa];simp only[map_append,append_assoc]
    rfl
   ·simp only[length_append,length_singleton];lia
   ·simp only[length_append,length_singleton];lia
  ·dsimp only;rw[ycw (by decide)];rw[a0] at h2;exact⟨_,am.refl _,ab s1 r1 (L.trans (pw h2 _ _)) G1 a3 X1⟩
theorem scRsm:ay ["self","within"] ["self","within"] (ae (eV 73 1)):=by right
theorem Jf (Y:vA one) (bi:5<=k) (hC:B1 K C) (F:bf K "read_sum" "Reading.read_sum" (eV 73 1) f fd) (M1:yY C "pass_by" ["self","sign"] 2 (vW C) []) (M3:gS C "read_product" ["self","within"] k (fL C NT one w0) []):bL (k+1) f fd ["self","within"] (fL C NT (eM one 43) w0):=by
 have nd:=scRsm.nd;obtain⟨hc,ct,cp,cs⟩:=hC;refine bX (k:=k) F scRsm (λws G q e h=>by obtain⟨_,_,_,_,_,rfl,_⟩:=h;rfl) (λcdv A outer s0 H E ws G q e hr a6 hE=>?_);obtain⟨r,a,l,p,s,rfl,X,ra,ab,Z⟩:=a6;apply al
 ·refine' ac ?s1 (ak (gK PassesOwn.leaving ?c2 (ac ?s3 (ak ?s4))))
  case s1=>exact bI (cN (cH 0) M3 (aH.mono hr (by lia)) hE (by walk_at "Qa"))
  case c2=>ac_rfl
  case s3=>exact bI (cN (cH 0) M3 (aH.mono hr (by lia)) hE (by walk_at "Qa"))
  case s4=>exact bI (fX (by ac_nf) (by ac_nf))
 ·nofun;unfold eB;rfl';have be:=X.pl;have az:=X.ll;have bj:=X.sl;refine⟨r,_,rfl,X.hr,rfl,r,a,l,p,s,rfl,X,ra,λs' rest aj G' hK X'=>?_,λhn G' hK=>Z (pv hn) G' hK⟩;have a1:=Y _ _ _ aj;subst hU;refine mB (ut C G r a l p s one 43 (w0:Int)) ⟨rest.length,s',rest,ycx _,rfl,hK,X',hW.trans ⟨l.take p,(take_append_drop _ _).symm⟩ a1.1,by rw[←length_drop];exact a1.2,pq aj⟩ ?_;rintro n τ G1 ⟨s1,r1,hn,rfl,a3,X1,ar,bl,L⟩ B hB;have a0:=ar.drop;have a4:=X1.sl;have bz:=ar.len;rfl';refine⟨r,_,rfl,X1.hr,rfl,r,a,l,l.length-r1.length,43,rfl,X1.hr,X1.pl,X1.ll,λh2=>?_,λh2=>?_⟩
  ·obtain⟨bd,ad⟩:=eh h2;rw[a0] at ad;have a7:=congrArg List.length ad;rw[length_cons,length_drop] at a7;obtain⟨n,rfl⟩:∃n',n=n'+1:=⟨n-1,by lia⟩;rw[ad] at L;have as:iV G (av G1 r (.ins C (mZ l (l.length-r1.length+1) a))) r a:=a3.trans (iV.r G1 r a _);dsimp only;rw[ycv rfl];refine⟨λa5 G3=>∃m1,m1<n+1/\ut C G r a l p s one 43 (w0:Int) m1 a5 G3,λ_ _ h=>h,?_⟩;subst hB;unfold eB;rfl';refine⟨r,_,rfl,aa,rfl,r,a,l,l.length-r1.length+1,s++s1,rfl,⟨aa,(ao ra.symm).trans X1.ha,bd,az,by lia⟩,ra,λs2 ai a2 G2 af X2=>?_,λhn G2 af=>Z (L.trans (zg hn _ _)) G2 (as.trans af)⟩;have h3:=X2.sl;have S:=Y _ _ _ a2;have l2:=S.2;have l4:=S.1.len;simp only[length_drop,length_append] at l2 l4 h3 a4;refine⟨r,C,_,.ref a,rfl,X2.hr,⟨hc,cs⟩,rfl,⟨_,X2.ha⟩,_,X2.ha,by simp only[length_map,length_append];lia,n,lt_succ_self n,s1++s2++[.op 43],ai,by lia,rfl,(as.trans af).trans (iV.aq G2 r a _),⟨(ao ra).trans X2.hr,?_,X2.pl,az,?_⟩,hW.trans ⟨l.take (l.length-r1.length+1),(take_append_drop _ _).symm⟩ S.1,?_,L.trans (ze a2 _ _)⟩
   ·rw[aa];simp only[map_append,append_assoc]
    rfl
   ·simp only[length_append,length_singleton];lia
   ·simp only[length_append,length_singleton];lia
  ·dsimp only;rw[ycw (by decide)];rw[a0] at h2;exact⟨_,am.refl _,ab s1 r1 (L.trans (pw h2 _ _)) G1 a3 X1⟩
def Jg (C:Addr):aX:=λws G q _=>∃(r:Addr) (l:List Nat),ws=[.ref r,.str (aF l)]/\G r=some (.ins C [])/\l.length<=2000/\∀(a:Addr) (G':Gp),G a=none->r≠a->(∀x g,x≠r->G x=some g->G' x=some g)->Kq C G' r a l 0 []->q .non G'
theorem scRi:ay ["self","text"] ["self","text"] (ae (eV 73 0)):=by right
theorem Mp (hC:B1 K C) (F:bf K "__init__" "Reading.__init__" (eV 73 0) f fd):bo 1 f fd ["self","text"] (Jg C):=by
 have nd:=scRi.nd;obtain⟨hc,ct,cp,cs⟩:=hC;refine Eb F scRi (λws G q e h=>by obtain⟨_,_,rfl,_⟩:=h;rfl) (λcdv A outer s H E hr=>?_);apply al
 ·grind
 ·rintro ws G q e ⟨r,l,rfl,hr,hl,hq⟩;nofun;refine⟨r,C,[],rfl,hr,⟨hc,ct⟩,by simp,?_⟩;cutsat;refine⟨r,C,_,rfl,aa,⟨hc,cp⟩,by simp only[length_cons,length_nil];decide,?_⟩;subst hU;rfl';rw[ycw (show ¬Str.ofString "text"=Str.ofString "place" by decide)];intro a S;have B:r≠a:=λz=>by rw[←z,aa] at S;cases S
  have L:G a=none:=by rw[ao B.symm,ao B.symm] at S;exact S
  refine⟨r,C,_,rfl,by rw[ao B];exact aa,⟨hc,cs⟩,by simp only[length_cons,length_nil];decide,am.done (hq a _ L B (λx g Z Y=>?_) ⟨?_,?_,zero_le _,hl,?_⟩)⟩
  ·have xa:x≠a:=λz=>by rw[z,L] at Y;cases Y
   rw[ao Z,ao xa,ao Z,ao Z];exact Y
  ·rw[aa]
   rfl
  ·rw[ao B.symm];exact aa
  ·simp only[length_nil];lia
theorem Md.rmt {m qual:Str} {sp:aX} (D:Md K C m qual st ps) (c:kn K C) (h:∀(f:Addr) (fd:FuncData),bf K m qual st f fd->bL k f fd ps sp):gS C m ps k sp []:=by
 obtain⟨f,fd,B,F,b⟩:=D;exact⟨⟨f,fd,[],[],B,h f fd F,b,.nil,λ_=> .nil⟩,c⟩
structure C1 (K:yav) (mg:yew) (C NT:Addr):Prop where
 cl:B1 K C
 m0:MdI K C "Reading.__init__" (eV 73 0) ["self","text"]
 m1:Md K C "read_sum" "Reading.read_sum" (eV 73 1) ["self","within"]
 m2:Md K C "read_product" "Reading.read_product" (eV 73 2) ["self","within"]
 m3:Md K C "read_power" "Reading.read_power" (eV 73 3) ["self","within"]
 m4:Md K C "read_thing" "Reading.read_thing" (eV 73 4) ["self","within"]
 m5:Md K C "word" "Reading.word" (eV 73 5) ["self"]
 m6:Md K C "pass_by" "Reading.pass_by" (eV 73 6) ["self","sign"]
 m7:Md K C "sign" "Reading.sign" (eV 73 7) ["self"]
 mr:mg "Reading"=some (.ref C)
 mb:∃t,mg "MOST_BRACKETS"=some (.int 20 t)
 mC:mg "NoText"=some (.ref NT)
 xC:∃bC,XC K NT bC
theorem vX (d:Nat):eM (bF (bp d)) 43=cO d:=by rw[dZ];rfl
section
variable {C NT:Addr} (D:C1 K mg C NT) (F1:bu "is_figure" ["sign"] 1 so) (F2:bu "is_letter" ["sign"] 1 ss) (R1:iC "thing_of" ["word"] 5 (y0 NT) [])
theorem Fk (D:C1 K mg C NT):yY C "sign" ["self"] 1 (y8 C) []:=D.m7.mt D.cl.c λ_ _ F=>Mj D.cl F
theorem B5 (D:C1 K mg C NT):yY C "pass_by" ["self","sign"] 2 (vW C) []:=D.m6.mt D.cl.c λ_ _ F=>Ml D.cl F (Fk D)
theorem Mq (D:C1 K mg C NT) (F1:bu "is_figure" ["sign"] 1 so) (F2:bu "is_letter" ["sign"] 1 ss):yY C "word" ["self"] 2 (Fj C) []:=D.m5.mt D.cl.c λ_ _ F=>Mm D.cl F (Fk D) F1 F2
theorem C3 (D:C1 K mg C NT) (F1:bu "is_figure" ["sign"] 1 so) (F2:bu "is_letter" ["sign"] 1 ss) (R1:iC "thing_of" ["word"] 5 (y0 NT) []) (hd:d<=20) (B:5<=k) (M:gS C "read_sum" ["self","within"] k spX []) (Y:1<=d->spX=fL C NT (bp d) (21-d)):gS C "read_sum" ["self","within"] (k+4) (fL C NT (cO d) (20-d)) []:=by
 obtain⟨t,mb⟩:=D.mb;obtain⟨bC,xC⟩:=D.xC;have Z:gS C "read_thing" ["self","within"] (k+1) (fL C NT (aO (bp d)) (20-d)) []:=Md.rmt D.m4 D.cl.c λ_ _ F=>Mn hd B D.cl F (B5 D) (Mq D F1 F2) M Y R1 mb D.mC xC;have S:gS C "read_power" ["self","within"] (k+2) (fL C NT (bK (bp d)) (20-d)) []:=Md.rmt D.m3 D.cl.c λ_ _ F=>Mo (Nat.le_succ_of_le B) D.cl F (B5 D) Z;have A3:gS C "read_product" ["self","within"] (k+3) (fL C NT (bF (bp d)) (20-d)) []:=Md.rmt D.m2 D.cl.c λ_ _ F=>Je (me (dj d)) (by lia) D.cl F (B5 D) S;have L:gS C "read_sum" ["self","within"] (k+4) (fL C NT (eM (bF (bp d)) 43) (20-d)) []:=Md.rmt D.m1 D.cl.c λ_ _ F=>Jf (jG (dj d)) (by lia) D.cl F (B5 D) A3;rw[vX] at L;exact L
theorem zh (D:C1 K mg C NT) (F1:bu "is_figure" ["sign"] 1 so) (F2:bu "is_letter" ["sign"] 1 ss) (R1:iC "thing_of" ["word"] 5 (y0 NT) []):∀d,d<=20->gS C "read_sum" ["self","within"] (4*d+9) (fL C NT (cO d) (20-d)) []
 | 0,hd=>C3 D F1 F2 R1 hd (k:=5) (ycx _) (spX:=λ_ _ _ _=>False) (Md.rmt D.m1 D.cl.c λ_ _ _=>sX.none λ_ _ _ _ h=>h) λh=>absurd h (by decide)
 | d+1,hd=>C3 D F1 F2 R1 hd (k:=4*d+9) (by lia) (zh D F1 F2 R1 d (by lia)) λ_=>by rw[show 21- (d+1)=20-d by lia];rfl
end
noncomputable def rdT (l:List Nat):Option (List bx):=if l.length<=2000 then eT l else none
def OG (NT:Addr) (l:List Nat) (G:Gp) (q:WK) (e:WX):Prop:=(∀s,rdT l=some s->∀(a:Addr) (G':Gp),am G G'->G' a=some (.lst (s.map cS))->s.length<=8000->q (.ref a) G')/\(rdT l=none->∀G',am G G'->e (.ref NT) G')
def F9 (G:Gp) (x:W):Prop:=∃t,kO G x=some t/\fI t "str"=false
def Jh (NT:Addr):aX:=λws G q e=>∃x:W,ws=[x]/\((∃l:List Nat,x=.str (aF l)/\l.length<=100000/\OG NT l G q e)∨(F9 G x/\∀G',am G G'->e (.ref NT) G'))
theorem scSo:ay ["text","reading"] ["text"] (ae (aG 74)):=by right
theorem Mr (D:C1 K mg C NT) (F:bf K "steps_of" "steps_of" (aG 74) f fd) (N1:IG "Reading" C ["self","text"] 1 (Jg C)) (M1:yY C "sign" ["self"] 1 (y8 C) []) (M3:gS C "read_sum" ["self","within"] 89 (fL C NT (cO 20) 0) []) (hm:mg "MOST_SIGNS"=some (.int 2000 t1)) (ml:mg "len"=none) (mi:mg "isinstance"=none) (ms:mg "str"=none):bL 90 f fd ["text"] (Jh NT):=by
 have nd:=scSo.nd;obtain⟨bC,xC⟩:=D.xC;obtain⟨hc,ct,cp,cs⟩:=D.cl;have mC:=D.mC;refine bX (k:=89) F scSo (λws G q e h=>by obtain⟨_,rfl,_⟩:=h;rfl) (λcdv A outer s0 H E ws G q e hr ad hE=>?_);obtain⟨x,rfl,ad⟩:=ad;apply al
 ·refine' ac (a9 ?c1 (ak (aP mC xC (λH1 G1=>hE _ H1 G1) rfl)) aM) (ac ?s2 (ac ?s3 (ac (a9 ?c4 (ak (aP mC xC (λH1 G1=>hE _ H1 G1) rfl)) aM) (ak ?s5))))
  case c1=>ac_rfl
  case s2=>eq_refl
  case s3=>exact bI (cN (cH 1) M3 (aH.mono hr (by lia)) hE (by walk_at "Qa"))
  case c4=>ac_rfl
  case s5=>eq_refl
 ·rcases ad with⟨l,rfl,hl,S,B⟩ | ⟨⟨t,ht,hs⟩,B⟩
  rotate_left
  ·nofun;rw[ht];dsimp only;rw[ycv hs];exact B G (am.refl _)
  nofun;refine⟨by rw[aC];lia,?_⟩;rw[aC];refine bY (λh1=>B (by unfold rdT;rw[ycw (by lia)]) G (am.refl _)) λh1=>?_;have h1:l.length<=2000:=by lia
  have hT:rdT l=eT l:=ycv h1;rw[hT] at S B;cutsat;intro r ai;refine⟨r,l,rfl,aa,h1,λa G1 ha ra hk X=>⟨rfl,?_⟩⟩;have ga:G a=none:=by rw[ao ra.symm] at ha;exact ha
  have ne:∀{x g},G x=some g->x≠r/\x≠a:=λY=>⟨λz=>(by rw[z,ai] at Y;cases Y),λz=>(by rw[z,ga] at Y;cases Y)⟩;have ab:∀{G2},iV G1 G2 r a->am G G2:=λhK x g Y=>hK x g (ne Y).1 (ne Y).2 (hk x g (ne Y).1 ((ao (ne Y).1).trans Y));cutsat;unfold eB;rfl';refine⟨r,_,rfl,X.hr,rfl,r,a,l,0,[],rfl,X,ra,λs' rest L G2 hK Z=>?_,λhn G2 hK=>B ?_ G2 (ab hK)⟩
  ·have L:cO 20 l=some (s',rest):=L;have af:l.drop (l.length-rest.length)=rest:=by
    have:=dj 21 l s' rest L;exact this.1.drop
   cutsat;refine⟨r,_,rfl,Z.hr,rfl,r,a,l,l.length-rest.length,rfl,Z.hr,Z.pl,Z.ll,?_⟩;rfl';refine⟨rfl,rfl,zero_le _,?_⟩;rw[show Str.ofString ""=aF [] from rfl,cA,af];refine bY (λh=>?_) λh=>?_
   ·refine B ?_ G2 (ab hK);unfold eT;rw[L];cases rest with
    | nil=>cases h
    | cons x rest=>rfl
   ·have hz:rest=[]:=by
     cases rest with
     | nil=>rfl
     | cons x rest=>exact absurd rfl h
    subst hz;subst hU;rfl';have h3:=Z.sl;simp only[nil_append,length_nil] at h3;refine⟨r,C,_,.ref a,rfl,Z.hr,⟨hc,cs⟩,rfl,am.done (S s' ?_ a G2 (ab hK) Z.ha (by lia))⟩;unfold eT;rw[L]
  ·have hn:cO 20 l=none:=hn;unfold eT;rw[hn]
def su (kvs:List (aW×W)) (nm:List Nat->Option O):Prop:=∀l,cg kvs (.inr (aF l))=(nm l).map λb=> .tup (ag b)
def Ji (NN:Addr):aX:=λws G q e=>∃(a d:Addr) (s:List bx) (kvs:List (aW×W)) (nm:List Nat->Option O),ws=[.ref a,.ref d]/\G a=some (.lst (s.map cS))/\GD G d kvs/\su kvs nm/\s.length<=8000/\(∀x,x∈s->oy x)/\
 (∀s',gj nm s=some s'->∀(b:Addr) (G':Gp),am G G'->G' b=some (.lst (s'.map cS))->q (.ref b) G')/\(gj nm s=none->∀G',am G G'->e (.ref NN) G')
theorem GD.le (h:GD G a kvs) (l:am G B):GD B a kvs:=by
 rcases h with h | ⟨o,us,h⟩
 ·exact .inl (l _ _ h)
 ·exact .inr ⟨o,us,l _ _ h⟩
theorem ng (h:aN l=true):∀x,l=[x]->x≠43/\x≠42/\x≠94:=λx e=>by
 subst e;unfold aN at h;simp only[Bool.and_eq_true,all_cons] at h;have:97<=x/\x<=122:=of_decide_eq_true h.2.1;lia
noncomputable def joinG:List Str:=["+","*","^"]
theorem px (l:List Nat):(joinG.any λt=>t==aF l)=decide (l=[43]∨l=[42]∨l=[94]):=by
 have e:joinG=[aF [43],aF [42],aF [94]]:=rfl;rw[e,Bool.eq_iff_iff];simp only[any_cons,List.any_nil,Bool.or_eq_true,beq_iff_eq,txS_inj,decide_eq_true_eq,Bool.false_eq_true,or_false];constructor
 ·rintro(h | h | h)
  ·exact .inl h.symm
  ·exact .inr (.inl h.symm)
  ·exact .inr (.inr h.symm)
 ·rintro(h | h | h)
  ·exact .inl h.symm
  ·exact .inr (.inl h.symm)
  ·exact .inr (.inr h.symm)
theorem scLu:ay ["steps","names","found","step"] ["steps","names"] (ae (aG 75)):=by right
theorem Ms (F:bf K "looked_up" "looked_up" (aG 75) f fd) (mj:mg "JOINING"=some (.ref aj)) (hj:GTx K aj joinG) (mC:mg "NoName"=some (.ref NN)) (xC:XC K NN bN) (mi:mg "isinstance"=none) (mt:mg "tuple"=none):bL 2 f fd ["steps","names"] (Ji NN):=by
 have nd:=scLu.nd;refine bX (k:=1) F scLu (λws G q e h=>by obtain⟨_,_,_,_,_,rfl,_⟩:=h;rfl) (λcdv A outer s0 H E ws G q e hr a1 hE=>?_);obtain⟨a,d,s,kvs,nm,rfl,ha,hd,ai,az,as,ad,ar⟩:=a1;apply al
 ·refine' ac ?s1 (ac (cK PassesOwn.leaving rfl ?it ?tg (ak (a9 (D3 (sN ?c1 (p7 (cq (Ig hj) ?x1 (dI ?g1 mj) rfl)))) ?b1 (ak (a9 ?c2 ?b2 (ak (aP mC xC (λH1 G1=>hE _ H1 G1) rfl))))))) (ak ?s3))
  case s1=>eq_refl
  case it=>walk_at "Qi"
  case tg=>walk_at "Qg"
  case c1=>ac_rfl
  case x1=>ac_nf
  case g1=>rfl
  case b1=>grind
  case c2=>ac_rfl
  case b2=>grind
  case s3=>eq_refl
 ·nofun;intro p hp;have ap:a≠p:=λz=>by rw[z,hp] at ha;cases ha
  cutsat;refine⟨_,(ao ap).trans ha,?_⟩;refine a8 (λws τ Y=>∃(s1 B:List bx) (t3:Option W),ws=s1.map cS/\τ=[some (.ref a),some (.ref d),some (.ref p),t3]/\am G Y/\Y p=some (.lst (B.map cS))/\B.length+s1.length<=8000/\(∀x,x∈s1->oy x)/\gj nm s=(gj nm s1).map (B++ ·)) ?_ ?_ _ _ _ ⟨s,[],_,rfl,rfl,am.new hp,aa,by simpa using az,as,by cases gj nm s<;> rfl⟩
  ·rintro τ Y ⟨s1,B,t3,hw,rfl,L,hG,hl,_,S⟩;cases s1 with
   | cons x s1=>cases hw
   | nil=>
     refine⟨L _ _ ha,?_⟩;subst hU;rfl';refine am.done (ad B ?_ p Y L hG);rw[S];show some (B++[])=_;rw[append_nil]
  ·rintro w1 ws τ Y kk ⟨s1,B,t3,hw,rfl,L,hG,hl,ab,S⟩ hk;cases s1 with
   | nil=>cases hw
   | cons x s1=>
     cases hw;refine⟨L _ _ ha,?_⟩;rw[length_cons] at hl;have hx:=ab x yby;have next:∀(y:bx) (v:W),v=cS y->gj nm s=(gj nm s1).map ((B++[y])++ ·)->(∃xs,Y p=some (GO.lst xs))/\∃ys,Y p=some (.lst ys)/\ys.length<=99999/\kk [some (.ref a),some (.ref d),some (.ref p),some (cS x)] (av Y p (.lst (ys++[v]))):=λy v hv a0=>by
      subst hv;refine⟨⟨_,hG⟩,_,hG,by rw[length_map];lia,hk _ _ ⟨s1,B++[y],_,rfl,rfl,am.put L hp,?_,?_,λz hz=>ab z (ybx _ hz),a0⟩⟩
      ·rw[aa,map_append]
       rfl
      ·rw[length_append,length_singleton];lia
     have af:∀{y:bx},gj nm (x::s1)=(gj nm s1).map (y:: ·)->gj nm s=(gj nm s1).map ((B++[y])++ ·):=λh=>by
      rw[S,h,Option.map_map]
      congr 1
      funext z
      simp
     cases x with
     | num b=>
       unfold cS;rfl';exact next (.num b) _ rfl (af rfl)
     | op y=>
       unfold cS;rfl';simp only[kO];rw[ycw (by decide)];refine⟨_,rfl,rfl,?_⟩;dsimp only;rw[px,ycv (ydz (by rcases hx with h | h | h<;> rw[h]<;> simp))];exact next (.op y) _ rfl (af rfl)
     | nam l=>
       unfold cS;rfl';simp only[kO];rw[ycw (by decide)];refine⟨_,rfl,rfl,?_⟩;dsimp only;rw[px,ycw (λh=>by
        rcases of_decide_eq_true h with h | h | h
        ·exact(ng hx _ h).1 rfl
        ·exact(ng hx _ h).2.1 rfl
        ·exact(ng hx _ h).2.2 rfl)]
       refine⟨_,.dic (GD.le hd L),?_⟩;rw[ai];have Z:gj nm (.nam l::s1)=match nm l with | some b=>(gj nm s1).map (.num b:: ·) | none=>none:=rfl
       cases eN:nm l with
       | none=>
         rw[eN] at Z;rw[Z] at S;rw[ycw (by simp)];exact ar S Y L
       | some b=>
         rw[eN] at Z;rw[ycv (show(Option.map (λb=>W.tup (ag b)) (some b)).isSome=true from rfl)];obtain⟨h1,h2⟩:=next (.num b) (.tup (ag b)) rfl (af Z);exact⟨h1,kvs,.tup (ag b),GD.le hd L,by rw[ai,eN];rfl,h2⟩
noncomputable def cl (cs:List Addr) (k:Nat):Addr:=cs.getD (k+1) 0
inductive bM (nm:List Nat->Option O) (l:List Nat):Nat ⊕ O->Prop where
 | bad (h:rdT l=none):bM nm l (.inl 6)
 | nam {s:List bx} (h:rdT l=some s) (g:∃m,m∈mh s/\nm m=none):bM nm l (.inl 3)
 | tg {s s':List bx} (h:rdT l=some s) (g:gj nm s=some s') (r:Rn s' [] none):bM nm l (.inl 8)
 | num {s s':List bx} {r:O} (h:rdT l=some s) (g:gj nm s=some s') (hr:Rn s' [] (some r)):bM nm l (.inr r)
def C4 (G:Gp) (d:Addr) (nm:List Nat->Option O):Prop:=(∀l b,nm l=some b->y7 b)/\∃kvs,GD G d kvs/\su kvs nm
def Jj (cs:List Addr):aX:=λws G q e=>∃(l:List Nat) (d:Addr) (nm:List Nat->Option O) (x:Nat ⊕ O),ws=[.str (aF l),.ref d]/\C4 G d nm/\l.length<=100000/\bM nm l x/\(∀r,x=.inr r->y7 r->∀G',am G G'->q (.tup (ag r)) G')/\(∀k,x=.inl k->∀G',am G G'->e (.ref (cl cs k)) G')
theorem Mu {a:O} (h:a.NF/\EJ a):y7 a:=⟨h.1,h.2.1,Int.lt_of_lt_of_le h.2.2.1 (by decide+kernel),by have:=h.2.2.2;lia⟩
theorem scRe:ay ["text","names"] ["text","names"] (ae (aG 95)):=by right
theorem Mv (F:ir K "read" "read" (aG 95) f fd T ds) (R1:iC "steps_of" ["text"] 90 (Jh (cl cs 6)) []) (R2:iC "looked_up" ["steps","names"] 2 (Ji (cl cs 3)) []) (R3:iC "reckoned" ["steps"] 64 (IU (cl cs 8)) []):bL 91 f fd ["text","names"] (Jj cs):=by
 have nd:=scRe.nd;refine CB (k:=90) F scRe (λws G q e h=>by obtain⟨_,_,_,_,rfl,_⟩:=h;rfl) (λcdv A outer s0 H E ws G q e hr as hE=>?_);obtain⟨l,d,nm,x,rfl,⟨ar,kvs,hd,hn⟩,hl,hx,ab,Y⟩:=as;apply al
 ·refine' ak (bW (bb R3 (aH.mono hr (by lia)) hE rfl (aS (bb R2 (aH.mono hr (by lia)) hE rfl (aS (bb R1 (aH.mono hr (by lia)) hE rfl ?a1) (aS ?n2 ce))) ce)))
  case a1=>walk_at "Qa"
  case n2=>ac_nf
 ·rfl';refine⟨_,rfl,.inl ⟨l,rfl,hl,λs B a G1 S ga hs=>?_,λh G1 S=>?_⟩⟩;rotate_left
  ·cases hx with
   | bad _=>exact Y 6 rfl G1 S
   | nam h' _=>rw[h] at h';cases h'
   | tg h' _ _=>rw[h] at h';cases h'
   | num h' _ _=>rw[h] at h';cases h'
  have ai:eT l=some s:=by
   unfold rdT at B;split at B
   ·exact B
   ·cases B
  have aj:=AV ai;rfl';rw[ycw (show ¬(false ^^ nV (.ref d))=true from λh=>Bool.noConfusion h)];refine⟨a,d,s,kvs,nm,rfl,ga,GD.le hd S,hn,hs,aj,λs' L b G3 Z gb=>?_,λL G3 Z=>?_⟩
  ·obtain⟨k1,k2,k3⟩:=mm nm s s' L;have af:∀y,y∈s'->Ko y:=λy hy=>by
    rcases k3 y hy with⟨m,b',rfl,hb⟩ | ⟨h1,h2⟩
    ·exact ar m b' hb
    ·have:=aj y h1;cases y with
     | num a=>exact Mu this
     | nam m=>trivial
     | op c=>trivial
   cases hx with
   | bad h=>rw[B] at h;cases h
   | nam h' g=>rw[B] at h';cases h';rw[(jc nm s).mpr g] at L;cases L
   | tg h' g r=>rw[B] at h';cases h';rw[L] at g;cases g;exact⟨b,s',none,rfl,gb,by lia,af,r,(λr z=>by cases z),λ_ G4 ad=>Y 8 rfl G4 ((S.trans Z).trans ad)⟩
   | num h' g r=>rw[B] at h';cases h';rw[L] at g;cases g;exact⟨b,s',_,rfl,gb,by lia,af,r,λr' z hf G4 ad=>⟨G4,am.refl G4,ab r' (congrArg Sum.inr (Option.some.inj z)) hf G4 ((S.trans Z).trans ad)⟩,λz=>by cases z⟩
  ·cases hx with
   | bad h=>rw[B] at h;cases h
   | nam _ _=>exact Y 3 rfl G3 (S.trans Z)
   | tg h' g _=>rw[B] at h';cases h';rw[L] at g;cases g
   | num h' g _=>rw[B] at h';cases h';rw[L] at g;cases g
theorem Mw {α:Type} (l:List α) (i j:Nat) (a b x y:α):(((l.set i a).set j b).set i x).set j y=(l.set i x).set j y:=by
 by_cases e:i=j
 ·subst e;rw[set_set,set_set,set_set,set_set]
 ·rw[List.set_comm _ _ (λz=>e z),set_set,List.set_comm _ _ (λz=>e z),set_set]
  first | rfl | rw[List.set_comm _ _ (λz=>e z)]
theorem lB {C:Gp->Prop} {i j:Nat} {τ0:bV} {q:List W->Gp->Prop} {Pd:O->Int->Prop} (f:O->Int->W) (S:C G):∀{a:O} {B:List W} {τ:bV},kx Pd a->
 (∀e n,Pd e n->∀k:W->Gp->Prop,k (f e n) G->te ((τ0.set i (some (.tup (ag e)))).set j (some (.int n))) G k)->B.length+a.len<=100000->(∀x y,(τ.set i x).set j y=(τ0.set i x).set j y)->
 q (B++mapP (λ_ _=>true) f a) G->bw C (nU 2 (fO (bJ i) (fO (bJ j) nS))) kQ te (ag a) τ G B q
 | .z,B,τ,_,_,_,_,Y=>⟨S,by simpa[mapP] using Y⟩
 | .c e n r,B,τ,Z,he,hl,L,Y=>by
   rw[bc];refine⟨S,?_⟩;refine⟨rfl,?_⟩;show te ((τ.set i (some (.tup (ag e)))).set j (some (.int n))) G _;rw[L];refine he e n Z.1 _ ?_;simp only[O.len] at hl;refine⟨by lia,lB f S Z.2 he (by rw[length_append];simp only[length_cons,length_nil];lia) (λx y=>?_) (by simpa[mapP] using Y)⟩;rw[Mw];exact L x y
theorem Fm (l:List Nat):Str.empty++aF l=aF l:=(dh [] l).trans rfl
theorem gU (l m:List Nat):aF l++aF m=aF (l++m):=dh l m
def nB (a:O):Prop:=a.NF/\a.size<=300/\O.mx a<10^300
theorem nB.pt {e r:O} {n:Int} (h:nB (.c e n r)):nB e/\nB r/\1<=n/\n<10^300:=by
 obtain⟨h1,h2,B⟩:=h;have L:O.size (.c e n r)=1+O.size e+O.size r:=rfl;exact⟨⟨h1.1,by lia,Int.lt_of_le_of_lt O.mx_he B⟩,⟨h1.2.2.2,by lia,Int.lt_of_le_of_lt O.mx_hr B⟩,h1.2.1,Int.lt_of_le_of_lt O.mx_hn B⟩
theorem nB.len {a:O} (h:nB a):(bD aq a).length<=96001:=by
 have:=mS a h.1 h.2.2;have:=h.2.1;lia
def gW (d:Nat):aX:=λws G q _=>∃a:O,ws=[.tup (ag a)]/\nB a/\a.dp<d/\d<=60/\q (.str (aF (bD aq a))) G
def Jk (d:Nat):aX:=λws G q _=>∃(e:O) (n:Int),ws=[.tup (ag e),.int n]/\nB e/\e.dp<d/\d<=60/\1<=n/\n<10^300/\q (.str (aF (cB aq e n (bD aq e)))) G
def Jl (d:Nat):aX:=λws G q _=>∃e:O,ws=[.tup (ag e)]/\nB e/\e.dp<d/\d<=60/\e≠ .z/\q (.str (aF (eU e (bD aq e)))) G
noncomputable def fy:O->List (List Nat)
 | .z=>[]
 | .c e n r=>cB aq e n (bD aq e)::fy r
theorem lE:∀a:O,mapP (λ_ _=>true) (λe n=>W.str (aF (cB aq e n (bD aq e)))) a=(fy a).map λl=>W.str ⟨l.toArray⟩
 | .z=>rfl
 | .c e n r=>by rw[mapP,ycv rfl,lE r];rfl
theorem iD:∀a:O,a≠ .z->fq [43] (fy a)=bD aq a
 | .z,h=>absurd rfl h
 | .c e n r,_=>by
   rw[fR];cases r with
   | z=>show cB aq e n (bD aq e)=cB aq e n (bD aq e)++[];rw[append_nil]
   | c B S L=>
     have:=iD (.c B S L) (by simp);show cB aq e n (bD aq e)++[43]++fq [43] (fy (.c B S L))=cB aq e n (bD aq e)++43::bD aq (.c B S L);rw[this];simp
theorem j6:∀a:O,a≠ .z->((fy a).map List.length).sum+(fy a).length=(bD aq a).length+1
 | .z,h=>absurd rfl h
 | .c e n r,_=>by
   rw[fR,length_append];cases r with
   | z=>simp[fy,cP]
   | c B S L=>
     have:=j6 (.c B S L) (by simp);have Y:(cP aq (.c B S L)).length=(bD aq (.c B S L)).length+1:=by simp[cP]
     rw[Y];show(cB aq e n (bD aq e)).length+((fy (.c B S L)).map List.length).sum+((fy (.c B S L)).length+1)=_;lia
theorem zk:∀{e:O},e.NF->tz e=decide (O.filt (λy _=>decide (¬y=.z)) e=.z)
 | .z,_=>rfl
 | .c .z n r,h=>by
   have hr:=O.Lt_z h.2.2.1;subst hr
   rfl
 | .c (.c x m y) n r,h=>by
   rw[O.filt_c,ycv (by simp)];simp[tz]
theorem uu:∀{a:O} {d:Nat},nB a->a.dp<d+1->kx (λe n=>nB e/\e.dp<d/\1<=n/\n<10^300) a
 | .z,_,_,_=>trivial
 | .c e n r,d,h,S=>by
   obtain⟨h1,h2,B,L⟩:=h.pt;simp only[O.dp] at S;exact⟨⟨h1,by lia,B,L⟩,uu h2 (by lia)⟩
theorem Mx (F:bf K "shown" "shown" (aG 92) f fd) (F1:bu "part_shown" ["exponent","many"] k (Jk d)):bo (k+1) f fd ["a"] (gW (d+1)):=by
 refine dR F (N:=["a"]) λ_ _ _ _ _ _ nd hr=>?_;apply al
 ·refine' ac ?s1 (ak (bW (jU [43] ?e1)))
  case s1=>eq_refl
  case e1=>ac_nf
 ·rintro ws G q e ⟨a,rfl,S,hd,Z,Y⟩;have ad:=bh a;have af:=O.len_le_size a;have hs:=S.2.1;have ab:=S.len;nofun;refine⟨aI a,by lia,?_⟩;rw[aQ]
  by_cases h:a=.z
  ·subst h;rw[ycv (by simp)];exact am.done Y
  rw[ycw (by simpa using h)];subst hU;unfold mP;rfl';refine lB (τ0:=[none,none,none,none]) (λe n=>W.str (aF (cB aq e n (bD aq e)))) trivial (uu S hd) (λe n B kc L=>?_) (by simp only[length_nil];lia) (λ_ _=>rfl) λp hp=>?_
  ·rfl';exact⟨e,n,rfl,B.1,B.2.1,by lia,B.2.2.1,B.2.2.2,L⟩
  ·rw[nil_append,lE];have:=j6 a h;refine⟨p,fy a,rfl,aa,by lia,G,am.new hp,?_⟩;rw[iD a h];exact Y
theorem My (F:bf K "part_shown" "part_shown" (aG 93) f fd) (F1:bu "power_shown" ["exponent"] k (Jl d)) (ms:mg "str"=none):bo (k+1) f fd ["exponent","many"] (Jk d):=by
 refine dR F (N:=["exponent","many","text"]) λ_ _ _ _ _ _ nd hr=>?_;apply al
 ·refine' ac ?s1 (ac ?s2 (ak (bW (nR ?c3 ?e3 (yH (mM ?v1 (gR (mM ?v2 rX))))))))
  case s1=>eq_refl
  case s2=>eq_refl
  case c3=>ac_rfl
  case e3=>ac_nf
  case v1=>ac_nf
  case v2=>ac_nf
 ·rintro ws G q e ⟨x,n,rfl,Z,hd,S,af,Y,B⟩;have ab:=bh x;have ad:=Z.len;obtain⟨f1,f2⟩:=mQ (n:=n) (by lia) Y;have L:((n.toNat:Nat):Int)=n:=Int.toNat_of_nonneg (by lia);nofun;refine⟨aI x,by lia,?_⟩;rw[aQ]
  by_cases h:x=.z
  ·rw[ycv (by simpa using h)];unfold cB at B;rw[ycv h] at B;exact⟨n.toNat,L.symm,f1,am.done B⟩
  ·rw[ycw (by simpa using h)];unfold cB at B;rw[ycw h] at B;cutsat;refine⟨x,rfl,Z,hd,S,h,?_⟩;subst hU;rfl';refine bY (λh1=>?_) λh1=>?_
   ·rw[ycv h1] at B;exact am.done B
   ·rw[ycw h1] at B;unfold Io Im Ij Ii;rfl';have l1:(eU x (bD aq x)).length<=96005:=by
     unfold eU;split
     ·decide
     ·split<;> simp only[length_cons,length_append,length_nil]<;> lia
    refine⟨_,.inl rfl,?_,?_,_,.inr ⟨n.toNat,congrArg W.int L.symm,f1,rfl⟩,?_⟩
    all_goals rw[Fm (eU x (bD aq x))]
    ·rw[aC];lia
    ·rw[show Str.ofString "*"=aF [42] from rfl,gU (eU x (bD aq x)) [42],aC,length_append,length_singleton];lia
    ·rw[show Str.ofString "*"=aF [42] from rfl,gU (eU x (bD aq x)) [42]];have e2:=gU (eU x (bD aq x)++[42]) (aq n.toNat);rw[e2,aC,length_append,length_append,length_singleton,append_assoc];exact⟨by lia,am.done B⟩
theorem Mz (hk:5<=k) (F:bf K "power_shown" "power_shown" (aG 94) f fd) (F1:bu "shown" ["a"] k (gW d)) (F2:bu "whole" ["n"] 3 vV) (F3:bu "endless" [] 4 BZ) (F4:bu "without_whole" ["a"] 2 BR):bo (k+1) f fd ["exponent"] (Jl d):=by
 refine dR F (N:=["exponent","text"]) λ_ _ _ _ _ _ nd hr=>?_;apply al
 ·refine' ac ?s1 (ac ?s2 (ac (a9 ?c3 (ak (bW (yH (gR (mM ?v1 rX))))) aM) (ak (bW (yH (gR (mM ?v2 (gR rX))))))))
  case s1=>eq_refl
  case s2=>eq_refl
  case c3=>ac_rfl
  case v1=>ac_nf
  case v2=>ac_nf
 ·rintro ws G q e ⟨x,rfl,hS,hd,Z,hz,L⟩;have ad:=bh x;have ab:=hS.len;unfold eU at L;nofun;refine⟨1,rfl,by decide,aI x,aI _,by lia,?_⟩;rw[eJ];refine bY (λh1=>?_) λh1=>?_
  ·rw[ycv (show x=.c .z 1 .z from of_decide_eq_true h1)] at L;exact am.done L
  rw[ycw (λz:x=.c .z 1 .z=>h1 (ydz z))] at L;cutsat;refine⟨x,rfl,hS,hd,Z,?_⟩;subst hU;refine au λU hU=>?_;have B:tz x=true∨x=om->w6 (Io (Ij (Str.ofString "w^") (Im (dE 1) Ii))) { nx:=U { nx:=λx S=>∃G0,am G0 S/\q W.non G0,rt:=λw S=>∃G0,am G0 S/\q w G0 },rt:=λw S=>∃G0,am G0 S/\q w G0 } [some (W.tup (ag x)),some (.str (aF (bD aq x)))] G:=λh=>by
   rw[ycv h] at L;unfold Io Im Ij Ii;rfl';rw[show Str.ofString "w^"=aF [119,94] from rfl,Fm [119,94],aC];refine⟨by decide,_,.inl rfl,?_⟩;rw[gU [119,94] (bD aq x),aC];refine⟨?_,am.done L⟩;simp only[length_append,length_cons,length_nil];lia
  have Y:=zk hS.1;rfl';refine⟨x,rfl,hS.1,by lia,aI _,?_⟩;have ai:=bh (O.filt (λy _=>decide (¬y=.z)) x);have af:=O.dp_filt (λy _=>decide (¬y=.z)) x;refine⟨rfl,by lia,?_⟩;rw[aQ];dsimp only;refine bY (λh2=>B (.inl (Y.trans h2))) λh2=>?_;refine⟨rfl,aI x,aI om,by lia,?_⟩;rw[eJ];refine bY (λh3=>B (.inr (of_decide_eq_true h3))) λh3=>?_;rw[ycw (λz=>by
   rcases z with z | z
   ·exact h2 (Y.symm.trans z)
   ·exact h3 (ydz z))] at L
  subst hU;unfold Io Im Ij Ii;rfl';rw[show Str.ofString "w^("=aF [119,94,40] from rfl,Fm [119,94,40],aC];refine⟨by decide,_,.inl rfl,?_⟩;rw[show Str.ofString ")"=aF [41] from rfl,gU [119,94,40] (bD aq x),gU ([119,94,40]++bD aq x) [41],aC,aC,length_append,length_append];exact⟨by simp only[length_cons,length_nil];lia,by simp only[length_append,length_cons,length_nil];lia,am.done L⟩
theorem Jm (T:Tx) (F2:bu "whole" ["n"] 3 vV) (L:bu "endless" [] 4 BZ) (B:bu "without_whole" ["a"] 2 BR):∀d:Nat,bu "shown" ["a"] (3*d+5) (gW d)
 | 0=>T.qO.fx λf fd F=>io.none λws G q e z9=>by obtain⟨a,_,_,h,_⟩:=z9;lia
 | d+1=>T.qO.fx λf fd F=>Mx F (T.qP.fx λf fd F=>My F (T.qQ.fx λf fd F=>Mz (by lia) F (Jm T F2 L B d) F2 L B) T.qWx)
noncomputable def bG:Tr->List W
 | .z=>[]
 | .c b r=> .tup (bG b)::bG r
theorem j7:∀t:Tr,(bG t).length=t.len
 | .z=>rfl
 | .c b r=>by show(bG r).length+1=_;rw[j7 r];rfl
theorem j8:∀(t:Tr) (i:Nat),(bG t)[i]?=(t.getT i).map λb=>W.tup (bG b)
 | .z,_=>rfl
 | .c b r,0=>rfl
 | .c b r,i+1=>j8 r i
theorem uv {t b:Tr} (h:t.getT i=some b):dQ (bG t) (i:Int)=some (.tup (bG b)):=aA (by rw[j8,h];rfl)
theorem pz:∀t u:Tr,bG (t.app u)=bG t++bG u
 | .z,_=>rfl
 | .c b r,u=>by show W.tup (bG b)::bG (r.app u)=_;rw[pz r u];rfl
theorem iE:∀t:Tr,(W.tup (bG t)).flat=true
 | .z=>rfl
 | .c b r=>by
   have h1:=iE b;have h2:=iE r;simp only[bG,W.flat,W.flats,Bool.and_eq_true] at h1 h2 ⊢;exact⟨h1,h2⟩
theorem gX:∀t:Tr,(W.tup (bG t)).dep<=t.dp+1
 | .z=>by simp[bG,W.dep,W.deps]
 | .c b r=>by
   have h1:=gX b;have h2:=gX r;simp only[bG,W.dep,W.deps,Tr.dp] at h1 h2 ⊢;lia
theorem zm (t:Tr):(W.tup (bG t)).eq (.tup [])=true↔t=.z:=by
 cases t with
 | z=>simp[bG,W.eq_tup,W.eqs]
 | c b r=>simp[bG,W.eq_tup,W.eqs]
def B6 (Pd:Tr->Prop):Tr->Prop
 | .z=>True
 | .c b r=>Pd b/\B6 Pd r
theorem B7:∀t:Tr,B6 (λb=>b.dp<t.dp/\b.pts<t.pts) t
 | .z=>trivial
 | .c b r=>by
   have B:∀(d m:Nat) (s:Tr),s.dp<=d->s.pts<=m->B6 (λb=>b.dp<d/\b.pts<m) s:=by
    intro d m s
    induction s with
    | z=>intro _ _;trivial
    | c x y _ ih=>
      intro h1 h2;have L:=x.pts_pos;have p2:=y.pts_pos;simp only[Tr.dp,Tr.pts] at h1 h2;exact⟨⟨by lia,by lia⟩,ih (by lia) (by lia)⟩
   exact B _ _ _ (ycx _) (ycx _)
noncomputable def vY (f:Tr->W):Tr->List W
 | .z=>[]
 | .c b r=>f b::vY f r
theorem zn {C:Gp->Prop} {i:Nat} {τ0:bV} {q:List W->Gp->Prop} {Pd:Tr->Prop} (f:Tr->W) (L:C G):∀{t:Tr} {B:List W} {τ:bV},B6 Pd t->
 (∀b,Pd b->∀k:W->Gp->Prop,k (f b) G->te (τ0.set i (some (.tup (bG b)))) G k)->B.length+t.len<=100000->(∀x,τ.set i x=τ0.set i x)->q (B++vY f t) G->bw C (bJ i) kQ te (bG t) τ G B q
 | .z,B,τ,_,_,_,_,S=>⟨L,by simpa[vY] using S⟩
 | .c b r,B,τ,hP,Z,hl,Y,S=>by
   refine⟨L,?_⟩;show te (τ.set i (some (.tup (bG b)))) G _;rw[Y];refine Z b hP.1 _ ?_;simp only[Tr.len] at hl;refine⟨by lia,zn f L hP.2 Z (by rw[length_append];simp only[length_cons,length_nil];lia) (λx=>?_) (by simpa[vY] using S)⟩;rw[set_set]
structure zo (G:Gp) (pb:Addr) (ps:List Addr) (ls:List Tr):Prop where
 b:G pb=some (.lst (ps.reverse.map W.ref))
 len:ps.length=ls.length
 nd:(pb::ps).Nodup
 at_:∀(i:Nat) (p:Addr) (t:Tr),ps[i]?=some p->ls[i]?=some t->G p=some (.lst (bG t))
theorem lF (t:Tr):W.deps (bG t)<=t.dp:=by
 have:=gX t;simp only[W.dep] at this;lia
theorem pB (t:Tr):(bG t).isEmpty=decide (t=.z):=by cases t<;> rfl
theorem pC:∀{ls:List Tr} {t:Tr},ls[ls.length-1]?=some t->Tr.low ls=t
 | [],_,h=>by cases h
 | [t],_,h=>by cases h
 | _::u::l,t,h=>by
   refine pC (ls:=u::l) ?_;simpa using h
def Jo:aX:=λws G q _=>∃(pb:Addr) (ps:List Addr) (ls:List Tr),ws=[.ref pb]/\zo G pb ps ls/\ls≠[]/\ls.length<=100/\(∀t,t∈ls->t.dp<=100)/\q (.bl (decide (Tr.low ls=.z/\ls.length<=41))) G
theorem zo.low {Z:Addr} {ps:List Addr} {ls:List Tr} (h:zo G Z ps ls) (B:ls≠[]):∃p t,dQ (ps.reverse.map W.ref) 0=some (.ref p)/\G p=some (.lst (bG t))/\Tr.low ls=t/\t∈ls/\p∈ps:=by
 have Y:0<ls.length:=length_pos_iff.mpr B;have hl:=h.len;have h1:ls.length-1<ls.length:=by lia
 have h2:ls.length-1<ps.length:=by lia
 have S:=ycz h1;have L:=ycz h2;refine⟨_,_,aA (j:=0) ?_,h.at_ _ _ _ L S,pC S,getElem_mem h1,getElem_mem h2⟩;rw[List.getElem?_map,List.getElem?_reverse (by lia)];rw[show ps.length-1-0=ls.length-1 by lia,L]
 rfl
theorem MA (F:bf K "is_room" "is_room" (aG 98) f fd) (hM:mg "MOST_DEEP_texts"=some (.int 40 tk)) (ml:mg "len"=none):bo 1 f fd ["begun"] Jo:=by
 refine dR F (N:=["begun"]) λ_ _ _ _ _ _ nd hr=>?_;apply al
 ·grind
 ·rintro ws G q e ⟨pb,ps,ls,rfl,hb,L,ab,S,Z⟩;obtain⟨p,t,h1,h2,h3,h4,h5⟩:=hb.low L;have hd:=S t h4;have ad:=lF t;rfl';refine⟨_,_,hb.b,h1,λp2 B=>?_⟩;refine⟨_,.nil (ah h2 B) aa,?_⟩;rw[pB];rfl'
  by_cases hz:t=.z
  ·rw[ycv hz];refine⟨_,.lst (ah hb.b B),G,am.new B,?_⟩;have Y:decide (((ps.reverse.map W.ref).length:Int)<=40+1)=decide (Tr.low ls=.z/\ls.length<=41):=by
    have hl:=hb.len;rw[length_map,length_reverse];apply decide_eq_decide.mpr;constructor
    ·intro k;exact⟨h3.trans hz,by lia⟩
    ·rintro⟨_,k⟩;lia
   rw[Y];exact Z
  ·rw[ycw hz];refine⟨G,am.new B,?_⟩;have Y:decide (Tr.low ls=.z/\ls.length<=41)=false:=ydy λk=>hz (h3.symm.trans k.1);rw[Y] at Z;exact Z
def Jp (G:Gp) (x:W):Prop:=x=.non∨(∃c,x=.int c)∨∃a ws,x=.ref a/\G a=some (.lst ws)
theorem zq {α:Type} {l:List α} (h:1<l.length):∃t u r,l=t::u::r:=by
 cases l with
 | nil=>exact absurd h (by simp)
 | cons t l=>
   cases l with
   | nil=>exact absurd h (by simp)
   | cons u l=>exact⟨t,u,l,rfl⟩
def Jq (C:Addr):aX:=λws G q e=>∃x:W,ws=[x]/\((∃l:List Nat,x=.str (aF l)/\l.length<=5000/\match Tr.rdT l with
    | some t=>q (.tup (bG t)) G
    | none=>∀G',am G G'->e (.ref C) G')∨(Jp G x/\∀G',am G G'->e (.ref C) G'))
theorem scTd:ay ["text","begun","sign","branches"] ["text"] (ae (aG 97)):=by right
theorem uw (c d:Nat):(W.str ⟨#[c]⟩).eq (.str ⟨#[d]⟩)=decide (c=d):=by
 simp only[W.eq];rw[Bool.eq_iff_iff,beq_iff_eq,decide_eq_true_eq];constructor
 ·intro h;simpa using congrArg (λs:Str=>s.cps) h
 ·rintro rfl;rfl
theorem fo (h:am G B) (L:B p=none):G p=none:=by
 cases hh:G p with
 | none=>rfl
 | some g=>have:=h _ _ hh;rw[L] at this;cases this
theorem zo.push {ps:List Addr} {ls:List Tr} (h:zo G S ps ls) (Y:G p=none):zo (av (av G p (.lst [])) S (.lst (ps.reverse.map W.ref++[W.ref p]))) S (p::ps) (.z::ls):=by
 have L:S≠p:=λz=>by have:=h.b;rw[z,Y] at this;cases this
 have Z:p∉ps:=λhm=>by
  obtain⟨i,hi⟩:=List.getElem?_of_mem hm;have hl:i<ls.length:=by rw[←h.len];exact(List.getElem?_eq_some_iff.mp hi).1
  have:=h.at_ _ _ _ hi (ycz hl);rw[Y] at this;cases this
 have nd:=nodup_cons.mp h.nd;refine⟨by rw[aa];simp,by simp[h.len],?_,λi x t e1 e2=>?_⟩
 ·refine nodup_cons.mpr ⟨λk=>?_,nodup_cons.mpr ⟨Z,nd.2⟩⟩;rcases mem_cons.mp k with k | k
  ·exact L k
  ·exact nd.1 k
 ·cases i with
  | zero=>
    cases e1;cases e2;rw[ao (Ne.symm L),aa]
    rfl
  | succ i=>
    have B:ps[i]?=some x:=e1;have hx:=h.at_ _ _ _ B e2;have n1:x≠S:=λz=>nd.1 (z▸List.mem_of_getElem? B);rw[ao n1];exact ah hx Y
theorem zo.pop {q:Addr} {ps:List Addr} {t u:Tr} {ls:List Tr} (h:zo G S (p::q::ps) (t::u::ls)):zo (av (av G S (.lst ((q::ps).reverse.map W.ref))) q (.lst (bG u++[W.tup (bG t)]))) S (q::ps) (u.app (.c t .z)::ls):=by
 have nd:=nodup_cons.mp h.nd;have B:=nodup_cons.mp nd.2;have Z:=nodup_cons.mp B.2;have ab:S≠q:=λz=>nd.1 (by rw[z];simp);refine⟨by rw[ao ab,aa],by have:=h.len;simpa using this,nodup_cons.mpr ⟨λk=>nd.1 (ybx _ k),B.2⟩,λi x v e1 e2=>?_⟩;cases i with
 | zero=>
   cases e1;cases e2;rw[aa,pz]
   rfl
 | succ i=>
   have L:ps[i]?=some x:=e1;have Y:ls[i]?=some v:=e2;have hx:=h.at_ (i+2) x v L Y;have hm:=List.mem_of_getElem? L;rw[ao (λz=>Z.1 (by rw[←z];exact hm)),ao (λz=>nd.1 (by rw[←z];exact ybx _ (ybx _ hm)))];exact hx
theorem zt (u:Tr):∀l:List Tr,u.len<=(Tr.rend (u::l)).length
 | []=>by
   have h1:=u.len_pts;have h2:=u.sh_len;show u.len<=u.sh.length;lia
 | v::l=>by
   have h1:=u.len_pts;have h2:=u.sh_len;show u.len<=(Tr.rend (v::l)++40::u.sh).length;rw[length_append,length_cons];lia
theorem zu:∀{ls:List Tr},Tr.dpOk ls->∀t,t∈ls->t.dp<=41
 | [],_,t,h=>by cases h
 | u::l,h,t,B=>by
   rcases mem_cons.mp B with rfl | B
   ·have:=h.1;lia
   ·exact zu h.2 t B
theorem MB (F:bf K "tree_read" "tree_read" (aG 97) f fd) (F1:bu "is_room" ["begun"] 1 Jo) (hM:mg "MOST_POINTS"=some (.int 600 tk)) (hm:mg "NoText"=some (.ref C)) (hC:XC K C bm) (mi:mg "isinstance"=none) (ms:mg "str"=none) (ml:mg "len"=none) (mt:mg "tuple"=none):bL 3 f fd ["text"] (Jq C):=by
 have nd:=scTd.nd;refine bX (k:=2) F scTd (λws G q e h=>by obtain⟨_,rfl,_⟩:=h;rfl) (λcdv A outer s H E ws G q e hr be hE=>?_);apply al
 ·refine' ac (a9 ?c1 (ak (aP hm hC (λH1 L=>hE (.ref C) H1 L) rfl)) aM) (ac ?s2 (ac (cK PassesOwn.leaving rfl ?si ?sg (ak (a9 ?c2 ?b1 (ak (a9 ?c3 ?b2 (ak (aP hm hC (λH1 L=>hE (.ref C) H1 L) rfl))))))) (ac (a9 ?c4 (ak (aP hm hC (λH1 L=>hE (.ref C) H1 L) rfl)) aM) ?s5)))
  case c1=>ac_rfl
  case s2=>eq_refl
  case si=>walk_at "Qi"
  case sg=>walk_at "Qg"
  case c2=>ac_rfl
  case b1=>grind
  case c3=>ac_rfl
  case b2=>grind
  case c4=>ac_rfl
  case s5=>grind
 ·obtain⟨x,rfl,h⟩:=be;nofun;rcases h with⟨l,rfl,hl,h⟩ | ⟨Z,he⟩
  ·simp only[kO];rw[ycw (by decide)];refine⟨⟨_,rfl⟩,_,40,rfl,rfl,?_⟩;unfold Tr.rdT at h;show if 600<((l.count 40:Nat):Int) then _ else _
   by_cases hc:600<l.count 40
   ·rw[ycv hc] at h;rw[ycv (by lia)];exact h G (am.refl G)
   rw[ycw hc] at h;rw[ycw (by lia)];cutsat;intro p0 as Y S;have a1:Y≠p0:=λz=>by rw[z,aa] at S;cases S
   have f1:G Y=none:=by rw[ao a1] at S;exact S
   have g1:=aa (G:=av G p0 (GO.lst [])) (a:=Y) (g:=GO.lst [W.ref p0]);have g0:=ah (g:=GO.lst [W.ref p0]) (aa (G:=G) (a:=p0) (g:=GO.lst [])) S;have ar:am G (av (av G p0 (GO.lst [])) Y (GO.lst [W.ref p0])):=(am.new as).trans (am.new S);generalize av (av G p0 (GO.lst [])) Y (GO.lst [W.ref p0])=L at g1 g0 ar ⊢;have b0:zo L Y [p0] [.z]:=⟨g1,rfl,by simp[a1],λi p t e1 e2=>by
    cases i with
    | zero=>cases e1;cases e2;exact g0
    | succ i=>cases e1⟩
   cutsat;refine a8 (λws τ G'=>∃(cs:List Nat) (ls:List Tr) (ps:List Addr) (t2 t3:Option W),ws=HS cs/\τ=[some (.str (aF l)),some (.ref Y),t2,t3]/\zo G' Y ps ls/\am G G'/\(∀p,p∈Y::ps->G p=none)/\Tr.Bg ls/\Tr.dpOk ls/\(Tr.rend ls).length+cs.length=l.length/\Tr.rdS l [.z]=Tr.rdS cs ls) ?_ ?_ _ _ _
    ⟨l,[.z],[p0],none,none,rfl,rfl,b0,ar,λp hp=>by
      rcases mem_cons.mp hp with rfl | hp
      ·exact f1
      ·cases mem_singleton.mp hp;exact as,Tr.bg0,Tr.dp0,Nat.zero_add _,rfl⟩
   ·rintro τ G' ⟨cs,ls,ps,t2,t3,hw,rfl,hb,B,hf,hB,hD,ai,ab⟩;cases cs with
    | cons c cs=>cases hw
    | nil=>
    refine⟨trivial,?_⟩;subst hU;rw[ab] at h;obtain⟨p,t,h1,h2,h3,h4,h5⟩:=hb.low hB.ne;have bz:=zu hD t h4;have bj:=lF t;dsimp only;nofun;refine⟨_,_,hb.b,h1,λp2 ad=>⟨_,.nil (ah h2 ad) aa,?_⟩⟩;rw[pB];rfl';have hh:match Tr.low ls with | .z=>∀G',am G G'->e (.ref C) G' | .c b _=>q (.tup (bG b)) G:=by
     revert h
     show(match (match Tr.low ls with | .z=>none | .c b _=>some b) with | some t=>q (.tup (bG t)) G | none=>∀G',am G G'->e (.ref C) G')->_;cases Tr.low ls with
     | z=>exact id
     | c b r=>exact id
    rw[h3] at hh;cases t with
    | z=>
      rw[ycv (by rfl)];exact hh _ (B.trans (am.new ad))
    | c b r=>
      rw[ycw (by simp)];subst hU;rfl';exact⟨_,_,ah hb.b ad,h1,_,_,ah h2 ad,aA (j:=0) rfl,G,B.trans (am.new ad),hh⟩
   ·rintro w1 ws τ G' kk ⟨cs,ls,ps,t2,t3,hw,rfl,hb,B,hf,hB,hD,ai,ab⟩ hk;cases cs with
    | nil=>cases hw
    | cons c cs=>
    cases hw;refine⟨trivial,?_⟩;refine ND λT1 T2 a7 a6=>?_;rfl';have bi:0<ls.length:=length_pos_iff.mpr hB.ne;have a5:=hB.len;have a4:¬(c=40/\Tr.low ls=.z/\ls.length<=41)->T2 { nx:=kk,rt:=λw L=>∃G0,am G0 L/\q w G0,bk:=U { nx:=λx L=>∃G0,am G0 L/\q W.non G0,rt:=λw L=>∃G0,am G0 L/\q w G0 },ct:=kk }
     [some (W.str (aF l)),some (W.ref Y),some (W.str { cps:= #[c] }),t3] G':=λa2=>by
     subst a6;refine ND λT3 T4 bd az=>?_;rfl';refine⟨rfl,rfl,zero_le _,?_⟩;rw[show(W.str { cps:= #[c] }).eq (W.str (Str.ofString ")"))=decide (c=41) from uw c 41];have af:¬(c=41/\1<ls.length)->e (.ref C) G':=λhn=>by
      have st:Tr.step ls c=none:=by
       unfold Tr.step;rw[ycw a2]
       by_cases h41:c=41
       ·rw[ycv h41];cases ls with
        | nil=>rfl
        | cons t l=>
          cases l with
          | nil=>rfl
          | cons u l=>exact absurd ⟨h41,by simp⟩ hn
       ·rw[ycw h41]
      rw[ab,Tr.rdS,st] at h;exact h G' B
     by_cases h41:c=41
     ·rw[ycv (ydz h41)];refine⟨_,.lst hb.b,?_⟩;rw[length_map,length_reverse,hb.len]
      by_cases h1l:1<ls.length
      ·rw[ycv (by lia)];subst bd;obtain⟨t,u,l',rfl⟩:∃t u l',ls=t::u::l':=by
        exact zq h1l
       obtain⟨p,p',r,rfl⟩:∃p p' r,ps=p::p'::r:=by
        exact zq (by rw[hb.len];exact h1l)
       have a3:=nodup_cons.mp hb.nd;have gp:=hb.at_ 0 p t rfl rfl;have gq:=hb.at_ 1 p' u rfl rfl;have np:p≠Y:=λz=>a3.1 (by rw[z];simp);have a0:p'≠Y:=λz=>a3.1 (by rw[z];simp);have hl:=hb.len;simp only[length_cons] at hl a5;have st:Tr.step (t::u::l') c=some (u.app (.c t .z)::l'):=by
        unfold Tr.step;rw[ycw a2,ycv h41]
       obtain⟨B2,D2,R2,_⟩:=hB.step hD st;have aj:=congrArg List.length R2;rw[length_append,length_singleton] at aj;simp only[length_cons] at ai;have bl:=u.len_pts;rfl';refine⟨(p'::r).reverse.map W.ref,.ref p,by rw[hb.b];simp,_,_,aa,jL (w:= .ref p') (by simp),⟨_,by rw[ao a0];exact gq⟩,_,by rw[ao np];exact gp,_,by rw[ao a0];exact gq,?_,?_⟩
       ·rw[j7];have h1:=zt u l';have h2:(Tr.rend (t::u::l')).length=(Tr.rend (u::l')).length+(Tr.sh t).length+1:=by
         show(Tr.rend (u::l')++40::Tr.sh t).length=_;rw[length_append,length_cons];lia
        lia
       ·refine hk _ _ ⟨cs,_,p'::r,_,_,rfl,rfl,hb.pop,(B.put (hf _ yby)).put (hf _ (by simp)),λx Z=>hf x ?_,B2,D2,by lia,?_⟩
        ·rcases mem_cons.mp Z with rfl | Z
         ·exact yby
         ·exact ybx _ (ybx _ Z)
        ·rw[ab,Tr.rdS,st]
      ·rw[ycw (by lia)];subst az;exact af λk=>h1l k.2
     ·rw[ycw (by simpa using h41)];subst az;exact af λk=>h41 k.1
    refine⟨rfl,rfl,zero_le _,?_⟩;rw[show(W.str { cps:= #[c] }).eq (W.str (Str.ofString "("))=decide (c=40) from uw c 40]
    by_cases h40:c=40
    ·rw[ycv (ydz h40)];refine⟨Y,ps,ls,rfl,hb,hB.ne,by lia,λt ht=>by have:=zu hD t ht;lia,?_⟩;dsimp only
     by_cases hrm:Tr.low ls=.z/\ls.length<=41
     ·rw[ycv (ydz hrm)];subst a7;rfl';refine⟨⟨_,hb.b⟩,λp hp=>⟨_,ah hb.b hp,by simp only[length_map,length_reverse];have:=hb.len;lia,?_⟩⟩;have f2:G p=none:=fo B hp;have st:Tr.step ls c=some (.z::ls):=by
       unfold Tr.step;rw[ycv ⟨h40,hrm⟩]
      obtain⟨B2,D2,R2,_⟩:=hB.step hD st;have aj:=congrArg List.length R2;rw[length_append,length_singleton] at aj;simp only[length_cons] at ai;refine hk _ _ ⟨cs,.z::ls,p::ps,_,_,rfl,rfl,hb.push hp,(B.put f2).put (hf _ yby),λx Z=>?_,B2,D2,by lia,?_⟩
      ·rcases mem_cons.mp Z with rfl | Z
       ·exact hf _ yby
       ·rcases mem_cons.mp Z with rfl | Z
        ·exact f2
        ·exact hf _ (ybx _ Z)
      ·rw[ab,Tr.rdS,st]
     ·rw[ycw (by simpa using hrm)];exact a4 λk=>hrm k.2
    ·rw[ycw (by simpa using h40)];exact a4 λk=>h40 k.1
  ·rcases Z with rfl | ⟨c,rfl⟩ | ⟨a,ws,rfl,ha⟩
   ·simp only[kO];rw[ycv (by decide)];exact he G (am.refl G)
   ·simp only[kO];rw[ycv (by decide)];exact he G (am.refl G)
   ·simp only[kO,ha];rw[ycv (by decide)];exact he G (am.refl G)
def zv (C:Addr):aX:=λws G q e=>∃n:Nat,ws=[.int (n:Int)]/\(n<10^600->q (.int (n:Int)) G)/\(10^600<=n->e (.ref C) G)
theorem scSm:ay ["n"] ["n"] (ae (aG 45)):=by right
theorem zw {n:Nat} {l:Int} (e:((10^600:Nat):Int)=l):l<=(n:Int)↔10^600<=n:=by
 rw[←e];exact Int.ofNat_le
theorem Jr (F:bf K "small_enough" "small_enough" (aG 45) f fd) (Y:mg "TooGreat"=some (.ref C)) (S:XC K C bm):bL 1 f fd ["n"] (zv C):=by
 have nd:=scSm.nd;refine bX F scSm (λws G q e h=>by obtain⟨_,rfl,_⟩:=h;rfl) (λcdv A outer s H E ws G q e hr B hE=>?_);apply al
 ·refine' ac (a9 ?c (ak (aP Y S (λH1 L=>hE (.ref C) H1 L) rfl)) aM) ?r
  case c=>ac_rfl
  case r=>grind
 ·obtain⟨n,rfl,h1,h2⟩:=B;rfl';refine⟨.inr ⟨by decide,by decide,by decide+kernel⟩,?_⟩;split
  ·rename_i h;exact h2 ((zw (by decide+kernel)).mp h)
  ·rename_i h;exact am.done (h1 (Nat.lt_of_not_le λz=>h ((zw (by decide+kernel)).mpr z)))
theorem zx {n:Nat} (h:n<=10^1204):(n:Int)<=oN:=by
 have h2:((10^1204:Nat):Int)=oN:=by decide+kernel
 rw[←h2];exact Int.ofNat_le.mpr h
theorem uz {n:Nat} (h:n<10^600):(n:Int)<=oN:=zx (ycy (le_of_lt h) (by decide+kernel))
theorem zy (n:Nat):∃b:Nat,AH (n:Int)=(b:Int)/\n/2^b=0/\(n<10^600->b<=2000):=by
 refine⟨_,rfl,?_,λh=>?_⟩
 ·unfold Builtin.Int.intBits
  by_cases h0:n=0
  ·subst h0;rfl
  ·rw[ycw (by simpa using h0)];have e:((n:Nat):Int).natAbs=n:=rfl;rw[e];exact Nat.div_eq_of_lt ((Nat.log2_lt h0).mp (lt_succ_self _))
 ·unfold Builtin.Int.intBits
  by_cases h0:n=0
  ·subst h0;decide
  ·rw[ycw (by simpa using h0)];have e:((n:Nat):Int).natAbs=n:=rfl;rw[e];have:=(Nat.log2_lt (k:=2000) h0).mpr (ydw h (by decide+kernel));lia
def C5 (C:Addr):aX:=λws G q e=>∃B n:Nat,ws=[.int (B:Int),.int (n:Int)]/\2<=B/\B<=10^61/\n<10^600/\(B^n<10^600->q (.int ((B^n:Nat):Int)) G)/\(10^600<=B^n->e (.ref C) G)
theorem scTt:ay ["base","n","found","place"] ["base","n"] (ae (aG 44)):=by right
theorem MC (F:bf K "to_the" "to_the" (aG 44) f fd) (F1:iC "small_enough" ["n"] 1 (zv C) []) (mr:mg "range"=none):bL 2 f fd ["base","n"] (C5 C):=by
 have nd:=scTt.nd;refine bX F scTt (λws G q e h=>by obtain⟨_,_,rfl,_⟩:=h;rfl) (λcdv A outer s H E ws G q e hr ai hE=>?_);apply al
 ·grind
 ·obtain⟨B,n,rfl,hB,aj,hn,hq,he⟩:=ai;obtain⟨b,eb,b0,b1⟩:=zy n;have b2:=b1 hn;nofun;cutsat;rw[eb];refine⟨.inr ⟨rfl,by lia,by lia,by lia,by lia⟩,?_⟩;rw[jC,show(((((b:Int)-1- -1).toNat:Nat):Int)).toNat=b by lia];refine yj _ _ b (λi τ G'=>G'=G/\B^ (n/2^ (b-i))<10^600/\∃(t:Option W),τ=[some (.int (B:Int)),some (.int (n:Int)),some (.int ((B^ (n/2^ (b-i)):Nat):Int)),t]) ⟨rfl,by rw[sub_zero,b0,Nat.pow_zero];decide+kernel,none,by rw[sub_zero,b0];rfl⟩ ?_ ?_
  ·rintro τ G' ⟨rfl,L,t,rfl⟩;refine⟨trivial,?_⟩;subst hU;rw[Nat.sub_self,Nat.pow_zero,Nat.div_one] at L;rfl';rw[Nat.div_one];exact am.done (hq L)
  ·rintro i τ G' kk hi ⟨rfl,L,t,rfl⟩ hk;refine⟨trivial,?_⟩;obtain⟨p,ep⟩:∃p,b-i=p+1:=⟨b-i-1,by lia⟩;have ad:b- (i+1)=p:=by lia
   have af:((b:Int)-1+(i:Int)* -1)=(p:Int):=by lia
   rw[ad] at hk;rw[ep] at L;rw[ep,af];have st:=O.toe_step B n p;have le:=O.toe_le (n:=n) (p:=p) hB;generalize hX:B^ (n/2^ (p+1))=X at st L;generalize hY:B^ (n/2^p)=Y at st le hk;have cX:=uz L;have sq:X*X<=10^1200:=by
    have h3:X*X<=10^600*10^600:=Nat.mul_le_mul (le_of_lt L) (le_of_lt L);rw[←Nat.pow_add] at h3;exact h3
   refine au λU1 hU1=>?_;rfl';refine⟨.inl (.inr (Bp (by lia) cX (by lia) cX)),?_⟩;walk_at "b";have em:((n:Int)/2^p%2=1)=(n/2^p%2=1):=by
    have e1:(n:Int)/2^p%2=((n/2^p%2:Nat):Int):=by simp
    rw[e1];exact propext ⟨λh=>by lia,λh=>by lia⟩
   simp only[em];refine⟨by lia,?_⟩;have rest:∀Z:Nat,Z=Y->U1 { nx:=kk,ct:=kk,bk:=U { nx:=λx S=>∃G0,am G0 S/\q W.non G0,rt:=λw S=>∃G0,am G0 S/\q w G0 },rt:=λw S=>∃G0,am G0 S/\q w G0 } [some (.int (B:Int)),some (.int (n:Int)),some (.int (Z:Int)),some (.int (p:Int))] G':=λZ hZ=>by
    subst hZ;subst hU1;rfl';exact⟨Z,rfl,λh=>hk _ _ ⟨rfl,h,_,rfl⟩,λh=>he (ycy h le)⟩
   by_cases h1:n/2^p%2=1
   ·rw[ycv h1] at st ⊢;have ab:=zx (n:=X*X) (ycy sq (by decide+kernel));rw[Int.natCast_mul] at ab;refine⟨.inl (.inr (Bp (Int.mul_nonneg (by lia) (by lia)) ab (by lia) (ydv (show(B:Int)<=10^61 by lia) (by decide+kernel)))),?_⟩;have:=rest (X*X*B) st.symm;rw[Int.natCast_mul,Int.natCast_mul] at this;exact this
   ·rw[ycw h1] at st ⊢;have:=rest (X*X) st.symm;rw[Int.natCast_mul] at this;exact this
def pD (d:Nat) (C:Addr):aX:=λws G q e=>∃(a:O) (B:Nat),ws=[.tup (ag a),.int (B:Int)]/\a.NF/\a.dp<d/\2<=B/\B<=10^61/\O.mx a<=10^300/\(O.val B a<10^600->q (.int ((O.val B a:Nat):Int)) G)/\(10^600<=O.val B a->e (.ref C) G)
theorem scWoX:ay ["a","base","found","exponent","times"] ["a","base"] (ae (aG 43)):=by right
theorem MD (aj:2<=k) (F:bf K "worth" "worth" (aG 43) f fd) (F0:iC "worth" ["a","base"] k (pD d C) []) (F1:iC "small_enough" ["n"] 1 (zv C) []) (F2:iC "to_the" ["base","n"] 2 (C5 C) []):bL (k+1) f fd ["a","base"] (pD (d+1) C):=by
 have nd:=scWoX.nd;refine bX F scWoX (λws G q e h=>by obtain⟨_,_,rfl,_⟩:=h;rfl) (λcdv A outer s H E ws G q e hr af hE=>?_);apply al
 ·grind
 ·obtain⟨a,B,rfl,na,hd,hB,L,hx,hq,he⟩:=af;nofun;cutsat;refine a8 (λws τ G'=>G'=G/\∃(r:O) (m:Nat) (Y Z:Option W),ws=ag r/\τ=[some (.tup (ag a)),some (.int (B:Int)),some (.int (m:Int)),Y,Z]/\m+O.val B r=O.val B a/\r.dp<d+1/\r.NF/\m<10^600/\O.mx r<=10^300) ?_ ?_ _ _ _ ⟨rfl,a,0,none,none,rfl,rfl,by lia,hd,na,by decide+kernel,hx⟩
  ·rintro τ G' ⟨rfl,r,m,Y,Z,hw,rfl,hm,_,_,ad,_⟩;refine⟨trivial,?_⟩;cases r with
   | z=>
     subst hU;rfl';simp only[O.val] at hm;rw[show m=O.val B a by lia];exact am.done (hq (by lia))
   | c y n r=>cases hw
  ·rintro w1 ws τ G' kk ⟨rfl,r,m,Y,Z,hw,rfl,hm,ab,nr,ad,S⟩ hk;cases r with
   | z=>cases hw
   | c y n r=>
     rw[bc] at hw;cases hw;refine⟨trivial,?_⟩;simp only[O.dp] at ab;rw[O.mx_c] at S;have n1:=nr.2.1;have ai:m+(n.toNat*B^O.val B y+O.val B r)=O.val B a:=hm;have k1:1*B^O.val B y<=n.toNat*B^O.val B y:=Nat.mul_le_mul_right _ (by lia);have k2:=O.lt_pow2 (n:=O.val B y) hB;have en:n=((n.toNat:Nat):Int):=by lia
     have c1:((n.toNat:Nat):Int)<=oN:=by
      rw[←en];exact ydv (show n<=10^300 by lia) (by decide+kernel)
     unfold dD fK;rfl';refine⟨y,B,rfl,nr.1,by lia,hB,L,by lia,λh3=>?_,λh3=>he (by lia)⟩;refine⟨B,O.val B y,rfl,hB,L,h3,λh4=>?_,λh4=>he (by lia)⟩;have c2:=uz h4;rw[en];rfl';refine⟨.inl (.inr (Bp (by lia) c1 (by lia) c2)),?_⟩;refine⟨m+n.toNat*B^O.val B y,by simp,λh5=>?_,λh5=>he (by lia)⟩;rfl';exact hk _ _ ⟨rfl,r,m+n.toNat*B^O.val B y,_,_,rfl,rfl,by lia,by lia,nr.2.2.2,h5,by lia⟩
theorem Js (T:Tx) (L:mg "TooGreat"=some (.ref C)) (S:XC K C bm):∀d:Nat,iC "worth" ["a","base"] (d+2) (pD d C) []
 | 0=>T.qq.rx λf fd F=>sX.none λws G q e z9=>by obtain⟨a,B,_,_,h,_⟩:=z9;lia
 | d+1=>T.qq.rx λf fd F=>MD (by lia) F (Js T L S d) (T.qs.rx λf fd F=>Jr F L S) (T.qr.rx λf fd F=>MC F (T.qs.rx λf fd F=>Jr F L S) T.qUx)
def B8 (d:Nat):aX:=λws G q _=>∃t:Tr,ws=[.tup (bG t)]/\t.dp<d/\t.pts<=1000/\q (.int ((t.pts:Nat):Int)) G
theorem pE:∀t:Tr,∃ns:List Int,vY (λb=>W.int ((b.pts:Nat):Int)) t=ns.map W.int/\1+ns.sum=((t.pts:Nat):Int)
 | .z=>⟨[],rfl,rfl⟩
 | .c b r=>by
   obtain⟨ns,h1,h2⟩:=pE r;refine⟨((b.pts:Nat):Int)::ns,by rw[vY,h1];rfl,?_⟩;rw[sum_cons];show 1+(((b.pts:Nat):Int)+ns.sum)=((b.pts+r.pts:Nat):Int);lia
theorem ME (F:bf K "points" "points" (aG 83) f fd) (F0:bu "points" ["tree"] k (B8 d)) (Z:mg "sum"=none):bo (k+1) f fd ["tree"] (B8 (d+1)):=by
 refine dR F (N:=["tree"]) λ_ _ _ _ _ _ nd hr=>?_;apply al
 ·grind
 ·rintro ws G q e ⟨t,rfl,hd,L,S⟩;have hl:=t.len_pts;rfl';show bw _ _ _ _ _ [none,none,none] G [] _;refine zn (τ0:=[none,none,none]) (λb=>W.int ((b.pts:Nat):Int)) trivial (B7 t) (λb hb Y B=>?_) (by simp only[length_nil];lia) (λ_=>rfl) λp L=>?_
  ·rfl';exact⟨b,rfl,by lia,by lia,B⟩
  ·obtain⟨ns,h1,h2⟩:=pE t;rw[nil_append,h1];refine⟨ns,aa,?_⟩;rw[h2];exact⟨G,am.new L,S⟩
theorem Jt (T:Tx):∀d:Nat,bu "points" ["tree"] d (B8 d)
 | 0=>T.qK.fx λf fd F=>io.none λws G q e z9=>by obtain⟨t,_,h,_⟩:=z9;lia
 | d+1=>T.qK.fx λf fd F=>ME F (Jt T d) T.qXx
noncomputable def gn (w:List Nat):List W:=w.map λi=>W.int ((i:Nat):Int)
theorem uA (w:List Nat):(gn w).length=w.length:=length_map ..
theorem iF:∀w:List Nat,(W.tup (gn w)).flat=true/\(W.tup (gn w)).dep<=1
 | []=>⟨rfl,by decide⟩
 | i::w=>by
   obtain⟨h1,h2⟩:=iF w;refine⟨h1,?_⟩;simp only[gn,W.dep,W.deps,map_cons] at h2 ⊢;lia
noncomputable def uB (t s:Tr) (w:List Nat) (m:Nat):Nat:=if w.length=1 then t.pts-1 else t.pts-1+m*(s.pts-1)
def Ju:aX:=λws G q _=>∃(t s:Tr) (w:List Nat) (m:Nat),ws=[.tup (bG t),.tup (gn w),.int (m:Int)]/\Tr.subT t (w.take (w.length-1))=some s/\t.dp<40/\t.pts<=100/\m<=10^60/\q (.int ((uB t s w m:Nat):Int)) G
theorem MF (F:bf K "points_left" "points_left" (aG 87) f fd) (F1:bu "points" ["tree"] 40 (B8 40)) (ml:mg "len"=none):bo 41 f fd ["tree","way","many"] Ju:=by
 refine dR F (N:=["tree","way","many","left","point","place"]) λ_ _ _ _ _ _ nd hr=>?_;apply al
 ·grind
 ·rintro ws G q e ⟨t,s0,w,m,rfl,h0,hd,hp,hm,L⟩;have tp:=t.pts_pos;nofun;refine⟨t,rfl,by lia,by lia,?_⟩;rfl';cutsat;rw[uA];unfold uB at L;split
  ·rw[ycv (by lia)] at L;rw[show((t.pts:Nat):Int)-1=((t.pts-1:Nat):Int) by lia];exact am.done L
  rw[ycw (by lia)] at L;cutsat;cutsat;rw[tS,uA,show(gn w).take (w.length-1)=gn (w.take (w.length-1)) from List.map_take.symm];refine a8 (λws τ S=>S=G/\∃(r:List Nat) (s:Tr) (Y:Option W),ws=gn r/\τ=[some (.tup (bG t)),some (.tup (gn w)),some (.int (m:Int)),some (.int (((t.pts:Nat):Int)-1)),some (.tup (bG s)),Y]/\Tr.subT s r=some s0/\s.pts<=t.pts/\s.dp<=t.dp) ?_ ?_ _ _ _ ⟨rfl,_,t,none,rfl,rfl,h0,ycx _,ycx _⟩
  ·rintro τ S ⟨rfl,r,s,Y,hr,rfl,B,ps,ds⟩;refine⟨trivial,?_⟩;cases r with
   | cons i r=>cases hr
   | nil=>
     cases (B);have pp:=s0.pts_pos;subst hU;rfl';refine⟨s0,rfl,by lia,by lia,?_⟩;rfl';refine⟨.inl (.inr (K8 (by lia) (by lia))),?_⟩;have Z:((t.pts:Nat):Int)-1+(m:Int)*(((s0.pts:Nat):Int)-1)=((t.pts-1+m*(s0.pts-1):Nat):Int):=by
      rw[Int.natCast_add,Int.natCast_mul,show((s0.pts-1:Nat):Int)=((s0.pts:Nat):Int)-1 by lia,show((t.pts-1:Nat):Int)=((t.pts:Nat):Int)-1 by lia]
     rw[Z];exact am.done L
  ·rintro w1 ws τ S kk ⟨rfl,r,s,Y,hr,rfl,B,ps,ds⟩ hk;cases r with
   | nil=>cases hr
   | cons i r=>
     obtain⟨rfl,rfl⟩:=List.cons.inj hr;obtain⟨b,h1,h2⟩:=Tr.subT_cons B;have g1:=Tr.getT_some h1;refine⟨trivial,?_⟩;rfl';refine⟨_,uv h1,?_⟩;exact hk _ _ ⟨rfl,r,b,_,rfl,rfl,h2,by lia,by lia⟩
noncomputable def MG:Option Tr->Bool
 | some .z=>true
 | _=>false
noncomputable def lG (t:Tr) (w:List Nat):Bool:=!w.isEmpty&&MG (Tr.subT t w)
def Jv:aX:=λws G q _=>∃(t:Tr) (w:List Nat),ws=[.tup (bG t),.tup (gn w)]/\t.dp<=50/\q (.bl (lG t w)) G
theorem MH (F:bf K "is_head" "is_head" (aG 86) f fd) (F1:BP "is_whole" ["thing","least"] 1 BS [.int 0]) (mi:mg "isinstance"=none) (mt:mg "tuple"=none) (ml:mg "len"=none):bo 2 f fd ["tree","way"] Jv:=by
 refine dR F (N:=["tree","way","point","place"]) λ_ _ _ _ _ _ nd hr=>?_;apply al
 ·grind
 ·rintro ws G q e ⟨t,v,rfl,hd,B⟩;nofun;refine⟨(iF v).1,by have:=(iF v).2;lia,?_⟩;cases v with
  | nil=>
    rw[ycv (by rfl)];exact am.done B
  | cons Y v=>
  rw[ycw (by simp[gn,W.eq,W.eqs])];rw[show lG t (Y::v)=MG (Tr.subT t (Y::v)) from rfl] at B;generalize Y::v=w at B ⊢;cutsat;cutsat;refine a8 (λws τ G'=>G'=G/\∃(r:List Nat) (s:Tr) (Z:Option W),ws=gn r/\τ=[some (.tup (bG t)),some (.tup (gn w)),some (.tup (bG s)),Z]/\Tr.subT s r=Tr.subT t w/\s.dp<=t.dp) ?_ ?_ _ _ _ ⟨rfl,w,t,none,rfl,rfl,rfl,ycx _⟩
  ·rintro τ G' ⟨rfl,r,s,Z,hr,rfl,S,ds⟩;refine⟨trivial,?_⟩;cases r with
   | cons i r=>cases hr
   | nil=>
     have sd:=gX s;subst hU;rfl';refine⟨iE s,by lia,?_⟩;rw[←S] at B;have e0:(W.tup (bG s)).eq (.tup [])=MG (Tr.subT s []):=by
      rw[Bool.eq_iff_iff,zm];cases s with
      | z=>exact⟨λ_=>rfl,λ_=>rfl⟩
      | c b r=>exact⟨λz=>(by cases z),λz=>Bool.noConfusion z⟩
     rw[e0];exact am.done B
  ·rintro w1 ws τ G' kk ⟨rfl,r,s,Z,hr,rfl,S,ds⟩ hk;cases r with
   | nil=>cases hr
   | cons i r=>
     obtain⟨rfl,rfl⟩:=List.cons.inj hr;refine⟨trivial,?_⟩;have el:=j7 s;have L:=j8 s i;refine au λU1 hU1=>?_;rfl';refine⟨_,_,rfl,?_⟩;rfl';rw[ycw (by lia),el];refine bY (λh=>?_) λh=>?_
     ·rw[List.getElem?_eq_none (by lia)] at L;have:Tr.subT t w=none:=by
       rw[←S];unfold Tr.subT;cases hg:s.getT i with
       | none=>rfl
       | some b=>rw[hg] at L;cases L
      rw[this] at B;exact am.done B
     ·subst hU1;rfl';rw[ycz (by lia)] at L;cases hg:s.getT i with
      | none=>rw[hg] at L;cases L
      | some b=>
        have g1:=Tr.getT_some hg;refine⟨_,uv hg,hk _ _ ⟨rfl,r,b,_,rfl,rfl,?_,by lia⟩⟩;rw[←S]
        conv=>rhs;unfold Tr.subT
        rw[hg]
def Jw (cs:List Addr):aX:=λws G q e=>∃(t:Tr) (w:List Nat) (m k:Nat),ws=[.tup (bG t),.tup (gn w),.int (m:Int)]/\t.dp<40/\t.pts<=100/\m<=10^60/\((k=1/\lG t w=false)∨(k=8/\lG t w=true/\∃s,Tr.subT t (w.take (w.length-1))=some s/\600<uB t s w m))/\∀G',am G G'->e (.ref (cl cs k)) G'
theorem scCu:ay ["tree","way","many"] ["tree","way","many"] (ae (aG 85)):=by right
theorem MI (F:ir K "cut" "cut" (aG 85) f fd T ds) (F1:bu "is_head" ["tree","way"] 2 Jv) (F2:BP "is_whole" ["thing","least"] 1 BS [.int 0]) (F3:bu "points_left" ["tree","way","many"] 41 Ju) (hM:mg "MOST_POINTS"=some (.int 600 tk)) (m1:mg "NoHead"=some (.ref (cl cs 1))) (x1:XC K (cl cs 1) b1) (m8:mg "TooGreat"=some (.ref (cl cs 8))) (x8:XC K (cl cs 8) b8):bL 42 f fd ["tree","way","many"] (Jw cs):=by
 have nd:=scCu.nd;refine CB F scCu (λws G q e h=>by obtain⟨_,_,_,_,rfl,_⟩:=h;rfl) (λcdv A outer s H E ws G q e hr S hE=>?_);obtain⟨t,v,m,k,rfl,hd,hp,hm,hc,Y⟩:=S;apply al
 ·refine' ac (a9 ?c1 (ak (aP m1 x1 (λH1 B=>hE _ H1 B) rfl)) aM) (ac (a9 ?c2 bU aM) (ac (a9 ?c3 (ak (aP m8 x8 (λH1 B=>hE _ H1 B) rfl)) aM) bU))
  case c1=>ac_rfl
  case c2=>ac_rfl
  case c3=>ac_rfl
 ·nofun;refine⟨t,v,rfl,by lia,?_⟩;rfl';rcases hc with⟨rfl,hn⟩ | ⟨rfl,Z,s0,L,hl⟩
  ·rw[ycv hn];exact Y G (am.refl G)
  ·rw[ycw (by rw[Z];decide)];cutsat;refine⟨_,_,rfl,?_⟩;rfl';rw[ycw (by lia)];cutsat;refine⟨t,s0,v,m,rfl,L,by lia,by lia,by lia,?_⟩;rfl';rw[ycv (by lia)];exact Y G (am.refl G)
def B9 (C:Addr) (Bad:O->O->Prop):aX:=λws G q e=>∃a b:O,ws=[.tup (ag a),.tup (ag b)]/\a.NF/\a.dp<=50/\b.dp<=50/\Bad a b/\e (.ref C) G
theorem scMi:ay ["a","b","alike","rest"] ["a","b"] (ae (aG 29)):=by right
theorem MJ (F:bf K "minus" "minus" (aG 29) f fd) (F1:bu "compare" ["a","b"] 1 BQ) (S:mg "TooHigh"=some (.ref C)) (Z:XC K C bm):bL 2 f fd ["a","b"] (B9 C λa b=>0<O.cmp b a):=by
 have nd:=scMi.nd;refine bX F scMi (λws G q e h=>by obtain⟨_,_,rfl,_⟩:=h;rfl) (λcdv A outer s H E ws G q e hr B hE=>?_);apply al
 ·refine' ac (a9 ?c (ak (aP S Z (λH1 L=>hE _ H1 L) rfl)) aM) bU
  case c=>ac_rfl
 ·obtain⟨a,b,rfl,na,da,db,hb,Y⟩:=B;nofun;refine⟨b,a,rfl,by lia,?_⟩;rfl';rw[ycv hb];exact Y
theorem scDv:ay ["a","b","exponent","quotient","above","left","many"] ["a","b"] (ae (aG 49)):=by right
theorem MK (F:bf K "divided" "divided" (aG 49) f fd) (Z:mg "Nought"=some (.ref C)) (S:XC K C bm):bL 1 f fd ["a","b"] (B9 C λ_ b=>b=.z):=by
 have nd:=scDv.nd;refine bX F scDv (λws G q e h=>by obtain⟨_,_,rfl,_⟩:=h;rfl) (λcdv A outer s H E ws G q e hr B hE=>?_);apply al
 ·refine' ac (a9 ?c (ak (aP Z S (λH1 L=>hE _ H1 L) rfl)) aM) bU
  case c=>ac_rfl
 ·obtain⟨a,b,rfl,na,da,db,rfl,Y⟩:=B;nofun;refine⟨aI _,by decide,?_⟩;rw[aQ,ycv (by rfl)];exact Y
def Jx (C:Addr):aX:=λws G q e=>∃v:W,ws=[.tup (ag .z),v]/\e (.ref C) G
theorem scLa:ay ["a","n","exponent"] ["a","n"] (ae (aG 35)):=by right
theorem ML (F:bf K "ladder" "ladder" (aG 35) f fd) (Z:mg "Nought"=some (.ref C)) (S:XC K C bm):bL 1 f fd ["a","n"] (Jx C):=by
 have nd:=scLa.nd;refine bX F scLa (λws G q e h=>by obtain⟨_,rfl,_⟩:=h;rfl) (λcdv A outer s H E ws G q e hr B hE=>?_);apply al
 ·refine' ac (a9 ?c (ak (aP Z S (λH1 L=>hE _ H1 L) rfl)) aM) bU
  case c=>ac_rfl
 ·obtain⟨v,rfl,Y⟩:=B;nofun;refine⟨aI _,by decide,?_⟩;rw[aQ,ycv (by rfl)];exact Y
noncomputable def kz (a:O):Bool:=decide (a≠ .z)&&decide (O.same .z a=0)
def Jy:aX:=λws G q _=>∃a:O,ws=[.tup (ag a)]/\a.NF/\a.dp<=50/\q (.bl (kz a)) G
theorem MM (F:bf K "is_limit" "is_limit" (aG 23) f fd) (F1:bu "whole_part" ["a"] 1 vU):bo 2 f fd ["a"] Jy:=by
 refine dR F (N:=["a"]) λ_ _ _ _ _ _ nd hr=>?_;apply al
 ·grind
 ·rintro ws G q e ⟨a,rfl,L,S,B⟩;have Y:=bh a;unfold kz at B;rfl';refine⟨aI a,by lia,?_⟩;rw[aQ]
  by_cases hz:a=.z
  ·rw[ycw (by simpa using hz)];rw[ydy (λz=>z hz),Bool.false_and] at B;exact am.done B
  ·rw[ycv (by simpa using hz)];refine⟨a,rfl,L,by lia,?_⟩;rw[ydz hz,Bool.true_and] at B;rfl';exact am.done B
def Fn (cs:List Addr):aX:=λws G q e=>∃(a b:O) (k:Nat),ws=[.tup (ag a),.tup (ag b)]/\a.NF/\a.dp<=50/\b.dp<=50/\((k=2/\kz a=false)∨(k=9/\kz a=true/\0<=O.cmp b a))/\e (.ref (cl cs k)) G
theorem scRu:ay ["a","b","exponent","foot","order"] ["a","b"] (ae (aG 37)):=by right
theorem MN (F:bf K "rung" "rung" (aG 37) f fd) (F1:bu "is_limit" ["a"] 2 Jy) (F2:bu "compare" ["a","b"] 1 BQ) (Y:mg "NoLimit"=some (.ref (cl cs 2))) (x2:XC K (cl cs 2) b2) (m9:mg "TooHigh"=some (.ref (cl cs 9))) (x9:XC K (cl cs 9) b9):bL 3 f fd ["a","b"] (Fn cs):=by
 have nd:=scRu.nd;refine bX F scRu (λws G q e h=>by obtain⟨_,_,_,rfl,_⟩:=h;rfl) (λcdv A outer s H E ws G q e hr L hE=>?_);apply al
 ·refine' ac (a9 ?c1 (ak (aP Y x2 (λH1 B=>hE _ H1 B) rfl)) aM) (ac (a9 ?c2 (ak (aP m9 x9 (λH1 B=>hE _ H1 B) rfl)) aM) bU)
  case c1=>ac_rfl
  case c2=>ac_rfl
 ·obtain⟨a,b,k,rfl,Z,da,db,hk,S⟩:=L;nofun;refine⟨a,rfl,Z,da,?_⟩;rfl';rcases hk with⟨rfl,h⟩ | ⟨rfl,h,hc⟩
  ·rw[ycv h];exact S
  ·rw[ycw (by rw[h];decide)];cutsat;refine⟨b,a,rfl,by lia,?_⟩;rfl';rw[ycv hc];exact S
def Jz:aX:=λws G q _=>∃(a:O) (B:Nat),ws=[.tup (ag a),.int (B:Int)]/\a.dp<=50/\q (.bl (decide (O.mx a<(B:Int)))) G
theorem MO (F:bf K "fits" "fits" (aG 42) f fd) (F1:bu "greatest" ["a"] 61 (yZ 61)):bo 62 f fd ["a","base"] Jz:=by
 refine dR (k:=61) F (N:=["a","base"]) λ_ _ _ _ _ _ nd hr=>?_;apply al
 ·grind
 ·rintro ws G q e ⟨a,B,rfl,S,L⟩;rfl';refine⟨a,rfl,by lia,?_⟩;rfl';exact am.done L
def JA (cs:List Addr):aX:=λws G q e=>∃(a:O) (B k:Nat),ws=[.tup (ag a),.int (B:Int)]/\a.dp<=5/\2<=B/\B<=10^61/\((k=7/\a=.z)∨(k=0/\a≠ .z/\(B:Int)<=O.mx a)∨(k=8/\a=.c om 1 .z/\201<=B))/\e (.ref (cl cs k)) G
theorem scDo:ay ["a","base","size"] ["a","base"] (ae (aG 46)):=by right
theorem MP (F:bf K "down" "down" (aG 46) f fd) (F1:bu "fits" ["a","base"] 62 Jz) (R2:iC "worth" ["a","base"] 12 (pD 10 (cl cs 8)) []) (hM:mg "MOST_EXPONENT"=some (.int 200 tk)) (m0:mg "NoFit"=some (.ref (cl cs 0))) (x0:XC K (cl cs 0) b0) (m7:mg "Nought"=some (.ref (cl cs 7))) (x7:XC K (cl cs 7) b7) (m8:mg "TooGreat"=some (.ref (cl cs 8))) (x8:XC K (cl cs 8) b8):bL 63 f fd ["a","base"] (JA cs):=by
 have nd:=scDo.nd;refine bX (k:=62) F scDo (λws G q e h=>by obtain⟨_,_,_,rfl,_⟩:=h;rfl) (λcdv A outer s H E ws G q e hr ab hE=>?_);apply al
 ·refine' ac (a9 ?c1 (ak (aP m7 x7 (λH1 L=>hE _ H1 L) rfl)) aM) (ac (a9 ?c2 (ak (aP m0 x0 (λH1 L=>hE _ H1 L) rfl)) aM) (ac (cr 2 nd rfl (by first | exact Or.inl rfl | exact Or.inr rfl) (bb R2 (aH.mono hr (by lia)) hE rfl ?a3)) (ac (a9 ?c4 (ak (aP m8 x8 (λH1 L=>hE _ H1 L) rfl)) aM) bU)))
  case c1=>ac_rfl
  case c2=>ac_rfl
  case a3=>walk_at "Qa"
  case c4=>ac_rfl
 ·obtain⟨a,B,k,rfl,da,hB,Z,S,Y⟩:=ab;have hd:=bh a;nofun;refine⟨aI a,by lia,?_⟩;rw[aQ];rcases S with⟨rfl,rfl⟩ | S
  ·rw[ycv (by rfl)];exact Y
  have hz:a≠ .z:=by rcases S with h | h;exact h.2.1;rw[h.2.1];exact λz=>by cases z
  rw[ycw (by simpa using hz)];cutsat;refine⟨a,B,rfl,by lia,?_⟩;rfl';rcases S with⟨rfl,_,h⟩ | ⟨rfl,rfl,h⟩
  ·rw[ycv (by lia)];exact Y
  ·have hm:O.mx (.c om 1 .z)=1:=by decide
   rw[hm,ycw (by lia)];subst hU;refine au λU hU=>?_;rw[bc];unfold dD fK;rfl';have hv:O.val B om=B:=by simp[om,O.wh,O.val]
   refine⟨_,rfl,?_⟩;rfl';refine⟨om,B,rfl,⟨⟨trivial,by decide,trivial,trivial⟩,by decide,trivial,trivial⟩,by decide,hB,Z,by decide+kernel,λ_=>?_,λ_=>Y⟩;rw[hv];cutsat;rw[ycv (by lia)];exact Y
inductive gF where
 | nam (l:List Nat)
 | num (r:O)
 | int (n:Nat)
 | tree (t:Tr)
 | way (w:List Nat)
noncomputable def fA:gF->W
 | .nam l=> .str (aF l)
 | .num r=> .tup (ag r)
 | .int n=> .int (n:Int)
 | .tree t=> .tup (bG t)
 | .way w=> .tup (gn w)
inductive eW (nm:List Nat->Option O):Nat->List Nat->Nat ⊕ gF->Prop where
 | name {l:List Nat} (h:aN l=true):eW nm 0 l (.inr (.nam l))
 | noname {l:List Nat} (h:aN l=false):eW nm 0 l (.inl 6)
 | kept {l:List Nat} {r:O} (h:nm l=some r):eW nm 1 l (.inr (.nam l))
 | nokept {l:List Nat} (h:nm l=none):eW nm 1 l (.inl 3)
 | expr {l:List Nat} {r:O} (h:bM nm l (.inr r)):eW nm 2 l (.inr (.num r))
 | noexpr {l:List Nat} {k:Nat} (h:bM nm l (.inl k)):eW nm 2 l (.inl k)
 | fig {l:List Nat} (h:aR l=true):eW nm 3 l (.inr (.int (fh l)))
 | nofig {l:List Nat} (h:aR l=false):eW nm 3 l (.inl 6)
 | tree {l:List Nat} {t:Tr} (h:Tr.rdT l=some t):eW nm 4 l (.inr (.tree t))
 | notree {l:List Nat} (h:Tr.rdT l=none):eW nm 4 l (.inl 6)
 | way {l:List Nat} (h:(dP 46 l).all aR=true):eW nm 5 l (.inr (.way ((dP 46 l).map fh)))
 | noway {l:List Nat} (h:(dP 46 l).all aR=false):eW nm 5 l (.inl 6)
 | base {l:List Nat} (h:aR l=true):eW nm 6 l (.inr (.int (fh l)))
 | nobase {l:List Nat} (h:aR l=false):eW nm 6 l (.inl 6)
def Ca:gF->Prop
 | .num r=>y7 r
 | _=>True
def fT (cs:List Addr) (j:Nat):aX:=λws G q e=>∃(l:List Nat) (d:Addr) (nm:List Nat->Option O) (x:Nat ⊕ gF),ws=[.str (aF l),.ref d]/\C4 G d nm/\l.length<=5000/\eW nm j l x/\(∀t,x=.inr t->Ca t->∀G',am G G'->q (fA t) G')/\(∀k,x=.inl k->∀G',am G G'->e (.ref (cl cs k)) G')
theorem scNn:ay ["word","kept"] ["word","kept"] (ae (aG 100)):=by right
theorem MQ (F:bf K "new_name" "new_name" (aG 100) f fd) (F1:bu "is_name" ["text"] 2 Ff) (Z:mg "NoText"=some (.ref (cl cs 6))) (x6:XC K (cl cs 6) b6):bL 3 f fd ["word","kept"] (fT cs 0):=by
 have nd:=scNn.nd;refine bX F scNn (λws G q e h=>by obtain⟨_,_,_,_,rfl,_⟩:=h;rfl) (λcdv A outer s H E ws G q e hr S hE=>?_);apply al
 ·refine' ac (a9 ?c (ak (aP Z x6 (λH1 L=>hE _ H1 L) rfl)) aM) ?r
  case c=>ac_rfl
  case r=>grind
 ·obtain⟨l,d,nm,x,rfl,hn,hl,hx,Y,hb⟩:=S;nofun;refine⟨l,rfl,hl,λL B=>?_⟩;rfl';cases hx with
  | name h=>
    rw[ycw (by rw[h];decide)];subst hU;rfl';exact am.done (Y _ rfl trivial L B)
  | noname h=>
    rw[ycv h];exact hb 6 rfl L B
theorem scKn:ay ["word","kept"] ["word","kept"] (ae (aG 101)):=by right
theorem MR (F:bf K "kept_name" "kept_name" (aG 101) f fd) (m3:mg "NoName"=some (.ref (cl cs 3))) (x3:XC K (cl cs 3) b3):bL 3 f fd ["word","kept"] (fT cs 1):=by
 have nd:=scKn.nd;refine bX F scKn (λws G q e h=>by obtain⟨_,_,_,_,rfl,_⟩:=h;rfl) (λcdv A outer s H E ws G q e hr L hE=>?_);apply al
 ·refine' ac (a9 ?c (ak (aP m3 x3 (λH1 G1=>hE _ H1 G1) rfl)) aM) ?r
  case c=>ac_rfl
  case r=>grind
 ·obtain⟨l,d,nm,x,rfl,⟨ab,kvs,Z,B⟩,hl,hx,S,hb⟩:=L;have Y:=B l;nofun;refine⟨_,.dic Z,?_⟩;rw[Y];cases hx with
  | kept h=>
    rw[h,ycw (by rintro⟨⟩)];subst hU;rfl';exact am.done (S _ rfl trivial G (am.refl G))
  | nokept h=>
    rw[h,ycv (by rfl)];exact hb 3 rfl G (am.refl G)
theorem scEx:ay ["word","kept"] ["word","kept"] (ae (aG 102)):=by right
theorem MS (F:bf K "expression" "expression" (aG 102) f fd) (R1:iC "read" ["text","names"] 91 (Jj cs) []):bL 92 f fd ["word","kept"] (fT cs 2):=by
 have nd:=scEx.nd;refine bX (k:=91) F scEx (λws G q e h=>by obtain⟨_,_,_,_,rfl,_⟩:=h;rfl) (λcdv A outer s H E ws G q e hr S hE=>?_);apply al
 ·refine' ak (bW (bb R1 (aH.mono hr (by lia)) hE rfl ?a))
  case a=>walk_at "Qa"
 ·obtain⟨l,d,nm,x,rfl,Y,hl,hx,Z,hb⟩:=S;rfl';cases hx with
  | expr h=>exact⟨l,d,nm,_,rfl,Y,by lia,h,λr hr hf B le=>⟨B,am.refl B,by cases hr;exact Z _ rfl hf B le⟩,λk L=>by cases L⟩
  | noexpr h=>exact⟨l,d,nm,_,rfl,Y,by lia,h,(λr hr=>by cases hr),λk L B le=>by cases L;exact hb _ rfl B le⟩
theorem scWn6:ay ["word","kept"] ["word","kept"] (ae (aG 103)):=by right
theorem Fo (F:bf K "whole_number" "whole_number" (aG 103) f fd) (F1:bu "is_figures" ["text"] 2 Fe) (m6:mg "NoText"=some (.ref (cl cs 6))) (x6:XC K (cl cs 6) b6) (mn:mg "int"=none):bL 3 f fd ["word","kept"] (fT cs 3):=by
 have nd:=scWn6.nd;refine bX F scWn6 (λws G q e h=>by obtain⟨_,_,_,_,rfl,_⟩:=h;rfl) (λcdv A outer s H E ws G q e hr S hE=>?_);apply al
 ·refine' ac (a9 ?c (ak (aP m6 x6 (λH1 L=>hE _ H1 L) rfl)) aM) ?r
  case c=>ac_rfl
  case r=>grind
 ·obtain⟨l,d,nm,x,rfl,hn,hl,hx,Z,hb⟩:=S;nofun;refine⟨l,rfl,hl,λL B=>?_⟩;rfl';cases hx with
  | fig h=>
    rw[ycw (by rw[h];decide)];subst hU;rfl';have Y:l.all ck=true/\1<=l.length/\l.length<=60:=by
     unfold aR at h;simp only[Bool.and_eq_true,decide_eq_true_eq] at h;exact⟨h.1.2,h.1.1⟩
    refine⟨λc hc=>of_decide_eq_true (all_eq_true.mp Y.1 c hc),λz=>?_,by rw[aC];lia,am.done (Z (.int (fh l)) rfl trivial L B)⟩;rw[z] at Y;exact absurd Y.2.1 (by decide)
  | nofig h=>
    rw[ycv h];exact hb 6 rfl L B
theorem scTt6:ay ["word","kept"] ["word","kept"] (ae (aG 104)):=by right
theorem JB (F:bf K "tree_told" "tree_told" (aG 104) f fd) (R1:iC "tree_read" ["text"] 3 (Jq (cl cs 6)) []):bL 4 f fd ["word","kept"] (fT cs 4):=by
 have nd:=scTt6.nd;refine bX F scTt6 (λws G q e h=>by obtain⟨_,_,_,_,rfl,_⟩:=h;rfl) (λcdv A outer s H E ws G q e hr B hE=>?_);apply al
 ·refine' ak (bW (bb R1 (aH.mono hr (by lia)) hE rfl ?a))
  case a=>walk_at "Qa"
 ·obtain⟨l,d,nm,x,rfl,hn,Z,Y,L,hb⟩:=B;rfl';refine⟨_,rfl,.inl ⟨l,rfl,Z,?_⟩⟩;cases Y with
  | tree h=>rw[h];exact am.done (L _ rfl trivial G (am.refl G))
  | notree h=>rw[h];exact λS le=>hb 6 rfl S le
noncomputable def gY:Nat->Str
 | 0=>"NAME"
 | 1=>"KEPT"
 | 2=>"EXPR"
 | 3=>"N"
 | 4=>"TREE"
 | 5=>"WAY"
 | _=>"BASE"
noncomputable def frmT:List (List Nat×List Nat):=[([108,101,116],[0,2]),([116,101,108,108],[2]),([100,114,111,112],[1]),([104,111,108,100],[2,2]),([109,105,110,117,115],[2,2]),([115,104,97,114,101],[2,2]),([99,111,109,109,111,110],[2,2]),([114,117,110,103],[2,2]),([115,116,101,112],[2,3]),([116,114,101,101],[4]),([99,117,116],[4,5,3]),([119,114,105,116,101],[3,6]),([100,111,119,110],[2,6]),([119,111,114,116,104],[2,6])]
noncomputable def kA (l:List Nat):Option (List Nat):=frmT.lookup l
def Fp (K:yav) (kvs:List (Str×Addr)):Prop:=∀l:List Nat,(kA l=none/\kvs.lookup (aF l)=none)∨∃js b,kA l=some js/\kvs.lookup (aF l)=some b/\GTx K b (js.map gY)/\js.length<=3
noncomputable def cT (ps:List (List Nat)):Bool:=ps.all (λp=>!p.isEmpty)&&(match kA (ps.headD []) with | some js=>decide (ps.length=js.length+1) | none=>false)
noncomputable abbrev gZ (ps:List (List Nat)):List W:=ps.map λp=>W.str (aF p)
theorem Fq (c:Nat):∀l:List Nat,dP c l≠[]
 | []=>List.cons_ne_nil _ _
 | x::l=>by
   unfold dP;split
   ·exact List.cons_ne_nil _ _
   ·split<;> exact List.cons_ne_nil _ _
theorem nj (c:Nat):∀l:List Nat,(dP c l).length<=l.length+1
 | []=>ycx _
 | x::l=>by
   have:=nj c l;unfold dP;split
   ·simp only[length_cons];lia
   ·split
    ·rename_i e;rw[e] at this;simp only[length_cons] at this ⊢;lia
    ·simp
theorem j9:∀ps:List (List Nat),W.flats (gZ ps)=true/\W.deps (gZ ps)=0
 | []=>⟨rfl,rfl⟩
 | p::ps=>by
   obtain⟨h1,h2⟩:=j9 ps;exact⟨h1,by show max 0 (W.deps (gZ ps))=0;rw[h2];rfl⟩
theorem uC:∀ps:List (List Nat),((gZ ps).any λw=>w.eq (.str (Str.ofString "")))=!ps.all (λp=>!p.isEmpty)
 | []=>rfl
 | p::ps=>by
   have e:(W.str (aF p)).eq (.str (Str.ofString ""))=p.isEmpty:=by
    rw[show Str.ofString ""=aF [] from rfl,cA];cases p<;> rfl
   show((W.str (aF p)).eq (.str (Str.ofString ""))||(gZ ps).any _)=_;rw[e,uC ps,all_cons,Bool.not_and,Bool.not_not]
def JC (cs:List Addr):aX:=λws G q e=>∃x:W,ws=[x]/\((F9 G x/\∀G',am G G'->e (.ref (cl cs 5)) G')∨∃l:List Nat,x=.str (aF l)/\l.length<=5000/\(cT (dP 32 l)=true->∀p G',G p=none->am G G'->G' p=some (.lst (gZ (dP 32 l)))->q (.ref p) G')/\(cT (dP 32 l)=false->∀G',am G G'->e (.ref (cl cs 5)) G'))
theorem scWs:ay ["row","words"] ["row"] (ae (aG 122)):=by right
theorem MT {af:Addr} {kvs:List (Str×Addr)} (F:bf K "words_of" "words_of" (aG 122) f fd) (mf:mg "FORMS"=some (.ref af)) (hf:mU P w K af kvs) (hF:Fp K kvs) (m5:mg "NoRow"=some (.ref (cl cs 5))) (x5:XC K (cl cs 5) b5) (mi:mg "isinstance"=none) (ms:mg "str"=none) (ml:mg "len"=none):bL 1 f fd ["row"] (JC cs):=by
 have nd:=scWs.nd;refine bX F scWs (λws G q e h=>by obtain⟨_,rfl,_⟩:=h;rfl) (λcdv A outer s H E ws G q e hr ai hE=>?_);apply al
 ·refine' ac (a9 ?c1 (ak (aP m5 x5 (λH1 S=>hE _ H1 S) rfl)) aM) (ac ?s2 (ac (a9 ?c3 (ak (aP m5 x5 (λH1 S=>hE _ H1 S) rfl)) aM) ?r))
  case c1=>ac_rfl
  case s2=>
   refine' cr 1 nd rfl (by first | exact Or.inl rfl | exact Or.inr rfl) (oW ?o ?sp)
   case o=>ac_nf
   case sp=>ac_nf
  case c3=>
   refine' D3 (sN ?c2 (sN (cq (yK hf) ?x3 (dI rfl mf) rfl) (p7 (cq (yB hr) ?x4 (eS iA (eY E8 rfl ml PySem.boot_len (aS (kL (oV hf) (dI rfl mf) ?x5 ?pl) ce)) wW) (bZ _)))))
   case c2=>ac_rfl
   case x3=>ac_nf
   case x4=>ac_nf
   case x5=>ac_nf
   case pl=>exact λ_ _=>rfl
  case r=>grind
 ·obtain⟨x,rfl,hx⟩:=ai;nofun;rcases hx with⟨⟨ty,h1,h2⟩,hb⟩ | ⟨l,rfl,hl,L,hb⟩
  ·rw[h1];dsimp only;rw[ycv h2];exact hb G (am.refl G)
  rw[show kO G (.str (aF l))=some "str" from rfl];dsimp only;rw[ycw (by decide)];subst hU;refine au λU hU=>?_;unfold rY;rfl';refine⟨⟨_,rfl⟩,_,32,rfl,rfl,by rw[aC];lia,λp hp=>?_⟩;rw[lw,map_map,show List.map (W.str ∘ λp=>(⟨p.toArray⟩:Str)) (dP 32 l)=gZ (dP 32 l) from rfl];have ab:dP 32 l≠[]:=Fq 32 l;have ad:=nj 32 l;generalize dP 32 l=ps at L hb ab ad ⊢;have B:=am.new (g:=GO.lst (gZ ps)) hp;have Z:av G p (GO.lst (gZ ps)) p=some (GO.lst (gZ ps)):=aa;generalize av G p (GO.lst (gZ ps))=S at B Z ⊢;cutsat;refine⟨_,.lst Z ⟨rfl,(j9 ps).1,by rw[(j9 ps).2];decide⟩,?_⟩;rw[uC];unfold cT at L hb
  by_cases hA:ps.all (λp=>!p.isEmpty)=true
  rotate_left
  ·rw[Bool.eq_false_iff.mpr hA] at hb ⊢;rw[ycv (by rfl)];exact hb rfl S B
  rw[hA] at L hb ⊢;rw[ycw (by decide)];obtain⟨p0,Y,rfl⟩:=List.exists_cons_of_ne_nil ab;refine⟨_,_,Z,aA (j:=0) rfl,_,rfl,rfl,?_⟩;rfl';rw[Bool.true_and] at L hb;rcases hF p0 with⟨h1,h2⟩ | ⟨js,b,h1,h2,h3,h4⟩
  ·rw[h2];rw[show kA ((p0::Y).headD [])=none from h1] at hb;exact hb rfl S B
  rw[show kA ((p0::Y).headD [])=some js from h1] at L hb;rw[h2];refine⟨_,.lst Z,_,_,Z,aA (j:=0) rfl,_,b,rfl,rfl,h2,b,_,rfl,h3,by rw[length_map];lia,?_⟩;rfl';rw[length_map];dsimp only at L hb
  by_cases hL:(p0::Y).length=js.length+1
  ·rw[ydz hL] at L;rw[ycw (by simp only[length_cons,length_map] at hL ⊢;lia)];subst hU;rfl';exact am.done (L rfl p S hp B Z)
  ·rw[ydy hL] at hb;rw[ycv (by simp only[length_cons,length_map] at hL ⊢;lia)];exact hb rfl S B
inductive dF (nm:List Nat->Option O):List Nat->List (List Nat)->Nat ⊕ List gF->Prop where
 | nil:dF nm [] [] (.inr [])
 | ok {j:Nat} {js:List Nat} {l:List Nat} {ls:List (List Nat)} {t:gF} {ts:List gF} (h:eW nm j l (.inr t)) (g:dF nm js ls (.inr ts)):dF nm (j::js) (l::ls) (.inr (t::ts))
 | bad {j k:Nat} {js:List Nat} {l:List Nat} {ls:List (List Nat)} (h:eW nm j l (.inl k)):dF nm (j::js) (l::ls) (.inl k)
 | later {j k:Nat} {js:List Nat} {l:List Nat} {ls:List (List Nat)} {t:gF} (h:eW nm j l (.inr t)) (g:dF nm js ls (.inl k)):dF nm (j::js) (l::ls) (.inl k)
noncomputable def cm:List Nat->List gF->Bool
 | j::js,.int n::ts=>(decide (j≠6)||decide (2<=n))&&cm js ts
 | j::js,_::ts=>decide (j≠6)&&cm js ts
 | _,_=>true
theorem Ft (h:kA l=some js):(∀j,j∈js->j<=6)/\js.length<=3:=by
 have B:∀x,x∈frmT->(∀j,j∈x.2->j<=6)/\x.2.length<=3:=by decide
 unfold kA at h;generalize frmT=T at h B
 induction T with
 | nil=>cases h
 | cons y T ih=>
   rw[lookup_cons] at h;split at h
   ·cases h;exact B y yby
   ·exact ih h λx L=>B x (ybx _ L)
structure JD (P:Program) (w:World) (K:yav) (mg:yew) (base:Heap) (cs:List Addr) (kr:List (Str×Addr)) (fa:Nat->Addr):Prop where
 lk:∀j,j<=6->kr.lookup (gY j)=some (fa j)
 vf:∀j,j<=6->II 92 (fa j) (fT cs j)
def Fu (cs:List Addr) (fa:Nat->Addr):Addr->aX->Prop:=λfl sp=>∃j,j<=6/\fl=fa j/\sp=fT cs j
theorem OH:∀j,j<6->(W.str (gY j)).eq (W.str (Str.ofString "BASE"))=false:=by
 intro j;rw[mX]
 revert j
 decide+kernel
def JE (cs:List Addr):aX:=λws G q e=>∃(p d:Addr) (l0:List Nat) (ls:List (List Nat)) (js:List Nat) (nm:List Nat->Option O) (x:Nat ⊕ List gF),ws=[.ref p,.ref d]/\G p=some (.lst (gZ (l0::ls)))/\C4 G d nm/\kA l0=some js/\ls.length=js.length/\(∀l,l∈ls->l.length<=5000)/\dF nm js ls x/\
 (∀ts,x=.inr ts->cm js ts=true->(∀t,t∈ts->Ca t)->∀p2 G',G p2=none->am G G'->G' p2=some (.lst (ts.map fA))->q (.ref p2) G')/\(∀ts,x=.inr ts->cm js ts=false->∀G',am G G'->e (.ref (cl cs 4)) G')/\(∀k,x=.inl k->∀G',am G G'->e (.ref (cl cs k)) G')
theorem scTs:ay ["words","kept","found","form","word","reader","thing"] ["words","kept"] (ae (aG 123)):=by right
theorem MU {af ar:Addr} {kvs kr:List (Str×Addr)} {fa:Nat->Addr} (F:bf K "things_of" "things_of" (aG 123) f fd) (mf:mg "FORMS"=some (.ref af)) (hf:mU P w K af kvs) (hF:Fp K kvs) (mr:mg "READERS"=some (.ref ar)) (hk:mU P w K ar kr) (hR:JD P w K mg base cs kr fa) (m4:mg "NoNumber"=some (.ref (cl cs 4))) (x4:XC K (cl cs 4) b4) (mz:mg "zip"=none):bL 93 f fd ["words","kept"] (JE cs):=by
 have nd:=scTs.nd;have b1:∀fl sp,Fu cs fa fl sp->II 92 fl sp:=λfl sp z9=>by obtain⟨j,hj,e1,e2⟩:=z9;rw[e1,e2];exact hR.vf j hj
 refine bX (k:=92) F scTs (λws G q e h=>by obtain⟨_,_,_,_,_,_,_,rfl,_⟩:=h;rfl) (λcdv A outer s H E ws G q e hr cw hE=>?_);apply al
 ·refine' ac ?s1 (ac (cK PassesOwn.leaving rfl (mW rfl mz (aS (kL (oV hf) (dI rfl mf) ?x1) (aS ?x2 ce))) ?tg1 (ac (cr 5 nd rfl (by first | exact Or.inl rfl | exact Or.inr rfl) (kL (oV hk) (dI rfl mr) ?x3)) (ak (bI (fX ?x4 (oU 5 b1 hr hE rfl (by first | exact Or.inl rfl | exact Or.inr (Or.inl rfl) | exact Or.inr (Or.inr rfl)) ?a4)))))) (ac (cK PassesOwn.leaving rfl (mW rfl mz (aS (kL (oV hf) (dI rfl mf) ?x5) (aS ?x6 ce))) ?tg2 (ak (a9 ?c7 (ak (aP m4 x4 (λH1 G1=>hE _ H1 G1) rfl)) aM))) ?s8))
  case s1=>eq_refl
  case x1=>ac_nf
  case x2=>ac_nf
  case tg1=>walk_at "Qg"
  case x3=>ac_nf
  case x4=>ac_nf
  case a4=>walk_at "Qa"
  case x5=>ac_nf
  case x6=>ac_nf
  case tg2=>walk_at "Qg"
  case c7=>ac_rfl
  case s8=>grind
 ·obtain⟨p,d,l0,ls,js,nm,x,rfl,hp,hn,az,c4,c0,hx,a0,bj,bl⟩:=cw;nofun;intro p2 ad;subst hU;refine au λU hU=>?_;unfold ui;rfl';have b3:=Ft az;rcases hF l0 with⟨h1,_⟩ | ⟨c3,b,h1,h2,h3,h4⟩
  ·rw[az] at h1;cases h1
  rw[az] at h1;cases h1;have g0:=ah (g:=GO.lst []) hp ad;have g2:av G p2 (GO.lst []) p2=some (GO.lst ([].map fA)):=aa;have bz:=am.new (g:=GO.lst []) ad;generalize av G p2 (GO.lst [])=G0 at g0 g2 bz ⊢;refine⟨_,_,g0,aA (j:=0) rfl,_,b,rfl,rfl,h2,_,g0,λp3 ab=>?_⟩;have e1:cL (gZ (l0::ls)) (some 1) none=gZ ls:=by rw[show(1:Int)=((1:Nat):Int) from rfl,jK];rfl
  rw[e1];refine⟨_,_,false,_,_,_,rfl,.kl h3 (by rw[length_map];lia) aa,?_⟩;have c1:p3≠p2:=λz=>by rw[z,g2] at ab;cases ab
  have g4:=ah (g:=GO.lst (gZ ls)) g2 ab;have g5:=ah (g:=GO.lst (gZ ls)) g0 ab;have bi:=bz.trans (am.new (g:=GO.lst (gZ ls)) ab);have g6:av G0 p3 (GO.lst (gZ ls)) p3=some (GO.lst (gZ ls)):=aa;generalize av G0 p3 (GO.lst (gZ ls))=G1 at g4 g5 g6 bi ⊢;have np:p≠p2:=λz=>by rw[z,ad] at hp;cases hp
  refine a8 (λws τ G'=>∃(B:List Nat) (S:List (List Nat)) (ts:List gF) (x1:Nat ⊕ List gF) (t3 t4 t5:Option W),ws=du ((B.map gY).map W.str) (gZ S)/\τ=[some (.ref p),some (.ref d),some (.ref p2),t3,t4,t5,none]/\am G G'/\G' p=some (.lst (gZ (l0::ls)))/\G' p2=some (.lst (ts.map fA))/\G' p3=some (.lst (gZ ls))/\dF nm B S x1/\(∀k,x1=.inl k->x=.inl k)/\(∀L,x1=.inr L->x=.inr (ts++L))/\(∀j,j∈B->j<=6)/\(∀l,l∈S->l.length<=5000)/\(∀t,t∈ts->Ca t)/\ts.length+B.length<=3) ?_ ?_ _ _ _
   ⟨js,ls,[],x,_,_,_,rfl,rfl,bi,g5,g4,g6,hx,λk h=>h,λts h=>h,b3.1,c0,(λt h=>by cases h),by rw[length_nil];lia⟩
  ·rintro τ G' ⟨B,S,ts,x1,t3,t4,t5,hw,rfl,le,gp,gt,g3,hT,bd,a3,_,_,a7,_⟩;refine⟨g3,?_⟩;subst hU;dsimp only;refine au λU hU=>?_;have cd:x=.inr ts:=by
    cases hT with
    | nil=>have:=a3 [] rfl;rwa [append_nil] at this
    | ok h g=>cases hw
    | bad h=>cases hw
    | later h g=>cases hw
   subst cd;unfold ui;rfl';refine⟨_,_,gp,aA (j:=0) rfl,_,b,rfl,rfl,h2,_,_,false,_,_,_,rfl,.kl h3 (by rw[length_map];lia) gt,?_⟩;refine a8 (λws τ G2=>G2=G'/\∃(B:List Nat) (S:List (List Nat)) (L:List gF) (t3 t4 t5 t6:Option W),ws=du ((B.map gY).map W.str) (L.map fA)/\τ=[some (.ref p),some (.ref d),some (.ref p2),t3,t4,t5,t6]/\dF nm B S (.inr L)/\(∀j,j∈B->j<=6)/\cm B L=cm js ts) ?_ ?_ _ _ _
    ⟨rfl,js,ls,ts,_,_,_,_,rfl,rfl,hx,b3.1,rfl⟩
   ·rintro τ G2 ⟨rfl,B,S,L,t3,t4,t5,t6,hw,rfl,a5,_,Y⟩;refine⟨gt,?_⟩;subst hU;rfl';cases a5 with
    | nil=>exact am.done (a0 ts rfl Y.symm a7 p2 G2 ad le gt)
    | ok h g=>cases hw
   ·rintro w1 ws τ G2 kk ⟨rfl,B,S,L,t3,t4,t5,t6,hw,rfl,a5,ai,Y⟩ a6;cases a5 with
    | nil=>cases hw
    | @ok j B l S t L h g=>
      cases hw;refine⟨gt,?_⟩;simp only[nU,fO,nS,bJ,set_cons_succ,set_cons_zero];refine⟨rfl,?_⟩;have hj:=ai j yby;have next:cm B L=cm js ts->kk [some (.ref p),some (.ref d),some (.ref p2),some (.str (gY j)),t4,t5,some (fA t)] G2:=λbe=>a6 _ _ ⟨rfl,B,S,L,_,_,_,_,rfl,rfl,g,λy hy=>ai y (ybx _ hy),be⟩
      by_cases h6:j=6
      ·subst h6;cases h with
       | @base _ c2=>
         unfold fA at next ⊢;rfl';refine⟨rfl,rfl,zero_le _,?_⟩;rw[ycv (by rw[mX];rfl)];have cp:cm (6::B) (.int (fh l)::L)=(decide (2<=fh l)&&cm B L):=rfl;rw[cp] at Y;refine bY (λh=>bj ts rfl ?_ G2 le) λh=>next ?_
         ·rw[←Y,ydy (by lia),Bool.false_and]
         ·rw[←Y,ydz (by lia),Bool.true_and]
      ·rfl';refine⟨rfl,rfl,zero_le _,?_⟩;have b7:(W.str (gY j)).eq (W.str (Str.ofString "BASE"))=false:=by
        exact OH j (by lia)
       rw[b7,ycw (by decide)];refine next (Y▸?_);cases t<;> simp[cm,h6]
  ·rintro w1 ws τ G' kk ⟨B,S,ts,x1,t3,t4,t5,hw,rfl,le,gp,gt,g3,hT,bd,a3,ai,b5,a7,co⟩ a6;have b9:C4 G' d nm:=⟨hn.1,by obtain⟨kv,a1,a2⟩:=hn.2;exact⟨kv,GD.le a1 le,a2⟩⟩;have one:∀{j:Nat} {aj:List Nat} {l:List Nat} {as:List (List Nat)} (xj:Nat ⊕ gF),B=j::aj->S=l::as->eW nm j l xj->(∀k,xj=.inl k->x=.inl k)->(∀t,xj=.inr t->∃x2,dF nm aj as x2/\(∀k,x2=.inl k->x=.inl k)/\∀L,x2=.inr L->x=.inr (ts++[t]++L))->(λG=>G p3=some (GO.lst (gZ ls))) G'/\nU 2 (fO (bJ 3) (fO (bJ 4) nS)) w1 [some (.ref p),some (.ref d),some (.ref p2),t3,t4,t5,none] G' λcc G2=>jy (im (sM (Iq ar kr) (wC (W.ref ar)) (dE 3)) (bJ 5)) (wZ (Ei (dE 2) (mT 5 (Fu cs fa) (dW (dE 4) (dW (dE 1) jx)) e))) { nx:=kk,rt:=λw G1=>∃G0,am G0 G1/\q w G0,bk:=U { nx:=λx G1=>∃G0,am G0 G1/\q W.non G0,rt:=λw G1=>∃G0,am G0 G1/\q w G0 },ct:=kk } cc G2:=by
    intro j aj l as xj e1 e2 cn be ca;subst e1 e2;cases hw;refine⟨g3,?_⟩;simp only[nU,fO,nS,bJ,set_cons_succ,set_cons_zero];refine⟨rfl,?_⟩;have hj:=ai j yby;have b6:=b5 l yby;rw[length_cons] at co;refine au λU1 hU1=>?_;rfl';refine⟨_,fa j,rfl,rfl,hR.lk j hj,?_⟩;subst hU1;unfold mT;rfl';refine⟨⟨_,gt⟩,fa j,_,rfl,⟨j,hj,rfl,rfl⟩,l,d,nm,xj,rfl,b9,b6,cn,λt ht b2 G2 Z=>?_,λk hk G2 Z=>bl k (be k hk) G2 (le.trans Z)⟩;obtain⟨x2,b8,q1,q2⟩:=ca t ht;refine⟨_,Z _ _ gt,by rw[length_map];lia,a6 _ _ ⟨aj,as,ts++[t],x2,_,_,_,rfl,rfl,am.put (le.trans Z) ad,by rw[ao np];exact Z _ _ gp,by rw[aa,map_append];rfl,by rw[ao c1];exact Z _ _ g3,b8,q1,q2,λy hy=>ai y (ybx _ hy),λy hy=>b5 y (ybx _ hy),λy hy=>?_,by rw[length_append,length_singleton];lia⟩⟩;rcases mem_append.mp hy with hy | hy
    ·exact a7 y hy
    ·rw[mem_singleton.mp hy];exact b2
   cases hT with
   | nil=>cases hw
   | ok h g=>exact one _ rfl rfl h (λk z=>by cases z) λt z=>by cases z;exact⟨_,g,(λk z=>by cases z),λL z=>by cases z;rw[append_assoc];exact a3 _ rfl⟩
   | bad h=>exact one _ rfl rfl h (λk z=>by cases z;exact bd _ rfl) λt z=>by cases z
   | later h g=>exact one _ rfl rfl h (λk z=>by cases z) λt z=>by cases z;exact⟨_,g,(λk z=>by cases z;exact bd _ rfl),λL z=>by cases z⟩
inductive Dd:Nat->List gF->Nat ⊕ List Nat->Prop where
 | lett {l:List Nat} {r:O} (h:nB r) (hd:r.dp<13):Dd 0 [.nam l,.num r] (.inr (bD aq r))
 | tell {r:O} (h:nB r) (hd:r.dp<13):Dd 1 [.num r] (.inr (bD aq r))
 | drop {l:List Nat}:Dd 2 [.nam l] (.inr [111,107])
 | minus {a b:O} (h:0<O.cmp b a):Dd 4 [.num a,.num b] (.inl 9)
 | share {a:O}:Dd 5 [.num a,.num .z] (.inl 7)
 | rung1 {a b:O} (h:kz a=false):Dd 7 [.num a,.num b] (.inl 2)
 | rung2 {a b:O} (h:kz a=true) (g:0<=O.cmp b a):Dd 7 [.num a,.num b] (.inl 9)
 | step {t:gF}:Dd 8 [.num .z,t] (.inl 7)
 | cut1 {t:Tr} {w:List Nat} {m:Nat} (hd:t.dp<40) (hp:t.pts<=100) (hm:m<=10^60) (h:lG t w=false):Dd 10 [.tree t,.way w,.int m] (.inl 1)
 | cut8 {t s:Tr} {w:List Nat} {m:Nat} (hd:t.dp<40) (hp:t.pts<=100) (hm:m<=10^60) (h:lG t w=true) (hs:Tr.subT t (w.take (w.length-1))=some s) (hl:600<uB t s w m):Dd 10 [.tree t,.way w,.int m] (.inl 8)
 | down7 {B:Nat} (h:2<=B) (h1:B<=10^61):Dd 12 [.num .z,.int B] (.inl 7)
 | down0 {a:O} {B:Nat} (h:2<=B) (h1:B<=10^61) (hd:a.dp<=5) (hz:a≠ .z) (hm:(B:Int)<=O.mx a):Dd 12 [.num a,.int B] (.inl 0)
 | down8 {B:Nat} (h:201<=B) (h1:B<=10^61):Dd 12 [.num (.c om 1 .z),.int B] (.inl 8)
 | worth {B:Nat} (h:2<=B) (h1:B<=10^61) (hg:10^600<=B^B):Dd 13 [.num (.c om 1 .z),.int B] (.inl 8)
def ke (cs:List Addr) (i:Nat):aX:=λws G q e=>∃(p:Addr) (ts:List gF) (x:Nat ⊕ List Nat),ws=[.ref p]/\G p=some (.lst (ts.map fA))/\(∀t,t∈ts->Ca t)/\Dd i ts x/\(∀o,x=.inr o->∀G',am G G'->q (.str (aF o)) G')/\(∀k,x=.inl k->∀G',am G G'->e (.ref (cl cs k)) G')
theorem scD0:ay ["things"] ["things"] (ae (aG 108)):=by right
theorem JF (hi:i=0∨i=1) (F:bf K "tell_number" "tell_number" (aG 108) f fd) (F1:bu "shown" ["a"] 44 (gW 13)):bL 63 f fd ["things"] (ke cs i):=by
 have nd:=scD0.nd;refine bX (k:=62) F scD0 (λws G q e h=>by obtain⟨_,_,_,rfl,_⟩:=h;rfl) (λcdv A outer s H E ws G q e hr L hE=>?_);apply al
 ·grind
 ·obtain⟨p,S,x,rfl,Z,ab,hd,Y,hb⟩:=L;rfl';have B:∀r:O,nB r->r.dp<13->x=.inr (bD aq r)->(S.map fA)[(S.map fA).length-1]?=some (.tup (ag r))->∃xs w,G p=some (GO.lst xs)/\dQ xs (-1)=some w/\gW 13 [w] G (λw G1=>∃G0,am G0 G1/\q w G0) λ_ _=>False:=λr h1 h2 h3 h4=>by
   exact⟨_,.tup (ag r),Z,jL h4,r,rfl,h1,h2,by decide,am.done (Y _ h3 G (am.refl G))⟩
  cases hd with
  | lett h h2=>exact B _ h h2 rfl rfl
  | tell h h2=>exact B _ h h2 rfl rfl
  | _=>lia
theorem scD2:ay ["things"] ["things"] (ae (aG 109)):=by right
theorem MV (F:bf K "tell_dropped" "tell_dropped" (aG 109) f fd):bL 63 f fd ["things"] (ke cs 2):=by
 have nd:=scD2.nd;refine bX (k:=62) F scD2 (λws G q e h=>by obtain⟨_,_,_,rfl,_⟩:=h;rfl) (λcdv A outer s H E ws G q e hr B hE=>?_);apply al
 ·grind
 ·obtain⟨p,ts,x,rfl,Z,S,Y,L,hb⟩:=B;cases Y;rfl';exact am.done (L _ rfl G (am.refl G))
theorem scD4:ay ["things"] ["things"] (ae (aG 111)):=by right
theorem MW (F:bf K "tell_minus" "tell_minus" (aG 111) f fd) (F1:bu "shown" ["a"] 44 (gW 13)) (R:iC "minus" ["a","b"] 2 (B9 (cl cs 9) λa b=>0<O.cmp b a) []):bL 63 f fd ["things"] (ke cs 4):=by
 have nd:=scD4.nd;refine bX (k:=62) F scD4 (λws G q e h=>by obtain⟨_,_,_,rfl,_⟩:=h;rfl) (λcdv A outer s H E ws G q e hr L hE=>?_);apply al
 ·refine' ak (bW (sV F1 (aH.mono hr (by lia)) rfl (aS (bb R (aH.mono hr (by lia)) hE rfl ?a) ce)))
  case a=>walk_at "Qa"
 ·obtain⟨p,ts,x,rfl,S,B,Z,hg,hb⟩:=L;cases Z with
  | @minus a b h=>
    have Y:=B _ yby;have fb:=B _ (ybx _ yby);rfl';exact⟨_,_,S,aA (j:=0) rfl,_,_,S,aA (j:=1) rfl,a,b,rfl,Y.1,by have:=Y.2.2.2;lia,by have:=fb.2.2.2;lia,h,hb 9 rfl G (am.refl G)⟩
theorem scD5:ay ["things"] ["things"] (ae (aG 112)):=by right
theorem MX (F:bf K "tell_share" "tell_share" (aG 112) f fd) (F1:bu "shown" ["a"] 44 (gW 13)) (R:iC "divided" ["a","b"] 1 (B9 (cl cs 7) λ_ b=>b=.z) []):bL 63 f fd ["things"] (ke cs 5):=by
 have nd:=scD5.nd;refine bX (k:=62) F scD5 (λws G q e h=>by obtain⟨_,_,_,rfl,_⟩:=h;rfl) (λcdv A outer s H E ws G q e hr L hE=>?_);apply al
 ·refine' ak (bW (jU [32] (ul (lQ (by first | rfl | decide+kernel)) rfl (mG (bb R (aH.mono hr (by lia)) hE rfl ?a)) (λ_ _ _ _=>?b) (λ_ _ _ _=>?c) (λ_ _ _ _=>?d))))
  case a=>walk_at "Qa"
  case b=>walk_at "Qg"
  case c=>walk_at "Qts"
  case d=>ac_nf
 ·obtain⟨p,ts,x,rfl,S,B,Z,hg,hb⟩:=L;cases Z with
  | @share a=>
    have Y:=B _ yby;unfold mP;rfl';exact⟨_,_,S,aA (j:=0) rfl,_,_,S,aA (j:=1) rfl,a,.z,rfl,Y.1,by have:=Y.2.2.2;lia,by decide,rfl,hb 7 rfl G (am.refl G)⟩
theorem scD7:ay ["things"] ["things"] (ae (aG 114)):=by right
theorem MY (F:bf K "tell_rung" "tell_rung" (aG 114) f fd) (R:iC "rung" ["a","b"] 3 (Fn cs) []) (ms:mg "str"=none):bL 63 f fd ["things"] (ke cs 7):=by
 have nd:=scD7.nd;refine bX (k:=62) F scD7 (λws G q e h=>by obtain⟨_,_,_,rfl,_⟩:=h;rfl) (λcdv A outer s H E ws G q e hr Y hE=>?_);apply al
 ·refine' ak (bW (cI yE rfl ms PyProof.Rows.boot_str (aS (bb R (aH.mono hr (by lia)) hE rfl ?a) ce)))
  case a=>walk_at "Qa"
 ·obtain⟨p,ts,x,rfl,L,B,hd,hg,hb⟩:=Y;have go:∀(a b:O) (k:Nat),ts=[.num a,.num b]->x=.inl k->((k=2/\kz a=false)∨(k=9/\kz a=true/\0<=O.cmp b a))->Fn cs [.tup (ag a),.tup (ag b)] G (λx S=>vK [x] S λw S=>∃G0,am G0 S/\q w G0) e:=λa b k ht hx h=>by
   subst ht;have Z:=B _ yby;have fb:=B _ (ybx _ yby);exact⟨a,b,k,rfl,Z.1,by have:=Z.2.2.2;lia,by have:=fb.2.2.2;lia,h,hb k hx G (am.refl G)⟩
  cases hd with
  | rung1 h=>
    have:=go _ _ 2 rfl rfl (.inl ⟨rfl,h⟩);unfold vK at this;rfl';exact⟨_,_,L,aA (j:=0) rfl,_,_,L,aA (j:=1) rfl,this⟩
  | rung2 h g=>
    have:=go _ _ 9 rfl rfl (.inr ⟨rfl,h,g⟩);unfold vK at this;rfl';exact⟨_,_,L,aA (j:=0) rfl,_,_,L,aA (j:=1) rfl,this⟩
theorem scD8:ay ["things"] ["things"] (ae (aG 115)):=by right
theorem MZ (F:bf K "tell_step" "tell_step" (aG 115) f fd) (F1:bu "shown" ["a"] 44 (gW 13)) (R:iC "ladder" ["a","n"] 1 (Jx (cl cs 7)) []):bL 63 f fd ["things"] (ke cs 8):=by
 have nd:=scD8.nd;refine bX (k:=62) F scD8 (λws G q e h=>by obtain⟨_,_,_,rfl,_⟩:=h;rfl) (λcdv A outer s H E ws G q e hr B hE=>?_);apply al
 ·refine' ak (bW (sV F1 (aH.mono hr (by lia)) rfl (aS (bb R (aH.mono hr (by lia)) hE rfl ?a) ce)))
  case a=>walk_at "Qa"
 ·obtain⟨p,ts,x,rfl,L,S,Y,Z,hb⟩:=B;cases Y with
  | @step t=>
    rfl';exact⟨_,_,L,aA (j:=0) rfl,_,_,L,aA (j:=1) rfl,fA t,rfl,hb 7 rfl G (am.refl G)⟩
theorem scD10:ay ["things","tree"] ["things"] (ae (aG 117)):=by right
theorem JG (F:bf K "tell_cut" "tell_cut" (aG 117) f fd) (R:iC "cut" ["tree","way","many"] 42 (Jw cs) []):bL 63 f fd ["things"] (ke cs 10):=by
 have nd:=scD10.nd;refine bX (k:=62) F scD10 (λws G q e h=>by obtain⟨_,_,_,rfl,_⟩:=h;rfl) (λcdv A outer s H E ws G q e hr Z hE=>?_);apply al
 ·refine' ac (cr 1 nd rfl (by first | exact Or.inl rfl | exact Or.inr rfl) (bb R (aH.mono hr (by lia)) hE rfl ?a)) bU
  case a=>walk_at "Qa"
 ·obtain⟨p,ts,x,rfl,L,ab,S,hg,hb⟩:=Z;cases S with
  | @cut1 t w m S B Y h=>
    rfl';exact⟨_,_,L,aA (j:=0) rfl,_,_,L,aA (j:=1) rfl,_,_,L,aA (j:=2) rfl,t,w,m,1,rfl,S,B,Y,.inl ⟨rfl,h⟩,hb 1 rfl⟩
  | @cut8 t s w m S B Y h hs hl=>
    rfl';exact⟨_,_,L,aA (j:=0) rfl,_,_,L,aA (j:=1) rfl,_,_,L,aA (j:=2) rfl,t,w,m,8,rfl,S,B,Y,.inr ⟨rfl,h,s,hs,hl⟩,hb 8 rfl⟩
theorem scD12:ay ["things"] ["things"] (ae (aG 119)):=by right
theorem JH (F:bf K "tell_down" "tell_down" (aG 119) f fd) (F1:bu "shown" ["a"] 44 (gW 13)) (R:iC "down" ["a","base"] 63 (JA cs) []):bL 64 f fd ["things"] (ke cs 12):=by
 have nd:=scD12.nd;refine bX (k:=63) F scD12 (λws G q e h=>by obtain⟨_,_,_,rfl,_⟩:=h;rfl) (λcdv A outer s H E ws G q e hr Y hE=>?_);apply al
 ·refine' ak (bW (sV F1 (aH.mono hr (by lia)) rfl (aS (bb R (aH.mono hr (by lia)) hE rfl ?a) ce)))
  case a=>walk_at "Qa"
 ·obtain⟨p,ts,x,rfl,L,Z,S,hg,hb⟩:=Y;cases S with
  | @down7 B h h1=>
    rfl';exact⟨_,_,L,aA (j:=0) rfl,_,_,L,aA (j:=1) rfl,.z,B,7,rfl,by decide,h,h1,.inl ⟨rfl,rfl⟩,hb 7 rfl G (am.refl G)⟩
  | @down0 a B h h1 S hz hm=>
    rfl';exact⟨_,_,L,aA (j:=0) rfl,_,_,L,aA (j:=1) rfl,a,B,0,rfl,S,h,h1,.inr (.inl ⟨rfl,hz,hm⟩),hb 0 rfl G (am.refl G)⟩
  | @down8 B h h1=>
    rfl';exact⟨_,_,L,aA (j:=0) rfl,_,_,L,aA (j:=1) rfl,.c om 1 .z,B,8,rfl,by decide,by lia,h1,.inr (.inr ⟨rfl,rfl,h⟩),hb 8 rfl G (am.refl G)⟩
theorem scD13:ay ["things"] ["things"] (ae (aG 120)):=by right
theorem JI (F:bf K "tell_worth" "tell_worth" (aG 120) f fd) (R:iC "worth" ["a","base"] 12 (pD 10 (cl cs 8)) []) (ms:mg "str"=none):bL 63 f fd ["things"] (ke cs 13):=by
 have nd:=scD13.nd;refine bX (k:=62) F scD13 (λws G q e h=>by obtain⟨_,_,_,rfl,_⟩:=h;rfl) (λcdv A outer s H E ws G q e hr S hE=>?_);apply al
 ·refine' ak (bW (cI yE rfl ms PyProof.Rows.boot_str (aS (bb R (aH.mono hr (by lia)) hE rfl ?a) ce)))
  case a=>walk_at "Qa"
 ·obtain⟨p,ts,x,rfl,Y,ab,hd,hg,hb⟩:=S;cases hd with
  | @worth B h h1 L=>
    have Z:O.val B (.c om 1 .z)=B^B:=by simp[om,O.wh,O.val]
    rfl';exact⟨_,_,Y,aA (j:=0) rfl,_,_,Y,aA (j:=1) rfl,.c om 1 .z,B,rfl,⟨⟨⟨trivial,by decide,trivial,trivial⟩,by decide,trivial,trivial⟩,by decide,trivial,trivial⟩,by decide,h,h1,by decide+kernel,(λz=>by rw[Z] at z;exact absurd z (not_lt.mpr L)),λ_=>hb 8 rfl G (am.refl G)⟩
noncomputable def Cb (l:List Nat):Option Nat:=(frmT.zipIdx.find? λx=>decide (x.1.1=l)).map (·.2)
inductive nD (nm:List Nat->Option O) (l:List Nat):Nat ⊕ (Nat×List gF×List Nat)->Prop where
 | row (h:cT (dP 32 l)=false):nD nm l (.inl 5)
 | thgs {p0:List Nat} {ls:List (List Nat)} {js:List Nat} {k:Nat} (e:dP 32 l=p0::ls) (h:cT (p0::ls)=true) (f:kA p0=some js) (g:dF nm js ls (.inl k)):nD nm l (.inl k)
 | bas {p0:List Nat} {ls:List (List Nat)} {js:List Nat} {ts:List gF} (e:dP 32 l=p0::ls) (h:cT (p0::ls)=true) (f:kA p0=some js) (g:dF nm js ls (.inr ts)) (b:cm js ts=false):nD nm l (.inl 4)
 | deed {p0:List Nat} {ls:List (List Nat)} {js:List Nat} {ts:List gF} {i k:Nat} (e:dP 32 l=p0::ls) (h:cT (p0::ls)=true) (f:kA p0=some js) (g:dF nm js ls (.inr ts)) (b:cm js ts=true) (w:Cb p0=some i) (d:Dd i ts (.inl k)):nD nm l (.inl k)
 | done {p0:List Nat} {ls:List (List Nat)} {js:List Nat} {ts:List gF} {i:Nat} {o:List Nat} (e:dP 32 l=p0::ls) (h:cT (p0::ls)=true) (f:kA p0=some js) (g:dF nm js ls (.inr ts)) (b:cm js ts=true) (w:Cb p0=some i) (d:Dd i ts (.inr o)):nD nm l (.inr (i,ts,o))
noncomputable def C6 (kvs:List (aW×W)):Nat->List gF->List (aW×W)
 | 0,[.nam a,.num r]=>cy kvs (.inr (aF a)) (.tup (ag r))
 | 2,[.nam a]=>oZ kvs (.inr (aF a))
 | _,_=>kvs
structure JJ (P:Program) (w:World) (K:yav) (mg:yew) (base:Heap) (cs:List Addr) (kd:List (Str×Addr)) (da:Nat->Addr):Prop where
 lk:∀l i,Cb l=some i->kd.lookup (aF l)=some (da i)
 vf:∀i ts x,Dd i ts x->II 64 (da i) (ke cs i)
def M0 (cs:List Addr) (da:Nat->Addr):Addr->aX->Prop:=λfl sp=>∃i ts x,Dd i ts x/\fl=da i/\sp=ke cs i
structure kB (C:Addr) (G:Gp) (s d:Addr) (kvs:List (aW×W)) (nm:List Nat->Option O):Prop where
 hs:G s=some (.ins C [("kept",.ref d)])
 hd:G d=some (.dic kvs)
 ok:su kvs nm
 ft:∀l b,nm l=some b->y7 b
 len:kvs.length<=1000
def C7 (C:Addr) (cs:List Addr):aX:=λws G q e=>∃(s d:Addr) (x:W) (kvs:List (aW×W)) (nm:List Nat->Option O),ws=[.ref s,x]/\kB C G s d kvs nm/\((F9 G x/\∀G',am G G'->e (.ref (cl cs 5)) G')∨∃(l:List Nat) (r:Nat ⊕ (Nat×List gF×List Nat)),x=.str (aF l)/\l.length<=5000/\nD nm l r/\(∀k,r=.inl k->∀G',am G G'->e (.ref (cl cs k)) G')/\(∀i ts o,r=.inr (i,ts,o)->∀G',am G G'->q (.str (aF o)) (av G' d (.dic (C6 kvs i ts)))))
theorem hJ {c:Nat}:∀{l p:List Nat},p∈dP c l->p.length<=l.length
 | [],p,h=>by rw[mem_singleton.mp h];exact ycx _
 | x::l,p,h=>by
   unfold dP at h;split at h
   ·rcases mem_cons.mp h with rfl | h
    ·exact zero_le _
    ·have:=hJ h;rw[length_cons];lia
   ·split at h
    ·rename_i q B e;rcases mem_cons.mp h with rfl | h
     ·have:=hJ (c:=c) (l:=l) (p:=q) (by rw[e];exact yby);simp only[length_cons];lia
     ·have:=hJ (c:=c) (l:=l) (p:=p) (by rw[e];exact ybx _ h);rw[length_cons];lia
    ·rw[mem_singleton.mp h];simp
theorem C8 (h:Cb l=some i):(frmT.map (·.1))[i]?=some l:=by
 unfold Cb at h;obtain⟨x,B,rfl⟩:=Option.map_eq_some_iff.mp h;have h1:=List.mem_of_find?_eq_some B;have h2:x.1.1=l:=of_decide_eq_true (List.find?_some (p:=λx:(List Nat×List Nat)×Nat=>decide (x.1.1=l)) B);rw[List.getElem?_map,List.mem_zipIdx_iff_getElem?.mp h1,←h2]
 rfl
theorem nD.get (h:nD nm l r) (L:cT (dP 32 l)=true):∃S ls js Y,dP 32 l=S::ls/\cT (S::ls)=true/\kA S=some js/\dF nm js ls Y/\(∀k,Y=.inl k->r=.inl k)/\(∀B,Y=.inr B->cm js B=false->r=.inl 4)/\(∀B,Y=.inr B->cm js B=true->∃i Z,Cb S=some i/\Dd i B Z/\(∀k,Z=.inl k->r=.inl k)/\(∀o,Z=.inr o->r=.inr (i,B,o))):=by
 cases h with
 | row h=>rw[h] at L;cases L
 | thgs e h f g=>exact⟨_,_,_,_,e,h,f,g,λk z=>by cases z;rfl,(λB z=>by cases z),λB z=>by cases z⟩
 | bas e h f g b=>exact⟨_,_,_,_,e,h,f,g,(λk z=>by cases z),(λB z _=>rfl),λB z y=>by cases z;rw[b] at y;cases y⟩
 | deed e h f g b w d=>exact⟨_,_,_,_,e,h,f,g,(λk z=>by cases z),(λB z y=>by cases z;rw[b] at y;cases y),λB z y=>by cases z;exact⟨_,_,w,d,(λk z=>by cases z;rfl),λo z=>by cases z⟩⟩
 | done e h f g b w d=>exact⟨_,_,_,_,e,h,f,g,(λk z=>by cases z),(λB z y=>by cases z;rw[b] at y;cases y),λB z y=>by cases z;exact⟨_,_,w,d,(λk z=>by cases z),λo z=>by cases z;rfl⟩⟩
theorem vZ (h:cT (B::ls)=true) (f:kA B=some js):ls.length=js.length:=by
 unfold cT at h;rw[show kA ((B::ls).headD [])=some js from f] at h;have:=of_decide_eq_true (Bool.and_eq_true_iff.mp h).2;rw[length_cons] at this;lia
theorem scSay:ay ["self","row","words","things","deed","answer"] ["self","row"] (ae (eV 124 1)):=by right
theorem JK {ad:Addr} {kd:List (Str×Addr)} {da:Nat->Addr} (hC:kn K C) (hN:NoAttr K C "kept") (F:bf K "say" "Desk.say" (eV 124 1) f fd) (R1:iC "words_of" ["row"] 1 (JC cs) []) (R2:iC "things_of" ["words","kept"] 93 (JE cs) []) (md:mg "DEEDS"=some (.ref ad)) (hk:mU P w K ad kd) (hD:JJ P w K mg base cs kd da):bL 94 f fd ["self","row"] (C7 C cs):=by
 have nd:=scSay.nd;have az:∀fl sp,M0 cs da fl sp->II 64 fl sp:=λfl sp z9=>by obtain⟨i,ts,x,h,e1,e2⟩:=z9;rw[e1,e2];exact hD.vf i ts x h
 refine bX (k:=93) F scSay (λws G q e h=>by obtain⟨_,_,_,_,_,rfl,_⟩:=h;rfl) (λcdv A outer s H E ws G q e hr bd hE=>?_);apply al
 ·refine' ac (cr 2 nd rfl (by first | exact Or.inl rfl | exact Or.inr rfl) (bb R1 (aH.mono hr (by lia)) hE rfl ?a1)) (ac (cr 3 nd rfl (by first | exact Or.inl rfl | exact Or.inr rfl) (bb R2 hr hE rfl ?a2)) (ac (cr 4 nd rfl (by first | exact Or.inl rfl | exact Or.inr rfl) (kL (oV hk) (dI rfl md) ?x3)) (ac (cr 5 nd rfl (by first | exact Or.inl rfl | exact Or.inr rfl) (oU 4 az (aH.mono hr (by lia)) hE rfl (by first | exact Or.inl rfl | exact Or.inr (Or.inl rfl) | exact Or.inr (Or.inr rfl)) ?a4)) (ac (a9 ?c5 (ak (tW ?v5 ?o5 ?i5)) aM) (ac (a9 ?c6 (ak (bI (BJ ?o6 ?k6))) aM) ?s7)))))
  case a1=>walk_at "Qa"
  case a2=>walk_at "Qa"
  case x3=>ac_nf
  case a4=>walk_at "Qa"
  case c5=>ac_rfl
  case v5=>ac_nf
  case o5=>ac_nf
  case i5=>ac_nf
  case c6=>ac_rfl
  case o6=>ac_nf
  case k6=>ac_nf
  case s7=>grind
 ·obtain⟨s1,d,x,kvs,nm,rfl,dk,hx⟩:=bd;nofun;refine⟨x,rfl,?_⟩;rcases hx with⟨hx,hb⟩ | ⟨l,r,rfl,hl,hS,hb,hg⟩
  ·exact .inl ⟨hx,hb⟩
  refine .inr ⟨l,rfl,hl,λB p G1 hp L g1=>?_,λB G1 L=>?_⟩;rotate_left
  ·cases hS with
   | row h=>exact hb 5 rfl G1 L
   | thgs e h _ _=>rw[e,h] at B;cases B
   | bas e h _ _ _=>rw[e,h] at B;cases B
   | deed e h _ _ _ _ _=>rw[e,h] at B;cases B
   | done e h _ _ _ _ _=>rw[e,h] at B;cases B
  cutsat;refine⟨s1,C,_,_,rfl,L _ _ dk.hs,⟨hC,hN⟩,rfl,?_⟩;obtain⟨p0,ls,js,xt,e1,a7,ab,hT,q1,q2,q3⟩:=hS.get B;rw[e1] at g1;have a6:∀G2,am G G2->C4 G2 d nm:=λG2 le=>⟨dk.ft,kvs,.inl (le _ _ dk.hd),dk.ok⟩;refine⟨p,d,p0,ls,js,nm,xt,rfl,g1,a6 G1 L,ab,vZ a7 ab,λy hy=>?_,hT,λts ht ai bi p2 G2 bj S g2=>?_,λts ht ai G2 S=>hb 4 (q2 ts ht ai) G2 (L.trans S),λk aj G2 S=>hb k (q1 k aj) G2 (L.trans S)⟩
  ·have:=hJ (c:=32) (l:=l) (p:=y) (by rw[e1];exact ybx _ hy);lia
  obtain⟨i,xd,hw,ar,q4,q5⟩:=q3 ts ht ai;have a5:=L.trans S;have a3:=S _ _ g1;cutsat;refine⟨_,_,a3,aA (j:=0) rfl,_,da i,rfl,rfl,hD.lk p0 i hw,?_⟩;subst hU;refine au λU hU=>?_;unfold mT;rfl';refine⟨da i,_,rfl,⟨i,ts,xd,ar,rfl,rfl⟩,p2,ts,xd,rfl,g2,bi,ar,λo ho G3 Y=>?_,λk aj G3 Y=>hb k (q4 k aj) G3 (a5.trans Y)⟩;have as:=a5.trans Y;have gp:=Y _ _ a3;have gt:=Y _ _ g2;have gd:=as _ _ dk.hd;have gs:=as _ _ dk.hs;have Z:=hg i ts o (q5 o ho) G3 as;have dp:p≠d:=λz=>by rw[z,gd] at gp;cases gp
  have bl:p2≠d:=λz=>by rw[z,gd] at gt;cases gt
  have ds:s1≠d:=λz=>by rw[z,gd] at gs;cases gs
  have af:=C8 hw;cutsat;refine⟨_,_,gp,aA (j:=0) rfl,?_⟩;rfl';refine⟨rfl,rfl,zero_le _,?_⟩;rw[show Str.ofString "let"=aF [108,101,116] from rfl,cA];subst ho;have last:∀(G4:Gp),G4 p=some (.lst (gZ (p0::ls)))->p0≠[100,114,111,112]->q (.str (aF o)) G4->U { nx:=λx G1=>∃G0,am G0 G1/\q W.non G0,rt:=λw G1=>∃G0,am G0 G1/\q w G0 } [some (.ref s1),some (.str (aF l)),some (.ref p),some (.ref p2),some (.ref (da i)),some (.str (aF o))] G4:=λG4 be hn hq=>by
   cutsat;refine⟨_,_,be,aA (j:=0) rfl,?_⟩;rfl';refine⟨rfl,rfl,zero_le _,?_⟩;rw[show Str.ofString "drop"=aF [100,114,111,112] from rfl,cA,ycw (λz=>hn (of_decide_eq_true z))];subst hU;rfl';exact am.done hq
  cases ar with
  | @lett a r h1 h2=>
    obtain rfl:[108,101,116]=p0:=Option.some.inj af;rw[ycv (by decide)];refine⟨_,_,gt,aA (j:=1) rfl,s1,C,_,_,rfl,gs,⟨hC,hN⟩,rfl,_,_,gt,aA (j:=0) rfl,d,_,kvs,rfl,rfl,gd,by have:=dk.len;lia,last _ (by rw[ao dp];exact gp) (by decide) Z⟩
  | @tell r h1 h2=>
    obtain rfl:[116,101,108,108]=p0:=Option.some.inj af;rw[ycw (by decide)];exact last G3 gp (by decide) (by rw[show C6 kvs 1 [.num r]=kvs from rfl,ji gd] at Z;exact Z)
  | @drop a=>
    obtain rfl:[100,114,111,112]=p0:=Option.some.inj af;rw[ycw (by decide)];subst hU;refine au λU hU=>?_;unfold C0;rfl';refine⟨_,_,gp,aA (j:=0) rfl,?_⟩;rfl';refine⟨rfl,rfl,zero_le _,?_⟩;rw[show Str.ofString "drop"=aF [100,114,111,112] from rfl,cA,ycv (by decide)];have hv:∃b,nm a=some b:=by
     subst ht;have hj:[1]=js:=by have:=ab;exact Option.some.inj this
     subst hj;cases hT with
     | ok h g=>cases h with
       | kept hb=>exact⟨_,hb⟩
    obtain⟨b,hv⟩:=hv;have a0:=dk.ok a;rw[hv] at a0;refine⟨s1,C,_,_,rfl,gs,⟨hC,hN⟩,rfl,⟨kvs,gd⟩,_,_,gt,aA (j:=0) rfl,_,kvs,_,rfl,gd,a0,?_⟩;subst hU;rfl';exact am.done Z
def JL (C:Addr):aX:=λws G q _=>∃s:Addr,ws=[.ref s]/\G s=some (.ins C [])/\∀(d:Addr) (G':Gp),G d=none->s≠d->(∀x g,x≠s->G x=some g->G' x=some g)->G' s=some (.ins C [("kept",.ref d)])->G' d=some (.dic [])->q .non G'
theorem M4 (hC:kn K C) (Z:NoAttr K C "kept") (F:bf K "__init__" "Desk.__init__" (eV 124 0) f fd):bo 1 f fd ["self"] (JL C):=by
 refine dR F (N:=["self"]) λ_ _ _ _ _ _ nd hr=>?_;apply al
 ·grind
 ·rintro ws G q e ⟨Y,rfl,B,hq⟩;rfl';intro d L;have S:Y≠d:=λz=>by rw[z,L] at B;cases B
  refine⟨Y,C,[],rfl,by rw[ao S];exact B,⟨hC,Z⟩,by simp,am.done (hq d _ L S (λx g hx hg=>?_) aa (by rw[ao (Ne.symm S)];exact aa))⟩;rw[ao hx];exact ah hg L
theorem Cc {R:Gp->Prop} (S:L p=none) (h:∀B,am L B->B p=some (.lst ys)->R B):R (av L p (.lst ys)):=h _ (am.new S) aa
theorem pF {Z p2:Addr} {R:Addr->Gp->Prop} (g1:B Z=some (.lst L)) (S:B p2=none) (hl:L.length+ys.length<=100000) (h:∀p Y,B p=none->am B Y->Y p=some (.lst (L++ys))->R p Y):∃xs zs,av B p2 (.lst ys) Z=some (.lst xs)/\av B p2 (.lst ys) p2=some (.lst zs)/\xs.length+zs.length<=100000/\∀p,av B p2 (.lst ys) p=none->R p (av (av B p2 (.lst ys)) p (.lst (xs++zs))):=
 ⟨L,ys,ah g1 S,aa,hl,λp hp=>h p _ (fo (am.new S) hp) ((am.new S).trans (am.new hp)) aa⟩
def ER (G0:Gp) (t:WE) (τ:bV) (v:W):Prop:=∀{G:Gp} {q:WK},am G0 G->q v G->t τ G q
def RR (G0:Gp) (t:WA) (τ:bV) (ys:List W):Prop:=∀{G:Gp} {q:List W->Gp->Prop},am G0 G->q ys G->t τ G q
theorem RR.ni:RR G0 jx τ []:=λ_ g=>g
theorem RR.el (x:ER G0 te τ v) (r:RR G0 t τ ys):RR G0 (dW te t) τ (v::ys):=λ{G q} le g=>x le (r (G:=G) (q:=λxs B=>q (v::xs) B) le g)
theorem ER.is {b D:Addr} {r:Bool} (h:τ[j]?=some (some (.ref b))) (g:G0 b=some (.exc C)) (m:mroIn K C (.ref D)=some r):ER G0 (e9 K j D) τ (.bl r):=λle q=>⟨b,C,r,h,le _ _ g,m,q⟩
theorem ER.iv {b:Addr} (h:τ[j]?=some (some (.ref b))) (g:G0 b=some (.exc C)):ER G0 (EB j) τ (.bl true):=λle q=>⟨b,C,h,le _ _ g,q⟩
theorem ER.nt (x:ER G0 te τ (.bl r)):ER G0 (wX te) τ (.bl (!r)):=λle q=>x le q
theorem M5 {d:cj} (lt:am G0 G) (R:RR G0 t τ ys) (S:Nat.ble ys.length 100000=true) (h:∀p B,am G0 B->B p=some (.lst ys)->v d (τ.set j (some (.ref p))) B):jy (im (wY t) (bJ j)) v d τ G:=
 R lt ⟨le_of_ble_eq_true S,λp L=>h p _ (lt.trans (am.new L)) aa⟩
theorem Ga {d:cj} (lt:am G0 G) (g:G Y=some (.lst L)) (R:RR G0 t τ ys) (z:τ[j]?=some (some (.ref Y))) (S:Nat.ble (L.length+ys.length) 100000=true) (h:∀p B,am G0 B->B p=some (.lst (L++ys))->v d (τ.set j (some (.ref p))) B):jy (im (sM fS (dE j) (wY t)) (bJ j)) v d τ G:=by
 unfold jy im sM dE;rw[z];exact R lt ⟨ycy (Nat.le_add_left _ _) (le_of_ble_eq_true S),λp Z=>pF g Z (le_of_ble_eq_true S) λp2 B _ le r=>h p2 B (lt.trans le) r⟩
theorem M6 {d:cj} (lt:am G0 G) (g:G Y=some (.lst L)) (R:RR G0 t τ ys) (z:τ[j]?=some (some (.ref Y))) (S:Nat.ble (L.length+ys.length) 100000=true) (h:∀p B,G0 p=none->am G0 B->B p=some (.lst (L++ys))->d.rt (.ref p) B):w6 (sM fS (dE j) (wY t)) d τ G:=by
 unfold w6 sM dE;rw[z];exact R lt ⟨ycy (Nat.le_add_left _ _) (le_of_ble_eq_true S),λp Z=>pF (R:=λp G=>d.rt (.ref p) G) g Z (le_of_ble_eq_true S) λp2 B n le r=>h p2 B (fo lt n) (lt.trans le) r⟩
noncomputable def Gb (k:Nat):List W:=(List.range 15).map λj=>W.bl (decide (j=k))
noncomputable abbrev Kr:List Str:=["HydraError","NoFit","NoHead","NoLimit","NoName","NoNumber","NoRow","NoText","Nought","TooGreat","TooHigh","NoStep","NoFall","NoChore"]
def JM (cs:List Addr):aX:=λws G q _=>∃(a:Addr) (k:Nat),ws=[.ref a]/\k<=9/\G a=some (.exc (cl cs k))/\∀p G',G p=none->am G G'->G' p=some (.lst (Gb k))->q (.ref p) G'
theorem scMk:ay ["_law_e","_law_some"] ["_law_e"] (ae (aG 133)):=by right
theorem jg.at (X:jg K mg Kr cs) (h:i<14):∃c,cs[i]?=some c/\XO K c:=by
 have B:i<cs.length:=by rw[X.len];exact h
 exact⟨_,ycz B,X.xo i _ (ycz B)⟩
theorem OI:∀k,k<10->(((List.range 13).map λj=>decide (k+1=j+1∨j+1=0))++[!true,!decide (k+1=0∨0=0)])=(List.range 15).map λj=>decide (j=k):=by decide+kernel
local macro_rules | `(tactic| walk_at "rm") => `(tactic| repeat' first | exact RR.ni | refine' RR.el ?_ ?_ | exact ER.iv rfl (by assumption) | exact ER.is rfl (by assumption) (by assumption) | refine' ER.nt ?_)
theorem M7 (X:jg K mg Kr cs) (F:bf K "_law_marks" "_law_marks" (aG 133) f fd) (B:mg "isinstance"=none) (mv:mg "ValueError"=none):bo 1 f fd ["_law_e"] (JM cs):=by
 have nd:=scMk.nd;obtain⟨c0,h0,o0⟩:=jg.at X (i:=0) (by decide);obtain⟨c1,h1,o1⟩:=jg.at X (i:=1) (by decide);obtain⟨c2,h2,o2⟩:=jg.at X (i:=2) (by decide);obtain⟨c3,h3,o3⟩:=jg.at X (i:=3) (by decide);obtain⟨c4,h4,o4⟩:=jg.at X (i:=4) (by decide);obtain⟨c5,Z,o5⟩:=jg.at X (i:=5) (by decide);obtain⟨c6,h6,o6⟩:=jg.at X (i:=6) (by decide);obtain⟨c7,Y,o7⟩:=jg.at X (i:=7) (by decide);obtain⟨c8,h8,o8⟩:=jg.at X (i:=8) (by decide);obtain⟨c9,h9,o9⟩:=jg.at X (i:=9) (by decide);obtain⟨ca,ha,oa⟩:=jg.at X (i:=10) (by decide);obtain⟨cb,hb,ob⟩:=jg.at X (i:=11) (by decide);obtain⟨cc,S,oc⟩:=jg.at X (i:=12) (by decide);obtain⟨cd,hd,od⟩:=jg.at X (i:=13) (by decide);refine Eb F scMk (λws G q e h=>by obtain⟨_,_,rfl,_⟩:=h;rfl) (λcdv A outer s H E hr=>?_);apply al
 ·refine' ac (cr 1 nd rfl (Or.inl rfl) (il (aS ?i1 (aS ?i2 (aS ?i3 (aS ?i4 ce)))))) (ac (cr 1 nd rfl (Or.inl rfl) (eS iA ?v5 (il (aS ?i5 (aS ?i6 (aS ?i7 (aS ?i8 ce))))))) (ac (cr 1 nd rfl (Or.inl rfl) (eS iA ?v9 (il (aS ?i9 (aS ?ia ce))))) (ac (cr 1 nd rfl (Or.inl rfl) (eS iA ?vb (il (aS ?ib (aS ?ic (aS ?id ce)))))) (ak (bW (eS iA ?v0 (il (aS (p8 ?iv) (aS (p8 ?i0) ce)))))))))
  case i1=>exact(show QE _ _ (e9 K 0 c1) from cu rfl (Or.inl rfl) (X.mgs 1 _ _ rfl h1) o1.d rfl B rfl)
  case i2=>exact(show QE _ _ (e9 K 0 c2) from cu rfl (Or.inl rfl) (X.mgs 2 _ _ rfl h2) o2.d rfl B rfl)
  case i3=>exact(show QE _ _ (e9 K 0 c3) from cu rfl (Or.inl rfl) (X.mgs 3 _ _ rfl h3) o3.d rfl B rfl)
  case i4=>exact(show QE _ _ (e9 K 0 c4) from cu rfl (Or.inl rfl) (X.mgs 4 _ _ rfl h4) o4.d rfl B rfl)
  case i5=>exact(show QE _ _ (e9 K 0 c5) from cu rfl (Or.inl rfl) (X.mgs 5 _ _ rfl Z) o5.d rfl B rfl)
  case i6=>exact(show QE _ _ (e9 K 0 c6) from cu rfl (Or.inl rfl) (X.mgs 6 _ _ rfl h6) o6.d rfl B rfl)
  case i7=>exact(show QE _ _ (e9 K 0 c7) from cu rfl (Or.inl rfl) (X.mgs 7 _ _ rfl Y) o7.d rfl B rfl)
  case i8=>exact(show QE _ _ (e9 K 0 c8) from cu rfl (Or.inl rfl) (X.mgs 8 _ _ rfl h8) o8.d rfl B rfl)
  case i9=>exact(show QE _ _ (e9 K 0 c9) from cu rfl (Or.inl rfl) (X.mgs 9 _ _ rfl h9) o9.d rfl B rfl)
  case ia=>exact(show QE _ _ (e9 K 0 ca) from cu rfl (Or.inl rfl) (X.mgs 10 _ _ rfl ha) oa.d rfl B rfl)
  case ib=>exact(show QE _ _ (e9 K 0 cb) from cu rfl (Or.inl rfl) (X.mgs 11 _ _ rfl hb) ob.d rfl B rfl)
  case ic=>exact(show QE _ _ (e9 K 0 cc) from cu rfl (Or.inl rfl) (X.mgs 12 _ _ rfl S) oc.d rfl B rfl)
  case id=>exact(show QE _ _ (e9 K 0 cd) from cu rfl (Or.inl rfl) (X.mgs 13 _ _ rfl hd) od.d rfl B rfl)
  case v5=>ac_nf
  case v9=>ac_nf
  case vb=>ac_nf
  case v0=>ac_nf
  case i0=>exact(show QE _ _ (e9 K 0 c0) from cu rfl (Or.inl rfl) (X.mgs 0 _ _ rfl h0) o0.d rfl B rfl)
  case iv=>exact xM (T:="ValueError") (i:=0) rfl (Or.inl rfl) (by decide+kernel) (by decide+kernel) (by decide+kernel) mv rfl B rfl
 ·rintro ws G q e ⟨a,k,rfl,hk,ga,hq⟩;have hc:cs[k+1]?=some (cl cs k):=by
   have hl:k+1<cs.length:=by rw[X.len];show k+1<14;lia
   unfold cl;rw[List.getD_eq_getElem?_getD,ycz hl]
   rfl
  have L:∀(j:Nat) (c:Addr),cs[j]?=some c->mroIn K (cl cs k) (.ref c)=some (decide (k+1=j∨j=0)):=λj c h=>X.mro (k+1) j _ c hc h;have m0:=L 0 _ h0;have m1:=L 1 _ h1;have m2:=L 2 _ h2;have m3:=L 3 _ h3;have m4:=L 4 _ h4;have m5:=L 5 _ Z;have m6:=L 6 _ h6;have m7:=L 7 _ Y;have m8:=L 8 _ h8;have m9:=L 9 _ h9;have ma:=L 10 _ ha;have mb:=L 11 _ hb;have mc:=L 12 _ S;have md:=L 13 _ hd;refine M5 (am.refl _) (by walk_at "rm") rfl λp1 G1 l1 g1=>?_
  iterate 3 refine Ga (by assumption) (by assumption) (by walk_at "rm") rfl rfl λ_ _ _ _=>?_
  refine M6 (by assumption) (by assumption) (by walk_at "rm") rfl rfl λp G' n l g=>⟨_,am.refl _,hq p G' n l (g.trans (congrArg (λx:List Bool=>some (GO.lst (x.map W.bl))) (OI k (Nat.lt_succ_of_le hk))))⟩
def Rf (k:Nat) (G:Gp) (q:WK):Prop:=∀p G',am G G'->G p=none->G' p=some (.lst (Gb k))->q (.tup [.str "",.ref p]) G'
def zz (C:Addr):aX:=λws G q _=>∃(s d:Addr) (x:W) (kvs:List (aW×W)) (nm:List Nat->Option O),ws=[.ref s,x]/\kB C G s d kvs nm/\((F9 G x/\Rf 5 G q)∨∃(l:List Nat) (r:Nat ⊕ (Nat×List gF×List Nat)),x=.str (aF l)/\l.length<=5000/\nD nm l r/\(∀k,r=.inl k->k<=9/\Rf k G q)/\(∀i ts o,r=.inr (i,ts,o)->∀G' p,am G G'->G' p=none->d≠p->q (.tup [.str (aF o),.ref p]) (av (av G' d (.dic (C6 kvs i ts))) p (.lst []))))
theorem scSd:ay ["_law_desk","_law_line","_law_caught","_law_found","_law_e"] ["_law_desk","_law_line"] (ae (aG 134)):=by right
theorem M8 (X:jg K mg Kr cs) (F:bf K "_law_said" "_law_said" (aG 134) f fd) (M:gS C "say" ["self","row"] 94 (C7 C cs) []) (F2:bu "_law_marks" ["_law_e"] 1 (JM cs)):bo 95 f fd ["_law_desk","_law_line"] (zz C):=by
 have nd:=scSd.nd;obtain⟨c0,h0,o0⟩:=jg.at X (i:=0) (by decide);obtain⟨b0,x0⟩:=o0.c;refine Eb F scSd (λws G q e h=>by obtain⟨_,_,_,_,_,rfl,_⟩:=h;rfl) (λcdv A outer s H E hr=>?_);apply al
 ·refine' ac ?s1 (ac ?s2 (ac ?s3 ?s4))
  case s1=>eq_refl
  case s2=>eq_refl
  case s3=>
   refine' AM (cs:=(List.range 10).map λk=>(cl cs k,vt 4 (cl cs k) (jy (im (dE 4) (bJ 2)) kM))) rfl rfl (AL (BM 3 (λ_ _ z=>z) nd rfl (Or.inl rfl) ?o M (aH.mono hr (by lia)) ?a)) λc hc=>?hz
   case o=>ac_nf
   case a=>walk_at "Qa"
   case hz=>
    obtain⟨k,B,rfl⟩:=mem_map.mp hc;have hl:k+1<cs.length:=by
     rw[X.len];show k+1<14;have:=mem_range.mp B;lia
    have hc:cs[k+1]?=some (cl cs k):=by
     unfold cl;rw[List.getD_eq_getElem?_getD,ycz hl]
     rfl
    refine EA 4 (X.mgs 0 _ _ rfl h0) rfl (X.xo _ _ hc) x0 ((X.mro (k+1) 0 _ _ hc h0).trans (by simp)) nd rfl rfl λa=>?b
    case b=>grind
  case s4=>grind
 ·rintro ws G q e ⟨s1,d1,x,kvs,nm,rfl,hD,hx⟩;nofun;cutsat;subst hU;refine au λU hU=>?_;have S:∀(k:Nat) (a:Addr) (G':Gp) (t3:Option W),k<=9->am G G'->G' a=some (.exc (cl cs k))->Rf k G q->U { nx:=λx L=>∃G0,am G0 L/\q W.non G0,rt:=λw L=>∃G0,am G0 L/\q w G0 } [some (.ref s1),some x,some (.ref a),t3,none] G':=λk a G' t3 B le ha ho=>by
   cutsat;rw[ycw (show ¬(false ^^ nV (W.ref a))=true from ydx)];subst hU;rfl';exact⟨a,k,rfl,B,ha,λp G2 Z Y g2=>am.done (ho p G2 (le.trans Y) (fo le Z) g2)⟩
  have ex:∀k:Nat,k<=9->Rf k G q->∀G2,am G G2->vt 4 (cl cs k) (jy (im (dE 4) (bJ 2)) kM) { nx:=U { nx:=λx L=>∃G0,am G0 L/\q W.non G0,rt:=λw L=>∃G0,am G0 L/\q w G0 },rt:=λw L=>∃G0,am G0 L/\q w G0 } [some (.ref s1),some x,some W.non,some (W.str ""),none] G2:=λk B ho G2 Y=>by
   rfl';intro a ha;exact S k a _ _ B (Y.trans (am.new ha)) aa ho
  have ab:∀k:Nat,k<=9->(cl cs k,vt 4 (cl cs k) (jy (im (dE 4) (bJ 2)) kM))∈(List.range 10).map λk=>(cl cs k,vt 4 (cl cs k) (jy (im (dE 4) (bJ 2)) kM)):=λk B=>mem_map.mpr ⟨k,mem_range.mpr (by lia),rfl⟩;unfold xL uk;rfl';refine⟨s1,_,rfl,hD.hs,rfl,s1,d1,x,kvs,nm,rfl,hD,?_⟩;rcases hx with⟨hx,ho⟩ | ⟨l,r,rfl,hl,hS,h1,h2⟩
  ·refine .inl ⟨hx,λG' le C hC=>?_⟩;cases hC;exact⟨_,ab 5 (by decide),ex 5 (by decide) ho G' le⟩
  ·refine .inr ⟨l,r,rfl,hl,hS,λk B G' le C hC=>?_,λi ts o hr G' le=>?_⟩
   ·cases hC;exact⟨_,ab k (h1 k B).1,ex k (h1 k B).1 (h1 k B).2 G' le⟩
   ·cutsat;rw[ycv (by rfl)];intro p Z;have ad:d1≠p:=λz=>by rw[z,aa] at Z;cases Z
    rw[ao (Ne.symm ad)] at Z;exact am.done (h2 i ts o hr G' p le Z ad)
theorem JN {cs:List Addr} {d p:Addr} {L:List W} {nm:List Nat->Option O} {e:WX} {G:Gp} {qq:List W->Gp->Prop} (hn:C4 G d nm) (gp:G p=some (.lst L)):∀(ls:List (List Nat)) (acc:List W) (t1:Option W) (Z:Gp),(∀l,l∈ls->l.length<=5000)->acc.length+ls.length<=100000->am G Z->(ls.all aR=true->∀B,am G B->qq (acc++ls.map λl=> .int ((fh l:Nat):Int)) B)->(ls.all aR=false->∀B,am G B->e (.ref (cl cs 6)) B)->bw (λG=>G p=some (.lst L)) (bJ 1) kQ (lW (fT cs 3) [] (dW (dE 1) (dW (dE 3) jx)) e) (gZ ls) [none,t1,none,some (.ref d)] Z acc qq
 | [],acc,t1,Z,_,_,le,h1,_=>⟨le _ _ gp,by have:=h1 rfl Z le;rwa [map_nil,append_nil] at this⟩
 | l::ls,acc,t1,Z,hl,hb,le,h1,h2=>by
   refine⟨le _ _ gp,?_⟩;show ∃(l':List Nat) (d':Addr) (ad:List Nat->Option O) (x:Nat ⊕ gF),_;have ab:C4 Z d nm:=let ⟨a,kvs,b,c⟩:=hn;⟨a,kvs,GD.le b le,c⟩;simp only[length_cons] at hb;cases hf:aR l with
   | true=>
     refine⟨l,d,nm,_,rfl,ab,hl l (.head _),.fig hf,λt ht _ G' Y=>?_,λk hk=>by cases hk⟩;cases ht;refine⟨by lia,JN hn gp ls _ _ G' (λy hy=>hl y (.tail _ hy)) (by simp only[length_append,length_cons,length_nil];lia) (le.trans Y) (λha B S=>?_) λha B S=>h2 (by rw[all_cons,hf,ha];rfl) B S⟩;have:=h1 (by rw[all_cons,hf,ha];rfl) B S
     rwa [map_cons,←List.singleton_append,←append_assoc] at this
   | false=>
     refine⟨l,d,nm,_,rfl,ab,hl l (.head _),.nofig hf,(λt ht=>by cases ht),λk hk G' Y=>?_⟩;cases hk;exact h2 (by rw[all_cons,hf];rfl) G' (le.trans Y)
theorem scWy:ay ["word","kept"] ["word","kept"] (ae (aG 105)):=by right
theorem M9 (F:bf K "way_told" "way_told" (aG 105) f fd) (R1:iC "whole_number" ["word","kept"] 3 (fT cs 3) []) (mt:mg "tuple"=none):bL 4 f fd ["word","kept"] (fT cs 5):=by
 have nd:=scWy.nd;refine bX F scWy (λws G q e h=>by obtain⟨_,_,_,_,rfl,_⟩:=h;rfl) (λcdv A outer s H E ws G q e hr ab hE=>?_);apply al
 ·refine' ak (bW (cI sP rfl mt lR (aS (yW hE (lQ (by first | rfl | decide+kernel)) (mG (oW ?o ?sp)) (λ_ _ _ _=>?gz) (λ_ _ _ _=>sT) (λ_ _ _ _=>yX R1 (aH.mono hr (by lia)) rfl ?a)) ce)))
  case o=>ac_nf
  case sp=>ac_nf
  case gz=>walk_at "Qg"
  case a=>walk_at "Qa"
 ·obtain⟨l,d,nm,x,rfl,hn,hl,hx,hg,hb⟩:=ab;unfold nY rY;rfl';refine⟨⟨_,rfl⟩,_,46,rfl,rfl,by rw[aC];lia,λp hp=>?_⟩;rw[lw,map_map,show List.map (W.str ∘ λp=>(⟨p.toArray⟩:Str)) (dP 46 l)=gZ (dP 46 l) from rfl];have B:=am.new (g:=GO.lst (gZ (dP 46 l))) hp;refine⟨_,aa,?_⟩;have Z:C4 (av G p (GO.lst (gZ (dP 46 l)))) d nm:=let ⟨a,kvs,b,c⟩:=hn;⟨a,kvs,GD.le b B,c⟩;have ad:=nj 46 l;refine JN (cs:=cs) Z aa (dP 46 l) [] none _ (λy Y=>ycy (hJ Y) hl) (by simp only[length_nil];lia) (am.refl _) (λha G3 L p1 S=>?_) λha G3 L=>?_
  ·refine⟨_,aa,?_⟩;cases hx with
   | way h=>
     refine⟨_,am.refl _,?_⟩;rw[nil_append,show(λl=>W.int ((fh l:Nat):Int))=(λi=>W.int ((i:Nat):Int)) ∘ fh from rfl,←map_map];refine hg _ rfl trivial _ λy g Y=>?_;have y1:y≠p1:=λz=>by rw[←z,B _ _ Y] at S;cases S
     rw[ao y1];exact L _ _ (B _ _ Y)
   | noway h=>rw[ha] at h;cases h
  ·cases hx with
   | way h=>rw[ha] at h;cases h
   | noway h=>exact hb 6 rfl G3 (B.trans L)
noncomputable def Fv (m:List Nat):List (List Nat):=[[],[32],[116,101,108,108],[116,101,108,108,32,119,32,119],[116,101,108,108,32]++m++[32]++m,[100,114,111,112],[108,101,116,32,97],[108,101,116,32,97,32,49,32,49],[104,111,108,100,32,119],[32,116,101,108,108,32,119],[116,101,108,108,32,119,32],[116,101,108,108,32,32,119],[84,101,108,108,32,119],[116,101,108,32,119],[116,101,108,108,115,32]++m,[116,101,108,108,9,119],[119],[104,111,108,100,32,119,94,32,50,94,50,53,32]++m,[115,116,101,112,32,119],[115,116,101,112,32,119,32,49,32],[116,114,101,101],[99,117,116,32,40,41,32,48],[119,114,105,116,101,32]++m,[100,111,119,110,32,119],[119,111,114,116,104,32,119,94,32,48,32,49],[109,105,110,117,115,32,119],[115,104,97,114,101,32]++m,[99,111,109,109,111,110,32,119],[114,117,110,103,32,119,32,49,32,49]]
theorem kf {ps:List (List Nat)} (h0:ps≠[]) (h:∀p,p∈ps->32∉p) (hb:(match kA (ps.headD []) with | some js=>decide (ps.length=js.length+1) | none=>false)=false):cT (dP 32 (ie 32 ps))=false:=by
 rw[mV h0 h];unfold cT;exact Bool.and_eq_false_iff.mpr (.inr hb)
theorem Fw (B:32∉m):∀l,l∈Fv m->cT (dP 32 l)=false:=by
 intro l L;simp only[Fv,mem_cons,not_mem_nil,or_false] at L;rcases L with rfl | rfl | rfl | rfl | rfl | rfl | rfl | rfl | rfl | rfl | rfl | rfl | rfl | rfl | rfl | rfl | rfl | rfl | rfl | rfl | rfl | rfl | rfl | rfl | rfl | rfl | rfl | rfl | rfl
 ·decide+kernel
 ·decide+kernel
 ·decide+kernel
 ·decide+kernel
 ·have e:[116,101,108,108,32]++m++[32]++m=ie 32 [[116,101,108,108],m,m]:=by simp[ie]
  rw[e];exact kf (by simp) (by simp[B]) (by rfl)
 ·decide+kernel
 ·decide+kernel
 ·decide+kernel
 ·decide+kernel
 ·decide+kernel
 ·decide+kernel
 ·decide+kernel
 ·decide+kernel
 ·decide+kernel
 ·have e:[116,101,108,108,115,32]++m=ie 32 [[116,101,108,108,115],m]:=by simp[ie]
  rw[e];exact kf (by simp) (by simp[B]) (by rfl)
 ·decide+kernel
 ·decide+kernel
 ·have e:[104,111,108,100,32,119,94,32,50,94,50,53,32]++m=ie 32 [[104,111,108,100],[119,94],[50,94,50,53],m]:=by simp[ie]
  rw[e];exact kf (by simp) (by simp[B]) (by rfl)
 ·decide+kernel
 ·decide+kernel
 ·decide+kernel
 ·decide+kernel
 ·have e:[119,114,105,116,101,32]++m=ie 32 [[119,114,105,116,101],m]:=by simp[ie]
  rw[e];exact kf (by simp) (by simp[B]) (by rfl)
 ·decide+kernel
 ·decide+kernel
 ·decide+kernel
 ·have e:[115,104,97,114,101,32]++m=ie 32 [[115,104,97,114,101],m]:=by simp[ie]
  rw[e];exact kf (by simp) (by simp[B]) (by rfl)
 ·decide+kernel
 ·decide+kernel
def Ce (d:Nat):aX:=λws G q _=>∃a b:O,ws=[.tup (ag a),.tup (ag b)]/\a.dp<d/\q (.int (O.cmp a b)) G
def JO:aX:=λws G q _=>∃(a x:O) (n:Int),ws=[.tup (ag a),.tup (ag x),.int n]/\a.dp<=60/\a.size<=1000/\q (.tup (ag (O.withO a x n))) G
def Cf (d:Nat):aX:=λws G q _=>∃a:O,ws=[.tup (ag a)]/\a.dp<d/\a.size<=1000/\q (.int a.size) G
noncomputable def cF:List O:=[.z,.c .z 1 .z,.c (.c .z 1 .z) 1 .z]
def kC (B:Int) (o:O):Prop:=O.Good B o/\o.size<=12
theorem kC.mono (h:kC B o) (k:B<=L):kC L o:=⟨h.1.mono k,h.2⟩
def JP:aX:=λws G q _=>∃(p:Addr) (pool:List O) (cell B:Int),ws=[.ref p,.int cell]/\G p=some (.lst (cf pool))/\0<pool.length/\pool.length<=100/\1<=B/\(∀o,o∈pool->kC B o)/\∀o,kC (B+10^50) o->q (.tup (ag o)) G
def JQ:aX:=λws G q _=>∃ns:List Int,ws=[.scr ns]/\ns.length<=63/\∀(p:Addr) (more:List O),G p=none->more.length<=24->(∀o,o∈cF++more->kC (10^52) o)->q (.ref p) (av G p (.lst (cf (cF++more))))
theorem Nb (hd:d<=60) (F:bf K "_law_compare" "_law_compare" (aG 126) f fd) (F1:bu "_law_compare" ["_law_a","_law_b"] k (Ce d)) (ml:mg "len"=none) (mz:mg "zip"=none):bo (k+1) f fd ["_law_a","_law_b"] (Ce (d+1)):=by
 refine dR F (N:=["_law_a","_law_b","_law_one","_law_other","_law_side"]) λ_ _ _ _ _ _ nd hr=>?_;apply al
 ·refine' ac (cK PassesOwn.never rfl (mW rfl mz ?za) ?tg ?bd) ?rs
  case za=>walk_at "Qa"
  case tg=>walk_at "Qg"
  case bd=>grind
  case rs=>grind
 ·rintro ws G q e ⟨a,b,rfl,hx,hq⟩;unfold ui;rfl';refine⟨_,_,_,_,_,_,rfl,.tt _ _,?_⟩;refine a8 (λws τ G'=>G'=G/\∃x y Z t3 Y,ws=du (ag x) (ag y)/\τ=[some (.tup (ag a)),some (.tup (ag b)),Z,t3,Y]/\O.cmp a b=O.cmp x y/\a.len+y.len=b.len+x.len/\x.dp<d+1) ?_ ?_ _ _ _ ⟨rfl,a,b,none,none,none,rfl,rfl,rfl,by lia,hx⟩
  ·rintro τ G' ⟨rfl,x,y,Z,t3,Y,hz,rfl,hc,hl,S⟩;refine⟨trivial,?_⟩;rfl';refine am.done ?_;rw[aL,aL,tR,rQ hl,←oG (A7 hz.symm),←hc];exact hq
  ·rintro w1 ws τ G' k1 ⟨rfl,x,y,Z,t3,Y,hz,rfl,hc,hl,S⟩ hk;obtain⟨x1,n,r,L,n',r',rfl,rfl,rfl,rfl⟩:=yf hz.symm;refine⟨trivial,?_⟩;unfold dD fK;rfl';have ab:x1.dp<d:=by simp only[O.dp] at S;lia
   refine⟨x1,L,rfl,ab,?_⟩;rfl';have again:rO x1 n L n'=0->∀Z t3 Y,k1 [some (.tup (ag a)),some (.tup (ag b)),Z,t3,Y] G':=λz Z t3 Y=>by
    rw[CM,ycw (by simpa using z)] at hc;refine hk _ _ ⟨rfl,r,r',_,_,_,rfl,rfl,hc,?_,?_⟩
    ·simp only[O.len] at hl;lia
    ·simp only[O.dp] at S;lia
   have B:rO x1 n L n'≠0->q (.int (rO x1 n L n')) G':=λz=>by
    rw[hc,CM,ycv z] at hq;exact hq
   unfold rO at again B;rw[tR];split
   ·rename_i h;rw[ycw (by simpa using h)] at again B;split
    ·rename_i h2;exact am.done (B h2)
    ·rename_i h2;exact again (by simpa using h2) _ _ _
   ·rename_i h;rw[ycv h] at B;exact am.done (B h)
theorem JR (T:Tx):∀d:Nat,d<=60->bu "_law_compare" ["_law_a","_law_b"] d (Ce d)
 | 0,_=>T.qlx.fx λf fd F=>io.none λws G q e z9=>by obtain⟨a,b,_,h,_⟩:=z9;lia
 | d+1,h=>T.qlx.fx λf fd F=>Nb (by lia) F (JR T d (by lia)) T.qRx T.qZx
theorem Nc (F:bf K "_law_with" "_law_with" (aG 127) f fd) (F1:bu "_law_compare" ["_law_a","_law_b"] 60 (Ce 60)) (ms:mg "sum"=none) (mt:mg "tuple"=none):bo 61 f fd ["_law_number","_law_exponent","_law_many"] JO:=by
 refine dR F (N:=["_law_number","_law_exponent","_law_many","_law_above","_law_below","_law_same"]) λ_ _ _ _ _ _ nd hr=>?_;apply al
 ·grind
 ·rintro ws G q e ⟨a,x,n,rfl,hx,hsz,hq⟩;have hl:a.len<=1000:=ycy (O.len_le_size a) hsz;nofun;show bw _ _ _ _ _ [none,none,none,some (W.tup (ag x))] G [] _;refine cR (λe _=>decide (0<O.cmp e x)) dD trivial (fG a) (λy m hy k B=>?_) (λy m _ _ k B=>?_) (by simp;lia) (λ_=>rfl) λY Z=>?_
  ·unfold dD fK;rfl';exact⟨y,x,rfl,by lia,B⟩
  ·rfl';exact B
  subst hU;rw[nil_append,jP];nofun;show bw _ _ _ _ _ [none,none,none,some (W.tup (ag x))] _ [] _;refine cR (λe _=>decide (O.cmp e x<0)) dD trivial (fG a) (λy m hy k B=>?_) (λy m _ _ k B=>?_) (by simp;lia) (λ_=>rfl) λp2 S=>?_
  ·unfold dD fK;rfl';exact⟨y,x,rfl,by lia,B⟩
  ·rfl';exact B
  subst hU;rw[nil_append,jP];nofun;show bw _ _ _ _ _ [none,none,some (W.tup (ag x))] _ [] _;refine cR (λe _=>decide (e=x)) (λ_ n=> .int n) trivial (fG a) (λy m hy k B=>?_) (λy m _ _ k B=>?_) (by simp;lia) (λ_=>rfl) λp3 L=>?_
  ·unfold dD fK;rfl';have:=bh y;refine⟨aI y,aI x,by lia,?_⟩;rw[eJ];exact B
  ·unfold dD fK;rfl';exact B
  obtain⟨ns,h1,h2⟩:=lg x a;rw[nil_append,h1];refine⟨ns,aa,?_⟩;subst hU;rw[h2];have c1:G Y=none:=Z;have g1:=aa (G:=G) (a:=Y) (g:=GO.lst (ag (O.filt (λe _=>decide (0<e.cmp x)) a)));have ab:=ah (g:=GO.lst (ag (O.filt (λe _=>decide (e.cmp x<0)) a))) g1 S;have g2:=aa (G:=av G Y (GO.lst (ag (O.filt (λe _=>decide (0<e.cmp x)) a)))) (a:=p2) (g:=GO.lst (ag (O.filt (λe _=>decide (e.cmp x<0)) a)));have k1:=ah (g:=GO.lst (ns.map W.int)) ab L;have k2:=ah (g:=GO.lst (ns.map W.int)) g2 L;have le:am G (av (av (av G Y (GO.lst (ag (O.filt (λe _=>decide (0<e.cmp x)) a)))) p2 (GO.lst (ag (O.filt (λe _=>decide (e.cmp x<0)) a)))) p3 (GO.lst (ns.map W.int))):=((am.new Z).trans (am.new S)).trans (am.new L);generalize av (av (av G Y (GO.lst (ag (O.filt (λe _=>decide (0<e.cmp x)) a)))) p2 (GO.lst (ag (O.filt (λe _=>decide (e.cmp x<0)) a)))) p3 (GO.lst (ns.map W.int))=G3 at k1 k2 le ⊢;rfl';intro p4 h4;have l1:=fk (λe _=>decide (0<O.cmp e x)) a;have l2:=fk (λe _=>decide (O.cmp e x<0)) a;refine⟨_,_,ah k1 h4,aa,by rw[aL];simp;lia,λp5 h5=>⟨_,_,aa,ah (ah k2 h4) h5,by rw[length_append,aL,aL];simp;lia,λp6 h6=>⟨_,aa,G,le.trans ((am.new h4).trans ((am.new h5).trans (am.new h6))),?_⟩⟩⟩;unfold O.withO at hq;rw[fj,bc] at hq;rw[append_assoc];exact hq
theorem Nf (F:bf K "_law_size" "_law_size" (aG 128) f fd) (F1:bu "_law_size" ["_law_number"] k (Cf d)) (ml:mg "len"=none) (Z:mg "sum"=none):bo (k+1) f fd ["_law_number"] (Cf (d+1)):=by
 refine dR F (N:=["_law_number"]) λ_ _ _ _ _ _ nd hr=>?_;apply al
 ·grind
 ·rintro ws G q e ⟨a,rfl,hx,hsz,S⟩;have hl:a.len<=1000:=ycy (O.len_le_size a) hsz;rfl';show bw _ _ _ _ _ [none,none,none] G [] _;refine cR (λ_ _=>true) (λe _=> .int e.size) trivial (fG a) (λy m Y k B=>?_) (λy m Y _ k B=>?_) (by simp;lia) (λ_=>rfl) λp1 L=>?_
  ·rfl';exact B
  ·unfold dD fK;rfl';exact⟨y,rfl,by lia,by lia,B⟩
  obtain⟨ns,h1,h2⟩:=lc a;rw[nil_append,h1];refine⟨ns,aa,G,am.new L,?_⟩;rw[aL,h2];exact S
theorem JS (T:Tx):∀d:Nat,bu "_law_size" ["_law_number"] d (Cf d)
 | 0=>T.qnx.fx λf fd F=>io.none λws G q e z9=>by obtain⟨a,_,h,_⟩:=z9;lia
 | d+1=>T.qnx.fx λf fd F=>Nf F (JS T d) T.qRx T.qXx
theorem Ng (F:bf K "_law_next" "_law_next" (aG 129) f fd) (F1:bu "_law_with" ["_law_number","_law_exponent","_law_many"] 61 JO) (F2:bu "_law_size" ["_law_number"] 60 (Cf 60)) (ml:mg "len"=none):bo 62 f fd ["_law_pool_here","_law_cell"] JP:=by
 refine dR F (N:=["_law_pool_here","_law_cell","_law_one","_law_other","_law_many","_law_way","_law_made"]) λ_ _ _ _ _ _ nd hr=>?_;apply al
 ·grind
 ·rintro ws G q e ⟨p,ar,Z,B,rfl,hG,h0,hl,hB,hg,hq⟩;nofun;subst hU;generalize hc:Z%_=cl;nofun;simp only[hG,Option.some.injEq,GO.lst.injEq,exists_eq_left',bB];refine⟨_,.lst hG,by rw[bB];lia,?_⟩;rw[bB];refine CN<|oI rfl h0 λL m1=>?_;cutsat;simp only[hG,Option.some.injEq,GO.lst.injEq,exists_eq_left',bB];refine⟨_,.lst hG,by rw[bB];lia,?_⟩;rw[bB];refine CN<|oI rfl h0 λo2 m2=>?_;cutsat;intro p1 h1;refine jO aa (oJ (lo:=0) (hi:=1000000) (by lia) (by lia) λm a0 a1=>?_);rfl';have le:am G (av G p1 (GO.lst [W.int (cl/8%5),W.int (cl/16%1000000)])):=am.new h1;generalize av G p1 (GO.lst [W.int (cl/8%5),W.int (cl/16%1000000)])=G1 at le ⊢;have Y:=(hg L m1).1;have s1:=(hg L m1).2;have g2:=(hg o2 m2).1;have S:∀o,O.Good (B+10^50) o->o.size<=12->∃G0,am G0 G1/\q (.tup (ag o)) G0:=λo ho hs=>⟨G,le,hq o ⟨ho,hs⟩⟩;cutsat;subst hU;generalize hw:cl%8=way
  -- way 4
  nofun;split
  ·rw[oH];exact S _ (Y.init.mono (by lia)) (ycy (O.size_init L) s1)
  subst hU
  -- way 5
  nofun;split
  ·rw[yh];exact S _ (Y.last.mono (by lia)) (ycy (O.size_last L) s1)
  subst hU
  -- way 6
  nofun;split
  ·exact S (.c .z (1+m) .z) (.whole (by lia) (by lia)) (show 1+0+0<=12 by decide)
  subst hU
  -- way 7, and the end
  refine au λU hU=>?_;have ab:∀(o:O) (n:Int),O.Good B o->1<=n->n<=1000000->U { nx:=λx G1=>∃G0,am G0 G1/\q W.non G0,rt:=λw G1=>∃G0,am G0 G1/\q w G0 } [some (W.ref p),some (W.int cl),some (W.tup (ag L)),some (W.tup (ag o)),some (W.int n),some (W.int way),none] G1:=λo n ho af a2=>by
   cutsat;have ai:=Y.dp;have ad:=ho.dp;have a3:=Y.sz;have az:=ho.sz;refine⟨L,o,n,rfl,by lia,by lia,?_⟩;subst hU;have as:=O.size_with L o n;have a4:=O.dp_with L o n;rfl';refine⟨_,rfl,by lia,by lia,?_⟩;rfl';split
   ·exact S _ (Y.mono (by lia)) s1
   ·exact S _ ((Y.with ho af (by lia)).mono (by lia)) (by lia)
  rfl';have plain:=ab o2 (1+m) g2 (by lia) (by lia);split
  ·have ai:=bh L;have ad:=Y.dp;refine⟨aI L,by lia,?_⟩;rw[aQ];split
   ·rename_i hz;have aj:L≠ .z:=by simpa using hz
    obtain⟨x,n,_,hp⟩:=rR aj;refine⟨_,eK hp,?_⟩;unfold dD fK;rfl';exact ab x 1 (Y.part hp).1 (by lia) (by lia)
   ·exact plain
  ·exact plain
theorem Nh (F:bf K "_law_pool" "_law_pool" (aG 130) f fd) (F1:bu "_law_next" ["_law_pool_here","_law_cell"] 62 JP):bo 63 f fd ["_law_script"] JQ:=by
 refine dR F (N:=["_law_script","_law_pool_here","_law_cell"]) λ_ _ _ _ _ _ nd hr=>?_;apply al
 ·grind
 ·rintro ws G q e ⟨ns,rfl,hl,hq⟩;nofun;intro p hp;cutsat;have af:cL (ns.map W.int) none (some 24)=(ns.take 24).map W.int:=by rw[show(24:Int)=((24:Nat):Int) from rfl,yg,List.map_take]
  rw[af];refine⟨by lia,λp2 L=>⟨_,aa,?_⟩⟩;have h3:[W.tup [],W.tup [W.tup [W.tup [],W.int 1]],W.tup [W.tup [W.tup [W.tup [W.tup [],W.int 1]],W.int 1]]]=cf (cF++[]):=rfl;rw[h3] at L ⊢;have ab:p2≠p:=λz=>by rw[z,aa] at L;cases L
  have g3:∀o,o∈cF++([]:List O)->kC (1+(([]:List O).length:Int)*10^50) o:=λo Z=>by
   simp[cF] at Z;rcases Z with rfl | rfl | rfl
   ·exact⟨⟨trivial,by simp[O.size],by first | decide | (simp[O.mx];lia)⟩,by decide⟩
   ·exact⟨⟨⟨trivial,by lia,trivial,trivial⟩,by simp[O.size],by first | decide | (simp[O.mx];lia)⟩,by decide⟩
   ·exact⟨⟨⟨⟨trivial,by lia,trivial,trivial⟩,by lia,trivial,trivial⟩,by simp[O.size],by first | decide | (simp[O.mx];lia)⟩,by decide⟩
  refine a8 (λws τ G'=>∃(cs:List Int) (B:List O) (t:Option W),ws=cs.map W.int/\τ=[some (.scr ns),some (.ref p),t]/\G' p=some (.lst (cf (cF++B)))/\G' p2=some (.lst ((ns.take 24).map W.int))/\am G G'/\cs.length+B.length<=24/\∀o,o∈cF++B->kC (1+(B.length:Int)*10^50) o) ?_ ?_ _ _ _
   ⟨ns.take 24,[],none,rfl,rfl,by rw[ao (Ne.symm ab)];exact aa,aa,(am.new hp).trans (am.new L),by simp;lia,g3⟩
  ·rintro τ G' ⟨cs,B,t,hw,rfl,k1,k2,le,Y,hg⟩;refine⟨k2,?_⟩;subst hU;rfl';refine⟨av G p (.lst (cf (cF++B))),λa g S=>?_,hq p B hp (by lia) λo Z=>(hg o Z).mono ?_⟩
   ·by_cases hb:a=p
    ·subst hb;rw[aa] at S;rw[k1,S]
    ·rw[ao hb] at S;exact le a g S
   ·have:B.length<=24:=by lia
    lia
  ·rintro w1 ws τ G' kk ⟨cs,B,t,hw,rfl,k1,k2,le,Y,hg⟩ hk;cases cs with
   | nil=>cases hw
   | cons c0 cs=>
     cases hw;refine⟨k2,?_⟩;simp only[length_cons] at Y;rfl';refine⟨⟨_,k1⟩,p,cF++B,c0,_,rfl,k1,by simp[cF],by simp[cF];lia,?_,hg,λo Z=>⟨_,k1,by rw[bB];simp[cF];lia,?_⟩⟩
     ·lia
     ·rw[cQ,append_assoc];refine hk _ _ ⟨cs,B++[o],_,rfl,rfl,aa,by rw[ao ab];exact k2,λa g S=>?_,by simp;lia,λo' ad=>?_⟩
      ·rw[ao (λz=>by rw[z,hp] at S;cases S)];exact le a g S
      ·have hc:((B++[o]).length:Int)=B.length+1:=by simp
       rw[hc];rw[←append_assoc] at ad;rcases mem_append.mp ad with h | h
       ·exact(hg o' h).mono (by lia)
       ·have:o'=o:=by simpa using h
        subst this;exact Z.mono (by lia)
def zA:aX:=λws G q _=>∃c:Int,ws=[.int c]/\∀l:List Nat,aN l=true->q (.str (aF l)) G
noncomputable abbrev NJ (cs:List Nat):List W:=cs.map λy=> .str (aF [y])
theorem Fy (cs:List Nat):vI (cs.map λy=>aF [y])=aF cs:=by
 unfold vI
 congr 2
 rw[map_map]
 induction cs with
 | nil=>rfl
 | cons y cs ih=>rw[map_cons,flatten_cons,ih];rfl
theorem FA (cs:List Nat):((cs.map λy=>aF [y]).map λt=>t.length).sum=cs.length:=by
 induction cs with
 | nil=>rfl
 | cons y cs ih=>rw[map_cons,map_cons,sum_cons,ih,length_cons,aC,length_singleton];lia
theorem FB (h1:1<=l.length) (h2:l.length<=8) (L:l≠[119]) (B:l.all cE=true):aN l=true:=by
 unfold aN;rw[B,ydz (And.intro h1 h2),ydz L]
 rfl
theorem aN.len (h:aN l=true):1<=l.length/\l.length<=8/\l≠[119]/\l.all cE=true:=by
 unfold aN at h;simp only[Bool.and_eq_true,decide_eq_true_eq] at h;exact⟨h.1.1.1,h.1.1.2,h.1.2,h.2⟩
theorem uD (h:aN l=true):ki l=some (.nam l):=by
 obtain⟨h1,h2,B,L⟩:=aN.len h;unfold ki;rw[ycw B,if_neg,ycv h];intro z;unfold aR at z;simp only[Bool.and_eq_true] at z;cases l with
 | nil=>cases h1
 | cons y l=>
   have S:ck y=true:=all_eq_true.mp z.1.2 y yby;have Y:cE y=true:=all_eq_true.mp L y yby;have:=of_decide_eq_true S;have:=of_decide_eq_true Y;lia
theorem Cg (h:aN l=true):∀y,y∈l->dz y=true:=λy B=>by
 unfold dz;rw[all_eq_true.mp (aN.len h).2.2.2 y B,Bool.or_true]
theorem FC (F:bf K "_law_name" "_law_name" (aG 132) f fd) (mr:mg "range"=none):bo 1 f fd ["_law_cell"] zA:=by
 refine dR (k:=0) F (N:=["_law_cell","_law_letters","_law_place","_law_signs","_law_k","_law_name_here"]) λ_ _ _ _ _ _ nd hr=>?_;apply al
 ·grind
 ·rintro ws G q e ⟨c,rfl,hq⟩;nofun;obtain⟨z,hz⟩:∃z:Str,z=Str.ofString "abcdefghijklmnopqrstuvwxyz":=⟨_,rfl⟩;have ai:z.length=26:=by rw[hz];rfl
  have ad:∀y,y∈z.cps.toList->cE y=true:=by rw[hz];decide+kernel
  rw[←hz];cutsat;cutsat;intro p hp;cutsat;have h8:=iz (i:=c) (j:=8) (by lia);refine⟨by lia,by lia,?_⟩;have L:∀X:Int,∃y,dQ z.cps.toList (X%26)=some y/\cE y=true:=λX=>by
   have af:=iz (i:=X) (j:=26) (by lia);obtain⟨i,hi⟩:∃i:Nat,X%26=(i:Int):=⟨(X%26).toNat,by lia⟩;have ab:i<z.cps.toList.length:=by rw[mF];lia
   rw[hi];exact⟨_,aA (ycz ab),ad _ (getElem_mem ab)⟩
  refine mE (1+c%8).toNat (λi τ G'=>∃(cs:List Nat) (t4 Z:Option W),τ=[some (.int c),some (.str z),some (.int (c/5408%8)),some (.ref p),t4,Z]/\am G G'/\G' p=some (.lst (NJ cs))/\cs.length=i/\cs.all cE=true) ⟨[],_,_,rfl,am.new hp,aa,rfl,rfl⟩ ?_ ?_
  ·rintro τ G' ⟨cs,t4,Z,rfl,S,hG,Y,B⟩;refine⟨trivial,?_⟩;subst hU;dsimp only;nofun;refine⟨p,cs.map λy=>aF [y],rfl,by rw[hG,map_map];rfl,by rw[FA];lia,?_⟩;rw[Fy];cutsat;refine⟨rfl,rfl,zero_le _,?_⟩;refine bY (λh=>⟨G,S,hq [119,119] (by decide)⟩) λh=>?_;subst hU;rfl';exact⟨G,S,hq cs (FB (by lia) (by lia) (λz=>h (by rw[z];rfl)) B)⟩
  ·rintro i τ G' kk hi ⟨cs,t4,Z,rfl,S,hG,Y,B⟩ hk;refine⟨trivial,?_⟩;have next:∀(y:Nat) (t4 Z:Option W),cE y=true->(∃xs,G' p=some (GO.lst xs))/\∃ys,G' p=some (.lst ys)/\ys.length<=99999/\kk [some (.int c),some (.str z),some (.int (c/5408%8)),some (.ref p),t4,Z] (av G' p (.lst (ys++[.str (aF [y])]))):=λy t4 Z hl=>by
    refine⟨⟨_,hG⟩,_,hG,by rw[length_map];lia,hk _ _ ⟨cs++[y],_,_,rfl,am.put S hp,?_,by rw[length_append,length_singleton,Y],by rw[List.all_append,B];simpa using hl⟩⟩;rw[aa];simp[NJ]
   rfl';refine bY (λ_=>?_) λ_=>?_
   ·obtain⟨y,hy,hl⟩:=L (c/208);obtain⟨h1,h2⟩:=next y (some (.int i)) Z hl;exact⟨h1,by lia,y,hy,h2⟩
   ·obtain⟨y,hy,hl⟩:=L (c/8);obtain⟨h1,h2⟩:=next y (some (.int i)) Z hl;exact⟨h1,by lia,y,hy,h2⟩
noncomputable def fB (e:O) (te:List Nat):List Nat:=if e=.z∨e=.c .z 1 .z then [] else if tz e=true∨e=om then 94::te else 94::40::(te++[41])
theorem jj {e:O} {te:List Nat} (h:e≠ .z):eU e te=119::fB e te:=by
 unfold eU fB
 by_cases h1:e=.c .z 1 .z
 ·rw[ycv h1,ycv (.inr h1)]
 ·rw[ycw h1,ycw (show ¬(e=.z∨e=.c .z 1 .z) from λz=>z.elim h h1)];split<;> rfl
theorem uE (e:O) (te:List Nat):(fB e te).length<=te.length+3:=by
 unfold fB;split
 ·simp
 ·split<;> simp
theorem JT {m:Int} (h:(O.c y m r).NF):tz (.c y m r)=decide (y=.z):=by
 cases y with
 | z=>
   have hr:=O.Lt_z h.2.2.1;subst hr
   rfl
 | c a b d=>simp[tz]
theorem sw:∀a:O,(fy a).length=a.len
 | .z=>rfl
 | .c e n r=>by simp only[fy,length_cons,sw r,O.len]
theorem Ni (F:bf K "_law_shown" "_law_shown" (aG 131) f fd) (F1:bu "_law_shown" ["_law_number"] k (gW d)) (ms:mg "str"=none):bo (k+1) f fd ["_law_number"] (gW (d+1)):=by
 refine dR F (N:=["_law_number","_law_parts","_law_exponent","_law_many","_law_inside"]) λ_ _ _ _ _ _ nd hr=>?_;apply al
 ·refine' ac ?s1 (ac ?s2 (ac ?s3 (ak (bW (jU [43] ?e1)))))
  case s1=>eq_refl
  case s2=>eq_refl
  case s3=>eq_refl
  case e1=>ac_nf
 ·rintro ws G q e ⟨a,rfl,hS,hd,as,hq⟩;have a2:=O.len_le_size a;have hs:=hS.2.1;have az:=hS.len;nofun;intro p hp;subst hU;refine au λU0 hU0=>?_;rfl';refine a8 (λws τ G'=>∃(r:O) (dn:List (List Nat)) (t2 t3 t4:Option W),ws=ag r/\τ=[some (.tup (ag a)),some (.ref p),t2,t3,t4]/\am G G'/\G' p=some (.lst (dn.map λl=>W.str ⟨l.toArray⟩))/\dn++fy r=fy a/\nB r/\r.dp<d+1) ?_ ?_ _ _ _ ⟨a,[],_,_,_,rfl,rfl,am.new hp,aa,rfl,hS,hd⟩
  ·rintro τ G' ⟨r,dn,t2,t3,t4,hw,rfl,Z,hG,L,_,_⟩;cases r with
   | c y n r=>cases hw
   | z=>
     refine⟨trivial,?_⟩;have L:dn=fy a:=by rw[←L];exact(append_nil _).symm
     subst L;subst hU0;dsimp only;nofun;intro p1 Y;refine⟨_,.nil (ah hG Y) aa,?_⟩;cases a with
     | z=>
       rw[ycv (by rfl)];exact⟨G,Z.trans (am.new Y),hq⟩
     | c x n r=>
       rw[ycw (by simp[fy])];subst hU;unfold mP;rfl';have h1:=j6 (.c x n r) (by simp);refine⟨p,fy (.c x n r),rfl,ah hG Y,by lia,G,Z.trans (am.new Y),?_⟩;rw[iD _ (by simp)];exact hq
  ·rintro w1 ws τ G' kk ⟨r,dn,t2,t3,t4,hw,rfl,Z,hG,L,af,ab⟩ hk;cases r with
   | z=>cases hw
   | c x n r=>
     rw[bc] at hw;cases hw;refine⟨trivial,?_⟩;obtain⟨sx,sr,a0,ai⟩:=af.pt;simp only[O.dp] at ab;have a3:=sx.len;have a1:=uE x (bD aq x);have aj:=bh x;obtain⟨f1,f2⟩:=mQ (n:=n) (by lia) ai;have ad:((n.toNat:Nat):Int)=n:=Int.toNat_of_nonneg (by lia);have ar:=congrArg List.length L;rw[length_append,sw,sw] at ar;have next:∀t2 t3 t4,(∃xs,G' p=some (GO.lst xs))/\∃ys,G' p=some (.lst ys)/\ys.length<=99999/\kk [some (.tup (ag a)),some (.ref p),t2,t3,t4] (av G' p (.lst (ys++[.str (aF (cB aq x n (bD aq x)))]))):=λt2 t3 t4=>by
      refine⟨⟨_,hG⟩,_,hG,by rw[length_map];lia,hk _ _ ⟨r,dn++[cB aq x n (bD aq x)],_,_,_,rfl,rfl,am.put Z hp,?_,?_,sr,by lia⟩⟩
      ·rw[aa,map_append]
       rfl
      ·rw[append_assoc];exact L
     unfold dD fK;simp only[nU,fO,nS,bJ,set_cons_succ,set_cons_zero];refine⟨rfl,?_⟩;nofun;subst hU;refine au λU hU=>?_;have B:∀D:cj,D.nx=kk->U D [some (.tup (ag a)),some (.ref p),some (.tup (ag x)),some (.int n),some (.str (aF (fB x (bD aq x))))] G':=λD hD=>by
      subst hD;subst hU;rfl';refine⟨aI x,by lia,?_⟩;rw[aQ];unfold cB at next
      by_cases hz:x=.z
      ·rw[ycv (by simpa using hz)];rw[ycv hz] at next;obtain⟨h1,h2⟩:=next (some (.tup (ag x))) (some (.int n)) (some (.str (aF (fB x (bD aq x)))));exact⟨h1,n.toNat,ad.symm,f1,h2⟩
      ·rw[ycw (by simpa using hz)];rw[ycw hz,jj hz] at next;refine bY (λh1=>?_) λh1=>?_
       ·rw[ycw (by lia)] at next;obtain⟨h1,h2⟩:=next (some (.tup (ag x))) (some (.int n)) (some (.str (aF (fB x (bD aq x)))));refine⟨h1,by rw[show Str.ofString "w"=aF [119] from rfl,aC,aC,length_singleton];lia,?_⟩;rw[show Str.ofString "w"=aF [119] from rfl,show Str.ofString "*"=aF [42] from rfl,gU [119] (fB x (bD aq x)),gU ([119]++fB x (bD aq x)) [42]];refine⟨by rw[aC,aC];simp only[length_append,length_cons,length_nil];lia,n.toNat,ad.symm,f1,?_⟩;have e2:=gU ([119]++fB x (bD aq x)++[42]) (aq n.toNat);rw[e2];have e3:[119]++fB x (bD aq x)++[42]++aq n.toNat=119::fB x (bD aq x)++42::aq n.toNat:=by simp
        rw[e3];refine⟨?_,h2⟩;have e4:=aC (aq n.toNat);rw[e4,aC];simp only[length_append,length_cons,length_nil];lia
       ·rw[ycv (by lia)] at next;obtain⟨h1,h2⟩:=next (some (.tup (ag x))) (some (.int n)) (some (.str (aF (fB x (bD aq x)))));refine⟨h1,by rw[show Str.ofString "w"=aF [119] from rfl,aC,aC,length_singleton];lia,?_⟩;rw[show Str.ofString "w"=aF [119] from rfl,gU [119] (fB x (bD aq x))];exact h2
     generalize hD:({ nx:=kk,rt:=λw G1=>∃G0,am G0 G1/\q w G0,bk:=U0 { nx:=λx G1=>∃G0,am G0 G1/\q W.non G0,rt:=λw G1=>∃G0,am G0 G1/\q w G0 },ct:=kk }:cj)=D;have B:=B D (by rw[←hD]);rfl';refine⟨aI x,by lia,?_⟩;rw[aQ];unfold fB at B
     by_cases hz:x=.z
     ·rw[ycw (by simpa using hz)];rw[ycv (.inl hz)] at B;exact B
     rw[ycv (by simpa using hz)];refine⟨aI x,by rfl,by lia,?_⟩;rw[show W.tup [W.tup [W.tup [],W.int 1]]=W.tup (ag (.c .z 1 .z)) from rfl,eJ]
     by_cases h1:x=.c .z 1 .z
     ·rw[ycw (by simpa using h1)];rw[ycv (.inr h1)] at B;exact B
     rw[ycv (by simpa using h1)];rw[ycw (show ¬(x=.z∨x=.c .z 1 .z) from λz=>z.elim hz h1)] at B;refine⟨x,rfl,sx,by lia,by lia,?_⟩;cases x with
     | z=>exact absurd rfl hz
     | c y m r'=>
       have hy:=bh y;rw[JT sx.1] at B;refine⟨_,aA (j:=0) rfl,?_⟩;rfl';simp only[O.dp] at ab aj;have S:(y=.z∨O.c y m r'=om)->(Str.ofString "^").length+(aF (bD aq (.c y m r'))).length<=100000/\U D [some (W.tup (ag a)),some (W.ref p),some (W.tup (ag (.c y m r'))),some (W.int n),some (W.str (Str.ofString "^"++aF (bD aq (.c y m r'))))] G':=λh=>by
        rw[ycv (h.imp (λz=>ydz z) id)] at B;rw[show Str.ofString "^"=aF [94] from rfl,gU [94] (bD aq (.c y m r')),aC,aC,length_singleton];exact⟨by lia,B⟩
       refine⟨aI y,by lia,?_⟩;rw[aQ]
       by_cases hy0:y=.z
       ·rw[ycw (by simpa using hy0)];exact S (.inl hy0)
       rw[ycv (by simpa using hy0)];refine⟨aI _,by rfl,by lia,?_⟩;rw[show W.tup [W.tup [W.tup (ag (O.z.c 1 O.z)),W.int 1]]=W.tup (ag om) from rfl,eJ]
       by_cases hyo:O.c y m r'=om
       ·rw[ycw (by simpa using hyo)];exact S (.inr hyo)
       rw[ycv (by simpa using hyo)];rw[ycw (λz=>z.elim (λz=>hy0 (of_decide_eq_true z)) hyo)] at B;rw[show Str.ofString "^"=aF [94] from rfl,show Str.ofString "("=aF [40] from rfl,show Str.ofString ")"=aF [41] from rfl,gU [40] (bD aq (.c y m r')),gU ([40]++bD aq (.c y m r')) [41],gU [94] ([40]++bD aq (.c y m r')++[41])];simp only[aC,length_append,length_cons,length_nil];exact⟨by lia,by lia,by lia,B⟩
theorem JU (T:Tx):∀d:Nat,bu "_law_shown" ["_law_number"] d (gW d)
 | 0=>T.qqx.fx λf fd F=>io.none λws G q e z9=>by obtain⟨a,_,_,h,_⟩:=z9;lia
 | d+1=>T.qqx.fx λf fd F=>Ni F (JU T d) T.qWx
noncomputable def u8 (s:String):List Nat:=(Str.ofString s).cps.toList
theorem kg (s:String):aF (u8 s)=Str.ofString s:=rfl
noncomputable def FD (n m t:List Nat):List (List (List Nat)×Nat):=[([u8 "let",t,u8 "w^"],6),([u8 "let",t,u8 "2^25"],8),([u8 "let",t,n],3),([u8 "tell",n],3),([u8 "tell",u8 "w+"++n],3),([u8 "drop",n],3),([u8 "drop",u8 "w"],3),([u8 "drop",m],3),([u8 "tell",u8 "w^"],6),([u8 "tell",u8 "0"++m],6),([u8 "step",u8 "w",u8 "0"++m],6),([u8 "step",u8 "w",u8 "w"],6),([u8 "tell",u8 "-1"],6),([u8 "let",u8 "w",u8 "1"],6),([u8 "let",m,u8 "1"],6),([u8 "let",u8 "abcdefghi",u8 "1"],6),([u8 "let",u8 "A",n],6),([u8 "cut",u8 "(())",u8 "0.",u8 "1"],6),([u8 "cut",u8 "(())",u8 "00",u8 "1"],6),([u8 "cut",u8 "(())",u8 "()",u8 "1"],6),([u8 "tree",u8 "(()"],6),([u8 "tree",m],6),([u8 "tree",u8 "())"],6),([u8 "tell",u8 "2^25"],8),([u8 "let",n,u8 "2^25"],8),([u8 "let",u8 "w",u8 "2^25"],6),([u8 "hold",u8 "2^25",u8 "w^"],8),([u8 "hold",n,u8 "w^"],3),([u8 "minus",u8 "w^",n],6),([u8 "share",n,u8 "2^25"],3),([u8 "rung",u8 "2^25",n],8),([u8 "common",m,n],3),([u8 "hold",u8 "w^^2",u8 "2^25"],6),([u8 "tell",u8 "2^25+"++n],3),([u8 "tell",u8 "(2^25)^"++n],3),([u8 "step",n,u8 "01"],3),([u8 "write",u8 "01",u8 "0"],6),([u8 "down",n,u8 "1"],3),([u8 "down",u8 "2^25",u8 "1"],8),([u8 "worth",u8 "w^",u8 "0"],6),([u8 "cut",u8 "(()",u8 "x",u8 "1"],6),([u8 "cut",u8 "()",u8 "x",u8 "01"],6),([u8 "write",m,u8 "-1"],6),([u8 "down",u8 "w",u8 "x"],6),([u8 "down",u8 "w",u8 "1.5"],6),([u8 "worth",u8 "w",u8 "-1"],6),([u8 "worth",u8 "w",u8 "007"],6),([u8 "cut",u8 "(())",u8 "0",u8 "01"],6)]
noncomputable def FE (m:List Nat) (x:Nat):List (List (List Nat)×Nat):=[([u8 "minus",m,u8 "w+"++m],9),([u8 "rung",m,u8 "0"],2),([u8 "rung",u8 "0",m],2),([u8 "rung",u8 "w*"++m,u8 "w*"++m],9),([u8 "rung",m,u8 "w"],2),([u8 "share",u8 "w+"++m,u8 "0"],7),([u8 "step",u8 "0",m],7),([u8 "down",u8 "0",aq (x+1)],7),([u8 "down",u8 "0",u8 "1"],4),([u8 "down",u8 "w",u8 "0"],4),([u8 "down",u8 "w*"++aq (x+1),aq (x+1)],0),([u8 "worth",m,u8 "1"],4),([u8 "write",m,u8 "0"],4),([u8 "write",u8 "0",u8 "1"],4),([u8 "cut",u8 "()",u8 "0",m],1),([u8 "cut",u8 "((()))",u8 "0",m],1),([u8 "cut",u8 "((()))",u8 "0.0",aq (x+600)],8),([u8 "cut",u8 "((()))",u8 "1",aq (x+600)],1),([u8 "worth",u8 "w^w",aq (x+400)],8),([u8 "down",u8 "w^w",aq (x+300)],8),([u8 "down",u8 "w^w*"++aq (x+1),aq (x+1)],0),([u8 "cut",u8 "((()))",u8 "0.0.0",u8 "1"],1),([u8 "tell",aq (x+1)++u8 "^"++aq (x+24)],8),([u8 "worth",u8 "0",u8 "0"],4)]
noncomputable def wk (b:Nat) (p:List Nat):Bool:=!p.isEmpty&&!p.contains 32&&decide (p.length<=b)
theorem wk_iff {p:List Nat}:wk b p=true↔p≠[]/\32∉p/\p.length<=b:=by
 unfold wk;cases p<;> simp[and_assoc]
theorem gv {b2 b3:Nat} {p q:List Nat} (h:wk b p=true) (g:wk b2 q=true) (hb:b+b2<=b3):wk b3 (p++q)=true:=by
 rw[wk_iff] at*;refine⟨by simp[h.1],by simp[h.2.1,g.2.1],?_⟩;rw[length_append];lia
theorem iW {b2:Nat} {p:List Nat} (h:wk b p=true) (hb:b<=b2):wk b2 p=true:=by
 rw[wk_iff] at*;exact⟨h.1,h.2.1,by lia⟩
theorem iG {x:Nat} (h:x<10^60):wk 60 (aq x)=true:=by
 have:=fgOk.ok x h;unfold aR at this;simp only[Bool.and_eq_true,decide_eq_true_eq,all_eq_true] at this;exact wk_iff.mpr ⟨λz=>by rw[z] at this;exact absurd this.1.1.1 (by decide),λz=>absurd (this.1.2 32 z) (by decide),this.1.1.2⟩
theorem eO (h:aN l=true):wk 8 l=true:=by
 obtain⟨h1,h2,_,B⟩:=aN.len h;exact wk_iff.mpr ⟨(λz=>by rw[z] at h1;cases h1),λz=>absurd (all_eq_true.mp B 32 z) (by decide),h2⟩
def nk (nm:List Nat->Option O) (x:List (List Nat)×Nat):Prop:=∃p0 ls js,x.1=p0::ls/\kA p0=some js/\ls.length=js.length/\(dF nm js ls (.inl x.2)∨(∃ts,dF nm js ls (.inr ts)/\cm js ts=false/\x.2=4)∨∃ts i,dF nm js ls (.inr ts)/\cm js ts=true/\Cb p0=some i/\Dd i ts (.inl x.2))
theorem zB (h:ws.all (wk b)=true) (e:ws=L::ls) (f:kA L=some js) (S:ls.length=js.length):dP 32 (ie 32 ws)=L::ls/\cT (L::ls)=true:=by
 subst e;have hw:=λp B=>wk_iff.mp (all_eq_true.mp h p B);refine⟨mV (by simp) λp B=>(hw p B).2.1,?_⟩;unfold cT;rw[show kA ((L::ls).headD [])=some js from f,Bool.and_eq_true];refine⟨all_eq_true.mpr λp B=>?_,ydz (by rw[length_cons,S])⟩;have:=(hw p B).1;cases p with
 | nil=>exact absurd rfl this
 | cons _ _=>rfl
theorem nk.say {nm:List Nat->Option O} {x:List (List Nat)×Nat} (h:nk nm x) (hw:x.1.all (wk b)=true):nD nm (ie 32 x.1) (.inl x.2):=by
 obtain⟨p0,ls,js,e,f,hl,h⟩:=h;obtain⟨L,B⟩:=zB hw e f hl;rcases h with h | ⟨Z,h,hb,S⟩ | ⟨Z,i,h,hb,hi,Y⟩
 ·exact .thgs L B f h
 ·rw[S];exact .bas L B f h hb
 ·exact .deed L B f h hb hi Y
theorem sy:∀i,i<14->kA (frmT.getD i ([],[])).1=some (frmT.getD i ([],[])).2:=by decide+kernel
theorem FF:∀i,i<14->Cb (frmT.getD i ([],[])).1=some i:=by decide+kernel
theorem rB (i:Nat) (g:dF nm (frmT.getD i ([],[])).2 ls (.inl k)) (hi:i<14:=by decide) (B:ls.length=(frmT.getD i ([],[])).2.length:=by rfl):nk nm ((frmT.getD i ([],[])).1::ls,k):=⟨_,_,_,rfl,sy i hi,B,.inl g⟩
theorem rC (i:Nat) (g:dF nm (frmT.getD i ([],[])).2 ls (.inr B)) (b:cm (frmT.getD i ([],[])).2 B=false:=by rfl) (hi:i<14:=by decide) (L:ls.length=(frmT.getD i ([],[])).2.length:=by rfl):nk nm ((frmT.getD i ([],[])).1::ls,4):=⟨_,_,_,rfl,sy i hi,L,.inr (.inl ⟨_,g,b,rfl⟩)⟩
theorem rD (i:Nat) (g:dF nm (frmT.getD i ([],[])).2 ls (.inr B)) (d:Dd i B (.inl k)) (b:cm (frmT.getD i ([],[])).2 B=true:=by rfl) (hi:i<14:=by decide) (L:ls.length=(frmT.getD i ([],[])).2.length:=by rfl):nk nm ((frmT.getD i ([],[])).1::ls,k):=⟨_,_,_,rfl,sy i hi,L,.inr (.inr ⟨_,_,g,b,FF i hi,d⟩)⟩
def nq (q:List (List Nat)×Nat->Prop):List (List (List Nat)×Nat)->Prop
 | []=>True
 | x::l=>q x/\nq q l
theorem nq.get:∀{l:List (List (List Nat)×Nat)},nq q l->∀x,x∈l->q x
 | _::_,h,x,B=>by
   rcases mem_cons.mp B with rfl | B
   ·exact h.1
   ·exact h.2.get x B
theorem uF {s:List bx} (h:wd 1 l s) (B:l.length<=2000):rdT l=some s:=by
 unfold rdT;rw[ycv B];exact h.all (by decide)
theorem v7 (h:aN l=true):AW D l [.nam l]:=AY (Cg h) (uD h)
theorem pG {D x:Nat} (h:x<10^60):AW D (aq x) [.num (O.wh x)]:=λ_ _ _ B=>rH fgOk (n:=(x:Int)) (by lia) (by lia) B
theorem lv_w:AW D (u8 "w") [.num om]:=λ_ _ _ B=>xU B
theorem dL {x:Nat} (h:x<10^60):(aq x).length<=60:=(wk_iff.mp (iG h)).2.2
theorem gy {nm:List Nat->Option O} {s:List bx} {a:O} (h:wd 1 l s) (B:l.length<=2000) (g:gj nm s=some s) (r:Rn s [] (some a)):bM nm l (.inr a):= .num (uF h B) g r
theorem JV {nm:List Nat->Option O} {x:Nat} (h:x<10^60):bM nm (aq x) (.inr (O.wh x)):=gy (pG h).up.up.up (by have:=dL h;lia) rfl (.num (.done _))
theorem uG (h:aR l=true):aN l=false:=by
 cases hb:aN l with
 | false=>rfl
 | true=>
   have h1:=tF h;rw[uD hb] at h1;cases h1
theorem uH:∀{l:List Nat},(∀y,y∈l->dz y=true)->dg l=l
 | [],_=>rfl
 | y::l,h=>by
   unfold dg;rw[ycv (h y yby),uH λz B=>h z (ybx _ B)]
theorem JW (hw:∀y,y∈l->dz y=true) (h:ki l=none):rdT l=none:=by
 have h1:∀rd,aO rd l=none:=λrd=>by
  unfold aO;split
  ·exact absurd (hw 40 yby) (by decide)
  ·rw[uH hw,h]
 unfold rdT;split
 ·show(match ci (cO 19) l with | some (s,[])=>some s | _=>none)=none;unfold ci bF bK;rw[h1]
 ·rfl
theorem zC (h:aR l=true):Tr.rdT l=none:=by
 unfold aR at h;simp only[Bool.and_eq_true,decide_eq_true_eq,all_eq_true] at h;cases l with
 | nil=>exact absurd h.1.1.1 (by decide)
 | cons y l=>
   have h1:=of_decide_eq_true (h.1.2 y yby);have h2:Tr.step [.z] y=none:=by
    unfold Tr.step;rw[ycw (by lia),ycw (by lia)]
   unfold Tr.rdT;split
   ·rfl
   ·unfold Tr.rdS;rw[h2]
theorem uI {e:O} {n:Int} (L:O.size e<=300) (B:O.mx e<=1) (S:O.dp e<=30) (h:n<=10^60):kU (.c e n .z):=by
 refine⟨by show 1+O.size e+0<=400;lia,Int.lt_of_le_of_lt (O.mx_hle h (ydv B (by decide)) (by decide)) (by decide+kernel),by show max (O.dp e+1) 0<=40;lia⟩
theorem C9 {nm:List Nat->Option O} {x:Nat} (h:x<10^60) (h1:1<=x):bM nm (u8 "w*"++aq x) (.inr (.c (O.wh 1) x .z)):=by
 have hw:O.wh x=.c .z x .z:=ycw (by lia);refine gy (l:=u8 "w"++42::aq x) (tO lv_w.up.up (pG h).up).up ?_ rfl (.num (.num (.op ?_ (.done _))))
 ·have:=dL h;show(aq x).length+1+1<=2000;lia
 ·rw[hw];exact .mul (uI (by decide) (by decide) (by decide) (by lia)) (by lia)
theorem JX:bM nm (u8 "w^w") (.inr (.c om 1 .z)):=
 gy (l:=u8 "w"++94::u8 "w") (jI lv_w lv_w).up.up (by decide) rfl (.num (.num (.op (.pow (uI (by decide) (by decide) (by decide) (by decide)) (λz=>by cases z)) (.done _))))
theorem FG {nm:List Nat->Option O} {x:Nat} (h:x<10^60) (h1:1<=x):bM nm (u8 "w^w*"++aq x) (.inr (.c om x .z)):=by
 have hw:O.wh x=.c .z x .z:=ycw (by lia);refine gy (l:=(u8 "w"++94::u8 "w")++42::aq x) (tO (jI lv_w lv_w).up (pG h).up).up ?_ rfl (.num (.num (.op (.pow (uI (by decide) (by decide) (by decide) (by decide)) (λz=>by cases z)) (.num (.op ?_ (.done _))))))
 ·have:=dL h;show(aq x).length+1+1+1+1<=2000;lia
 ·rw[hw];exact .mul (uI (by decide) (by decide) (by decide) (by lia)) (by lia)
theorem uJ {x:Nat} (h1:1<=x):O.plusO om (O.wh x)=.c (O.wh 1) 1 (.c .z x .z):=by
 rw[show O.wh x=.c .z x .z from ycw (by lia)];show O.c (O.wh 1) 1 (.c .z (0+(x:Int)) .z)=_;rw[Int.zero_add]
theorem FH {nm:List Nat->Option O} {x:Nat} (h:x<10^60) (h1:1<=x):bM nm (u8 "w+"++aq x) (.inr (.c (O.wh 1) 1 (.c .z x .z))):=by
 refine gy (l:=u8 "w"++43::aq x) (rM lv_w.up.up.up (pG h).up.up) ?_ rfl (.num (.num (.op ?_ (.done _))))
 ·have:=dL h;show(aq x).length+1+1<=2000;lia
 ·rw[←uJ h1];refine .add ?_;rw[uJ h1];exact⟨by show 3<=400;decide,Int.lt_of_le_of_lt (O.mx_hle (B:=10^60) (by decide) (by decide) (O.mx_hle (by lia) (by decide) (by decide))) (by decide+kernel),by show 2<=40;decide⟩
theorem JY:bM nm (u8 "2^25") (.inl 8):= .tg (s:=[.num (O.wh 2),.num (O.wh 25),.op 94]) (by decide+kernel) rfl (.num (.num (.bad (.ref (by decide) (by decide)))))
theorem JZ {nm:List Nat->Option O} {x y:Nat} (h:x<10^60) (h2:y<10^60) (B:2<=x) (L:25<=y):bM nm (aq x++u8 "^"++aq y) (.inl 8):=by
 rw[append_assoc];refine .tg (uF (l:=aq x++94::aq y) (jI (pG h) (pG h2)).up.up ?_) rfl ?_
 ·have:=dL h;have:=dL h2;rw[length_append,length_cons];lia
 ·rw[show O.wh x=.c .z x .z from ycw (by lia),show O.wh y=.c .z y .z from ycw (by lia)];exact .num (.num (.bad (.ref (by lia) (by lia))))
theorem zD {nm:List Nat->Option O} {n:List Nat} {s:List bx} (B:nm n=none) (h:wd 1 l s) (S:l.length<=2000) (L:n∈mh s):bM nm l (.inl 3):= .nam (uF h S) ⟨n,L,B⟩
theorem Ch (h:401<=b):10^600<=b^b:=
 ycy (ycy (by decide+kernel:10^600<=401^401) (Nat.pow_le_pow_left h 401)) (Nat.pow_le_pow_right (by lia) h)
theorem zE {x:Nat} (h:1<=x):kz (O.wh x)=false:=by
 rw[show O.wh x=.c .z x .z from ycw (by lia)];unfold kz;rw[show O.same .z (.c .z (x:Int) .z)=(x:Int)+0 from ycv rfl,ydy (p:=(x:Int)+0=0) (by lia),Bool.and_false]
theorem zF {a:gF} (L:j=2) (B:∃r,a=.num r) (h:2<=b):cm [j,6] [a,.int b]=true:=by
 obtain⟨r,rfl⟩:=B;subst L;show(decide ((2:Nat)≠6)&&((decide ((6:Nat)≠6)||decide (2<=b))&&true))=true;rw[ydz h]
 rfl
theorem J2 {nm:List Nat->Option O} {x:Nat} (h:x<10^60):eW nm 3 (aq x) (.inr (.int x)):=by
 have:=eW.fig (nm:=nm) (fgOk.ok x h)
 rwa [fgOk.val] at this
theorem FI {nm:List Nat->Option O} {x:Nat} (h:x<10^60):eW nm 6 (aq x) (.inr (.int x)):=by
 have:=eW.base (nm:=nm) (fgOk.ok x h)
 rwa [fgOk.val] at this
theorem FJ {nm:List Nat->Option O} {n t:List Nat} {x:Nat} (hx:∀l,aN l=false->nm l=none) (Z:aN n=true) (S:nm n=none) (ht:aN t=true) (h2:x<10^60) (h1:1<=x):nq (nk nm) (FD n (aq x) t):=by
 have fm:=fgOk.ok x h2;have l8:=(aN.len Z).2.1;have Y:bM nm n (.inl 3):=zD S (v7 Z).up.up.up (by lia) yby;have as:bM nm (u8 "w+"++n) (.inl 3):=zD (l:=u8 "w"++43::n) S (rM lv_w.up.up.up (v7 Z).up.up) (by show n.length+1+1<=2000;lia) yby;have ab:AX 0 (aq 2++94::aq 25) _:=jI (pG (by decide)) (pG (by decide));have ai:bM nm (u8 "2^25+"++n) (.inl 3):=zD (l:=(aq 2++94::aq 25)++43::n) S (rM (ab.le (by decide)).up.up (v7 Z).up.up) (by show n.length+1+1+1+1+1<=2000;lia) yby;have aj:bM nm (u8 "(2^25)^"++n) (.inl 3):=zD (l:=40::((aq 2++94::aq 25)++[41])++94::n) S (jI ab.up.up.br (v7 Z)).up.up (by show n.length+1+1+1+1+1+1+1<=2000;lia) yby;have L:bM nm (u8 "2^25") (.inl 8):=JY;have w1:bM nm (u8 "w^") (.inl 6):= .bad (by decide+kernel);have af:rdT (u8 "-1")=none:=by decide+kernel
 have ar:rdT (u8 "w^^2")=none:=by decide+kernel
 have B:eW nm 2 (u8 "w") (.inr (.num om)):= .expr (gy lv_w.up.up.up (by decide) rfl (.num (.done _)));have g0:ki (u8 "0"++aq x)=none/\aR (u8 "0"++aq x)=false:=by
  have ad:=(wk_iff.mp (iG h2)).1;have a1:aR (48::aq x)=false:=by
   unfold aR;rw[ydy (p:=48::aq x=[48]) (λz=>ad (List.cons.inj z).2)];simp
  refine⟨?_,a1⟩;show ki (48::aq x)=none;unfold ki;rw[ycw (λz=>by cases z),a1];have a2:aN (48::aq x)=false:=by
   unfold aN;simp[cE]
  rw[a2]
  rfl
 have r0:bM nm (u8 "0"++aq x) (.inl 6):= .bad (JW (λy hy=>by
  rcases mem_cons.mp (show y∈48::aq x from hy) with rfl | hy
  ·rfl
  ·exact tE fm y hy) g0.1)
 have f0:=g0.2;have t1:Tr.rdT (u8 "()")=some .z:=by rfl
 have t2:Tr.rdT (u8 "(())")=some (.c .z .z):=by rfl
 have t3:Tr.rdT (u8 "(()")=none:=by rfl
 have t4:Tr.rdT (u8 "())")=none:=by rfl
 unfold FD;simp only[nq];exact⟨rB 0 (.later (.name ht) (.bad (.noexpr w1))),
  rB 0 (.later (.name ht) (.bad (.noexpr L))),
  rB 0 (.later (.name ht) (.bad (.noexpr Y))),
  rB 1 (.bad (.noexpr Y)),
  rB 1 (.bad (.noexpr as)),
  rB 2 (.bad (.nokept S)),
  rB 2 (.bad (.nokept (hx _ rfl))),
  rB 2 (.bad (.nokept (hx _ (uG fm)))),
  rB 1 (.bad (.noexpr w1)),
  rB 1 (.bad (.noexpr r0)),
  rB 8 (.later B (.bad (.nofig f0))),
  rB 8 (.later B (.bad (.nofig rfl))),
  rB 1 (.bad (.noexpr (.bad af))),
  rB 0 (.bad (.noname rfl)),
  rB 0 (.bad (.noname (uG fm))),
  rB 0 (.bad (.noname rfl)),
  rB 0 (.bad (.noname rfl)),
  rB 10 (.later (.tree t2) (.bad (.noway rfl))),
  rB 10 (.later (.tree t2) (.bad (.noway rfl))),
  rB 10 (.later (.tree t2) (.bad (.noway rfl))),
  rB 9 (.bad (.notree t3)),
  rB 9 (.bad (.notree (zC fm))),
  rB 9 (.bad (.notree t4)),
  rB 1 (.bad (.noexpr L)),
  rB 0 (.later (.name Z) (.bad (.noexpr L))),
  rB 0 (.bad (.noname rfl)),
  rB 3 (.bad (.noexpr L)),
  rB 3 (.bad (.noexpr Y)),
  rB 4 (.bad (.noexpr w1)),
  rB 5 (.bad (.noexpr Y)),
  rB 7 (.bad (.noexpr L)),
  rB 6 (.later (.expr (JV h2)) (.bad (.noexpr Y))),
  rB 3 (.bad (.noexpr (.bad ar))),
  rB 1 (.bad (.noexpr ai)),
  rB 1 (.bad (.noexpr aj)),
  rB 8 (.bad (.noexpr Y)),
  rB 11 (.bad (.nofig rfl)),
  rB 12 (.bad (.noexpr Y)),
  rB 12 (.bad (.noexpr L)),
  rB 13 (.bad (.noexpr w1)),
  rB 10 (.bad (.notree t3)),
  rB 10 (.later (.tree t1) (.bad (.noway rfl))),
  rB 11 (.later (.fig fm) (.bad (.nobase rfl))),
  rB 12 (.later B (.bad (.nobase rfl))),
  rB 12 (.later B (.bad (.nobase rfl))),
  rB 13 (.later B (.bad (.nobase rfl))),
  rB 13 (.later B (.bad (.nobase rfl))),
  rB 10 (.later (.tree t2) (.later (.way rfl) (.bad (.nofig rfl)))),trivial⟩
theorem FK {nm:List Nat->Option O} {x:Nat} (h2:x<=10^50) (h1:1<=x):nq (nk nm) (FE (aq x) x):=by
 have z0:bM nm (u8 "0") (.inr .z):= .num (s:=[.num .z]) (by decide+kernel) rfl (.num (.done _));have B:=eW.expr z0;have Z:eW nm 2 (u8 "w") (.inr (.num om)):= .expr (gy lv_w.up.up.up (by decide) rfl (.num (.done _)));have S:=eW.expr (JV (nm:=nm) (x:=x) (by lia));have ab:=eW.expr (FH (nm:=nm) (x:=x) (by lia) h1);have Y:=eW.expr (C9 (nm:=nm) (x:=x) (by lia) h1);have af:=eW.expr (C9 (nm:=nm) (x:=x+1) (by lia) (by lia));have ad:=eW.expr (FG (nm:=nm) (x:=x+1) (by lia) (by lia));have L:=eW.expr (JX (nm:=nm));have ai:=JZ (nm:=nm) (x:=x+1) (y:=x+24) (by lia) (by lia) (by lia) (by lia);have fm:=J2 (nm:=nm) (x:=x) (by lia);have fQ:=J2 (nm:=nm) (x:=x+600) (by lia);have bP:=FI (nm:=nm) (x:=x+1) (by lia);have bR:=FI (nm:=nm) (x:=x+400) (by lia);have bS:=FI (nm:=nm) (x:=x+300) (by lia);have f0:eW nm 3 (u8 "0") (.inr (.int 0)):= .fig rfl;have f1:eW nm 3 (u8 "1") (.inr (.int 1)):= .fig rfl;have b0:eW nm 6 (u8 "0") (.inr (.int 0)):= .base rfl;have b1:eW nm 6 (u8 "1") (.inr (.int 1)):= .base rfl;have t1:Tr.rdT (u8 "()")=some .z:=by rfl
 have t3:Tr.rdT (u8 "((()))")=some (.c (.c .z .z) .z):=by rfl
 have wM:O.wh x=.c .z x .z:=ycw (by lia);unfold FE;simp only[nq];exact⟨rD 4 (.ok S (.ok ab .nil)) (.minus (by rw[wM];show(0:Int)<1;decide)),
  rD 7 (.ok S (.ok B .nil)) (.rung1 (zE h1)),
  rD 7 (.ok B (.ok S .nil)) (.rung1 rfl),
  rD 7 (.ok Y (.ok Y .nil)) (.rung2 rfl (by rw[O.cmp_self];decide)),
  rD 7 (.ok S (.ok Z .nil)) (.rung1 (zE h1)),
  rD 5 (.ok ab (.ok B .nil)) (.share),
  rD 8 (.ok B (.ok fm .nil)) (.step),
  rD 12 (.ok B (.ok bP .nil)) (.down7 (by lia) (by lia)) (zF rfl ⟨_,rfl⟩ (by lia)),
  rC 12 (.ok B (.ok b1 .nil)),
  rC 12 (.ok Z (.ok b0 .nil)),
  rD 12 (.ok af (.ok bP .nil)) (.down0 (by lia) (by lia) (by show 2<=5;decide) (λz=>by cases z) O.mx_hn) (zF rfl ⟨_,rfl⟩ (by lia)),
  rC 13 (.ok S (.ok b1 .nil)),
  rC 11 (.ok fm (.ok b0 .nil)),
  rC 11 (.ok f0 (.ok b1 .nil)),
  rD 10 (.ok (.tree t1) (.ok (.way rfl) (.ok fm .nil))) (.cut1 (by decide) (by decide) (by lia) rfl),
  rD 10 (.ok (.tree t3) (.ok (.way rfl) (.ok fm .nil))) (.cut1 (by decide) (by decide) (by lia) rfl),
  rD 10 (.ok (.tree t3) (.ok (.way rfl) (.ok fQ .nil))) (.cut8 (s:= .c .z .z) (by decide) (by decide) (by lia) rfl rfl (by show 600<3-1+(x+600)*(2-1);lia)),
  rD 10 (.ok (.tree t3) (.ok (.way rfl) (.ok fQ .nil))) (.cut1 (by decide) (by decide) (by lia) rfl),
  rD 13 (.ok L (.ok bR .nil)) (.worth (by lia) (by lia) (Ch (by lia))) (zF rfl ⟨_,rfl⟩ (by lia)),
  rD 12 (.ok L (.ok bS .nil)) (.down8 (by lia) (by lia)) (zF rfl ⟨_,rfl⟩ (by lia)),
  rD 12 (.ok ad (.ok bP .nil)) (.down0 (by lia) (by lia) (by show 3<=5;decide) (λz=>by cases z) O.mx_hn) (zF rfl ⟨_,rfl⟩ (by lia)),
  rD 10 (.ok (.tree t3) (.ok (.way rfl) (.ok f1 .nil))) (.cut1 (by decide) (by decide) (by decide) rfl),
  rB 1 (.bad (.noexpr ai)),
  rC 13 (.ok B (.ok b0 .nil)),trivial⟩
theorem J3 {n t:List Nat} {x:Nat} (B:aN n=true) (Y:aN t=true) (h2:x<10^60):(FD n (aq x) t).all (λy=>y.1.all (wk 200)&&decide (y.1.length<=4))=true:=by
 have a1:=iW (b2:=200) (eO B) (by decide);have a2:=iW (b2:=200) (eO Y) (by decide);have Z:=iW (b2:=200) (iG h2) (by decide);have L:wk 200 (u8 "w+"++n)=true:=gv (b:=9) (by decide+kernel) (eO B) (by decide);have S:wk 200 (u8 "0"++aq x)=true:=gv (b:=9) (by decide+kernel) (iG h2) (by decide);have a6:wk 200 (u8 "2^25+"++n)=true:=gv (b:=9) (by decide+kernel) (eO B) (by decide);have a7:wk 200 (u8 "(2^25)^"++n)=true:=gv (b:=9) (by decide+kernel) (eO B) (by decide);simp only[FD,all_cons,all_nil,a1,a2,Z,L,S,a6,a7]
 rfl
theorem J4 {x:Nat} (h2:x<=10^50):(FE (aq x) x).all (λy=>y.1.all (wk 200)&&decide (y.1.length<=4))=true:=by
 have Y:=λ(y:Nat) (L:y<=600)=>iG (x:=x+y) (by lia);have B:=λ(y:Nat) (L:y<=600)=>iW (b2:=200) (Y y L) (by decide);have S:=λ(s:String) (hs:wk 9 (u8 s)=true) (y:Nat) (L:y<=600)=>gv (b3:=200) hs (Y y L) (by decide);have b1:=B 0 (by decide);have b2:=B 1 (by decide);have b3:=B 300 (by decide);have b4:=B 400 (by decide);have b5:=B 600 (by decide);have Z:=S "w+" (by decide+kernel) 0 (by decide);have b7:=S "w*" (by decide+kernel) 0 (by decide);have b8:=S "w*" (by decide+kernel) 1 (by decide);have b9:=S "w^w*" (by decide+kernel) 1 (by decide);have c1:wk 200 (aq (x+1)++u8 "^"++aq (x+24))=true:=gv (gv (b2:=9) (Y 1 (by decide)) (by decide+kernel) (ycx _)) (Y 24 (by decide)) (by decide);rw[Nat.add_zero] at b1 Z b7;simp only[FE,all_cons,all_nil,b1,b2,b3,b4,b5,Z,b7,b8,b9,c1]
 rfl
theorem zG:∀ws:List (List Nat),(∀p,p∈ws->p.length<=200)->(ie 32 ws).length<=201*ws.length
 | [],_=>zero_le _
 | [p],h=>by have:=h p yby;show p.length<=201;lia
 | p::q::ws,h=>by
   have h1:=h p yby;have h2:=zG (q::ws) λx B=>h x (ybx _ B);unfold ie;simp only[length_append,length_cons] at*;lia
theorem zH (h:nq (nk nm) L) (hw:L.all (λy=>y.1.all (wk 200)&&decide (y.1.length<=4))=true):∀y,y∈L->nD nm (ie 32 y.1) (.inl y.2)/\(ie 32 y.1).length<=5000:=λy B=>by
 have h1:=all_eq_true.mp hw y B;rw[Bool.and_eq_true] at h1;refine⟨(h.get y B).say h1.1,?_⟩;have:=zG y.1 λp S=>(wk_iff.mp (all_eq_true.mp h1.1 p S)).2.2;have:=of_decide_eq_true h1.2;lia
def TR (t:WE) (τ:bV) (l:List Nat) (n:Nat):Prop:=l.length<=n/\∀{G:Gp} {q:WK},q (.str (aF l)) G->t τ G q
section
variable {t:WA} {τ:bV} {a b:WE} {l m:List Nat} {n k i:Nat} {ys:List W} {G0:Gp}
theorem TR.va (h:τ[i]?=some (some (.str (aF l)))) (b:l.length<=n):TR (dE i) τ l n:=⟨b,λg=>by unfold dE;rw[h];exact g⟩
theorem TR.ct {s:String}:TR (wC (.str (Str.ofString s))) τ (u8 s) (u8 s).length:=⟨ycx _,λg=>g⟩
theorem TR.ap (x:TR a τ l n) (y:TR b τ m k) (h:Nat.ble (n+k) 100000=true):TR (sM fS a b) τ (l++m) (n+k):=by
 have e:(l++m).length<=n+k:=by rw[length_append];exact Nat.add_le_add x.1 y.1
 refine⟨e,λ{G q} g=>x.2 (y.2 (G:=G) ?_)⟩;rw[NG,dh,aC,aC,←length_append];exact⟨ycy e (le_of_ble_eq_true h),g⟩
theorem TR.fg {x:Nat} {z:Int} (h:τ[i]?=some (some (.int (x:Int)))) (L:x<=10^50) (B:0<=z) (S:z<=600):TR (FX vK (dW (sM fS (dE i) (wC (.int z))) jx)) τ (aq (x+z.toNat)) 60:=by
 have e:x+z.toNat<10^60:=by lia
 refine⟨dL e,λ{G q} g=>?_⟩;unfold FX dW sM dE;rw[h];refine⟨x+z.toNat,?_,Nat.lt_trans e (by decide+kernel),g⟩;lia
theorem RR.ro (x:TR a τ l n) (r:RR G0 t τ ys):RR G0 (dW (D7 (dW a (dW (wC (.int z)) jx))) t) τ (.tup [.str (aF l),.int z]::ys):=λ{G q} le g=>x.2 ⟨le_of_ble_eq_true rfl,r (G:=G) (q:=λxs B=>q (.tup [.str (aF l),.int z]::xs) B) le g⟩
theorem RR.te (x:TR a τ l n) (r:RR G0 t τ ys):RR G0 (dW a t) τ (.str (aF l)::ys):=RR.el (λ_ g=>x.2 g) r
end
local macro_rules | `(tactic| walk_at "rr") => `(tactic| repeat' first | exact RR.ni | refine' RR.ro ?_ ?_ | exact TR.ct | exact TR.va rfl (by assumption) | refine' TR.ap ?_ ?_ ?_ | exact TR.fg rfl (by assumption) (by decide) (by decide) | refine' RR.te ?_ ?_ | exact rfl)
noncomputable def FL (y:List (List Nat)×Nat):W:= .tup [.str (aF (ie 32 y.1)),.int (y.2:Int)]
def J5:aX:=λws G q _=>∃n m t:List Nat,ws=[.str (aF n),.str (aF m),.str (aF t)]/\n.length<=60/\m.length<=60/\t.length<=60/\∀p G',am G G'->G' p=some (.lst ((FD n m t).map FL))->q (.ref p) G'
theorem Nj (F:bf K "_law_no_words" "_law_no_words" (aG 136) f fd):bo 1 f fd ["_law_name_here","_law_many","_law_told"] J5:=by
 refine dR F (N:=["_law_name_here","_law_many","_law_told","_law_some"]) λ_ _ _ _ _ _ nd hr=>?_;apply al
 ·grind
 ·rintro ws G q e ⟨n,m,t,rfl,hn,hm,S,L⟩;refine M5 (am.refl _) (by walk_at "rr") rfl λp1 Y Z g1=>?_
  iterate 11 refine Ga (by assumption) (by assumption) (by walk_at "rr") rfl rfl λ_ _ _ _=>?_
  refine M6 (by assumption) (by assumption) (by walk_at "rr") rfl rfl λp B _ l g=>⟨_,am.refl _,L p B l ?_⟩;rw[g];simp only[FD,append_assoc]
  rfl
def J6:aX:=λws G q _=>∃(m:List Nat) (x:Nat),ws=[.str (aF m),.int (x:Int)]/\m.length<=60/\x<=10^50/\∀p G',am G G'->G' p=some (.lst ((FE m x).map FL))->q (.ref p) G'
theorem Nk (F:bf K "_law_no_deeds" "_law_no_deeds" (aG 137) f fd) (S:mg "str"=none):bo 1 f fd ["_law_many","_law_number"] J6:=by
 refine dR F (N:=["_law_many","_law_number","_law_some"]) λ_ _ _ _ _ _ nd hr=>?_;apply al
 ·grind
 ·rintro ws G q e ⟨m,x,rfl,hm,hx,L⟩;refine M5 (am.refl _) (by walk_at "rr") rfl λp1 Y Z g1=>?_
  iterate 7 refine Ga (by assumption) (by assumption) (by walk_at "rr") rfl rfl λ_ _ _ _=>?_
  refine M6 (by assumption) (by assumption) (by walk_at "rr") rfl rfl λp B _ l g=>⟨_,am.refl _,L p B l ?_⟩;rw[g];simp only[FE,append_assoc]
  rfl
def J7:aX:=λws G q _=>∃(n:Nat) (m:List Nat),ws=[.int (n:Int),.str (aF m)]/\m.length<=60/\∀v G',am G G'->(F9 G' v∨∃l,v=.str (aF l)/\l∈Fv m)->q v G'
theorem Nl (F:bf K "_law_no_rows" "_law_no_rows" (aG 135) f fd):bo 1 f fd ["_law_cell","_law_many"] J7:=by
 refine dR F (N:=["_law_cell","_law_many","_law_some"]) λ_ _ _ _ _ _ nd hr=>?_;apply al
 ·grind
 ·rintro ws G q e ⟨n,m,rfl,hm,hq⟩;have c1:Str.ofString "tell "=aF [116,101,108,108,32]:=rfl;have c2:Str.ofString " "=aF [32]:=rfl;nofun;intro p1 af;simp only[c1,c2,dh,aC,length_append,length_cons,length_nil];refine⟨by lia,by lia,by lia,λp2 ab=>?_⟩;refine Cc ab λG1 S g1=>?_;have l1:=am.new (g:=GO.lst [W.str (Str.ofString "tell"),W.str (Str.ofString "w")]) af;have gp:=S _ _ (aa (G:=G) (a:=p1) (g:=GO.lst [W.str (Str.ofString "tell"),W.str (Str.ofString "w")]))
  replace S:=l1.trans S
  subst hU;refine Ga (am.refl _) g1 (by walk_at "rr") rfl rfl λp3 G2 l2 g2=>?_;refine Ga l2 g2 (by walk_at "rr") rfl rfl λp4 G3 l3 g3=>?_;refine Ga l3 g3 (by walk_at "rr") rfl rfl λp5 G4 l4 g4=>?_;rfl';have ad:=S.trans l4;have gq:=l4 _ _ gp;have Z:∃L,G4 p5=some (.lst L)/\L=[W.non,W.int n,W.ref p1,W.tup [W.str (Str.ofString "tell w")]]++(Fv m).map λl=>W.str (aF l):=by
   refine⟨_,g4,?_⟩
   rfl
  obtain⟨L,gL,Z⟩:=Z;have Y:L.length=33:=by rw[Z];rfl
  have hi:n%33<L.length:=by rw[Y];exact Nat.mod_lt _ (by decide)
  refine⟨L,L[n%33],gL,?_,am.done (hq _ G4 ad ?_)⟩
  ·rw[show((n:Int)%33)=((n%33:Nat):Int) from by lia];exact aA (ycz hi)
  ·have B:L[n%33]∈L:=getElem_mem hi;generalize L[n%33]=v at B ⊢;rw[Z] at B;rcases mem_append.mp B with h | h
   ·left
    simp only[mem_cons,not_mem_nil,or_false] at h;rcases h with rfl | rfl | rfl | rfl
    ·exact⟨_,rfl,rfl⟩
    ·exact⟨_,rfl,rfl⟩
    ·refine⟨"list",?_,rfl⟩;unfold kO;dsimp only;rw[gq]
    ·exact⟨_,rfl,rfl⟩
   ·obtain⟨l,hl,rfl⟩:=mem_map.mp h;exact .inr ⟨l,rfl,hl⟩
theorem FM (L:m.length<=60):∀l,l∈Fv m->l.length<=5000:=λl B=>by
 have h:(Fv m).all (λl=>decide (l.length<=5000))=true:=by
  simp[Fv];lia
 exact of_decide_eq_true (all_eq_true.mp h l B)
theorem Nn (n m t:List Nat):(FD n m t).all (λy=>decide (y.2<=9))=true:=rfl
theorem No (m:List Nat) (x:Nat):(FE m x).all (λy=>decide (y.2<=9))=true:=rfl
theorem nv {R:W->Prop} (c:Int) {n:Int} (Y:n=(xs.length:Int)) (h0:0<xs.length) (L:∀x,x∈xs->R x):∃x,dQ xs (c%n)=some x/\R x:=by
 have h1:=Int.emod_nonneg c (b:=n) (by lia);have h2:=Int.emod_lt_of_pos c (b:=n) (by lia);obtain⟨j,S⟩:∃j:Nat,c%n=(j:Int):=⟨(c%n).toNat,(Int.toNat_of_nonneg h1).symm⟩;have B:j<xs.length:=by lia
 rw[S];exact⟨xs[j],aA (ycz B),L _ (getElem_mem B)⟩
def J8 (nm:List Nat->Option O) (G:Gp) (v:W) (k:Nat):Prop:=k<=9/\((F9 G v/\k=5)∨∃l,v=.str (aF l)/\l.length<=5000/\nD nm l (.inl k))
def Ka:aX:=λws G q _=>∃(n t:List Nat) (c:Nat) (nm:List Nat->Option O),ws=[.str (aF n),.str (aF t),.int (c:Int)]/\aN n=true/\aN t=true/\(∀l,aN l=false->nm l=none)/\nm n=none/\∀(v:W) (k:Nat) G',am G G'->J8 nm G' v k->q (.tup [v,.int (k:Int)]) G'
theorem Np (F:bf K "_law_bad" "_law_bad" (aG 138) f fd) (F1:bu "_law_no_rows" ["_law_cell","_law_many"] 1 J7) (F2:bu "_law_no_words" ["_law_name_here","_law_many","_law_told"] 1 J5) (F3:bu "_law_no_deeds" ["_law_many","_law_number"] 1 J6) (ms:mg "str"=none) (ml:mg "len"=none):bo 2 f fd ["_law_name_here","_law_told","_law_cell"] Ka:=by
 refine dR F (N:=["_law_name_here","_law_told","_law_cell","_law_number","_law_many","_law_some"]) λ_ _ _ _ _ _ nd hr=>?_;apply al
 ·grind
 ·rintro ws G q e ⟨n,t,c,nm,rfl,hn,ht,hx,aj,hq⟩;nofun;intro p1 ad;refine jO aa (oJ (lo:=9) (hi:=100000000000000000000000000000000000000000000000001) (by lia) (by lia) λm ar as=>?_);have B:=am.new (g:=GO.lst [W.int 9,W.int 100000000000000000000000000000000000000000000000000]) ad;generalize av G p1 (GO.lst [W.int 9,W.int 100000000000000000000000000000000000000000000000000])=G1 at B ⊢;rfl';obtain⟨x,af,Z,Y⟩:∃x:Nat,1+(c:Int)/99%m=(x:Int)/\1<=x/\x<=10^50:=by
   have:=iz (i:=(c:Int)/99) (j:=m) (by lia);exact⟨(1+(c:Int)/99%m).toNat,by lia,by lia,by lia⟩
  rw[af];have h6:x<10^60:=by lia
  have hf:=dL h6;have ab:32∉aq x:=(wk_iff.mp (iG h6)).2.1;refine⟨by lia,?_⟩;cutsat;refine⟨x,rfl,Nat.lt_of_le_of_lt Y (by decide+kernel),?_⟩;cutsat;refine bY (λ_=>?_) λ_=>?_
  ·refine⟨c/3,aq x,by rw[show((c/3:Nat):Int)=(c:Int)/3 by lia],hf,λv G2 S hv=>am.done (hq v 5 G2 (B.trans S) ⟨by decide,?_⟩)⟩;rcases hv with hv | ⟨l,rfl,hl⟩
   ·exact .inl ⟨hv,rfl⟩
   ·exact .inr ⟨l,rfl,FM hf l hl,.row (Fw ab l hl)⟩
  have n8:=(aN.len hn).2.1;have t8:=(aN.len ht).2.1;cutsat;refine⟨n,aq x,t,rfl,by lia,hf,by lia,λp2 G2 S g2=>?_⟩;subst hU;refine au λU hU=>?_;have dN:∀(L:List (List (List Nat)×Nat)) (p:Addr) (G2:Gp),am G G2->G2 p=some (.lst (L.map FL))->0<L.length->L.length<=100->(L.all λy=>decide (y.2<=9))=true->nq (nk nm) L->L.all (λy=>y.1.all (wk 200)&&decide (y.1.length<=4))=true->U { nx:=λx G1=>∃G0,am G0 G1/\q W.non G0,rt:=λw G1=>∃G0,am G0 G1/\q w G0 } [some (.str (aF n)),some (.str (aF t)),some (.int c),some (.int x),some (.str (aF (aq x))),some (.ref p)] G2:=λL p G2 le g h0 h1 h9 hA hw=>by
   subst hU;rfl';refine⟨_,.lst g,by rw[length_map];lia,?_⟩;refine jO g (nv _ rfl (by rw[length_map];exact h0) λv hv=>?_);obtain⟨y,hy,rfl⟩:=mem_map.mp hv;obtain⟨s1,s2⟩:=zH hA hw y hy;exact am.done (hq _ y.2 G2 le ⟨of_decide_eq_true (all_eq_true.mp h9 y hy),.inr ⟨_,rfl,s2,s1⟩⟩)
  rfl';refine bY (λ_=>⟨aq x,x,rfl,hf,Y,λp3 G3 ai g3=>dN _ p3 G3 ((B.trans S).trans ai) g3 (Nat.succ_pos _) (le_of_ble_eq_true rfl) (No _ _) (FK Y Z) (J4 Y)⟩) λ_=>dN _ p2 G2 (B.trans S) g2 (Nat.succ_pos _) (le_of_ble_eq_true rfl) (Nn _ _ _) (FJ hx hn aj ht h6 Z) (J3 hn ht h6)
theorem lH (kvs:List (aW×W)) (k:aW) (v:W):(cy kvs k v).map (·.1)=if (kvs.any λB=>decide (B.1=k))=true then kvs.map (·.1) else kvs.map (·.1)++[k]:=by
 unfold cy;split
 ·rw[map_map];apply List.map_congr_left;intro x _;show(if x.1=k then (x.1,v) else x).1=x.1;split<;> rfl
 ·rw[map_append]
  rfl
theorem Ci (k:aW) (v:W) (h:(kvs.map (·.1)).Nodup):((cy kvs k v).map (·.1)).Nodup:=by
 rw[lH];split
 ·exact h
 ·rename_i Y;rw[List.nodup_append];refine⟨h,by simp,λx L y S z=>Y ?_⟩;rw[mem_singleton.mp S] at z;obtain⟨u,B,rfl⟩:=mem_map.mp L;exact List.any_eq_true.mpr ⟨u,B,ydz z⟩
theorem sA:∀{kvs:List (aW×W)},(kvs.map (·.1)).Nodup->∀p,p∈kvs->cg kvs p.1=some p.2
 | [],_,p,h=>by cases h
 | x::kvs,B,p,h=>by
   rw[map_cons,nodup_cons] at B;unfold cg;rw[List.find?_cons];rcases mem_cons.mp h with rfl | h
   ·rw[ydz rfl]
    rfl
   ·rw[ydy (λz:x.1=p.1=>B.1 (by rw[z];exact mem_map.mpr ⟨p,h,rfl⟩))];exact sA B.2 p h
structure zS (kvs:List (aW×W)):Prop where
 nd:(kvs.map (·.1)).Nodup
 all:∀x,x∈kvs->∃l o,x.1=.inr (aF l)/\aN l=true/\x.2=.tup (ag o)/\kC (10^52) o
theorem zS.put (h:zS kvs) (S:aN l=true) (L:kC (10^52) o):zS (cy kvs (.inr (aF l)) (.tup (ag o))):=by
 refine⟨Ci _ _ h.nd,λx B=>?_⟩;unfold cy at B;split at B
 ·obtain⟨y,Y,rfl⟩:=mem_map.mp B;split
  ·rename_i e;exact⟨l,o,e,S,rfl,L⟩
  ·exact h.all y Y
 ·rcases mem_append.mp B with B | B
  ·exact h.all x B
  ·rw[mem_singleton.mp B];exact⟨l,o,rfl,S,rfl,L⟩
theorem zS.nm (h:zS kvs):∃nm,su kvs nm/\(∀l b,nm l=some b->kC (10^52) b)/\∀l,aN l=false->nm l=none:=by
 have h2:∀l:List Nat,∃o:Option O,(cg kvs (.inr (aF l))=o.map λb=> .tup (ag b))/\(∀b,o=some b->kC (10^52) b)/\(aN l=false->o=none):=λl=>by
  unfold cg;cases e:kvs.find? λB=>decide (B.1=.inr (aF l)) with
  | none=>exact⟨none,rfl,(λb z=>by cases z),λ_=>rfl⟩
  | some x=>
    obtain⟨m,o,Z,hn,S,Y⟩:=h.all x (List.mem_of_find?_eq_some e);have L:x.1=.inr (aF l):=of_decide_eq_true (List.find?_some (p:=λB:aW×W=>decide (B.1=.inr (aF l))) e);rw[Z] at L;have e3:=txS_inj.mp (Sum.inr.inj L);exact⟨some o,congrArg some S,(λb z=>by cases z;exact Y),λz=>by rw[←e3,hn] at z;cases z⟩
 exact⟨λl=>(h2 l).choose,λl=>(h2 l).choose_spec.1,λl b=>(h2 l).choose_spec.2.1 b,λl=>(h2 l).choose_spec.2.2⟩
theorem zS.at (h:zS kvs) {nm:List Nat->Option O} (Y:su kvs nm) {x:aW×W} (B:x∈kvs):∃l o,x.1=.inr (aF l)/\aN l=true/\cg kvs (.inr (aF l))=some (.tup (ag o))/\nm l=some o/\kC (10^52) o:=by
 obtain⟨l,o,e,Z,S,L⟩:=h.all x B;have h1:=sA h.nd x B;rw[e,S] at h1;have h2:=Y l;rw[h1] at h2;cases hb:nm l with
 | none=>rw[hb] at h2;cases h2
 | some b=>
   rw[hb] at h2;have:o=b:=oF (W.tup.inj (Option.some.inj h2));subst this;exact⟨l,o,e,Z,h1,hb,L⟩
theorem kC.ft (h:kC (10^52) o):y7 o:=⟨h.1.nf,by have:=h.2;lia,Int.lt_of_le_of_lt h.1.mx (by decide+kernel),by have:=O.dp_le_size o;have:=h.2;lia⟩
theorem kC.sa (h:kC (10^52) o):nB o/\o.dp<13:=⟨⟨h.1.nf,by have:=h.2;lia,Int.lt_of_le_of_lt h.1.mx (by decide+kernel)⟩,by have:=O.dp_le_size o;have:=h.2;lia⟩
theorem nw (k:Nat) (B:0<k):∀a:O,a.NF->(∀n:Int,n<=O.mx a->n.toNat<10^k)->(bD aq a).length<=(k+7)*a.size+1
 | .z,_,_=>by rw[show bD aq .z=[48] from rfl];simp
 | .c e n r,S,L=>by
   have h1:=nw k B e S.1 λm h=>L m (ydv h O.mx_he);have h2:=nw k B r S.2.2.2 λm h=>L m (ydv h O.mx_hr);have h3:=jV B (L n O.mx_hn);have h4:=uE e (bD aq e);have h5:(cB aq e n (bD aq e)).length<=(bD aq e).length+(k+5):=by
    unfold cB;split
    ·lia
    ·rename_i Z;rw[jj Z];split
     ·simp only[length_cons];lia
     ·simp only[length_append,length_cons];lia
   have h6:(cP aq r).length<=(bD aq r).length+1:=by
    cases r with
    | z=>simp[cP]
    | c e' n' r'=>simp[cP]
   rw[fR,length_append];have Y:O.size (.c e n r)=1+O.size e+O.size r:=rfl;rw[Y,Nat.mul_add,Nat.mul_add];lia
theorem FN {a:O} (h:kC (10^52) a):(bD aq a).length<=721:=by
 have:=nw 53 (by decide) a h.1.nf λn B=>by
  have h1:n<=10^52:=ydv B h.1.mx;have h2:(10:Int)^52<((10^53:Nat):Int):=by decide
  lia
 have:=h.2;lia
theorem FO {x:Nat}:32∉aq x:=λz=>absurd (all_eq_true.mp (fu x x (ycx _)).1 32 z) (by decide)
theorem zI:∀a:O,32∉bD aq a
 | .z=>by decide
 | .c e n r=>by
   have h1:=zI e;have h2:=zI r;have B:32∉aq n.toNat:=FO;have Y:32∉fB e (bD aq e):=by
    unfold fB;split
    ·simp
    ·split<;> simp[h1]
   have L:32∉cB aq e n (bD aq e):=by
    unfold cB;split
    ·exact B
    ·rename_i S;rw[jj S];split<;> simp[B,Y]
   rw[fR,mem_append];rintro(h | h)
   ·exact L h
   ·cases r with
    | z=>cases h
    | c Z n' r'=>exact h2 ((mem_cons.mp h).resolve_left (by decide))
theorem Kb:∀a:O,bD aq a≠[]
 | .z=>by decide
 | .c e n r=>by
   rw[fR];refine λz=>?_;have h:=(List.append_eq_nil_iff.mp z).1;have h2:=(fu n.toNat n.toNat (ycx _)).2.2.2;unfold cB at h;split at h
   ·exact h2 h
   ·rename_i B;rw[jj B] at h;split at h<;> cases h
theorem Kc {a:O} (h:kC (10^52) a):wk 800 (bD aq a)=true:=wk_iff.mpr ⟨Kb a,zI a,by have:=FN h;lia⟩
theorem sB (nm:List Nat->Option O):∀{s:List bx},mh s=[]->gj nm s=some s
 | [],_=>rfl
 | .num a::s,h=>by
   unfold gj;rw[sB nm (s:=s) h]
   rfl
 | .op y::s,h=>by
   unfold gj;rw[sB nm (s:=s) h]
   rfl
 | .nam l::s,h=>by cases h
theorem uK {e:O} {n:Int} {s:List bx} (h:mh s=[]):mh (ku e n s)=[]:=by
 have B:mh (l6 e s)=[]:=by
  unfold l6;split
  ·rfl
  ·show mh (s++[.op 94])=[];rw[eI,h]
   rfl
 unfold ku;split
 ·rfl
 ·split
  ·exact B
  ·rw[eI,B]
   rfl
mutual
theorem sC:∀a:O,mh (iR a)=[]
 | .z=>by unfold iR;rfl
 | .c e n r=>by unfold iR;rw[eI,uK (sC e),zJ r];rfl
theorem zJ:∀a:O,mh (vw a)=[]
 | .z=>by unfold vw;rfl
 | .c e n r=>by unfold vw;rw[eI,uK (sC e)];exact zJ r
end
theorem Kd {nm:List Nat->Option O} {a:O} (h:kC (10^52) a):bM nm (bD aq a) (.inr a):=by
 have B:rK a:=⟨h.1.nf,h.2,h.1.mx⟩;refine .num (s:=iR a) ?_ (sB nm ?_) (mo a h.1.nf h.ft.2).all
 ·unfold rdT;rw[ycv (by have:=FN h;lia)];have:=rJ fgOk a 20 [] (by have:=rL a;have:=B.2.1;lia) B.tm Nx.nil;rw[append_nil] at this;exact xZ this
 ·exact sC a
theorem ny (hw:(L::ls).all (wk b)=true) (f:kA L=some js) (Z:ls.length=js.length) (g:dF nm js ls (.inr B)) (hb:cm js B=true) (w:Cb L=some i) (d:Dd i B (.inr o)):nD nm (ie 32 (L::ls)) (.inr (i,B,o)):=by
 obtain⟨S,Y⟩:=zB hw rfl f Z;exact .done S Y f g hb w d
theorem uL {nm:List Nat->Option O} {t:List Nat} {a:O} (B:aN l=true) (S:wk 800 t=true) (hr:bM nm t (.inr a)) (h:nB a) (L:a.dp<13):nD nm (u8 "let "++l++u8 " "++t) (.inr (0,[.nam l,.num a],bD aq a)):=by
 rw[show u8 "let "++l++u8 " "++t=ie 32 [u8 "let",l,t] from by rw[append_assoc,append_assoc];rfl];refine ny (b:=800) ?_ (js:=[0,2]) (by decide+kernel) rfl (.ok (.name B) (.ok (.expr hr) .nil)) rfl (by decide+kernel) (.lett h L);simp only[all_cons,all_nil,S,iW (b2:=800) (eO B) (by decide)]
 rfl
theorem pH {nm:List Nat->Option O} {a:O} (B:aN l=true) (S:nm l=some a) (h:nB a) (L:a.dp<13):nD nm (u8 "tell "++l) (.inr (1,[.num a],bD aq a)):=by
 rw[show u8 "tell "++l=ie 32 [u8 "tell",l] from rfl];refine ny (b:=800) ?_ (js:=[2]) (by decide+kernel) rfl (.ok (.expr (.num (s:=[.nam l]) (s':=[.num a]) (uF (v7 B).up.up.up (by have:=(aN.len B).2.1;lia)) ?_ (.num (.done _)))) .nil) rfl (by decide+kernel) (.tell h L)
 ·simp only[all_cons,all_nil,iW (b2:=800) (eO B) (by decide)]
  rfl
 ·unfold gj;rw[S]
  rfl
theorem zK {nm:List Nat->Option O} {a:O} (L:aN l=true) (B:nm l=some a):nD nm (u8 "drop "++l) (.inr (2,[.nam l],[111,107])):=by
 rw[show u8 "drop "++l=ie 32 [u8 "drop",l] from rfl];refine ny (b:=800) ?_ (js:=[1]) (by decide+kernel) rfl (.ok (.kept B) .nil) rfl (by decide+kernel) .drop;simp only[all_cons,all_nil,iW (b2:=800) (eO L) (by decide)]
 rfl
theorem FP (B:aN l=true) (L:nm l=none):nD nm (u8 "tell "++l) (.inl 3):=by
 rw[show u8 "tell "++l=ie 32 [u8 "tell",l] from rfl];refine(rB (ls:=[l]) 1 (.bad (.noexpr (zD L (v7 B).up.up.up (by have:=(aN.len B).2.1;lia) yby)))).say (b:=800) ?_;simp only[all_cons,all_nil,iW (b2:=800) (eO B) (by decide)]
 rfl
theorem eP {x y:Str} {a b:Addr} {ws us:List W} (Z:x=y) (Y:G a=some (.lst ws)) (hb:G b=some (.lst us)) (L:W.flats ws=true) (B:W.flats us=true) (hd:W.deps ws<=8) (S:W.eqs ws us=true):vR G (.tup [.str x,.ref a]) (.tup [.str y,.ref b]):=
 ⟨_,_,_,_,rfl,rfl,⟨rfl,rfl,zero_le _,by rw[Z,mX];exact ydz rfl⟩,.lst Y hb L B hd S⟩
theorem kB.le {s d:Addr} {nm:List Nat->Option O} (h:kB C G s d kvs nm) (L:B s=some (.ins C [("kept",.ref d)])) (S:B d=some (.dic kvs)):kB C B s d kvs nm:=⟨L,S,h.ok,h.ft,h.len⟩
def Ke (C:Addr):aX:=λws G q _=>∃(s d dm:Addr) (kvs:List (aW×W)) (nm:List Nat->Option O),ws=[.ref s,.ref dm]/\kB C G s d kvs nm/\G dm=some (.dic kvs)/\dm≠d/\zS kvs/\∀G',am G G'->q (.bl true) G'
theorem Nq (F:bf K "_law_kept" "_law_kept" (aG 139) f fd) (F1:bu "_law_said" ["_law_desk","_law_line"] 95 (zz C)) (F2:bu "_law_shown" ["_law_number"] 13 (gW 13)):bo 96 f fd ["_law_desk","_law_model"] (Ke C):=by
 refine dR F (N:=["_law_desk","_law_model","_law_name_here"]) λ_ _ _ _ _ _ nd hr=>?_;apply al
 ·refine' ac (jf (cK PassesOwn.never rfl (mH 1 rfl (by first | exact Or.inl rfl | exact Or.inr (Or.inl rfl) | exact Or.inr (Or.inr rfl))) ?tg (ak (a9 (cq (yU hr) ?x ?y) ?r aM)))) ?s2
  case tg=>walk_at "Qg"
  case x=>ac_nf
  case y=>ac_nf
  case r=>grind
  case s2=>grind
 ·rintro ws G q e ⟨s1,d,dm,kvs,nm,rfl,hD,hm,ab,hK,hq⟩;have af:s1≠dm:=λz=>by have:=hD.hs;rw[z,hm] at this;cases this
  nofun;refine⟨dm,kvs,hm,kvs,hm,λo us=>?_⟩;refine a8 (λws τ G'=>∃(k2:List (aW×W)) (t2:Option W),ws=k2.map (λp=>kW p.1)/\(∀x,x∈k2->x∈kvs)/\τ=[some (.ref s1),some (.ref dm),t2]/\G' dm=some (.fdc o us kvs)/\(∀a g,a≠dm->G a=some g->G' a=some g)) ?_ ?_ _ _ _
   ⟨kvs,none,rfl,λx h=>h,rfl,aa,λa g h1 h2=>by rw[ao h1];exact h2⟩
  ·rintro τ G' ⟨k2,t2,hw,Z,rfl,gd,B⟩;refine⟨gd,o,us,kvs,gd,?_⟩;subst hU;rfl';refine am.done (hq _ λa g h=>?_)
   by_cases z:a=dm
   ·subst z;rw[aa];rw[hm] at h;exact h
   ·rw[ao z];exact B a g z h
  ·rintro w1 ws τ G' kk ⟨k2,t2,hw,Z,rfl,gd,B⟩ hk;cases k2 with
   | nil=>cases hw
   | cons x k2=>
     cases hw;refine⟨gd,?_⟩;obtain⟨l,b,e1,hl,hv,hn,hf⟩:=hK.at hD.ok (Z x yby);have aj:=(aN.len hl).2.1;dsimp only;rw[e1];unfold kW;rfl';have k5:(u8 "tell ").length=5:=rfl;simp only[←kg,dh,aC,k5];refine⟨by lia,s1,d,_,kvs,nm,rfl,hD.le (B _ _ af hD.hs) (B _ _ (Ne.symm ab) hD.hd),.inr ⟨_,_,rfl,by rw[length_append,k5];lia,pH hl hn hf.sa.1 hf.sa.2,(λk z=>by cases z),λi ts t z G1 p1 L Y ai=>?_⟩⟩;cases z;have ad:=L _ _ gd;rw[show C6 kvs 1 [.num b]=kvs from rfl,ji (L _ _ (B _ _ (Ne.symm ab) hD.hd))];refine⟨kvs,_,.inr ⟨o,us,ah ad Y⟩,hv,b,rfl,hf.sa.1,hf.sa.2,by decide,λp2 S=>⟨eP rfl (ah aa S) aa rfl rfl (by decide) rfl,?_⟩⟩;dsimp only;rw[ycw (by decide)];exact hk _ _ ⟨k2,_,rfl,λy hy=>Z y (ybx _ hy),rfl,ah (ah ad Y) S,λa g h1 h2=>ah (ah (L _ _ (B a g h1 h2)) Y) S⟩
theorem pI {k:aW} (h:cg kvs k=none):(kvs.any λB=>decide (B.1=k))=false:=by
 unfold cg at h;rw[Option.map_eq_none_iff,List.find?_eq_none] at h;exact List.any_eq_false.mpr h
theorem nz {k:aW} (h:cg kvs k=none) (v:W):cy kvs k v=kvs++[(k,v)]:=by
 unfold cy;rw[pI h]
 rfl
theorem Cj {k:aW} (h:cg kvs k=none) (v:W):oZ (cy kvs k v) k=kvs:=by
 rw[nz h];unfold oZ;rw[List.filter_append,List.filter_eq_self.mpr λx B=>?_]
 ·rw[filter_cons,ydy (λz=>z rfl)];exact append_nil kvs
 ·have:=List.any_eq_false.mp (pI h) x B;exact ydz λz=>this (ydz z)
theorem FQ (h:su kvs nm) (L:nm l=none) (o:O):su (cy kvs (.inr (aF l)) (.tup (ag o))) (λm=>if m=l then some o else nm m):=λm=>by
 have h0:cg kvs (.inr (aF l))=none:=by rw[h l,L];rfl
 have B:=h m;rw[nz h0];unfold cg at B h0 ⊢;dsimp only;rw[List.find?_append]
 by_cases e:m=l
 ·subst e;rw[ycv rfl,Option.map_eq_none_iff.mp h0,Option.none_or,List.find?_cons,ydz rfl]
  rfl
 ·rw[ycw e,List.find?_cons,ydy (λz:(Sum.inr (aF l):aW)=.inr (aF m)=>e (txS_inj.mp (Sum.inr.inj z)).symm),List.find?_nil,Option.or_none];exact B
noncomputable def kj:O:= .c .z 6 .z
theorem six_ok:kC (10^52) kj:=⟨⟨⟨trivial,by decide,trivial,trivial⟩,by decide,by decide⟩,by decide⟩
theorem Kf:bM nm (u8 "5+1") (.inr kj):= .num (s:=[.num (O.wh 5),.num (O.wh 1),.op 43]) (by decide+kernel) rfl (.num (.num (.op (.add ⟨by decide,by decide+kernel,by decide⟩) (.done _))))
theorem zL:bD aq kj=[54]:=by decide+kernel
theorem eQ {d a:Addr} {u g:GO} {v:GO} (B:G p=none) (L:a≠d) (h:G a=some g):av (av G d u) p v a=some g:=by
 rw[ao (λz=>by rw[z,B] at h;cases h),ao L];exact h
theorem zM {d:Addr} {u v:GO} (h:d≠p):av (av G d u) p v d=some u:=by rw[ao h,aa]
def Kg (C:Addr):aX:=λws G q _=>∃(s d:Addr) (l:List Nat) (kvs:List (aW×W)) (nm:List Nat->Option O),ws=[.ref s,.str (aF l)]/\kB C G s d kvs nm/\kvs.length<=10/\aN l=true/\nm l=none/\∀G',am G G'->q (.bl true) G'
theorem Nt (F:bf K "_law_let_and_dropped" "_law_let_and_dropped" (aG 140) f fd) (F1:bu "_law_said" ["_law_desk","_law_line"] 95 (zz C)) (mr:mg "range"=none):bo 96 f fd ["_law_desk","_law_name_here"] (Kg C):=by
 refine dR F (N:=["_law_desk","_law_name_here","_law_known"]) λ_ _ _ _ _ _ nd hr=>?_;apply al
 ·refine' ac ?s1 (ac ?s2 (ac (a9 (cq (Fa hr) ?x3 ?y3) ?r3 aM) (ak (bW (dM (IB hr) ?x4 ?y4)))))
  case s1=>eq_refl
  case s2=>eq_refl
  case x3=>ac_nf
  case y3=>ac_nf
  case r3=>grind
  case x4=>ac_nf
  case y4=>ac_nf
 ·rintro ws G q e ⟨s1,d,l,kvs,nm,rfl,hD,hk,hl,hn,hq⟩;have b7:=(aN.len hl).2.1;have sd:s1≠d:=λz=>by have:=hD.hs;rw[z,hD.hd] at this;cases this
  have v0:cg kvs (.inr (aF l))=none:=by rw[hD.ok l,hn];rfl
  nofun;have k1:(u8 "let ").length=4:=rfl;have k2:(u8 " 5+1").length=4:=rfl;have k3:(u8 "tell ").length=5:=rfl;have k4:(u8 "drop ").length=5:=rfl;have sl:nD nm (u8 "let "++l++u8 " 5+1") (.inr (0,[.nam l,.num kj],bD aq kj)):=by
   rw[show u8 " 5+1"=u8 " "++u8 "5+1" from rfl,←append_assoc];exact uL hl (by decide+kernel) Kf six_ok.sa.1 (by decide)
  simp only[←kg,dh,aC,length_append,k1,k2,k3];refine⟨by lia,by lia,s1,d,_,kvs,nm,rfl,hD,.inr ⟨_,_,rfl,by simp only[length_append,k1,k2];lia,sl,(λk z=>by cases z),λi ts t z G1 L az a0 a2=>?_⟩⟩;cases z;rw[show C6 kvs 0 [.nam l,.num kj]=cy kvs (.inr (aF l)) (.tup (ag kj)) from rfl,zL];have gA:∀{a:Addr} {g:GO},a≠d->G a=some g->av (av G1 d (.dic (cy kvs (.inr (aF l)) (.tup (ag kj))))) L (.lst []) a=some g:=λha h=>eQ a0 ha (az _ _ h);have dA:av (av G1 d (.dic (cy kvs (.inr (aF l)) (.tup (ag kj))))) L (.lst []) d=some (.dic (cy kvs (.inr (aF l)) (.tup (ag kj)))):=zM a2;have pA:av (av G1 d (.dic (cy kvs (.inr (aF l)) (.tup (ag kj))))) L (.lst []) L=some (.lst []):=aa;generalize av (av G1 d (.dic (cy kvs (.inr (aF l)) (.tup (ag kj))))) L (.lst [])=GA at gA dA pA ⊢;have D2:∀G',G' s1=some (.ins C [("kept",.ref d)])->G' d=some (.dic (cy kvs (.inr (aF l)) (.tup (ag kj))))->kB C G' s1 d (cy kvs (.inr (aF l)) (.tup (ag kj))) (λm=>if m=l then some kj else nm m):=λG' h1 h2=>⟨h1,h2,FQ hD.ok hn kj,λm b h=>by
   split at h
   ·cases h;exact six_ok.ft
   ·exact hD.ft m b h,by have:=jS kvs (.inr (aF l)) (.tup (ag kj));lia⟩
  refine⟨by lia,s1,d,_,_,_,rfl,D2 GA (gA sd hD.hs) dA,.inr ⟨_,_,rfl,by simp only[length_append,k3];lia,pH hl (ycv rfl) six_ok.sa.1 (by decide),(λk z=>by cases z),λi ts t z G2 p2 Z ab a7 Y B=>?_⟩⟩;cases z;rw[show C6 (cy kvs (.inr (aF l)) (.tup (ag kj))) 1 [.num kj]=cy kvs (.inr (aF l)) (.tup (ag kj)) from rfl,ji (Z _ _ dA)] at B ⊢;rw[zL];have gB:∀{a:Addr} {g:GO},a≠d->G a=some g->av (av G2 p2 (.lst [])) Y (.lst [W.tup [W.str (aF [54]),W.ref L],W.tup [W.str (aF [54]),W.ref p2]]) a=some g:=λha h=>ah (ah (Z _ _ (gA ha h)) ab) B;have dB:=ah (g:=GO.lst [W.tup [W.str (aF [54]),W.ref L],W.tup [W.str (aF [54]),W.ref p2]]) (ah (g:=GO.lst []) (Z _ _ dA) ab) B;have aj:=ah (g:=GO.lst [W.tup [W.str (aF [54]),W.ref L],W.tup [W.str (aF [54]),W.ref p2]]) (ah (g:=GO.lst []) (Z _ _ pA) ab) B;have ai:=ah (g:=GO.lst [W.tup [W.str (aF [54]),W.ref L],W.tup [W.str (aF [54]),W.ref p2]]) (aa (G:=G2) (a:=p2) (g:=GO.lst [])) B;have af:av (av G2 p2 (.lst [])) Y (.lst [W.tup [W.str (aF [54]),W.ref L],W.tup [W.str (aF [54]),W.ref p2]]) Y=_:=aa;have n3:Y≠d:=λz=>by rw[z] at B;rw[ah (Z _ _ dA) ab] at B;cases B
  have bz:L≠Y:=λz=>by rw[←z,ah (Z _ _ pA) ab] at B;cases B
  have b3:p2≠Y:=λz=>by rw[←z,aa] at B;cases B
  have f3:G Y=none:=by
   cases h:G Y with
   | none=>rfl
   | some g=>rw[ah (Z _ _ (gA n3 h)) ab] at B;cases B
  have n1:L≠d:=Ne.symm a2;have n2:p2≠d:=Ne.symm a7;generalize av (av G2 p2 (.lst [])) Y (.lst [W.tup [W.str (aF [54]),W.ref L],W.tup [W.str (aF [54]),W.ref p2]])=GB at gB dB aj ai af ⊢;clear B ab Z gA dA pA a0 az;cutsat;simp only[←kg,dh,aC,length_append,k4];refine⟨⟨_,af⟩,by lia,s1,d,_,_,_,rfl,D2 GB (gB sd hD.hs) dB,.inr ⟨_,_,rfl,by simp only[length_append,k4];lia,zK hl (ycv rfl),(λk z=>by cases z),λi ts t z G3 p4 ad S b2=>?_⟩⟩;cases z;rw[show C6 (cy kvs (.inr (aF l)) (.tup (ag kj))) 2 [.nam l]=oZ (cy kvs (.inr (aF l)) (.tup (ag kj))) (.inr (aF l)) from rfl,Cj v0];have b1:Y≠p4:=λz=>by rw[←z,ad _ _ af] at S;cases S
  have b5:L≠p4:=λz=>by rw[←z,ad _ _ aj] at S;cases S
  have b6:p2≠p4:=λz=>by rw[←z,ad _ _ ai] at S;cases S
  refine⟨_,eQ S n3 (ad _ _ af),by simp,?_⟩;simp only[List.cons_append,nil_append];have lC:am G (av (av (av G3 d (.dic kvs)) p4 (.lst [])) Y (.lst [W.tup [W.str (aF [54]),W.ref L],W.tup [W.str (aF [54]),W.ref p2],W.tup [W.str (aF [111,107]),W.ref p4]])):=λa g h=>by
   have a3:a≠Y:=λz=>by rw[z,f3] at h;cases h
   rw[ao a3]
   by_cases e:a=d
   ·subst e;rw[zM b2,←hD.hd,h]
   ·exact eQ S e (ad _ _ (gB e h))
  have a6:av (av (av G3 d (.dic kvs)) p4 (.lst [])) Y (.lst [W.tup [W.str (aF [54]),W.ref L],W.tup [W.str (aF [54]),W.ref p2],W.tup [W.str (aF [111,107]),W.ref p4]]) L=some (.lst []):=by rw[ao bz];exact eQ S n1 (ad _ _ aj)
  have a5:av (av (av G3 d (.dic kvs)) p4 (.lst [])) Y (.lst [W.tup [W.str (aF [54]),W.ref L],W.tup [W.str (aF [54]),W.ref p2],W.tup [W.str (aF [111,107]),W.ref p4]]) p2=some (.lst []):=by rw[ao b3];exact eQ S n2 (ad _ _ ai)
  have a4:av (av (av G3 d (.dic kvs)) p4 (.lst [])) Y (.lst [W.tup [W.str (aF [54]),W.ref L],W.tup [W.str (aF [54]),W.ref p2],W.tup [W.str (aF [111,107]),W.ref p4]]) p4=some (.lst []):=by rw[ao (Ne.symm b1)];exact aa
  have a1:av (av (av G3 d (.dic kvs)) p4 (.lst [])) Y (.lst [W.tup [W.str (aF [54]),W.ref L],W.tup [W.str (aF [54]),W.ref p2],W.tup [W.str (aF [111,107]),W.ref p4]]) Y=_:=aa;generalize av (av (av G3 d (.dic kvs)) p4 (.lst [])) Y (.lst [W.tup [W.str (aF [54]),W.ref L],W.tup [W.str (aF [54]),W.ref p2],W.tup [W.str (aF [111,107]),W.ref p4]])=GC at lC a6 a5 a1 a4 ⊢;cutsat;intro q1 be q2 bi q3 bd q4 ar;have l1:=am.new (g:=GO.lst []) be;have l2:=am.new (g:=GO.lst []) bi;have l3:=am.new (g:=GO.lst []) bd;have l4:=am.new (g:=GO.lst [W.tup [W.str (Str.ofString "6"),W.ref q1],W.tup [W.str (Str.ofString "6"),W.ref q2],W.tup [W.str (Str.ofString "ok"),W.ref q3]]) ar;have x1:=l4 _ _ (l3 _ _ (l2 _ _ aa));have x2:=l4 _ _ (l3 _ _ aa);have x3:=l4 _ _ aa;have lD:=((l1.trans l2).trans l3).trans l4;refine⟨Y,q4,_,_,rfl,rfl,lD _ _ a1,aa,rfl,λj x y hx hy=>?_,?_⟩
  ·match j,hx,hy with
   | 0,hx,hy=>cases hx;cases hy;exact eP rfl (lD _ _ a6) x1 rfl rfl (by decide) rfl
   | 1,hx,hy=>cases hx;cases hy;exact eP rfl (lD _ _ a5) x2 rfl rfl (by decide) rfl
   | 2,hx,hy=>cases hx;cases hy;exact eP rfl (lD _ _ a4) x3 rfl rfl (by decide) rfl
   | _+3,hx,_=>cases hx
  dsimp only;rw[ycw (by decide)]
  replace lD:=lC.trans lD
  clear x1 x2 x3 l1 l2 l3 l4 ar;subst hU;rfl';simp only[←kg,dh,aC,length_append,k3];refine⟨by lia,s1,d,_,kvs,nm,rfl,hD.le (lD _ _ hD.hs) (lD _ _ hD.hd),.inr ⟨_,_,rfl,by simp only[length_append,k3];lia,FP hl hn,λk z=>?_,λ_ _ _ z=>by cases z⟩⟩;cases z;refine⟨by decide,λp5 G5 bj b4 g5=>?_⟩;show bw _ _ _ _ _ [none,none] _ [] _;refine gQ (i:=1) (λj:Nat=>W.int j) (λj:Nat=>W.bl (decide (j=3))) (τ0:=[none,none]) trivial (λn hn k hk=>?_) (by decide) (λ_=>rfl) λp6 as=>⟨eP rfl (ah g5 as) aa (by decide) (by decide) (by decide) (by decide),am.done (hq _ ((lD.trans bj).trans (am.new as)))⟩;rfl';rw[show decide ((n:Int)=3)=decide (n=3) from decide_eq_decide.mpr (by lia)];exact hk
theorem zN (cs:List Int) (lo hi:Option Int):∃ds:List Int,cL (cs.map W.int) lo hi=ds.map W.int/\ds.length<=cs.length:=
 ⟨(cs.drop (_H.sIx cs.length 0 lo)).take (_H.sIx cs.length cs.length hi-_H.sIx cs.length 0 lo),by unfold cL;rw[length_map,List.map_take,List.map_drop],by rw[length_take,length_drop];lia⟩
theorem kh {C:Gp->Prop} {Y:WT} {te:WE} {i:Nat} {τ0:bV} {G:Gp} {q:List W->Gp->Prop} (S:W->Bool) (L:C G):∀{ws acc:List W} {τ:bV},(∀x,x∈ws->∀k:Bool->Gp->Prop,k (S x) G->Y (τ0.set i (some x)) G k)->(∀x,x∈ws->∀k:W->Gp->Prop,k x G->te (τ0.set i (some x)) G k)->acc.length+ws.length<=100000->(∀x,τ.set i x=τ0.set i x)->q (acc++ws.filter S) G->bw C (bJ i) Y te ws τ G acc q
 | [],acc,τ,_,_,_,_,B=>⟨L,by simpa using B⟩
 | x::ws,acc,τ,h1,h2,hl,ab,B=>by
   rw[length_cons] at hl;refine⟨L,?_⟩;show Y (τ.set i (some x)) G _;rw[ab];refine h1 x yby _ ?_;have r1:=λy Z=>h1 y (ybx x Z);have r2:=λy Z=>h2 y (ybx x Z);rw[filter_cons] at B;refine bY (λhb=>h2 x yby _ ⟨by lia,kh S L r1 r2 (by rw[length_append,length_singleton];lia) (λy=>set_set ..) ?_⟩) λhb=>kh S L r1 r2 (by lia) (λy=>set_set ..) ?_
   ·rw[ycv hb] at B;rw[append_assoc];exact B
   ·rwa [ycw hb] at B
theorem zO (h:kvs.length<=2):([[97],[98],[99]].filter λm:List Nat=>!(cg kvs (.inr (aF m))).isSome)≠[]:=λz=>by
 have L:∀m:List Nat,m∈[[97],[98],[99]]->∃x,x∈kvs/\x.1=.inr (aF m):=λm L=>by
  have h1:=List.filter_eq_nil_iff.mp z m L;unfold cg at h1;cases e:kvs.find? λY=>decide (Y.1=.inr (aF m)) with
  | none=>rw[e] at h1;exact absurd rfl h1
  | some x=>exact⟨x,List.mem_of_find?_eq_some e,of_decide_eq_true (List.find?_some (p:=λY:aW×W=>decide (Y.1=.inr (aF m))) e)⟩
 obtain⟨a,B,Z⟩:=L [97] (by simp);obtain⟨b,hb,eb⟩:=L [98] (by simp);obtain⟨c,S,ec⟩:=L [99] (by simp);have ne:∀{m n:List Nat} {x y:aW×W},x.1=.inr (aF m)->y.1=.inr (aF n)->m≠n->x≠y:=λh1 h2 h3 e=>h3 (txS_inj.mp (Sum.inr.inj (by rw[←h1,←h2,e])));have n1:=ne Z eb (by decide);have n2:=ne Z ec (by decide);have n3:=ne eb ec (by decide)
 match kvs,h,B,hb,S with
 | [x],_,B,hb,_=>exact n1 ((mem_singleton.mp B).trans (mem_singleton.mp hb).symm)
 | [x,y],_,B,hb,S=>
   simp only[mem_cons,not_mem_nil,or_false] at B hb S;rcases B with rfl | rfl<;> rcases hb with rfl | rfl<;> rcases S with rfl | rfl<;> first | exact n1 rfl | exact n2 rfl | exact n3 rfl
theorem zP {nm:List Nat->Option O} {s d:Addr} {v:W} {q:WK} {e:WX} (L:kB C G s d kvs nm) (hb:J8 nm G v k) (B:Rf k G q):zz C [.ref s,v] G q e:=by
 refine⟨s,d,v,kvs,nm,rfl,L,?_⟩;rcases hb with⟨Y,⟨h1,rfl⟩ | ⟨m,rfl,Z,S⟩⟩
 ·exact .inl ⟨h1,B⟩
 ·exact .inr ⟨m,_,rfl,Z,S,λk' z=>by cases z;exact⟨Y,B⟩,λ_ _ _ z=>by cases z⟩
theorem FR:∀k,k<10->W.flats (Gb k)=true/\W.deps (Gb k)<=8/\W.eqs (Gb k) (Gb k)=true:=by decide+kernel
theorem Nu (F:bf K "law" "law" (aG 141) f fd) (F1:bu "_law_pool" ["_law_script"] 63 JQ) (N1:IG "Desk" C ["self"] 1 (JL C)) (F2:bu "_law_name" ["_law_cell"] 1 zA) (F3:bu "_law_shown" ["_law_number"] 13 (gW 13)) (F4:bu "_law_said" ["_law_desk","_law_line"] 95 (zz C)) (F5:bu "_law_bad" ["_law_name_here","_law_told","_law_cell"] 2 Ka) (F6:bu "_law_kept" ["_law_desk","_law_model"] 96 (Ke C)) (F7:bu "_law_let_and_dropped" ["_law_desk","_law_name_here"] 96 (Kg C)) (ml:mg "len"=none) (mr:mg "range"=none) (ms:mg "sum"=none) (mt:mg "list"=none):bo 100 f fd ["_law_script"] jN:=by
 refine dR F (N:=["_law_script","_law_pool_here","_law_desk","_law_model","_law_k","_law_cell","_law_name_here","_law_text","_law_line","_law_due"]) λ_ _ _ _ _ _ nd hr=>?_;apply al
 ·refine' ac ?s1 (ac ?s2 (ac ?s3 (ac ?s4 (ac (jf (cK PassesOwn.never rfl (mH 3 rfl (by first | exact Or.inl rfl | exact Or.inr (Or.inl rfl) | exact Or.inr (Or.inr rfl))) ?tg5 (ac ?b5 (ak (a9 (cq (yU hr) ?x5 ?y5) ?r5 aM))))) (ac (cK PassesOwn.never rfl ?it6 ?tg6 (ac ?b1 (ac ?b2 (ac ?b3 (ac ?b4 (ac (a9 (cq (yU hr) ?x6 ?y6) ?r6 aM) (ac ?b6 (ak ?b7)))))))) ?s7)))))
  case s1=>eq_refl
  case s2=>exact cr 2 nd rfl (by first | exact Or.inl rfl | exact Or.inr rfl) (BL N1 (aH.mono hr (by lia)) rfl)
  case s3=>eq_refl
  case s4=>eq_refl
  case tg5=>walk_at "Qg"
  case b5=>eq_refl
  case x5=>ac_nf
  case y5=>ac_nf
  case r5=>grind
  case it6=>walk_at "Qi"
  case tg6=>walk_at "Qg"
  case b1=>eq_refl
  case b2=>eq_refl
  case b3=>eq_refl
  case b4=>eq_refl
  case x6=>ac_nf
  case y6=>ac_nf
  case r6=>grind
  case b6=>eq_refl
  case b7=>eq_refl
  case s7=>grind
 ·rintro ws G q e ⟨ns,rfl,hl,hq⟩;nofun;refine⟨ns,rfl,hl,λp a2 hp hm hg=>?_⟩;have hG:av G p (.lst (cf (cF++a2))) p=some (.lst (cf (cF++a2))):=aa;generalize av G p (.lst (cf (cF++a2)))=G1 at hG ⊢;generalize hpool:cF++a2=pool at hg hG ⊢;have h0:3<=pool.length:=by rw[←hpool];simp[cF]
  have hsz:pool.length<=27:=by rw[←hpool];simp[cF];lia
  cutsat;intro sk co;refine⟨sk,rfl,aa,λdk G2 de da bd cc bi=>⟨rfl,?_⟩⟩;have ca:G2 p=some (.lst (cf pool)):=bd _ _ (λz=>by rw[z,co] at hG;cases hG) (ah hG co);clear bd;cutsat;intro Y a0;have cs:=ah (g:=GO.dic []) ca a0;have ai:=ah (g:=GO.dic []) cc a0;have aj:=ah (g:=GO.dic []) bi a0;have ad:av G2 Y (GO.dic []) Y=some (GO.dic []):=aa;have pm:p≠Y:=λz=>by rw[z,a0] at ca;cases ca
  have sm:sk≠Y:=λz=>by rw[z,a0] at cc;cases cc
  have dd:Y≠dk:=λz=>by rw[←z,a0] at bi;cases bi
  generalize av G2 Y (GO.dic [])=G3 at cs ai aj ad ⊢;cutsat;refine mE 2 (λi τ G'=>∃(kvs:List (aW×W)) (t4 t5:Option W),τ=[some (.scr ns),some (.ref p),some (.ref sk),some (.ref Y),t4,t5,none,none,none,none]/\G' p=some (.lst (cf pool))/\G' sk=some (.ins C [("kept",.ref dk)])/\G' dk=some (.dic [])/\G' Y=some (.dic kvs)/\zS kvs/\kvs.length<=i/\(0<i->0<kvs.length)) ⟨[],_,_,rfl,cs,ai,aj,ad,⟨List.nodup_nil,λx h=>by cases h⟩,ycx _,λh=>absurd h (by decide)⟩ ?_ ?_;rotate_left
  ·rintro i τ G' kk hi ⟨kvs,t4,t5,rfl,gp,gs,gd,gm,hK,dv,c4⟩ hk;refine⟨trivial,?_⟩;simp only[bJ,set_cons_succ,set_cons_zero];refine au λU1 hU1=>?_;rfl';obtain⟨ds,e1,_⟩:=zN ns (some (i:Int)) (some ((i:Int)+1));rw[e1];refine⟨by lia,λp1 B=>⟨ds,aa,?_⟩⟩;generalize ds.sum%1000000000000000000000000000000000000000000000000000000000000=c0;have bz:=ah (g:=GO.lst (ds.map W.int)) gp B;have ar:=ah (g:=GO.lst (ds.map W.int)) gs B;have ab:=ah (g:=GO.lst (ds.map W.int)) gd B;have S:=ah (g:=GO.lst (ds.map W.int)) gm B;generalize av G' p1 (GO.lst (ds.map W.int))=G5 at bz ar ab S ⊢;subst hU1;rfl';refine⟨_,.lst bz,by rw[bB];lia,?_⟩;refine jO bz (nv _ rfl (by rw[bB];lia) λx hx=>?_);obtain⟨o,ho,rfl⟩:=mem_map.mp hx;refine⟨_,rfl,λl hl=>⟨Y,_,kvs,rfl,rfl,S,by lia,hk _ _ ⟨_,_,_,rfl,by rw[ao pm];exact bz,by rw[ao sm];exact ar,by rw[ao (Ne.symm dd)];exact ab,aa,hK.put hl (hg o ho),?_,λ_=>?_⟩⟩⟩
   ·have:=jS kvs (.inr (aF l)) (.tup (ag o));lia
   ·have:=congrArg List.length (lH kvs (.inr (aF l)) (.tup (ag o)));rw[length_map] at this;rw[this];split
    ·rename_i hz;rw[length_map];cases kvs with
     | nil=>cases hz
     | cons _ _=>exact Nat.succ_pos _
    ·rw[length_append];exact Nat.succ_pos _
  rintro τ G' ⟨kvs,t4,t5,rfl,gp,gs,gd,gm,hK,dv,c4⟩;refine⟨trivial,?_⟩;clear gp cs ai aj ad a0 ca cc bi de co hG hp hg;have dc:=c4 (by decide);subst hU;dsimp only;nofun;refine⟨Y,kvs,gm,kvs,gm,λob us=>?_⟩;refine a8 (λws τ G1=>∃(k1 k2:List (aW×W)) (t6 t7:Option W),ws=k2.map (λp=>kW p.1)/\kvs=k1++k2/\τ=[some (.scr ns),some (.ref p),some (.ref sk),some (.ref Y),t4,t5,t6,t7,none,none]/\G1 Y=some (.fdc ob us kvs)/\G1 sk=some (.ins C [("kept",.ref dk)])/\G1 dk=some (.dic k1)) ?_ ?_ _ _ _
   ⟨[],kvs,_,_,rfl,rfl,rfl,aa,by rw[ao sm];exact gs,by rw[ao (Ne.symm dd)];exact gd⟩
  rotate_left
  ·rintro w1 ws τ G2 kk ⟨k1,k2,t6,t7,hw,L,rfl,a1,a4,be⟩ hk;cases k2 with
   | nil=>cases hw
   | cons x k2=>
     cases hw;refine⟨a1,?_⟩;have hx:x∈kvs:=by rw[L];exact yex _ yby
     obtain⟨l,b,e1,hl,e2,hf⟩:=hK.all x hx;have hv:=sA hK.nd x hx;have df:zS k1:=⟨by have:=hK.nd;rw[L,map_append,List.nodup_append] at this;exact this.1,λy hy=>hK.all y (by rw[L];exact mem_append_left _ hy)⟩;have cn:cg k1 (.inr (aF l))=none:=by
      have:=hK.nd;rw[L,map_append,List.nodup_append] at this;unfold cg;rw[Option.map_eq_none_iff,List.find?_eq_none];intro y hy z;exact this.2.2 y.1 (mem_map.mpr ⟨y,hy,rfl⟩) x.1 yby ((of_decide_eq_true z).trans e1.symm)
     obtain⟨nm,a5,cp,_⟩:=df.nm;rw[e1,e2] at hv;have d4:=(aN.len hl).2.1;have d0:=FN hf;dsimp only;rw[e1];unfold kW;refine au λU1 hU1=>?_;rfl';refine⟨kvs,_,.inr ⟨ob,us,a1⟩,hv,b,rfl,hf.sa.1,hf.sa.2,by decide,?_⟩;subst hU1;rfl';have cw:(u8 "let ").length=4:=rfl;have c3:(u8 " ").length=1:=rfl;simp only[←kg,dh,aC,length_append,cw,c3];have db:k1.length<=2:=by have:=congrArg List.length L;rw[length_append,length_cons] at this;lia
     refine⟨by lia,by lia,by lia,sk,dk,_,k1,nm,rfl,⟨a4,be,a5,λl b h=>(cp l b h).ft,by lia⟩,.inr ⟨_,_,rfl,by simp only[length_append,cw,c3];lia,uL hl (Kc hf) (Kd hf) hf.sa.1 hf.sa.2,(λk z=>by cases z),λi ts t z G3 p1 c7 B dl=>?_⟩⟩;cases z;rw[show C6 k1 0 [.nam l,.num b]=cy k1 (.inr (aF l)) (.tup (ag b)) from rfl,nz cn];have ad:=eQ (u:= .dic (k1++[(.inr (aF l),.tup (ag b))])) (v:= .lst []) B dd (c7 _ _ a1);have ai:=eQ (u:= .dic (k1++[(.inr (aF l),.tup (ag b))])) (v:= .lst []) B da (c7 _ _ a4);have aj:=zM (G:=G3) (u:= .dic (k1++[(.inr (aF l),.tup (ag b))])) (v:= .lst []) dl;refine λp2 af=>⟨eP rfl (ah aa af) aa rfl rfl (by decide) rfl,?_⟩;dsimp only;rw[ycw (by decide)];exact hk _ _ ⟨k1++[(.inr (aF l),.tup (ag b))],k2,_,_,rfl,by rw[L,append_assoc,←e1,←e2];rfl,rfl,ah ad af,ah ai af,ah aj af⟩
  rintro τ G1 ⟨k1,k2,t6,t7,hw,L,rfl,S,ar,ab⟩;refine⟨S,ob,us,kvs,S,?_⟩;have cd:k2=[]:=by
   cases k2 with
   | nil=>rfl
   | cons _ _=>cases hw
  rw[cd,append_nil] at L;rw[←L] at ab;have a1:av G1 Y (.dic kvs) Y=some (.dic kvs):=aa;have a4:av G1 Y (.dic kvs) sk=_:=(ao sm).trans ar;have be:av G1 Y (.dic kvs) dk=_:=(ao (Ne.symm dd)).trans ab;generalize av G1 Y (.dic kvs)=G2 at a1 a4 be ⊢;obtain⟨nm,a5,cp,cn⟩:=hK.nm;have D:∀G':Gp,G' sk=some (.ins C [("kept",.ref dk)])->G' dk=some (.dic kvs)->kB C G' sk dk kvs nm:=λG' a b=>⟨a,b,a5,λl b h=>(cp l b h).ft,by lia⟩;clear gm gs gd S ar ab;subst hU;dsimp only;nofun;obtain⟨a7,e0,d2⟩:=zN ns none (some 30);rw[e0];refine⟨by lia,λp1 B=>⟨_,.lst aa,?_⟩⟩;rw[length_map];have ad:=ah (g:=GO.lst (a7.map W.int)) a1 B;have ai:=ah (g:=GO.lst (a7.map W.int)) a4 B;have aj:=ah (g:=GO.lst (a7.map W.int)) be B;generalize av G2 p1 (GO.lst (a7.map W.int))=G3 at ad ai aj ⊢;refine⟨by lia,by lia,?_⟩;refine mE (3+(a7.length:Int)).toNat (λi τ G'=>∃(u4 u5 u6 u7 bj u9:Option W),τ=[some (.scr ns),some (.ref p),some (.ref sk),some (.ref Y),u4,u5,u6,u7,bj,u9]/\G' Y=some (.dic kvs)/\G' sk=some (.ins C [("kept",.ref dk)])/\G' dk=some (.dic kvs)) ⟨_,_,_,_,_,_,rfl,ad,ai,aj⟩ ?_ ?_
  ·rintro τ G' ⟨u4,u5,u6,u7,bj,u9,rfl,_,_,_⟩;refine⟨trivial,?_⟩;subst hU;rfl';exact am.done (hq _)
  clear ad ai aj a1 a4 be;rintro i τ G' kk hi ⟨u4,u5,u6,u7,bj,u9,rfl,gm,gs,gd⟩ hk;refine⟨trivial,?_⟩;simp only[bJ,set_cons_succ,set_cons_zero];refine au λU1 hU1=>?_;rfl';obtain⟨ds,e1,_⟩:=zN ns (some (i:Int)) (some ((i:Int)+1));rw[e1];refine⟨by lia,λp1 B=>⟨ds,aa,?_⟩⟩;obtain⟨c,hc⟩:∃c:Nat,ds.sum%1000000000000000000000000000000000000000000000000000000000000+(i:Int)=(c:Int):=⟨(ds.sum%1000000000000000000000000000000000000000000000000000000000000+(i:Int)).toNat,by have:=iz (i:=ds.sum) (j:=1000000000000000000000000000000000000000000000000000000000000) (by decide);lia⟩;rw[hc];have S:=ah (g:=GO.lst (ds.map W.int)) gm B;have ar:=ah (g:=GO.lst (ds.map W.int)) gs B;have ab:=ah (g:=GO.lst (ds.map W.int)) gd B;generalize av G' p1 (GO.lst (ds.map W.int))=G5 at S ar ab ⊢;clear B gm gs gd;walk_at "b";refine⟨_,rfl,λl0 dw=>?_⟩;subst hU1;refine au λU1 hU1=>?_;generalize hDn:({ nx:=kk,rt:=λw G1=>∃G0,am G0 G1/\q w G0,bk:=U { nx:=λx G1=>∃G0,am G0 G1/\q W.non G0,rt:=λw G1=>∃G0,am G0 G1/\q w G0 },ct:=kk }:cj)=Dn;have go:∀(l:List Nat) (G6:Gp),aN l=true->nm l=none->am G5 G6->U1 Dn [some (.scr ns),some (.ref p),some (.ref sk),some (.ref Y),some (.int (i:Int)),some (.int (c:Int)),some (.str (aF l)),u7,bj,u9] G6:=λl G6 hl hn a3=>by
   walk_at "b";have c5:=a3 _ _ S;refine⟨_,.dic (.inl c5),λp2 af=>⟨_,.dic (.inl (ah c5 af)),by lia,?_⟩⟩;refine jO aa (nv _ (by rw[length_map]) (by rw[length_map];exact dc) λv hv=>?_);obtain⟨x,hx,rfl⟩:=mem_map.mp hv;obtain⟨t,b,e1,ht,_,_⟩:=hK.all x hx;rw[e1];unfold kW;have c6:=a3.trans (am.new (g:=GO.lst (kvs.map λp=>kW p.1)) af);unfold kW at c6;refine⟨l,t,c,nm,rfl,hl,ht,cn,hn,λv k G8 a6 hb=>⟨rfl,?_⟩⟩
   replace a6:=c6.trans a6
   have c2:=a6 _ _ S;have b8:=a6 _ _ ar;have b9:=a6 _ _ ab;dsimp only;walk_at "b";refine zP (D G8 b8 b9) hb λp3 G9 di d1 g9=>?_;show bw _ _ _ _ _ [none,none,some (W.int k)] _ [] _;obtain⟨m1,m2,m3⟩:=FR k (by have:=hb.1;lia);refine gQ (i:=1) (λj:Nat=>W.int j) (λj:Nat=>W.bl (decide (j=k))) (τ0:=[none,none,some (W.int k)]) trivial (λn hn d3 cd=>?_) (by decide) (λ_=>rfl) λp4 c9=>⟨eP rfl (ah g9 c9) aa m1 m1 m2 m3,?_⟩
   ·rfl';rw[show decide ((n:Int)=k)=decide (n=k) from decide_eq_decide.mpr (by lia)];exact cd
   dsimp only;rw[ycw (by decide)];have as:=di.trans (am.new (g:=GO.lst ([]++(List.range 15).map λj:Nat=>W.bl (decide (j=k)))) c9);generalize av G9 p4 (GO.lst ([]++(List.range 15).map λj:Nat=>W.bl (decide (j=k))))=G10 at as ⊢;walk_at "b";refine⟨sk,dk,Y,kvs,nm,rfl,D G10 (as _ _ b8) (as _ _ b9),as _ _ c2,dd,hK,λc8 Z=>?_⟩
   replace Z:=as.trans Z
   dsimp only;rw[ycw (by decide)];have c1:∀G12,am G8 G12->kk [some (.scr ns),some (.ref p),some (.ref sk),some (.ref Y),some (.int (i:Int)),some (.int (c:Int)),some (.str (aF l)),u7,some v,some (.int (k:Int))] G12:=λG12 az=>hk _ _ ⟨_,_,_,_,_,_,rfl,az _ _ c2,az _ _ b8,az _ _ b9⟩;subst hU1 hDn;rfl';refine bY (λ_=>⟨sk,dk,l,kvs,nm,rfl,D c8 (Z _ _ b8) (Z _ _ b9),by lia,hl,hn,λG12 az=>?_⟩) λ_=>c1 c8 Z;dsimp only;rw[ycw (by decide)];exact c1 G12 (Z.trans az)
  rfl';refine⟨_,.dic (.inl S),bY (λ_=>?_) λhz=>go l0 G5 dw ?_ (am.refl G5)⟩
  ·intro p1 B;refine⟨_,aa,?_⟩;show bw _ _ _ _ _ [none,none,some (W.ref Y)] _ [] _;have a3:=am.new (g:=GO.lst [W.str (Str.ofString "a"),W.str (Str.ofString "b"),W.str (Str.ofString "c")]) B;have g6:av G5 p1 (GO.lst [W.str (Str.ofString "a"),W.str (Str.ofString "b"),W.str (Str.ofString "c")]) p1=_:=aa;generalize av G5 p1 (GO.lst [W.str (Str.ofString "a"),W.str (Str.ofString "b"),W.str (Str.ofString "c")])=G6 at a3 g6 ⊢;rw[show[W.str (Str.ofString "a"),W.str (Str.ofString "b"),W.str (Str.ofString "c")]=[[97],[98],[99]].map (λm:List Nat=>W.str (aF m)) from rfl] at g6 ⊢;refine kh (i:=1) (τ0:=[none,none,some (W.ref Y)]) (λv=>match v with | W.str z=>!(cg kvs (.inr z)).isSome | _=>false) g6 (λx hx k hk=>?_) (λx hx k hk=>?_) (by decide) (λ_=>rfl) λp2 af=>?_
   ·obtain⟨m,hm,rfl⟩:=mem_map.mp hx;rfl';exact⟨_,.dic (.inl (a3 _ _ S)),hk⟩
   ·rfl';exact hk
   ·have h3:=zO (kvs:=kvs) (by lia);rw[nil_append,List.filter_map,show((λv=>match v with | W.str z=>!(cg kvs (.inr z)).isSome | _=>false) ∘ λm:List Nat=>W.str (aF m))=λm:List Nat=>!(cg kvs (.inr (aF m))).isSome from rfl];cases hF:[[97],[98],[99]].filter λm:List Nat=>!(cg kvs (.inr (aF m))).isSome with
    | nil=>exact absurd hF h3
    | cons m fs=>
      obtain⟨h1,h2⟩:=List.mem_filter.mp (show m∈[[97],[98],[99]].filter λm:List Nat=>!(cg kvs (.inr (aF m))).isSome by rw[hF];exact yby);refine⟨_,_,aa,aA (j:=0) rfl,go m _ ?_ ?_ (a3.trans (am.new af))⟩
      ·simp only[mem_cons,not_mem_nil,or_false] at h1;rcases h1 with rfl | rfl | rfl<;> decide
      ·have h4:=a5 m;cases h5:nm m with
       | none=>rfl
       | some b=>rw[h5] at h4;rw[h4] at h2;cases h2
  ·have h1:=a5 l0;cases h2:nm l0 with
   | none=>rfl
   | some b=>rw[h2] at h1;rw[h1] at hz;exact absurd rfl hz
theorem Df.vf {k:Nat} {sp:aX} {b:Addr} (D:Df K mg x st ps) (hb:mg x=some (.ref b)) (L:j<=k) (h:∀(f:Addr) (fd:FuncData),bf K x x st f fd->bL j f fd ps sp):II k b sp:=by
 obtain⟨f,fd,F,B,m⟩:=D;rw[m] at hb;cases hb;exact Ip F B (cW.mono (h _ fd F) L)
def Fz (K:yav):List (List Nat×List Nat)->List Addr->Prop
 | x::T,b::bs=>(GTx K b (x.2.map gY)/\x.2.length<=3)/\Fz K T bs
 | [],[]=>True
 | _,_=>False
theorem FS (T:List (List Nat×List Nat)):∀(bs:List Addr),Fz K T bs->∀l:List Nat,(T.lookup l=none/\((T.zip bs).map λy=>(aF y.1.1,y.2)).lookup (aF l)=none)∨∃js b,T.lookup l=some js/\((T.zip bs).map λy=>(aF y.1.1,y.2)).lookup (aF l)=some b/\GTx K b (js.map gY)/\js.length<=3:=by
 induction T with
 | nil=>
   intro bs h l;cases bs with
   | nil=>exact .inl ⟨rfl,rfl⟩
   | cons b bs=>exact h.elim
 | cons x T ih=>
   intro bs h l;cases bs with
   | nil=>exact h.elim
   | cons b bs=>
     rw[lookup_cons,zip_cons_cons,map_cons,lookup_cons]
     by_cases e:l=x.1
     ·subst e;rw[beq_self_eq_true,beq_self_eq_true];exact .inr ⟨x.2,b,rfl,rfl,h.1.1,h.1.2⟩
     ·rw[beq_eq_false_iff_ne.mpr e,beq_eq_false_iff_ne.mpr (λz=>e (txS_inj.mp z))];exact ih bs h.2 l
theorem FT (T:Tx) (F:bf K "law" "law" (aG 141) f fd):bo 100 f fd ["_law_script"] jN:=by
 obtain⟨cs,X⟩:=T.x_;have ex:∀k:Nat,k<=9->∃b,XC K (cl cs k) b:=λk hk=>by
  have hl:k+1<cs.length:=by rw[X.len];show k+1<14;lia
  have hc:cs[k+1]?=some (cl cs k):=by
   unfold cl;rw[List.getD_eq_getElem?_getD,ycz hl]
   rfl
  exact(X.xo _ _ hc).c
 have B:∀k:Nat,k<=9->∀x,Kr[k+1]?=some x->mg x=some (.ref (cl cs k)):=λk hk x hx=>by
  have hl:k+1<cs.length:=by rw[X.len];show k+1<14;lia
  refine X.mgs (k+1) x _ hx ?_;unfold cl;rw[List.getD_eq_getElem?_getD,ycz hl]
  rfl
 obtain⟨_,x0⟩:=ex 0 (by decide);obtain⟨_,x1⟩:=ex 1 (by decide);obtain⟨_,x2⟩:=ex 2 (by decide);obtain⟨_,x3⟩:=ex 3 (by decide);obtain⟨_,x4⟩:=ex 4 (by decide);obtain⟨_,x5⟩:=ex 5 (by decide);obtain⟨_,S⟩:=ex 6 (by decide);obtain⟨_,x7⟩:=ex 7 (by decide);obtain⟨_,x8⟩:=ex 8 (by decide);obtain⟨_,x9⟩:=ex 9 (by decide);have m0:=B 0 (by decide) _ rfl;have m1:=B 1 (by decide) _ rfl;have m2:=B 2 (by decide) _ rfl;have m3:=B 3 (by decide) _ rfl;have m4:=B 4 (by decide) _ rfl;have m5:=B 5 (by decide) _ rfl;have Y:=B 6 (by decide) _ rfl;have m7:=B 7 (by decide) _ rfl;have m8:=B 8 (by decide) _ rfl;have m9:=B 9 (by decide) _ rfl;obtain⟨t0,h0⟩:=T.qBx;obtain⟨t1,h1⟩:=T.qCx;obtain⟨t2,h2⟩:=T.qDx;obtain⟨t3,h3⟩:=T.qEx;obtain⟨t4,h4⟩:=T.qFx;obtain⟨t5,h5⟩:=T.qGx;obtain⟨t6,h6⟩:=T.qIx;obtain⟨t7,h7⟩:=T.qJx;obtain⟨t8,h8⟩:=T.qKx;obtain⟨t9,h9⟩:=T.qLx;obtain⟨aj,mj,hj⟩:=T.g_JOINING;obtain⟨C,mR,hC,a1,a2,a3,n0,n1,n2,n3,n4,n5,n6,n7⟩:=T.k_Reading;have D:C1 K mg C (cl cs 6):=⟨⟨hC,a1,a2,a3⟩,n0,n1,n2,n3,n4,n5,n6,n7,mR,T.qHx,Y,_,S⟩;have L:=JR T 60 (by decide);have Z:=JS T 60;have W:=T.qmx.fx λf fd F=>Nc F L T.qXx T.qYx;have N:=T.qox.fx λf fd F=>Ng F W Z T.qRx;have Po:=T.qpx.fx λf fd F=>Nh F N;have Wd:=T.qa.fxd λf fd T' ds F=>LQ F T.qQx T.qPx T.qOx;have Rs:=T.qd.fx λf fd T' ds F=>IK F Wd;have Rd:=T.qd.fxd λf fd T' ds F=>IK F Wd;have Wl:=T.qb.fx λf fd F=>LU F Rs;have En:=T.qc.fx λf fd F=>Me F Wl Rd;have Cm:=T.qe.fx λf fd F=>LK F;have Pa:=T.ql.fx λf fd F=>LL F Cm T.qRx;have Ps:=T.qk.fx λf fd F=>LM F Pa T.qRx;have Wp:=T.qf.fx λf fd F=>LN F;have Wo:=T.qg.fx λf fd F=>LP F Wp;have Ti:=T.qu.fx λf fd F=>LV F Wp Wo Ps T.qYx;have Pp:=T.qx.fx λf fd F=>LW F Wp Ti Rs;have Tg:=T.qy.fx λf fd F=>LX F Wp T.qRx h1 h2;have Pw:=T.qw.rx λf fd F=>LY F Wl Pp Tg T.qRx m8 x8;have Hm:=T.qJ.fx λf fd F=>LZ F h6 T.qRx;have Gt:=IQ T 61;have De:=IR T 61;have Tq:=(T.qI.fx λf fd F=>L8 F Hm Gt De h7).alias T.qAx;have Jn:=T.qH.rx λf fd F=>Mg F Ps Ti Pw Tq m8 x8;have Rk:=T.qG.rx λf fd F=>Mh F Jn T.qQx T.qYx;have Fg:=T.qz.fx λf fd F=>L9 F;have Lt:=T.qA.fx λf fd F=>Ma F;have Fs:=T.qB.fx λf fd F=>Mb F Fg h4 T.qRx T.qNx;have Nm:=T.qC.fx λf fd F=>Mc F Lt h5 T.qRx T.qNx;have To:=T.qD.rx λf fd F=>Mf F En Fs Nm Wl Y S T.qPx;have Sm:=zh D Fg Lt To 20 (by decide);have So:=T.qE.rx λf fd F=>Mr D F (D.m0.new mR λf fd F=>Mp D.cl F) (Fk D) Sm h3 T.qRx T.qQx T.qWx;have Lu:=T.qF.rx λf fd F=>Ms F mj hj m3 x3 T.qQx T.qYx;have Re:=T.qR.rx λf fd T' ds F=>Mv (cs:=cs) F So Lu Rk;have Sw:=Jm T Wl En Wo 13;have Rm:=T.qT.fx λf fd F=>MA F h9 T.qRx;have Td:=T.qS.rx λf fd F=>MB F Rm h8 Y S T.qQx T.qWx T.qRx T.qYx;have Pn:=Jt T 40;have Pl:=T.qN.fx λf fd F=>MF F Pn T.qRx;have Ih:=T.qM.fx λf fd F=>MH F Wd T.qQx T.qYx T.qRx;have Cu:=T.qL.rx λf fd T' ds F=>MI (cs:=cs) F Ih Wd Pl h8 m1 x1 m8 x8;have Mi:=T.qm.rx λf fd F=>MJ F Cm m9 x9;have Dv:=T.qv.rx λf fd F=>MK F m7 x7;have La:=T.qn.rx λf fd F=>ML F m7 x7;have Il:=T.qh.fx λf fd F=>MM F Wp;have Ru:=T.qo.rx λf fd F=>MN (cs:=cs) F Il Cm m2 x2 m9 x9;have Fi:=T.qp.fx λf fd F=>MO F Gt;have Wx:=Js T m8 x8 10;have Do:=T.qt.rx λf fd F=>MP (cs:=cs) F Fi Wx h0 m0 x0 m7 x7 m8 x8;have Wn:=T.qX.rx λf fd F=>Fo (cs:=cs) F Fs Y S T.qPx;obtain⟨ar,b0,b1,b2,b3,b4,b5,b6,mr,hr,v0,v1,v2,v3,v4,v5,v6⟩:=T.gd_READERS;obtain⟨af,f0,f1,f2,f3,f4,f5,f6,f7,f8,f9,a4,az,a0,ai,mf,hf,g0,g1,g2,g3,g4,g5,g6,g7,g8,g9,bd,b7,bi,bj⟩:=T.gd_FORMS;obtain⟨ad,d0,d1,d2,d3,d4,d5,d6,d7,d8,d9,a5,as,a6,a7,md,hd,e0,e1,e2,_,e4,e5,_,e7,e8,_,b8,_,ca,b9⟩:=T.gd_DEEDS;have hF:Fp K [("let",f0),("tell",f1),("drop",f2),("hold",f3),("minus",f4),("share",f5),("common",f6),("rung",f7),("step",f8),("tree",f9),("cut",a4),("write",az),("down",a0),("worth",ai)]:=FS frmT [f0,f1,f2,f3,f4,f5,f6,f7,f8,f9,a4,az,a0,ai] ⟨⟨g0,by decide⟩,⟨g1,by decide⟩,⟨g2,by decide⟩,⟨g3,by decide⟩,⟨g4,by decide⟩,⟨g5,by decide⟩,⟨g6,by decide⟩,⟨g7,by decide⟩,⟨g8,by decide⟩,⟨g9,by decide⟩,⟨bd,by decide⟩,⟨b7,by decide⟩,⟨bi,by decide⟩,⟨bj,by decide⟩,trivial⟩;have hR:JD P w K mg base cs [("NAME",b0),("KEPT",b1),("EXPR",b2),("N",b3),("BASE",b4),("TREE",b5),("WAY",b6)] (λj=>[b0,b1,b2,b3,b5,b6,b4].getD j 0):=by
  refine⟨λj hj=>?_,λj hj=>?_⟩
  ·match j,hj with
   | 0,_ | 1,_ | 2,_ | 3,_ | 4,_ | 5,_ | 6,_=>rfl
  ·match j,hj with
   | 0,_=>exact Df.vf T.qU v0 (by decide) λf fd F=>MQ F Nm Y S
   | 1,_=>exact Df.vf T.qV v1 (by decide) λf fd F=>MR F m3 x3
   | 2,_=>exact Df.vf T.qW v2 (by decide) λf fd F=>MS F Re
   | 3,_=>exact Df.vf T.qX v3 (by decide) λf fd F=>Fo F Fs Y S T.qPx
   | 4,_=>exact Df.vf T.qY v5 (by decide) λf fd F=>JB F Td
   | 5,_=>exact Df.vf T.qZ v6 (by decide) λf fd F=>M9 F Wn T.qYx
   | 6,_=>
     refine Df.vf T.qX v4 (by decide) λf fd F=>cW.imp (Fo (cs:=cs) F Fs Y S T.qPx) λvs H Q E h=>?_;obtain⟨ws,G,q,e,r1,r2,⟨l,d,nm,x,ew,hn,hl,hx,hg,hb⟩,r3⟩:=h;refine⟨ws,G,q,e,r1,r2,⟨l,d,nm,x,ew,hn,hl,?_,hg,hb⟩,r3⟩;cases hx with
     | base h=>exact .fig h
     | nobase h=>exact .nofig h
 have hD:JJ P w K mg base cs [("let",d0),("tell",d1),("drop",d2),("hold",d3),("minus",d4),("share",d5),("common",d6),("rung",d7),("step",d8),("tree",d9),("cut",a5),("write",as),("down",a6),("worth",a7)] (λj=>[d0,d1,d2,d3,d4,d5,d6,d7,d8,d9,a5,as,a6,a7].getD j 0):=by
  have w0:=Df.vf (k:=64) T.qax e0 (by decide) λf fd F=>JF (cs:=cs) (.inl rfl) F Sw;have w1:=Df.vf (k:=64) T.qax e1 (by decide) λf fd F=>JF (cs:=cs) (.inr rfl) F Sw;have w2:=Df.vf (k:=64) T.qbx e2 (by decide) λf fd F=>MV (cs:=cs) F;have w4:=Df.vf (k:=64) T.qcx e4 (by decide) λf fd F=>MW (cs:=cs) F Sw Mi;have w5:=Df.vf (k:=64) T.qdx e5 (by decide) λf fd F=>MX (cs:=cs) F Sw Dv;have w7:=Df.vf (k:=64) T.qex e7 (by decide) λf fd F=>MY (cs:=cs) F Ru T.qWx;have w8:=Df.vf (k:=64) T.qfx e8 (by decide) λf fd F=>MZ (cs:=cs) F Sw La;have bl:=Df.vf (k:=64) T.qgx b8 (by decide) λf fd F=>JG (cs:=cs) F Cu;have bz:=Df.vf (k:=64) T.qhx ca (by decide) λf fd F=>JH (cs:=cs) F Sw Do;have be:=Df.vf (k:=64) T.qix b9 (by decide) λf fd F=>JI (cs:=cs) F Wx T.qWx;refine⟨λl i h=>?_,λi ts x h=>?_⟩
  ·have h:=C8 h
   match i,h with
   | 0,h | 1,h | 2,h | 3,h | 4,h | 5,h | 6,h | 7,h | 8,h | 9,h | 10,h | 11,h | 12,h | 13,h=>cases h;rfl
   | _+14,h=>cases h
  ·cases h<;> first | exact w0 | exact w1 | exact w2 | exact w4 | exact w5 | exact w7 | exact w8 | exact bl | exact bz | exact be
 obtain⟨CD,mD,ab,aD,i0,i1⟩:=T.k_Desk;have Ws:=T.qjx.rx (base:=base) λf fd F=>MT F mf hf hF m5 x5 T.qQx T.qWx T.qRx;have Ts:=T.qkx.rx λf fd F=>MU F mf hf hF mr hr hR m4 x4 T.qZx;have Sy:=Md.rmt i1 ab λf fd F=>JK ab aD F Ws Ts md hd hD;have Mk:=T.qsx.fx λf fd F=>M7 X F T.qQx T.qMx;have Sd:=T.qtx.fx λf fd F=>M8 X F Sy Mk;have Ls:=JU T 13;have Nr:=T.qux.fx λf fd F=>Nl F;have Nw:=T.qvx.fx λf fd F=>Nj F;have Nd:=T.qwx.fx λf fd F=>Nk F T.qWx;have Bd:=T.qxx.fx λf fd F=>Np F Nr Nw Nd T.qWx T.qRx;have Kp:=T.qyx.fx λf fd F=>Nq F Sd Ls;have Ld:=T.qzx.fx λf fd F=>Nt F Sd T.qUx;have Na:=T.qrx.fx λf fd F=>FC F T.qUx;exact Nu F Po (MdI.new i0 mD λf fd F=>M4 ab aD F) Na Ls Sd Bd Kp Ld T.qRx T.qUx T.qXx T.qSx
end
variable {K:yav} {w:PySem.World} {P:PySem.Program} {mg:PySem.Str->Option PySem.Value} {base:PySem.Heap}
theorem FU (T:Txt P w K mg) (F:bf K "law" "law" (aG 141) f fd):io P w K mg base 100 f fd ["_law_script"] jN:= @FT ⟨P,w,K,mg,base⟩ _ _ T F
theorem law_mk {l:PySem.W.OpenLaw} {f:Addr} {od an:Option Addr} {Z:Array (Option Value)} {oc kV S pm L ct:Value} (X:K.In h) (G:h.Ns mainGlobals mg) (B:mg "law"=some (.ref Y)) (a:nsIn K mainGlobals "law"=some (some (.ref f))) (lk:K.lookup f=some ⟨oc,od,.func (fnOf "law" "law" (bq (aG 141)) (aZ (aG 141)) (ae (aG 141)) .none kV S pm an L ct),Z⟩) (c:codeIn K L "law"=true) (k:keepIn K (.ref f)=true) (T:Txt l.prog w K mg):
 ∃fd:FuncData,(∀(s:Shared) (v:Value),BindsTo s fd ⟨[v],[]⟩ [("_law_script",v)])/\∀base:Heap,K.In base->base.Ns mainGlobals mg->cW l.prog w K mg base wS 100 Y fd ["_law_script"] (xf K jN):=by
 cases B.symm.trans (mg_of X G a);exact⟨fnOf "law" "law" (bq (aG 141)) (aZ (aG 141)) (ae (aG 141)) .none kV S pm an L ct,λs v=> .of_eq rfl,λbase _ _=>FU T (fV lk c k)⟩
theorem gm_READERS (X:K.In h) (G:h.Ns mainGlobals mg) (n:nsIn K mainGlobals "READERS"=some (some (.ref a))) (l:K.lookup a=some ⟨.type "dict",none,.dict (([("NAME",t0,b0),("KEPT",t1,Y),("EXPR",t2,b2),("N",Z,b3),("BASE",t4,S),("TREE",t5,B),("WAY",t6,L)]:List (Str×Tok×Addr)).map (vS w)).toArray ep,#[]⟩) (c:(a==sysModules)=false) (m0:mg "new_name"=some (.ref b0)) (m1:mg "kept_name"=some (.ref Y)) (m2:mg "expression"=some (.ref b2)) (m3:mg "whole_number"=some (.ref b3)) (m4:mg "whole_number"=some (.ref S)) (m5:mg "tree_told"=some (.ref B)) (m6:mg "way_told"=some (.ref L)):∃a b0 Y b2 b3 S B L:Addr,mg "READERS"=some (.ref a)/\mU P w K a [("NAME",b0),("KEPT",Y),("EXPR",b2),("N",b3),("BASE",S),("TREE",B),("WAY",L)]/\mg "new_name"=some (.ref b0)/\mg "kept_name"=some (.ref Y)/\mg "expression"=some (.ref b2)/\mg "whole_number"=some (.ref b3)/\mg "whole_number"=some (.ref S)/\mg "tree_told"=some (.ref B)/\mg "way_told"=some (.ref L):=⟨a,b0,Y,b2,b3,S,B,L,mg_of X G n,mU.of [("NAME",t0,b0),("KEPT",t1,Y),("EXPR",t2,b2),("N",Z,b3),("BASE",t4,S),("TREE",t5,B),("WAY",t6,L)] c l,m0,m1,m2,m3,m4,m5,m6⟩
theorem gm_FORMS {a b0 b1 b2 b3 b4 Z b6 b7 b8 b9 B L:Addr} {t0 t2 t3 t4 t5 t6 t7 t8 t9 af ai ad ab:Tok} {ep:Nat} (X:K.In h) (G:h.Ns mainGlobals mg) (n:nsIn K mainGlobals "FORMS"=some (some (.ref a))) (l:K.lookup a=some ⟨.type "dict",none,.dict (([("let",t0,b0),("tell",t1,b1),("drop",t2,b2),("hold",t3,b3),("minus",t4,b4),("share",t5,Z),("common",t6,b6),("rung",t7,b7),("step",t8,b8),("tree",t9,b9),("cut",af,S),("write",ai,B),("down",ad,Y),("worth",ab,L)]:List (Str×Tok×Addr)).map (vS w)).toArray ep,#[]⟩) (c:(a==sysModules)=false) (m0:GTx K b0 ["NAME","EXPR"]) (m1:GTx K b1 ["EXPR"]) (m2:GTx K b2 ["KEPT"]) (m3:GTx K b3 ["EXPR","EXPR"]) (m4:GTx K b4 ["EXPR","EXPR"]) (m5:GTx K Z ["EXPR","EXPR"]) (m6:GTx K b6 ["EXPR","EXPR"]) (m7:GTx K b7 ["EXPR","EXPR"]) (m8:GTx K b8 ["EXPR","N"]) (m9:GTx K b9 ["TREE"]) (as:GTx K S ["TREE","WAY","N"]) (aj:GTx K B ["N","BASE"]) (az:GTx K Y ["EXPR","BASE"]) (ar:GTx K L ["EXPR","BASE"]):∃a b0 b1 b2 b3 b4 Z b6 b7 b8 b9 S B Y L:Addr,mg "FORMS"=some (.ref a)/\mU P w K a [("let",b0),("tell",b1),("drop",b2),("hold",b3),("minus",b4),("share",Z),("common",b6),("rung",b7),("step",b8),("tree",b9),("cut",S),("write",B),("down",Y),("worth",L)]/\GTx K b0 ["NAME","EXPR"]/\GTx K b1 ["EXPR"]/\GTx K b2 ["KEPT"]/\GTx K b3 ["EXPR","EXPR"]/\GTx K b4 ["EXPR","EXPR"]/\GTx K Z ["EXPR","EXPR"]/\GTx K b6 ["EXPR","EXPR"]/\GTx K b7 ["EXPR","EXPR"]/\GTx K b8 ["EXPR","N"]/\GTx K b9 ["TREE"]/\GTx K S ["TREE","WAY","N"]/\GTx K B ["N","BASE"]/\GTx K Y ["EXPR","BASE"]/\GTx K L ["EXPR","BASE"]:=⟨a,b0,b1,b2,b3,b4,Z,b6,b7,b8,b9,S,B,Y,L,mg_of X G n,mU.of [("let",t0,b0),("tell",t1,b1),("drop",t2,b2),("hold",t3,b3),("minus",t4,b4),("share",t5,Z),("common",t6,b6),("rung",t7,b7),("step",t8,b8),("tree",t9,b9),("cut",af,S),("write",ai,B),("down",ad,Y),("worth",ab,L)] c l,m0,m1,m2,m3,m4,m5,m6,m7,m8,m9,as,aj,az,ar⟩
theorem gm_DEEDS {a b0 b1 b2 b3 b4 Z b6 b7 b8 b9 B L:Addr} {t0 t2 t3 t4 t5 t6 t7 t8 t9 af ai ad ab:Tok} {ep:Nat} (X:K.In h) (G:h.Ns mainGlobals mg) (n:nsIn K mainGlobals "DEEDS"=some (some (.ref a))) (l:K.lookup a=some ⟨.type "dict",none,.dict (([("let",t0,b0),("tell",t1,b1),("drop",t2,b2),("hold",t3,b3),("minus",t4,b4),("share",t5,Z),("common",t6,b6),("rung",t7,b7),("step",t8,b8),("tree",t9,b9),("cut",af,S),("write",ai,B),("down",ad,Y),("worth",ab,L)]:List (Str×Tok×Addr)).map (vS w)).toArray ep,#[]⟩) (c:(a==sysModules)=false) (m0:mg "tell_number"=some (.ref b0)) (m1:mg "tell_number"=some (.ref b1)) (m2:mg "tell_dropped"=some (.ref b2)) (m3:mg "tell_order"=some (.ref b3)) (m4:mg "tell_minus"=some (.ref b4)) (m5:mg "tell_share"=some (.ref Z)) (m6:mg "tell_common"=some (.ref b6)) (m7:mg "tell_rung"=some (.ref b7)) (m8:mg "tell_step"=some (.ref b8)) (m9:mg "tell_tree"=some (.ref b9)) (as:mg "tell_cut"=some (.ref S)) (aj:mg "tell_written"=some (.ref B)) (az:mg "tell_down"=some (.ref Y)) (ar:mg "tell_worth"=some (.ref L)):∃a b0 b1 b2 b3 b4 Z b6 b7 b8 b9 S B Y L:Addr,mg "DEEDS"=some (.ref a)/\mU P w K a [("let",b0),("tell",b1),("drop",b2),("hold",b3),("minus",b4),("share",Z),("common",b6),("rung",b7),("step",b8),("tree",b9),("cut",S),("write",B),("down",Y),("worth",L)]/\mg "tell_number"=some (.ref b0)/\mg "tell_number"=some (.ref b1)/\mg "tell_dropped"=some (.ref b2)/\mg "tell_order"=some (.ref b3)/\mg "tell_minus"=some (.ref b4)/\mg "tell_share"=some (.ref Z)/\mg "tell_common"=some (.ref b6)/\mg "tell_rung"=some (.ref b7)/\mg "tell_step"=some (.ref b8)/\mg "tell_tree"=some (.ref b9)/\mg "tell_cut"=some (.ref S)/\mg "tell_written"=some (.ref B)/\mg "tell_down"=some (.ref Y)/\mg "tell_worth"=some (.ref L):=⟨a,b0,b1,b2,b3,b4,Z,b6,b7,b8,b9,S,B,Y,L,mg_of X G n,mU.of [("let",t0,b0),("tell",t1,b1),("drop",t2,b2),("hold",t3,b3),("minus",t4,b4),("share",t5,Z),("common",t6,b6),("rung",t7,b7),("step",t8,b8),("tree",t9,b9),("cut",af,S),("write",ai,B),("down",ad,Y),("worth",ab,L)] c l,m0,m1,m2,m3,m4,m5,m6,m7,m8,m9,as,aj,az,ar⟩
theorem walk {l:PySem.W.OpenLaw} {XP:(Str->Option Value)->Heap->Prop} {S:World->Heap->Prop} {d:DefRec} {K:Params->yav} (hn:l.most=some 63) (L:d.params.defaults=[])
 (hY:∀(w:World) (h:Heap),S w h->(K w.params).In h)
 (F:∀(w:World) (mg:yew) (Y:Addr) (h:Heap),(K w.params).In h->h.Ns mainGlobals mg->mg d.name=some (.ref Y)->
   ∃fd:FuncData,(∀(s:Shared) (u:Value),BindsTo s fd ⟨[u],[]⟩ [("_law_script",u)])/\∀base:Heap,(K w.params).In base->base.Ns mainGlobals mg->cW l.prog w (K w.params) mg base wS 100 Y fd ["_law_script"] (xf (K w.params) jN)):
 PySem.W.WalkO q B XP S l.row.toRowW d [] (λf vs=>PySem.call f vs):=
 _L.walk_of (n:=63) (k:=100) (x:="_law_script") (CX:=λ_=>wS) (sp:=λw=>xf (K w.params) jN) hn (by decide) L ⟨rfl,by decide,by decide⟩ hY F (λ_ _ _ _ hl Z hS=>vH Z hS hl) λ_ _ _ _ _ z=>z
end _W
local macro_rules | `(tactic| walk_at "e") => `(tactic| (intro _ _ _ _ _ _; (try refine _L.lnT ?_); (repeat refine _L.lnS fun _ => ?_); first | exact _L.lnZ rfl | exact _L.lnZ ⟨_, rfl, rfl⟩))
local macro_rules | `(tactic| walk_at "v") => `(tactic| ((repeat refine .cons ⟨_, rfl⟩ ?_); exact .nil))
set_option tactic.hygienic true
open PySem PySem.W PyProof.Rows
set_option maxRecDepth 100000 in
set_option maxHeartbeats 0 in
theorem PySem.Challenge.cw_hydrahouse_k76_desk_refusals_holds : PySem.Challenge.rw_hydrahouse_k76_desk_refusals.Holds := by
 refine _Z.q ?_
 k_fill
 refine _W.walk (l:=PySem.Challenge.rw_hydrahouse_k76_desk_refusals) rfl rfl (λw h Y=>PySem.W.kIn_of Y) ?F
 case F=>
  intro w mg fa h KX G hmg;refine' _W.law_mk KX G hmg ?a ?l ?c ?k ?T
  (case a=>k_is)
  (case l=>k_is)
  (case c=>k_is)
  (case k=>k_is)
  (case T=>
    constructor
    (case k_Reading=>walk_at "k")
    (case k_Desk=>walk_at "k")
    (case x_=>refine' _L.ex_mk ?m ?t;(case m=>walk_at "x");(case t=>kernel_rfl))
    (case gd_READERS=>refine' _W.gm_READERS KX G ?ga ?gl ?gc ?_ ?_ ?_ ?_ ?_ ?_ ?_;(case ga=>k_is);(case gl=>k_is);(case gc=>rfl);all_goals (refine' mg_of KX G ?gb;(case gb=>k_is)))
    (case gd_FORMS=>refine' _W.gm_FORMS KX G ?ga ?gl ?gc ?_ ?_ ?_ ?_ ?_ ?_ ?_ ?_ ?_ ?_ ?_ ?_ ?_ ?_;(case ga=>k_is);(case gl=>k_is);(case gc=>rfl);all_goals walk_at "g")
    (case gd_DEEDS=>refine' _W.gm_DEEDS KX G ?ga ?gl ?gc ?_ ?_ ?_ ?_ ?_ ?_ ?_ ?_ ?_ ?_ ?_ ?_ ?_ ?_;(case ga=>k_is);(case gl=>k_is);(case gc=>rfl);all_goals (refine' mg_of KX G ?gb;(case gb=>k_is)))
    all_goals walk_at "d")
