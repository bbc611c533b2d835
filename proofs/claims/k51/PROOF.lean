import PyProof.Rows.All
import Wide.All
import OpenK.AllK
import Wide.FinOn
import PyProof.EqAt
import PyProof.EqKinds
import PyProof.TupleCall
import Lean
import PyProof.Rows.BitMore
import PyProof.ExcBaseAll.ValueError
import PyProof.ExcArgsOwn
import KE.KLam
import PyProof.InstStoreFacts
import PyProof.FString
import PyProof.FString2
import PyProof.Rows.FStr
import PyProof.FitsInt
import PyProof.ZipIter
import PyProof.Rows.ZipGen
import PyProof.AttrMissHeap
import KE.KDictOf
import PyProof.DictCompW
import PyProof.DictWalks
import PyProof.AutoSeq1
import PyProof.Rows.SeqMore
import PySem.Challenge.RW_markworks_k51_whole_first_unled
set_option Elab.async false
set_option linter.all false
set_option maxRecDepth 100000
set_option maxHeartbeats 4000000
abbrev Z9:=@Array.getElem?_eq_some_iff
abbrev Z8:=@List.getElem?_eq_some_iff
abbrev Z7:=@List.getElem?_eq_getElem
abbrev Z6:=@Option.map_eq_some_iff
abbrev Z5:=@PySem.lookup_relabel_local
abbrev Z4:=@PySem.wpAny_isSubtype_exc
abbrev Z3:=@PySem.wpAny_Call_Name_kw
abbrev Z2:=@Nat.lt_of_lt_of_le
abbrev Z1:=@Int.natCast_nonneg
abbrev Z0:=@PySem.wpAny_truthy_bool
abbrev ZY:=@PySem.wpAny_loadPart_at
abbrev ZX:=@PySem.Heap.get?_push_of_some
abbrev ZW:=@PySem.Heap.get?_update_other
abbrev ZV:=@of_decide_eq_true
abbrev ZU:=@PySem.Heap.get?_update_self
abbrev ZT:=@List.mem_append_right
abbrev ZS:=@List.length_filter_le
abbrev ZR:=@List.mem_cons_of_mem
abbrev ZQ:=@List.mem_of_getElem?
abbrev ZP:=@List.mem_append_left
abbrev ZO:=@decide_eq_false
abbrev ZN:=@PySem.Heap.get?_push_size
abbrev ZM:=@List.filterMap_cons
abbrev ZL:=@decide_eq_true
abbrev ZK:=@PySem.wpAny_holding
abbrev ZJ:=@PySem.wpAny_standAt
abbrev ZI:=@List.mem_cons_self
abbrev ZH:=@List.length_append
abbrev ZG:=@List.mem_singleton
abbrev ZF:=@Nat.lt_irrefl
abbrev ZE:=@List.getElem?_map
abbrev ZD:=@List.take_add_one
abbrev ZC:=@Nat.ne_of_lt
abbrev ZB:=@List.take_length
abbrev ZA:=@List.length_take
abbrev Zz:=@List.lookup_cons
abbrev Zy:=@Nat.le_refl
abbrev Zx:=@PySem.wpAny_bind
abbrev Zw:=@PySem.wpAny_pure
abbrev Zv:=@PySem.wpAny_mono
abbrev Zu:=@List.map_append
abbrev Zt:=@List.append_nil
abbrev Zs:=@List.nodup_cons
abbrev Zr:=@List.mem_map
abbrev Zq:=@if_neg
abbrev Zp:=@if_pos
theorem qb {p:Prop} (h:p:=by decide +kernel):p:=h
theorem qc {p:Prop} (h:p:=by decide):p:=h
theorem qe {p:Prop} (h:p:=by omega):p:=h
theorem qd {α:Sort _} {a b:α} (h:a=b:=by kernel_rfl):a=b:=h
theorem AH {α:Type u}{β:Type v}{as:List α} (f:α->β):(as.map f).length=as.length:=List.length_map f
abbrev Aa:=List (PySem.Str×Nat)
abbrev VS:=PySem.Value->PySem.Shared->Prop
abbrev LO:=List (PySem.Addr×PySem.Obj)
abbrev SV:=PySem.Str->Option PySem.Value
open PySem in
abbrev FG:=W.Frag
open List (all_map any_cons any_eq_true any_map append_nil cons_append contains_cons filterMap_cons filter_append filter_cons filter_cons_of_pos filter_nil find?_cons flatten_cons foldl_append foldl_cons getD_eq_getElem?_getD getElem?_map length_append length_cons length_filter_le length_nil length_singleton length_take lookup_cons map_append map_cons map_map map_nil map_take mem_append mem_append_left mem_append_right mem_cons mem_cons_of_mem mem_cons_self mem_filter mem_map mem_of_getElem? mem_of_mem_take mem_range mem_singleton nil_append nodup_append nodup_cons nodup_nil not_mem_nil of_mem_zip pairwise_map replicate_succ size_toArray sum_append sum_cons take_add_one take_append_drop take_length take_sublist)
open PySem.Heap (get?_push_of_some get?_push_size get?_update_other get?_update_self lt_size size_push size_update)
section
namespace L2
open PySem
theorem jS:1 <= sizeLine:=by decide
theorem gc:2 <= sizeLine:=by decide
theorem iE:3 <= sizeLine:=by decide
theorem sl4:4 <= sizeLine:=by decide
theorem sl6:6 <= sizeLine:=by decide
theorem sl7:7 <= sizeLine:=by decide
theorem sl9:9 <= sizeLine:=by decide
end L2
end
section
namespace L2
open PySem PySem.Spec PyProof.Rows
abbrev Key:=Sum Int Str
noncomputable def HJ:Key->Value->Bool
 | .inl k,v=>Value.isInt k v
 | .inr x,v=>Value.isStrOf x v
noncomputable def Vv (w:World):Key->Int
 | .inl k=>hashInt k
 | .inr x=>hashStr w x
theorem BI:∀ {k:Key}{v:Value},HJ k v=true->(∃i t,k=Sum.inl i/\v=Value.int i t)\/(∃x t,k=Sum.inr x/\v=Value.str x t)
 | .inl i,v,h=>by
  obtain⟨t,e⟩:=Value.isInt_shape (k:=i) (v:=v) h;exact .inl ⟨i,t,rfl,e⟩
 | .inr x,v,h=>by
  obtain⟨t,e⟩:=Value.isStrOf_shape (x:=x) (v:=v) h;exact .inr ⟨x,t,rfl,e⟩
theorem N6 (i:Int) (t:Tok):HJ (.inl i) (.int i t)=true:=by simp[HJ,Value.isInt]
theorem N7 (x:Str) (t:Tok):HJ (.inr x) (.str x t)=true:=by simp[HJ,Value.isStrOf]
theorem Td (a b:Int):decide ((Sum.inl a:Key)=Sum.inl b)=(a == b):=by
 by_cases e:a=b
 ·subst e;simp
 ·have h:¬ (Sum.inl a:Key)=Sum.inl b:=fun q=>e (Sum.inl.inj q);rw[ZO h];exact(beq_eq_false_iff_ne.mpr e).symm
theorem Te (a b:Str):decide ((Sum.inr a:Key)=Sum.inr b)=decide (a=b):=by
 by_cases e:a=b
 ·subst e;simp
 ·have h:¬ (Sum.inr a:Key)=Sum.inr b:=fun q=>e (Sum.inr.inj q);rw[ZO h,ZO e]
theorem Tf (a:Int) (b:Str):decide ((Sum.inl a:Key)=Sum.inr b)=false:=ZO (fun q=>nomatch q)
theorem Tg (a:Str) (b:Int):decide ((Sum.inr a:Key)=Sum.inl b)=false:=ZO (fun q=>nomatch q)
noncomputable def Ar (prog:Program) (w:World):PySem.KeyKind prog w Key where
 is:=HJ
 hash:=Vv w
 inj:=fun v a b ha hb=>by
  rcases BI ha with⟨i,t,rfl,rfl⟩ |⟨x,t,rfl,rfl⟩
  ·rcases BI hb with⟨j,u,rfl,e⟩ |⟨y,u,rfl,e⟩
   ·injection e with e1 _;rw[e1]
   ·exact nomatch e
  ·rcases BI hb with⟨j,u,rfl,e⟩ |⟨y,u,rfl,e⟩
   ·exact nomatch e
   ·injection e with e1 _;rw[e1]
 byValue:=fun k v h=>by
  rcases BI h with⟨i,t,rfl,rfl⟩ |⟨x,t,rfl,rfl⟩ <;> rfl
 pyHash:=fun hv h=>by
  rcases BI hv with⟨i,t,rfl,rfl⟩ |⟨x,t,rfl,rfl⟩
  ·exact wpAny_pyHash_int h
  ·exact wpAny_pyHash_str h
 eqBool:=fun hu hv h=>by
  rcases BI hu with⟨i,t,rfl,rfl⟩ |⟨x,t,rfl,rfl⟩
  ·rcases BI hv with⟨j,u,rfl,rfl⟩ |⟨y,u,rfl,rfl⟩
   ·rw[Td]at h;exact wpAny_eqBool_int h
   ·rw[Tf]at h;exact SeqAt.EqAt.int_str i t y u _ _ _ _ h
  ·rcases BI hv with⟨j,u,rfl,rfl⟩ |⟨y,u,rfl,rfl⟩
   ·rw[Tg]at h;exact SeqAt.EqAt.str_int x t j u _ _ _ _ h
   ·rw[Te]at h;exact wpAny_eqBool_str h
 «strs»:=fun k x t v h=>by
  rcases BI h with⟨i,u,rfl,e⟩ |⟨y,u,rfl,e⟩
  ·exact nomatch e
  ·injection e with e1 _
   subst e1;cases v <;> rfl
theorem Ke (prog:Program) (w:World) (i:Int) (t:Tok):(Ar prog w).is (.inl i) (.int i t)=true:=N6 i t
theorem Ki (prog:Program) (w:World) (x:Str) (t:Tok):(Ar prog w).is (.inr x) (.str x t)=true:=N7 x t
end L2
namespace L2
open PySem PySem.Spec PyProof.Rows
inductive V where
 |aU |bl (b:Bool) |int (i:Int) |str (x:Str) |iO (b:Array UInt8) |jJ (b:UInt64) |ref (a:Addr) |ty (n:String)
 deriving DecidableEq
def RelV:V->Value->Prop
 | .aU,u=>u=Value.none
 | .bl b,u=>u=Value.bool b
 | .int i,u=>∃t,u=Value.int i t
 | .str x,u=>∃t,u=Value.str x t
 | .iO b,u=>∃t,u=Value.bytes b t
 | .jJ b,u=>∃t,u=Value.float b t
 | .ref a,u=>u=Value.ref a
 | .ty n,u=>u=Value.type n
abbrev Vals:List V->List Value->Prop:=Paired RelV
theorem Vals.length {xs:List V}{us:List Value} (r:Vals xs us):xs.length=us.length:=Paired.length r
theorem Vals.get:∀ {xs:List V}{us:List Value}{i:Nat}{x:V},Vals xs us->xs[i]?=some x->∃u,us[i]?=some u/\RelV x u
 |_,_,_,_,.nil,e=>by simp at e
 |_,_,0,_,.cons r _,e=>by simp at e;subst e;exact⟨_,rfl,r⟩
 |_,_,i + 1,x,.cons _ t,e=>by
  obtain⟨u,h1,h2⟩:=Vals.get (i:=i) (x:=x) t (by simpa using e);exact⟨u,by simpa using h1,h2⟩
theorem Vals.set {x:V}{u:Value} (r:RelV x u):∀ {xs:List V}{us:List Value} (i:Nat),Vals xs us->Vals (xs.set i x) (us.set i u)
 |_,_,_,.nil=>.nil
 |_,_,0,.cons _ t=>.cons r t
 |_,_,i + 1,.cons q t=>.cons q (Vals.set r i t)
theorem Vals.append:∀ {xs ys:List V}{us ws:List Value},Vals xs us->Vals ys ws->Vals (xs++ys) (us++ws)
 |_,_,_,_,.nil,s=>s
 |_,_,_,_,.cons r t,s=>.cons r (Vals.append t s)
theorem Vals.take:∀ {xs:List V}{us:List Value} (n:Nat),Vals xs us->Vals (xs.take n) (us.take n)
 |_,_,0,_=>.nil
 |_,_,_ + 1,.nil=>.nil
 |_,_,n + 1,.cons r t=>.cons r (Vals.take n t)
theorem Vals.drop:∀ {xs:List V}{us:List Value} (n:Nat),Vals xs us->Vals (xs.drop n) (us.drop n)
 |_,_,0,r=>r
 |_,_,_ + 1,.nil=>.nil
 |_,_,n + 1,.cons _ t=>Vals.drop n t
def eR:Option V->Option Value->Prop
 |some v,some u=>RelV v u
 |none,none=>True
 |_,_=>False
def KV {κ:Type}:List (κ×V)->List (κ×Value)->Prop:=Paired fun (p:κ×V) (q:κ×Value)=>p.1=q.1/\RelV p.2 q.2
noncomputable def kV:Key->V
 | .inl i=>.int i
 | .inr x=>.str x
abbrev LK:=List (Key×V)
inductive HO where
 |lst (xs:List V)
 |tup (xs:List V)
 |dK (kvs:LK) |dT (kvs:List (List Key×V))
 |set (S:Int->Bool) (n:Nat)
 |ins (C dx:Addr) (fs:List (Str×V))
 |own (x:Addr)
 |xd (fs:List (Str×V))
 |met (f x:Addr)
 |rng (lo hi:Int)
 |dA (o:Obj) (u:HO)
 |gA (ps:Array Value)
 |ext (φ:Heap->Prop)
abbrev Hp:=Addr->Option HO
noncomputable def upd (H:Hp) (a:Addr) (o:HO):Hp:=fun b=>if b=a then some o else H b
theorem aA {H:Hp}{a:Addr}{o:HO}:upd H a o a=some o:=by unfold upd;rw[Zp rfl]
theorem AF {H:Hp}{a b:Addr}{o:HO} (h:b≠a):upd H a o b=H b:=by unfold upd;rw[Zq h]
theorem FP {H:Hp}{a:Addr}{o u:HO}:upd (upd H a o) a u=upd H a u:=by
 funext b;unfold upd;split <;> rfl
theorem Uw {H:Hp}{a b:Addr}{o u:HO} (h:H a=some o) (h':H b=some u) (d:o≠u):a≠b:=by
 intro e;subst e;rw[h]at h';exact d (Option.some.inj h')
theorem AG {H:Hp}{a b:Addr}{o:HO} (h:H a=some o) (h':H b=none):a≠b:=by
 intro e;subst e;rw[h]at h';cases h'
section
variable (P:Program) (w:World)
def aT (H:Hp) (h:Heap) (a:Addr):HO->Prop
 | .lst xs=>xs.length <= sizeLine/\∃(its:List Value) (n:Nat),Vals xs its/\h.get? a=some { cls:=.type "list", data:=.seq its.toArray n }
 | .tup xs=>xs.length <= sizeLine/\∃its:List Value,Vals xs its/\IsTup h a its.toArray
 | .dK kvs=>kvs.length <= sizeLine/\(a == sysModules)=false/\∃vs,KV kvs vs/\h.DictOf (Ar P w) a vs
 | .dT kvs=>kvs.length <= sizeLine/\(a == sysModules)=false/\∃xs:List (List Key×Addr×Value),
   Paired (fun (p:List Key×V) (q:List Key×Addr×Value)=>p.1=q.1/\H q.2.1=some (.tup (p.1.map kV))/\RelV p.2 q.2.2) kvs xs /\
   ∃o es ep,h.get? a=some o/\o.ExactDict/\o.data=.dict es ep/\es.toList=xs.map (entryOfKey (tupleKind (Ar P w)))/\(xs.map (·.1)).Nodup
 | .set S n=>h.SetOf (intKind P w) a S n
 | .ins C dx fs=>H dx=some (.own a)/\fs.length <= 1000/\dx≠a/\h.get? a=some (W.instObj C dx) /\
   ∃mA,h.Ns1 dx mA/\(∀f,eR (fs.lookup f) (mA f))/\PySem.Within mA (fs.map (·.1))
 | .own _=>∃o,h.get? a=some o
 | .xd fs=>∃mA,h.Ns1 a mA/\∀f,eR (fs.lookup f) (mA f)
 | .rng lo hi=>∃t u v,h.get? a=some { cls:=.type "range", data:=.fields #[.int lo t,.int hi u,.int 1 v] }
 | .dA o u=>h.get? a=some o/\aT H h a u
 | .gA ps=>h.get? a=some { cls:=.none,data:=.fields ps }
 | .met f x=>h.get? a=some (W.methodObj (.ref f) (.ref x))
 | .ext φ=>φ h/\(∃o,h.get? a=some o)/\∀h1 h2:Heap,φ h1->(∀o,h1.get? a=some o->h2.get? a=some o)->φ h2
def eE (H:Hp) (h:Heap):Prop:=∀a o,H a=some o->aT P w H h a o
end
section
variable {P:Program}{w:World}{H H':Hp}{h h':Heap}{a:Addr}{o:HO}
theorem aT.lt (x:aT P w H h a o):a < h.objs.size:=by
 cases o with
 |lst xs=>obtain⟨_,_,_,_,e⟩:=x;exact lt_size e
 |tup xs=>obtain⟨_,_,_,p⟩:=x;exact p.lt
 |dK kvs=>obtain⟨_,_,_,_,o,_,_,e,_⟩:=x;exact lt_size e
 |dT kvs=>obtain⟨_,_,_,_,o,_,_,e,_⟩:=x;exact lt_size e
 |set S n=>obtain⟨o,_,_,_,e,_⟩:=x;exact lt_size e
 |ins C dx fs=>obtain⟨_,_,_,e,_⟩:=x;exact lt_size e
 |own y=>obtain⟨_,e⟩:=x;exact lt_size e
 |xd fs=>obtain⟨_,⟨_,_,_,e,_⟩,_⟩:=x;exact lt_size e
 |rng lo hi=>obtain⟨_,_,_,e⟩:=x;exact lt_size e
 |dA ob u=>obtain⟨e,_⟩:=x;exact lt_size e
 |gA ps=>exact lt_size (show h.get? a=some _ from x)
 |met f y=>exact lt_size (show h.get? a=some _ from x)
 |ext φ=>obtain⟨_,⟨_,e⟩,_⟩:=x;exact lt_size e
theorem Paired.mapP {α β:Type}{F G:α->β->Prop}:∀ {l₁:List α}{l₂:List β},Paired F l₁ l₂->(∀a b,F a b->G a b)->Paired G l₁ l₂
 |_,_,.nil,_=>.nil
 |_,_,.cons r t,f=>.cons (f _ _ r) (Paired.mapP t f)
theorem Paired.imp' {α β:Type}{F G:α->β->Prop} (f:∀a b,F a b->G a b) {l₁:List α}{l₂:List β} (r:Paired F l₁ l₂):Paired G l₁ l₂:=Paired.mapP r f
theorem aT.fY (x:aT P w H h a o) (k:∀b u,(b=a\/H b=some (.own a))->h.get? b=some u->h'.get? b=some u)
  (ho:∀b,H b=some (.own a)->H' b=some (.own a)) (ht:∀b xs,H b=some (.tup xs)->H' b=some (.tup xs)):aT P w H' h' a o:=by
 induction o with
 |lst xs=>obtain⟨z,its,n,r,e⟩:=x;exact⟨z,its,n,r,k _ _ (.inl rfl) e⟩
 |tup xs=>obtain⟨z,its,r,ob,e,c⟩:=x;exact⟨z,its,r,ob,k _ _ (.inl rfl) e,c⟩
 |dK kvs=>obtain⟨z,y,vs,r,ob,es,ep,e,c⟩:=x;exact⟨z,y,vs,r,ob,es,ep,k _ _ (.inl rfl) e,c⟩
 |dT kvs =>
  obtain⟨z,y,xs,r,ob,es,ep,e,c⟩:=x;exact⟨z,y,xs,Paired.mapP r fun p q z=>⟨z.1,ht _ _ z.2.1,z.2.2⟩,ob,es,ep,k _ _ (.inl rfl) e,c⟩
 |set S n=>obtain⟨ob,es,ep,t,e,c⟩:=x;exact⟨ob,es,ep,t,k _ _ (.inl rfl) e,c⟩
 |ins C dx fs =>
  obtain⟨d,z,ne,e,mA,⟨od,es,ep,e2,c⟩,r⟩:=x;exact⟨ho _ d,z,ne,k _ _ (.inl rfl) e,mA,⟨od,es,ep,k _ _ (.inr d) e2,c⟩,r⟩
 |own y=>obtain⟨ob,e⟩:=x;exact⟨ob,k _ _ (.inl rfl) e⟩
 |xd fs=>obtain⟨mA,⟨od,es,ep,e,c⟩,r⟩:=x;exact⟨mA,⟨od,es,ep,k _ _ (.inl rfl) e,c⟩,r⟩
 |rng lo hi=>obtain⟨t,u,v,e⟩:=x;exact⟨t,u,v,k _ _ (.inl rfl) e⟩
 |dA ob u ih=>obtain⟨e,q⟩:=x;exact⟨k _ _ (.inl rfl) e,ih q⟩
 |gA ps =>
  have e:h.get? a=some { cls:=.none,data:=.fields ps }:=x;show h'.get? a=some { cls:=.none,data:=.fields ps };exact k a _ (.inl rfl) e
 |met f y =>
  have e:h.get? a=some (W.methodObj (.ref f) (.ref y)):=x;show h'.get? a=some (W.methodObj (.ref f) (.ref y));exact k a _ (.inl rfl) e
 |ext φ=>obtain⟨p,⟨o,e⟩,st⟩:=x;exact⟨st _ _ p fun o q=>k _ _ (.inl rfl) q,⟨o,k _ _ (.inl rfl) e⟩,st⟩
theorem eE.lt (x:eE P w H h) (e:H a=some o):a < h.objs.size:=(x a o e).lt
theorem eE.fresh (x:eE P w H h) (e:h.objs.size <= a):H a=none:=by
 cases q:H a with
 |none=>rfl
 |some u=>exact absurd (Z2 (x.lt q) e) (ZF _)
theorem eE.kept (x:eE P w H h) (k:∀b u,h.get? b=some u->h'.get? b=some u):eE P w H h':=fun a o e =>
 (x a o e).fY (fun b u _ q=>k b u q) (fun _ q=>q) fun _ _ q=>q
theorem eE.laid (x:eE P w H h) (k:∀b u,h.get? b=some u->h'.get? b=some u) (hp:h.objs.size <= a) (new:aT P w (upd H a o) h' a o):eE P w (upd H a o) h':=fun b u e=>by
 have hn:=x.fresh hp;by_cases hb:b=a
 ·subst hb;rw[aA]at e;cases e;exact new
 ·rw[AF hb]at e;exact(x b u e).fY (fun c v _ q=>k c v q) (fun c q=>by rw[AF (AG q hn)];exact q) fun c xs q=>by rw[AF (AG q hn)];exact q
end
def Rd (H:Hp) (a:Addr) (u:HO):Prop:=H a=some u\/∃o,H a=some (.dA o u)
theorem Rd.ok {P:Program}{w:World}{H:Hp}{h:Heap}{a:Addr}{u:HO} (r:Rd H a u) (x:eE P w H h):aT P w H h a u:=by
 rcases r with r |⟨o,r⟩
 ·exact x a u r
 ·obtain⟨_,q⟩:=x a _ r;exact q
def Mut:Option HO->Prop
 |some (.lst _)=>True
 |some (.dK _)=>True
 |some (.dT _)=>True
 |some (.set _ _)=>True
 |some (.ins _ _ _)=>True
 |some (.ext _)=>True
 |_=>False
section
variable {P:Program}{w:World}{H:Hp}{h h':Heap}{x e:Addr}{o':HO}
theorem eE.write (ok:eE P w H h) (mu:Mut (H x)) (he:e=x\/H e=some (.own x)) (k:∀b u,b≠e->h.get? b=some u->h'.get? b=some u) (heo:∃u,h'.get? e=some u)
  (new:aT P w (upd H x o') h' x o'):eE P w (upd H x o') h':=fun b u q=>by
 have nown:∀c y,H c=some (.own y)->c≠x:=fun c y r z=>by subst z;rw[r]at mu;exact mu
 have ntup:∀c xs,H c=some (.tup xs)->c≠x:=fun c xs r z=>by subst z;rw[r]at mu;exact mu
 by_cases hb:b=x
 ·subst hb;rw[aA]at q;cases q;exact new
 ·rw[AF hb]at q;by_cases jd:b=e
  ·have q':H b=some (.own x):=by
    rcases he with z |z
    ·exact absurd (jd.trans z) hb
    ·rw[jd];exact z
   rw[q]at q';cases q';obtain⟨v,hv⟩:=heo;exact⟨v,by rw[jd];exact hv⟩
  ·refine(ok b u q).fY (fun c v hc r=>k c v ?_ r) (fun c r=>by rw[AF (nown c b r)];exact r) fun c xs r=>by rw[AF (ntup c xs r)];exact r
   rcases hc with rfl |hc
   ·exact jd
   ·rintro rfl;rcases he with z |z
    ·exact nown c b hc z
    ·rw[hc]at z;cases z;exact hb rfl
end
structure Un (fs ex:List Addr) (H H':Hp) (h h':Heap):Prop where
 keep:∀b o,h.get? b=some o->H b=none->b∉ fs->b∉ ex->h'.get? b=some o
 slot:∀b o,h.get? b=some o->H b=none->b∈fs->b∉ ex->∃sl,h'.get? b=some { o with slots:=sl }
 free:∀b o,h.get? b=some o->H b=none->b∉ ex->H' b=none
 there:∀b o,h.get? b=some o->b∉ ex->∃o',h'.get? b=some o'
 fQ:∀b xs,H b=some (.tup xs)->H' b=some (.tup xs)
 ft:∀b o u,H b=some (.dA o u)->H' b=some (.dA o u)
 fj:∀b ps,H b=some (.gA ps)->∃more,H' b=some (.gA (ps++more))
section
variable {fs fs' ex ex':List Addr}{H H1 H2:Hp}{h h1 h2 h':Heap}{a x e:Addr}{o:HO}
theorem Un.any (u:Un fs ex H H1 h h1) {b:Addr}{ob:Obj} (q:h.get? b=some ob) (n:H b=none) (hx:b∉ ex):∃sl,h1.get? b=some { ob with slots:=sl }:=by
 by_cases hb:b∈fs
 ·exact u.slot b ob q n hb hx
 ·exact⟨ob.slots,u.keep b ob q n hb hx⟩
theorem Un.kept (k:∀b u,h.get? b=some u->h'.get? b=some u):Un fs ex H H h h' :=
 ⟨fun b ob q _ _ _=>k b ob q,fun b ob q _ _ _=>⟨ob.slots,k b ob q⟩,fun _ _ _ n _=>n,fun b ob q _=>⟨ob,k b ob q⟩,fun _ _ q=>q,fun _ _ _ q=>q,fun _ ps q=>⟨#[],by rw[q];simp⟩⟩
theorem Un.refl:Un fs ex H H h h:=Un.kept fun _ _ q=>q
theorem Un.laid (k:∀b u,h.get? b=some u->h'.get? b=some u) (hp:h.objs.size <= a) (hn:H a=none):Un fs ex H (upd H a o) h h' where
 keep:=fun b u q _ _ _=>k b u q
 slot:=fun b u q _ _ _=>⟨u.slots,k b u q⟩
 free:=fun b u q n _=>by rw[AF (ZC (Z2 (lt_size q) hp))];exact n
 there:=fun b u q _=>⟨u,k b u q⟩
 fQ:=fun b xs q=>by rw[AF (AG q hn)];exact q
 ft:=fun b u xs q=>by rw[AF (AG q hn)];exact q
 fj:=fun b ps q=>⟨#[],by rw[AF (AG q hn),q];simp⟩
theorem Un.write (mu:Mut (H x)) (he:e=x\/H e=some (.own x)) (k:∀b u,b≠e->h.get? b=some u->h'.get? b=some u) (heo:∃u,h'.get? e=some u):Un fs ex H (upd H x o) h h':=by
 have hx:∀b,H b=none->b≠x:=fun b n z=>by subst z;rw[n]at mu;exact mu
 have hb:∀b,H b=none->b≠e:=fun b n z=>by
  subst z;rcases he with r |r
  ·exact hx b n r
  ·rw[n]at r;cases r
 have hm:∀b u,H b=some u->¬ Mut (some u)->b≠x:=fun b u q nm z=>by subst z;rw[q]at mu;exact nm mu
 refine⟨fun b u q n _ _=>k b u (hb b n) q,fun b u q n _ _=>⟨u.slots,k b u (hb b n) q⟩,fun b u q n _=>by rw[AF (hx b n)];exact n,fun b u q _=>?_,
  fun b xs q=>by rw[AF (hm b _ q fun z=>z)];exact q,fun b u xs q=>by rw[AF (hm b _ q fun z=>z)];exact q,fun b ps q=>⟨#[],by rw[AF (hm b _ q fun z=>z),q];simp⟩⟩
 by_cases jd:b=e
 ·subst jd;exact heo
 ·exact⟨u,k b u jd q⟩
end
noncomputable def trk (h:Heap) (H:Hp):List Addr:=(List.range h.objs.size).filter fun a=>(H a).isSome
noncomputable def HK (h:Heap) (H:Hp):Heap:=W.hideAll h (trk h H)
theorem N8 (h:Heap) (H:Hp):(HK h H).objs.size=h.objs.size:=W.hideAll_size _ _
theorem O9 {h:Heap}{H:Hp}{b:Addr}{o:Obj} (e:h.get? b=some o) (n:H b=none):(HK h H).get? b=some o :=
 W.hideAll_get _ e fun hm=>by
  have q:(H b).isSome=true:=(mem_filter.mp hm).2;rw[n]at q;simp at q
theorem RZ {h:Heap}{H:Hp}{b:Addr}{o:Obj} (e:(HK h H).get? b=some o):h.get? b=some o/\H b=none:=by
 have e':h.get? b=some o:=W.of_hideAll (trk h H) e;refine⟨e',?_⟩;cases q:H b with
 |none=>rfl
 |some x =>
  have hm:b∈trk h H:=mem_filter.mpr ⟨mem_range.mpr (lt_size e'),by simp[q]⟩;have z:(HK h H).get? b=none:=W.hideAll_none (trk h H) hm;rw[z]at e;cases e
end L2
namespace L2
open PySem PySem.Spec PyProof.Rows
structure Mod (K:FG) (mg:SV) (base:Heap):Prop where
 kin:K.In base
 glob:base.Ns mainGlobals mg
 blt:∃mb,base.Ns builtinsNs mb/\∀x:Str,x≠ "__name__" -> mb x=bootBuiltins x
 nolimit:base.NoLimit
structure Cx where
 prog:Program
 w:World
 K:FG
 mg:Str->Option Value
 base:Heap
 A:Around
 N:List Str
 bA:Shared
 fw:Hp
 env:Env
 outer:List Env
 stack:List Env
 ex:List Addr
 fn:Str->Bool
 calm:Bool
 pn:LO
 xe:Value->Shared->Prop
noncomputable def d8 (l:List Env):List Addr:=l.filterMap (·.frame)
noncomputable abbrev Cx.fs (X:Cx):List Addr:=d8 X.outer
def Vis (sc:Scope) (x:Str):Prop:=sc.names.lookup x=some .local\/sc.names.lookup x=some .cell\/sc.names.lookup x=some .free
def Loc (sc:Scope) (x:Str):Prop:=sc.names.lookup x=some .local\/sc.names.lookup x=some .cell
def Vw (env:Env) (h:Heap) (m:SV) (x:Str) (u:Value):Prop :=
 (env.kindOf x=some .local/\m x=some u)\/((env.kindOf x=some .cell\/env.kindOf x=some .free)/\∃c,env.cells.lookup x=some c/\h.IsCell c (some u))
structure Cx.Ok (X:Cx):Prop where
 mod:Mod X.K X.mg X.base
 kind:X.env.scope.kind=.function
 glob:X.env.globals=mainGlobals
 blt:X.env.builtins=builtinsNs
 above:X.bA.heap.objs.size <= X.env.locals
 inj:∀x y c,X.env.cells.lookup x=some c->X.env.cells.lookup y=some c->x=y
 has:∀x,(X.env.kindOf x=some .cell\/X.env.kindOf x=some .free)->∃c,X.env.cells.lookup x=some c
 jf:∀x c,X.fn x=true->X.env.cells.lookup x=some c->X.bA.heap.objs.size <= c
 hd:X.calm=true->X.A.handled=none
 frames:X.A.frames=some X.stack
 gB:X.stack=X.outer\/(X.stack=X.env :: X.outer/\X.env.frame=some X.env.locals)
 exf:∀b∈X.ex,b≠X.env.locals/\∀x c,X.env.cells.lookup x=some c->c≠b
 bs:∀b o,X.base.get? b=some o->X.bA.heap.get? b=some o/\X.fw b=none
 gP:X.base.objs.size <= X.bA.heap.objs.size
 gv:∀b o,X.base.get? b=some o->b∉ X.ex
 gj:∀b∈X.ex,b∉ X.fs
 cZ:X.bA.heap.FunFrames X.base X.outer
 g9:∀b∈X.fs,X.fw b=none
structure Inv (X:Cx) (aa:LO) (σ:List (Option V)) (H:Hp) (s:Shared):Prop where
 ok:X.Ok
 os:s.os=X.bA.os
 bare:AllBare s.gens
 base:Un X.fs X.ex X.fw H X.bA.heap s.heap
 loc:∃m,s.heap.Ns X.env.locals m/\∀(i:Nat) (x:Str) (v:V),X.N[i]?=some x->σ[i]?=some (some v)->Vis X.env.scope x->∃u,RelV v u/\Vw X.env s.heap m x u
 cell:∀x c,X.env.cells.lookup x=some c->∃v,s.heap.IsCell c v
 free:H X.env.locals=none
 cI:∀x c,X.env.cells.lookup x=some c->H c=none
 pin:∀p∈X.pn++aa,s.heap.get? p.1=some p.2/\H p.1=none/\p.1≠X.env.locals/\p.1∉ X.fs/\∀v,p.2.data≠ .cell v
 aI:eE X.prog X.w H s.heap
 len:σ.length=X.N.length
section
variable {X:Cx}{aa:LO}{σ:List (Option V)}{H H':Hp}{s:Shared}{h':Heap}
theorem Cx.Ok.nofr (ok:X.Ok) {b:Addr}{o:Obj} (e:X.base.get? b=some o):b∉ X.fs:=fun hb=>by
 have:=(ok.cZ.mem hb).1;rw[e]at this;cases this
theorem Inv.bs (I:Inv X aa σ H s):∀b o,X.base.get? b=some o->s.heap.get? b=some o/\H b=none:=fun b o e =>
 ⟨I.base.keep b o (I.ok.bs b o e).1 (I.ok.bs b o e).2 (I.ok.nofr e) (I.ok.gv b o e),I.base.free b o (I.ok.bs b o e).1 (I.ok.bs b o e).2 (I.ok.gv b o e)⟩
theorem Inv.bk (I:Inv X aa σ H s):∀b o,X.base.get? b=some o->s.heap.get? b=some o:=fun b o e=>(I.bs b o e).1
theorem Inv.mod (I:Inv X aa σ H s):Mod X.K X.mg X.base:=I.ok.mod
theorem Inv.cS (I:Inv X aa σ H s):X.K.In s.heap:=I.ok.mod.kin.keeps I.bk
theorem Inv.fr (I:Inv X aa σ H s):∃m,Fr X.base X.env.locals s.heap m :=
 let ⟨m,hn,_⟩:=I.loc
 ⟨m,hn,I.bk,Nat.le_trans I.ok.gP I.ok.above⟩
theorem Inv.lt (I:Inv X aa σ H s):X.env.locals < s.heap.objs.size:=let ⟨_,hn,_⟩:=I.loc;hn.lt
theorem Inv.sz (I:Inv X aa σ H s):X.bA.heap.objs.size <= s.heap.objs.size:=Nat.le_trans I.ok.above (Nat.le_of_lt I.lt)
theorem Inv.nofs (I:Inv X aa σ H s) {a:Addr} (h:s.heap.objs.size <= a):a∉ X.fs:=fun hb=>by
 obtain⟨_,o,ho,_⟩:=I.ok.cZ.mem hb;exact absurd (Z2 (lt_size ho) (Nat.le_trans I.sz h)) (ZF _)
theorem Inv.jL (I:Inv X aa σ H s):∀x c,X.env.cells.lookup x=some c->c≠X.env.locals:=fun x c e z=>by
 obtain⟨v,o,ho,hd⟩:=I.cell x c e;obtain⟨m,⟨o',es,ep,gY,hd',_⟩,_⟩:=I.loc;rw[z,gY]at ho;cases ho;rw[hd']at hd;cases hd
theorem Inv.cZ (I:Inv X aa σ H s):s.heap.FunFrames X.base X.outer:=by
 have all:∀(l:List Env),(∀b∈d8 l,b∈X.fs)->X.bA.heap.FunFrames X.base l->s.heap.FunFrames X.base l:=by
  intro l;induction l with
  |nil=>intro _ _;trivial
  |cons env r ih =>
   intro hs hl;obtain⟨hk,⟨L,o,hf,hn,ho,hd⟩,hr⟩:=hl;have hL:L∈X.fs:=hs L (by unfold d8;rw[ZM,hf];exact ZI);obtain⟨sl,e⟩:=I.base.slot L o ho (I.ok.g9 L hL) hL fun z=>I.ok.gj L z hL;exact⟨hk,⟨L,_,hf,hn,e,hd⟩,ih (fun b hb=>hs b (by unfold d8;rw[ZM,hf];exact ZR _ hb)) hr⟩
 exact all X.outer (fun _ hb=>hb) I.ok.cZ
theorem Inv.stack (I:Inv X aa σ H s):s.heap.FunFrames X.base X.stack:=by
 rcases I.ok.gB with e |⟨e,hf⟩
 ·rw[e];exact I.cZ
 ·rw[e];obtain⟨m,hn,_⟩:=I.loc;refine .cons (by rw[I.ok.kind];decide) hf hn ?_ I.cZ;exact Heap.get?_none_of_le (Nat.le_trans I.ok.gP I.ok.above)
theorem Inv.eI (I:Inv X aa σ H s):∀b∈d8 X.stack,b∈X.env.locals :: X.fs:=fun b hb=>by
 rcases I.ok.gB with e |⟨e,hf⟩
 ·rw[e]at hb;exact ZR _ hb
 ·rw[e]at hb;unfold d8 at hb;rw[ZM,hf]at hb;exact hb
theorem Inv.stkFree (I:Inv X aa σ H s):∀b∈d8 X.stack,H b=none:=fun b hb=>by
 rcases mem_cons.mp (I.eI b hb)with e |hb
 ·rw[e];exact I.free
 ·obtain⟨_,o,ho,_⟩:=I.ok.cZ.mem hb;exact I.base.free b o ho (I.ok.g9 b hb) fun z=>I.ok.gj b z hb
theorem Inv.step {g':Array GenState}{t':Nat}{d':Drawn}{ch:List Addr} (I:Inv X aa σ H s)
  (ju:∀b∈ch,(b∈X.ex\/X.bA.heap.objs.size <= b)/\b≠X.env.locals/\(∀x c,X.env.cells.lookup x=some c->c≠b)/\∀p∈X.pn++aa,p.1≠b)
  (keep:∀b o,b≠X.env.locals->b∉ X.fs->b∉ ch->s.heap.get? b=some o->H b=none->h'.get? b=some o)
  (slot:∀b o,b≠X.env.locals->b∈X.fs->b∉ ch->s.heap.get? b=some o->H b=none->∃sl,h'.get? b=some { o with slots:=sl }) (free:∀b o,b∉ ch->s.heap.get? b=some o->H b=none->H' b=none)
  (there:∀b o,b∉ ch->s.heap.get? b=some o->∃o',h'.get? b=some o')
  (fQ:∀b xs,H b=some (.tup xs)->H' b=some (.tup xs)) (ft:∀b o u,H b=some (.dA o u)->H' b=some (.dA o u)) (fj:∀b ps,H b=some (.gA ps)->∃more,H' b=some (.gA (ps++more)))
  (ns:∀m,s.heap.Ns X.env.locals m->h'.Ns X.env.locals m) (aI:eE X.prog X.w H' h') (hg:AllBare g') :
  Inv X aa σ H' { s with heap:=h',gens:=g',drawn:=d',toks:=t' }:=by
 have neL:∀b o,X.bA.heap.get? b=some o->b≠X.env.locals:=fun b o e=>ZC (Z2 (lt_size e) I.ok.above)
 have neC:∀b o,X.bA.heap.get? b=some o->b∉ X.ex->b∉ ch:=fun b o e hx hb=>by
  rcases (ju b hb).1 with z |z
  ·exact hx z
  ·exact absurd (Z2 (lt_size e) z) (ZF _)
 have cellK:∀x c,X.env.cells.lookup x=some c->∀v,s.heap.IsCell c v->h'.IsCell c v:=fun x c e v ⟨o,ho,hd⟩=>by
  have nch:c∉ ch:=fun z=>(ju c z).2.2.1 x c e rfl;by_cases hc:c∈X.fs
  ·obtain⟨sl,q⟩:=slot c o (I.jL x c e) hc nch ho (I.cI x c e);exact⟨_,q,hd⟩
  ·exact⟨o,keep c o (I.jL x c e) hc nch ho (I.cI x c e),hd⟩
 refine⟨I.ok,I.os,hg,⟨fun b o e n hb hx=>?_,fun b o e n hb hx=>?_,fun b o e n hx=>?_,fun b o e hx=>?_,fun b xs e=>fQ b xs (I.base.fQ b xs e),fun b o xs e=>ft b o xs (I.base.ft b o xs e),fun b ps e=>?_⟩,?_,fun x c e=>?_,?_,fun x c e=>?_,fun p hp=>?_,aI,I.len⟩
 ·exact keep b o (neL b o e) hb (neC b o e hx) (I.base.keep b o e n hb hx) (I.base.free b o e n hx)
 ·obtain⟨sl,e1⟩:=I.base.slot b o e n hb hx;obtain⟨sl',e2⟩:=slot b _ (neL b o e) hb (neC b o e hx) e1 (I.base.free b o e n hx);exact⟨sl',e2⟩
 ·obtain⟨o',e1⟩:=I.base.there b o e hx;exact free b o' (neC b o e hx) e1 (I.base.free b o e n hx)
 ·obtain⟨o',e1⟩:=I.base.there b o e hx;exact there b o' (neC b o e hx) e1
 ·obtain⟨m1,e1⟩:=I.base.fj b ps e;obtain⟨m2,e2⟩:=fj b _ e1;exact⟨m1++m2,by rw[e2,Array.append_assoc]⟩
 ·obtain⟨m,hn,hl⟩:=I.loc;refine⟨m,ns m hn,fun i x v e1 e2 e3=>?_⟩;obtain⟨u,r,l⟩:=hl i x v e1 e2 e3;refine⟨u,r,?_⟩;rcases l with l |⟨k,c,e,z⟩
  ·exact .inl l
  ·exact .inr ⟨k,c,e,cellK x c e _ z⟩
 ·obtain⟨v,z⟩:=I.cell x c e;exact⟨v,cellK x c e v z⟩
 ·obtain⟨m,⟨o,_,_,ho,_⟩,_⟩:=I.loc;exact free _ o (fun z=>(ju _ z).2.1 rfl) ho I.free
 ·obtain⟨v,o,ho,hd⟩:=I.cell x c e;exact free c o (fun z=>(ju c z).2.2.1 x c e rfl) ho (I.cI x c e)
 ·obtain⟨e,n,ne,nf,d⟩:=I.pin p hp;have nch:p.1∉ ch:=fun z=>(ju p.1 z).2.2.2 p hp rfl;exact⟨keep p.1 p.2 ne nf nch e n,free p.1 p.2 nch e n,ne,nf,d⟩
theorem Inv.un {t':Nat} (I:Inv X aa σ H s) (u:Un X.fs [] H H' s.heap h') (aI:eE X.prog X.w H' h'):Inv X aa σ H' { s with heap:=h',toks:=t' }:=by
 obtain⟨m,⟨o,es,ep,ho,r⟩,_⟩:=id I.loc;obtain⟨sl,hL⟩:=u.any ho I.free (by simp)
 exact I.step (g':=s.gens) (d':=s.drawn) (ch:=[]) (fun _ z=>nomatch z) (fun b o _ hb _ e n=>u.keep b o e n hb (by simp)) (fun b o _ hb _ e n=>u.slot b o e n hb (by simp)) (fun b o _ e n=>u.free b o e n (by simp)) (fun b o _ e=>u.there b o e (by simp)) u.fQ u.ft u.fj (fun m' hm=>by
  obtain⟨o',es',jv,gY,r'⟩:=hm;rw[ho]at gY;cases gY
  exact⟨_,es',jv,hL,r'⟩) aI I.bare
theorem Inv.call {g':Array GenState}{t':Nat}{d':Drawn}{ch:List Addr} (I:Inv X aa σ H s) (u:Un (d8 X.stack) ch H H' s.heap h') (aI:eE X.prog X.w H' h') (hg:AllBare g')
  (ju:∀b∈ch,(b∈X.ex\/X.bA.heap.objs.size <= b)/\b≠X.env.locals/\(∀x c,X.env.cells.lookup x=some c->c≠b)/\∀p∈X.pn++aa,p.1≠b) :
  Inv X aa σ H' { s with heap:=h',gens:=g',drawn:=d',toks:=t' }:=by
 obtain⟨m,⟨o,es,ep,ho,r⟩,_⟩:=id I.loc;obtain⟨sl,hL⟩:=u.any ho I.free fun z=>(ju _ z).2.1 rfl
 exact I.step (ch:=ch) ju (fun b o hL hb hc e n=>u.keep b o e n (fun z=>(mem_cons.mp (I.eI b z)).elim hL hb) hc) (fun b o _ _ hc e n=>u.any e n hc) (fun b o hc e n=>u.free b o e n hc) (fun b o hc e=>u.there b o e hc) u.fQ u.ft u.fj (fun m' hm=>by
  obtain⟨o',es',jv,gY,r'⟩:=hm;rw[ho]at gY;cases gY
  exact⟨_,es',jv,hL,r'⟩) aI hg
theorem Inv.turned {t':Nat}{it:Addr} (I:Inv X aa σ H s) (k:∀b o,b≠it->s.heap.get? b=some o->h'.get? b=some o) (hn:H it=none) (hL:it≠X.env.locals)
  (h1:it∈X.ex\/X.bA.heap.objs.size <= it) (h2:∀x c,X.env.cells.lookup x=some c->c≠it) (h3:∀p∈X.pn++aa,p.1≠it):Inv X aa σ H { s with heap:=h',toks:=t' }:=by
 have nit:∀b u,H b=some u->b≠it:=fun b u e z=>by rw[z,hn]at e;cases e
 refine I.step (g':=s.gens) (d':=s.drawn) (ch:=[it]) (fun b hb=>?_) (fun b o _ _ hc e _=>k b o (fun z=>hc (by simp[z])) e) (fun b o _ _ hc e _=>⟨o.slots,k b o (fun z=>hc (by simp[z])) e⟩) (fun _ _ _ _ n=>n)
  (fun b o hc e=>⟨o,k b o (fun z=>hc (by simp[z])) e⟩) (fun _ _ e=>e) (fun _ _ _ e=>e) (fun b ps e=>⟨#[],by rw[e];simp⟩) (fun m hm=>?_) (fun b u e=>?_) I.bare
 ·have e:b=it:=by simpa using hb
  subst e;exact⟨h1,hL,h2,h3⟩
 ·obtain⟨o,es,ep,ho,r⟩:=hm;exact⟨o,es,ep,k _ o (Ne.symm hL) ho,r⟩
 ·refine(I.aI b u e).fY (fun c v hc q=>k c v ?_ q) (fun _ q=>q) fun _ _ q=>q;rcases hc with z |z
  ·rw[z];exact nit b u e
  ·exact nit c _ z
theorem Inv.tok (I:Inv X aa σ H s) (t:Nat):Inv X aa σ H { s with toks:=t }:=I.un (h':=s.heap) (t':=t) Un.refl I.aI
theorem Inv.kept {t':Nat} (I:Inv X aa σ H s) (k:∀b u,s.heap.get? b=some u->h'.get? b=some u):Inv X aa σ H { s with heap:=h',toks:=t' }:=I.un (Un.kept k) (I.aI.kept k)
theorem Inv.laid {a:Addr}{o:HO}{t':Nat} (I:Inv X aa σ H s) (k:∀b u,s.heap.get? b=some u->h'.get? b=some u) (hp:s.heap.objs.size <= a) (new:aT X.prog X.w (upd H a o) h' a o) :
  Inv X aa σ (upd H a o) { s with heap:=h',toks:=t' }:=I.un (Un.laid k hp (I.aI.fresh hp)) (I.aI.laid k hp new)
theorem Inv.write {x e:Addr}{o:HO}{t':Nat} (I:Inv X aa σ H s) (mu:Mut (H x)) (he:e=x\/H e=some (.own x)) (k:∀b u,b≠e->s.heap.get? b=some u->h'.get? b=some u) (heo:∃u,h'.get? e=some u)
  (new:aT X.prog X.w (upd H x o) h' x o):Inv X aa σ (upd H x o) { s with heap:=h',toks:=t' }:=I.un (Un.write mu he k heo) (I.aI.write mu he k heo new)
theorem Inv.weak {aK:List (Option V)} (I:Inv X aa σ H s) (hl:aK.length=σ.length) (w:∀(i:Nat) v,aK[i]?=some (some v)->σ[i]?=some (some v)):Inv X aa aK H s :=
 ⟨I.ok,I.os,I.bare,I.base,let ⟨m,hn,iI⟩:=I.loc;⟨m,hn,fun i x v e1 e2 e3=>iI i x v e1 (w i v e2) e3⟩,I.cell,I.free,I.cI,I.pin,I.aI,hl.trans I.len⟩
theorem Inv.cK {pins':LO} (I:Inv X aa σ H s) (h:∀p∈pins',s.heap.get? p.1=some p.2/\H p.1=none/\p.1≠X.env.locals/\p.1∉ X.fs/\∀v,p.2.data≠ .cell v):Inv X pins' σ H s :=
 ⟨I.ok,I.os,I.bare,I.base,I.loc,I.cell,I.free,I.cI,fun p hp=>(mem_append.mp hp).elim (fun z=>I.pin p (ZP _ z)) (h p),I.aI,I.len⟩
theorem Kj {N:List Str} (hN:N.Nodup) {i j:Nat}{x:Str} (a:N[i]?=some x) (b:N[j]?=some x):i=j:=by
 obtain⟨h1,e1⟩:=Z8.mp a;obtain⟨h2,e2⟩:=Z8.mp b;exact(List.getElem_inj hN).mp (e1.trans e2.symm)
theorem JL {M:Model}{A:Around}{E:VS}{i:Nat}{x:Str}{v:V}{u:Value}{Q:Unit->Shared->Prop} (I:Inv X aa σ H s) (hN:X.N.Nodup) (hi:X.N[i]?=some x) (hx:Loc X.env.scope x) (r:RelV v u)
  (h:∀s',Inv X aa (σ.set i (some v)) H s'->(∃a,Heap.SameBut a s.heap s'.heap/\(a=X.env.locals\/X.env.cells.lookup x=some a))->Q () s') (hf:X.fn x=true\/X.env.scope.names.lookup x=some .local:=by first |exact .inl rfl |exact .inr rfl |assumption):wpAny M A (storeName X.env x u) Q E s:=by
 obtain⟨m,hn,hl⟩:=id I.loc;have bo:(X.env.scope.kind == .class || (X.env.scope.kind == .module && X.env.locals != X.env.globals))=false:=by rw[I.ok.kind];rfl
 have hiσ:i < σ.length:=by rw[I.len];exact(Z8.mp hi).1
 have jL:=I.jL
 have tracked:∀ {a:Addr}{h':Heap},(∃o,s.heap.get? a=some o/\H a=none)->Heap.SameBut a s.heap h'->eE X.prog X.w H h':=fun {a h'} ha hs b ob e=>by
  obtain⟨_,_,ce⟩:=ha;refine(I.aI b ob e).fY (fun c w' hc q=>(hs.2 c ?_).trans q) (fun _ q=>q) fun _ _ q=>q;rintro rfl;rcases hc with rfl |hc
  ·rw[ce]at e;cases e
  ·rw[ce]at hc;cases hc
 rcases hx with hk |hk
 ·refine wpAny_storeName_local hk hn (fun h' hn' hs=>?_) bo;obtain⟨oL,_,_,jb,_⟩:=id hn;refine h _ ⟨I.ok,I.os,I.bare,⟨fun b o e n hb hx=>?_,fun b o e n hb hx=>?_,I.base.free,fun b o e hx=>?_,I.base.fQ,I.base.ft,I.base.fj⟩,⟨_,hn',fun j y v' e1 e2 e3=>?_⟩,fun y c e=>?_,I.free,I.cI,fun p hp=>?_,tracked ⟨oL,jb,I.free⟩ hs,by simpa using I.len⟩ ⟨_,hs,.inl rfl⟩
  ·exact(hs.2 b (ZC (Z2 (lt_size e) I.ok.above))).trans (I.base.keep b o e n hb hx)
  ·obtain⟨sl,e1⟩:=I.base.slot b o e n hb hx;exact⟨sl,(hs.2 b (ZC (Z2 (lt_size e) I.ok.above))).trans e1⟩
  ·obtain⟨o',e1⟩:=I.base.there b o e hx;exact⟨o',(hs.2 b (ZC (Z2 (lt_size e) I.ok.above))).trans e1⟩
  ·by_cases hj:j=i
   ·subst hj;rw[hi]at e1;cases e1;rw[List.getElem?_set_self hiσ]at e2;cases e2;exact⟨u,r,.inl ⟨hk,by simp⟩⟩
   ·rw[List.getElem?_set_ne (Ne.symm hj)]at e2;obtain⟨u',r',q⟩:=hl j y v' e1 e2 e3;refine⟨u',r',?_⟩;rcases q with⟨k,e⟩ |⟨k,c,e,z⟩
    ·refine .inl ⟨k,?_⟩;have:y≠x:=fun e=>hj (Kj hN e1 (e ▸ hi));simp[this,e]
    ·exact .inr ⟨k,c,e,z.sameBut hs (jL y c e)⟩
  ·obtain⟨w',z⟩:=I.cell y c e;exact⟨w',z.sameBut hs (jL y c e)⟩
  ·obtain⟨e,n,ne,nf,d⟩:=I.pin p hp;exact⟨(hs.2 p.1 ne).trans e,n,ne,nf,d⟩
 ·have hfn:X.fn x=true:=by
   rcases hf with z |z
   ·exact z
   ·rw[z]at hk;cases hk
  obtain⟨c,hc⟩:=I.ok.has x (.inl hk);obtain⟨w',z⟩:=I.cell x c hc;refine wpAny_storeName_cell I.ok.kind hk hc z (fun h' jI hs=>?_);obtain⟨oc,hoc,hocd⟩:=id z;refine h { s with heap:=h' } ⟨I.ok,I.os,I.bare,⟨fun b o e n hb hx=>?_,fun b o e n hb hx=>?_,I.base.free,fun b o e hx=>?_,I.base.fQ,I.base.ft,I.base.fj⟩,⟨m,hn.sameBut hs (Ne.symm (jL x c hc)),fun j y v' e1 e2 e3=>?_⟩,fun y c' e=>?_,I.free,I.cI,fun p hp=>?_,tracked ⟨oc,hoc,I.cI x c hc⟩ hs,by simpa using I.len⟩ ⟨c,hs,.inr hc⟩
  ·exact(hs.2 b (ZC (Z2 (lt_size e) (I.ok.jf x c hfn hc)))).trans (I.base.keep b o e n hb hx)
  ·obtain⟨sl,e1⟩:=I.base.slot b o e n hb hx;exact⟨sl,(hs.2 b (ZC (Z2 (lt_size e) (I.ok.jf x c hfn hc)))).trans e1⟩
  ·obtain⟨o',e1⟩:=I.base.there b o e hx;exact⟨o',(hs.2 b (ZC (Z2 (lt_size e) (I.ok.jf x c hfn hc)))).trans e1⟩
  ·by_cases hj:j=i
   ·subst hj;rw[hi]at e1;cases e1;rw[List.getElem?_set_self hiσ]at e2;cases e2;exact⟨u,r,.inr ⟨.inl hk,c,hc,jI⟩⟩
   ·rw[List.getElem?_set_ne (Ne.symm hj)]at e2;obtain⟨u',r',q⟩:=hl j y v' e1 e2 e3;refine⟨u',r',?_⟩;rcases q with q |⟨k,c',e,z'⟩
    ·exact .inl q
    ·refine .inr ⟨k,c',e,z'.sameBut hs ?_⟩;rintro rfl;exact hj (Kj hN e1 (I.ok.inj _ _ _ e hc ▸ hi))
  ·by_cases hcc:c'=c
   ·subst hcc;exact⟨_,jI⟩
   ·obtain⟨w2,z2⟩:=I.cell y c' e;exact⟨w2,z2.sameBut hs hcc⟩
  ·obtain⟨e,n,ne,nf,d⟩:=I.pin p hp;refine⟨(hs.2 p.1 ?_).trans e,n,ne,nf,d⟩;intro q;rw[q,hoc]at e;have q':oc=p.2:=Option.some.inj e;exact d w' (by rw[←q'];exact hocd)
theorem B1 {M:Model}{A:Around}{E:VS}{i:Nat}{x:Str}{v:V}{u:Value}{Q:Unit->Shared->Prop} (I:Inv X aa σ H s) (hN:X.N.Nodup) (hi:X.N[i]?=some x) (hx:Loc X.env.scope x) (r:RelV v u)
  (h:∀s',Inv X aa (σ.set i (some v)) H s'->Q () s') (hf:X.fn x=true\/X.env.scope.names.lookup x=some .local:=by first |exact .inl rfl |exact .inr rfl |assumption):wpAny M A (storeName X.env x u) Q E s :=
 JL I hN hi hx r (fun s' I' _=>h s' I') hf
theorem Inv.call' {s':Shared}{ch:List Addr} (I:Inv X aa σ H s) (ho:s'.os=s.os) (u:Un (d8 X.stack) ch H H' s.heap s'.heap) (aI:eE X.prog X.w H' s'.heap) (hg:AllBare s'.gens)
  (ju:∀b∈ch,(b∈X.ex\/X.bA.heap.objs.size <= b)/\b≠X.env.locals/\(∀x c,X.env.cells.lookup x=some c->c≠b)/\∀p∈X.pn++aa,p.1≠b):Inv X aa σ H' s':=by
 obtain⟨h',g',d',t',o'⟩:=s';have e:o'=s.os:=ho;subst e;exact I.call (g':=g') (t':=t') (d':=d') u aI hg ju
end
abbrev XK:=Value->Option Addr->Hp->Prop
abbrev St:=List (Option V)
abbrev VK:=V->Hp->Prop
abbrev TE:=St->Hp->VK->Prop
abbrev TT:=St->Hp->(Bool->Hp->Prop)->Prop
abbrev TA:=St->Hp->(List V->Hp->Prop)->Prop
structure Ei where
 nx:St->Hp->Prop
 rt:VK
 bk:St->Hp->Prop:=fun _ _=>False
 ct:St->Hp->Prop:=fun _ _=>False
abbrev TS:=Ei->St->Hp->Prop
inductive EP (X:Cx) (aa:LO) (σ:St) (Q:VK) (u:Value) (s':Shared):Prop where
 |mk (v:V) (H':Hp) (i:Inv X aa σ H' s') (r:RelV v u) (q:Q v H'):EP X aa σ Q u s'
def TP (X:Cx) (aa:LO) (σ:St) (Q:Bool->Hp->Prop) (b:Bool) (s':Shared):Prop:=∃H',Inv X aa σ H' s'/\Q b H'
inductive AP (X:Cx) (aa:LO) (σ:St) (Q:List V->Hp->Prop) (us:List Value) (s':Shared):Prop where
 |mk (vs:List V) (H':Hp) (i:Inv X aa σ H' s') (r:Vals vs us) (q:Q vs H'):AP X aa σ Q us s'
def SP (X:Cx) (aa:LO) (D:Ei) (f:Flow) (s':Shared):Prop :=
 match f with
 | .next=>∃aK H',Inv X aa aK H' s'/\D.nx aK H'
 | .brk=>∃aK H',Inv X aa aK H' s'/\D.bk aK H'
 | .cont=>∃aK H',Inv X aa aK H' s'/\D.ct aK H'
 | .ret u=>∃v aK H',Inv X aa aK H' s'/\RelV v u/\D.rt v H'
def PE (X:Cx) (e:Expr) (t:TE):Prop :=
 ∀(aa:LO) (s:Shared) (σ:St) (H:Hp) (Q:VK),Inv X aa σ H s->t σ H Q->wpAny (model X.prog X.w) X.A (eval e X.env) (EP X aa σ Q) X.xe s
def PT (X:Cx) (e:Expr) (t:TT):Prop :=
 ∀(aa:LO) (s:Shared) (σ:St) (H:Hp) (Q:Bool->Hp->Prop),Inv X aa σ H s->t σ H Q->wpAny (model X.prog X.w) X.A (isTrue e X.env (eval e X.env)) (TP X aa σ Q) X.xe s
def PW (X:Cx) (e:Expr) (t:TT):Prop :=
 ∀(whole:Sem Value) (aa:LO) (s:Shared) (σ:St) (H:Hp) (Q:Bool->Hp->Prop),Inv X aa σ H s->t σ H Q->wpAny (model X.prog X.w) X.A (isTrue e X.env whole) (TP X aa σ Q) X.xe s
theorem PW.pt {X:Cx}{e:Expr}{t:TT} (h:PW X e t):PT X e t:=h _
def PA (X:Cx) (es:List Expr) (t:TA):Prop :=
 ∀(pos:Pos) (aa:LO) (s:Shared) (σ:St) (H:Hp) (Q:List V->Hp->Prop),Inv X aa σ H s->t σ H Q->wpAny (model X.prog X.w) X.A (spliced (backTo pos (starEach es X.env))) (AP X aa σ Q) X.xe s
def PS (X:Cx) (st:Stmt) (t:TS):Prop :=
 ∀(aa:LO) (s:Shared) (σ:St) (H:Hp) (D:Ei),Inv X aa σ H s->t D σ H->wpAny (model X.prog X.w) X.A (exec st X.env) (SP X aa D) X.xe s
def fc (X:Cx) (st:List Stmt) (t:TS):Prop :=
 ∀(aa:LO) (s:Shared) (σ:St) (H:Hp) (D:Ei),Inv X aa σ H s->t D σ H->wpAny (model X.prog X.w) X.A (execs st X.env) (SP X aa D) X.xe s
theorem aJ {α:Type}{t:Sem α}{Q Q':α->Shared->Prop}{M:Model}{A:Around}{E:VS}{s:Shared} (h:wpAny M A t Q E s) (hQ:∀a s,Q a s->Q' a s):wpAny M A t Q' E s:=Zv h hQ fun _ _ x=>x
end L2
variable {X:L2.Cx}{H:L2.Hp}{H':L2.Hp}{pos:PySem.Pos}{σ:L2.St}{P:PySem.Program}{w:PySem.World}{A:PySem.Around}{aa:LO}{x:PySem.Str}{a:PySem.Addr}{K:FG}{C:PySem.Addr}{E:VS}{h:PySem.Heap}{us:List PySem.Value}{f:PySem.Addr}{u:PySem.Value}{xs:List L2.V}{e:PySem.Expr}{te:L2.TE}{base:PySem.Heap}{N:List PySem.Str}{mg:SV}
namespace L2
open PySem PySem.Spec PyProof.Rows
section
inductive ExV (o:Option (Option V)) (k:V->Prop):Prop where
 |mk (v:V) (h:o=some (some v)) (q:k v):ExV o k
inductive ExB (x:V) (k:Bool->Prop):Prop where
 |mk (c:Bool) (h:x=.bl c) (q:k c):ExB x k
inductive ExI (x y:V) (k:Int->Int->Prop):Prop where
 |mk (i j:Int) (h:x=.int i) (h':y=.int j) (q:k i j):ExI x y k
def F6 (i:Nat):TE:=fun σ H Q=>ExV σ[i]? fun v=>Q v H
def tC (v:V):TE:=fun _ H Q=>Q v H
theorem PD {i:Nat} (hN:X.N[i]?=some x) (hv:Vis X.env.scope x) (hd:(x == ("__debug__" : Str))=false:=by decide) (fm:(x == ("__classdict__" : Str))=false:=by decide):PE X (.Name x pos) (F6 i):=by
 intro aa s σ H Q I h;obtain⟨v,e,h⟩:=h;obtain⟨m,hn,hl⟩:=I.loc;obtain⟨u,r,l⟩:=hl i x v hN e hv;have fin:EP X aa σ Q u s:=⟨v,H,I,r,h⟩;rcases l with⟨hk,hm⟩ |⟨hk,c,hc,bn⟩
 ·exact wpAny_Name (wpAny_loadName_local I.ok.kind hk hn hm fin) hd
 ·rcases hk with hk |hk
  ·exact wpAny_Name (wpAny_loadName_cell I.ok.kind hk hc bn fin) hd
  ·exact wpAny_Name (wpAny_loadName_free I.ok.kind hk hc bn fin fm) hd
theorem AJ {i j pos}:PE X (.Constant (.int i) j pos) (tC (.int i)):=fun _ _ _ H _ I h=>wpAny_Constant_int ⟨.int i,H,I.tok _,⟨_,rfl⟩,h⟩
theorem NQ {b j pos}:PE X (.Constant (.bool b) j pos) (tC (.bl b)):=fun _ _ _ H _ I h=>Constant_bool ⟨.bl b,H,I,rfl,h⟩
theorem Jx {j pos}:PE X (.Constant .none j pos) (tC .aU):=fun _ _ _ H _ I h=>Constant_none ⟨.aU,H,I,rfl,h⟩
theorem Ae {x j pos}:PE X (.Constant (.str x) j pos) (tC (.str x)):=fun _ _ _ H _ I h=>Calls.Constant_str ⟨.str x,H,I.tok _,⟨_,rfl⟩,h⟩
def Gl (X:Cx) (x:Str):Prop:=X.env.kindOf x=some .globalImplicit
theorem B2 {s:Shared}{Q:VS} (I:Inv X aa σ H s) (hg:Gl X x) (hm:X.mg x=some u) (h:Q u s)
  (hd:(x == ("__debug__" : Str))=false:=by decide):wpAny (model X.prog X.w) X.A (eval (.Name x pos) X.env) Q E s :=
 Calls.Name_function_global I.ok.kind hg (Calls.loadGlobal_global (by rw[I.ok.glob];exact I.mod.glob.keeps I.bk) hm h) hd
theorem Eu {s:Shared}{Q:VS} (I:Inv X aa σ H s) (hg:Gl X x) (hm:X.mg x=none) (hv:bootBuiltins x=some u) (h:Q u s)
  (hn:x≠ "__name__" := by decide) (hd:(x == ("__debug__" : Str))=false:=by decide):wpAny (model X.prog X.w) X.A (eval (.Name x pos) X.env) Q E s:=by
 obtain⟨mb,h1,h2⟩:=I.mod.blt;exact Calls.Name_function_global I.ok.kind hg (Calls.loadGlobal_builtin (by rw[I.ok.glob];exact I.mod.glob.keeps I.bk) hm (by rw[I.ok.blt];exact h1.keeps I.bk) ((h2 x hn).trans hv) h) hd
theorem CP {v:V} (hg:Gl X x) (hm:X.mg x=some u) (r:RelV v u) (hd:(x == ("__debug__" : Str))=false:=by decide):PE X (.Name x pos) (tC v) :=
 fun _ _ _ H _ I h=>B2 I hg hm ⟨v,H,I,r,h⟩ hd
theorem C1 {v:V} (hg:Gl X x) (hm:X.mg x=none) (hv:bootBuiltins x=some u) (r:RelV v u) (hn:x≠ "__name__" := by decide) (hd:(x == ("__debug__" : Str))=false:=by decide):PE X (.Name x pos) (tC v) :=
 fun _ _ _ H _ I h=>Eu I hg hm hv ⟨v,H,I,r,h⟩ hn hd
variable {a b:Expr}{ta tb:TE}
def PC (X:Cx) (op:CmpOp) (a b:Expr) (t:TE):Prop :=
 ∀(aa:LO) (s:Shared) (σ:St) (H:Hp) (Q:VK),Inv X aa σ H s->t σ H Q ->
  wpAny (model X.prog X.w) X.A (eval a X.env) (fun v aL=>wpAny (model X.prog X.w) X.A (eval b X.env) (fun u s₂=>wpAny (model X.prog X.w) X.A (compareOp op v u) (EP X aa σ Q) X.xe s₂) X.xe aL) X.xe s
theorem Kk (b:Expr) {op:CmpOp} (h:op≠ .In) (h2:op≠ .NotIn):behindInMarks op b=false:=by
 have e1:(op == CmpOp.In)=false:=by cases op <;> first |rfl |exact absurd rfl h
 have e2:(op == CmpOp.NotIn)=false:=by cases op <;> first |rfl |exact absurd rfl h2
 cases b <;> simp[behindInMarks,e1,e2]
def Vx (ta:TE):TE:=fun σ H Q=>ta σ H fun x H1=>Q (.bl (decide (x=.aU))) H1
def Ux (ta:TE):TE:=fun σ H Q=>ta σ H fun x H1=>Q (.bl (!decide (x=.aU))) H1
theorem RelV.none_iff {x:V}{v:Value} (r:RelV x v):(v == Value.none)=decide (x=.aU):=by
 cases x with
 |aU=>cases r;rfl
 |bl _=>cases r;rfl
 |int _=>obtain⟨t,rfl⟩:=r;rfl
 |str _=>obtain⟨t,rfl⟩:=r;rfl
 |iO _=>obtain⟨t,rfl⟩:=r;rfl
 |jJ _=>obtain⟨t,rfl⟩:=r;rfl
 |ref _=>cases r;rfl
 |ty _=>cases r;rfl
theorem Ev {j pos'} (ha:PE X a ta):PC X .Is a (.Constant .none j pos') (Vx ta):=by
 intro aa s σ H Q I h;refine aJ (ha aa s σ H _ I h) fun v s1 ⟨x,H1,I1,r1,q1⟩=>?_;exact Constant_none (is_none_gen ⟨.bl _,H1,I1,by rw[r1.none_iff];rfl,q1⟩)
theorem NR {j pos'} (ha:PE X a ta):PC X .IsNot a (.Constant .none j pos') (Ux ta):=by
 intro aa s σ H Q I h;refine aJ (ha aa s σ H _ I h) fun v s1 ⟨x,H1,I1,r1,q1⟩=>?_;exact Constant_none (isnot_none_gen ⟨.bl _,H1,I1,by rw[r1.none_iff];rfl,q1⟩)
def tB (t:TE):TT:=fun σ H Q=>t σ H fun x H1=>ExB x fun c=>Q c H1
theorem MB {op:CmpOp}{t:TE} (h:PC X op a b t) (h1:behindInMarks op b=false:=by first |exact Kk _ qc qc |rfl):PE X (.Compare a [op] [b] pos) t:=fun aa s σ H Q I hw=>wpAny_Compare1 (h aa s σ H Q I hw) h1
theorem CZ {op:CmpOp}{t:TE} (h:PC X op a b t) (h1:behindInMarks op b=false:=by first |exact Kk _ qc qc |rfl):PT X (.Compare a [op] [b] pos) (tB t):=by
 intro aa s σ H Q I hw;refine wpAny_isTrue_Compare1 (aJ (h aa s σ H _ I hw) fun v s1 h1=>aJ h1 fun u s2 h2=>aJ h2 fun c s3 ⟨x,H1,I1,r1,q1⟩=>?_) h1;obtain⟨d,rfl,q⟩:=q1;cases r1;exact Z0 ⟨H1,I1,q⟩
theorem A5 {t:TE} (h:PE X e t) (he:∀whole,isTrue e X.env whole=(do let v ←whole;standAt e.pos;holding [v] (truthy v)):=by intro _;rfl):PT X e (tB t):=by
 intro aa s σ H Q I hw;refine isTrue_plain (aJ (h aa s σ H _ I hw) fun v s1 ⟨x,H1,I1,r1,q1⟩=>?_) (he _);obtain⟨d,rfl,q⟩:=q1;cases r1;exact Z0 ⟨H1,I1,q⟩
variable {tA tB':TT}{rest:List Expr}
def Uy (t u:TT):TT:=fun σ H Q=>t σ H fun c H1=>if c=true then u σ H1 Q else Q false H1
def tOr (t u:TT):TT:=fun σ H Q=>t σ H fun c H1=>if c=true then Q true H1 else u σ H1 Q
def Vy (t:TT):TT:=fun σ H Q=>t σ H fun c H1=>Q (!c) H1
theorem Bv (ha:PT X a tA):PW X (.BoolOp .And [a] pos) tA:=by
 intro wh aa s σ H Q I h;refine isTrue_and (aJ (ha aa s σ H Q I h) fun c s1 e=>?_);cases c with
 |true=>exact isTrue_and_nil e
 |false=>exact e
theorem Bk (ha:PT X a tA):PW X (.BoolOp .Or [a] pos) tA:=by
 intro wh aa s σ H Q I h;refine isTrue_or (aJ (ha aa s σ H Q I h) fun c s1 e=>?_);cases c with
 |false=>exact isTrue_or_nil e
 |true=>exact e
theorem Ca (ha:PT X a tA) (hb:PW X (.BoolOp .And (b :: rest) pos) tB'):PW X (.BoolOp .And (a :: b :: rest) pos) (Uy tA tB'):=by
 intro wh aa s σ H Q I h;refine isTrue_and (aJ (ha aa s σ H _ I h) fun c s1 ⟨H1,I1,q1⟩=>?_);cases c with
 |true=>exact hb wh aa s1 σ H1 Q I1 q1
 |false=>exact⟨H1,I1,q1⟩
theorem CH (ha:PT X a tA) (hb:PW X (.BoolOp .Or (b :: rest) pos) tB'):PW X (.BoolOp .Or (a :: b :: rest) pos) (tOr tA tB'):=by
 intro wh aa s σ H Q I h;refine isTrue_or (aJ (ha aa s σ H _ I h) fun c s1 ⟨H1,I1,q1⟩=>?_);cases c with
 |true=>exact⟨H1,I1,q1⟩
 |false=>exact hb wh aa s1 σ H1 Q I1 q1
theorem A9 (ha:PT X a tA):PT X (.UnaryOp .Not a pos) (Vy tA):=by
 intro aa s σ H Q I h;exact isTrue_not (ha aa s σ H (fun c H1=>Q (!c) H1) I h)
def Uz (ta tb:TE):TE:=fun σ H Q=>ta σ H fun x H1=>ExB x fun c=>if c=true then tb σ H1 Q else Q (.bl false) H1
def U0 (ta:TE):TE:=fun σ H Q=>ta σ H fun x H1=>ExB x fun c=>Q (.bl (!c)) H1
theorem DB {op}{t:TE} (h:PE X a t):PE X (.BoolOp op [a] pos) t:=fun aa s σ H Q I hw=>BoolOp_one (h aa s σ H Q I hw)
theorem Cb (ha:PE X a ta) (hb:PE X (.BoolOp .And (b :: rest) pos) tb):PE X (.BoolOp .And (a :: b :: rest) pos) (Uz ta tb):=by
 intro aa s σ H Q I h;refine BoolOp_and (aJ (ha aa s σ H _ I h) fun v s1 ⟨x,H1,I1,r1,q1⟩=>?_);obtain⟨c,rfl,q1⟩:=q1;cases r1;refine Z0 ?_;cases c with
 |true=>exact hb aa s1 σ H1 Q I1 q1
 |false=>exact⟨.bl false,H1,I1,rfl,q1⟩
theorem Ti (ha:PE X a ta):PE X (.UnaryOp .Not a pos) (U0 ta):=by
 intro aa s σ H Q I h;refine UnaryOp_ (aJ (ha aa s σ H _ I h) fun v s1 ⟨x,H1,I1,r1,q1⟩=>?_);obtain⟨c,rfl,q1⟩:=q1;cases r1;exact not_of (Z0 ⟨.bl (!c),H1,I1,rfl,q1⟩)
def tIf (t:TT) (ta tb:TE):TE:=fun σ H Q=>t σ H fun c H1=>if c=true then ta σ H1 Q else tb σ H1 Q
theorem DH {c:Expr} (hc:PT X c tA) (ha:PE X a ta) (hb:PE X b tb):PE X (.IfExp c a b pos) (tIf tA ta tb):=by
 intro aa s σ H Q I h;refine wpAny_IfExp (aJ (hc aa s σ H _ I h) fun d s1 ⟨H1,I1,q1⟩=>?_);cases d with
 |true=>exact ha aa s1 σ H1 Q I1 q1
 |false=>exact hb aa s1 σ H1 Q I1 q1
end
end L2
namespace L2
open PySem PySem.Spec PyProof.Rows
def aH (K:FG) (H:Hp) (a:Addr) (xs:List V):Prop :=
 Rd H a (.lst xs) \/
  ∃(o:Obj) (its:Array Value) (n:Nat),K.lookup a=some o/\o.cls=.type "list" /\ o.dict=none/\o.data=.seq its n/\its.size <= sizeLine/\Vals xs its.toList
def aY (K:FG) (H:Hp) (a:Addr) (xs:List V):Prop :=
 Rd H a (.tup xs) \/
  ∃(o:Obj) (its:Array Value) (n:Nat),K.lookup a=some o/\o.cls=.type "tuple" /\ o.data=.seq its n/\its.size <= sizeLine/\Vals xs its.toList
noncomputable def Vz:Value->Option V
 | .none=>some .aU
 | .bool b=>some (.bl b)
 | .int i _=>some (.int i)
 | .str x _=>some (.str x)
 | .bytes b _=>some (.iO b)
 | .float b _=>some (.jJ b)
 | .ref a=>some (.ref a)
 | .type n=>some (.ty n)
 |_=>none
theorem RelV.abs {x:V} (r:RelV x u):Vz u=some x:=by
 cases x with
 |aU=>cases r;rfl
 |bl _=>cases r;rfl
 |int _=>obtain⟨t,rfl⟩:=r;rfl
 |str _=>obtain⟨t,rfl⟩:=r;rfl
 |iO _=>obtain⟨t,rfl⟩:=r;rfl
 |jJ _=>obtain⟨t,rfl⟩:=r;rfl
 |ref _=>cases r;rfl
 |ty _=>cases r;rfl
theorem RelV.inj {x y:V}{u:Value} (r:RelV x u) (q:RelV y u):x=y:=Option.some.inj (r.abs.symm.trans q.abs)
theorem Vals.inj:∀ {xs ys:List V}{us:List Value},Vals xs us->Vals ys us->xs=ys
 |_,_,_,.nil,.nil=>rfl
 |_,_,_,.cons r t,.cons r' t'=>by rw[r.inj r',Vals.inj t t']
section
variable {s:Shared}{ys:List V}
theorem aH.of (h:H a=some (.lst xs)):aH K H a xs:=.inl (.inl h)
theorem aY.of (h:H a=some (.tup xs)):aY K H a xs:=.inl (.inl h)
theorem Inv.list (I:Inv X aa σ H s) (h:aH X.K H a xs):∃its:List Value,Vals xs its/\PlainL s.heap a its.toArray/\xs.length <= sizeLine:=by
 rcases h with h |⟨o,its,n,hk,hc,hd,hs,hz,r⟩
 ·obtain⟨z,its,n,r,e⟩:=h.ok I.aI;exact⟨its,r,⟨_,n,e,rfl,rfl,rfl⟩,z⟩
 ·refine⟨its.toList,r,⟨o,n,I.cS a o hk,hc,hd,by simpa using hs⟩,?_⟩;have e:=r.length;simp only[Array.length_toList]at e;omega
theorem Inv.tuple (I:Inv X aa σ H s) (h:aY X.K H a xs):∃its:List Value,Vals xs its/\IsTup s.heap a its.toArray/\xs.length <= sizeLine:=by
 rcases h with h |⟨o,its,n,hk,hc,hs,hz,r⟩
 ·obtain⟨z,its,r,p⟩:=h.ok I.aI;exact⟨its,r,p,z⟩
 ·refine⟨its.toList,r,⟨o,I.cS a o hk,hc,n,by simpa using hs⟩,?_⟩;have e:=r.length;simp only[Array.length_toList]at e;omega
theorem Inv.list_inj (I:Inv X aa σ H s) (h:aH X.K H a xs) (h':aH X.K H a ys):xs=ys:=by
 obtain⟨its,r,⟨o,n,e,_,_,d⟩,_⟩:=I.list h;obtain⟨its',r',⟨o',n',e',_,_,d'⟩,_⟩:=I.list h';rw[e]at e';cases e';rw[d]at d';injection d' with d1 _
 have:its=its':=by simpa using congrArg Array.toList d1
 subst this;exact r.inj r'
theorem Inv.tuple_inj (I:Inv X aa σ H s) (h:aY X.K H a xs) (h':aY X.K H a ys):xs=ys:=by
 obtain⟨its,r,⟨o,e,_,n,d⟩,_⟩:=I.tuple h;obtain⟨its',r',⟨o',e',_,n',d'⟩,_⟩:=I.tuple h';rw[e]at e';cases e';rw[d]at d';injection d' with d1 _
 have:its=its':=by simpa using congrArg Array.toList d1
 subst this;exact r.inj r'
end
noncomputable abbrev Cx.gu (X:Cx) (E:VS):Cx:={ X with xe:=E }
noncomputable abbrev Cx.gO (X:Cx):Cx:=X.gu fun _ _=>False
theorem Cx.Ok.gu {X:Cx} (ok:X.Ok) (E:VS):(X.gu E).Ok :=
 ⟨ok.mod,ok.kind,ok.glob,ok.blt,ok.above,ok.inj,ok.has,ok.jf,ok.hd,ok.frames,ok.gB,ok.exf,ok.bs,ok.gP,ok.gv,ok.gj,ok.cZ,ok.g9⟩
theorem Cx.Ok.eG (ok:(X.gu E).Ok):X.Ok :=
 ⟨ok.mod,ok.kind,ok.glob,ok.blt,ok.above,ok.inj,ok.has,ok.jf,ok.hd,ok.frames,ok.gB,ok.exf,ok.bs,ok.gP,ok.gv,ok.gj,ok.cZ,ok.g9⟩
section
variable {s:Shared}
theorem Inv.gu (I:Inv X aa σ H s) (E:VS):Inv (X.gu E) aa σ H s:=⟨I.ok.gu E,I.os,I.bare,I.base,I.loc,I.cell,I.free,I.cI,I.pin,I.aI,I.len⟩
theorem Inv.eG (I:Inv (X.gu E) aa σ H s):Inv X aa σ H s:=⟨I.ok.eG,I.os,I.bare,I.base,I.loc,I.cell,I.free,I.cI,I.pin,I.aI,I.len⟩
theorem SP.eG {D:Ei}{f:Flow}{s':Shared} (h:SP (X.gu E) aa D f s'):SP X aa D f s':=by
 cases f with
 |next=>obtain⟨aK,H',I,q⟩:=h;exact⟨aK,H',I.eG,q⟩
 |brk=>obtain⟨aK,H',I,q⟩:=h;exact⟨aK,H',I.eG,q⟩
 |cont=>obtain⟨aK,H',I,q⟩:=h;exact⟨aK,H',I.eG,q⟩
 |ret u=>obtain⟨v,aK,H',I,r,q⟩:=h;exact⟨v,aK,H',I.eG,r,q⟩
theorem fc.gO {st:List Stmt}{t:TS} (h:fc X.gO st t):fc X st t:=fun aa s σ H D I hw =>
 Zv (h aa s σ H D (I.gu _) hw) (fun _ _ q=>q.eG) fun _ _ z=>False.elim z
end
section
variable {st:Stmt}{rest:List Stmt}{t u:TS}
def U1:TS:=fun D σ H=>D.nx σ H
def U2 (t u:TS):TS:=fun D σ H=>t { D with nx:=u D } σ H
theorem AT:fc X [] U1:=fun _ _ σ H _ I h=>wpAny_execs_nil ⟨σ,H,I,h⟩
theorem AE (h1:PS X st t) (h2:fc X rest u):fc X (st :: rest) (U2 t u):=by
 intro aa s σ H D I h;refine wpAny_execs_cons (aJ (h1 aa s σ H { D with nx:=u D } I h) fun f s1 q=>?_);cases f with
 |next =>
  obtain⟨aK,H',I',q⟩:=q;exact h2 aa s1 aK H' D I' q
 |ret v=>exact q
 |brk=>exact q
 |cont=>exact q
theorem AD (h1:PS X st t):fc X [st] t:=by
 intro aa s σ H D I h;refine wpAny_execs_cons (aJ (h1 aa s σ H D I h) fun f s1 q=>?_);cases f with
 |next=>exact wpAny_execs_nil q
 |ret v=>exact q
 |brk=>exact q
 |cont=>exact q
theorem Inv.quiet {s:Shared} (I:Inv X aa σ H s):interactive X.env=false:=by simp[interactive,I.ok.kind]
def U3 (te:TE):TS:=fun D σ H=>te σ H fun _ H1=>D.nx σ H1
theorem B3 (he:PE X e te) (hs:swapsWith e none pos.line X.env=pure false:=by rfl):PS X (.Expr e pos) (U3 te):=by
 intro aa s σ H D I h;exact wpAny_Expr_any (aJ (he aa s σ H _ I h) fun v s1 ⟨x,H1,I1,r1,q1⟩=>⟨σ,H1,I1,q1⟩) I.quiet hs
def PJ (te:TE):TS:=fun D σ H=>te σ H D.rt
theorem AR (he:PE X e te):PS X (.Return (some e) pos) (PJ te):=by
 intro aa s σ H D I h;exact wpAny_Return_some (aJ (he aa s σ H _ I h) fun v s1 ⟨x,H1,I1,r1,q1⟩=>⟨x,σ,H1,I1,r1,q1⟩)
def V0 (c:TT) (t u:TS):TS:=fun D σ H=>c σ H fun b H1=>if b=true then t D σ H1 else u D σ H1
theorem An {c:Expr}{a b:List Stmt}{tc:TT} (hc:PT X c tc) (ha:fc X a t) (hb:fc X b u):PS X (.If c a b pos) (V0 tc t u):=by
 intro aa s σ H D I h;refine wpAny_If (aJ (hc aa s σ H _ I h) fun d s1 ⟨H1,I1,q1⟩=>?_);cases d with
 |true=>exact ha aa s1 σ H1 D I1 q1
 |false=>exact hb aa s1 σ H1 D I1 q1
def PL:TS:=fun _ _ _=>False
theorem Ah:PS X st PL:=fun _ _ _ _ _ _ h=>h.elim
theorem N9 {sts:List Stmt}:fc X sts PL:=fun _ _ _ _ _ _ h=>h.elim
end
abbrev TG:=V->St->Hp->(St->Hp->Prop)->Prop
abbrev TGs:=List V->St->Hp->(St->Hp->Prop)->Prop
def PG (X:Cx) (target:Expr) (t:TG):Prop :=
 ∀(aa:LO) (s:Shared) (σ:St) (H:Hp) (v:V) (u:Value) (Q:St->Hp->Prop),Inv X aa σ H s->RelV v u->t v σ H Q ->
  wpAny (model X.prog X.w) X.A (assign target X.env u) (fun _ s'=>∃aK H',Inv X aa aK H' s'/\Q aK H') X.xe s
def PGs (X:Cx) (ts:List Expr) (t:TGs):Prop :=
 ∀(aa:LO) (s:Shared) (σ:St) (H:Hp) (vs:List V) (us:List Value) (Q:St->Hp->Prop),Inv X aa σ H s->Vals vs us->t vs σ H Q ->
  wpAny (model X.prog X.w) X.A (assignInOrder ((assignEach ts X.env).map (·.2)) us) (fun _ s'=>∃aK H',Inv X aa aK H' s'/\Q aK H') X.xe s
abbrev Tj:=V->V->V->Hp->(Hp->Prop)->Prop
def U4 (X:Cx) (t:Tj):Prop :=
 ∀(aa:LO) (s:Shared) (σ:St) (H:Hp) (o i v:V) (ov iv u:Value) (Q:Hp->Prop),Inv X aa σ H s->RelV o ov->RelV i iv->RelV v u->t o i v H Q ->
  wpAny (model X.prog X.w) X.A (setItem ov iv u) (fun _ s'=>∃H',Inv X aa σ H' s'/\Q H') X.xe s
abbrev TIp:=V->V->Hp->VK->Prop
def PIp (X:Cx) (op:Operator) (t:TIp):Prop :=
 ∀(aa:LO) (s:Shared) (σ:St) (H:Hp) (x y:V) (v u:Value) (Q:VK),Inv X aa σ H s->RelV x v->RelV y u->t x y H Q ->
  wpAny (model X.prog X.w) X.A (inplaceOp op v u) (EP X aa σ Q) X.xe s
section
def C2 (i:Nat):TG:=fun v σ H Q=>Q (σ.set i (some v)) H
theorem AO {i:Nat} (hN:X.N.Nodup) (hi:X.N[i]?=some x) (hx:Loc X.env.scope x) (hf:X.fn x=true\/X.env.scope.names.lookup x=some .local:=by first |exact .inl rfl |exact .inr rfl |assumption):PG X (.Name x pos) (C2 i):=by
 intro aa s σ H v u Q I r h;exact wpAny_assign_Name (B1 I hN hi hx r (fun s' I'=>⟨_,H,I',h⟩) hf)
def Ra:TGs:=fun vs σ H Q=>vs=[]/\Q σ H
inductive ExC (vs:List V) (k:V->List V->Prop):Prop where
 |mk (v:V) (r:List V) (h:vs=v :: r) (q:k v r):ExC vs k
def HL (t:TG) (u:TGs):TGs:=fun vs σ H Q=>ExC vs fun v r=>t v σ H fun aK H'=>u r aK H' Q
theorem Ax:PGs X [] Ra:=by
 intro aa s σ H vs us Q I r h;obtain⟨e,h⟩:=h;subst e;cases r;exact assignInOrder_nil ⟨σ,H,I,h⟩
theorem AQ {es:List Expr}{t:TG}{u:TGs} (h1:PG X e t) (h2:PGs X es u)
  (hs:(assignEach (e :: es) X.env).map (·.2)=assign e X.env :: (assignEach es X.env).map (·.2):=by rfl):PGs X (e :: es) (HL t u):=by
 intro aa s σ H vs us Q I r h;obtain⟨v,vr,e1,h⟩:=h;subst e1;cases r with
 |cons r rr =>
  rw[hs];refine assignInOrder_cons (aJ (h1 aa s σ H _ _ _ I r h) fun _ s1 ⟨i0,H1,I1,q1⟩=>?_);exact h2 aa s1 i0 H1 _ _ Q I1 rr q1
inductive ExT (K:FG) (n:Nat) (v:V) (H:Hp) (k:List V->Prop):Prop where
 |mk (a:Addr) (xs:List V) (h1:v=.ref a) (h2:aY K H a xs) (h3:xs.length=n) (q:k xs):ExT K n v H k
def Rb (K:FG) (n:Nat) (t:TGs):TG:=fun v σ H Q=>ExT K n v H fun xs=>t xs σ H Q
theorem BG {es:List Expr}{k:Nat}{t:TGs}{n:Nat} (hc:X.calm=true) (h:PGs X es t)
  (hn:(assignEach es X.env).length=n:=by rfl) (hst:(assignEach es X.env).findIdx? (·.1)=none:=by rfl):PG X (.Tuple es k pos) (Rb X.K n t):=by
 intro aa s σ H v u Q I r hw;obtain⟨a,xs,e1,hq,hl,hw⟩:=hw;subst e1;cases r;obtain⟨its,rv,ht,hz⟩:=I.tuple hq;refine assign_Tuple_tuple (I.ok.hd hc) ht (by simp[hn,←hl,rv.length]) hst fun h' hx=>?_;have I1:Inv X aa σ H { s with heap:=h' }:=I.kept (t':=s.toks) fun b o e=>hx b o (ZC (lt_size e)) e;exact h aa _ σ H xs _ Q I1 (by simpa using rv) hw
def V1 (to ti:TE) (t:Tj):TG:=fun v σ H Q=>to σ H fun o H1=>ti σ H1 fun i H2=>t o i v H2 fun H3=>Q σ H3
theorem PM {o i:Expr}{to ti:TE}{t:Tj} (ho:PE X o to) (hi:PE X i ti) (hs:U4 X t)
  (ha:∀v,assign (.Subscript o i pos) X.env v=(do
   let ov ←holding [v] (eval o X.env)
   let iv ←holding [v,ov] (eval i X.env)
   standAt pos
   holding [v,ov,iv] (setItem ov iv v)
   release [v,ov,iv] []):=by intro _;rfl):PG X (.Subscript o i pos) (V1 to ti t):=by
 intro aa s σ H v u Q I r h;rw[ha];refine Zx (ZK (aJ (ho aa s σ H _ I h) fun ov s1 ⟨x,H1,I1,r1,q1⟩=>?_));refine Zx (ZK (aJ (hi aa s1 σ H1 _ I1 q1) fun iv s2 ⟨y,H2,I2,r2,q2⟩=>?_));refine Zx (ZJ (Zx (ZK (aJ (hs aa s2 σ H2 x y v ov iv u _ I2 r1 r2 r q2) fun _ s3 ⟨H3,I3,q3⟩=>?_))));exact wpAny_release ⟨σ,H3,I3,q3⟩
def U5 (te:TE) (g:TG):TS:=fun D σ H=>te σ H fun x H1=>g x σ H1 D.nx
theorem Cc {tg:Expr}{g:TG} (he:PE X e te) (hg:PG X tg g) (hs:swapsWithSole [tg] e pos.line X.env=pure false:=by rfl) (hw:swappedStores [tg] e X.env=pure none:=by rfl)
  (h1:(assignEach [tg] X.env).map (·.2)=[assign tg X.env]:=by rfl):PS X (.Assign [tg] e pos) (U5 te g):=by
 intro aa s σ H D I h;refine wpAny_Assign_stores (aJ (he aa s σ H _ I h) fun v s1 ⟨x,H1,I1,r1,q1⟩=>?_) hs hw;rw[h1];exact aJ (hg aa s1 σ H1 x v _ I1 r1 q1) fun _ s2 q=>q
theorem Ag {i:Nat}{pos':Pos} (hN:X.N.Nodup) (hi:X.N[i]?=some x) (hx:Loc X.env.scope x) (he:PE X e te) (hs:swapsWith e (some (.Name x pos')) pos.line X.env=pure false:=by rfl) (hf:X.fn x=true\/X.env.scope.names.lookup x=some .local:=by first |exact .inl rfl |exact .inr rfl |assumption) :
  PS X (.Assign [.Name x pos'] e pos) (U5 te (C2 i)):=by
 intro aa s σ H D I h;refine wpAny_Assign_Name (aJ (he aa s σ H _ I h) fun v s1 ⟨y,H1,I1,r1,q1⟩=>?_) hs;exact B1 I1 hN hi hx r1 (fun s2 I2=>⟨_,H1,I2,q1⟩) hf
def V2 (i j:Nat) (ta:TA):TS:=fun D σ H=>ta σ H fun vs H1=>∃v w,vs=[v,w]/\D.nx ((σ.set i (some v)).set j (some w)) H1
theorem PO {i j:Nat}{y:Str}{a b:Expr}{ta:TA}{px py pt:Pos}{kt k2 pt2} (hc:X.calm=true) (hN:X.N.Nodup) (hi:X.N[i]?=some x) (hj:X.N[j]?=some y) (kA:i≠j)
  (hx:X.env.scope.names.lookup x=some .local) (hy:X.env.scope.names.lookup y=some .local) (ha:PA X [a,b] ta)
  (hw:swappedStores [.Tuple [.Name x px,.Name y py] kt pt] (.Tuple [a,b] k2 pt2) X.env=pure (some [x,y]))
  (hs:swapsWithSole [.Tuple [.Name x px,.Name y py] kt pt] (.Tuple [a,b] k2 pt2) pos.line X.env=pure false:=by rfl) :
  PS X (.Assign [.Tuple [.Name x px,.Name y py] kt pt] (.Tuple [a,b] k2 pt2) pos) (V2 i j ta):=by
 intro aa s σ H D I h;rw[exec_Assign_arm];refine Zx (ZJ ?_);rw[hs];refine Zx (Zw ?_);rw[Zq qc];refine Zx (Tuple_ (aJ (ha _ aa s σ H _ I h) fun us s1 ⟨vs,H1,I1,r1,q1⟩=>?_));obtain⟨v,w,e1,q1⟩:=q1;subst e1
 obtain⟨u1,u2,rfl,rv,iF⟩:∃u1 u2,us=[u1,u2]/\RelV v u1/\RelV w u2:=by
  cases r1 with
  |cons p q =>
   cases q with
   |cons p' q' =>
    cases q';exact⟨_,_,rfl,p,p'⟩
 refine wpAny_newObj_type ?_ gc;have I2:Inv X aa σ H1 { s1 with heap:=s1.heap.push { cls:=.type "tuple", data:=.seq [u1,u2].toArray } }:=I1.kept (t':=s1.toks) fun b o e=>ZX _ e;rw[hw];refine Zx (Zw ?_);show wpAny (model X.prog X.w) X.A (do rule "assign.swapped-stores";let items ←unpackItems (.ref s1.heap.objs.size) 2 none;assignInOrder [fun v=>bindName X.env y v,fun v=>bindName X.env x v] items.reverse;pure Flow.next) _ _ _;refine Zx (wpAny_rule (Zx (unpackItems_tuple (items:=#[u1,u2]) (I.ok.hd hc) (IsTup.new s1.heap _) fun h' jZ=>?_)));have I3:=I2.kept (h':=h') (t':=s1.toks) fun b o e=>jZ b o (ZC (lt_size e)) e;show wpAny _ _ (assignInOrder [fun v=>bindName X.env y v,fun v=>bindName X.env x v] [u2,u1] >>= fun _=>pure Flow.next) _ _ _;refine Zx (assignInOrder_cons (wpAny_bindName (B1 I3 hN hj (.inl hy) iF (fun s2 I4=>?_) (.inr hy))));refine assignInOrder_cons (wpAny_bindName (B1 I4 hN hi (.inl hx) rv (fun s3 I5=>assignInOrder_nil (Zw ?_)) (.inr hx)));rw[List.set_comm _ _ (Ne.symm kA)]at I5;exact⟨_,H1,I5,q1⟩
def V3 (i:Nat) (te:TE) (ti:TIp):TS:=fun D σ H=>∃x,σ[i]?=some (some x)/\te σ H fun y H1=>ti x y H1 fun z H2=>D.nx (σ.set i (some z)) H2
theorem Tk {i:Nat}{op:Operator}{ti:TIp}{pos':Pos} (hN:X.N.Nodup) (hi:X.N[i]?=some x) (hx:Loc X.env.scope x) (he:PE X e te) (ho:PIp X op ti) (hf:X.fn x=true\/X.env.scope.names.lookup x=some .local:=by first |exact .inl rfl |exact .inr rfl |assumption) :
  PS X (.AugAssign (.Name x pos') op e pos) (V3 i te ti):=by
 intro aa s σ H D I h;obtain⟨v,e1,h⟩:=h;obtain⟨m,hn,hl⟩:=I.loc;have vis:Vis X.env.scope x:=by rcases hx with k |k;exact .inl k;exact .inr (.inl k)
 obtain⟨u,r,l⟩:=hl i x v hi e1 vis;refine wpAny_AugAssign_Name ?_
 have go:wpAny (model X.prog X.w) X.A (eval e X.env) (fun w s₂=>wpAny (model X.prog X.w) X.A (inplaceOp op u w) (fun r s₃=>wpAny (model X.prog X.w) X.A (storeName X.env x r) (fun _=>SP X aa D .next) X.xe s₃) X.xe s₂) X.xe s:=by
  refine aJ (he aa s σ H _ I h) fun w s1 ⟨y,H1,I1,r1,q1⟩=>?_;refine aJ (ho aa s1 σ H1 v y u w _ I1 r r1 q1) fun z s2 ⟨zv,H2,I2,r2,q2⟩=>?_;exact B1 I2 hN hi hx r2 (fun s3 I3=>⟨_,H2,I3,q2⟩) hf
 rcases l with⟨hk,hm⟩ |⟨hk,c,hc,bn⟩
 ·exact wpAny_loadName_local I.ok.kind hk hn hm go
 ·rcases hk with hk |hk
  ·exact wpAny_loadName_cell I.ok.kind hk hc bn go
  ·rcases hx with k |k
   ·have:X.env.scope.names.lookup x=some .free:=hk;rw[k]at this;cases this
   ·have:X.env.scope.names.lookup x=some .free:=hk;rw[k]at this;cases this
end
section
def PP (c:TT) (tb:TS):TS:=fun D σ H=>∃W:Nat->St->Hp->Prop,(∃m,W m σ H)/\∀m σ H,W m σ H ->
 c σ H fun b H1=>if b=true then ∃N:St->Hp->Prop,(∀aK H',N aK H'->∃m',m' < m/\W m' aK H')/\tb { D with nx:=N,ct:=N,bk:=D.nx } σ H1 else D.nx σ H1
theorem PQ {c:Expr}{body:List Stmt}{tc:TT}{tb:TS} (hp:PassesOwn (model X.prog X.w) X.A X.env X.xe) (hc:PT X c tc) (hb:fc X body tb):PS X (.While c body [] pos) (PP tc tb):=by
 intro aa s σ H D I h;obtain⟨W,⟨m0,w0⟩,turn⟩:=h;refine wpAny_While (codeAny_whileLoop (fun n s'=>∃aK H',Inv X aa aK H' s'/\W n aK H') ?_ m0 ⟨σ,H,I,w0⟩);rintro n s1 ⟨i0,H1,I1,w1⟩;refine wpAny_passesOwn hp (aJ (hc aa s1 i0 H1 _ I1 (turn n i0 H1 w1)) fun b s2 ⟨H2,I2,q2⟩=>?_);cases b with
 |true =>
  obtain⟨N,hN,q2⟩:=q2;rw[Zp rfl];refine wpAny_passesOwn hp (aJ (hb aa s2 i0 H2 _ I2 q2) fun f s3 q3=>?_);cases f with
  |next =>
   obtain⟨iZ,H3,I3,n3⟩:=q3;obtain⟨m',hm,w3⟩:=hN iZ H3 n3;exact⟨m',hm,iZ,H3,I3,w3⟩
  |cont =>
   obtain⟨iZ,H3,I3,n3⟩:=q3;obtain⟨m',hm,w3⟩:=hN iZ H3 n3;exact⟨m',hm,iZ,H3,I3,w3⟩
  |brk=>exact q3
  |ret v=>exact q3
 |false =>
  rw[Zq Bool.false_ne_true];exact wpAny_execs_nil ⟨i0,H2,I2,q2⟩
end
structure It where
 go:Nat->Hp->Prop
 ic:Nat->Hp->V->Hp->Prop
 stop:Nat->Hp->Prop
def Ew (X:Cx) (aa:LO) (H:Hp) (b:Addr):Prop :=
 H b=none/\b≠X.env.locals/\b∉ X.fs/\(b∈X.ex\/X.bA.heap.objs.size <= b)/\(∀x c,X.env.cells.lookup x=some c->c≠b)/\∀p∈X.pn++aa,p.1≠b
theorem Inv.gy {s:Shared}{b:Addr} (I:Inv X aa σ H s) (hb:s.heap.objs.size <= b) (hn:H' b=none):Ew X aa H' b:=by
 refine⟨hn,Nat.ne_of_gt (Z2 I.lt hb),I.nofs hb,.inr (Nat.le_trans I.sz hb),fun x c e z=>?_,fun p hp z=>?_⟩
 ·obtain⟨v,q⟩:=I.cell x c e;exact absurd (Z2 q.lt (by rw[z];exact hb)) (ZF _)
 ·exact absurd (Z2 (lt_size (I.pin p hp).1) (by rw[z];exact hb)) (ZF _)
structure Kl (P:Program) (w:World) (K:FG) (tg:Expr) (J:It) (fp:List Addr) (it:Addr) (tn:Nat->Heap->Prop):Prop where
 mem:it∈fp
 obj:∀i h,tn i h->∀b∈fp,∃o,h.get? b=some o/\∀v,o.data≠ .cell v
 keep:∀i h h',tn i h->(∀b∈fp,∀o,h.get? b=some o->h'.get? b=some o)->tn i h'
 item:∀(X:Cx),X.prog=P->X.w=w->X.K=K->X.calm=true->∀(i:Nat) (aa:LO) (s:Shared) (σ:St) (H:Hp) (E:VS),Inv X aa σ H s->(∀b∈fp,Ew X aa H b)->tn i s.heap->J.go i H ->
  wpAny (model P w) X.A (pyNext (.ref it)) (fun r s1=>∃u,r=some u /\
   wpAny (model P w) X.A (letOwnedTupleGo tg (.ref it) u) (fun _ s2=>∃x H',Inv X aa σ H' s2/\RelV x u/\J.ic i H x H'/\tn (i + 1) s2.heap/\∀b∈fp,H' b=none) E s1) E s
 done:∀(X:Cx),X.prog=P->X.w=w->X.K=K->X.calm=true->∀(i:Nat) (aa:LO) (s:Shared) (σ:St) (H:Hp) (E:VS),Inv X aa σ H s->(∀b∈fp,Ew X aa H b)->tn i s.heap->J.stop i H ->
  wpAny (model P w) X.A (pyNext (.ref it)) (fun r s1=>r=none/\Inv X aa σ H s1) E s
 self:∀(A:Around) (i:Nat) (s:Shared) (Q:VS) (E:VS),tn i s.heap->Q (.ref it) s->wpAny (model P w) A (pyIter (.ref it)) Q E s
abbrev TI:=St->Hp->(It->Hp->Prop)->Prop
def PIE (X:Cx) (aa:LO) (σ:St) (tg:Expr) (R:It->Hp->Prop) (itv:Value) (s2:Shared):Prop :=
 ∃(it:Addr) (fp:List Addr) (tn:Nat->Heap->Prop) (J:It) (H':Hp),itv=.ref it/\Inv X aa σ H' s2/\Kl X.prog X.w X.K tg J fp it tn/\tn 0 s2.heap/\(∀b∈fp,Ew X aa H' b)/\R J H'
def PI (X:Cx) (tg iter:Expr) (wi:TI):Prop :=
 ∀(aa:LO) (s:Shared) (σ:St) (H:Hp) (R:It->Hp->Prop),Inv X aa σ H s->wi σ H R ->
  wpAny (model X.prog X.w) X.A (eval iter X.env) (fun v s1=>wpAny (model X.prog X.w) X.A (pyIter v) (PIE X aa σ tg R) X.xe s1) X.xe s
theorem Km {M:Model}{s:Shared}{tg:Expr}{it:Addr}{o:Obj}{n:String}{vs:Array Value}{Q:Unit->Shared->Prop} (ho:s.heap.get? it=some o) (hc:o.cls=.type n) (hd:o.data=.fields vs)
    (hn:["enumerate", "zip", "dict_itemiterator", "dict_reverseitemiterator", "odict_iterator", "itertools.zip_longest", "itertools.pairwise"].contains n=false) (hQ:Q () s):wpAny M A (letOwnedTupleGo tg (.ref it) u) Q E s:=by
  unfold letOwnedTupleGo
  cases tg <;> first
    |exact Zw hQ
    | (cases u <;> first
        |exact Zw hQ
        | (refine Zx (wpAny_load ho ?_)
           rw[hc,hd];show wpAny M A (if (["enumerate", "zip", "dict_itemiterator", "dict_reverseitemiterator", "odict_iterator", "itertools.zip_longest", "itertools.pairwise"].contains n && vs[0]? == some (rawInt _))=true then _ else _) Q E s;rw[Zq (by intro h;rw[hn,Bool.false_and]at h;cases h)]
           exact Zw hQ))
noncomputable def jN (K:FG) (a:Addr):It :=
 ⟨fun i H=>∃xs x,aH K H a xs/\xs[i]?=some x,fun i H x H'=>H'=H/\∀xs,aH K H a xs->xs[i]?=some x,fun i H=>∃xs,aH K H a xs/\xs.length <= i⟩
noncomputable def lg (K:FG) (a:Addr):It :=
 ⟨fun i H=>∃xs x,aY K H a xs/\xs[i]?=some x,fun i H x H'=>H'=H/\∀xs,aY K H a xs->xs[i]?=some x,fun i H=>∃xs,aY K H a xs/\xs.length <= i⟩
noncomputable def jM (lo:Int) (n:Nat):It:=⟨fun i _=>i < n,fun i H x H'=>H'=H/\x=.int (lo + i),fun i _=>n <= i⟩
theorem JM {tg:Expr} (a it:Addr):Kl P w K tg (jN K a) [it] it (fun i h=>h.IsListIter it a i) where
 mem:=by simp
 obj:=fun i h st b hb=>by
  have e:b=it:=by simpa using hb
  subst e;obtain⟨o,e,c,d⟩:=st;exact⟨o,e,fun v z=>by rw[d]at z;cases z⟩
 keep:=fun i h h' st k=>st.at fun o e=>k it (by simp) o e
 item:=by
  intro X hP hw hK hc i aa s σ H E I hf st hg;subst hP hw hK;obtain⟨xs,x,hq,hx⟩:=hg;obtain⟨its,rv,p,hz⟩:=I.list hq;obtain⟨u,hu,ru⟩:=rv.get hx;obtain⟨f0,f1,f2,f3,f4,f5⟩:=hf it (by simp);refine wpAny_pyNext_list_item st p.isList (x:=u) (by simpa using hu) fun h' dY sb=>?_;have I1:Inv X aa σ H { s with heap:=h' }:=I.turned (t':=s.toks) (fun b o hb e=>(sb.2 b hb).trans e) f0 f1 f3 f4 f5;obtain⟨o,e,c,d⟩:=id dY;exact⟨u,rfl,Km (s:={ s with heap:=h' }) e c d qc ⟨x,H,I1,ru,⟨rfl,fun ys hy=>by rw[I.list_inj hy hq];exact hx⟩,dY,fun b hb=>(hf b hb).1⟩⟩
 done:=by
  intro X hP hw hK hc i aa s σ H E I hf st hg;subst hP hw hK;obtain⟨xs,hq,hx⟩:=hg;obtain⟨its,rv,p,hz⟩:=I.list hq;obtain⟨f0,f1,f2,f3,f4,f5⟩:=hf it (by simp);have hl:=rv.length;exact wpAny_pyNext_list_end (I.ok.hd hc) st p.isList (by simp;omega) fun h' eb=>⟨rfl,I.turned (t':=s.toks) (fun b o hb e=>eb b o hb e) f0 f1 f3 f4 f5⟩
 self:=fun _ _ _ _ _ st h=>wpAny_pyIter_listiter st h
theorem MC {tg:Expr} (a it:Addr):Kl P w K tg (lg K a) [it] it (fun i h=>h.IsTupleIter it a i) where
 mem:=by simp
 obj:=fun i h st b hb=>by
  have e:b=it:=by simpa using hb
  subst e;obtain⟨o,e,c,d⟩:=st;exact⟨o,e,fun v z=>by rw[d]at z;cases z⟩
 keep:=fun i h h' st k=>st.at fun o e=>k it (by simp) o e
 item:=by
  intro X hP hw hK hc i aa s σ H E I hf st hg;subst hP hw hK;obtain⟨xs,x,hq,hx⟩:=hg;obtain⟨its,rv,p,hz⟩:=I.tuple hq;obtain⟨u,hu,ru⟩:=rv.get hx;obtain⟨f0,f1,f2,f3,f4,f5⟩:=hf it (by simp);refine wpAny_pyNext_tuple_item st (show s.heap.IsTuple a its.toArray from p) (x:=u) (by simpa using hu) fun h' dY sb=>?_;have I1:Inv X aa σ H { s with heap:=h' }:=I.turned (t':=s.toks) (fun b o hb e=>(sb.2 b hb).trans e) f0 f1 f3 f4 f5;obtain⟨o,e,c,d⟩:=id dY;exact⟨u,rfl,Km (s:={ s with heap:=h' }) e c d qc ⟨x,H,I1,ru,⟨rfl,fun ys hy=>by rw[I.tuple_inj hy hq];exact hx⟩,dY,fun b hb=>(hf b hb).1⟩⟩
 done:=by
  intro X hP hw hK hc i aa s σ H E I hf st hg;subst hP hw hK;obtain⟨xs,hq,hx⟩:=hg;obtain⟨its,rv,p,hz⟩:=I.tuple hq;obtain⟨f0,f1,f2,f3,f4,f5⟩:=hf it (by simp);have hl:=rv.length;exact wpAny_pyNext_tuple_end (I.ok.hd hc) st (show s.heap.IsTuple a its.toArray from p) (by simp;omega) fun h' eb=>⟨rfl,I.turned (t':=s.toks) (fun b o hb e=>eb b o hb e) f0 f1 f3 f4 f5⟩
 self:=fun _ _ _ _ _ st h=>wpAny_pyIter_tupleiter st h
theorem MD {tg:Expr} (it:Addr) (lo:Int) (n:Nat):Kl P w K tg (jM lo n) [it] it (fun i h=>IsRangeIter h it (lo + (i:Nat) * 1) ((n:Int) - (i:Nat)) 1) where
 mem:=by simp
 obj:=fun i h st b hb=>by
  have e:b=it:=by simpa using hb
  subst e
  exact⟨_,st,fun v z=>by
   have z':Data.fields _=Data.cell v:=z
   cases z'⟩
 keep:=fun i h h' st k=>k it (by simp) _ st
 item:=by
  intro X hP hw hK hc i aa s σ H E I hf st hg;subst hP hw hK;obtain⟨f0,f1,f2,f3,f4,f5⟩:=hf it (by simp);have W:=Walks.range (prog:=X.prog) (w:=X.w) (I.ok.hd hc) it lo 1 n;refine W.item i s _ _ hg st fun v h' tk hv dY kk=>?_;obtain⟨t,rfl⟩:=hv;have I1:Inv X aa σ H { s with heap:=h',toks:=tk }:=I.turned (fun b o hb e=>kk b o (by simpa using hb) e) f0 f1 f3 f4 f5;refine⟨_,rfl,Km (s:={ s with heap:=h',toks:=tk }) (n := "range_iterator") dY rfl rfl qc ⟨.int (lo + i),H,I1,⟨t,?_⟩,⟨rfl,rfl⟩,dY,fun b hb=>(hf b hb).1⟩⟩;rw[Int.mul_one]
 done:=by
  intro X hP hw hK hc i aa s σ H E I hf st hg;subst hP hw hK;obtain⟨f0,f1,f2,f3,f4,f5⟩:=hf it (by simp);exact wpAny_pyNext_range_end (I.ok.hd hc) st (by have:n <= i:=hg;omega) fun h' eb=>⟨rfl,I.turned (t':=s.toks) (fun b o hb e=>eb b o hb e) f0 f1 f3 f4 f5⟩
 self:=fun _ _ _ _ _ st h=>wpAny_pyIter_rangeiter st h
end L2
namespace L2
open PySem PySem.Spec PyProof.Rows
section
variable {tg:Expr}
def TB (K:FG) (tl:TE):TI:=fun σ H R=>tl σ H fun x H1=>∃a,x=.ref a/\(∃xs,aH K H1 a xs)/\R (jN K a) H1
def V4 (K:FG) (tl:TE):TI:=fun σ H R=>tl σ H fun x H1=>∃a,x=.ref a/\(∃xs,aY K H1 a xs)/\R (lg K a) H1
theorem Ao {l:Expr}{tl:TE} (hl:PE X l tl):PI X tg l (TB X.K tl):=by
 intro aa s σ H R I h;refine aJ (hl aa s σ H _ I h) fun v s1 ⟨x,H1,I1,r1,q1⟩=>?_;obtain⟨a,e,⟨xs,hq⟩,q⟩:=q1;subst e;cases r1;obtain⟨its,rv,p,hz⟩:=I1.list hq;refine wpAny_pyIter_list p.isList ?_;refine⟨s1.heap.objs.size,[s1.heap.objs.size],_,_,H1,rfl,I1.kept (t':=s1.toks) fun b o e=>ZX _ e,JM a _,⟨_,ZN _ rfl,rfl,rfl⟩,fun b hb=>?_,q⟩;have e:b=s1.heap.objs.size:=by simpa using hb
 subst e;exact I1.gy (Zy _) (I1.aI.fresh (Zy _))
theorem F7 {l:Expr}{tl:TE} (hl:PE X l tl):PI X tg l (V4 X.K tl):=by
 intro aa s σ H R I h;refine aJ (hl aa s σ H _ I h) fun v s1 ⟨x,H1,I1,r1,q1⟩=>?_;obtain⟨a,e,⟨xs,hq⟩,q⟩:=q1;subst e;cases r1;obtain⟨its,rv,p,hz⟩:=I1.tuple hq;refine wpAny_pyIter_tuple (show s1.heap.IsTuple a its.toArray from p) ?_;refine⟨s1.heap.objs.size,[s1.heap.objs.size],_,_,H1,rfl,I1.kept (t':=s1.toks) fun b o e=>ZX _ e,MC a _,⟨_,ZN _ rfl,rfl,rfl⟩,fun b hb=>?_,q⟩;have e:b=s1.heap.objs.size:=by simpa using hb
 subst e;exact I1.gy (Zy _) (I1.aI.fresh (Zy _))
theorem PU {s:Shared}{R:It->Hp->Prop}{lo hi:Int}{t u v:Tok}{tk:Nat} (I:Inv X aa σ H s) (h1:-(2 ^ 62) <= lo) (h2:lo < 2 ^ 62) (h3:-(2 ^ 62) <= hi) (h4:hi < 2 ^ 62)
  (q:R (jM lo (hi - lo).toNat) H):wpAny (model X.prog X.w) X.A (pyIter (.ref s.heap.objs.size)) (PIE X aa σ tg R) E { s with heap:=s.heap.push { cls:=.type "range", data:=.fields #[.int lo t,.int hi u,.int 1 v] },toks:=tk }:=by
 refine wpAny_pyIter_range (IsRange.new ..) (small_one h1 h2 h3 h4) ?_;have I1:Inv X aa σ H { s with heap:=s.heap.push { cls:=.type "range", data:=.fields #[.int lo t,.int hi u,.int 1 v] },toks:=tk }:=I.kept fun b o e=>ZX _ e
 refine⟨(s.heap.push { cls:=.type "range", data:=.fields #[.int lo t,.int hi u,.int 1 v] }).objs.size,[(s.heap.push { cls:=.type "range", data:=.fields #[.int lo t,.int hi u,.int 1 v] }).objs.size],_,_,H,rfl,
  I1.kept (t':=tk) fun b o e=>ZX _ e,MD _ lo (hi - lo).toNat,?_,fun b hb=>?_,q⟩
 ·have e1:lo + ((0:Nat):Int) * 1=lo:=by simp
  have e2:(((hi - lo).toNat:Nat):Int) - ((0:Nat):Int)=Builtin.Range.rangeSize lo hi 1:=by rw[rangeSize_one];split <;> omega
  show IsRangeIter _ _ (lo + ((0:Nat):Int) * 1) ((((hi - lo).toNat:Nat):Int) - ((0:Nat):Int)) 1;rw[e1,e2];exact ZN _ rfl
 ·have e:b=(s.heap.push { cls:=.type "range", data:=.fields #[.int lo t,.int hi u,.int 1 v] }).objs.size:=by simpa using hb
  subst e;exact I1.gy (Zy _) (I1.aI.fresh (Zy _))
def U6 (ta:TA):TI:=fun σ H R=>ta σ H fun vs H1=>∃j:Int,vs=[.int j]/\-(2 ^ 62) <= j/\j < 2 ^ 62/\R (jM 0 j.toNat) H1
theorem CJ {a:Expr}{ta:TA}{p:Pos} (hg:Gl X "range") (hm:X.mg "range" = none) (ha:PA X [a] ta) (hs:starEach [a] X.env=[(false,eval a X.env)]:=by rfl):PI X tg (.Call (.Name "range" p) [a] [] pos) (U6 ta):=by
 intro aa s σ H R I h;refine Call_ (Eu I hg hm boot_range (PyProof.Rows.callWith_type1 (aJ (ha pos aa s σ H _ I h) fun us s1 ⟨vs,H1,I1,r1,q1⟩=>?_) hs rfl));obtain⟨j,e,q1,q2,q⟩:=q1;subst e;cases r1 with
 |cons r rr =>
  cases rr;obtain⟨t,rfl⟩:=r;exact call_range_1 (PU I1 qe qe q1 q2 (by simpa using q))
def U7 (wi:TI) (g:TG) (tb:TS):TS:=fun D σ H=>wi σ H fun J H1=>∃W:Nat->Nat->St->Hp->Prop,(∃m,W 0 m σ H1)/\∀i m σ H,W i m σ H ->
 (J.stop i H/\D.nx σ H)\/(J.go i H/\∃N:St->Hp->Prop,(∀aK H',N aK H'->∃m',m' < m/\W (i + 1) m' aK H')/\∀x H',J.ic i H x H'->g x σ H' fun cG H2=>tb { D with nx:=N,ct:=N,bk:=D.nx } cG H2)
noncomputable def Cm (fp:List Addr) (h:Heap):LO:=fp.filterMap fun b=>(h.get? b).map fun o=>(b,o)
theorem CK {fp:List Addr}{b:Addr}{o:Obj} (hb:b∈fp) (e:h.get? b=some o):(b,o)∈Cm fp h:=List.mem_filterMap.mpr ⟨b,hb,by rw[e];rfl⟩
theorem F8 {fp:List Addr}{p:Addr×Obj} (hp:p∈Cm fp h):p.1∈fp/\h.get? p.1=some p.2:=by
 obtain⟨b,hb,e⟩:=List.mem_filterMap.mp hp;cases q:h.get? b with
 |none=>rw[q]at e;cases e
 |some o =>
  rw[q]at e;have e':(b,o)=p:=Option.some.inj e;subst e';exact⟨hb,q⟩
theorem Inv.pinned {s:Shared}{fp:List Addr} (I:Inv X aa σ H s) (hf:∀b∈fp,Ew X aa H b) (ho:∀b∈fp,∃o,s.heap.get? b=some o/\∀v,o.data≠ .cell v):Inv X (aa++Cm fp s.heap) σ H s :=
 I.cK fun p hp=>(mem_append.mp hp).elim (fun z=>I.pin p (ZT _ z)) fun z=>by
  obtain⟨hb,e⟩:=F8 z;obtain⟨f0,f1,f2,_⟩:=hf p.1 hb;obtain⟨o,e',d⟩:=ho p.1 hb;rw[e]at e';cases e';exact⟨e,f0,f1,f2,d⟩
theorem Inv.unpinned {pl:LO}{s:Shared} (I:Inv X (aa++pl) σ H s):Inv X aa σ H s:=I.cK fun p hp=>I.pin p (ZT _ (ZP _ hp))
theorem BY {iter:Expr}{body:List Stmt}{wi:TI}{g:TG}{tb:TS} (hp:PassesOwn (model X.prog X.w) X.A X.env X.xe) (hc:X.calm=true) (hi:PI X tg iter wi) (hg:PG X tg g) (hb:fc X body tb)
  (hs:∀x,foldedSetIterable iter X.env x=pure x:=by intro _;rfl):PS X (.For tg iter body [] pos) (U7 wi g tb):=by
 intro aa s σ H D I h;refine wpAny_For (aJ (hi aa s σ H _ I h) fun v s1 h1=>aJ h1 fun itv s2 h2=>?_) hs;obtain⟨it,fp,tn,J,H2,e,I2,T,i5,f2,W,⟨m0,w0⟩,turn⟩:=h2;subst e;have gf:∀ {H':Hp},(∀b∈fp,H' b=none)->∀b∈fp,Ew X aa H' b:=fun hn b hb=>⟨hn b hb,(f2 b hb).2⟩;refine codeAny_forLoop_any (fun n s'=>∃i aK H',Inv X aa aK H' s'/\tn i s'.heap/\(∀b∈fp,H' b=none)/\W i n aK H') ?_ m0 ⟨0,σ,H2,I2,i5,fun b hb=>(f2 b hb).1,w0⟩;rintro n s3 ⟨i,iZ,H3,I3,st3,fr3,w3⟩;rcases turn i n iZ H3 w3 with⟨stop,qn⟩ |⟨go,N,hN,step⟩
 ·refine wpAny_passesOwn hp (aJ (T.done X rfl rfl rfl hc i aa s3 iZ H3 X.xe I3 (gf fr3) st3 stop) fun r s4 ⟨hr,I4⟩=>?_);subst hr;exact wpAny_execs_nil ⟨iZ,H3,I4,qn⟩
 ·refine wpAny_passesOwn hp (aJ (T.item X rfl rfl rfl hc i aa s3 iZ H3 X.xe I3 (gf fr3) st3 go) fun r s4 ⟨u,hr,h4⟩=>?_);subst hr;refine wpAny_passesOwn hp (aJ h4 fun _ s5 ⟨x,H5,I5,r5,y5,st5,fr5⟩=>?_);have I5':=I5.pinned (gf fr5) (T.obj _ _ st5);refine wpAny_passesOwn hp (aJ (hg _ s5 iZ H5 x u _ I5' r5 (step x H5 y5)) fun _ s6 ⟨σ6,H6,I6,q6⟩=>?_);refine wpAny_passesOwn hp (aJ (hb _ s6 σ6 H6 _ I6 q6) fun f s7 q7=>?_)
  have again:∀ {f9:St}{H7:Hp},Inv X (aa++Cm fp s5.heap) f9 H7 s7->N f9 H7->∃m,m < n/\∃i aK H',Inv X aa aK H' s7/\tn i s7.heap/\(∀b∈fp,H' b=none)/\W i m aK H':=fun {f9 H7} I7 n7=>by
   obtain⟨m',hm,w7⟩:=hN f9 H7 n7;refine⟨m',hm,i + 1,f9,H7,I7.unpinned,T.keep _ _ _ st5 fun b hb o e=>(I7.pin (b,o) (ZT _ (ZT _ (CK hb e)))).1,fun b hb=>?_,w7⟩;obtain⟨o,e,d⟩:=T.obj _ _ st5 b hb;exact(I7.pin (b,o) (ZT _ (ZT _ (CK hb e)))).2.1
  cases f with
  |next=>obtain⟨f9,H7,I7,n7⟩:=q7;exact again I7 n7
  |cont=>obtain⟨f9,H7,I7,n7⟩:=q7;exact again I7 n7
  |brk=>obtain⟨f9,H7,I7,q7⟩:=q7;exact⟨f9,H7,I7.unpinned,q7⟩
  |ret v=>obtain⟨x7,f9,H7,I7,r7,q7⟩:=q7;exact⟨x7,f9,H7,I7.unpinned,r7,q7⟩
end
theorem BL {g:TG}{tb:TS}{D:Ei} (Pv:Nat->St->Hp->Prop) (h0:Pv 0 σ H) (hl:∀i σ H,i <= xs.length->Pv i σ H->aH K H a xs)
  (hs:∀i x σ H,xs[i]?=some x->Pv i σ H->g x σ H fun cG H2=>tb { D with nx:=Pv (i + 1),ct:=Pv (i + 1),bk:=D.nx } cG H2) (hd:∀σ H,Pv xs.length σ H->D.nx σ H) :
  ∃W:Nat->Nat->St->Hp->Prop,(∃m,W 0 m σ H)/\∀i m σ H,W i m σ H ->
   ((jN K a).stop i H/\D.nx σ H)\/((jN K a).go i H/\∃N:St->Hp->Prop,(∀aK H',N aK H'->∃m',m' < m/\W (i + 1) m' aK H')/\∀x H',(jN K a).ic i H x H'->g x σ H' fun cG H2=>tb { D with nx:=N,ct:=N,bk:=D.nx } cG H2):=by
 refine⟨fun i m σ H=>m=xs.length - i/\i <= xs.length/\Pv i σ H,⟨xs.length,by simp,Nat.zero_le _,h0⟩,?_⟩;rintro i m σ H ⟨rfl,hi,p⟩;have q:=hl i σ H hi p;by_cases hlt:i < xs.length
 ·refine .inr ⟨⟨xs,xs[i],q,by simp[hlt]⟩,Pv (i + 1),fun aK H' p'=>⟨xs.length - (i + 1),qe,rfl,hlt,p'⟩,fun x H' y=>?_⟩;obtain⟨e,y⟩:=y;subst e;exact hs i x σ _ (y xs q) p
 ·have e:i=xs.length:=by omega
  subst e;exact .inl ⟨⟨xs,q,Zy _⟩,hd σ H p⟩
theorem Rc {g:TG}{tb:TS}{D:Ei} (Pv:Nat->St->Hp->Prop) (h0:Pv 0 σ H) (hl:∀i σ H,i <= xs.length->Pv i σ H->aY K H a xs)
  (hs:∀i x σ H,xs[i]?=some x->Pv i σ H->g x σ H fun cG H2=>tb { D with nx:=Pv (i + 1),ct:=Pv (i + 1),bk:=D.nx } cG H2) (hd:∀σ H,Pv xs.length σ H->D.nx σ H) :
  ∃W:Nat->Nat->St->Hp->Prop,(∃m,W 0 m σ H)/\∀i m σ H,W i m σ H ->
   ((lg K a).stop i H/\D.nx σ H)\/((lg K a).go i H/\∃N:St->Hp->Prop,(∀aK H',N aK H'->∃m',m' < m/\W (i + 1) m' aK H')/\∀x H',(lg K a).ic i H x H'->g x σ H' fun cG H2=>tb { D with nx:=N,ct:=N,bk:=D.nx } cG H2):=by
 refine⟨fun i m σ H=>m=xs.length - i/\i <= xs.length/\Pv i σ H,⟨xs.length,by simp,Nat.zero_le _,h0⟩,?_⟩;rintro i m σ H ⟨rfl,hi,p⟩;have q:=hl i σ H hi p;by_cases hlt:i < xs.length
 ·refine .inr ⟨⟨xs,xs[i],q,by simp[hlt]⟩,Pv (i + 1),fun aK H' p'=>⟨xs.length - (i + 1),qe,rfl,hlt,p'⟩,fun x H' y=>?_⟩;obtain⟨e,y⟩:=y;subst e;exact hs i x σ _ (y xs q) p
 ·have e:i=xs.length:=by omega
  subst e;exact .inl ⟨⟨xs,q,Zy _⟩,hd σ H p⟩
theorem F9 {lo:Int}{n:Nat}{g:TG}{tb:TS}{D:Ei} (Pv:Nat->St->Hp->Prop) (h0:Pv 0 σ H)
  (hs:∀i σ H,i < n->Pv i σ H->g (.int (lo + i)) σ H fun cG H2=>tb { D with nx:=Pv (i + 1),ct:=Pv (i + 1),bk:=D.nx } cG H2) (hd:∀σ H,Pv n σ H->D.nx σ H) :
  ∃W:Nat->Nat->St->Hp->Prop,(∃m,W 0 m σ H)/\∀i m σ H,W i m σ H ->
   ((jM lo n).stop i H/\D.nx σ H)\/((jM lo n).go i H/\∃N:St->Hp->Prop,(∀aK H',N aK H'->∃m',m' < m/\W (i + 1) m' aK H')/\∀x H',(jM lo n).ic i H x H'->g x σ H' fun cG H2=>tb { D with nx:=N,ct:=N,bk:=D.nx } cG H2):=by
 refine⟨fun i m σ H=>m=n - i/\i <= n/\Pv i σ H,⟨n,by simp,Nat.zero_le _,h0⟩,?_⟩;rintro i m σ H ⟨rfl,hi,p⟩;by_cases hlt:i < n
 ·refine .inr ⟨hlt,Pv (i + 1),fun aK H' p'=>⟨n - (i + 1),qe,rfl,hlt,p'⟩,fun x H' y=>?_⟩;obtain⟨e,y⟩:=y;subst e y;exact hs i σ _ hlt p
 ·have e:i=n:=by omega
  subst e;exact .inl ⟨Zy _,hd σ H p⟩
theorem PV {c:TT}{tb:TS}{D:Ei} (Pv:St->Hp->Prop) (μ:St->Hp->Nat) (h0:Pv σ H)
  (hs:∀σ H,Pv σ H->c σ H fun b H1=>if b=true then tb { D with nx:=fun aK H'=>Pv aK H'/\μ aK H' < μ σ H,ct:=fun aK H'=>Pv aK H'/\μ aK H' < μ σ H,bk:=D.nx } σ H1 else D.nx σ H1)
  (mono:∀σ H Q Q',(∀b H1,Q b H1->Q' b H1)->c σ H Q->c σ H Q'):PP c tb D σ H:=by
 refine⟨fun m σ H=>m=μ σ H/\Pv σ H,⟨_,rfl,h0⟩,?_⟩;rintro m σ H ⟨rfl,p⟩;refine mono σ H _ _ (fun b H1 q=>?_) (hs σ H p);cases b with
 |true=>exact⟨_,fun aK H' ⟨p',l⟩=>⟨_,l,rfl,p'⟩,q⟩
 |false=>exact q
end L2
namespace L2
open PySem PySem.Spec PyProof.Rows
abbrev R2:=V->V->Hp->VK->Prop
def eB (X:Cx) (f:Value->Value->Sem Value) (r:R2):Prop :=
 ∀(aa:LO) (s:Shared) (σ:St) (H:Hp) (x y:V) (v u:Value) (Q:VK),Inv X aa σ H s->RelV x v->RelV y u->r x y H Q ->
  wpAny (model X.prog X.w) X.A (f v u) (EP X aa σ Q) X.xe s
def UnR (X:Cx) (f:Value->Sem Value) (r:V->Hp->VK->Prop):Prop :=
 ∀(aa:LO) (s:Shared) (σ:St) (H:Hp) (x:V) (v:Value) (Q:VK),Inv X aa σ H s->RelV x v->r x H Q ->
  wpAny (model X.prog X.w) X.A (f v) (EP X aa σ Q) X.xe s
def Bb (X:Cx) (f:Value) (r:List V->Hp->VK->Prop):Prop :=
 ∀(aa:LO) (s:Shared) (σ:St) (H:Hp) (xs:List V) (us:List Value) (Q:VK),Inv X aa σ H s->Vals xs us->r xs H Q ->
  wpAny (model X.prog X.w) X.A (call f us) (EP X aa σ Q) X.xe s
def tOp (r:R2) (ta tb:TE):TE:=fun σ H Q=>ta σ H fun x H1=>tb σ H1 fun y H2=>r x y H2 Q
def tUn (r:V->Hp->VK->Prop) (ta:TE):TE:=fun σ H Q=>ta σ H fun x H1=>r x H1 Q
def rI (C:Int->Int->Prop) (g:Int->Int->V):R2:=fun x y H Q=>ExI x y fun i j=>C i j/\Q (g i j) H
def i8 (g:Int->Int->V):R2:=fun x y H Q=>ExI x y fun i j=>Q (g i j) H
def rU (g:Int->V):V->Hp->VK->Prop:=fun x H Q=>∃i,x=.int i/\Q (g i) H
section
variable {a b c:Expr}{ta tb tc:TE}
theorem Tl (ha:PE X a ta) (hb:PE X b tb) {s:Shared}{R:V->V->Hp->Prop} (I:Inv X aa σ H s)
  (h:ta σ H fun x H1=>tb σ H1 fun y H2=>R x y H2) {Q:VS}{f:Value->Value->Sem Value}
  (hf:∀v u s2 x y H2,Inv X aa σ H2 s2->RelV x v->RelV y u->R x y H2->wpAny (model X.prog X.w) X.A (f v u) Q X.xe s2) :
  wpAny (model X.prog X.w) X.A (eval a X.env) (fun v aL=>wpAny (model X.prog X.w) X.A (eval b X.env) (fun u s₂=>wpAny (model X.prog X.w) X.A (f v u) Q X.xe s₂) X.xe aL) X.xe s:=by
 refine aJ (ha aa s σ H _ I h) fun v s1 ⟨x,H1,I1,r1,q1⟩=>?_;refine aJ (hb aa s1 σ H1 _ I1 q1) fun u s2 ⟨y,H2,I2,r2,q2⟩=>?_;exact hf v u s2 x y H2 I2 r1 r2 q2
theorem AX {op:Operator}{r:R2} (ho:eB X (binaryOp op) r) (ha:PE X a ta) (hb:PE X b tb):PE X (.BinOp a op b pos) (tOp r ta tb):=by
 intro aa s σ H Q I h;exact wpAny_BinOp (Tl ha hb I h fun v u s2 x y H2 I2 rx ry q=>ho aa s2 σ H2 x y v u Q I2 rx ry q)
theorem PX {op:UnaryOp}{r:V->Hp->VK->Prop} (ho:UnR X (unaryOp op) r) (ha:PE X a ta):PE X (.UnaryOp op a pos) (tUn r ta):=by
 intro aa s σ H Q I h;exact UnaryOp_ (aJ (ha aa s σ H _ I h) fun v s1 ⟨x,H1,I1,r1,q1⟩=>ho aa s1 σ H1 x v Q I1 r1 q1)
theorem jV {f:Value->Value->Sem Value}{C:Int->Int->Prop}{g:Int->Int->Int}
  (rule:∀(i j:Int) (t u:Tok) (s:Shared) (Q:VS) (E:VS),C i j->Q (.int (g i j) s.toks) { s with toks:=s.toks + 1 }->wpAny (model X.prog X.w) X.A (f (.int i t) (.int j u)) Q E s) :
  eB X f (rI C fun i j=>.int (g i j)):=by
 intro aa s σ H x y v u Q I rx ry h;obtain⟨i,j,rfl,rfl,hc,q⟩:=h;obtain⟨t,rfl⟩:=rx;obtain⟨t',rfl⟩:=ry;exact rule i j t t' s _ _ hc ⟨.int (g i j),H,I.tok _,⟨_,rfl⟩,q⟩
theorem PY {f:Value->Value->Sem Value}{g:Int->Int->Int}
  (rule:∀(i j:Int) (t u:Tok) (s:Shared) (Q:VS) (E:VS),Q (.int (g i j) s.toks) { s with toks:=s.toks + 1 }->wpAny (model X.prog X.w) X.A (f (.int i t) (.int j u)) Q E s) :
  eB X f (i8 fun i j=>.int (g i j)):=by
 intro aa s σ H x y v u Q I rx ry h;obtain⟨i,j,rfl,rfl,q⟩:=h;obtain⟨t,rfl⟩:=rx;obtain⟨t',rfl⟩:=ry;exact rule i j t t' s _ _ ⟨.int (g i j),H,I.tok _,⟨_,rfl⟩,q⟩
theorem Re {f:Value->Value->Sem Value}{g:Int->Int->Bool}
  (rule:∀(i j:Int) (t u:Tok) (s:Shared) (Q:VS) (E:VS),Q (.bool (g i j)) s->wpAny (model X.prog X.w) X.A (f (.int i t) (.int j u)) Q E s) :
  eB X f (i8 fun i j=>.bl (g i j)):=by
 intro aa s σ H x y v u Q I rx ry h;obtain⟨i,j,rfl,rfl,q⟩:=h;obtain⟨t,rfl⟩:=rx;obtain⟨t',rfl⟩:=ry;exact rule i j t t' s _ _ ⟨.bl (g i j),H,I,rfl,q⟩
def V5 (i j:Int):Prop:=0 < j/\j < 1073741824
def Tm (i j:Int):Prop:=0 <= j/\j <= 1000000/\i.natAbs < 2 ^ 64
def CMul (i j:Int):Prop:=(-(2 ^ 64) < i/\i < 2 ^ 64)\/(-(2 ^ 64) < j/\j < 2 ^ 64)
theorem CMul.ok {i j:Int} (h:CMul i j):IntMulOk i j:=by
 rcases h with⟨h1,h2⟩ |⟨h1,h2⟩
 ·exact .of_left (intBits_le_64 h1 h2)
 ·exact .of_right (intBits_le_64 h1 h2)
theorem MF (k:Nat):(0:Int) <= 2 ^ k:=by
 rw[two_pow_cast];exact Z1 _
theorem Cn:eB X (binaryOp .Add) (i8 fun i j=>.int (i + j)):=PY fun _ _ _ _ _ _ _ q=>add_int q
theorem HM:eB X (binaryOp .Sub) (i8 fun i j=>.int (i - j)):=PY fun _ _ _ _ _ _ _ q=>sub_int q
theorem HN:eB X (binaryOp .Mult) (rI CMul fun i j=>.int (i * j)):=jV fun _ _ _ _ _ _ _ hc q=>mul_int q hc.ok
theorem Jy:eB X (binaryOp .FloorDiv) (rI V5 fun i j=>.int (i / j)):=jV fun i j _ _ _ _ _ hc q=>by
 have h1:(0:Int) < j:=hc.1;have h2:j < 1073741824:=hc.2;exact floordiv_int qe (by rw[Int.fdiv_eq_ediv_of_nonneg i qe];exact q) (.inl (PyProof.noPylong_small qe))
theorem Dp:eB X (binaryOp .Mod) (rI (fun _ j=>0 < j) fun i j=>.int (i % j)):=jV fun i j _ _ _ _ _ hc q=>by
 have h1:(0:Int) < j:=hc;exact mod_int' qe (by rw[Int.fmod_eq_emod_of_nonneg i qe];exact q)
theorem PZ:eB X (binaryOp .Pow) (rI Tm fun i j=>.int (i ^ j.toNat)):=jV fun _ _ _ _ _ _ _ hc q=>pow_int_small hc.1 hc.2.1 hc.2.2 q
theorem Jz:eB X (binaryOp .LShift) (rI Tm fun i j=>.int (i * 2 ^ j.toNat)):=jV fun _ _ _ _ _ _ _ hc q=>lshift_int_small hc.1 hc.2.1 hc.2.2 q
theorem To:eB X (binaryOp .RShift) (rI (fun _ j=>0 <= j) fun i j=>.int (i / 2 ^ j.toNat)):=jV fun i j _ _ _ _ _ hc q =>
 rshift_int hc (by rw[Int.fdiv_eq_ediv_of_nonneg i (MF _)];exact q)
theorem Bw:eB X (binaryOp .BitAnd) (i8 fun i j=>.int (Builtin.bitAnd i j)):=PY fun _ _ _ _ _ _ _ q=>and_int q
theorem HQ:eB X (binaryOp .BitOr) (i8 fun i j=>.int (Builtin.bitOr i j)):=PY fun _ _ _ _ _ _ _ q=>or_int q
theorem Tp:eB X (inplaceOp .BitOr) (i8 fun i j=>.int (Builtin.bitOr i j)):=PY fun _ _ _ _ _ _ _ q=>ior_int q
theorem unI {f:Value->Sem Value}{g:Int->Int}
  (rule:∀(i:Int) (t:Tok) (s:Shared) (Q:VS) (E:VS),Q (.int (g i) s.toks) { s with toks:=s.toks + 1 }->wpAny (model X.prog X.w) X.A (f (.int i t)) Q E s) :
  UnR X f (rU fun i=>.int (g i)):=by
 intro aa s σ H x v Q I rx h;obtain⟨i,rfl,q⟩:=h;obtain⟨t,rfl⟩:=rx;exact rule i t s _ _ ⟨.int (g i),H,I.tok _,⟨_,rfl⟩,q⟩
theorem Tq:UnR X (unaryOp .USub) (rU fun i=>.int (-i)):=unI fun _ _ _ _ _ q=>neg_int q
theorem Pa:UnR X (unaryOp .Invert) (rU fun i=>.int (Builtin.bitNot i)):=unI fun _ _ _ _ _ q=>invert_int q
end
noncomputable def U8:V->V->Bool
 | .aU,.aU=>true | .aU,.int _=>true | .int _,.aU=>true | .aU,.bl _=>true | .bl _,.aU=>true | .aU,.str _=>true | .str _,.aU=>true
 | .int _,.int _=>true | .bl _,.bl _=>true | .str _,.str _=>true | .iO _,.iO _=>true
 | .int _,.str _=>true | .str _,.int _=>true | .bl _,.str _=>true | .str _,.bl _=>true
 |_,_=>false
def rEq:R2:=fun x y H Q=>U8 x y=true/\Q (.bl (decide (x=y))) H
def rNe:R2:=fun x y H Q=>U8 x y=true/\Q (.bl (!decide (x=y))) H
theorem NS {i j:Int}:decide (V.int i=V.int j)=(i == j):=by
 rw[Bool.eq_iff_iff];simp
theorem Pb {i j:Bool}:decide (V.bl i=V.bl j)=(i == j):=by
 rw[Bool.eq_iff_iff];simp
theorem NT {i j:Str}:decide (V.str i=V.str j)=(i == j):=by
 rw[Bool.eq_iff_iff];simp
theorem NU {i j:Array UInt8}:decide (V.iO i=V.iO j)=(i.toList == j.toList):=by
 rw[Bool.eq_iff_iff];cases i;cases j;simp
section
variable {a b c:Expr}{ta tb tc:TE}
theorem Av {s:Shared}{Q:VK}{k k':Bool} (I:Inv X aa σ H s) (q:Q (.bl k) H) (e:k=k'):EP X aa σ Q (.bool k') s:=by
 subst e;exact⟨.bl k,H,I,rfl,q⟩
theorem DI:eB X (compareOp .Eq) rEq:=by
 intro aa s σ H x y v u Q I rx ry h;obtain⟨hs,q⟩:=h;cases x with
 |aU =>
  cases rx;cases y with
  |aU=>cases ry;exact PySem.EqNone.eq_none_none (Av I q (by simp))
  |bl j=>cases ry;exact PySem.EqNone.eq_none_bool (Av I q (by simp))
  |int j=>obtain⟨t',rfl⟩:=ry;exact PySem.EqNone.eq_none_int (Av I q (by simp))
  |str j=>obtain⟨t',rfl⟩:=ry;exact PySem.EqNone.eq_none_str (Av I q (by simp))
  |_=>exact absurd (show false=true from hs) Bool.false_ne_true
 |bl i =>
  cases rx;cases y with
  |aU=>cases ry;exact PySem.EqNone.eq_bool_none (Av I q (by simp))
  |bl j=>cases ry;exact eq_bool (Av I q Pb)
  |str j=>obtain⟨t',rfl⟩:=ry;exact PySem.EqMixed.eq_bool_str (Av I q (by simp))
  |_=>exact absurd (show false=true from hs) Bool.false_ne_true
 |int i =>
  obtain⟨t,rfl⟩:=rx;cases y with
  |aU=>cases ry;exact PySem.EqNone.eq_int_none (Av I q (by simp))
  |int j=>obtain⟨t',rfl⟩:=ry;exact eq_int (Av I q NS)
  |str j=>obtain⟨t',rfl⟩:=ry;exact PySem.EqMixed.eq_int_str (Av I q (by simp))
  |_=>exact absurd (show false=true from hs) Bool.false_ne_true
 |str i =>
  obtain⟨t,rfl⟩:=rx;cases y with
  |aU=>cases ry;exact PySem.EqNone.eq_str_none (Av I q (by simp))
  |bl j=>cases ry;exact PySem.EqMixed.eq_str_bool (Av I q (by simp))
  |int j=>obtain⟨t',rfl⟩:=ry;exact PySem.EqMixed.eq_str_int (Av I q (by simp))
  |str j=>obtain⟨t',rfl⟩:=ry;exact eq_str (Av I q NT)
  |_=>exact absurd (show false=true from hs) Bool.false_ne_true
 |iO i =>
  obtain⟨t,rfl⟩:=rx;cases y with
  |iO j=>obtain⟨t',rfl⟩:=ry;exact W.eq_bytes (Av I q NU)
  |_=>exact absurd (show false=true from hs) Bool.false_ne_true
 |_=>cases y <;> exact absurd (show false=true from hs) Bool.false_ne_true
theorem CI:eB X (compareOp .NotEq) rNe:=by
 intro aa s σ H x y v u Q I rx ry h;obtain⟨hs,q⟩:=h;cases x with
 |aU =>
  cases rx;cases y with
  |aU=>cases ry;exact PySem.EqNone.ne_none_none (Av I q (by simp))
  |bl j=>cases ry;exact PySem.EqNone.ne_none_bool (Av I q (by simp))
  |int j=>obtain⟨t',rfl⟩:=ry;exact PySem.EqNone.ne_none_int (Av I q (by simp))
  |str j=>obtain⟨t',rfl⟩:=ry;exact PySem.EqNone.ne_none_str (Av I q (by simp))
  |_=>exact absurd (show false=true from hs) Bool.false_ne_true
 |bl i =>
  cases rx;cases y with
  |aU=>cases ry;exact PySem.EqNone.ne_bool_none (Av I q (by simp))
  |bl j=>cases ry;exact ne_bool (Av I q (congrArg not Pb))
  |str j=>obtain⟨t',rfl⟩:=ry;exact PySem.EqMixed.ne_bool_str (Av I q (by simp))
  |_=>exact absurd (show false=true from hs) Bool.false_ne_true
 |int i =>
  obtain⟨t,rfl⟩:=rx;cases y with
  |aU=>cases ry;exact PySem.EqNone.ne_int_none (Av I q (by simp))
  |int j=>obtain⟨t',rfl⟩:=ry;exact ne_int (Av I q (congrArg not NS))
  |str j=>obtain⟨t',rfl⟩:=ry;exact PySem.EqMixed.ne_int_str (Av I q (by simp))
  |_=>exact absurd (show false=true from hs) Bool.false_ne_true
 |str i =>
  obtain⟨t,rfl⟩:=rx;cases y with
  |aU=>cases ry;exact PySem.EqNone.ne_str_none (Av I q (by simp))
  |bl j=>cases ry;exact PySem.EqMixed.ne_str_bool (Av I q (by simp))
  |int j=>obtain⟨t',rfl⟩:=ry;exact PySem.EqMixed.ne_str_int (Av I q (by simp))
  |str j=>obtain⟨t',rfl⟩:=ry;exact ne_str (Av I q (congrArg not NT))
  |_=>exact absurd (show false=true from hs) Bool.false_ne_true
 |iO i =>
  obtain⟨t,rfl⟩:=rx;cases y with
  |iO j=>obtain⟨t',rfl⟩:=ry;exact W.ne_bytes (Av I q (congrArg not NU))
  |_=>exact absurd (show false=true from hs) Bool.false_ne_true
 |_=>cases y <;> exact absurd (show false=true from hs) Bool.false_ne_true
theorem HR:eB X (compareOp .Lt) (i8 fun i j=>.bl (decide (i < j))):=Re fun _ _ _ _ _ _ _ q=>lt_int q
theorem Ek:eB X (compareOp .LtE) (i8 fun i j=>.bl (decide (i <= j))):=Re fun _ _ _ _ _ _ _ q=>le_int q
theorem HS:eB X (compareOp .Gt) (i8 fun i j=>.bl (decide (j < i))):=Re fun _ _ _ _ _ _ _ q=>gt_int q
theorem NV:eB X (compareOp .GtE) (i8 fun i j=>.bl (decide (j <= i))):=Re fun _ _ _ _ _ _ _ q=>ge_int q
theorem AW (b:Expr) {op:CmpOp} (h:op≠ .In:=by decide) (h2:op≠ .NotIn:=by decide):behindInMarks op b=false:=by
 have e1:(op == CmpOp.In)=false:=by cases op <;> first |rfl |exact absurd rfl h
 have e2:(op == CmpOp.NotIn)=false:=by cases op <;> first |rfl |exact absurd rfl h2
 cases b <;> simp[behindInMarks,e1,e2]
theorem CQ {op:CmpOp}{r:R2} (ho:eB X (compareOp op) r) (ha:PE X a ta) (hb:PE X b tb) (hm:behindInMarks op b=false):PE X (.Compare a [op] [b] pos) (tOp r ta tb):=by
 intro aa s σ H Q I h;exact wpAny_Compare1 (Tl ha hb I h fun v u s2 x y H2 I2 rx ry q=>ho aa s2 σ H2 x y v u Q I2 rx ry q) hm
def TC (t:TE):TT:=fun σ H Q=>t σ H fun x H'=>ExB x fun k=>Q k H'
theorem AS {op:CmpOp}{r:R2} (ho:eB X (compareOp op) r) (ha:PE X a ta) (hb:PE X b tb) (hm:behindInMarks op b=false):PT X (.Compare a [op] [b] pos) (TC (tOp r ta tb)):=by
 intro aa s σ H Q I h
 refine wpAny_isTrue_Compare1 (aJ (ha aa s σ H _ I h) fun v s1 ⟨x,H1,I1,r1,q1⟩=>aJ (hb aa s1 σ H1 _ I1 q1) fun u s2 ⟨y,H2,I2,r2,q2⟩ =>
  aJ (ho aa s2 σ H2 x y v u _ I2 r1 r2 q2) fun c s3 ⟨z,H3,I3,r3,k,e,q3⟩=>?_) hm
 subst e;cases r3;exact Z0 ⟨H3,I3,q3⟩
def Pc (r r':R2) (ta tb tc:TE):TE:=fun σ H Q=>ta σ H fun x H1=>tb σ H1 fun y H2=>r x y H2 fun z H3=>∃k,z=.bl k /\
 (if k=true then tc σ H3 fun w' H4=>r' y w' H4 Q else Q (.bl false) H3)
theorem Ko {op op':CmpOp}{r r':R2} (ho:eB X (compareOp op) r) (gY:eB X (compareOp op') r') (ha:PE X a ta) (hb:PE X b tb) (hc:PE X c tc)
  (hm:lastMarks [op,op'] [b,c]=false:=by with_unfolding_all rfl):PE X (.Compare a [op,op'] [b,c] pos) (Pc r r' ta tb tc):=by
 intro aa s σ H Q I h
 refine Compare_chain (aJ (ha aa s σ H _ I h) fun v s1 ⟨x,H1,I1,r1,q1⟩=>chain_link (aJ (hb aa s1 σ H1 _ I1 q1) fun u s2 ⟨y,H2,I2,r2,q2⟩ =>
  aJ (ho aa s2 σ H2 x y v u _ I2 r1 r2 q2) fun d s3 ⟨z,H3,I3,r3,k,e,q3⟩=>?_)) hm
 subst e;cases r3;refine Z0 ?_;cases k with
 |false=>exact ite_ff ⟨.bl false,H3,I3,rfl,q3⟩
 |true=>exact ite_tt (chain_last (aJ (hc aa s3 σ H3 _ I3 q3) fun w' s4 ⟨z',H4,I4,r4,q4⟩=>gY aa s4 σ H4 y z' u w' Q I4 r2 r4 q4))
theorem Dq {op op':CmpOp}{r r':R2} (ho:eB X (compareOp op) r) (gY:eB X (compareOp op') r') (ha:PE X a ta) (hb:PE X b tb) (hc:PE X c tc)
  (hm:lastMarks [op,op'] [b,c]=false:=by with_unfolding_all rfl):PT X (.Compare a [op,op'] [b,c] pos) (TC (Pc r r' ta tb tc)):=by
 intro aa s σ H Q I h
 refine isTrue_chain (aJ (ha aa s σ H _ I h) fun v s1 ⟨x,H1,I1,r1,q1⟩=>test_link (aJ (hb aa s1 σ H1 _ I1 q1) fun u s2 ⟨y,H2,I2,r2,q2⟩ =>
  aJ (ho aa s2 σ H2 x y v u _ I2 r1 r2 q2) fun d s3 ⟨z,H3,I3,r3,k,e,q3⟩=>?_)) hm
 subst e;cases r3;refine Z0 ?_;cases k with
 |false =>
  obtain⟨k',e',q'⟩:=q3;cases e';exact ite_ff ⟨H3,I3,q'⟩
 |true =>
  refine ite_tt (test_last (aJ (hc aa s3 σ H3 _ I3 q3) fun w' s4 ⟨z',H4,I4,r4,q4⟩=>aJ (gY aa s4 σ H4 y z' u w' _ I4 r2 r4 q4) fun d' s5 ⟨z2,H5,I5,r5,k2,e2,q5⟩=>?_));subst e2;cases r5;exact Z0 ⟨H5,I5,q5⟩
theorem HU:(sizeLine:Nat) < 2 ^ 63:=by rw[sizeLine_eq];decide
theorem B4 {x:V} (r:Vals [x] us):∃u,us=[u]/\RelV x u:=by
 cases r with
 |cons r1 r2=>cases r2;exact⟨_,rfl,r1⟩
theorem El {x y:V} (r:Vals [x,y] us):∃u w',us=[u,w']/\RelV x u/\RelV y w':=by
 cases r with
 |cons r1 r2 =>
  cases r2 with
  |cons r3 r4=>cases r4;exact⟨_,_,rfl,r1,r3⟩
theorem OA (hc:X.calm=true):Bb X (.builtin "max") (fun xs H Q=>∃i j,xs=[.int i,.int j]/\Q (.int (if j > i then j else i)) H):=by
 intro aa s σ H xs us Q I r h;obtain⟨i,j,rfl,q⟩:=h;obtain⟨u,w',rfl,⟨t,rfl⟩,⟨t',rfl⟩⟩:=El r;refine max_two_ints (I.ok.hd hc) fun h' tk k=>⟨_,H,I.kept k,?_,q⟩;by_cases hj:j > i
 ·rw[Zp hj,Zp hj];exact⟨_,rfl⟩
 ·rw[Zq hj,Zq hj];exact⟨_,rfl⟩
theorem OB (hc:X.calm=true):Bb X (.builtin "min") (fun xs H Q=>∃i j,xs=[.int i,.int j]/\Q (.int (if j < i then j else i)) H):=by
 intro aa s σ H xs us Q I r h;obtain⟨i,j,rfl,q⟩:=h;obtain⟨u,w',rfl,⟨t,rfl⟩,⟨t',rfl⟩⟩:=El r;refine min_two_ints (I.ok.hd hc) fun h' tk k=>⟨_,H,I.kept k,?_,q⟩;by_cases hj:j < i
 ·rw[Zp hj,Zp hj];exact⟨_,rfl⟩
 ·rw[Zq hj,Zq hj];exact⟨_,rfl⟩
theorem OC:Bb X (.type "int") (fun xs H Q=>(∃i,xs=[.int i]/\Q (.int i) H)\/∃k,xs=[.bl k]/\Q (.int (if k then 1 else 0)) H):=by
 intro aa s σ H xs us Q I r h;rcases h with⟨i,rfl,q⟩ |⟨k,rfl,q⟩
 ·obtain⟨u,rfl,t,rfl⟩:=B4 r;exact call_int_int ⟨.int i,H,I,⟨_,rfl⟩,q⟩
 ·obtain⟨u,rfl,r1⟩:=B4 r;cases r1;exact call_int_bool ⟨.int (if k then 1 else 0),H,I.tok _,⟨_,rfl⟩,q⟩
end
end L2
namespace L2
open PySem PySem.Spec PyProof.Rows
structure ObjM (h:Heap) (x dx C:Addr) (mA:SV):Prop where
 obj:h.get? x=some (W.instObj C dx)
 ns:h.Ns1 dx mA
 ne:dx≠x
theorem OD {dx:Addr}{mA:SV} (n:h.Ns1 dx mA):∃od,h.get? dx=some od/\∀name,W.lookIn name od=some (mA name):=by
 obtain⟨o,es,ep,ho,hd,hk,_,hm⟩:=n;refine⟨o,ho,fun name=>?_⟩;have e:=hm name;unfold nsFind findBy at e;rw[←Array.find?_toList]at e;unfold W.lookIn;rw[hd]
 dsimp only
 split
 ·rename_i y q;rw[q]at e;exact congrArg some e
 ·rename_i q;rw[q]at e
  have a:es.toList.any (·.refKey)=false:=by
   rw[List.any_eq_false];intro y hy;obtain⟨z,t,cf⟩:=hk y (Array.mem_toList_iff.mp hy);simp[DictEntry.refKey,cf]
  have a':¬ es.toList.any (·.refKey)=true:=by rw[a];exact Bool.false_ne_true
  rw[Zq a'];exact congrArg some e
theorem ObjM.look {x dx:Addr}{mA:SV} (I:ObjM h x dx C mA):∃od,W.InstAt h x (W.instObj C dx) C (some od)/\∀name,W.lookIn name od=some (mA name) :=
 let ⟨od,ho,hl⟩:=OD I.ns
 ⟨od,⟨I.obj,rfl,rfl,ho⟩,hl⟩
section
variable {prog:Program}{s:Shared}{x dx:Addr}{mA:SV}{name:Str}{v:Value}
theorem Rf {expr:Bool}{Q:VS} (X:K.In s.heap) (I:ObjM s.heap x dx C mA) (hg:W.plainGet K C name=true) (hh:W.hasDictIn K C=true)
  (ha:W.findIn K (.ref C) name=some none) (hv:mA name=some v) (hv':W.handedIn v=true) (h:Q v { s with toks:=s.toks + 1 }) :
  wpAny (model prog w) A (getAttr (.ref x) name expr) Q E s:=by
 obtain⟨od,J,hl⟩:=I.look;exact W.get_value X J (W.plainGet_of hg).1 (W.findObj_own hh ha rfl (by rw[hl,hv])) hv' h
theorem Pd {pl:Sem Bool}{Q:Value×List Value->Shared->Prop} (X:K.In s.heap) (I:ObjM s.heap x dx C mA) (hg:W.plainGet K C name=true)
  (hf:W.findIn K (.ref C) name=some (some (.ref f))) (ht:W.isFn K (.ref f)=true) (hv:mA name=none) (h:Q (.ref f,[.ref x]) s) :
  wpAny (model prog w) A (getMethod (.ref x) name pl) Q E s:=by
 obtain⟨od,J,hl⟩:=I.look;exact W.method_fn X J (W.plainGet_of hg).1 (W.plainGet_of hg).2 hf (beq_iff_eq.mp ht) (by show(W.lookIn name od).map (·.isSome)=some false;rw[hl,hv];rfl) h
theorem Rg {ns:List Str}{Q:Unit->Shared->Prop} (X:K.In s.heap) (I:ObjM s.heap x dx C mA)
  (hs:W.findIn K (.ref C) "__setattr__" = some (some (.builtin "object.__setattr__"))) (hp:W.plainOver K C=true) (ht:W.takerIn K C name=some none) (hh:W.hasDictIn K C=true)
  (hw:PySem.Within mA ns) (hsz:ns.length <= sizeLine)
  (h:∀h',ObjM h' x dx C (fun y=>if y=name then some v else mA y)->Heap.SameBut dx s.heap h'->Q () { s with heap:=h',toks:=s.toks + 2 }) :
  wpAny (model prog w) A (setAttr (.ref x) name v) Q E s:=by
 obtain⟨od,J,hl⟩:=I.look;refine W.set_plain X J hs (W.osa_open (s:={ s with toks:=s.toks + 1 }) (r:=none) X J hp ht fun b=>?_);obtain⟨cd,hc,hd'⟩:=W.any_some hh;have hx:s.heap.get? x=some ⟨.ref C,some dx,.plain,#[]⟩:=I.obj;refine Zx (Zw (Zx (Zx (wpAny_loadPart hx (Zx (W.Looks.here (s:={ s with toks:=s.toks + 1 }) (W.looks_clsIn X hc) ?_))))));rw[hd'];refine Zw (a:=some dx) (Zx (Zw (Zx ?_)));refine wpAny_nsSet1 (s:={ s with toks:=s.toks + 1 }) I.ns fun h' hn2 ja=>?_;obtain⟨oD,esD,epD,hoD,hdD,jc⟩:=hn2.count (PySem.Within.cons name v hw);refine Zx (wpAny_lookBehind hoD (by rw[hdD];exact pastItsLine_dict (Nat.le_trans jc (by rw[length_cons];omega))) ?_);exact Zw (h _ ⟨(ja.2 _ (Ne.symm I.ne)).trans I.obj,hn2,I.ne⟩ ja)
theorem Kp {R:Result->Shared->Prop}{vs:List Value}{kw:List (Str×Value)} (X:K.In s.heap) (hm:W.makesIn K C=true)
  (hi:W.findIn K (.ref C) "__init__" = some (some (.ref f))) (hf:W.typeIn K (.ref f)=some (.type "function"))
  (h:codeAny (model prog w) (A.under (.builtin "type.__call__" ⟨.ref C :: vs,kw⟩)) (.call (.ref f) ⟨.ref (s.heap.objs.size + 1) :: vs,kw⟩) (W.InitBack (s.heap.objs.size + 1) R)
   { s with heap:=(s.heap.push W.emptyDict).push (W.instObj C s.heap.objs.size) }) :
  codeAny (model prog w) A (.call (.ref C) ⟨vs,kw⟩) R s:=by
 obtain⟨hh,g,d,t,os⟩:=s;exact W.make_core (W.makes_of X hm) (W.looks_findIn X hi) (fun self=>W.bind_fn X self hf) (.inl rfl) h
end
noncomputable def At (f:Str) (v:V):List (Str×V)->List (Str×V)
  | []=>[(f,v)]
  | (g,x) :: r=>if g=f then (g,v) :: r else (g,x) :: At f v r
theorem AK (f g:Str) (v:V):∀fs:List (Str×V),(At f v fs).lookup g=if g=f then some v else fs.lookup g
  | []=>by
    show List.lookup g [(f,v)]=_;by_cases h:g=f
    · have hb:(g == f)=true:=beq_iff_eq.mpr h
      simp only[List.lookup,hb,Zp h]
    · have hb:(g == f)=false:=beq_eq_false_iff_ne.mpr h
      simp only[List.lookup,hb,Zq h]
  | (k,x) :: r=>by
    have ih:=AK f g v r;rw[show At f v ((k,x) :: r)=(if k=f then (k,v) :: r else (k,x) :: At f v r)from rfl];by_cases hk:k=f
    · rw[Zp hk]
      by_cases h:g=k
      · have hb:(g == k)=true:=beq_iff_eq.mpr h
        simp only[List.lookup,hb,Zp (h.trans hk)]
      · have hb:(g == k)=false:=beq_eq_false_iff_ne.mpr h
        simp only[List.lookup,hb,Zq (fun e:g=f=>h (e.trans hk.symm))]
    · rw[Zq hk]
      by_cases h:g=k
      · have hb:(g == k)=true:=beq_iff_eq.mpr h
        simp only[List.lookup,hb,Zq (fun e:g=f=>hk (h.symm.trans e))]
      · have hb:(g == k)=false:=beq_eq_false_iff_ne.mpr h
        simp only[List.lookup,hb];exact ih
theorem GA (f:Str) (v:V):∀fs:List (Str×V),f∈(At f v fs).map (·.1)/\∀g,g∈fs.map (·.1)->g∈(At f v fs).map (·.1)
  | []=>⟨by simp[At],fun g h=>by simp at h⟩
  | (k,x) :: r=>by
    obtain⟨i1,i2⟩:=GA f v r;rw[show At f v ((k,x) :: r)=(if k=f then (k,v) :: r else (k,x) :: At f v r)from rfl];by_cases hk:k=f
    · rw[Zp hk]
      subst hk;exact⟨by simp,fun g h=>by simpa using h⟩
    · rw[Zq hk]
      refine⟨?_,fun g h=>?_⟩
      · rw[map_cons]
        exact ZR _ i1
      · rw[map_cons]at h ⊢
        rcases mem_cons.mp h with e |e
        · exact mem_cons.mpr (.inl e)
        · exact ZR _ (i2 g e)
theorem BA (f:Str) (v:V):∀fs:List (Str×V),(At f v fs).length <= fs.length + 1
  | []=>by simp[At]
  | (k,x) :: r=>by
    have ih:=BA f v r;rw[show At f v ((k,x) :: r)=(if k=f then (k,v) :: r else (k,x) :: At f v r)from rfl];by_cases hk:k=f
    · rw[Zp hk,length_cons,length_cons];omega
    · rw[Zq hk,length_cons,length_cons];omega
theorem eR.some_of {v:V}{o:Option Value} (r:eR (some v) o):∃u,o=some u/\RelV v u:=by
 cases o with
 |none=>exact(show False from r).elim
 |some u=>exact⟨u,rfl,r⟩
theorem eR.none_of {o:Option Value} (r:eR none o):o=none:=by
 cases o with
 |none=>rfl
 |some u=>exact(show False from r).elim
theorem OE {v:V} (r:RelV v u):W.handedIn u=true:=by
 cases v with
 |aU=>cases (show u=Value.none from r);rfl
 |bl b=>cases (show u=Value.bool b from r);rfl
 |int i=>obtain⟨t,e⟩:=(show ∃t,u=Value.int i t from r);cases e;rfl
 |str x=>obtain⟨t,e⟩:=(show ∃t,u=Value.str x t from r);cases e;rfl
 |iO b=>obtain⟨t,e⟩:=(show ∃t,u=Value.bytes b t from r);cases e;rfl
 |jJ b=>obtain⟨t,e⟩:=(show ∃t,u=Value.float b t from r);cases e;rfl
 |ref a=>cases (show u=Value.ref a from r);rfl
 |ty n=>cases (show u=Value.type n from r);rfl
section
variable {h':Heap}{dx:Addr}{fs fs':List (Str×V)}
theorem C3 (aI:eE P w H h) (e:H a=some (.ins C dx fs)):∃mA,ObjM h a dx C mA/\(∀f,eR (fs.lookup f) (mA f))/\PySem.Within mA (fs.map (·.1))/\fs.length <= 1000/\H dx=some (.own a):=by
 obtain⟨d,z,ne,ob,mA,n,r,q⟩:=(show aT P w H h a (.ins C dx fs)from aI a _ e);exact⟨mA,⟨ob,n,ne⟩,r,q,z,d⟩
end
structure ir (K:FG) (C:Addr):Prop where
 pg:W.plainGet K C Str.empty=true
 hd:W.hasDictIn K C=true
 po:W.plainOver K C=true
 sa:W.findIn K (.ref C) "__setattr__" = some (some (.builtin "object.__setattr__"))
theorem ir.get (c:ir K C) (f:Str):W.plainGet K C f=true:=c.pg
def bQ (K:FG) (C:Addr) (f:Str):Prop:=W.findIn K (.ref C) f=some none
theorem bQ.taker {f:Str} (n:bQ K C f):W.takerIn K C f=some none:=by
 unfold W.takerIn;rw[show W.findIn K (.ref C) f=some none from n];rfl
structure HV (K:FG) (C:Addr) (m:Str) (f:Addr):Prop where
 at_:W.findIn K (.ref C) m=some (some (.ref f))
 fn:W.isFn K (.ref f)=true
 kp:W.keepIn K (.ref f)=true
section
variable {s:Shared}{dx:Addr}{fs:List (Str×V)}{f:Str}{v:V}
theorem MH {b:Bool}{Q:VS} (I:Inv X aa σ H s) (e:H a=some (.ins C dx fs)) (c:ir X.K C) (n:bQ X.K C f) (l:fs.lookup f=some v)
  (h:∀u s',Inv X aa σ H s'->RelV v u->Q u s'):wpAny (model X.prog X.w) A (getAttr (.ref a) f b) Q E s:=by
 obtain⟨mA,O,r,_,_,_⟩:=C3 I.aI e;obtain⟨u,hu,ru⟩:=eR.some_of (v:=v) (o:=mA f) (by rw[←l];exact r f);exact Rf I.cS O (c.get f) c.hd n hu (OE ru) (h u _ (I.tok _) ru)
theorem HW {m:Str}{g:Addr}{pl:Sem Bool}{Q:Value×List Value->Shared->Prop} (I:Inv X aa σ H s) (e:H a=some (.ins C dx fs)) (c:ir X.K C) (k:HV X.K C m g) (l:fs.lookup m=none)
  (h:Q (.ref g,[.ref a]) s):wpAny (model X.prog X.w) A (getMethod (.ref a) m pl) Q E s:=by
 obtain⟨mA,O,r,_,_,_⟩:=C3 I.aI e;have hn:mA m=none:=eR.none_of (by rw[←l];exact r m);exact Pd I.cS O (c.get m) k.at_ k.fn hn h
theorem ML {y:V}{Q:Unit->Shared->Prop} (I:Inv X aa σ H s) (e:H a=some (.ins C dx fs)) (c:ir X.K C) (n:bQ X.K C f) (hl:fs.length < 1000) (ry:RelV y u)
  (h:∀s',Inv X aa σ (upd H a (.ins C dx (At f y fs))) s'->Q () s'):wpAny (model X.prog X.w) A (setAttr (.ref a) f u) Q E s:=by
 obtain⟨mA,O,r,wi,_,ho⟩:=C3 I.aI e;have hz:(fs.map (·.1)).length <= sizeLine:=by rw[AH,sizeLine_eq];omega
 refine Rg I.cS O c.sa c.po n.taker c.hd wi hz fun h' O' sb=>h _ ?_;have hd:∃o,h'.get? dx=some o:=let ⟨o,_,_,e',_⟩:=O'.ns;⟨o,e'⟩
 refine I.write (x:=a) (e:=dx) (by rw[e];exact True.intro) (.inr ho) (fun b q hb z=>(sb.2 b hb).trans z) hd ?_;refine⟨by rw[AF O.ne];exact ho,?_,O.ne,O'.obj,_,O'.ns,fun g=>?_,fun g hg=>?_⟩
 ·have:=BA f y fs;omega
 ·show eR ((At f y fs).lookup g) (if g=f then some u else mA g);rw[AK];by_cases q:g=f
  ·rw[Zp q,Zp q];exact ry
  ·rw[Zq q,Zq q];exact r g
 ·by_cases q:g=f
  ·rw[q];exact(GA f y fs).1
  ·refine(GA f y fs).2 g (wi g fun z=>hg ?_);show(if g=f then some u else mA g)=none;rw[Zq q];exact z
theorem Inv.made (I:Inv X aa σ H s):Inv X aa σ (upd (upd H s.heap.objs.size (.own (s.heap.objs.size + 1))) (s.heap.objs.size + 1) (.ins C s.heap.objs.size []))
  { s with heap:=(s.heap.push W.emptyDict).push (W.instObj C s.heap.objs.size) }:=by
 have e1:(s.heap.push W.emptyDict).get? s.heap.objs.size=some W.emptyDict:=ZN s.heap rfl
 have e2:((s.heap.push W.emptyDict).push (W.instObj C s.heap.objs.size)).get? (s.heap.objs.size + 1)=some (W.instObj C s.heap.objs.size):=by
  have:=ZN (s.heap.push W.emptyDict) (o:=W.instObj C s.heap.objs.size) rfl
  rwa[size_push]at this
 have e3:(s.heap.push W.emptyDict).Ns s.heap.objs.size (fun _=>none):=⟨W.emptyDict,#[],_,e1,rfl,(fun e he=>absurd he (by simp)),fun _=>rfl⟩;have I1:=I.laid (a:=s.heap.objs.size) (o:=.own (s.heap.objs.size + 1)) (h':=s.heap.push W.emptyDict) (t':=s.toks) (fun b u q=>ZX _ q) (Zy _) ⟨_,e1⟩;refine I1.laid (a:=s.heap.objs.size + 1) (o:=.ins C s.heap.objs.size []) (t':=s.toks) (fun b u q=>ZX _ q) (Nat.le_of_eq (size_push _ _)) ?_;have ne:s.heap.objs.size≠s.heap.objs.size + 1:=ZC (Nat.lt_succ_self _);refine⟨by rw[AF ne,aA],Nat.zero_le _,ne,e2,fun _=>none,(Heap.Ns1.of_empty e3).at fun o q=>ZX _ q,fun _=>True.intro,fun y hy=>absurd rfl hy⟩
theorem Rh {prog:Program}{env:Env}{f:Str}{s:Shared}{Q:VS} (hb:attributeBase e f env (eval e env)=eval e env)
  (h:wpAny (model prog w) A (eval e env) (fun o aL=>wpAny (model prog w) A (getAttr o f true) Q E aL) E s):wpAny (model prog w) A (eval (.Attribute e f pos) env) Q E s :=
 Attribute_any_ h (by rw[arm_eval_Attribute,hb])
end
inductive ExF (K:FG) (x:V) (H:Hp) (f:Str) (k:V->Prop):Prop where
 |mk (a C dx:Addr) (fs:List (Str×V)) (v:V) (h1:x=.ref a) (h2:H a=some (.ins C dx fs)) (h3:ir K C) (h4:bQ K C f) (h5:fs.lookup f=some v) (q:k v):ExF K x H f k
def U9 (K:FG) (ta:TE) (f:Str):TE:=fun σ H Q=>ta σ H fun x H1=>ExF K x H1 f fun v=>Q v H1
def V6 (K:FG) (ta tv:TE) (f:Str):TS:=fun D σ H=>tv σ H fun y H1=>ta σ H1 fun x H2=>∃a C dx fs,x=.ref a/\H2 a=some (.ins C dx fs)/\ir K C/\bQ K C f/\fs.length < 1000 /\
 D.nx σ (upd H2 a (.ins C dx (At f y fs)))
section
variable {o value:Expr}{f:Str}{pos' tpos:Pos}{ta tv:TE}
theorem Ak (he:PE X e ta) (hb:attributeBase e f X.env (eval e X.env)=eval e X.env):PE X (.Attribute e f pos) (U9 X.K ta f):=by
 intro aa s σ H Q I h;refine Rh hb (aJ (he aa s σ H _ I h) fun u s1 ⟨x,H1,I1,rx,a,C,dx,fs,v,ex,ea,c,n,l,q⟩=>?_);subst ex;obtain rfl:u=Value.ref a:=rx;exact MH I1 ea c n l fun u' s2 I2 ru=>⟨v,H1,I2,ru,q⟩
theorem CL (ha:PE X o ta) (hv:PE X value tv) (hs:swapsWith value (some (.Attribute o f pos')) pos.line X.env=pure false):PS X (.Assign [.Attribute o f pos'] value pos) (V6 X.K ta tv f):=by
 intro aa s σ H D I h;refine plainObj_wpAny_Assign_Attribute (aJ (hv aa s σ H _ I h) fun u s1 ⟨y,H1,I1,ry,q⟩=>aJ (ha aa s1 σ H1 _ I1 q) fun ov s2 ⟨x,H2,I2,rx,a,C,dx,fs,ex,ea,c,n,l,q2⟩=>?_) hs;subst ex;obtain rfl:ov=Value.ref a:=rx;exact ML I2 ea c n l ry fun s3 I3=>⟨σ,_,I3,q2⟩
end
section
variable {s:Shared}{Q:VS}{c:Value}{b:Bool}
inductive eQ (K:FG) (H:Hp):V->Value->Prop where
 |aU:eQ K H .aU (.type "NoneType")
 |bl (x:Bool):eQ K H (.bl x) (.type "bool")
 |int (i:Int):eQ K H (.int i) (.type "int")
 |str (x:Str):eQ K H (.str x) (.type "str")
 |jJ (x:UInt64):eQ K H (.jJ x) (.type "float")
 |lst {a:Addr}{xs:List V} (e:H a=some (.lst xs)):eQ K H (.ref a) (.type "list")
 |dA {a:Addr}{o:Obj}{xs:List V} (e:H a=some (.dA o (.lst xs))):eQ K H (.ref a) (.type "list")
 |tup {a:Addr}{xs:List V} (e:H a=some (.tup xs)):eQ K H (.ref a) (.type "tuple")
 |dK {a:Addr}{kvs:LK} (e:H a=some (.dK kvs)):eQ K H (.ref a) (.type "dict")
 |dT {a:Addr}{kvs:List (List Key×V)} (e:H a=some (.dT kvs)):eQ K H (.ref a) (.type "dict")
 |ins {a C dx:Addr}{fs:List (Str×V)} (e:H a=some (.ins C dx fs)) (cl:ir K C) (ha:W.findIn K (.ref C) "__class__" = some (some (.builtin "object.__class__")))
   (hn:W.specialIn K (.builtin "object.__class__") "__get__" = some (some (.builtin "getset_descriptor.__get__"))) (htk:W.takesIn K (.builtin "object.__class__")=some true)
   (hm:W.mroIn K C (.type "object")=some true):eQ K H (.ref a) (.ref C)
theorem JN {x:V}{t:Value} (I:Inv X aa σ H s) (rx:RelV x u) (ty:eQ X.K H x t) (e:W.kitOne X.K t c=some b) (h:∀tk,Q (.bool b) { s with toks:=tk }) :
  wpAny (model X.prog X.w) A (call (.builtin "isinstance") [u,c]) Q E s:=by
 cases ty with
 |aU=>cases (show u=Value.none from rx);exact W.kia_one W.kitx_none I.cS True.intro e (fun z=>nomatch z) h
 |bl y=>cases (show u=Value.bool y from rx);exact W.kia_one W.kitx_bool I.cS True.intro e (fun z=>nomatch z) h
 |int i=>obtain⟨t,q⟩:=(show ∃t,u=Value.int i t from rx);cases q;exact W.kia_one W.kitx_int I.cS True.intro e (fun z=>nomatch z) h
 |str y=>obtain⟨t,q⟩:=(show ∃t,u=Value.str y t from rx);cases q;exact W.kia_one W.kitx_str I.cS True.intro e (fun z=>nomatch z) h
 |jJ y=>obtain⟨t,q⟩:=(show ∃t,u=Value.float y t from rx);cases q;exact W.kia_one W.kitx_float I.cS True.intro e (fun z=>nomatch z) h
 | @lst a xs ea =>
  cases (show u=Value.ref a from rx);obtain⟨_,_,n,_,h1⟩:=(show aT X.prog X.w H s.heap a (.lst xs)from I.aI a _ ea);exact W.kia_one W.kitx_list I.cS ⟨_,h1,rfl⟩ e (fun z=>nomatch z) h
 | @dA a ob xs ea =>
  cases (show u=Value.ref a from rx);obtain⟨_,_,_,n,_,h1⟩:=(show aT X.prog X.w H s.heap a (.dA ob (.lst xs))from I.aI a _ ea);exact W.kia_one W.kitx_list I.cS ⟨_,h1,rfl⟩ e (fun z=>nomatch z) h
 | @tup a xs ea =>
  cases (show u=Value.ref a from rx);obtain⟨_,_,_,p⟩:=(show aT X.prog X.w H s.heap a (.tup xs)from I.aI a _ ea);obtain⟨o,h1,h2,_⟩:=p;exact W.kia_one W.kitx_tuple I.cS ⟨o,h1,h2⟩ e (fun z=>nomatch z) h
 | @dK a kvs ea =>
  cases (show u=Value.ref a from rx);obtain⟨_,_,vs,_,p⟩:=(show aT X.prog X.w H s.heap a (.dK kvs)from I.aI a _ ea);obtain⟨o,es,ep,h1,h2,_⟩:=p;exact W.kia_one W.kitx_dict I.cS ⟨o,h1,h2.1⟩ e (fun z=>nomatch z) h
 | @dT a kvs ea =>
  cases (show u=Value.ref a from rx);obtain⟨_,_,xs,_,o,es,ep,h1,h2,_⟩:=(show aT X.prog X.w H s.heap a (.dT kvs)from I.aI a _ ea);exact W.kia_one W.kitx_dict I.cS ⟨o,h1,h2.1⟩ e (fun z=>nomatch z) h
 | @ins a C dx fs ea cl ha hn htk hm =>
  cases (show u=Value.ref a from rx);obtain⟨mA,O,_⟩:=C3 I.aI ea;obtain⟨od,J,_⟩:=O.look;exact W.kia_one (W.kitx_own (cl.get _) cl.hd ha hn htk hm) I.cS J e (fun z=>nomatch z) h
end
end L2
namespace L2
open PySem PySem.Spec PyProof.Rows
structure aG (k:Nat) (A:Around):Prop where
 hd:A.handled=none
 dp:A.depth + 3 * k + 5 < recursionLimit
 un:A.units + 16 * k + 200 < cLine
theorem aG.mono {j k:Nat} (r:aG k A) (h:j <= k):aG j A:=⟨r.hd,by have:=r.dp;omega,by have:=r.un;omega⟩
theorem aG.deeper {k:Nat}{A:Around} (r:aG (k + 1) A) (env:Env):aG k (A.deeper env) :=
 ⟨r.hd,by have:=r.dp;show A.depth + 1 + 3 * k + 5 < _;omega,by have:=r.un;show A.units + 3 + 16 * k + 200 < _;omega⟩
theorem aG.in1 {k:Nat}{A:Around} (r:aG (k + 1) A):aG k A.in1 :=
 ⟨r.hd,by have:=r.dp;show A.depth + 3 * k + 5 < _;omega,by have:=r.un;show A.units + 1 + 16 * k + 200 < _;omega⟩
theorem MM {kw:List (Str×Value)}:(A.under (.builtin "type.__call__" ⟨.ref C :: us,kw⟩)).depth=A.depth + 1:=by
 first |rfl |simp[Around.under,Code.weight,Code.isCreation,Code.isGuard,Code.isCaller,Code.frames,Code.isFrame,guardIds]
theorem MO {kw:List (Str×Value)}:(A.under (.builtin "type.__call__" ⟨.ref C :: us,kw⟩)).units=A.units + 1:=by
 first |rfl |simp[Around.under,Code.cUnits,Code.frames,Code.isFrame]
theorem aG.make {k:Nat} (r:aG (k + 1) A) (C:Addr) (us:List Value) (kw:List (Str×Value)):aG k (A.under (.builtin "type.__call__" ⟨.ref C :: us,kw⟩)) :=
 ⟨r.hd,by have:=r.dp;rw[MM];omega,by have:=r.un;rw[MO];omega⟩
theorem aG.depth {k:Nat}{A:Around} (r:aG k A):A.depth < recursionLimit:=by have:=r.dp;omega
theorem aG.units {k:Nat}{A:Around} (r:aG k A):A.units + 64 < cLine:=by have:=r.un;omega
def Dr:TA:=fun _ H Q=>Q [] H
def Ay (ta:TE) (tr:TA):TA:=fun σ H Q=>ta σ H fun x H1=>tr σ H1 fun xs H2=>Q (x :: xs) H2
section
variable {es:List Expr}{t:TA}
theorem AB:PA X [] Dr:=fun _ _ _ _ H Q I h=>Calls.spliced_nil ⟨[],H,I,.nil,h⟩
theorem AA (ha:PE X e te) (hr:PA X es t) (hs:starEach (e :: es) X.env=(false,eval e X.env) :: starEach es X.env:=by rfl):PA X (e :: es) (Ay te t):=by
 intro pos aa s σ H Q I h;rw[hs];show wpAny _ _ (spliced ((false,eval e X.env) :: backTo pos (starEach es X.env))) _ _ s;refine Calls.spliced_cons (aJ (ha aa s σ H _ I h) fun u s1 ⟨x,H1,I1,r1,q1⟩=>?_);exact aJ (hr pos aa s1 σ H1 _ I1 q1) fun us s2 ⟨xs,H2,I2,r2,q2⟩=>⟨x :: xs,H2,I2,.cons r1 r2,q2⟩
def V7 (t:TA):TE:=fun σ H Q=>t σ H fun xs H1=>xs.length <= sizeLine/\∀p,H1 p=none->Q (.ref p) (upd H1 p (.tup xs))
def VA (t:TA):TE:=fun σ H Q=>t σ H fun xs H1=>xs.length <= sizeLine/\∀p,H1 p=none->Q (.ref p) (upd H1 p (.lst xs))
theorem BB {x1} (h:PA X es t):PE X (.Tuple es x1 pos) (V7 t):=by
 intro aa s σ H Q I hq;refine wpAny_Tuple_spliced (aJ (h pos aa s σ H _ I hq) fun us s1 ⟨xs,H1,I1,r,z,q⟩=>⟨by rw[←r.length];exact z,?_⟩);have hf:H1 s1.heap.objs.size=none:=I1.aI.fresh (Zy _);refine⟨.ref s1.heap.objs.size,upd H1 s1.heap.objs.size (.tup xs),I1.laid (t':=s1.toks) (fun b u e=>ZX _ e) (Zy _) ?_,rfl,q _ hf⟩;exact⟨z,us,r,⟨_,ZN _ rfl,rfl,_,rfl⟩⟩
theorem BC (h:PA X es t):PE X (.List es pos) (VA t):=by
 intro aa s σ H Q I hq;refine wpAny_List_spliced (aJ (h pos aa s σ H _ I hq) fun us s1 ⟨xs,H1,I1,r,z,q⟩=>⟨by rw[←r.length];exact z,?_⟩);have hf:H1 s1.heap.objs.size=none:=I1.aI.fresh (Zy _);refine⟨.ref s1.heap.objs.size,upd H1 s1.heap.objs.size (.lst xs),I1.laid (t':=s1.toks) (fun b u e=>ZX _ e) (Zy _) ?_,rfl,q _ hf⟩;exact⟨z,us,0,r,ZN _ rfl⟩
end
abbrev Sp:=List V->Hp->VK->XK->Prop
abbrev hX:=List Env->Hp->Shared->XK->Value->Shared->Prop
structure eN (P:Program) (w:World) (K:FG) (mg:SV) (base:Heap) (A:Around) (outer:List Env) (s:Shared) (H:Hp):Prop where
 frames:A.frames=some outer
 mod:Mod K mg base
 bs:∀b o,base.get? b=some o->s.heap.get? b=some o/\H b=none
 gP:base.objs.size <= s.heap.objs.size
 cZ:s.heap.FunFrames base outer
 g9:∀b∈d8 outer,H b=none
 aI:eE P w H s.heap
 bare:AllBare s.gens
def CE (outer:List Env) (P:Program) (w:World) (H:Hp) (s:Shared) (Q:VK) (u:Value) (s':Shared):Prop :=
 ∃v H',s'.os=s.os/\AllBare s'.gens/\Un (d8 outer) [] H H' s.heap s'.heap/\eE P w H' s'.heap/\RelV v u/\Q v H'
def CR (CX:hX) (outer:List Env) (P:Program) (w:World) (H:Hp) (s:Shared) (Q:VK) (E:XK) (r:Result) (s':Shared):Prop :=
 match r with
 | .ok (.ret u)=>CE outer P w H s Q u s'
 | .ok _=>False
 | .error e=>CX outer H s E e s'
structure AY (P:Program) (w:World) (K:FG) (mg:SV) (base:Heap) (CX:hX) (k:Nat) (f:Addr) (fd:FuncData) (ps:List Str) (sp:Sp):Prop where
 len:∀vs H Q E,sp vs H Q E->vs.length=ps.length
 run:∀(A:Around) (outer:List Env) (s:Shared) (H:Hp) (args:Args) (us:List Value) (vs:List V) (Q:VK) (E:XK),aG k A->eN P w K mg base A outer s H->BindsTo s fd args (ps.zip us)->Vals vs us->sp vs H Q E ->
  codeAny (model P w) A (.call (.ref f) args) (CR CX outer P w H s Q E) s
theorem eN.make {outer:List Env}{s:Shared} (e:eN P w K mg base A outer s H) (C:Addr) (us:List Value) (kw:List (Str×Value)) :
  eN P w K mg base (A.under (.builtin "type.__call__" ⟨.ref C :: us,kw⟩)) outer s H:=⟨by first |exact e.frames | (simpa[Around.under,Code.envs,Code.isFrame,pushEnvs]using e.frames),e.mod,e.bs,e.gP,e.cZ,e.g9,e.aI,e.bare⟩
theorem eN.in1 {P:Program}{w:World}{K:FG}{mg:SV}{base:Heap}{A:Around}{outer:List Env}{s:Shared}{H:Hp} (e:eN P w K mg base A outer s H) :
  eN P w K mg base A.in1 outer s H:=⟨e.frames,e.mod,e.bs,e.gP,e.cZ,e.g9,e.aI,e.bare⟩
section
variable {s s':Shared}
theorem Inv.gK (I:Inv X aa σ H s):eN X.prog X.w X.K X.mg X.base X.A X.stack s H :=
 ⟨I.ok.frames,I.ok.mod,I.bs,Nat.le_trans I.ok.gP I.sz,I.stack,I.stkFree,I.aI,I.bare⟩
theorem Inv.after {Q:VK} (I:Inv X aa σ H s) (h:CE X.stack X.prog X.w H s Q u s'):EP X aa σ Q u s':=by
 obtain⟨v,H',os,bare,un,aI,r,q⟩:=h;obtain⟨hh,g,d,t,os'⟩:=s';obtain rfl:os'=s.os:=os;exact⟨v,H',I.call (h':=hh) (g':=g) (d':=d) (t':=t) (ch:=[]) un aI bare (fun b z=>absurd z (by simp)),r,q⟩
end
def TD (sp:Sp) (eW:List V) (E:XK) (t:TA):TE:=fun σ H Q=>t σ H fun vs H1=>sp (vs++eW) H1 Q E
inductive ExM (C:Addr) (m:Str) (x:V) (H:Hp) (k:Prop):Prop where
 |mk (a dx:Addr) (fs:List (Str×V)) (h1:x=.ref a) (h2:H a=some (.ins C dx fs)) (h3:fs.lookup m=none) (q:k):ExM C m x H k
def JO (C:Addr) (m:Str) (sp:Sp) (eW:List V) (E:XK) (ta:TE) (t:TA):TE:=fun σ H Q=>ta σ H fun x H1=>ExM C m x H1 (t σ H1 fun vs H2=>sp (x :: (vs++eW)) H2 Q E)
def VB (C:Addr) (sp:Sp) (eW:List V) (E:XK) (t:TA):TE:=fun σ H Q=>t σ H fun vs H1=>∀x dx,H1 x=none->H1 dx=none->dx≠x ->
 sp (.ref x :: (vs++eW)) (upd (upd H1 dx (.own x)) x (.ins C dx [])) (fun v H2=>v=.aU/\Q (.ref x) H2) E
def Binds (K:FG) (fd:FuncData) (ps:List Str) (ds:List Value):Prop :=
 ∀(s:Shared) (us:List Value),K.In s.heap->(us++ds).length=ps.length->BindsTo s fd ⟨us,[]⟩ (ps.zip (us++ds))
theorem Binds.all {fd:FuncData}{ps:List Str} (h:∀us:List Value,us.length=ps.length->bindArgs fd ⟨us,[]⟩=pure (ps.zip us)):Binds K fd ps []:=fun s us _ hl=>by
 rw[Zt]at hl ⊢;exact .of_eq (h us hl)
def Bx (CX:hX) (X:Cx) (E:XK):Prop:=∀(aa:LO) (σ:St) (H:Hp) (s:Shared) (e:Value) (s':Shared),Inv X aa σ H s->CX X.stack H s E e s'->X.xe e s'
section
variable {CX:hX}{k:Nat}{fd:FuncData}{ps:List Str}{sp:Sp}{eW:List V}{ds:List Value}{E:XK}{m:Str}{p apos:Pos}{o:Expr}{es:List Expr}{ta:TE}{t:TA}
theorem J0 {s:Shared}{Q:VK}{vs:List V} (F:AY X.prog X.w X.K X.mg X.base CX k f fd ps sp) (hr:aG k X.A) (hb:Binds X.K fd ps ds) (hd:Vals eW ds) (hx:Bx CX X E)
  (I:Inv X aa σ H s) (r:Vals vs us) (h:sp (vs++eW) H Q E):wpAny (model X.prog X.w) X.A (call (.ref f) us) (EP X aa σ Q) X.xe s:=by
 have r2:Vals (vs++eW) (us++ds):=r.append hd;have hl:(us++ds).length=ps.length:=by rw[←r2.length];exact F.len _ _ _ _ h
 refine wpAny_call (codeAny_mono (F.run X.A X.stack s H ⟨us,[]⟩ (us++ds) (vs++eW) Q E hr I.gK (hb s us I.cS hl) r2 h) fun r s' hq=>?_);cases r with
 |error e=>exact hx aa σ H s e s' I hq
 |ok fl =>
  cases fl with
  |ret u=>exact I.after hq
  |next=>exact False.elim hq
  |brk=>exact False.elim hq
  |cont=>exact False.elim hq
theorem AM (F:AY X.prog X.w X.K X.mg X.base CX k f fd ps sp) (hr:aG k X.A) (hg:Gl X x) (hm:X.mg x=some (.ref f)) (hk:W.keepIn X.K (.ref f)=true) (hb:Binds X.K fd ps ds) (hd:Vals eW ds) (hx:Bx CX X E)
  (ha:PA X (e :: es) t) (eV:(x == ("__debug__" : Str))=false:=by decide) (he:starEach (e :: es) X.env=(false,eval e X.env) :: starEach es X.env:=by rfl) (eM:(backTo pos (starEach es X.env)).any (·.1)=false:=by rfl) :
  PE X (.Call (.Name x p) (e :: es) [] pos) (TD sp eW E t):=by
 intro aa s σ H Q I h;refine Z3 (B2 I hg hm ?_ eV);refine W.callWith_K (h₀:=X.base) I.ok.mod.kin hk (aJ (ha pos aa s σ H _ I h) fun us s1 ⟨vs,H1,I1,r,q⟩=>⟨I1.cS,?_⟩) he eM;exact J0 F hr hb hd hx I1 r q
theorem Bp {pl:Sem Bool} (he:PE X o ta) (c:ir X.K C) (hm:HV X.K C m f) (F:AY X.prog X.w X.K X.mg X.base CX k f fd ps sp) (hr:aG k X.A) (hb:Binds X.K fd ps ds) (hd:Vals eW ds) (hx:Bx CX X E) (ha:PA X (e :: es) t)
  (hst:starEach (e :: es) X.env=(false,eval e X.env) :: starEach es X.env:=by rfl) (eM:(backTo pos (starEach es X.env)).any (·.1)=false:=by rfl)
  (ht:eval (.Call (.Attribute o m apos) (e :: es) [] pos) X.env=(do
   let ov ←eval o X.env
   standAt apos.atName
   let (f,first) ←holding [ov] (getMethod ov m pl)
   callWith pos f first (backTo pos (starEach (e :: es) X.env)) (backToKw pos (keywordEach [] X.env))):=by rfl) :
  PE X (.Call (.Attribute o m apos) (e :: es) [] pos) (JO C m sp eW E ta t):=by
 intro aa s σ H Q I h;refine W.methodCall_KW (pl:=pl) (aJ (he aa s σ H _ I h) fun u s1 ⟨x,H1,I1,rx,a,dx,fs,ex,ea,l,q⟩=>?_) ht;subst ex;obtain rfl:u=Value.ref a:=rx;refine HW I1 ea c hm l ?_;refine W.callWith_K (first:=[.ref a]) (h₀:=X.base) I.ok.mod.kin hm.kp (aJ (ha pos aa s1 σ H1 _ I1 q) fun us s2 ⟨vs,H2,I2,r,q2⟩=>⟨I2.cS,?_⟩) hst eM;exact J0 (us:=.ref a :: us) (vs:=.ref a :: vs) F hr hb hd hx I2 (.cons rfl r) q2
theorem Aj {pl:Sem Bool} (he:PE X o ta) (c:ir X.K C) (hm:HV X.K C m f) (F:AY X.prog X.w X.K X.mg X.base CX k f fd ps sp) (hr:aG k X.A) (hb:Binds X.K fd ps ds) (hd:Vals eW ds) (hx:Bx CX X E)
  (ht:eval (.Call (.Attribute o m apos) [] [] pos) X.env=(do
   let ov ←eval o X.env
   standAt apos.atName
   let (f,first) ←holding [ov] (getMethod ov m pl)
   callWith pos f first (backTo pos (starEach [] X.env)) (backToKw pos (keywordEach [] X.env))):=by rfl) :
  PE X (.Call (.Attribute o m apos) [] [] pos) (JO C m sp eW E ta Dr):=by
 intro aa s σ H Q I h;refine W.methodCall_KW (pl:=pl) (aJ (he aa s σ H _ I h) fun u s1 ⟨x,H1,I1,rx,a,dx,fs,ex,ea,l,q⟩=>?_) ht;subst ex;obtain rfl:u=Value.ref a:=rx;refine HW I1 ea c hm l ?_;exact W.callWith_K0 (first:=[.ref a]) I1.cS hm.kp (J0 (us:=[.ref a]) (vs:=[.ref a]) F hr hb hd hx I1 (.cons rfl .nil) q)
structure Mk (K:FG) (C f:Addr):Prop where
 makes:W.makesIn K C=true
 init:W.findIn K (.ref C) "__init__" = some (some (.ref f))
 fn:W.isFn K (.ref f)=true
 kp:W.keepIn K (.ref C)=true
theorem Pe {s:Shared}{Q:VK}{vs:List V} (M:Mk X.K C f) (F:AY X.prog X.w X.K X.mg X.base CX k f fd ps sp) (hr:aG (k + 1) X.A) (hb:Binds X.K fd ps ds) (hd:Vals eW ds)
  (hx:Bx CX X E) (I:Inv X aa σ H s) (r:Vals vs us)
  (h:∀x dx,H x=none->H dx=none->dx≠x->sp (.ref x :: (vs++eW)) (upd (upd H dx (.own x)) x (.ins C dx [])) (fun v H2=>v=.aU/\Q (.ref x) H2) E) :
  wpAny (model X.prog X.w) X.A (call (.ref C) us) (EP X aa σ Q) X.xe s:=by
 have hq:=h (s.heap.objs.size + 1) s.heap.objs.size (I.aI.fresh (Nat.le_succ _)) (I.aI.fresh (Zy _)) (ZC (Nat.lt_succ_self _));have I2:=Inv.made (C:=C) I;have r2:Vals (V.ref (s.heap.objs.size + 1) :: (vs++eW)) (Value.ref (s.heap.objs.size + 1) :: (us++ds)):=.cons rfl (r.append hd)
 have hl:(Value.ref (s.heap.objs.size + 1) :: us++ds).length=ps.length:=by
  have e:=r2.length;rw[F.len _ _ _ _ hq]at e;exact e.symm
 refine wpAny_call (Kp (f:=f) I.cS M.makes M.init (beq_iff_eq.mp M.fn) (codeAny_mono (F.run _ X.stack _ _ ⟨Value.ref (s.heap.objs.size + 1) :: us,[]⟩ (Value.ref (s.heap.objs.size + 1) :: (us++ds)) _ _ E (hr.make C us [])
  (I2.gK.make C us []) (hb _ (Value.ref (s.heap.objs.size + 1) :: us) I2.cS hl) r2 hq) fun r s' f6=>?_))
 cases r with
 |error e=>exact hx aa σ _ _ e s' I2 f6
 |ok fl =>
  cases fl with
  |ret u =>
   obtain⟨v,H',I3,rv,ev,q3⟩:=I2.after f6;subst ev;exact⟨rv,⟨V.ref (s.heap.objs.size + 1),H',I3,rfl,q3⟩⟩
  |next=>exact False.elim f6
  |brk=>exact False.elim f6
  |cont=>exact False.elim f6
theorem EY (M:Mk X.K C f) (F:AY X.prog X.w X.K X.mg X.base CX k f fd ps sp) (hr:aG (k + 1) X.A) (hg:Gl X x) (hm:X.mg x=some (.ref C)) (hb:Binds X.K fd ps ds) (hd:Vals eW ds) (hx:Bx CX X E)
  (ha:PA X (e :: es) t) (eV:(x == ("__debug__" : Str))=false:=by decide) (he:starEach (e :: es) X.env=(false,eval e X.env) :: starEach es X.env:=by rfl) (eM:(backTo pos (starEach es X.env)).any (·.1)=false:=by rfl) :
  PE X (.Call (.Name x p) (e :: es) [] pos) (VB C sp eW E t):=by
 intro aa s σ H Q I h;refine Z3 (B2 I hg hm ?_ eV);refine W.callWith_K (h₀:=X.base) I.ok.mod.kin M.kp (aJ (ha pos aa s σ H _ I h) fun us s1 ⟨vs,H1,I1,r,q⟩=>⟨I1.cS,?_⟩) he eM;exact Pe M F hr hb hd hx I1 r q
end
def PK (X:Cx) (i9:List Keyword) (t:TA):Prop :=
 ∀(pos:Pos) (aa:LO) (s:Shared) (σ:St) (H:Hp) (Q:List V->Hp->Prop),Inv X aa σ H s->t σ H Q->wpAny (model X.prog X.w) X.A (evalAll ((backToKw pos (keywordEach i9 X.env)).map (·.2))) (AP X aa σ Q) X.xe s
section
variable {CX:hX}{k:Nat}{fd:FuncData}{ps ks:List Str}{sp:Sp}{E:XK}{m:Str}{p apos kpos:Pos}{o:Expr}{es:List Expr}{i9:List Keyword}{ta:TE}{t tk:TA}{nm:Option Str}
theorem HX:PK X [] Dr:=fun _ _ _ _ H Q I h=>wpAny_evalAll_nil ⟨[],H,I,.nil,h⟩
theorem EZ (ha:PE X e te) (hr:PK X i9 t):PK X (⟨nm,e,kpos⟩ :: i9) (Ay te t):=by
 intro pos aa s σ H Q I h;show wpAny _ _ (evalAll ((do let v ←eval e X.env;standAt pos;pure v) :: (backToKw pos (keywordEach i9 X.env)).map (·.2))) _ _ s;refine wpAny_evalAll_cons (Zx (aJ (ha aa s σ H _ I h) fun u s1 ⟨x,H1,I1,r1,q1⟩=>Zx (ZJ (Zw ?_))));exact aJ (hr pos aa s1 σ H1 _ I1 q1) fun us s2 ⟨xs,H2,I2,r2,q2⟩=>⟨x :: xs,H2,I2,.cons r1 r2,q2⟩
structure HY (K:FG) (fd:FuncData) (ps ks:List Str) (g:List Value->List Value->List Value) (gV:List V->List V->List V):Prop where
 to:∀(s:Shared) (us ws:List Value),K.In s.heap->(g us ws).length=ps.length->BindsTo s fd ⟨us,ks.zip ws⟩ (ps.zip (g us ws))
 rel:∀ {vs:List V}{us:List Value}{zs:List V}{ws:List Value},Vals vs us->Vals zs ws->Vals (gV vs zs) (g us ws)
variable {g:List Value->List Value->List Value}{gV:List V->List V->List V}
end
structure AL (N P:List Str) (sc:Scope):Prop where
 kind:sc.kind=.function
 co:sc.isCoroutine=false
 gen:sc.isGenerator=false
 nd:N.Nodup
 pre:N.take P.length=P
 par:∀x∈P,sc.names.lookup x=some .local\/sc.names.lookup x=some .cell
 nofree:∀y∈sc.names,y.2≠ .free
theorem cB {N P:List Str}{sc:Scope} (a:sc.kind=.function:=by exact rfl) (b:sc.isCoroutine=false:=by exact rfl) (c:sc.isGenerator=false:=by exact rfl) (d:N.Nodup:=by decide +kernel) (e:N.take P.length=P:=by exact rfl) (f:∀x∈P,sc.names.lookup x=some .local\/sc.names.lookup x=some .cell:=by decide +kernel) (g:∀y∈sc.names,y.2≠ .free:=by decide +kernel):AL N P sc:=⟨a,b,c,d,e,f,g⟩
theorem JP {kindOf:Str->Option NameKind}{x:Str}:∀ {binds:List (Str×Value)}{m:SV},(∀v,(x,v)∉ binds)->bindL kindOf binds m x=m x
  | [],_,_=>rfl
  | (n,v) :: r,m,h=>by
    unfold bindL;rw[JP fun w hw=>h w (ZR _ hw)];split
    · have:x≠n:=by rintro rfl;exact h v ZI
      simp[this]
    · rfl
theorem JQ {kindOf:Str->Option NameKind}{x:Str}:∀ {binds:List (Str×Value)}{m:SV},(∀v,(x,v)∉ binds)->bindC kindOf binds m x=m x
  | [],_,_=>rfl
  | (n,v) :: r,m,h=>by
    unfold bindC;rw[JQ fun w hw=>h w (ZR _ hw)];split
    · rfl
    · have:x≠n:=by rintro rfl;exact h v ZI
      simp[this]
theorem JR {kindOf:Str->Option NameKind}{x:Str}{v:Value}:∀ {P:List Str}{vs:List Value}{i:Nat}{m:SV},P.Nodup->P[i]?=some x->vs[i]?=some v->kindOf x=some .local ->
  bindL kindOf (P.zip vs) m x=some v
 | [],_,_,_,_,h,_,_=>by simp at h
 |_ :: _,[],_,_,_,_,h,_=>by simp at h
 |p :: P,w :: vs,0,m,nd,h1,h2,hk=>by
  simp at h1 h2;subst h1;subst h2;show bindL kindOf ((p,w) :: P.zip vs) m p=_;unfold bindL;rw[JP fun v hv=>(Zs.mp nd).1 (of_mem_zip hv).1,Zp hk];simp
 |p :: P,w :: vs,i + 1,m,nd,h1,h2,hk=>by
  show bindL kindOf ((p,w) :: P.zip vs) m x=_;unfold bindL;exact JR (i:=i) (Zs.mp nd).2 (by simpa using h1) (by simpa using h2) hk
theorem JS {kindOf:Str->Option NameKind}{x:Str}{v:Value}:∀ {P:List Str}{vs:List Value}{i:Nat}{m:SV},P.Nodup->P[i]?=some x->vs[i]?=some v->kindOf x≠some .local ->
  bindC kindOf (P.zip vs) m x=some v
 | [],_,_,_,_,h,_,_=>by simp at h
 |_ :: _,[],_,_,_,_,h,_=>by simp at h
 |p :: P,w :: vs,0,m,nd,h1,h2,hk=>by
  simp at h1 h2;subst h1;subst h2;show bindC kindOf ((p,w) :: P.zip vs) m p=_;unfold bindC;rw[JQ fun v hv=>(Zs.mp nd).1 (of_mem_zip hv).1,Zq hk];simp
 |p :: P,w :: vs,i + 1,m,nd,h1,h2,hk=>by
  show bindC kindOf ((p,w) :: P.zip vs) m x=_;unfold bindC;exact JS (i:=i) (Zs.mp nd).2 (by simpa using h1) (by simpa using h2) hk
noncomputable def Bt (N:List Str) (vs:List V):St:=vs.map some++List.replicate (N.length - vs.length) none
noncomputable def Bj (CX:hX) (P:Program) (w:World) (K:FG) (mg:SV) (base:Heap) (N:List Str) (qual:Str) (scope:Scope) (f:Addr) (cd:Value) (A:Around) (outer:List Env) (s:Shared) (H:Hp) (E:XK):Cx where
 prog:=P
 w:=w
 K:=K
 mg:=mg
 base:=base
 A:=A.deeper (envOfC qual scope s.heap.objs.size f cd)
 N:=N
 bA:=s
 fw:=H
 env:=envOfC qual scope s.heap.objs.size f cd
 outer:=outer
 stack:=envOfC qual scope s.heap.objs.size f cd :: outer
 ex:=[]
 calm:=true
 fn:=fun _=>true
 pn:=[]
 xe:=fun e s'=>wpAny (model P w) (A.deeper (envOfC qual scope s.heap.objs.size f cd)) (leaving (envOfC qual scope s.heap.objs.size f cd) e) (fun _ jB=>CX outer H s E e jB) (fun e' jB=>CX outer H s E e' jB) s'
theorem Kq {sc:Scope}{n:Nat} (h:sc.names.lookup x=some .cell):∃c,(cellsFrom n sc.names []).lookup x=some c:=by
 have q:=W.cellsFrom_some sc.names n [] (.inl h);exact Option.isSome_iff_exists.mp q
theorem GH {CX:hX}{ps:List Str}{qual:Str}{scope:Scope}{cd:Value}{outer:List Env}{s s1:Shared}{E:XK}{vs:List V}
  (S:AL N ps scope) (hd:A.handled=none) (e0:eN P w K mg base A outer s H) (hl:vs.length=ps.length) (r:Vals vs us)
  (x:InCallC s s.heap.objs.size (bindL (envOfC qual scope s.heap.objs.size f cd).kindOf (ps.zip us) fun _=>none) (cellsFrom (s.heap.objs.size + 1) scope.names []) (bindC (envOfC qual scope s.heap.objs.size f cd).kindOf (ps.zip us) fun _=>none) s1) :
  Inv (Bj CX P w K mg base N qual scope f cd A outer s H E) [] (Bt N vs) H s1:=by
 have eM:ps.length <= N.length:=by have:=congrArg List.length S.pre;rw[ZA]at this;omega
 obtain⟨h1,tk,rfl,hk⟩:=x.done;have jC:∀b:Addr,b∉ (Bj CX P w K mg base N qual scope f cd A outer s H E).ex:=fun b z=>absurd (show b∈([]:List Addr)from z) (by simp)
 refine⟨⟨e0.mod,S.kind,rfl,rfl,Zy _,fun y z c h1 h2=>?_,fun y hy=>?_,fun y c _ h=>?_,fun _=>hd,Around.frames_deeper e0.frames,.inr ⟨rfl,rfl⟩,fun b z=>absurd z (jC b),e0.bs,e0.gP,fun b _ _=>jC b,fun b z=>absurd z (jC b),e0.cZ,e0.g9⟩,
  rfl,e0.bare,Un.kept hk,⟨_,x.toInCall.ns,fun i y v h1 h2 h3=>?_⟩,fun y c h=>⟨_,x.cell y c h⟩,e0.aI.fresh (Zy _),fun y c h=>?_,fun p hp=>absurd (show p∈([]:LO)from hp) (by simp),e0.aI.kept hk,?_⟩
 ·exact name_of_addr x.apart (PySem.mem_of_lookup h1) (PySem.mem_of_lookup h2)
 ·have hy:scope.names.lookup y=some .cell\/scope.names.lookup y=some .free:=hy;rcases hy with hy |hy
  ·exact Kq hy
  ·exact absurd rfl (S.nofree _ (PySem.mem_of_lookup hy))
 ·exact Nat.le_of_lt (x.above y c (PySem.mem_of_lookup h))
 ·have hi:i < vs.length:=by
   unfold Bt at h2;by_cases hi:i < vs.length
   ·exact hi
   ·rw[List.getElem?_append_right (by simpa using hi)]at h2;rw[List.getElem?_replicate]at h2;split at h2 <;> cases h2
  have ha:vs[i]?=some v:=by
   unfold Bt at h2;rw[List.getElem?_append_left (by simpa using hi),ZE]at h2;cases e:vs[i]? with
   |none=>rw[e]at h2;cases h2
   |some a=>rw[e]at h2;cases h2;rfl
  obtain⟨u,hu,rv⟩:=r.get ha
  have hp:ps[i]?=some y:=by
   rw[←S.pre,List.getElem?_take_of_lt qe];exact h1
  have ndP:ps.Nodup:=by rw[←S.pre];exact S.nd.sublist (take_sublist _ _)
  refine⟨u,rv,?_⟩;rcases S.par y (ZQ hp)with k |k
  ·exact .inl ⟨k,JR ndP hp hu k⟩
  ·obtain⟨c,e⟩:=Kq (n:=s.heap.objs.size + 1) k;refine .inr ⟨.inl k,c,e,?_⟩;have q:=x.cell y c e;rw[JS ndP hp hu (by show scope.names.lookup y≠_;rw[k];decide)]at q;exact q
 ·exact e0.aI.fresh (Nat.le_of_lt (x.above y c (PySem.mem_of_lookup h)))
 ·unfold Bt;show _=N.length;rw[ZH,AH,List.length_replicate];omega
theorem Kr {CX:hX}{k:Nat}{name qual:Str}{params:Arguments}{body:List Stmt}{scope:Scope}{dV kV doc pm ac ct oc:Value}{an od:Option Addr}
  {fZ:Array (Option Value)}{N ps:List Str}{sp:Sp} (lk:K.lookup f=some ⟨oc,od,.func (W.fnOf name qual params body scope dV kV doc pm an ac ct),fZ⟩) (fm:W.codeIn K ac qual=true) (S:AL N ps scope)
  (len:∀vs H Q E,sp vs H Q E->vs.length=ps.length)
  (bi:∀(A:Around) (outer:List Env) (s:Shared) (H:Hp) (vs:List V) (Q:VK) (E:XK),aG k (A.deeper (envOfC qual scope s.heap.objs.size f ac))->sp vs H Q E ->
   ∃t,fc (Bj CX P w K mg base N qual scope f ac A outer s H E) body t/\t { nx:=fun _ H'=>Q .aU H',rt:=Q } (Bt N vs) H) :
  AY P w K mg base CX (k + 1) f (W.fnOf name qual params body scope dV kV doc pm an ac ct) ps sp:=by
 refine⟨len,fun A outer s H args us vs Q E hr e0 hb r gG=>?_⟩;have hl:=len _ _ _ _ gG;have KX:K.In s.heap:=e0.mod.kin.keeps fun b o e=>(e0.bs b o e).1;have lim:s.heap.NoLimit:=e0.mod.nolimit.keeps fun b o e=>(e0.bs b o e).1
 have hkind:∀y∈ps.zip us,scope.names.lookup y.1=some .local\/(scope.names.lookup y.1=some .cell/\((cellsFrom (s.heap.objs.size + 1) scope.names []).lookup y.1).isSome=true):=fun⟨n,v⟩ hy=>by
  rcases S.par n (of_mem_zip hy).1 with q |q
  ·exact .inl q
  ·exact .inr ⟨q,W.cellsFrom_some _ _ _ (.inl q)⟩
 refine codeAny_call_function hr.depth (KX _ _ lk) rfl S.co S.gen rfl (W.codeRec_of KX fm) (hb _ _ _ _ ?_);refine wpAny_newFunctionEnv_cells S.kind hkind fun env he s1 x=>?_;subst he;refine⟨lim.keeps x.toInCall.keep,codeAny_func ?_⟩;obtain⟨t,ht,hq⟩:=bi A outer s H vs Q E (hr.deeper _) gG;have I:Inv (Bj CX P w K mg base N qual scope f ac A outer s H E) [] (Bt N vs) H s1:=GH S hr.hd e0 hl r x;refine Zv (ht [] s1 (Bt N vs) H _ I hq) (fun fl s' hs=>?_) fun e s' hs=>hs
 have fin:∀ {aK:St}{H':Hp}{v:V}{u:Value},Inv (Bj CX P w K mg base N qual scope f ac A outer s H E) [] aK H' s'->RelV v u->Q v H'->CE outer P w H s Q u s' :=
  fun {aK H' v u} J rv q=>⟨v,H',J.os,J.bare,J.base,J.aI,rv,q⟩
 cases fl with
 |ret u =>
  obtain⟨v,aK,H',J,rv,q⟩:=hs;exact fin J rv q
 |next =>
  obtain⟨aK,H',J,q⟩:=hs;exact fin (v:=V.aU) (u:=Value.none) J rfl q
 |brk =>
  obtain⟨_,_,_,q⟩:=hs;exact False.elim q
 |cont =>
  obtain⟨_,_,_,q⟩:=hs;exact False.elim q
end L2
namespace L2
open PySem PySem.Spec PyProof.Rows
section
variable {p:Pos}{es:List Expr}{t:TA}{id T:String}{r:List V->Hp->VK->Prop}
def tCB (r:List V->Hp->VK->Prop) (t:TA):TE:=fun σ H Q=>t σ H fun vs H1=>r vs H1 Q
theorem AV (hc:Bb X (.builtin id) r) (hg:Gl X x) (hm:X.mg x=none) (hv:bootBuiltins x=some (.builtin id)) (ha:PA X (e :: es) t) (hn:x≠ "__name__" := by decide) (eV:(x == ("__debug__" : Str))=false:=by decide)
  (he:starEach (e :: es) X.env=(false,eval e X.env) :: starEach es X.env:=by rfl) (eM:(backTo pos (starEach es X.env)).any (·.1)=false:=by rfl):PE X (.Call (.Name x p) (e :: es) [] pos) (tCB r t):=by
 intro aa s σ H Q I h;refine Z3 (Eu I hg hm hv ?_ hn eV);exact PyProof.Rows.callWith_builtin1 (aJ (ha pos aa s σ H _ I h) fun us s1 ⟨vs,H1,I1,r1,q1⟩=>hc aa s1 σ H1 vs us Q I1 r1 q1) he eM
theorem BK (hc:Bb X (.type T) r) (hg:Gl X x) (hm:X.mg x=none) (hv:bootBuiltins x=some (.type T)) (ha:PA X (e :: es) t) (hn:x≠ "__name__" := by decide) (eV:(x == ("__debug__" : Str))=false:=by decide)
  (he:starEach (e :: es) X.env=(false,eval e X.env) :: starEach es X.env:=by rfl) (eM:(backTo pos (starEach es X.env)).any (·.1)=false:=by rfl):PE X (.Call (.Name x p) (e :: es) [] pos) (tCB r t):=by
 intro aa s σ H Q I h;refine Z3 (Eu I hg hm hv ?_ hn eV);exact PyProof.Rows.callWith_type1 (aJ (ha pos aa s σ H _ I h) fun us s1 ⟨vs,H1,I1,r1,q1⟩=>hc aa s1 σ H1 vs us Q I1 r1 q1) he eM
end
end L2
namespace L2
open PySem PySem.Spec PyProof.Rows
theorem Co {ns:List Int}:∀ {us:List Value},Vals (ns.map V.int) us->IntsAre us ns:=by
 induction ns with
 |nil=>intro us r;rw[map_nil]at r;cases r;exact .nil
 |cons n ns ih =>
  intro us r;rw[map_cons]at r;cases r with
  |cons r1 r2 =>
   obtain⟨t,e⟩:=r1;subst e;exact .cons n t (ih r2)
end L2
namespace L2
open PySem PySem.Spec PyProof.Rows
noncomputable def jk (n:Nat) (i:Int):Option Nat:=if 0 <= i then (if i < n then some i.toNat else none)else if -(n:Int) <= i then some (i + n).toNat else none
noncomputable def jg {α:Type} (xs:List α) (i:Int):Option α:=(jk xs.length i).bind fun j=>xs[j]?
theorem NW {n:Nat}{i:Int}{j:Nat} (h:jk n i=some j):seqIndex? i n=some j/\j < n/\-(n:Int) <= i/\i < n:=by
 unfold jk at h;by_cases h0:0 <= i
 ·rw[Zp h0]at h;by_cases h1:i < n
  ·rw[Zp h1]at h;have e:i.toNat=j:=Option.some.inj h;exact⟨by rw[seqIndex_of h0 h1,e],qe,qe,h1⟩
  ·rw[Zq h1]at h;cases h
 ·rw[Zq h0]at h;by_cases h1:-(n:Int) <= i
  ·rw[Zp h1]at h;have e:(i + n).toNat=j:=Option.some.inj h;exact⟨by rw[seqIndex_neg qe h1,e],qe,h1,qe⟩
  ·rw[Zq h1]at h;cases h
theorem NX {α:Type}{xs:List α}{i:Int}{v:α} (h:jg xs i=some v):∃j,seqIndex? i xs.length=some j/\xs[j]?=some v/\j < xs.length/\-(xs.length:Int) <= i/\i < xs.length:=by
 unfold jg at h;cases e:jk xs.length i with
 |none=>rw[e]at h;cases h
 |some j =>
  rw[e]at h;obtain⟨h1,h2,h3,h4⟩:=NW e;exact⟨j,h1,h,h2,h3,h4⟩
theorem B5 {α:Type}{xs:List α}{j:Nat}{v:α} (h:xs[j]?=some v):jg xs (j:Int)=some v:=by
 have hj:j < xs.length:=(Z8.mp h).1
 have e:jk xs.length (j:Int)=some j:=by
  unfold jk;rw[Zp qe,Zp qe];simp
 unfold jg;rw[e];exact h
def Ri (b:Expr):Prop:=∀o i,subscripted b false o i=operate [o,i] (getItem o i)
def IxR (X:Cx) (r:R2):Prop :=
 ∀(value slice:Expr) (aa:LO) (s:Shared) (σ:St) (H:Hp) (x y:V) (v u:Value) (Q:VK),Inv X aa σ H s->RelV x v->RelV y u->r x y H Q ->
  subscripted slice false v u=operate [v,u] (getItem v u)->wpAny (model X.prog X.w) X.A (subscriptTail value slice v u) (EP X aa σ Q) X.xe s
def iW (X:Cx) (id:String) (r:V->List V->Hp->VK->Prop):Prop :=
 ∀(aa:LO) (s:Shared) (σ:St) (H:Hp) (x:V) (xs:List V) (v:Value) (us:List Value) (Q:VK),Inv X aa σ H s->RelV x v->Vals xs us->r x xs H Q ->
  wpAny (model X.prog X.w) X.A (call (.builtin id) (v :: us)) (EP X aa σ Q) X.xe s
section
variable {a b:Expr}{ta tb:TE}
theorem Bc {r:R2} (hr:IxR X r) (ha:PE X a ta) (hb:PE X b tb) (hs:Ri b):PE X (.Subscript a b pos) (tOp r ta tb):=by
 intro aa s σ H Q I h;exact Subscript_ (Tl ha hb I h fun v u s2 x y H2 I2 rx ry q=>hr a b aa s2 σ H2 x y v u Q I2 rx ry q (hs _ _))
inductive ExrIxL (K:FG) (x y:V) (H:Hp) (k:V->Prop):Prop where
 |mk (p:Addr) (xs:List V) (i:Int) (v:V) (h1:x=.ref p) (h2:y=.int i) (h3:aH K H p xs) (h4:jg xs i=some v) (q:k v):ExrIxL K x y H k
def VD (K:FG):R2:=fun x y H Q=>ExrIxL K x y H fun v=>Q v H
inductive ExrIxT (K:FG) (x y:V) (H:Hp) (k:V->Prop):Prop where
 |mk (p:Addr) (xs:List V) (i:Int) (v:V) (h1:x=.ref p) (h2:y=.int i) (h3:aY K H p xs) (h4:jg xs i=some v) (q:k v):ExrIxT K x y H k
def VE (K:FG):R2:=fun x y H Q=>ExrIxT K x y H fun v=>Q v H
theorem Rj:IxR X (VD X.K):=by
 intro value slice aa s σ H x y v u Q I rx ry h hs;obtain⟨p,xs,i,z,rfl,rfl,hq,he,q⟩:=h;cases rx;obtain⟨t,rfl⟩:=ry;obtain⟨its,r,pl,hz⟩:=I.list hq;obtain⟨j,h1,h2,h3,h4,h5⟩:=NX he;obtain⟨w,ew,iF⟩:=r.get h2;have hl:=r.length;have hn:=HU;have fin:EP X aa σ Q w s:=⟨z,H,I,iF,q⟩;by_cases h0:0 <= i
 ·have hj:i.toNat=j:=by
   rw[seqIndex_of h0 h5]at h1;exact Option.some.inj h1
  exact item_listR pl.isList h0 qe (by rw[hj];simpa using ew) fin hs
 ·have hj:(i + (its.toArray.size:Int)).toNat=j:=by
   rw[seqIndex_neg qe h4]at h1;rw[size_toArray,←hl];exact Option.some.inj h1
  exact subscriptTail_builtinR (x:=w) pl.isList.typeIs slot_list_getitem.lookup
   (wpAny_getItem_list_neg (Q:=fun r s'=>r=w/\EP X aa σ Q r s') pl.isList qe (by rw[size_toArray] <;> omega) qe (by rw[hj];simpa using ew) ⟨rfl,fin⟩) hs
theorem Tr:IxR X (VE X.K):=by
 intro value slice aa s σ H x y v u Q I rx ry h hs;obtain⟨p,xs,i,z,rfl,rfl,hq,he,q⟩:=h;cases rx;obtain⟨t,rfl⟩:=ry;obtain⟨its,r,pl,hz⟩:=I.tuple hq;obtain⟨j,h1,h2,h3,h4,h5⟩:=NX he;obtain⟨w,ew,iF⟩:=r.get h2;have hl:=r.length;have hn:=HU;have fin:EP X aa σ Q w s:=⟨z,H,I,iF,q⟩
 exact subscriptTail_builtinR (x:=w) pl.typeIs slot_tuple_getitem.lookup
  (getItem_tuple (j:=j) (Q:=fun r s'=>r=w/\EP X aa σ Q r s') pl qe qe (by rw[size_toArray,←hl];exact h1) (by simpa using ew) ⟨rfl,fin⟩) hs
theorem MP (its:List Value) (n j:Nat) (u:Value):Obj.mapSeq (·.setIfInBounds j u) { cls:=.type "list", data:=.seq its.toArray n }={ cls:=.type "list", data:=.seq (its.set j u).toArray n }:=by
 simp[Obj.mapSeq]
theorem Inv.lst {aa:LO}{σ:St}{H:Hp}{s:Shared}{p:Addr}{xs:List V} (I:Inv X aa σ H s) (h:H p=some (.lst xs)) :
  ∃(its:List Value) (n:Nat),Vals xs its/\s.heap.get? p=some { cls:=.type "list", data:=.seq its.toArray n }/\xs.length <= sizeLine:=by
 obtain⟨z,its,n,r,e⟩:=I.aI p _ h;exact⟨its,n,r,e,z⟩
theorem Inv.lstUpd {s:Shared}{p:Addr}{ys:List V}{its its':List Value}{n n':Nat}{f:Obj->Obj} (I:Inv X aa σ H s) (h:H p=some (.lst xs))
  (ho:s.heap.get? p=some { cls:=.type "list", data:=.seq its.toArray n }) (hf:f { cls:=.type "list", data:=.seq its.toArray n }={ cls:=.type "list", data:=.seq its'.toArray n' }) (r:Vals ys its') (hz:ys.length <= sizeLine) (t:Nat) :
  Inv X aa σ (upd H p (.lst ys)) { s with heap:=s.heap.update p f,toks:=t }:=by
 have e:(s.heap.update p f).get? p=some { cls:=.type "list", data:=.seq its'.toArray n' }:=by
  rw[ZU f ho (by rw[hf] <;> rfl),hf]
 refine I.write (x:=p) (e:=p) (by rw[h];trivial) (.inl rfl) (fun b u hb q=>(ZW _ _ (Ne.symm hb)).trans q) ⟨_,e⟩ ?_;exact⟨hz,its',n',r,e⟩
def VF:V->V->V->Hp->(Hp->Prop)->Prop:=fun o i v H Q=>∃p xs k j,o=.ref p/\i=.int k/\H p=some (.lst xs)/\jk xs.length k=some j/\Q (upd H p (.lst (xs.set j v)))
theorem Ks:U4 X VF:=by
 intro aa s σ H o i v ov iv u Q I ro ri rv h;obtain⟨p,xs,k,j,rfl,rfl,hp,hj,q⟩:=h;cases ro;obtain⟨t,rfl⟩:=ri;obtain⟨its,n,r,ho,hz⟩:=I.lst hp;obtain⟨h1,h2,h3,h4⟩:=NW hj;have hl:=r.length;have hn:=HU
 have I':Inv X aa σ (upd H p (.lst (xs.set j v))) { s with heap:=s.heap.update p (Obj.mapSeq (·.setIfInBounds j u)) } :=
  I.lstUpd hp ho (MP its n j u) (r.set rv j) (by rw[List.length_set];exact hz) s.toks
 by_cases h0:0 <= k
 ·have hk:k.toNat=j:=by
   rw[seqIndex_of h0 h4]at h1;exact Option.some.inj h1
  exact W.ki_setAt ho h0 qe (by rw[size_toArray,←hl];exact h4) (by rw[hk];exact⟨_,I',q⟩)
 ·have hk:(k + (its.toArray.size:Int)).toNat=j:=by
   rw[seqIndex_neg qe h3]at h1;rw[size_toArray,←hl];exact Option.some.inj h1
  exact W.ki_setBack ho qe (by rw[size_toArray,←hl];exact h3) qe (by rw[hk];exact⟨_,I',q⟩)
noncomputable def FQ:V->Bool
 | .aU=>true
 | .bl _=>true
 | .int _=>true
 | .str _=>true
 |_=>false
noncomputable def kX:V->V->Bool
 | .aU,.aU=>true
 | .bl a,.bl b=>a == b
 | .bl a,.int b=>(if a then 1 else 0) == b
 | .int a,.bl b=>a == (if b then 1 else 0)
 | .int a,.int b=>a == b
 | .str a,.str b=>a == b
 |_,_=>false
theorem Ts {s:Shared}{y x:V}{v:Value} (ry:RelV y u) (rx:RelV x v) (fy:FQ y=true) (fx:FQ x=true):SeqAt.EqAt A s u v (kX y x):=by
 cases y with
 |aU =>
  cases ry;cases x with
  |aU=>cases rx;exact SeqAt.EqAt.same _
  |bl b=>cases rx;exact SeqAt.EqAt.none_bool b
  |int b=>obtain⟨t,rfl⟩:=rx;exact SeqAt.EqAt.none_int b t
  |str b=>obtain⟨t,rfl⟩:=rx;exact SeqAt.EqAt.none_str b t
  |_=>exact absurd (show false=true from fx) Bool.false_ne_true
 |bl a =>
  cases ry;cases x with
  |aU=>cases rx;exact SeqAt.EqAt.bool_none a
  |bl b=>cases rx;exact SeqAt.EqAt.bool_bool a b
  |int b=>obtain⟨t,rfl⟩:=rx;exact SeqAt.EqAt.bool_int a b t
  |str b=>obtain⟨t,rfl⟩:=rx;exact SeqAt.EqAt.bool_str a b t
  |_=>exact absurd (show false=true from fx) Bool.false_ne_true
 |int a =>
  obtain⟨t',rfl⟩:=ry;cases x with
  |aU=>cases rx;exact SeqAt.EqAt.int_none a t'
  |bl b=>cases rx;exact SeqAt.EqAt.int_bool a t' b
  |int b=>obtain⟨t,rfl⟩:=rx;exact SeqAt.EqAt.int_int a t' b t
  |str b=>obtain⟨t,rfl⟩:=rx;exact SeqAt.EqAt.int_str a t' b t
  |_=>exact absurd (show false=true from fx) Bool.false_ne_true
 |str a =>
  obtain⟨t',rfl⟩:=ry;cases x with
  |aU=>cases rx;exact SeqAt.EqAt.str_none a t'
  |bl b=>cases rx;exact SeqAt.EqAt.str_bool a t' b
  |int b=>obtain⟨t,rfl⟩:=rx;exact SeqAt.EqAt.str_int a t' b t
  |str b=>obtain⟨t,rfl⟩:=rx;exact SeqAt.EqAt.str_str a t' b t
  |_=>exact absurd (show false=true from fx) Bool.false_ne_true
 |_=>exact absurd (show false=true from fy) Bool.false_ne_true
noncomputable def iq (x:V) (u:Value):Bool:=match u with
 | .none=>kX .aU x
 | .bool b=>kX (.bl b) x
 | .int i _=>kX (.int i) x
 | .str z _=>kX (.str z) x
 |_=>false
theorem Pf {x y:V} (r:RelV y u) (f:FQ y=true):iq x u=kX y x:=by
 cases y with
 |aU=>cases r;rfl
 |bl b=>cases r;rfl
 |int i=>obtain⟨t,rfl⟩:=r;rfl
 |str z=>obtain⟨t,rfl⟩:=r;rfl
 |_=>exact absurd (show false=true from f) Bool.false_ne_true
theorem FR {x:V}:∀ {xs:List V}{us:List Value},Vals xs us->xs.all FQ=true->us.any (iq x)=xs.any fun y=>kX y x
 |_,_,.nil,_=>rfl
 |y :: xs,u :: us,.cons r t,f=>by
  rw[List.all_cons,Bool.and_eq_true]at f;rw[any_cons,any_cons,Pf r f.1,FR t f.2]
theorem Ds {A:Around}{s:Shared}{x:V}{v:Value} (rx:RelV x v) (fx:FQ x=true):∀ {xs:List V}{us:List Value},Vals xs us->xs.all FQ=true->∀u∈us,SeqAt.EqAt A s u v (iq x u)
 |_,_,.nil,_=>fun u hu=>by cases hu
 |y :: xs,u :: us,.cons r t,f=>fun u' hu=>by
  rw[List.all_cons,Bool.and_eq_true]at f;rcases mem_cons.mp hu with rfl |hu
  ·rw[Pf r f.1];exact Ts r rx f.1 fx
  ·exact Ds rx fx t f.2 u' hu
noncomputable def gT (x:V) (xs:List V):Bool:=xs.any fun y=>kX y x
def rIn (K:FG) (neg:Bool):R2:=fun x y H Q=>∃p xs,y=.ref p/\(aH K H p xs\/aY K H p xs)/\FQ x=true/\xs.all FQ=true/\Q (.bl (if neg then !gT x xs else gT x xs)) H
theorem DJ:eB X (compareOp .In) (rIn X.K false):=by
 intro aa s σ H x y v u Q I rx ry h;obtain⟨p,xs,rfl,hq,fx,fs,q⟩:=h;cases ry;rcases hq with hq |hq
 ·obtain⟨its,r,pl,hz⟩:=I.list hq;refine SeqAt.in_listAt (iq x) pl.isList (fun w hw=>Ds rx fx r fs w (by simpa using hw)) ⟨.bl _,H,I,rfl,?_⟩;rw[show its.toArray.any (iq x)=its.any (iq x) by simp,FR r fs];exact q
 ·obtain⟨its,r,pl,hz⟩:=I.tuple hq;refine SeqAt.in_tupleAt (iq x) pl (fun w hw=>Ds rx fx r fs w (by simpa using hw)) ⟨.bl _,H,I,rfl,?_⟩;rw[show its.toArray.any (iq x)=its.any (iq x) by simp,FR r fs];exact q
theorem J1:eB X (compareOp .NotIn) (rIn X.K true):=by
 intro aa s σ H x y v u Q I rx ry h;obtain⟨p,xs,rfl,hq,fx,fs,q⟩:=h;cases ry;rcases hq with hq |hq
 ·obtain⟨its,r,pl,hz⟩:=I.list hq;refine SeqAt.notIn_listAt (iq x) pl.isList (fun w hw=>Ds rx fx r fs w (by simpa using hw)) ⟨.bl _,H,I,rfl,?_⟩;rw[show its.toArray.any (iq x)=its.any (iq x) by simp,FR r fs];exact q
 ·obtain⟨its,r,pl,hz⟩:=I.tuple hq;refine SeqAt.notIn_tupleAt (iq x) pl (fun w hw=>Ds rx fx r fs w (by simpa using hw)) ⟨.bl _,H,I,rfl,?_⟩;rw[show its.toArray.any (iq x)=its.any (iq x) by simp,FR r fs];exact q
theorem FS:Bb X (.builtin "len") (fun xs H Q=>∃p ys,xs=[.ref p]/\(aH X.K H p ys\/aY X.K H p ys)/\Q (.int ys.length) H):=by
 intro aa s σ H xs us Q I r h;obtain⟨p,ys,rfl,hq,q⟩:=h;obtain⟨u,rfl,rx⟩:=B4 r;cases rx;have hn:=HU;rcases hq with hq |hq
 ·obtain⟨its,r',pl,hz⟩:=I.list hq;have bf:=r'.length;exact Calls.call_len_list pl.isList (by simp only[size_toArray] <;> omega) ⟨.int ys.length,H,I.tok _,⟨s.toks + 1,by rw[size_toArray,bf]⟩,q⟩
 ·obtain⟨its,r',pl,hz⟩:=I.tuple hq;have bf:=r'.length;exact len_tuple pl (by simp only[size_toArray] <;> omega) ⟨.int ys.length,H,I.tok _,⟨s.toks + 1,by rw[size_toArray,bf]⟩,q⟩
theorem J3:Bb X (.builtin "len") (fun xs H Q=>∃z,xs=[.str z]/\z.length <= sizeLine/\Q (.int z.length) H):=by
 intro aa s σ H xs us Q I r h;obtain⟨z,rfl,hz,q⟩:=h;obtain⟨u,rfl,t,rfl⟩:=B4 r;have hn:=HU;exact len_str qe ⟨.int z.length,H,I.tok _,⟨_,rfl⟩,q⟩
theorem FU:Bb X (.type "list") (fun xs H Q=>∃p ys,xs=[.ref p]/\(aH X.K H p ys\/aY X.K H p ys)/\∀l,H l=none->Q (.ref l) (upd H l (.lst ys))):=by
 intro aa s σ H xs us Q I r h;obtain⟨p,ys,rfl,hq,q⟩:=h;obtain⟨u,rfl,rx⟩:=B4 r;cases rx
 have fin:∀(its:List Value),Vals ys its->ys.length <= sizeLine->∀(h':Heap) (c':Nat),(∀b o',s.heap.get? b=some o'->h'.get? b=some o') ->
   h'.get? s.heap.objs.size=some { cls:=.type "list", dict:=none,data:=.seq its.toArray c',slots:=#[] }->EP X aa σ Q (.ref s.heap.objs.size) { s with heap:=h' }:=fun its r' hz h' c' kp e =>
  ⟨.ref s.heap.objs.size,_,I.laid (t':=s.toks) kp (Zy _) (show aT X.prog X.w _ h' _ (.lst ys)from⟨hz,its,c',r',e⟩),rfl,q _ (I.aI.fresh (Zy _))⟩
 rcases hq with hq |hq
 ·obtain⟨its,r',pl,hz⟩:=I.list hq;have bf:=r'.length;obtain⟨o,ho,hc,n,hd⟩:=pl.isList;exact call_list_seq p (.inl rfl) ho hc hd (fun h' c' kp e=>fin its r' hz h' c' kp e) (by simp only[size_toArray] <;> omega)
 ·obtain⟨its,r',pl,hz⟩:=I.tuple hq;have bf:=r'.length;obtain⟨o,ho,hc,n,hd⟩:=pl;exact call_list_seq p (.inr rfl) ho hc hd (fun h' c' kp e=>fin its r' hz h' c' kp e) (by simp only[size_toArray] <;> omega)
theorem Em:Bb X (.type "tuple") (fun xs H Q=>∃p ys,xs=[.ref p]/\((aH X.K H p ys/\∀l,H l=none->Q (.ref l) (upd H l (.tup ys)))\/(aY X.K H p ys/\Q (.ref p) H))):=by
 intro aa s σ H xs us Q I r h;obtain⟨p,ys,rfl,h⟩:=h;obtain⟨u,rfl,rx⟩:=B4 r;cases rx;rcases h with⟨hq,q⟩ |⟨hq,q⟩
 ·obtain⟨its,r',pl,hz⟩:=I.list hq;have bf:=r'.length;refine call_tuple_list pl.isList (fun h' kp=>?_) (by simp only[size_toArray] <;> omega);have I1:Inv X aa σ H { s with heap:=h' }:=I.kept (t':=s.toks) kp
  have I2:Inv X aa σ (upd H h'.objs.size (.tup ys)) { s with heap:=h'.push { cls:=.type "tuple", data:=.seq its.toArray } } :=
   I1.laid (t':=s.toks) (fun b o e=>ZX _ e) (Zy _) (show aT X.prog X.w _ _ _ (.tup ys)from⟨hz,its,r',IsTup.new _ _⟩)
  exact⟨.ref h'.objs.size,_,I2,rfl,q _ (I1.aI.fresh (Zy _))⟩
 ·obtain⟨its,r',pl,hz⟩:=I.tuple hq;exact call_tuple_same pl ⟨.ref p,H,I,rfl,q⟩
def tyV (K:FG) (T:String) (x:V) (H:Hp):Prop:=match x with
 | .str _=>T = "str"
 | .int _=>T = "int"
 | .ref p=>(T = "list" /\ ∃xs,aH K H p xs)\/(T = "tuple" /\ ∃o,K.lookup p=some o/\o.cls=.type "tuple" /\ o.dict=none) \/
   (T = "dict" /\ ((∃kvs,H p=some (.dK kvs))\/∃kvs,H p=some (.dT kvs)))\/(T = "set" /\ ∃S n,H p=some (.set S n))
 |_=>False
theorem Pg {s:Shared}{T:String}{x:V}{v:Value} (I:Inv X aa σ H s) (r:RelV x v) (ty:tyV X.K T x H) :
  s.TypeIs v T/\∀a,v=.ref a->∃ob,s.heap.get? a=some ob/\ob.dict=none:=by
 cases x with
 |str z =>
  obtain⟨t,rfl⟩:=r;cases (show T = "str" from ty);exact⟨typeIs_str s z t,fun _ e=>nomatch e⟩
 |int i =>
  obtain⟨t,rfl⟩:=r;cases (show T = "int" from ty);exact⟨typeIs_int s i t,fun _ e=>nomatch e⟩
 |ref p =>
  cases r;rcases ty with⟨rfl,xs,hq⟩ |⟨rfl,o,hk,hc,hd⟩ |⟨rfl,hk⟩ |⟨rfl,S,n,hk⟩
  ·obtain⟨its,_,pl,_⟩:=I.list hq;refine⟨pl.isList.typeIs,fun a e=>?_⟩;cases e;obtain⟨o,n,e,c,hd,_⟩:=pl;exact⟨o,e,hd⟩
  ·refine⟨⟨o,I.cS p o hk,hc⟩,fun a e=>?_⟩;cases e;exact⟨o,I.cS _ o hk,hd⟩
  ·have z:∃o,s.heap.get? p=some o/\o.ExactDict:=by
    rcases hk with⟨kvs,hk⟩ |⟨kvs,hk⟩
    ·obtain⟨_,_,_,_,o,_,_,e,ex,_⟩:=I.aI p _ hk;exact⟨o,e,ex⟩
    ·obtain⟨_,_,_,_,o,_,_,e,ex,_⟩:=I.aI p _ hk;exact⟨o,e,ex⟩
   obtain⟨o,e,ex⟩:=z;refine⟨⟨o,e,ex.1⟩,fun a e2=>?_⟩;cases e2;exact⟨o,e,ex.2.1⟩
  ·obtain⟨o,_,_,_,e,ex,_⟩:=I.aI p _ hk;refine⟨⟨o,e,ex.1⟩,fun a e2=>?_⟩;cases e2;exact⟨o,e,ex.2.1⟩
 |_=>exact False.elim ty
def V8 (K:FG) (T:String) (r:V->List V->Hp->VK->Prop) (to:TE):TE:=fun σ H Q=>to σ H fun x H1=>tyV K T x H1/\r x [] H1 Q
def tBM (K:FG) (T:String) (r:V->List V->Hp->VK->Prop) (to:TE) (t:TA):TE:=fun σ H Q=>to σ H fun x H1=>tyV K T x H1/\t σ H1 fun xs H2=>r x xs H2 Q
variable {o:Expr}{es:List Expr}{to:TE}{t:TA}{name:Str}{apos eF:Pos}{T id:String}{r:V->List V->Hp->VK->Prop}
theorem Tt (pa:PlainAttrs T) (slot:Slot T name id) (hty:typeOf (.builtin id)=pure (.type "method_descriptor")) (hm:iW X id r) (ho:PE X o to)
  (bp:attributeBase o name X.env (eval o X.env)=eval o X.env:=by rfl) (bw:(apos.endLine == eF.line)=true:=by rfl):PE X (.Call (.Attribute o name apos) [] [] eF) (V8 X.K T r to):=by
 intro aa s σ H Q I h;refine wpAny_Call_method0_late bp bw (aJ (ho aa s σ H _ I h) fun v s1 ⟨x,H1,I1,r1,ty,q1⟩=>?_);obtain⟨h1,h2⟩:=Pg I1 r1 ty;exact⟨T,id,pa,slot,hty,h1,h2,Calls.callWith_builtin rfl (PySem.evalArgs_none (hm aa s1 σ H1 x [] v [] Q I1 r1 .nil q1))⟩
theorem En (pa:PlainAttrs T) (slot:Slot T name id) (hty:typeOf (.builtin id)=pure (.type "method_descriptor")) (hm:iW X id r) (ho:PE X o to) (ha:PA X (e :: es) t)
  (bp:attributeBase o name X.env (eval o X.env)=eval o X.env:=by rfl)
  (hfew:((backTo eF (starEach (e :: es) X.env)).all (fun x=>!x.1) && (backToKw eF (keywordEach [] X.env)).all (fun x=>x.1.isSome)
   && decide ((e :: es).length + ([]:List Keyword).length + (if ([]:List Keyword).isEmpty then 0 else 1) < 30))=true:=by rfl)
  (bw:(apos.endLine == eF.line)=true:=by rfl) (hs:starEach (e :: es) X.env=(false,eval e X.env) :: starEach es X.env:=by rfl) (hplain:(backTo eF (starEach es X.env)).any (·.1)=false:=by rfl) :
  PE X (.Call (.Attribute o name apos) (e :: es) [] eF) (tBM X.K T r to t):=by
 intro aa s σ H Q I h;refine wpAny_Call_method_late bp hfew bw rfl (aJ (ho aa s σ H _ I h) fun v s1 ⟨x,H1,I1,r1,ty,q1⟩=>?_);obtain⟨h1,h2⟩:=Pg I1 r1 ty;refine⟨T,id,pa,slot,hty,h1,h2,?_⟩;have hA:=ha eF aa s1 σ H1 _ I1 q1;rw[hs]at hA ⊢;refine Calls.callWith_builtin (by show(false || (backTo eF (starEach es X.env)).any (·.1))=false;rw[hplain] <;> rfl) (Calls.evalArgs_plain ?_);exact aJ hA fun us s2 ⟨vs,H2,I2,r2,q2⟩=>hm aa s2 σ H2 x vs v us Q I2 r1 r2 q2
end
end L2
namespace L2
open PySem PySem.Spec PyProof.Rows
def MtM (X:Cx) (id:String) (r:V->List V->Hp->VK->Prop):Prop :=
 ∀(aa:LO) (s:Shared) (σ:St) (H:Hp) (x:V) (xs:List V) (v:Value) (us:List Value) (Q:VK),Inv X aa σ H s->RelV x v->Vals xs us->r x xs H Q ->
  wpAny (model X.prog X.w) X.A (call (.builtin id) (v :: us)) (EP X aa σ Q) X.xe s
theorem Vals.one:∀ {x:V}{us:List Value},Vals [x] us->∃u,us=[u]/\RelV x u
 |_,_,.cons r .nil=>⟨_,rfl,r⟩
theorem Vals.rep {xs:List V}{us:List Value} (h:Vals xs us):∀k:Nat,Vals (List.replicate k xs).flatten (List.replicate k us).flatten
 |0=>.nil
 |k + 1=>by
  rw[replicate_succ,replicate_succ,flatten_cons,flatten_cons];exact Vals.append h (Vals.rep h k)
theorem JT (its:List Value):∀(k:Nat) (acc:List Value),
  List.foldl (fun x1 x2=>x1++x2) acc.toArray (List.replicate k its.toArray)=(acc++(List.replicate k its).flatten).toArray
 |0,acc=>by simp
 |k + 1,acc=>by
  have e:acc.toArray++its.toArray=(acc++its).toArray:=by simp
  have e2:(acc++its)++(List.replicate k its).flatten=acc++(List.replicate (k + 1) its).flatten:=by
   rw[replicate_succ,flatten_cons,List.append_assoc]
  rw[←e2,←JT its k (acc++its),←e,replicate_succ,foldl_cons]
section
variable {s:Shared}{l b:Addr}{ys zs:List V}
theorem Inv.lset {its its':List Value}{n:Nat}{f:Array Value->Array Value}{t':Nat} (I:Inv X aa σ H s) (hH:H l=some (.lst xs))
  (e:s.heap.get? l=some { cls:=.type "list", data:=.seq its.toArray n }) (hf:f its.toArray=its'.toArray) (hv:Vals ys its') (hz:ys.length <= sizeLine) :
  Inv X aa σ (upd H l (.lst ys)) { s with heap:=s.heap.update l (Obj.mapSeq f),toks:=t' }:=by
 have q:=PySem.IsL.update e f;rw[hf]at q;refine I.write (x:=l) (e:=l) (by rw[hH];exact trivial) (.inl rfl) (fun b' u hb hu=>(ZW s.heap (Obj.mapSeq f) (Ne.symm hb)).trans hu) ⟨_,q⟩ ?_;exact⟨hz,its',_,hv,q⟩
theorem Inv.lnew {its:List Value}{t':Nat} (I:Inv X aa σ H s) (hv:Vals ys its) (hz:ys.length <= sizeLine) :
  Inv X aa σ (upd H s.heap.objs.size (.lst ys)) { s with heap:=s.heap.push { cls:=.type "list", data:=.seq its.toArray },toks:=t' } :=
 I.laid (fun _ _ q=>ZX _ q) (Zy _) ⟨hz,its,0,hv,ZN _ rfl⟩
theorem Inv.fresh (I:Inv X aa σ H s):H s.heap.objs.size=none:=I.aI.fresh (Zy _)
theorem Inv.lstM (I:Inv X aa σ H s) (hH:H l=some (.lst xs)):xs.length <= sizeLine/\∃(its:List Value) (n:Nat),Vals xs its/\xs.length=its.length/\s.heap.get? l=some { cls:=.type "list", data:=.seq its.toArray n }:=by
 obtain⟨z,its,n,r,e⟩:=I.aI l _ hH;exact⟨z,its,n,r,r.length,e⟩
theorem Kt {n:Nat} (h:n <= sizeLine):Builtin.List.listTooLong n=false:=by
 unfold Builtin.List.listTooLong;exact ZO qe
end
section
def Rk:V->List V->Hp->VK->Prop:=fun x vs H Q=>∃l xs y,x=.ref l/\vs=[y]/\H l=some (.lst xs)/\xs.length < sizeLine/\Q .aU (upd H l (.lst (xs++[y])))
theorem Cg:MtM X "list.append" Rk:=by
 intro aa s σ H x vs v us Q I rx rv h;obtain⟨l,xs,y,rfl,rfl,hH,hz,q⟩:=h;cases rx;obtain⟨u,rfl,ru⟩:=rv.one;obtain⟨z,its,n,r,hl,e⟩:=I.lstM hH;refine call_meets F.slot_list_append ⟨_,e,rfl⟩ F.entry_list_append (F.args_list_append_2 _ _) (PySem.list_append l its.toArray n u (by rw[size_toArray];omega)) ⟨e,?_⟩;refine⟨.aU,_,I.lset (its':=its++[u]) hH e (by simp) (r.append (.cons ru .nil)) ?_,rfl,q⟩;rw[ZH,length_singleton];omega
def V9:R2:=fun x y H Q=>∃l b xs zs,x=.ref l/\y=.ref b/\H l=some (.lst xs)/\H b=some (.lst zs)/\xs.length + zs.length <= sizeLine/\∀p,H p=none->Q (.ref p) (upd H p (.lst (xs++zs)))
theorem Du:eB X (binaryOp .Add) V9:=by
 intro aa s σ H x y v u Q I rx ry h;obtain⟨l,b,xs,zs,rfl,rfl,hH,hB,hz,q⟩:=h;cases rx;cases ry;obtain⟨z,its,n,r,hl,e⟩:=I.lstM hH;obtain⟨z2,gw,n2,r2,fg,e2⟩:=I.lstM hB;refine PySem.P.add_list e e2 ?_ (by rw[size_toArray,size_toArray];omega);have ea:its.toArray++gw.toArray=(its++gw).toArray:=by simp
 rw[ea];exact⟨.ref _,_,I.lnew (t':=s.toks) (r.append r2) (by rw[ZH];omega),rfl,q _ I.fresh⟩
def WA:R2:=fun x y H Q=>∃l k xs,x=.ref l/\y=.int k/\H l=some (.lst xs)/\-(2 ^ 63) <= k/\k < 2 ^ 63/\xs.length * k.toNat <= sizeLine /\
 ∀p,H p=none->Q (.ref p) (upd H p (.lst (List.replicate k.toNat xs).flatten))
theorem Rl {α:Type} (xs:List α) (k:Nat):(List.replicate k xs).flatten.length=k * xs.length:=by
 induction k with
 |zero=>simp
 |succ k ih=>rw[replicate_succ,flatten_cons,ZH,ih,Nat.succ_mul,Nat.add_comm]
theorem Tu:eB X (binaryOp .Mult) WA:=by
 intro aa s σ H x y v u Q I rx ry h;obtain⟨l,k,xs,rfl,rfl,hH,h1,h2,hz,q⟩:=h;cases rx;obtain⟨t,rfl⟩:=ry;obtain⟨z,its,n,r,hl,e⟩:=I.lstM hH;have bf:its.toArray.size * k.toNat <= sizeLine:=by rw[size_toArray,←hl];exact hz
 have hcap:¬ its.toArray.size * k.toNat > (2 ^ 63 - 1) / 8:=by
  have:(sizeLine:Nat) <= (2 ^ 63 - 1) / 8:=by decide
  omega
 have cn:¬ (!Builtin.List.listFitsIndex k)=true:=by
  rw[fitsIndex_both h1 h2];exact Bool.false_ne_true
 have cy:¬ Builtin.List.listTooLong (its.toArray.size * k.toNat)=true:=by
  rw[Kt bf];exact Bool.false_ne_true
 have bx:List.foldl (fun x1 x2=>x1++x2) #[] (List.replicate (if its.toArray.isEmpty=true then 0 else k.toNat) its.toArray)=(List.replicate k.toNat its).flatten.toArray:=by
  have f0:∀m:Nat,List.foldl (fun x1 x2=>x1++x2) #[] (List.replicate m its.toArray)=(List.replicate m its).flatten.toArray:=fun m=>by
   have:=JT its m [];rw[nil_append]at this;exact this
  rw[f0];cases its with
  |nil=>simp
  |cons a r'=>rw[Zq (by simp)]
 refine wpAny_binaryOp_repeat_ref (T := "list") (U := "int") qc ⟨_,e,rfl⟩ (fun s'=>typeIs_int s' k t) noFill_list_mul F.fills_int_mul F.slot_int_rmul repeat_list F.slot_int_index.lookup
  (call_meets F.slot_int_rmul (typeIs_int s k t) F.entry_int_rmul (F.args_int_rmul_2 _ _) (int___rmul___int_list k t l its.toArray n)
   ⟨e,rfl,⟨_,e,rfl⟩,call_meets F.slot_list_mul ⟨_,e,rfl⟩ F.entry_list_mul (F.args_list_mul_2 _ _) (AutoListH.list___mul___list_int_3 l its.toArray n k t cn hcap cy) ⟨e,?_⟩⟩)
 rw[bx];exact⟨.ref _,_,I.lnew (t':=s.toks) (r.rep k.toNat) (by rw[Rl,Nat.mul_comm];exact hz),rfl,q _ I.fresh⟩
end
end L2
namespace L2
open PySem PySem.Spec PyProof.Rows
section
variable {κ:Type} [DecidableEq κ]
noncomputable def As (kvs:List (κ×V)) (k:κ):Option V:=(kvs.find? fun kv=>decide (kv.1=k)).map (·.2)
noncomputable def BV (kvs:List (κ×V)) (k:κ) (v:V):List (κ×V) :=
 if (kvs.any fun kv=>decide (kv.1=k))=true then kvs.map (fun kv=>if kv.1=k then (kv.1,v)else kv)else kvs++[(k,v)]
theorem BR {p:κ×V}{r:List (κ×V)}{k:κ} (e:p.1=k):As (p :: r) k=some p.2:=by simp[As,find?_cons,e]
theorem BS {p:κ×V}{r:List (κ×V)}{k:κ} (e:¬ p.1=k):As (p :: r) k=As r k:=by simp[As,find?_cons,e]
theorem DK (k:κ):∀kvs:List (κ×V),(kvs.any fun kv=>decide (kv.1=k))=(As kvs k).isSome
 | []=>rfl
 |p :: r=>by
  rw[any_cons];by_cases e:p.1=k
  ·simp only[BR e,ZL e,Bool.true_or,Option.isSome_some]
  ·rw[BS e,ZO e,Bool.false_or];exact DK k r
theorem Ku (k j:κ) (y:V):∀kvs:List (κ×V),As (kvs.map fun kv=>if kv.1=k then (kv.1,y)else kv) j=(As kvs j).map fun x=>if j=k then y else x
 | []=>rfl
 |p :: r=>by
  have ih:=Ku k j y r;rw[map_cons];by_cases h:p.1=k
  ·rw[Zp h];by_cases e:p.1=j
   ·rw[BR (p:=(p.1,y)) e,BR e,Option.map_some,Zp (e.symm.trans h)]
   ·rw[BS (p:=(p.1,y)) e,BS e,ih]
  ·rw[Zq h];by_cases e:p.1=j
   ·rw[BR (p:=p) e,BR e,Option.map_some,Zq (fun z=>h (e.trans z))]
   ·rw[BS (p:=p) e,BS e,ih]
theorem JU (k j:κ) (y:V):∀kvs:List (κ×V),As kvs k=none->As (kvs++[(k,y)]) j=if j=k then some y else As kvs j
 | [],_=>by
  by_cases e:k=j
  ·rw[Zp e.symm];exact BR (p:=(k,y)) e
  ·rw[Zq (fun z=>e z.symm)];exact BS (p:=(k,y)) e
 |p :: r,hn=>by
  rw[cons_append];have hk:¬ p.1=k:=fun z=>by rw[BR z]at hn;cases hn
  rw[BS hk]at hn;have ih:=JU k j y r hn;by_cases e:p.1=j
  ·rw[BR e,BR e,Zq (fun z=>hk (e.trans z))]
  ·rw[BS e,BS e,ih]
theorem HZ (kvs:List (κ×V)) (k j:κ) (y:V):As (BV kvs k y) j=if j=k then some y else As kvs j:=by
 unfold BV;by_cases a:(kvs.any fun kv=>decide (kv.1=k))=true
 ·rw[Zp a,Ku];rw[DK]at a;by_cases e:j=k
  ·obtain⟨x,hx⟩:=Option.isSome_iff_exists.mp a;rw[Zp e,e,hx,Option.map_some,Zp rfl]
  ·rw[Zq e];cases As kvs j with
   |none=>rfl
   |some x=>rw[Option.map_some,Zq e]
 ·rw[Zq a];refine JU k j y kvs ?_;rw[DK]at a;cases q:As kvs k with
  |none=>rfl
  |some x=>rw[q]at a;exact(a rfl).elim
theorem Bm (kvs:List (κ×V)) (k:κ) (v:V):(BV kvs k v).length <= kvs.length + 1:=by
 unfold BV;split
 ·rw[AH];omega
 ·rw[ZH,length_cons,length_nil];omega
theorem DL {kvs:List (κ×V)}{k:κ} (v:V) (h:As kvs k=none):BV kvs k v=kvs++[(k,v)]:=by
 unfold BV;rw[DK,h];exact Zq qc
theorem eR.isSome_eq {o:Option V}{u:Option Value} (r:eR o u):o.isSome=u.isSome:=by
 cases o with
 |none=>cases u with
  |none=>rfl
  |some _=>exact(show False from r).elim
 |some _=>cases u with
  |none=>exact(show False from r).elim
  |some _=>rfl
theorem KV.val {kvs:List (κ×V)}{vs:List (κ×Value)} (r:KV kvs vs) (k:κ):eR (As kvs k) (valueAt vs k):=by
 unfold KV at r;induction r with
 |nil=>exact True.intro
 | @cons p q ps qs h t ih =>
  obtain⟨h1,h2⟩:=h;by_cases e:p.1=k
  ·have e':q.1=k:=h1.symm.trans e;have b:valueAt (q :: qs) k=some q.2:=by simp[valueAt,find?_cons,e']
   rw[BR e,b];exact h2
  ·have e':¬ q.1=k:=fun z=>e (h1.trans z);have b:valueAt (q :: qs) k=valueAt qs k:=by simp[valueAt,find?_cons,e']
   rw[BS e,b];exact ih
theorem KV.any {kvs:List (κ×V)}{vs:List (κ×Value)} (r:KV kvs vs) (k:κ):(kvs.any fun kv=>decide (kv.1=k))=vs.any fun kv=>decide (kv.1=k):=by
 unfold KV at r;induction r with
 |nil=>rfl
 |cons h t ih=>rw[any_cons,any_cons,ih,h.1]
theorem KV.repl {kvs:List (κ×V)}{vs:List (κ×Value)} (r:KV kvs vs) (k:κ) {y:V} (ry:RelV y u) :
  KV (kvs.map fun kv=>if kv.1=k then (kv.1,y)else kv) (vs.map fun kv=>if kv.1=k then (kv.1,u)else kv):=by
 unfold KV at r ⊢;induction r with
 |nil=>exact .nil
 | @cons p q ps qs h t ih =>
  rw[map_cons,map_cons];refine .cons ?_ ih;obtain⟨h1,h2⟩:=h;by_cases e:p.1=k
  ·rw[Zp e,Zp (h1.symm.trans e)];exact⟨h1,ry⟩
  ·rw[Zq e,Zq (fun z=>e (h1.trans z))];exact⟨h1,h2⟩
theorem KV.put {kvs:List (κ×V)}{vs:List (κ×Value)} (r:KV kvs vs) (k:κ) {y:V} (ry:RelV y u):KV (BV kvs k y) (stored vs k u):=by
 unfold BV stored;rw[r.any k];by_cases e:(vs.any fun kv=>decide (kv.1=k))=true
 ·rw[Zp e,Zp e];exact r.repl k ry
 ·rw[Zq e,Zq e];exact Paired.snoc r ⟨rfl,ry⟩
theorem KV.length {kvs:List (κ×V)}{vs:List (κ×Value)} (r:KV kvs vs):kvs.length=vs.length:=Paired.length r
end
theorem FV {k:Key} (r:RelV (kV k) u):(Ar P w).is k u=true:=by
 cases k with
 |inl i=>obtain⟨t,e⟩:=(show ∃t,u=Value.int i t from r);subst e;exact Ke P w i t
 |inr x=>obtain⟨t,e⟩:=(show ∃t,u=Value.str x t from r);subst e;exact Ki P w x t
theorem JV {P:Program}{w:World}:∀ {ks:List Key}{us:List Value},Vals (ks.map kV) us->ItemsAre (Ar P w) ks us
 | [],_,r=>by rw[map_nil]at r;cases r;exact .nil
 |k :: ks,_,r=>by
  rw[map_cons]at r;cases r with
  |cons h t=>exact .cons (FV h) (JV t)
abbrev KT (H:Hp):List (List Key×V)->List (List Key×Addr×Value)->Prop:=Paired fun p q=>p.1=q.1/\H q.2.1=some (.tup (p.1.map kV))/\RelV p.2 q.2.2
theorem KT.val {kvs:List (List Key×V)}{xs:List (List Key×Addr×Value)} (r:KT H kvs xs) (k:List Key):eR (As kvs k) ((atKey xs k).map (·.2)):=by
 induction r with
 |nil=>exact True.intro
 | @cons p q ps qs h t ih =>
  obtain⟨h1,_,h2⟩:=h;by_cases e:p.1=k
  ·have e':q.1=k:=h1.symm.trans e;have b:atKey (q :: qs) k=some q.2:=by simp[atKey,find?_cons,e']
   rw[BR e,b];exact h2
  ·have e':¬ q.1=k:=fun z=>e (h1.trans z);have b:atKey (q :: qs) k=atKey qs k:=by simp[atKey,find?_cons,e']
   rw[BS e,b];exact ih
theorem KT.repl {kvs:List (List Key×V)}{xs:List (List Key×Addr×Value)} (r:KT H kvs xs) (k:List Key) {y:V} (ry:RelV y u) :
  KT H (kvs.map fun kv=>if kv.1=k then (kv.1,y)else kv) (xs.map (putAt k u)):=by
 induction r with
 |nil=>exact .nil
 | @cons p q ps qs h t ih =>
  rw[map_cons,map_cons];refine .cons ?_ ih;obtain⟨h1,h2,h3⟩:=h;unfold putAt;by_cases e:p.1=k
  ·rw[Zp e,Zp (h1.symm.trans e)];exact⟨h1,h2,ry⟩
  ·rw[Zq e,Zq (fun z=>e (h1.trans z))];exact⟨h1,h2,h3⟩
theorem KT.put {kvs:List (List Key×V)}{xs:List (List Key×Addr×Value)} (r:KT H kvs xs) (k:List Key) {b:Addr}{y:V} (hb:H b=some (.tup (k.map kV))) (ry:RelV y u) :
  KT H (BV kvs k y) (storedH xs k b u):=by
 have e:(kvs.any fun kv=>decide (kv.1=k))=(atKey xs k).isSome:=by
  rw[DK,(r.val k).isSome_eq,Option.isSome_map]
 unfold BV storedH;rw[e];by_cases q:(atKey xs k).isSome=true
 ·rw[Zp q,Zp q];exact r.repl k ry
 ·rw[Zq q,Zq q];exact Paired.snoc r ⟨rfl,hb,ry⟩
theorem KT.keeps {kvs:List (List Key×V)}{xs:List (List Key×Addr×Value)} (r:KT H kvs xs) (ht:∀b ys,H b=some (.tup ys)->H' b=some (.tup ys)):KT H' kvs xs :=
 Paired.mapP r fun _ _ z=>⟨z.1,ht _ _ z.2.1,z.2.2⟩
section
theorem TF {u:HO} (ok:eE P w H h) (e:Rd H a u):aT P w H h a u:=e.ok ok
theorem DN {kvs:LK} (ok:eE P w H h) (e:Rd H a (.dK kvs)):kvs.length <= sizeLine/\(a == sysModules)=false/\∃vs,KV kvs vs/\h.DictOf (Ar P w) a vs :=
 show aT P w H h a (.dK kvs)from TF ok e
theorem NY {kvs:LK} (ok:eE P w H h) (e:H a=some (.dK kvs)):kvs.length <= sizeLine/\(a == sysModules)=false/\∃vs,KV kvs vs/\h.DictOf (Ar P w) a vs:=DN ok (.inl e)
theorem Hj {ks:List Key} (ok:eE P w H h) (e:H a=some (.tup (ks.map kV))):(tupleKind (Ar P w)).is h ks a:=by
 obtain⟨_,its,r,o,h1,h2,n,h3⟩:=(show aT P w H h a (.tup (ks.map kV))from ok a _ e);exact⟨o,its.toArray,n,h1,h2,h3,by simpa using JV r⟩
theorem JW {kvs:List (List Key×V)} (ok:eE P w H h) (e:Rd H a (.dT kvs)):kvs.length <= sizeLine/\(a == sysModules)=false /\
  ∃xs,KT H kvs xs/\h.DictOfH (tupleKind (Ar P w)) a xs:=by
 obtain⟨z,y,xs,r,o,es,ep,h1,h2,h3,h4,h5⟩:=(show aT P w H h a (.dT kvs)from TF ok e);refine⟨z,y,xs,r,o,es,ep,h1,h2,h3,h4,fun x hx=>?_,h5⟩
 have all:∀ {l:List (List Key×V)}{m:List (List Key×Addr×Value)},KT H l m->∀x∈m,(tupleKind (Ar P w)).is h x.1 x.2.1:=by
  intro l m q;induction q with
  |nil=>intro x hx;exact nomatch hx
  | @cons p q ps qs hq t ih =>
   intro x hx;rcases mem_cons.mp hx with e |hx
   ·subst e;exact Hj ok (by rw[←hq.1];exact hq.2.1)
   ·exact ih x hx
 exact all r x hx
theorem VG {kvs:List (List Key×V)} (ok:eE P w H h) (e:H a=some (.dT kvs)):kvs.length <= sizeLine/\(a == sysModules)=false /\
  ∃xs,KT H kvs xs/\h.DictOfH (tupleKind (Ar P w)) a xs:=JW ok (.inl e)
end
def J4 (H:Hp) (a:Addr) (y:V) (r:Option V):Prop :=
 (∃kvs k,Rd H a (.dK kvs)/\y=kV k/\r=As kvs k)\/∃kvs k b,Rd H a (.dT kvs)/\y=.ref b/\H b=some (.tup (k.map kV))/\r=As kvs k
def DPut (H:Hp) (a:Addr) (y v:V) (H':Hp):Prop :=
 (∃kvs k,H a=some (.dK kvs)/\y=kV k/\kvs.length < sizeLine/\H'=upd H a (.dK (BV kvs k v))) \/
 ∃kvs k b,H a=some (.dT kvs)/\y=.ref b/\H b=some (.tup (k.map kV))/\kvs.length < sizeLine/\H'=upd H a (.dT (BV kvs k v))
theorem DPut.k {H:Hp}{a:Addr}{kvs:LK}{k:Key}{v:V} (e:H a=some (.dK kvs)) (hl:kvs.length < sizeLine):DPut H a (kV k) v (upd H a (.dK (BV kvs k v))):=.inl ⟨kvs,k,e,rfl,hl,rfl⟩
section
variable {s:Shared}{y v:V}{r:Value}{o:Option V}
theorem Inv.big (I:Inv X aa σ H s):sysModules < s.heap.objs.size:=by
 have h:mainGlobals < s.heap.objs.size:=(I.mod.glob.keeps I.bk).lt;exact Nat.lt_trans qc h
theorem OF {Q:VS} (hu:A.units + 1 < cLine) (I:Inv X aa σ H s) (g:J4 H a y (some v)) (ry:RelV y u) (h:∀w' s',Inv X aa σ H s'->RelV v w'->Q w' s') :
  wpAny (model X.prog X.w) A (getItem (.ref a) u) Q E s:=by
 rcases g with⟨kvs,k,e,ey,l⟩ |⟨kvs,k,b,e,ey,eb,l⟩
 ·subst ey;obtain⟨z,hd,vs,rel,dd⟩:=DN I.aI e;obtain⟨w',hw,iF⟩:=eR.some_of (v:=v) (o:=valueAt vs k) (by rw[l];exact rel.val k);exact wpAny_getItem_of (FV ry) dd.mapOf hw (h w' _ (I.tok _) iF)
 ·subst ey;cases (show u=Value.ref b from ry);obtain⟨z,hd,xs,rel,dd⟩:=JW I.aI e;obtain⟨w',hw,iF⟩:=eR.some_of (v:=v) (o:=(atKey xs k).map (·.2)) (by rw[l];exact rel.val k);obtain⟨p,hp,al⟩:=Z6.mp hw;refine wpAny_getItem_heap (tupleKind_room_in1 hu) (Hj I.aI eb) dd hp ?_;rw[al];exact h w' _ (I.tok _) iF
theorem WB {Q:VS} (hu:A.units + 1 < cLine) (I:Inv X aa σ H s) (g:J4 H a y o) (ry:RelV y u) (h:∀s',Inv X aa σ H s'->Q (.bool o.isSome) s') :
  wpAny (model X.prog X.w) A (compareOp .In u (.ref a)) Q E s:=by
 rcases g with⟨kvs,k,e,ey,l⟩ |⟨kvs,k,b,e,ey,eb,l⟩
 ·subst ey;obtain⟨z,hd,vs,rel,dd⟩:=DN I.aI e;refine wpAny_in_of (FV ry) hd dd.mapOf ?_;rw[←(rel.val k).isSome_eq,←l];exact h _ (I.tok _)
 ·subst ey;cases (show u=Value.ref b from ry);obtain⟨z,hd,xs,rel,dd⟩:=JW I.aI e;refine wpAny_in_heap (tupleKind_room_in1 hu) (Hj I.aI eb) hd dd ?_;have q:=(rel.val k).isSome_eq;rw[Option.isSome_map]at q;rw[←q,←l];exact h _ (I.tok _)
theorem Rm {Q:VS} (hu:A.units + 1 < cLine) (I:Inv X aa σ H s) (g:J4 H a y o) (ry:RelV y u) (h:∀s',Inv X aa σ H s'->Q (.bool (!o.isSome)) s') :
  wpAny (model X.prog X.w) A (compareOp .NotIn u (.ref a)) Q E s:=by
 rcases g with⟨kvs,k,e,ey,l⟩ |⟨kvs,k,b,e,ey,eb,l⟩
 ·subst ey;obtain⟨z,hd,vs,rel,dd⟩:=DN I.aI e;refine wpAny_notIn_of (FV ry) hd dd.mapOf ?_;rw[←(rel.val k).isSome_eq,←l];exact h _ (I.tok _)
 ·subst ey;cases (show u=Value.ref b from ry);obtain⟨z,hd,xs,rel,dd⟩:=JW I.aI e;refine wpAny_notIn_heap (tupleKind_room_in1 hu) (Hj I.aI eb) hd dd ?_;have q:=(rel.val k).isSome_eq;rw[Option.isSome_map]at q;rw[←q,←l];exact h _ (I.tok _)
theorem FW {h':Heap}{t':Nat}{ob:HO} (I:Inv X aa σ H s) (mu:Mut (H a)) (hs:Heap.SameBut a s.heap h') (he:∃q,h'.get? a=some q) (new:aT X.prog X.w (upd H a ob) h' a ob) :
  Inv X aa σ (upd H a ob) { s with heap:=h',toks:=t' } :=
 I.write (x:=a) (e:=a) mu (.inl rfl) (fun b q hb z=>(hs.2 b hb).trans z) he new
theorem Hk {h':Heap}{kvs:LK}{vs:List (Key×Value)} (z:kvs.length <= sizeLine) (hd:(a == sysModules)=false) (rel:KV kvs vs) (dd:h'.DictOf (Ar P w) a vs) :
  aT P w H' h' a (.dK kvs):=⟨z,hd,vs,rel,dd⟩
theorem OG {Q:Unit->Shared->Prop} (hu:A.units + 1 < cLine) (I:Inv X aa σ H s) (g:DPut H a y v H') (ry:RelV y u) (rv:RelV v r) (h:∀s',Inv X aa σ H' s'->Q () s') :
  wpAny (model X.prog X.w) A (setItem (.ref a) u r) Q E s:=by
 rcases g with⟨kvs,k,e,ey,l,eH⟩ |⟨kvs,k,b,e,ey,eb,l,eH⟩
 ·subst ey eH;obtain⟨z,hd,vs,rel,dd⟩:=NY I.aI e;have hz:vs.length <= sizeLine:=by rw[←rel.length];exact z
  have hl:(BV kvs k v).length <= sizeLine:=by have:=Bm kvs k v;omega
  refine wpAny_setItem_pairs (hsz:=hz) (FV ry) dd fun h' hW hs=>h _ ?_;have he:∃q,h'.get? a=some q:=let ⟨q,_,_,hq,_⟩:=hW;⟨q,hq⟩
  exact FW I (by rw[e];exact True.intro) hs he (Hk hl hd (rel.put k rv) hW)
 ·subst ey eH;cases (show u=Value.ref b from ry);obtain⟨z,hd,xs,rel,dd⟩:=VG I.aI e;have hz:xs.length <= sizeLine:=by rw[←Paired.length rel];exact z
  have hl:(BV kvs k v).length <= sizeLine:=by have:=Bm kvs k v;omega
  refine wpAny_setItem_heap (hsz:=hz) (tupleKind_room_in1 hu) (Hj I.aI eb) dd fun h' hW hs=>h _ ?_;obtain⟨q,es,ep,hq,h2,h3,h4,_,h5⟩:=hW;refine FW I (by rw[e];exact True.intro) hs ⟨q,hq⟩ ⟨hl,hd,_,(rel.put k eb rv).keeps fun c ys ec=>?_,q,es,ep,hq,h2,h3,h4,h5⟩;rw[AF (Uw ec e (fun z=>nomatch z))];exact ec
end
section
variable {s:Shared}{kvs:LK}{k:Key}
theorem VH {Q:VS} (I:Inv X aa σ H s) (e:Rd H a (.dK kvs)) (h:∀t s',Inv X aa σ H s'->Q (.int kvs.length t) s'):wpAny (model X.prog X.w) A (call (.builtin "len") [.ref a]) Q E s:=by
 obtain⟨z,hd,vs,rel,dd⟩:=DN I.aI e;refine call_len_dict hd dd (by rw[←rel.length];rw[sizeLine_eq]at z;omega) ?_;rw[←rel.length];exact h _ _ (I.tok _)
end
def VJ (i:Expr):Prop:=∀ov iv,subscripted i false ov iv=operate [ov,iv] (getItem ov iv)
theorem Rn {prog:Program}{s:Shared}{env:Env}{value slice:Expr}{T id:String}{Q:VS}
  (hl:typeLookup (.type T) "__getitem__" = pure (some (.builtin id))) (hs:VJ slice)
  (h:wpAny (model prog w) A (eval value env) (fun o aL=>wpAny (model prog w) A (eval slice env) (fun i s₂=>s₂.TypeIs o T/\wpAny (model prog w) A (getItem o i) Q E s₂) E aL) E s) :
  wpAny (model prog w) A (eval (.Subscript value slice pos) env) Q E s:=by
 refine Subscript_ (Zv h (fun o aL eX=>Zv eX (fun i s₂ h₂=>?_) fun _ _ x=>x) fun _ _ x=>x);obtain⟨hT,h₂⟩:=h₂;unfold subscriptTail;refine Zx ?_;rw[getitemInPython_of_ne hT.not_modules];refine Zx (wpAny_specialOf hT hl ?_)
 have fin:wpAny (model prog w) A (subscripted slice false o i) (fun r s₃=>wpAny (model prog w) A (letTemporaryGo value o r >>= fun _=>pure r) Q E s₃) E s₂:=by
  rw[hs o i];exact wpAny_operating (Zv h₂ (fun r s₃ h₃=>Zx (wpAny_letTemporaryGo (Zw h₃))) fun _ _ x=>x)
 first
  |exact Zw (Zx fin)
  |exact Zx (Zw (Zx fin))
  |exact Zx fin
theorem Kv {s:Shared}{y:V}{o:Option V} (I:Inv X aa σ H s) (g:J4 H a y o):s.TypeIs (.ref a) "dict" := by
 rcases g with⟨kvs,k,e,_,_⟩ |⟨kvs,k,b,e,_,_,_⟩
 ·obtain⟨_,_,vs,_,dd⟩:=DN I.aI e;exact dd.typeIs
 ·obtain⟨_,_,xs,_,dd⟩:=JW I.aI e;exact dd.typeIs
inductive ExD (x:V) (H:Hp) (y:V) (k:V->Prop):Prop where
 |mk (a:Addr) (v:V) (h1:x=.ref a) (h2:J4 H a y (some v)) (q:k v):ExD x H y k
def VL (td ty:TE):TE:=fun σ H Q=>td σ H fun x H1=>ty σ H1 fun y H2=>ExD x H2 y fun v=>Q v H2
def WC (ty td:TE):TE:=fun σ H Q=>ty σ H fun y H1=>td σ H1 fun x H2=>∃a o,x=.ref a/\J4 H2 a y o/\Q (.bl o.isSome) H2
def Ro (ty td:TE):TE:=fun σ H Q=>ty σ H fun y H1=>td σ H1 fun x H2=>∃a o,x=.ref a/\J4 H2 a y o/\Q (.bl (!o.isSome)) H2
def VM (td ty tv:TE):TS:=fun D σ H=>tv σ H fun v H1=>td σ H1 fun x H2=>ty σ H2 fun y H3=>∃a H4,x=.ref a/\DPut H3 a y v H4/\D.nx σ H4
section
variable {o i value:Expr}{pos' tpos:Pos}{td ty tv:TE}
theorem A2 (hu:X.A.units + 1 < cLine) (ho:PE X o td) (hi:PE X i ty) (hs:VJ i):PE X (.Subscript o i pos) (VL td ty):=by
 intro aa s σ H Q I h;refine Rn PySem.F.slot_dict_getitem.lookup hs (aJ (ho aa s σ H _ I h) fun u s1 ⟨x,H1,I1,rx,q1⟩=>aJ (hi aa s1 σ H1 _ I1 q1) fun iv s2 ⟨y,H2,I2,ry,a,v,ex,g,q2⟩=>?_);subst ex;obtain rfl:u=Value.ref a:=rx;exact⟨Kv I2 g,OF hu I2 g ry fun w' s3 I3 iF=>⟨v,H2,I3,iF,q2⟩⟩
theorem MQ (hu:X.A.units + 1 < cLine) (hi:PE X i ty) (ho:PE X o td):PC X .In i o (WC ty td):=by
 intro aa s σ H Q I h;refine aJ (hi aa s σ H _ I h) fun iv s1 ⟨y,H1,I1,ry,q1⟩=>aJ (ho aa s1 σ H1 _ I1 q1) fun u s2 ⟨x,H2,I2,rx,a,ov,ex,g,q2⟩=>?_;subst ex;obtain rfl:u=Value.ref a:=rx;exact WB hu I2 g ry fun s3 I3=>⟨.bl ov.isSome,H2,I3,rfl,q2⟩
theorem GQ (hu:X.A.units + 1 < cLine) (hi:PE X i ty) (ho:PE X o td):PC X .NotIn i o (Ro ty td):=by
 intro aa s σ H Q I h;refine aJ (hi aa s σ H _ I h) fun iv s1 ⟨y,H1,I1,ry,q1⟩=>aJ (ho aa s1 σ H1 _ I1 q1) fun u s2 ⟨x,H2,I2,rx,a,ov,ex,g,q2⟩=>?_;subst ex;obtain rfl:u=Value.ref a:=rx;exact Rm hu I2 g ry fun s3 I3=>⟨.bl (!ov.isSome),H2,I3,rfl,q2⟩
theorem G9 (hu:X.A.units + 1 < cLine) (ho:PE X o td) (hi:PE X i ty) (hv:PE X value tv) (hs:swapsWith value (some (.Subscript o i pos')) pos.line X.env=pure false) :
  PS X (.Assign [.Subscript o i pos'] value pos) (VM td ty tv):=by
 intro aa s σ H D I h;refine wpAny_Assign_Subscript (aJ (hv aa s σ H _ I h) fun r s1 ⟨v,H1,I1,rv,q1⟩=>aJ (ho aa s1 σ H1 _ I1 q1) fun u s2 ⟨x,H2,I2,rx,q2⟩=>aJ (hi aa s2 σ H2 _ I2 q2) fun iv s3 ⟨y,H3,I3,ry,a,H4,ex,g,q3⟩=>?_) hs;subst ex;obtain rfl:u=Value.ref a:=rx;exact OG hu I3 g ry rv fun s4 I4=>⟨σ,H4,I4,q3⟩
end
theorem Hl (h:Heap) (hb:sysModules < h.objs.size):aT P w H (h.push { cls:=.type "dict", data:=.dict #[] }) h.objs.size (.dK []) :=
 ⟨Nat.zero_le _,beq_eq_false_iff_ne.mpr (Ne.symm (ZC hb)),[],.nil,Heap.DictOf.new h⟩
def Tv:TE:=fun _ H Q=>∀p,H p=none->Q (.ref p) (upd H p (.dK []))
section
theorem Dv:PE X (.Dict [] [] pos) Tv:=fun aa s σ H Q I h =>
 wpAny_Dict_empty ⟨.ref s.heap.objs.size,_,I.laid (a:=s.heap.objs.size) (o:=.dK []) (t':=s.toks) (fun _ _ q=>ZX _ q) (Zy _) (Hl s.heap I.big),rfl,h _ (I.aI.fresh (Zy _))⟩
end
def MR:List (TE×TE)->St->Hp->(List (V×V)->Hp->Prop)->Prop
  | [],_,H,Q=>Q [] H
  | (tk,tv) :: r,σ,H,Q=>tk σ H fun x H1=>tv σ H1 fun y H2=>MR r σ H2 fun ps H3=>Q ((x,y) :: ps) H3
abbrev VV:List (V×V)->List (Value×Value)->Prop:=Paired fun p q=>RelV p.1 q.1/\RelV p.2 q.2
def PPs (X:Cx) (pos:Pos) (keys:List (Option Expr)) (values:List Expr) (jz:List (TE×TE)):Prop :=
 ∀(aa:LO) (s:Shared) (σ:St) (H:Hp) (Q:List (V×V)->Hp->Prop),Inv X aa σ H s->MR jz σ H Q ->
  wpAny (model X.prog X.w) X.A (evalPairs (pairTrees keys values X.env pos)) (fun vs s'=>∃ps H',Inv X aa σ H' s'/\VV ps vs/\Q ps H') X.xe s
theorem Rp:PPs X pos [] [] []:=fun aa s σ H Q I h=>pairTrees_nil_walk ⟨[],H,I,.nil,h⟩
theorem FX {k v:Expr}{ks:List (Option Expr)}{vs:List Expr}{tk tv:TE}{jz:List (TE×TE)} (hk:PE X k tk) (hv:PE X v tv) (hr:PPs X pos ks vs jz) :
  PPs X pos (some k :: ks) (v :: vs) ((tk,tv) :: jz):=fun aa s σ H Q I h =>
 pairTrees_cons_walk (aJ (hk aa s σ H _ I h) fun u s1 ⟨x,H1,I1,rx,q1⟩=>aJ (hv aa s1 σ H1 _ I1 q1) fun w2 s2 ⟨y,H2,I2,ry,q2⟩ =>
  aJ (hr aa s2 σ H2 _ I2 q2) fun ws s3 ⟨ps,H3,I3,rel,q3⟩=>⟨(x,y) :: ps,H3,I3,.cons ⟨rx,ry⟩ rel,q3⟩)
noncomputable def GS (kvs more:LK):LK:=more.foldl (fun acc kv=>BV acc kv.1 kv.2) kvs
theorem KV.merge:∀ {more:LK}{rs:List (Key×Value)}{kvs:LK}{vs:List (Key×Value)},KV more rs->KV kvs vs->KV (GS kvs more) (merged vs rs):=by
 intro more rs kvs vs r;unfold KV at r;induction r generalizing kvs vs with
 |nil=>intro q;exact q
 | @cons p q ps qs h t ih =>
  intro r0
  have e:KV (BV kvs p.1 p.2) (stored vs q.1 q.2):=by
   have:=r0.put p.1 h.2;rw[←h.1];exact this
  exact ih e
theorem Eo:∀(more kvs:LK),(GS kvs more).length <= kvs.length + more.length
 | [],kvs=>by show kvs.length <= kvs.length + 0;omega
 |p :: r,kvs=>by
  have h1:=Eo r (BV kvs p.1 p.2);have h2:=Bm kvs p.1 p.2;show(GS (BV kvs p.1 p.2) r).length <= _;rw[length_cons];omega
theorem Hm {P:Program}{w:World}:∀ {kvs:LK}{ws:List (Value×Value)},VV (kvs.map fun kv=>(kV kv.1,kv.2)) ws->∃rs,Carries (Ar P w) ws rs/\KV kvs rs
 | [],_,r=>by rw[map_nil]at r;cases r;exact⟨[],True.intro,.nil⟩
 |p :: kvs,_,r=>by
  rw[map_cons]at r;cases r with
  | @cons a b as bs h t =>
   obtain⟨rs,c,q⟩:=Hm (P:=P) (w:=w) t;obtain⟨b1,b2⟩:=b;exact⟨(p.1,b2) :: rs,⟨FV h.1,rfl,c⟩,.cons ⟨rfl,h.2⟩ q⟩
def VN (jz:List (TE×TE)):TE:=fun σ H Q=>∀p,H p=none->MR jz σ (upd H p (.dK [])) fun ps H2=>H2 p=some (.dK [])/\∃kvs:LK,ps=kvs.map (fun kv=>(kV kv.1,kv.2))/\kvs.length <= 15/\Q (.ref p) (upd H2 p (.dK (GS [] kvs)))
theorem Rq {keys:List (Option Expr)}{values:List Expr}{jz:List (TE×TE)} (h:PPs X pos keys values jz) (br:keys.all (·.isSome)=true) (hl:keys.length=values.length) (h0:keys≠ [])
  (h15:keys.length <= 15):PE X (.Dict keys values pos) (VN jz):=by
 intro aa s σ H Q I q;have hn:=I.aI.fresh (Zy s.heap.objs.size);have I1:=I.laid (a:=s.heap.objs.size) (o:=.dK []) (h':=s.heap.push { cls:=.type "dict", data:=.dict #[] }) (t':=s.toks) (fun _ _ q=>ZX _ q) (Zy _) (Hl s.heap I.big);refine wpAny_Dict_walk (knd:=Ar X.prog X.w) br hl h0 h15 (aJ (h aa _ σ _ _ I1 (q _ hn)) fun ws s2 ⟨ps,H2,I2,rel,e,kvs,ep,lk,q2⟩=>?_);subst ep;obtain⟨rs,c,rk⟩:=Hm (P:=X.prog) (w:=X.w) rel;obtain⟨z,hd,vs0,r0,dd⟩:=NY I2.aI e;cases r0;refine⟨rs,c,dd,fun h' hW hs=>⟨.ref s.heap.objs.size,_,?_,rfl,q2⟩⟩
 have hz:(GS [] kvs).length <= sizeLine:=by
  have h1:=Eo kvs [];rw[length_nil]at h1;rw[sizeLine_eq];omega
 have he:∃q,h'.get? s.heap.objs.size=some q:=let ⟨q,_,_,hq,_⟩:=hW;⟨q,hq⟩
 exact FW I2 (by rw[e];exact True.intro) hs he (Hk hz hd (rk.merge .nil) hW)
def IsD (H:Hp) (a:Addr):Prop:=(∃kvs,Rd H a (.dK kvs))\/∃kvs,Rd H a (.dT kvs)
theorem Ph {s:Shared} (I:Inv X aa σ H s) (d:IsD H a) :
  s.TypeIs (.ref a) "dict" /\ (∀b,Value.ref a=.ref b->∃ob,s.heap.get? b=some ob/\ob.dict=none)/\(a == sysModules)=false:=by
 rcases d with⟨kvs,e⟩ |⟨kvs,e⟩
 ·obtain⟨_,hd,vs,_,dd⟩:=DN I.aI e;refine⟨dd.typeIs,fun b q=>?_,hd⟩;cases q;obtain⟨ob,_,_,h1,h2,_⟩:=dd;exact⟨ob,h1,h2.2.1⟩
 ·obtain⟨_,hd,xs,_,dd⟩:=JW I.aI e;refine⟨dd.typeIs,fun b q=>?_,hd⟩;cases q;obtain⟨ob,_,_,h1,h2,_⟩:=dd;exact⟨ob,h1,h2.2.1⟩
end L2
namespace Att
open PySem PySem.W PySem.Calls PyProof.Rows
theorem G4 {P:Params}:∀(ns:List Int) (vs:List Value),WellAll P h vs (ns.map WData.int)->IntsAre vs ns:=by
 intro ns;induction ns with
 |nil =>
  intro vs w;rw[map_nil]at w;cases w;exact .nil
 |cons n ns ih =>
  intro vs w;rw[map_cons]at w;cases w with
  |cons a b =>
   cases a;exact .cons _ _ (ih _ b)
theorem OH {l:OpenLaw}{n:Nat} (hn:l.most=some n) {P:Params}{args:List WData}{vals:List Value}
    (cq:l.row.toRowW.claim.pre args=true) (hwl:WellAll P h vals args) :
    ∃a vs ns,vals=[Value.ref a]/\args=[WData.list (ns.map WData.int)]/\h.get? a=some { cls:=.type "list", data:=.seq vs.toArray }/\IntsAre vs ns/\ns.length <= n:=by
  have ai:WShape.hasAll [] args [.list .int]=true:=(pre_splitW cq).1;have hc:l.pre.holds [] { args:=args }=true:=(pre_splitW cq).2;obtain⟨d,r,rfl,h1,h2⟩:=hasAllW_cons ai;obtain rfl:=hasAllW_nil h2;obtain⟨xs,rfl,h3⟩:=hasW_list h1;obtain⟨ns,rfl⟩:=items_int h3
  have bf:ns.length <= n:=by
    unfold OpenLaw.pre at hc
    have h4:(WTm.not (.lt (.lit (.int (n:Int))) (.len (.arg 0)))).holds [] { args:=[.list (ns.map .int)] }=true:=by
      have h4:=(holds_andW hc).1;rw[hn]at h4;exact h4
    have h5:=condW_of h4 (w_not (w_lt w_lit (w_len_list (w_arg rfl))));rw[AH]at h5;refine Nat.le_of_not_lt fun q=>?_;have q':(n:Int) < ((ns.length:Nat):Int):=by omega
    first
      | (rw[ZL q']at h5;exact absurd h5 qc)
      | (simp at h5;omega)
  cases hwl with
  |cons w1 w2 =>
    cases w2;cases w1 with
    |list ho br=>exact⟨_,_,ns,rfl,rfl,ho,G4 ns _ br,bf⟩
theorem OI (l:OpenLaw) (args:List WData):l.row.toRowW.claim.post args (.bool true) args=true :=
 postW_of (r:=l.row.toRowW) (X:=(true == true))
  (show WShape.has [] (.bool true) .bool=true by first |rfl |decide |simp[WShape.has,WShape.arms,WShape.armsAll])
  (show(WTm.eq .res (.lit (.bool true))).value [] { args:=args,res:=some (.bool true),after:=args }=some (.bool (true == true))from w_eq_bool (w_res rfl) w_lit) rfl
theorem attach_call {l:OpenLaw}{n:Nat}{q:Program}{loose:List Str}{XP:(Str->Option Value)->Heap->Prop}{YP:World->Heap->Prop}{d:DefRec}
  (hn:l.most=some n) (iK:d.params.defaults=[])
  (call:∀(w:World) (bA aL:Shared) (mg mb:SV) (fa:Addr) (o:Obj) (pm cd doc:Value) (a:Addr) (vs:List Value) (ns:List Int),
   Ground q loose [] XP w bA mg mb aL.heap->YP w aL.heap ->
   aL.heap.get? fa=some o->o.data=.func (docDef d.name d.params d.body d.scope pm cd doc)->aL.heap.CodeRec cd d.name->mg d.name=some (.ref fa) ->
   aL.heap.get? a=some { cls:=.type "list", data:=.seq vs.toArray }->IntsAre vs ns->ns.length <= n->aL.gens=#[] ->
   codeAny (model l.prog w) callerA (.call (.ref fa) ⟨[.ref a],[]⟩) (fun r s'=>r=.ok (.ret (.bool true))/\OldK aL.heap s'.heap/\s'.os=aL.os/\AllBare s'.gens) aL) :
  WalkO q loose XP YP l.row.toRowW d [] (fun f vs=>PySem.call f vs):=by
 intro w bA aL mg mb G Y fa o pm cd doc dV kV ho hd fm hD hmg hg args vals as cq hlay hrd hwl hlo;obtain rfl:dV=.none:=Dflts.none hD iK;obtain rfl:kV=.none:=Dflts.noKw hD;obtain⟨a,vs,ns,rfl,rfl,cz,bt,bf⟩:=OH hn cq hwl;refine enter_call (codeAny_mono (call w bA aL mg mb fa o pm cd doc a vs ns G Y ho (fd_plain hd) fm hmg cz bt bf hg) fun r s' hq=>?_);obtain⟨rfl,h2,h3,h4⟩:=hq;exact⟨.inl ⟨.bool true,.bool true,[],rfl,fun _=>rfl,.bool true,OI l _,fun _=>⟨List.Pairwise.nil,fun _ hm=>(nomatch hm)⟩⟩,h2,h3,h4⟩
end Att
namespace L2
open PySem PySem.Spec PyProof.Rows
theorem Ea:∀ {vs:List Value}{ns:List Int},IntsAre vs ns->Vals (ns.map V.int) vs
 |_,_,.nil=>.nil
 |_,_,.cons n t h=>.cons ⟨t,rfl⟩ (Ea h)
end L2
namespace L2
open PySem PySem.Spec PyProof.Rows
noncomputable def inClass (s:Stmt) (j:Nat):Stmt:=match s with
 | .ClassDef _ _ _ body _ _ _ _ _ _ _=>body.getD j (.Pass ⟨0,0,0,0⟩)
 |_=>.Pass ⟨0,0,0,0⟩
noncomputable def defArgs (s:Stmt):Arguments:=match s with
 | .FunctionDef _ a _ _ _ _ _ _ _ _=>a
 |_=>{ posonlyargs:=[],args:=[],vararg:=none,kwonlyargs:=[],kw_defaults:=[],kwarg:=none,defaults:=[] }
noncomputable def defBody (s:Stmt):List Stmt:=match s with
 | .FunctionDef _ _ b _ _ _ _ _ _ _=>b
 |_=>[]
noncomputable def defScope (s:Stmt):Scope:=match s with
 | .FunctionDef _ _ _ _ _ _ sc _ _ _=>sc
 |_=>{ kind:=.function,names:=[],isGenerator:=false,isCoroutine:=false }
abbrev aO:hX:=fun _ _ _ _ _ _=>False
abbrev E0:XK:=fun _ _ _=>False
theorem AN:Bx aO X E0:=fun _ _ _ _ _ _ _ h=>h.elim
structure aW (K:FG) (x qual:Str) (st:Stmt) (f:Addr) (fd:FuncData):Prop where
 ex:∃(oc:Value) (od:Option Addr) (kV doc pm:Value) (an:Option Addr) (ac ct:Value) (fZ:Array (Option Value)),
  fd=W.fnOf x qual (defArgs st) (defBody st) (defScope st) .none kV doc pm an ac ct/\K.lookup f=some ⟨oc,od,.func fd,fZ⟩/\W.codeIn K ac qual=true
 kp:W.keepIn K (.ref f)=true
section
theorem aW.ok {qual:Str}{st:Stmt}{fd:FuncData}{ps:List Str}{k:Nat}{sp:Sp} (F:aW K x qual st f fd) (S:AL N ps (defScope st)) (len:∀vs H Q E,sp vs H Q E->vs.length=ps.length)
  (bi:∀(ac:Value) (A:Around) (outer:List Env) (s:Shared) (H:Hp) (vs:List V) (Q:VK) (E:XK),aG k (A.deeper (envOfC qual (defScope st) s.heap.objs.size f ac))->sp vs H Q E ->
   ∃t,fc (Bj aO P w K mg base N qual (defScope st) f ac A outer s H E).gO (defBody st) t/\t { nx:=fun _ H'=>Q .aU H',rt:=Q } (Bt N vs) H):AY P w K mg base aO (k + 1) f fd ps sp:=by
 obtain⟨oc,od,kV,doc,pm,an,ac,ct,fZ,rfl,lk,fm⟩:=F.ex;refine Kr lk fm S len fun A outer s H vs Q E hr gG=>?_;obtain⟨t,h,q⟩:=bi ac A outer s H vs Q E hr gG;exact⟨t,h.gO,q⟩
structure BdC (P:Program) (w:World) (K:FG) (mg:SV) (base:Heap) (f:Addr) (qual:Str) (st:Stmt) (N ps:List Str) (k:Nat) (vs:List V) (H:Hp) (Q:VK) (E:XK):Prop where
 len:vs.length=ps.length
 ok:∀(ac:Value) (A:Around) (outer:List Env) (s:Shared),aG k (A.deeper (envOfC qual (defScope st) s.heap.objs.size f ac)) ->
  ∃t,fc (Bj aO P w K mg base N qual (defScope st) f ac A outer s H E |>.gO) (defBody st) t/\t { nx:=fun _ H'=>Q .aU H',rt:=Q } (Bt N vs) H
theorem aW.m {qual:Str}{st:Stmt}{fd:FuncData}{ps:List Str}{k:Nat}{sp:Sp} (F:aW K x qual st f fd) (S:AL N ps (defScope st)) (h:∀vs H Q E,sp vs H Q E->BdC P w K mg base f qual st N ps k vs H Q E) :
  AY P w K mg base aO (k + 1) f fd ps sp:=F.ok S (fun vs H Q E q=>(h vs H Q E q).len) fun c A o s H vs Q E r q=>(h vs H Q E q).ok c A o s r
theorem aW.binds {qual:Str}{st:Stmt}{fd:FuncData}{ps:List Str} (F:aW K x qual st f fd)
  (h:∀(kV doc pm:Value) (an:Option Addr) (ac ct:Value) (us:List Value),us.length=ps.length->bindArgs (W.fnOf x qual (defArgs st) (defBody st) (defScope st) .none kV doc pm an ac ct) ⟨us,[]⟩=pure (ps.zip us)):Binds K fd ps []:=by
 obtain⟨oc,od,kV,doc,pm,an,ac,ct,fZ,rfl,lk,fm⟩:=F.ex;exact .all (h kV doc pm an ac ct)
theorem fun_mk {qual:Str}{st:Stmt}{oc:Value}{od an:Option Addr}{fZ:Array (Option Value)}{kV doc pm ac ct:Value} (l:K.lookup f=some ⟨oc,od,.func (W.fnOf x qual (defArgs st) (defBody st) (defScope st) .none kV doc pm an ac ct),fZ⟩)
  (c:W.codeIn K ac qual=true) (k:W.keepIn K (.ref f)=true):aW K x qual st f (W.fnOf x qual (defArgs st) (defBody st) (defScope st) .none kV doc pm an ac ct):=⟨⟨oc,od,kV,doc,pm,an,ac,ct,fZ,rfl,l,c⟩,k⟩
end
theorem B6 {k:Nat} (hr:aG k A):A.units + 1 < cLine:=Nat.lt_of_le_of_lt (Nat.add_le_add_left (by decide:1 <= 64) _) hr.units
theorem AZ {n:Nat} (h:n <= 1000):n < sizeLine:=Nat.lt_of_le_of_lt h qc
section
theorem pv (i:Nat) (hN:X.N[i]?=some x:=by rfl) (hv:Vis X.env.scope x:=by first |exact Or.inl rfl |exact Or.inr (Or.inl rfl) |exact Or.inr (Or.inr rfl)) (hd:(x == ("__debug__" : Str))=false:=by decide)
  (fm:(x == ("__classdict__" : Str))=false:=by decide):PE X (.Name x pos) (F6 i):=PD hN hv hd fm
theorem OJ:Bb X (.builtin "len") (fun xs H Q=>∃a kvs,xs=[V.ref a]/\H a=some (.dK kvs)/\Q (.int kvs.length) H):=by
 intro aa s σ H xs us Q I r h;obtain⟨a,kvs,rfl,ha,q⟩:=h;obtain⟨u,rfl,ru⟩:=B4 r;cases ru;exact VH I (.inl ha) fun t s' I'=>⟨.int kvs.length,H,I',⟨t,rfl⟩,q⟩
end
theorem Aq {A B:Prop} (h:B):if false=true then A else B:=by
 rw[Zq Bool.false_ne_true];exact h
theorem BX {A B:Prop} (h:A):if true=true then A else B:=by
 rw[Zp rfl];exact h
theorem By {c A B:Prop} [Decidable c] (h1:c->A) (h2:¬ c->B):if c then A else B:=by
 by_cases h:c
 ·rw[Zp h];exact h1 h
 ·rw[Zq h];exact h2 h
theorem Kw {c A B:Prop} [Decidable c] (hc:c) (h:B):if (!decide c)=true then A else B:=by
 rw[ZL hc];exact Aq h
def aB (H H':Hp):Prop:=∀b o,H b=some o->H' b=some o
theorem aB.refl (H:Hp):aB H H:=fun _ _ h=>h
theorem aB.trans {H1 H2:Hp} (a:aB H H1) (b:aB H1 H2):aB H H2:=fun c o h=>b c o (a c o h)
theorem aB.seq (e:aB H H') (h:aH K H a xs):aH K H' a xs:=by
 rcases h with (h |⟨o,h⟩) |h
 ·exact .inl (.inl (e _ _ h))
 ·exact .inl (.inr ⟨o,e _ _ h⟩)
 ·exact .inr h
section
variable {κ:Type} [DecidableEq κ]
theorem Rr {kvs:List (κ×V)}{k:κ}{v:V} (h:As kvs k=some v):k∈kvs.map (·.1):=by
 have q:(kvs.any fun kv=>decide (kv.1=k))=true:=by
  rw[DK,h]
  all_goals rfl
 obtain⟨p,hp,e⟩:=any_eq_true.mp q;exact Zr.mpr ⟨p,hp,ZV e⟩
theorem NZ:∀ {l:List κ}{k:κ},l.Nodup->¬ k∈l->(l++[k]).Nodup
 | [],k,_,_=>by simp
 |a :: r,k,h,hk=>by
  obtain⟨h1,h2⟩:=Zs.mp h;show(a :: (r++[k])).Nodup;refine Zs.mpr ⟨fun m=>?_,NZ h2 fun m=>hk (mem_cons.mpr (Or.inr m))⟩;rcases mem_append.mp m with q |q
  ·exact h1 q
  ·exact hk (mem_cons.mpr (Or.inl (ZG.mp q).symm))
end
end L2
end
section
variable {X:L2.Cx}{H:L2.Hp}{H':L2.Hp}{pos:PySem.Pos}{σ:L2.St}{P:PySem.Program}{w:PySem.World}{A:PySem.Around}{aa:LO}{x:PySem.Str}{a:PySem.Addr}{K:FG}{C:PySem.Addr}{E:VS}{h:PySem.Heap}{us:List PySem.Value}{f:PySem.Addr}{u:PySem.Value}{xs:List L2.V}{e:PySem.Expr}{te:L2.TE}{base:PySem.Heap}{N:List PySem.Str}{mg:SV}
section
namespace L2
open PySem PySem.Spec PyProof.Rows
theorem Inv.track {s:Shared}{o:HO} (I:Inv X aa σ H s) (hn:H a=none) (hL:a≠X.env.locals) (h1:a∈X.ex\/X.bA.heap.objs.size <= a)
  (h2:∀x c,X.env.cells.lookup x=some c->c≠a) (h3:∀p∈X.pn++aa,p.1≠a) (new:aT X.prog X.w (upd H a o) s.heap a o):Inv X aa σ (upd H a o) s:=by
 have az:∀b u,H b=some u->b≠a:=fun b u e=>AG e hn
 refine I.step (h':=s.heap) (H':=upd H a o) (g':=s.gens) (t':=s.toks) (d':=s.drawn) (ch:=[a])
  (fun b hb=>by have e:b=a:=by simpa using hb
                subst e;exact⟨h1,hL,h2,h3⟩)
  (fun b o _ _ _ e _=>e) (fun b o _ _ _ e _=>⟨o.slots,e⟩) (fun b o hc e n=>by rw[AF (by simpa using hc)];exact n)
  (fun b o _ e=>⟨o,e⟩) (fun b xs e=>by rw[AF (az b _ e)];exact e) (fun b o u e=>by rw[AF (az b _ e)];exact e)
  (fun b ps e=>⟨#[],by rw[AF (az b _ e),e];simp⟩) (fun m h=>h) (fun b u e=>?_) I.bare
 by_cases hb:b=a
 ·subst hb;rw[aA]at e;cases e;exact new
 ·rw[AF hb]at e;exact(I.aI b u e).fY (fun c v _ q=>q) (fun c q=>by rw[AF (az c _ q)];exact q) fun c xs q=>by rw[AF (az c _ q)];exact q
structure aV (jU sc:Scope) (N N':List Str) (ix:List (Option Nat)):Prop where
 kind:sc.kind=.function
 nocell:∀y∈sc.names,y.2≠ .cell
 free:∀y∈sc.names,y.2=.free->jU.names.lookup y.1=some .cell\/jU.names.lookup y.1=some .free
 loc:∀y∈sc.names,y.2=.local->sc.names.lookup y.1=some .local
 len:ix.length=N'.length
 slot:∀(j:Nat) (x:Str) (i:Nat),N'[j]?=some x->ix[j]?=some (some i)->N[i]?=some x/\sc.names.lookup x=some .free
noncomputable def TH (sc:Scope) (N:List Str) (x:Str):Option Nat->Bool
 |none=>true
 |some i=>decide (N[i]?=some x) && decide (sc.names.lookup x=some .free)
noncomputable def DT (sc:Scope) (N:List Str):List Str->List (Option Nat)->Bool
 | [],[]=>true
 |x :: r,o :: os=>TH sc N x o && DT sc N r os
 |_,_=>false
noncomputable def Gy (jU sc:Scope) (N N':List Str) (ix:List (Option Nat)):Bool :=
 decide (sc.kind=.function) && (sc.names.all fun y=>decide (y.2≠ .cell) && (decide (y.2≠ .free) ||decide (jU.names.lookup y.1=some .cell) ||decide (jU.names.lookup y.1=some .free)) &&
  (decide (y.2≠ .local) ||decide (sc.names.lookup y.1=some .local))) && DT sc N N' ix
theorem Hq {sc:Scope}{N:List Str}:∀ {N':List Str}{ix:List (Option Nat)},DT sc N N' ix=true->ix.length=N'.length
 | [],[],_=>rfl
 | [],_ :: _,h=>by simp[DT]at h
 |_ :: _,[],h=>by simp[DT]at h
 |x :: r,o :: os,h=>by
  simp only[DT,Bool.and_eq_true]at h;simp only[length_cons,Hq h.2]
theorem JX {sc:Scope}{N:List Str}:∀ {N':List Str}{ix:List (Option Nat)},DT sc N N' ix=true->∀(j:Nat) (x:Str) (i:Nat),N'[j]?=some x->ix[j]?=some (some i)->N[i]?=some x/\sc.names.lookup x=some .free
 | [],_,_,_,_,_,e,_=>by simp at e
 |_ :: _,[],h,_,_,_,_,_=>by simp[DT]at h
 |y :: r,o :: os,h,j,x,i,e1,e2=>by
  simp only[DT,Bool.and_eq_true]at h;cases j with
  |zero =>
   simp only[List.getElem?_cons_zero,Option.some.injEq]at e1 e2;subst e1 e2;have h1:=h.1;simp only[TH,Bool.and_eq_true,decide_eq_true_eq]at h1;exact h1
  |succ j =>
   simp only[List.getElem?_cons_succ]at e1 e2;exact JX h.2 j x i e1 e2
theorem aV.of {jU sc:Scope}{N':List Str}{ix:List (Option Nat)} (h:Gy jU sc N N' ix=true):aV jU sc N N' ix:=by
 simp only[Gy,Bool.and_eq_true,decide_eq_true_eq,List.all_eq_true,Bool.or_eq_true]at h;obtain⟨⟨h1,h2⟩,h3⟩:=h;refine⟨h1,fun y hy=>(h2 y hy).1.1,fun y hy e=>?_,fun y hy e=>?_,Hq h3,JX h3⟩
 ·rcases (h2 y hy).1.2 with (z |z) |z
  ·exact absurd e z
  ·exact .inl z
  ·exact .inr z
 ·rcases (h2 y hy).2 with z |z
  ·exact absurd e z
  ·exact z
noncomputable abbrev Ex (env:Env):Str×NameKind->Str×NameKind:=fun (n,k)=>if (k == NameKind.free && env.scope.kind == .function && env.kindOf n == some .cell)then (n,NameKind.cell)else (n,k)
theorem Kx (env:Env) (y:Str×NameKind):(Ex env y).1=y.1:=by
 obtain⟨n,k⟩:=y;simp only[Ex];split <;> rfl
theorem OK (env:Env) (n:Str):(Ex env (n,.free)).2=.cell\/(Ex env (n,.free)).2=.free:=by
 simp only[Ex];split
 ·exact .inl rfl
 ·exact .inr rfl
theorem Rs (env:Env) (y:Str×NameKind) (h:y.2≠ .free):Ex env y=y:=by
 obtain⟨n,k⟩:=y;have e:(k == NameKind.free)=false:=by simpa using h
 simp only[Ex,e,Bool.false_and,Bool.false_eq_true,if_false]
theorem Ep {env:Env}:∀ {names:List (Str×NameKind)}{x:Str},names.lookup x=some .free->(names.map (Ex env)).lookup x=some .cell\/(names.map (Ex env)).lookup x=some .free
  | [],_,h=>by simp at h
  | (n,k) :: r,x,h=>by
    rw[map_cons]
    have e:Ex env (n,k)=(n,(Ex env (n,k)).2):=by
      have:=Kx env (n,k);exact Prod.ext this rfl
    rw[e];cases hx:x == n with
    |true =>
      simp only[Zz,hx]at h ⊢;cases h;rcases OK env n with z |z
      · rw[z];exact .inl rfl
      · rw[z];exact .inr rfl
    |false =>
      simp only[Zz,hx]at h ⊢;exact Ep h
theorem Gz {env:Env}:∀ {names:List (Str×NameKind)}{x:Str},(∀y∈names,y.2≠ .cell)->((names.map (Ex env)).lookup x=some .cell\/(names.map (Ex env)).lookup x=some .free)->(x,NameKind.free)∈names
  | [],_,_,h=>by simp at h
  | (n,k) :: r,x,hc,h=>by
    rw[map_cons]at h;have e:Ex env (n,k)=(n,(Ex env (n,k)).2):=Prod.ext (Kx env (n,k)) rfl;rw[e]at h;cases hx:x == n with
    |true =>
      simp only[Zz,hx]at h;have exn:x=n:=by simpa using hx
      subst exn;by_cases hk:k=.free
      · subst hk;exact ZI
      · rw[Rs env (x,k) hk]at h
        rcases h with z |z
        · have:k=.cell:=by simpa using z
          exact absurd this (hc (x,k) ZI)
        · have:k=.free:=by simpa using z
          exact absurd this hk
    |false =>
      simp only[Zz,hx]at h;exact ZR _ (Gz (fun y hy=>hc y (ZR _ hy)) h)
theorem J5 {env:Env}{f:Str×NameKind->List (Str×Addr)->Sem (ForInStep (List (Str×Addr)))}
  (h1:∀y acc,y.2≠ .free->f y acc=pure (.yield acc)) (h2:∀y acc c,y.2=.free->env.cells.lookup y.1=some c->f y acc=pure (.yield ((y.1,c) :: acc))) :
  ∀(names:List (Str×NameKind)) (acc:List (Str×Addr)),(∀y∈names,y.2=.free->∃c,env.cells.lookup y.1=some c)->(∀x c,acc.lookup x=some c->env.cells.lookup x=some c) ->
   ∃cl,forIn names acc f=(pure cl:Sem _)/\(∀x c,cl.lookup x=some c->env.cells.lookup x=some c)/\(∀y∈names,y.2=.free->∃c,cl.lookup y.1=some c)/\∀x c,acc.lookup x=some c->∃c',cl.lookup x=some c'
 | [],acc,_,ha=>⟨acc,rfl,ha,fun _ hy=>(nomatch hy),fun x c e=>⟨c,e⟩⟩
 |y :: r,acc,hn,ha=>by
  have hr:∀z∈r,z.2=.free->∃c,env.cells.lookup z.1=some c:=fun z hz=>hn z (ZR _ hz);by_cases hy:y.2=.free
  ·obtain⟨c,hc⟩:=hn y ZI hy
   obtain⟨cl,e,p1,p2,p3⟩:=J5 h1 h2 r ((y.1,c) :: acc) hr fun x d e=>by
    cases hx:x == y.1 with
    |true =>
     simp only[Zz,hx,Option.some.injEq]at e;have:x=y.1:=by simpa using hx
     rw[this,←e];exact hc
    |false =>
     simp only[Zz,hx]at e;exact ha x d e
   refine⟨cl,by rw[List.forIn_cons,h2 y acc c hy hc,pure_bind];exact e,p1,fun z hz hf=>?_,fun x d e=>?_⟩
   ·rcases mem_cons.mp hz with rfl |hz
    ·exact p3 z.1 c (by simp[Zz])
    ·exact p2 z hz hf
   ·cases hx:x == y.1 with
    |true=>exact p3 x c (by simp[Zz,hx])
    |false=>exact p3 x d (by simp only[Zz,hx];exact e)
  ·obtain⟨cl,e,p1,p2,p3⟩:=J5 h1 h2 r acc hr ha;refine⟨cl,by rw[List.forIn_cons,h1 y acc hy,pure_bind];exact e,p1,fun z hz hf=>?_,p3⟩;rcases mem_cons.mp hz with rfl |hz
   ·exact absurd hf hy
   ·exact p2 z hz hf
theorem Na {env:Env}{scope:Scope} (hn:∀y∈scope.names,y.2=.free->∃c,env.cells.lookup y.1=some c) :
  ∃cl,closureFor scope env=pure cl/\(∀x c,cl.lookup x=some c->env.cells.lookup x=some c)/\∀y∈scope.names,y.2=.free->∃c,cl.lookup y.1=some c:=by
 obtain⟨cl,e,p1,p2,_⟩:=J5 (env:=env) (f:=fun (x:Str×NameKind) (r:List (Str×Addr))=>if (x.2 == NameKind.free)=true then (cellOf env x.1 >>= fun a=>pure (ForInStep.yield ((x.1,a) :: r)))else pure (ForInStep.yield r)) (fun y acc hy=>by
  have:(y.2 == NameKind.free)=false:=by simpa using hy
  rw[this,Zq Bool.false_ne_true]) (fun y acc c hy hc=>by
  have h0:(y.2 == NameKind.free)=true:=by rw[hy];rfl
  rw[Zp h0];simp only[cellOf,hc]
  rfl) scope.names [] hn fun x c e=>by simp at e
 refine⟨cl,?_,p1,p2⟩;have e0:closureFor scope env=(forIn scope.names [] (fun (x:Str×NameKind) (r:List (Str×Addr))=>if (x.2 == NameKind.free)=true then (cellOf env x.1 >>= fun a=>pure (ForInStep.yield ((x.1,a) :: r)))else pure (ForInStep.yield r)) >>= fun cs=>pure cs):=rfl;rw[e0,e];rfl
noncomputable def Al (X:Cx) (N':List Str) (scope:Scope) (cl:List (Str×Addr)) (s:Shared) (H:Hp) (C:Addr) (fp:List Addr) (pn:LO):Cx where
 prog:=X.prog
 w:=X.w
 K:=X.K
 mg:=X.mg
 base:=X.base
 A:=X.A
 N:=N'
 bA:=s
 fw:=H
 env:=compEnvC scope cl C X.env
 outer:=X.stack
 stack:=X.stack
 ex:=fp
 fn:=fun _=>false
 calm:=X.calm
 pn:=pn
 xe:=fun _ _=>False
noncomputable def CT (ix:List (Option Nat)) (σ:St):St:=ix.map fun o=>o.bind fun i=>(σ[i]?).join
theorem Rt {ix:List (Option Nat)}{j:Nat}{v:V} (h:(CT ix σ)[j]?=some (some v)):∃i,ix[j]?=some (some i)/\σ[i]?=some (some v):=by
 unfold CT at h;rw[ZE]at h;cases e:ix[j]? with
 |none=>rw[e]at h;cases h
 |some o =>
  rw[e]at h;simp only[Option.map_some,Option.some.injEq]at h;cases o with
  |none=>cases h
  |some i =>
   refine⟨i,rfl,?_⟩;simp only[Option.bind_some]at h;cases q:σ[i]? with
   |none=>rw[q]at h;cases h
   |some u=>rw[q]at h;simp only[Option.join_some]at h;rw[h]
section
variable {s:Shared}{N':List Str}{ix:List (Option Nat)}{scope:Scope}{cl:List (Str×Addr)}{fp:List Addr}
theorem Ru (I:Inv X aa σ H s) (hf:aV X.env.scope scope X.N N' ix) (c1:∀x c,cl.lookup x=some c->X.env.cells.lookup x=some c) (c2:∀y∈scope.names,y.2=.free->∃c,cl.lookup y.1=some c)
  (hC:s.heap.objs.size <= C) (iJ:∀b∈fp,Ew X aa H b) (hlt:∀b∈fp,b < s.heap.objs.size):(Al X N' scope cl s H C fp (X.pn++aa)).Ok where
 mod:=I.mod
 kind:=hf.kind
 glob:=I.ok.glob
 blt:=I.ok.blt
 above:=hC
 inj:=fun x y c e1 e2=>I.ok.inj x y c (c1 x c e1) (c1 y c e2)
 has:=fun x h=>by
  have hm:(x,NameKind.free)∈scope.names:=Gz (env:=X.env) hf.nocell h;exact c2 (x,.free) hm rfl
 jf:=fun x c h=>by cases h
 hd:=I.ok.hd
 frames:=I.ok.frames
 gB:=.inl rfl
 exf:=fun b hb=>⟨ZC (Z2 (hlt b hb) hC),fun x c e=>(iJ b hb).2.2.2.2.1 x c (c1 x c e)⟩
 bs:=I.bs
 gP:=Nat.le_trans I.ok.gP I.sz
 gv:=fun b o e hb=>by
  rcases (iJ b hb).2.2.2.1 with z |z
  ·exact I.ok.gv b o e z
  ·exact absurd (Z2 (Z2 (lt_size e) I.ok.gP) z) (ZF _)
 gj:=fun b hb z=>by
  rcases mem_cons.mp (I.eI b z)with e |e
  ·exact(iJ b hb).2.1 e
  ·exact(iJ b hb).2.2.1 e
 cZ:=I.stack
 g9:=I.stkFree
theorem Hr (I:Inv X aa σ H s) (hf:aV X.env.scope scope X.N N' ix) (c1:∀x c,cl.lookup x=some c->X.env.cells.lookup x=some c) (c2:∀y∈scope.names,y.2=.free->∃c,cl.lookup y.1=some c)
  (hC:s.heap.objs.size <= C) (iJ:∀b∈fp,Ew X aa H b) (hlt:∀b∈fp,b < s.heap.objs.size) {eX:Heap}{tk:Nat}{m:SV} (old:∀b o,s.heap.get? b=some o->eX.get? b=some o) (ki:eX.Ns C m) :
  Inv (Al X N' scope cl s H C fp (X.pn++aa)) [] (CT ix σ) H { s with heap:=eX,toks:=tk } where
 ok:=Ru I hf c1 c2 hC iJ hlt
 os:=rfl
 bare:=I.bare
 base:=Un.kept old
 loc:=⟨m,ki,fun j x v e1 e2 e3=>by
  obtain⟨i,ei,ev⟩:=Rt e2;obtain⟨hN,ce⟩:=hf.slot j x i e1 ei;obtain⟨mX,_,hl⟩:=I.loc
  have hm:(x,NameKind.free)∈scope.names:=by
   have:∀ {l:List (Str×NameKind)}{k:NameKind},l.lookup x=some k->(x,k)∈l:=fun {l k}=>by
    induction l with
    |nil=>intro e;simp at e
    |cons y r ih =>
     intro e;obtain⟨n,kk⟩:=y;cases hx:x == n with
     |true =>
      simp only[Zz,hx,Option.some.injEq]at e;have:x=n:=by simpa using hx
      subst this e;exact ZI
     |false =>
      simp only[Zz,hx]at e;exact ZR _ (ih e)
   exact this ce
  have hk:=hf.free _ hm rfl;obtain⟨u,r,q⟩:=hl i x v hN ev (.inr hk);refine⟨u,r,.inr ⟨Ep (env:=X.env) ce,?_⟩⟩;obtain⟨c,hc⟩:=c2 _ hm rfl;refine⟨c,hc,?_⟩;rcases q with⟨k,_⟩ |⟨_,c',jI,z⟩
  ·have k':X.env.scope.names.lookup x=some .local:=k;rcases hk with a |a <;> (rw[k']at a;cases a)
  ·rw[c1 x c hc]at jI;cases jI
   exact z.keeps old⟩
 cell:=fun x c e=>by
  obtain⟨v,z⟩:=I.cell x c (c1 x c e);exact⟨v,z.keeps old⟩
 free:=I.aI.fresh hC
 cI:=fun x c e=>I.cI x c (c1 x c e)
 pin:=fun p hp=>by
  have hp':p∈X.pn++aa:=by
   have z:=hp;rw[Zt]at z;exact z
  obtain⟨e,n,ne,nf,d⟩:=I.pin p hp';refine⟨old _ _ e,n,ZC (Z2 (lt_size e) hC),fun z=>?_,d⟩;rcases mem_cons.mp (I.eI p.1 z)with q |q
  ·exact ne q
  ·exact nf q
 aI:=I.aI.kept old
 len:=by
  show(CT ix σ).length=N'.length;unfold CT;rw[AH];exact hf.len
theorem JY {pins':LO}{aK:St}{s':Shared} (I:Inv X aa σ H s) (iJ:∀b∈fp,Ew X aa H b) (J:Inv (Al X N' scope cl s H C fp (X.pn++aa)) pins' aK H' s'):Inv X aa σ H' s' :=
 I.call' (ch:=fp) J.os J.base J.aI J.bare fun b hb=>⟨(iJ b hb).2.2.2.1,(iJ b hb).2.1,(iJ b hb).2.2.2.2.1,(iJ b hb).2.2.2.2.2⟩
end
def iz (X:Cx) (ifs:List Expr) (t:TT):Prop :=
 ∀(aa:LO) (s:Shared) (σ:St) (H:Hp) (Q:Bool->Hp->Prop),Inv X aa σ H s->t σ H Q ->
  wpAny (model X.prog X.w) X.A (forIn ifs true fun c r=>if r=true then do let ok ←isTrue c X.env (eval c X.env);pure (ForInStep.yield ok)else pure (ForInStep.yield r)) (TP X aa σ Q) X.xe s
def WD:TT:=fun _ H Q=>Q true H
theorem BF:iz X [] WD:=fun aa s σ H Q I h=>wpAny_tests_nil ⟨H,I,h⟩
theorem C4 {c:Expr}{t:TT} (h:PT X c t):iz X [c] t:=fun aa s σ H Q I q=>wpAny_tests_one (h aa s σ H Q I q)
def DU (wi:TI) (g:TG) (tt:TT) (te:TE) (ix:List (Option Nat)) (R:List V->Hp->Prop):St->Hp->Prop:=fun σ H=>wi σ H fun J H1=>∃W:Nat->Nat->List V->Hp->Prop,(∃m,W 0 m [] H1)/\∀i m ys H,W i m ys H ->
 (J.stop i H/\ys.length <= sizeLine/\R ys H) \/
 (J.go i H/\∃N:List V->Hp->Prop,(∀cT H',N cT H'->cT.length <= sizeLine/\∃m',m' < m/\W (i + 1) m' cT H') /\
  ∀x H',J.ic i H x H'->g x (CT ix σ) H' fun cG H2=>tt cG H2 fun b H3=>if b=true then te cG H3 fun y H4=>N (ys++[y]) H4 else N ys H3)
def k8 (X:Cx) (tg:Expr) (ix:List (Option Nat)) (g:TG):Prop :=
 ∀(aa:LO) (s:Shared) (σ:St) (H:Hp) (v:V) (u:Value) (Q:St->Hp->Prop),Inv X aa (CT ix σ) H s->RelV v u->g v (CT ix σ) H Q ->
  wpAny (model X.prog X.w) X.A (assign tg X.env u) (fun _ s'=>∃aK H',Inv X aa aK H' s'/\(∀(j:Nat) (v:V),(CT ix σ)[j]?=some (some v)->aK[j]?=some (some v))/\Q aK H') X.xe s
theorem FY {gi:List (Option Nat)} (h:PG X (.Name x pos) (C2 0)):k8 X (.Name x pos) (none :: gi) (C2 0):=by
 intro aa s σ H v u Q I r q;refine aJ (h aa s _ H v u (fun aK H'=>(∀(j:Nat) (v:V),(CT (none :: gi) σ)[j]?=some (some v)->aK[j]?=some (some v))/\Q aK H') I r ⟨fun j w e=>?_,q⟩) fun _ s' ⟨aK,H',I',k,q⟩=>⟨aK,H',I',k,q⟩;cases j with
 |zero=>cases e
 |succ j=>exact e
theorem Ky {tg:Expr}{gi:List (Option Nat)} (h:PG X tg (Rb K 2 (HL (C2 0) (HL (C2 1) Ra)))):k8 X tg (none :: none :: gi) (Rb K 2 (HL (C2 0) (HL (C2 1) Ra))):=by
 intro aa s σ H v u Q I r q;obtain⟨a,xs,e1,e2,e3,v1,r1,e4,v2,r2,e5,e6,q⟩:=q;refine aJ (h aa s _ H v u (fun aK H'=>(∀(j:Nat) (v:V),(CT (none :: none :: gi) σ)[j]?=some (some v)->aK[j]?=some (some v))/\Q aK H') I r ⟨a,xs,e1,e2,e3,v1,r1,e4,v2,r2,e5,e6,fun j w e=>?_,q⟩) fun _ s' ⟨aK,H',I',k,q⟩=>⟨aK,H',I',k,q⟩
 match j with
 |0=>cases e
 |1=>cases e
 |j + 2=>exact e
structure TJ (RD:Cx->Prop) (P:Program) (w:World) (K:FG) (tg:Expr) (J:It) (fp:List Addr) (it:Addr) (tn:Nat->Heap->Prop):Prop where
 obj:∀i h,tn i h->∀b∈fp,∃o,h.get? b=some o/\∀v,o.data≠ .cell v
 keep:∀i h h',tn i h->(∀b∈fp,∀o,h.get? b=some o->h'.get? b=some o)->tn i h'
 item:∀(X:Cx),X.prog=P->X.w=w->X.K=K->RD X->∀(i:Nat) (aa:LO) (s:Shared) (σ:St) (H:Hp) (E:VS),Inv X aa σ H s->(∀b∈fp,Ew X aa H b)->tn i s.heap->J.go i H ->
  wpAny (model P w) X.A (pyNext (.ref it)) (fun r s1=>∃u,r=some u/\wpAny (model P w) X.A (letOwnedTupleGo tg (.ref it) u) (fun _ s2=>∃x H',Inv X aa σ H' s2/\RelV x u/\J.ic i H x H'/\tn (i + 1) s2.heap/\∀b∈fp,H' b=none) E s1) E s
 done:∀(X:Cx),X.prog=P->X.w=w->X.K=K->RD X->∀(i:Nat) (aa:LO) (s:Shared) (σ:St) (H:Hp) (E:VS),Inv X aa σ H s->(∀b∈fp,Ew X aa H b)->tn i s.heap->J.stop i H ->
  wpAny (model P w) X.A (pyNext (.ref it)) (fun r s1=>r=none/\Inv X aa σ H s1) E s
 self:∀(A:Around) (i:Nat) (s:Shared) (Q:VS) (E:VS),tn i s.heap->Q (.ref it) s->wpAny (model P w) A (pyIter (.ref it)) Q E s
def PIg (RD:Cx->Prop) (X:Cx) (tg iter:Expr) (wi:TI):Prop:=∀(aa:LO) (s:Shared) (σ:St) (H:Hp) (R:It->Hp->Prop),Inv X aa σ H s->wi σ H R ->
 wpAny (model X.prog X.w) X.A (eval iter X.env) (fun v s1=>wpAny (model X.prog X.w) X.A (pyIter v) (fun itv s2=>∃(it:Addr) (fp:List Addr) (tn:Nat->Heap->Prop) (J:It) (H':Hp),itv=.ref it/\Inv X aa σ H' s2/\TJ RD X.prog X.w X.K tg J fp it tn/\tn 0 s2.heap/\(∀b∈fp,Ew X aa H' b)/\R J H') X.xe s1) X.xe s
theorem PI.g {tg iter:Expr}{wi:TI} (h:PI X tg iter wi):PIg (fun X=>X.calm=true) X tg iter wi:=fun aa s σ H R I q =>
 aJ (h aa s σ H R I q) fun v s1 z=>aJ z fun itv s2 ⟨it,fp,tn,J,H',e,I',T,r⟩=>⟨it,fp,tn,J,H',e,I',⟨T.obj,T.keep,T.item,T.done,T.self⟩,r⟩
section
variable {tg iter elt:Expr}{ifs:List Expr}{scope:Scope}{pos':Pos}{N':List Str}{ix:List (Option Nat)}{wi:TI}{g:TG}{tt:TT}
theorem DP {α:Type}{M:Model}{t:Sem α}{Q:α->Shared->Prop}{s:Shared} (h:wpAny M A t Q (fun _ _=>False) s):wpAny M A t Q E s :=
 Zv h (fun _ _ q=>q) fun _ _ z=>z.elim
theorem JZ {RD:Cx->Prop}{use:Option (Value->Sem Unit)}{Qv:VS} (hf:aV X.env.scope scope X.N N' ix) (hc:∀cl s H C fp aa,RD (Al X N' scope cl s H C fp (X.pn++aa))) (hi:PIg RD X tg iter wi)
  (hg:∀cl s H C fp pn,k8 (Al X N' scope cl s H C fp pn) tg ix g) (ht:∀cl s H C fp pn,iz (Al X N' scope cl s H C fp pn) ifs tt) (he:∀cl s H C fp pn,PE (Al X N' scope cl s H C fp pn) elt te)
  (hs:∀x,foldedSetIterable iter X.env x=pure x) {aa:LO}{s:Shared}{σ:St}{H:Hp}{R:List V->Hp->Prop} (I:Inv X aa σ H s) (h:DU wi g tt te ix R σ H)
  (c8:∀s' ys H' D C m,Inv X aa σ (upd H' D (.lst ys)) s'->R ys H'->H' D=none->s'.heap.Ns C m->X.bA.heap.objs.size <= C->C≠X.env.locals->(∀x c,X.env.cells.lookup x=some c->c≠C)->(∀p∈X.pn++aa,p.1≠C) ->
   upd H' D (.lst ys) C=none->compPost (model X.prog X.w) X.A X.xe use Qv (.ref D) C (.ok .next) s') :
  wpAny (model X.prog X.w) X.A (comprehension (.ListComp elt [⟨tg,iter,ifs,0⟩] scope pos) scope X.env pos' (newList []) false (eval iter X.env) use) Qv X.xe s:=by
 obtain⟨cl,c9,c1,c2⟩:=Na (env:=X.env) (scope:=scope) fun y hy hyf=>by
  have:=hf.free y hy hyf;exact I.ok.has y.1 this
 refine wpAny_comprehension_free (use:=use) rfl hs c9 hf.kind hf.loc (aJ (hi aa s σ H _ I h) fun v s1 h1=>aJ h1 fun itv s2 h2=>?_);obtain⟨it,fp,tn,J,H2,e,I2,T,i5,f2,W,⟨m0,w0⟩,turn⟩:=h2;subst e
 have hlt:∀b∈fp,b < s2.heap.objs.size:=fun b hb=>by
  obtain⟨o,e,_⟩:=T.obj _ _ i5 b hb;exact lt_size e
 refine wpAny_newObj_type (wpAny_newFunctionEnv hf.nocell (by intro y hy;simp at hy) (fun eX hns₁ eD=>?_) hf.kind)
 dsimp only at hns₁ eD ⊢
 generalize hH2:s2.heap.push { cls:=.type "list", dict:=none,data:=.seq ([]:List Value).toArray }=HP at hns₁ eD ⊢;have hC:HP.objs.size=s2.heap.objs.size + 1:=by rw[←hH2,size_push]
 have je:s2.heap.objs.size≠HP.objs.size:=by rw[hC];exact ZC (Nat.lt_succ_self _)
 have fq:s2.heap.objs.size <= HP.objs.size:=by rw[hC];exact Nat.le_succ _
 have hCne:∀b,b < s2.heap.objs.size->b≠HP.objs.size:=fun b hb=>by rw[hC];exact ZC (Nat.lt_succ_of_lt hb)
 have old:∀b o,s2.heap.get? b=some o->eX.get? b=some o:=fun b o e=>eD.extBut b o (hCne b (lt_size e)) (ZX _ (hH2 ▸ ZX _ e));have b9:eX.get? s2.heap.objs.size=some { cls:=.type "list", dict:=none,data:=.seq ([]:List Value).toArray }:=eD.extBut _ _ je (ZX _ (hH2 ▸ ZN _ rfl));generalize hCC:HP.objs.size=C at *;generalize gd:s2.heap.objs.size=D at *;have IX:=Hr (N':=N') (fp:=fp) I2 hf c1 c2 (by rw[gd];exact fq) f2 (by rw[gd];exact hlt) (tk:=s2.toks + ([]:List (Str×Value)).length) old hns₁;have hDn:H2 D=none:=I2.aI.fresh (by rw[gd];exact Zy _)
 have hDfs:D∉ d8 X.stack:=fun z=>by
  rcases mem_cons.mp (I2.eI D z)with q |q
  ·have:=I2.lt;rw[←q,gd]at this;exact ZF _ this
  ·exact I2.nofs (by rw[gd];exact Zy _) q
 have cellLt:∀x c,X.env.cells.lookup x=some c->c < D:=fun x c e=>by
  obtain⟨v,z⟩:=I2.cell x c e;rw[←gd];exact z.lt
 have pinLt:∀p∈X.pn++aa,p.1 < D:=fun p hp=>by rw[←gd];exact lt_size (I2.pin p hp).1
 have s0D:X.bA.heap.objs.size <= D:=by rw[←gd];exact I2.sz
 have locLt:X.env.locals < D:=by rw[←gd];exact I2.lt
 let X':Cx:=Al X N' scope cl s2 H2 C fp (X.pn++aa)
 have gf:∀ {H':Hp}{ob:Obj},(∀b∈fp,H' b=none)->∀b∈fp,Ew X' [(D,ob)] H' b:=fun {H' ob} hn b hb=>by
  refine⟨hn b hb,ZC (Z2 (hlt b hb) fq),fun z=>?_,.inl hb,fun x c e=>(f2 b hb).2.2.2.2.1 x c (c1 x c e),fun p hp=>?_⟩
  ·exact IX.ok.gj b hb z
  ·rcases mem_append.mp hp with z |z
   ·exact(f2 b hb).2.2.2.2.2 p z
   ·have e:p=(D,ob):=by simpa using z
    subst e;exact Nat.ne_of_gt (hlt b hb)
 have pinD:∀ {aK:St}{H':Hp}{s':Shared}{ob:Obj},Inv X' [] aK H' s'->s'.heap.get? D=some ob->H' D=none->(∀v,ob.data≠ .cell v)->Inv X' [(D,ob)] aK H' s':=fun {aK H' s' ob} Ia e n d =>
  Ia.cK fun p hp=>by
   have q:p=(D,ob):=by simpa using hp
   subst q;exact⟨e,n,je,hDfs,d⟩
 have loop:∀s3:Shared,s3={ s2 with heap:=eX,toks:=s2.toks + ([]:List (Str×Value)).length } ->
   codeAny (model X.prog X.w) X.A (.compLoop (.ListComp elt [⟨tg,iter,ifs,0⟩] scope pos) 0 (.ref it) (.ref D) (compEnvC scope cl C X.env)) (compPost (model X.prog X.w) X.A X.xe use Qv (.ref D) C) s3:=by
  rintro s3 rfl
  refine codeAny_loop rfl (fun n s'=>∃i ys its k H',Inv X' [(D,({ cls:=.type "list", data:=.seq (List.toArray its) k }:Obj))] (CT ix σ) H' s'/\tn i s'.heap/\(∀b∈fp,H' b=none)/\W i n ys H'/\Vals ys its)
   (fun n s4 hI=>?_) m0 ⟨0,[],[],_,H2,pinD IX b9 hDn (fun v z=>by cases z),T.keep _ _ _ i5 (fun b _ o e=>old b o e),fun b hb=>(f2 b hb).1,w0,.nil⟩
  obtain⟨i,ys,its,k,H4,I4,st4,fr4,w4,rv⟩:=hI;show wpAny _ X.A ((compTurn (.ListComp elt [⟨tg,iter,ifs,0⟩] scope pos) 0 (.ref it) (.ref D) (compEnvC scope cl C X.env)).onRaise (fun x=>do noteFrame x (compEnvC scope cl C X.env);theTreesLotGoes x)) _ _ s4;refine wpAny_noted ?_;rw[compTurn_list];refine DP ?_;rcases turn i n ys H4 w4 with⟨stop,hz,r⟩ |⟨go,N,hN,step⟩
  ·refine Zx (ZJ (Zx (aJ (T.done X' rfl rfl rfl (hc _ _ _ _ _ _) i _ s4 _ H4 _ I4 (gf fr4) st4 stop) fun r' s5 ⟨hr,I5⟩=>?_)));subst hr;have pD:=I5.pin (D,_) (ZT _ ZI);have Ib:Inv X aa σ H4 s5:=JY I2 f2 I5;have Ic:Inv X aa σ (upd H4 D (.lst ys)) s5:=Ib.track pD.2.1 (Nat.ne_of_gt locLt) (.inr s0D) (fun x c e=>ZC (cellLt x c e)) (fun p hp=>ZC (pinLt p hp)) ⟨hz,its,k,rv,pD.1⟩;obtain⟨m5,n5,_⟩:=I5.loc
   refine Zw (c8 s5 ys H4 D C m5 Ic r pD.2.1 n5 (Nat.le_trans s0D fq) (Nat.ne_of_gt (Z2 locLt fq)) (fun x c e=>ZC (Z2 (cellLt x c e) fq))
    (fun p hp=>ZC (Z2 (pinLt p hp) fq)) ?_)
   rw[AF (Ne.symm je)];exact I5.free
  ·refine Zx (ZJ (Zx (aJ (T.item X' rfl rfl rfl (hc _ _ _ _ _ _) i _ s4 _ H4 _ I4 (gf fr4) st4 go) fun r' s5 ⟨u,hr,h5⟩=>?_)));subst hr;refine Zx (aJ h5 fun _ s6 ⟨x,H6,I6,r6,y6,st6,fr6⟩=>?_);have I6':=I6.pinned (gf fr6) (T.obj _ _ st6);refine Zx (aJ (hg _ _ _ _ _ _ _ s6 _ H6 x u _ I6' r6 (step x H6 y6)) fun _ s7 ⟨f9,H7,I7,k7,q7⟩=>?_);refine Zx (aJ (ht _ _ _ _ _ _ _ s7 f9 H7 _ I7 q7) fun b s8 ⟨H8,I8,q8⟩=>?_)
   have again:∀ {H9:Hp}{s9:Shared}{cT:List V}{its':List Value}{k':Nat},Inv X' ([(D,({ cls:=.type "list", data:=.seq (List.toArray its') k' }:Obj))]++Cm fp s6.heap) f9 H9 s9->Vals cT its' ->
     (∃m',m' < n/\W (i + 1) m' cT H9)->∃m,m < n/\∃i ys its k H',Inv X' [(D,({ cls:=.type "list", data:=.seq (List.toArray its) k }:Obj))] (CT ix σ) H' s9/\tn i s9.heap/\(∀b∈fp,H' b=none)/\W i m ys H'/\Vals ys its:=by
    intro H9 s9 cT its' k' I9 rv' ⟨m',hm,w9⟩;refine⟨m',hm,i + 1,cT,its',k',H9,I9.unpinned.weak (I4.len.trans I9.len.symm) k7,T.keep _ _ _ st6 fun b hb o e=>(I9.pin (b,o) (ZT _ (ZT _ (CK hb e)))).1,fun b hb=>?_,w9,rv'⟩;obtain⟨o,e,d⟩:=T.obj _ _ st6 b hb;exact(I9.pin (b,o) (ZT _ (ZT _ (CK hb e)))).2.1
   cases b with
   |false =>
    rw[Zq Bool.false_ne_true]at q8;exact Zw ⟨rfl,again I8 rv (hN _ _ q8).2⟩
   |true =>
    rw[Zp rfl]at q8;refine Zx (Zx (aJ (he _ _ _ _ _ _ _ s8 f9 H8 _ I8 q8) fun y s9 ⟨z,H9,I9,r9,q9⟩=>?_))
    have hz:ys.length < sizeLine:=by
     have:=(hN _ _ q9).1;rw[ZH,length_singleton]at this;omega
    have pD:=I9.pin (D,_) (ZT _ (ZP _ ZI));have bf:=rv.length;refine Zx (call_meets F.slot_list_append ⟨_,pD.1,rfl⟩ F.entry_list_append (F.args_list_append_2 _ _) (PySem.list_append D its.toArray k y (by rw[size_toArray];omega)) ⟨pD.1,Zw (Zw ⟨rfl,?_⟩)⟩);have eq':its.toArray.push y=(its++[y]).toArray:=by simp
    obtain⟨k',q⟩:∃k',(s9.heap.update D (Obj.mapSeq (·.push y))).get? D=some { cls:=.type "list", data:=.seq (its++[y]).toArray k' }:=⟨_,by rw[←eq'];exact PySem.IsL.update pD.1 (·.push y)⟩;have Iw:Inv X' (Cm fp s6.heap) f9 H9 s9:=I9.cK fun p hp=>I9.pin p (ZT _ (ZT _ hp))
    have It:Inv X' (Cm fp s6.heap) f9 H9 { s9 with heap:=s9.heap.update D (Obj.mapSeq (·.push y)),toks:=s9.toks }:=Iw.turned (it:=D) (fun b o hb e=>(ZW s9.heap (Obj.mapSeq (·.push y)) (Ne.symm hb)).trans e) pD.2.1 je
     (.inr (by show s2.heap.objs.size <= D;rw[gd];exact Zy _)) (fun x c e=>ZC (cellLt x c (c1 x c e))) (fun p hp=>by
      rcases mem_append.mp hp with z' |z'
      ·exact ZC (pinLt p z')
      ·exact ZC (hlt p.1 (F8 z').1))
    refine again (its':=its++[y]) (k':=k') (It.cK fun p hp=>?_) (rv.append (.cons r9 .nil)) (hN _ _ q9).2;rcases mem_append.mp hp with z' |z'
    ·have e:p=(D,({ cls:=.type "list", data:=.seq (its++[y]).toArray k' }:Obj)):=by simpa using z'
     subst e;exact⟨q,pD.2.1,je,hDfs,fun v z=>by cases z⟩
    ·exact It.pin p (ZT _ z')
 exact codeAny_compStart_list (loop _ rfl) (T.self _ 0 _ _ _ (T.keep _ _ _ i5 fun b _ o e=>old b o e) (loop _ rfl))
theorem Ja {RD:Cx->Prop} (hf:aV X.env.scope scope X.N N' ix) (hc:∀cl s H C fp aa,RD (Al X N' scope cl s H C fp (X.pn++aa))) (hi:PIg RD X tg iter wi)
  (hg:∀cl s H C fp pn,k8 (Al X N' scope cl s H C fp pn) tg ix g) (ht:∀cl s H C fp pn,iz (Al X N' scope cl s H C fp pn) ifs tt) (he:∀cl s H C fp pn,PE (Al X N' scope cl s H C fp pn) elt te)
  (hs:∀x,foldedSetIterable iter X.env x=pure x:=by intro _;rfl) :
  PE X (.ListComp elt [⟨tg,iter,ifs,0⟩] scope pos) (fun σ H Q=>DU wi g tt te ix (fun ys H'=>∀p,H' p=none->Q (.ref p) (upd H' p (.lst ys))) σ H):=by
 intro aa s σ H Q I h;rw[eval_ListComp];refine JZ (use:=none) hf hc hi hg ht he hs I h fun s' ys H' D C m I' r hD hn h1 h2 h3 h4 h5=>?_;refine⟨m,hn,fun h'' hs''=>⟨.ref D,_,I'.turned (it:=C) (t':=s'.toks) (fun b o hb e=>(hs''.2 b hb).trans e) h5 h2 (.inr h1) h3 h4,rfl,r D hD⟩⟩
theorem Kz (hf:aV X.env.scope scope X.N N' ix) (hc:X.calm=true) (hi:PI X tg iter wi)
  (hg:∀cl s H C fp pn,k8 (Al X N' scope cl s H C fp pn) tg ix g) (ht:∀cl s H C fp pn,iz (Al X N' scope cl s H C fp pn) ifs tt) (he:∀cl s H C fp pn,PE (Al X N' scope cl s H C fp pn) elt te)
  (hs:∀x,foldedSetIterable iter X.env x=pure x:=by intro _;rfl) :
  PE X (.ListComp elt [⟨tg,iter,ifs,0⟩] scope pos) (fun σ H Q=>DU wi g tt te ix (fun ys H'=>∀p,H' p=none->Q (.ref p) (upd H' p (.lst ys))) σ H):=Ja hf (fun _ _ _ _ _ _=>hc) hi.g hg ht he hs
theorem K1 {i:Nat}{py gS:Pos} (hN:X.N.Nodup) (js:X.N[i]?=some x) (hx:X.env.scope.names.lookup x=some .local) (hsw:swapsWith (.ListComp elt [⟨tg,iter,ifs,0⟩] scope pos) (some (.Name x py)) gS.line X.env=pure true)
  (hf:aV X.env.scope scope X.N N' ix) (hc:X.calm=true) (hi:PI X tg iter wi)
  (hg:∀cl s H C fp pn,k8 (Al X N' scope cl s H C fp pn) tg ix g) (ht:∀cl s H C fp pn,iz (Al X N' scope cl s H C fp pn) ifs tt) (he:∀cl s H C fp pn,PE (Al X N' scope cl s H C fp pn) elt te)
  (hs:∀x,foldedSetIterable iter X.env x=pure x:=by intro _;rfl) :
  PS X (.Assign [.Name x py] (.ListComp elt [⟨tg,iter,ifs,0⟩] scope pos) gS) (fun D σ H=>DU wi g tt te ix (fun ys H'=>∀p,H' p=none->D.nx (σ.set i (some (.ref p))) (upd H' p (.lst ys))) σ H):=by
 intro aa s σ H D I h;rw[exec_Assign_Name_used _ _ _ _ hsw];refine Zx (ZJ (Zx ?_));show wpAny _ X.A (do let _ ←comprehension (.ListComp elt [⟨tg,iter,ifs,0⟩] scope pos) scope X.env _ (newList []) false (eval iter X.env) (some (assign (.Name x py) X.env))) _ _ s;refine Zx (aJ (JZ (use:=some (assign (.Name x py) X.env)) (Qv:=fun _ s'=>SP X aa D .next s') hf (fun _ _ _ _ _ _=>hc) hi.g hg ht he hs I h fun s' ys H' Da C m I' r hD hn h1 h2 h3 h4 h5=>?_) fun _ s' hq=>Zw (Zw hq));show wpAny _ X.A (assign (.Name x py) X.env (.ref Da)) _ _ _;refine wpAny_assign_Name (JL (v:=.ref Da) I' hN js (.inl hx) rfl (fun jB I'' ⟨a,hsb,ha⟩=>?_) (.inr hx))
 have hCa:C≠a:=by
  rcases ha with z |z
  ·rw[z];exact h2
  ·exact(h3 x a z).symm
 refine⟨m,hn.sameBut hsb hCa,fun h'' hs''=>?_⟩;exact⟨_,_,I''.turned (it:=C) (t':=jB.toks) (fun b o hb e=>(hs''.2 b hb).trans e) h5 h2 (.inr h1) h3 h4,r Da hD⟩
end
abbrev g2 (K:FG):TG:=Rb K 2 (HL (C2 0) (HL (C2 1) Ra))
section
variable {iter elt:Expr}{ifs:List Expr}{scope:Scope}{px py pt:Pos}{wi:TI}{tt:TT}{y:Str}{kt:Nat}
theorem A3 (Nc:List Str) (gi:List (Option Nat)) (hf:Gy X.env.scope scope X.N (x :: Nc) (none :: gi)=true) (ip:(x :: Nc).Nodup) (hx:scope.names.lookup x=some .local) (hc:X.calm=true) (hi:PI X (.Name x px) iter wi)
  (ht:∀cl s H C fp pn,iz (Al X (x :: Nc) scope cl s H C fp pn) ifs tt) (he:∀cl s H C fp pn,PE (Al X (x :: Nc) scope cl s H C fp pn) elt te) (hs:∀x,foldedSetIterable iter X.env x=pure x:=by intro _;rfl) :
  PE X (.ListComp elt [⟨.Name x px,iter,ifs,0⟩] scope pos) (fun σ H Q=>DU wi (C2 0) tt te (none :: gi) (fun ys H'=>∀p,H' p=none->Q (.ref p) (upd H' p (.lst ys))) σ H) :=
 Kz (aV.of hf) hc hi (fun cl s H C fp pn=>FY (AO (i:=0) ip rfl (.inl (Z5 hx)) (.inr (Z5 hx)))) ht he hs
theorem DQ (Nc:List Str) (gi:List (Option Nat)) (hf:Gy X.env.scope scope X.N (x :: y :: Nc) (none :: none :: gi)=true) (ip:(x :: y :: Nc).Nodup) (hx:scope.names.lookup x=some .local) (hy:scope.names.lookup y=some .local) (hc:X.calm=true)
  (hi:PI X (.Tuple [.Name x px,.Name y py] kt pt) iter wi)
  (ht:∀cl s H C fp pn,iz (Al X (x :: y :: Nc) scope cl s H C fp pn) ifs tt) (he:∀cl s H C fp pn,PE (Al X (x :: y :: Nc) scope cl s H C fp pn) elt te) (hs:∀x,foldedSetIterable iter X.env x=pure x:=by intro _;rfl) :
  PE X (.ListComp elt [⟨.Tuple [.Name x px,.Name y py] kt pt,iter,ifs,0⟩] scope pos) (fun σ H Q=>DU wi (g2 X.K) tt te (none :: none :: gi) (fun ys H'=>∀p,H' p=none->Q (.ref p) (upd H' p (.lst ys))) σ H) :=
 Kz (aV.of hf) hc hi (fun cl s H C fp pn=>Ky (BG (X:=Al X (x :: y :: Nc) scope cl s H C fp pn) hc (AQ (AO (i:=0) ip rfl (.inl (Z5 hx)) (.inr (Z5 hx)))
  (AQ (AO (i:=1) ip rfl (.inl (Z5 hy)) (.inr (Z5 hy))) Ax)))) ht he hs
theorem Pi {i:Nat}{z:Str}{pz gS:Pos} (hN:X.N.Nodup) (js:X.N[i]?=some z) (hz:X.env.scope.names.lookup z=some .local) (Nc:List Str) (gi:List (Option Nat)) (hf:Gy X.env.scope scope X.N (x :: Nc) (none :: gi)=true) (ip:(x :: Nc).Nodup)
  (hx:scope.names.lookup x=some .local) (hc:X.calm=true) (hi:PI X (.Name x px) iter wi)
  (ht:∀cl s H C fp pn,iz (Al X (x :: Nc) scope cl s H C fp pn) ifs tt) (he:∀cl s H C fp pn,PE (Al X (x :: Nc) scope cl s H C fp pn) elt te)
  (hsw:swapsWith (.ListComp elt [⟨.Name x px,iter,ifs,0⟩] scope pos) (some (.Name z pz)) gS.line X.env=pure true:=by rfl) (hs:∀x,foldedSetIterable iter X.env x=pure x:=by intro _;rfl) :
  PS X (.Assign [.Name z pz] (.ListComp elt [⟨.Name x px,iter,ifs,0⟩] scope pos) gS) (fun D σ H=>DU wi (C2 0) tt te (none :: gi) (fun ys H'=>∀p,H' p=none->D.nx (σ.set i (some (.ref p))) (upd H' p (.lst ys))) σ H) :=
 K1 hN js hz hsw (aV.of hf) hc hi (fun cl s H C fp pn=>FY (AO (i:=0) ip rfl (.inl (Z5 hx)) (.inr (Z5 hx)))) ht he hs
theorem Pj {i:Nat}{z:Str}{pz gS:Pos} (hN:X.N.Nodup) (js:X.N[i]?=some z) (hz:X.env.scope.names.lookup z=some .local) (Nc:List Str) (gi:List (Option Nat)) (hf:Gy X.env.scope scope X.N (x :: y :: Nc) (none :: none :: gi)=true) (ip:(x :: y :: Nc).Nodup)
  (hx:scope.names.lookup x=some .local) (hy:scope.names.lookup y=some .local) (hc:X.calm=true) (hi:PI X (.Tuple [.Name x px,.Name y py] kt pt) iter wi)
  (ht:∀cl s H C fp pn,iz (Al X (x :: y :: Nc) scope cl s H C fp pn) ifs tt) (he:∀cl s H C fp pn,PE (Al X (x :: y :: Nc) scope cl s H C fp pn) elt te)
  (hsw:swapsWith (.ListComp elt [⟨.Tuple [.Name x px,.Name y py] kt pt,iter,ifs,0⟩] scope pos) (some (.Name z pz)) gS.line X.env=pure true:=by rfl) (hs:∀x,foldedSetIterable iter X.env x=pure x:=by intro _;rfl) :
  PS X (.Assign [.Name z pz] (.ListComp elt [⟨.Tuple [.Name x px,.Name y py] kt pt,iter,ifs,0⟩] scope pos) gS) (fun D σ H=>DU wi (g2 X.K) tt te (none :: none :: gi) (fun ys H'=>∀p,H' p=none->D.nx (σ.set i (some (.ref p))) (upd H' p (.lst ys))) σ H) :=
 K1 hN js hz hsw (aV.of hf) hc hi (fun cl s H C fp pn=>Ky (BG (X:=Al X (x :: y :: Nc) scope cl s H C fp pn) hc (AQ (AO (i:=0) ip rfl (.inl (Z5 hx)) (.inr (Z5 hx)))
  (AQ (AO (i:=1) ip rfl (.inl (Z5 hy)) (.inr (Z5 hy))) Ax)))) ht he hs
end
theorem Aw {g:TG}{tt:TT}{ix:List (Option Nat)}{R:List V->Hp->Prop}{H1:Hp} (Pv:Nat->List V->Hp->Prop) (h0:Pv 0 [] H1) (hl:∀i ys H,i <= xs.length->Pv i ys H->aH K H a xs) (hz:∀i ys H,Pv i ys H->ys.length <= 1000)
  (hs:∀i x ys H,xs[i]?=some x->Pv i ys H->g x (CT ix σ) H fun cG H2=>tt cG H2 fun b H3=>if b=true then te cG H3 fun y H4=>Pv (i + 1) (ys++[y]) H4 else Pv (i + 1) ys H3) (hd:∀ys H,Pv xs.length ys H->R ys H) :
  ∃W:Nat->Nat->List V->Hp->Prop,(∃m,W 0 m [] H1)/\∀i m ys H,W i m ys H ->
   ((jN K a).stop i H/\ys.length <= sizeLine/\R ys H) \/
   ((jN K a).go i H/\∃N:List V->Hp->Prop,(∀cT H',N cT H'->cT.length <= sizeLine/\∃m',m' < m/\W (i + 1) m' cT H') /\
    ∀x H',(jN K a).ic i H x H'->g x (CT ix σ) H' fun cG H2=>tt cG H2 fun b H3=>if b=true then te cG H3 fun y H4=>N (ys++[y]) H4 else N ys H3):=by
 refine⟨fun i m ys H=>m=xs.length - i/\i <= xs.length/\Pv i ys H,⟨_,rfl,Nat.zero_le _,h0⟩,?_⟩;rintro i m ys H ⟨rfl,hi,hp⟩;by_cases hlt:i < xs.length
 ·have hx:xs[i]?=some xs[i]:=Z7 hlt;refine .inr ⟨⟨xs,xs[i],hl i ys H hi hp,hx⟩,Pv (i + 1),fun cT H' q=>⟨Nat.le_of_lt (AZ (hz _ cT H' q)),xs.length - (i + 1),qe,rfl,hlt,q⟩,?_⟩;rintro x H' ⟨rfl,hy⟩
  have ex:x=xs[i]:=by
   have:=hy xs (hl i ys H' hi hp);rw[hx]at this;exact(Option.some.inj this).symm
  subst ex;exact hs i xs[i] ys H' hx hp
 ·have e:i=xs.length:=by omega
  subst e;exact .inl ⟨⟨xs,hl _ ys H hi hp,Zy _⟩,Nat.le_of_lt (AZ (hz _ ys H hp)),hd ys H hp⟩
theorem Dw {g:TG}{tt:TT}{ix:List (Option Nat)}{R:List V->Hp->Prop}{H1:Hp} (Pv:Nat->List V->Hp->Prop) (h0:Pv 0 [] H1) (hl:∀i ys H,i <= xs.length->Pv i ys H->aY K H a xs) (hz:∀i ys H,Pv i ys H->ys.length <= 1000)
  (hs:∀i x ys H,xs[i]?=some x->Pv i ys H->g x (CT ix σ) H fun cG H2=>tt cG H2 fun b H3=>if b=true then te cG H3 fun y H4=>Pv (i + 1) (ys++[y]) H4 else Pv (i + 1) ys H3) (hd:∀ys H,Pv xs.length ys H->R ys H) :
  ∃W:Nat->Nat->List V->Hp->Prop,(∃m,W 0 m [] H1)/\∀i m ys H,W i m ys H ->
   ((lg K a).stop i H/\ys.length <= sizeLine/\R ys H) \/
   ((lg K a).go i H/\∃N:List V->Hp->Prop,(∀cT H',N cT H'->cT.length <= sizeLine/\∃m',m' < m/\W (i + 1) m' cT H') /\
    ∀x H',(lg K a).ic i H x H'->g x (CT ix σ) H' fun cG H2=>tt cG H2 fun b H3=>if b=true then te cG H3 fun y H4=>N (ys++[y]) H4 else N ys H3):=by
 refine⟨fun i m ys H=>m=xs.length - i/\i <= xs.length/\Pv i ys H,⟨_,rfl,Nat.zero_le _,h0⟩,?_⟩;rintro i m ys H ⟨rfl,hi,hp⟩;by_cases hlt:i < xs.length
 ·have hx:xs[i]?=some xs[i]:=Z7 hlt;refine .inr ⟨⟨xs,xs[i],hl i ys H hi hp,hx⟩,Pv (i + 1),fun cT H' q=>⟨Nat.le_of_lt (AZ (hz _ cT H' q)),xs.length - (i + 1),qe,rfl,hlt,q⟩,?_⟩;rintro x H' ⟨rfl,hy⟩
  have ex:x=xs[i]:=by
   have:=hy xs (hl i ys H' hi hp);rw[hx]at this;exact(Option.some.inj this).symm
  subst ex;exact hs i xs[i] ys H' hx hp
 ·have e:i=xs.length:=by omega
  subst e;exact .inl ⟨⟨xs,hl _ ys H hi hp,Zy _⟩,Nat.le_of_lt (AZ (hz _ ys H hp)),hd ys H hp⟩
theorem DV {lo:Int}{n:Nat}{g:TG}{tt:TT}{ix:List (Option Nat)}{R:List V->Hp->Prop}{H1:Hp} (Pv:Nat->List V->Hp->Prop) (h0:Pv 0 [] H1) (hz:∀i ys H,Pv i ys H->ys.length <= 1000)
  (hs:∀(i:Nat) ys H,i < n->Pv i ys H->g (.int (lo + i)) (CT ix σ) H fun cG H2=>tt cG H2 fun b H3=>if b=true then te cG H3 fun y H4=>Pv (i + 1) (ys++[y]) H4 else Pv (i + 1) ys H3) (hd:∀ys H,Pv n ys H->R ys H) :
  ∃W:Nat->Nat->List V->Hp->Prop,(∃m,W 0 m [] H1)/\∀i m ys H,W i m ys H ->
   ((jM lo n).stop i H/\ys.length <= sizeLine/\R ys H) \/
   ((jM lo n).go i H/\∃N:List V->Hp->Prop,(∀cT H',N cT H'->cT.length <= sizeLine/\∃m',m' < m/\W (i + 1) m' cT H') /\
    ∀x H',(jM lo n).ic i H x H'->g x (CT ix σ) H' fun cG H2=>tt cG H2 fun b H3=>if b=true then te cG H3 fun y H4=>N (ys++[y]) H4 else N ys H3):=by
 refine⟨fun i m ys H=>m=n - i/\i <= n/\Pv i ys H,⟨_,rfl,Nat.zero_le _,h0⟩,?_⟩;rintro i m ys H ⟨rfl,hi,hp⟩;by_cases hlt:i < n
 ·refine .inr ⟨hlt,Pv (i + 1),fun cT H' q=>⟨Nat.le_of_lt (AZ (hz _ cT H' q)),n - (i + 1),qe,rfl,hlt,q⟩,?_⟩;rintro x H' ⟨rfl,rfl⟩;exact hs i ys H' hlt hp
 ·have e:i=n:=by omega
  subst e;exact .inl ⟨Zy _,Nat.le_of_lt (AZ (hz _ ys H hp)),hd ys H hp⟩
section
variable {s:Shared}{o:Obj}{kvs:LK}
theorem Inv.newOk (I:Inv X aa σ H s) {p:Addr} (hp:s.heap.objs.size <= p):H p=none/\p≠X.env.locals/\X.bA.heap.objs.size <= p/\(∀x c,X.env.cells.lookup x=some c->c≠p)/\∀q∈X.pn++aa,q.1≠p :=
 ⟨I.aI.fresh hp,Nat.ne_of_gt (Z2 I.lt hp),Nat.le_trans I.sz hp,fun x c e=>by
  obtain⟨v,z⟩:=I.cell x c e
  exact ZC (Z2 z.lt hp),fun q hq=>ZC (Z2 (lt_size (I.pin q hq).1) hp)⟩
theorem Inv.freeze (I:Inv X aa σ H s) (h:H a=some (.dK kvs)):∃o,Inv X aa σ (upd H a (.dA o (.dK kvs))) s:=by
 obtain⟨z,y,vs,r,ob,es,ep,e,rest⟩:=I.aI a _ h;refine⟨ob,?_⟩;exact I.write (x:=a) (e:=a) (o:=.dA ob (.dK kvs)) (h':=s.heap) (t':=s.toks) (by rw[h];exact trivial) (.inl rfl) (fun b u _ q=>q) ⟨ob,e⟩ ⟨e,z,y,vs,r,ob,es,ep,e,rest⟩
theorem Cp {sts:List Stmt}{t:TS} (h:fc X sts t):fc X sts (fun D σ H=>∃a kvs,H a=some (.dK kvs)/\∀o,t D σ (upd H a (.dA o (.dK kvs)))):=by
 intro aa s σ H D I ⟨a,kvs,e,k⟩;obtain⟨o,I'⟩:=I.freeze e;exact h aa s σ _ D I' (k o)
noncomputable def OL (o:Obj):Nat:=match o.data with
 | .dict _ ep=>ep
 |_=>0
theorem DR (I:Inv X aa σ H s) (h:H a=some (.dA o (.dK kvs))):kvs.length <= sizeLine/\(a == sysModules)=false/\∃vs,KV kvs vs/\s.heap.DictAt (Ar X.prog X.w) a vs (OL o):=by
 obtain⟨e,z,y,vs,r,ob,es,ep,e2,ex,d,rest⟩:=I.aI a _ h;rw[e]at e2;cases e2;refine⟨z,y,vs,r,o,es,e,ex,?_,rest⟩;show o.data=.dict es (OL o);unfold OL;rw[d]
end
theorem KV.get {κ:Type}:∀ {kvs:List (κ×V)}{vs:List (κ×Value)}{i:Nat}{kv:κ×V},KV kvs vs->kvs[i]?=some kv->∃v,vs[i]?=some (kv.1,v)/\RelV kv.2 v
 |_,_,_,_,.nil,e=>by simp at e
 |_,_,0,_,.cons r _,e=>by
  simp only[List.getElem?_cons_zero,Option.some.injEq]at e;subst e;rename_i q _ _ _;exact⟨q.2,by rw[r.1];rfl,r.2⟩
 |_,_,i + 1,kv,.cons _ t,e=>by
  obtain⟨u,h1,h2⟩:=KV.get (i:=i) (kv:=kv) (show KV _ _ from t) (by simpa using e);exact⟨u,by simpa using h1,h2⟩
theorem FZ {k:Key} (h:(Ar P w).is k u=true):RelV (kV k) u:=by
 rcases BI (show HJ k u=true from h)with⟨i,t,rfl,rfl⟩ |⟨x,t,rfl,rfl⟩
 ·exact⟨t,rfl⟩
 ·exact⟨t,rfl⟩
noncomputable def Iti (a:Addr) (o:Obj) (kvs:LK):It:=⟨fun i H=>H a=some (.dA o (.dK kvs))/\i < kvs.length,fun i H x H'=>∃p kv,H p=none/\x=.ref p/\kvs[i]?=some kv/\H'=upd H p (.tup [kV kv.1,kv.2]),
 fun i H=>H a=some (.dA o (.dK kvs))/\kvs.length <= i⟩
theorem MS {elts:List Expr}{k0:Nat} (a it:Addr) (o:Obj) (kvs:LK) :
  Kl P w K (.Tuple elts k0 pos) (Iti a o kvs) [it] it (fun i h=>∃ok ov,IsItemIter h it a i kvs.length (OL o) ok ov) where
 mem:=by simp
 obj:=fun i h st b hb=>by
  have e:b=it:=by simpa using hb
  subst e;obtain⟨ok,ov,e⟩:=st;exact⟨_,e,fun v z=>by cases z⟩
 keep:=fun i h h' st k=>by
  obtain⟨ok,ov,e⟩:=st;exact⟨ok,ov,k it (by simp) _ e⟩
 item:=by
  intro X hP hw hK hc i aa s σ H E I hf st hg;subst hP hw hK;obtain⟨iS,hi⟩:=hg;obtain⟨z,y,vs,rel,dd⟩:=DR I iS;obtain⟨ok,ov,st⟩:=st;have bf:=rel.length;obtain⟨kv,gx⟩:∃kv,kvs[i]?=some kv:=⟨_,Z7 hi⟩;obtain⟨v,hv,rv⟩:=KV.get rel gx;obtain⟨f0,f1,f2,f3,f4,f5⟩:=hf it (by simp);rw[bf]at st;have hlt:it < s.heap.objs.size:=lt_size st;refine wpAny_pyNext_items_item st dd hv fun key h' cf dY hp hsz keep=>?_;have I1:Inv X aa σ H { s with heap:=h' }:=I.turned (t':=s.toks) keep f0 f1 f3 f4 f5;obtain⟨n1,n2,n3,n4,n5⟩:=I.newOk (Zy s.heap.objs.size);have I2:Inv X aa σ (upd H s.heap.objs.size (.tup [kV kv.1,kv.2])) { s with heap:=h' }:=I1.track n1 n2 (.inr n3) n4 n5 ⟨by show 2 <= sizeLine;decide,[key,v],.cons (FZ cf) (.cons rv .nil),_,hp,rfl,_,rfl⟩;have fi:(upd H s.heap.objs.size (.tup [kV kv.1,kv.2])) it=none:=by rw[AF (ZC hlt)];exact f0
  refine⟨.ref s.heap.objs.size,rfl,wpAny_letOwnedTupleGo_items dY fun h'' gC sb=>?_⟩;refine⟨.ref s.heap.objs.size,_,I2.turned (it:=it) (t':=s.toks) (fun b o hb e=>(sb.2 b hb).trans e) fi f1 f3 f4 f5,rfl,⟨_,kv,n1,rfl,gx,rfl⟩,⟨key,v,by rw[bf];exact gC⟩,fun b hb=>?_⟩;have e:b=it:=by simpa using hb
  rw[e];exact fi
 done:=by
  intro X hP hw hK hc i aa s σ H E I hf st hg;subst hP hw hK;obtain⟨iS,hi⟩:=hg;obtain⟨z,y,vs,rel,dd⟩:=DR I iS;obtain⟨ok,ov,st⟩:=st;have bf:=rel.length;rw[bf]at st;obtain⟨f0,f1,f2,f3,f4,f5⟩:=hf it (by simp);exact wpAny_pyNext_items_end (I.ok.hd hc) st dd (List.getElem?_eq_none_iff.mpr qe) fun h' eb=>⟨rfl,I.turned (t':=s.toks) (fun b o hb e=>eb b o hb e) f0 f1 f3 f4 f5⟩
 self:=fun _ _ _ _ _ st h=>by
  obtain⟨ok,ov,e⟩:=st;exact W.kcp_self e h
def Tw (to:TE):TI:=fun σ H R=>to σ H fun x H1=>∃a o kvs,x=.ref a/\H1 a=some (.dA o (.dK kvs))/\R (Iti a o kvs) H1
theorem Pk {elts:List Expr}{k0:Nat}{o:Expr}{to:TE}{apos eF:Pos} (ho:PE X o to) (bp:attributeBase o "items" X.env (eval o X.env)=eval o X.env:=by rfl) (bw:(apos.endLine == eF.line)=true:=by rfl) :
  PI X (.Tuple elts k0 pos) (.Call (.Attribute o "items" apos) [] [] eF) (Tw to):=by
 intro aa s σ H R I h;refine wpAny_Call_method0_late bp bw (aJ (ho aa s σ H _ I h) fun v s1 ⟨x,H1,I1,r1,a,ob,kvs,ex,iS,q⟩=>?_);subst ex;cases r1;obtain⟨t1,t2,_⟩:=Ph I1 (.inl ⟨kvs,.inr ⟨ob,iS⟩⟩);obtain⟨z,y,vs,rel,dd⟩:=DR I1 iS;refine⟨"dict", "dict.items", PySem.F.plainAttrs_dict,PySem.F.slot_dict_items,PySem.F.type_dict_items,t1,t2,Calls.callWith_builtin rfl (PySem.evalArgs_none (call_meetsIn PySem.F.slot_dict_items t1 PySem.F.entry_dict_items (PySem.F.args_dict_items_1 _) (meets_dict_items (Ar X.prog X.w) a y) ⟨⟨vs,dd.dictOf⟩,?_⟩))⟩;have I2:Inv X aa σ H1 { s1 with heap:=s1.heap.push { cls:=.type "dict_items", data:=.fields #[.ref a] } }:=I1.kept (t':=s1.toks) fun b o e=>ZX _ e;refine wpAny_pyIter_items (knd:=Ar X.prog X.w) (d:=a) (kvs:=vs) (ep:=OL ob) ⟨_,ZN _ rfl,rfl,rfl⟩ (dd.push _) ?_;refine⟨_,[_],_,_,H1,rfl,I2.kept (t':=s1.toks) fun b o e=>ZX _ e,MS a _ ob kvs,⟨.none,.none,by rw[rel.length];exact ZN _ rfl⟩,fun b hb=>?_,q⟩;have e:b=(s1.heap.push { cls:=.type "dict_items", data:=.fields #[.ref a] }).objs.size:=by simpa using hb
 subst e;exact I2.gy (Zy _) (I2.aI.fresh (Zy _))
noncomputable def Ite (K:FG) (a:Addr):It:=⟨fun i H=>∃xs x,aH K H a xs/\xs[i]?=some x,fun i H x H'=>∃p y,H p=none/\x=.ref p/\(∀xs,aH K H a xs->xs[i]?=some y)/\H'=upd H p (.tup [.int i,y]),fun i H=>∃xs,aH K H a xs/\xs.length <= i⟩
theorem OM {elts:List Expr}{k0:Nat} (a e it:Addr) (az:e≠it) :
  Kl P w K (.Tuple elts k0 pos) (Ite K a) [e,it] e (fun i h=>∃old,IsEnum h e it i old/\h.IsListIter it a i) where
 mem:=by simp
 obj:=fun i h st b hb=>by
  obtain⟨old,e1,o,e2,c,d⟩:=st;have iM:b=e\/b=it:=by simpa using hb
  rcases iM with rfl |rfl
  ·exact⟨_,e1,fun v z=>by cases z⟩
  ·exact⟨o,e2,fun v z=>by rw[d]at z;cases z⟩
 keep:=fun i h h' st k=>by
  obtain⟨old,e1,e2⟩:=st;exact⟨old,k e (by simp) _ e1,e2.at fun o q=>k it (by simp) o q⟩
 item:=by
  intro X hP hw hK hc i aa s σ H E I hf st hg;subst hP hw hK;obtain⟨xs,x,hq,hx⟩:=hg;obtain⟨its,rv,p,hz⟩:=I.list hq;obtain⟨u,hu,ru⟩:=rv.get hx;obtain⟨old,s1,s2⟩:=st;obtain⟨f0,f1,f2,f3,f4,f5⟩:=hf e (by simp);obtain⟨g0,g1,g2,g3,g4,g5⟩:=hf it (by simp);have hlt:e < s.heap.objs.size:=lt_size s1;have db:it < s.heap.objs.size:=by obtain⟨o,q,_⟩:=id s2;exact lt_size q
  refine wpAny_pyNext_enum_item s1 s2 p.isList (x:=u) (by simpa using hu) az fun h' dY st2' hp hsz keep=>?_
  have I1:Inv X aa σ H { s with heap:=h',toks:=s.toks + 1 }:=by
   refine I.step (H':=H) (g':=s.gens) (d':=s.drawn) (ch:=[e,it]) (fun b hb=>?_) (fun b o _ _ hb q _=>keep b o (by simp at hb;exact hb.1) (by simp at hb;exact hb.2) q) (fun b o _ _ hb q _=>⟨o.slots,keep b o (by simp at hb;exact hb.1) (by simp at hb;exact hb.2) q⟩)
    (fun _ _ _ _ n=>n) (fun b o hb q=>⟨o,keep b o (by simp at hb;exact hb.1) (by simp at hb;exact hb.2) q⟩) (fun _ _ q=>q) (fun _ _ _ q=>q) (fun b ps q=>⟨#[],by rw[q];simp⟩) (fun m hm=>?_) (fun b u q=>?_) I.bare
   ·have iM:b=e\/b=it:=by simpa using hb
    rcases iM with rfl |rfl
    ·exact⟨f3,f1,f4,f5⟩
    ·exact⟨g3,g1,g4,g5⟩
   ·obtain⟨oL,es,ep,jb,r⟩:=hm;exact⟨oL,es,ep,keep _ oL (Ne.symm f1) (Ne.symm g1) jb,r⟩
   ·have ne1:∀c v,H c=some v->c≠e/\c≠it:=fun c v q=>⟨AG q f0,AG q g0⟩;refine(I.aI b u q).fY (fun c v hc q'=>keep c v ?_ ?_ q') (fun _ q=>q) fun _ _ q=>q
    ·rcases hc with z |z
     ·rw[z];exact(ne1 b u q).1
     ·exact(ne1 c _ z).1
    ·rcases hc with z |z
     ·rw[z];exact(ne1 b u q).2
     ·exact(ne1 c _ z).2
  obtain⟨n1,n2,n3,n4,n5⟩:=I.newOk (Zy s.heap.objs.size);have I2:Inv X aa σ (upd H s.heap.objs.size (.tup [.int i,x])) { s with heap:=h',toks:=s.toks + 1 }:=I1.track n1 n2 (.inr n3) n4 n5 ⟨by show 2 <= sizeLine;decide,[.int i s.toks,u],.cons ⟨_,rfl⟩ (.cons ru .nil),_,hp,rfl,_,rfl⟩;have fe:(upd H s.heap.objs.size (.tup [.int i,x])) e=none:=by rw[AF (ZC hlt)];exact f0
  have fi:(upd H s.heap.objs.size (.tup [.int i,x])) it=none:=by rw[AF (ZC db)];exact g0
  refine⟨.ref s.heap.objs.size,rfl,wpAny_letOwnedTupleGo_enum dY fun h'' gC sb=>?_⟩;refine⟨.ref s.heap.objs.size,_,I2.turned (it:=e) (t':=s.toks + 1) (fun b o hb q=>(sb.2 b hb).trans q) fe f1 f3 f4 f5,rfl,⟨_,x,n1,rfl,fun ys hy=>by rw[I.list_inj hy hq];exact hx,rfl⟩,⟨_,by exact_mod_cast gC,st2'.extBut sb.extBut (Ne.symm az)⟩,fun b hb=>?_⟩;have iM:b=e\/b=it:=by simpa using hb
  rcases iM with rfl |rfl
  ·exact fe
  ·exact fi
 done:=by
  intro X hP hw hK hc i aa s σ H E I hf st hg;subst hP hw hK;obtain⟨xs,hq,hx⟩:=hg;obtain⟨its,rv,p,hz⟩:=I.list hq;obtain⟨old,s1,s2⟩:=st;obtain⟨g0,g1,g2,g3,g4,g5⟩:=hf it (by simp);have hl:=rv.length;exact wpAny_pyNext_enum_end (I.ok.hd hc) s1 s2 p.isList (by simp;omega) fun h' eb=>⟨rfl,I.turned (t':=s.toks) (fun b o hb e=>eb b o hb e) g0 g1 g3 g4 g5⟩
 self:=fun _ _ _ _ _ st h=>by
  obtain⟨old,e1,_⟩:=st;exact wpAny_pyIter_enum e1 h
def VP (K:FG) (tl:TA):TI:=fun σ H R=>tl σ H fun vs H1=>∃a,vs=[.ref a]/\(∃xs,aH K H1 a xs)/\R (Ite K a) H1
theorem Rv {elts:List Expr}{k0:Nat}{p eF:Pos}{l:Expr}{tl:TA} (hg:Gl X "enumerate") (hm:X.mg "enumerate" = none) (hl:PA X [l] tl) (hs:starEach [l] X.env=[(false,eval l X.env)]:=by rfl) :
  PI X (.Tuple elts k0 pos) (.Call (.Name "enumerate" p) [l] [] eF) (VP X.K tl):=by
 intro aa s σ H R I h;refine Z3 (Eu (u:=.type "enumerate") I hg hm qb ?_);refine PyProof.Rows.callWith_type1 (aJ (hl eF aa s σ H _ I h) fun us s1 ⟨vs,H1,I1,r1,a,ev,⟨xs,hq⟩,q⟩=>?_) hs rfl;subst ev;obtain⟨u,rfl,ru⟩:=B4 r1;cases ru;obtain⟨its,rv,pl,hz⟩:=I1.list hq;refine call_enumerate_list pl.isList fun h' he hi hsz keep=>?_;refine wpAny_pyIter_enum he ?_;have I2:Inv X aa σ H1 { s1 with heap:=h' }:=I1.kept (t':=s1.toks) keep;refine⟨_,[s1.heap.objs.size + 1,s1.heap.objs.size],_,_,H1,rfl,I2,OM a _ _ (Nat.succ_ne_self _),⟨_,he,hi⟩,fun b hb=>?_,q⟩;have iM:b=s1.heap.objs.size + 1\/b=s1.heap.objs.size:=by simpa using hb
 rcases iM with rfl |rfl
 ·exact I1.gy (Nat.le_succ _) (I1.aI.fresh (Nat.le_succ _))
 ·exact I1.gy (Zy _) (I1.aI.fresh (Zy _))
noncomputable def Its (x:Str):It:=⟨fun i _=>i < x.cps.size,fun i H v H'=>H'=H/\∃c,x.cps[i]?=some c/\v=.str ⟨#[c]⟩,fun i _=>x.cps.size <= i⟩
theorem Pl {n:Str} (it:Addr) (x:Str) (t:Tok) :
  Kl P w K (.Name n pos) (Its x) [it] it (fun i h=>h.IsStrIter it "str_ascii_iterator" x t i) where
 mem:=by simp
 obj:=fun i h st b hb=>by
  have e:b=it:=by simpa using hb
  subst e;obtain⟨o,e,c,d⟩:=st;exact⟨o,e,fun v z=>by rw[d]at z;cases z⟩
 keep:=fun i h h' st k=>by
  obtain⟨o,e,r⟩:=st;exact⟨o,k it (by simp) o e,r⟩
 item:=by
  intro X hP hw hK hc i aa s σ H E I hf st hg;subst hP hw hK;have hi:i < x.cps.size:=hg;obtain⟨f0,f1,f2,f3,f4,f5⟩:=hf it (by simp);refine wpAny_pyNext_ascii_item st (Array.getElem?_eq_getElem hi) fun h' dY sb=>?_;refine⟨_,rfl,Zw ⟨.str ⟨#[x.cps[i]]⟩,H,I.turned (t':=s.toks + 1) (fun b o hb e=>(sb.2 b hb).trans e) f0 f1 f3 f4 f5,⟨_,rfl⟩,⟨rfl,_,Array.getElem?_eq_getElem hi,rfl⟩,dY,fun b hb=>(hf b hb).1⟩⟩
 done:=by
  intro X hP hw hK hc i aa s σ H E I hf st hg;subst hP hw hK;have hi:x.cps.size <= i:=hg;obtain⟨f0,f1,f2,f3,f4,f5⟩:=hf it (by simp);exact wpAny_pyNext_ascii_end (I.ok.hd hc) st (Array.getElem?_eq_none hi) fun h' eb=>⟨rfl,I.turned (t':=s.toks) (fun b o hb e=>eb b o hb e) f0 f1 f3 f4 f5⟩
 self:=fun _ _ _ _ _ st h=>wpAny_pyIter_striter_ascii st h
def WE (ts:TE):TI:=fun σ H R=>ts σ H fun v H1=>∃x,v=.str x/\x.cps.all (· < 128)=true/\R (Its x) H1
theorem Tx {n:Str}{ts:TE} (he:PE X e ts):PI X (.Name n pos) e (WE ts):=by
 intro aa s σ H R I h;refine aJ (he aa s σ H _ I h) fun v s1 ⟨z,H1,I1,r1,x,ez,ha,q⟩=>?_;subst ez;obtain⟨t,rfl⟩:=r1;refine wpAny_pyIter_ascii ha ?_;refine⟨s1.heap.objs.size,[s1.heap.objs.size],_,_,H1,rfl,I1.kept (t':=s1.toks) fun b o e=>ZX _ e,Pl _ x t,⟨_,ZN _ rfl,rfl,rfl⟩,fun b hb=>?_,q⟩;have e:b=s1.heap.objs.size:=by simpa using hb
 subst e;exact I1.gy (Zy _) (I1.aI.fresh (Zy _))
theorem JB:entryFor table "proto.unchain" = some Builtin.«proto.unchain»:=entryFor_of_tree qd
section
variable {prog:Program}{s:Shared}
theorem Rw {α:Type}{c e:Addr}{oc oe:Obj}{vc ve:Array Value}{Q:α->Shared->Prop} (hh:A.handled=some (.ref c)) (hce:c≠e) (hc:s.heap.get? c=some oc) (hdc:oc.data=.fields vc) (h2:vc[2]?=some .none)
  (he:s.heap.get? e=some oe) (hde:oe.data=.fields ve) (hz:2 < ve.size) (h:E (.ref e) { s with heap:=s.heap.update e (Obj.mapFields (·.setIfInBounds 2 (.ref c))) }):wpAny (model prog w) A (raiseNew (.ref e):Sem α) Q E s:=by
 unfold raiseNew;refine Zx (wpAny_handled ?_);rw[hh]
 dsimp only
 rw[Zp (show(Value.ref c != Value.ref e)=true by simp[hce])];refine Zx (ZK (wpAny_runValue (codeAny_builtin JB ?_)));unfold Builtin.«proto.unchain»
 dsimp only
 refine Zx (wpAny_field hc hdc h2 ?_);rw[Zp qc];refine Zw ?_;show wpAny _ _ _ _ _ _;have up:=wpAny_setField (M:=model prog w) (A:=A) (E:=E) (x:=Value.ref c) (Q:=fun _ s'=>E (.ref e) s') he hde hz h;unfold setField at up;exact Zx (Zv up (fun _ s' z=>wpAny_throw z) fun _ _ z=>z)
theorem Dk {it l c:Addr}{i:Nat}{xs:Array Value}{oc:Obj}{vc:Array Value}{Q:Option Value->Shared->Prop} (hh:A.handled=some (.ref c)) (hc:s.heap.get? c=some oc) (hdc:oc.data=.fields vc) (h2:vc[2]?=some .none) (hci:c≠it)
  (hI:s.heap.IsListIter it l i) (hL:s.heap.IsList l xs) (hx:xs[i]?=none) (fin:∀h',Heap.ExtBut it s.heap h'->Q none { s with heap:=h' }):wpAny (model prog w) A (pyNext (.ref it)) Q E s:=by
 obtain⟨o,ho,oc1,hd⟩:=id hI;obtain⟨ol,hol,_,nl,hdl⟩:=hL;unfold pyNext;refine Zx (wpAny_attempt (wpAny_callSpecial?_slot (name:=Str.ofString "__next__") hI.typeIs slot_listiter_next (wpAny_call_entry slot_listiter_next hI.typeIs entry_listiter_next ?_ (args_listiter_next _))));show wpAny _ _ (field (.ref it) 0 >>= _) _ _ s;refine Zx (wpAny_field (x:=.ref l) ho hd rfl ?_);show wpAny _ _ (if (Value.ref l == Value.none)=true then _ else _) _ _ s;rw[Zq (by simp:¬ (Value.ref l == Value.none)=true)];show wpAny _ _ (field (.ref it) 1 >>= _) _ _ s;refine Zx (wpAny_field (x:=.int i 0) ho hd rfl ?_);show wpAny _ _ (seqItems? (.ref l) >>= _) _ _ s;refine Zx (wpAny_seqItems hol hdl ?_);simp only[Int.toNat_natCast,hx];refine Zx (wpAny_rule (Zx (wpAny_setField ho hd (by simp) ?_)));show wpAny _ _ (newExc (.type "StopIteration") [] >>= raiseNew) _ _ _;refine Zx ?_;simp only[newExc,newTuple];refine Zx (wpAny_newObj_type ?_ (by size_fits));refine Zx (m:=firstArgMember _ _) (wpAny_of_eq (a:=Value.none) (by first |rfl | (simp only[firstArgMember];rfl)) (wpAny_newObj_type ?_ (by size_fits)));have k1:=(ZW s.heap (Obj.mapFields (·.setIfInBounds 0 Value.none)) (Ne.symm hci)).trans hc;refine Rw (c:=c) (show A.in1.handled=_ from hh) (fun z=>?_) (ZX _ (ZX _ k1)) hdc h2 (ZN _ rfl) rfl (by simp;omega) ?_
 ·have:=lt_size (ZX { cls:=.type "tuple", data:=.seq #[] } k1);rw[z]at this;exact absurd this (ZF _)
 ·refine Zx (wpAny_isInstance (T := "StopIteration") (b:=true) ⟨_,ZU _ (ZN _ rfl) rfl,rfl⟩ isSubtype_stop ?_);refine Zw (fin _ fun b u hb z=>?_);have z1:=(ZW s.heap (Obj.mapFields (·.setIfInBounds 0 Value.none)) (Ne.symm hb)).trans z;have z2:=ZX { cls:=.type "tuple", data:=.seq #[] } z1;rw[ZW _ _ (Nat.ne_of_gt (lt_size z2))];exact ZX _ z2
end
def Sft (X:Cx):Prop:=∃e oe vs,X.A.handled=some (.ref e)/\(e,oe)∈X.pn/\oe.data=.fields vs/\vs[2]?=some .none
def iV (X:Cx):Prop:=X.calm=true\/Sft X
theorem iV.comp {N':List Str}{scope:Scope}{cl:List (Str×Addr)}{s:Shared}{fp:List Addr} (h:iV X):iV (Al X N' scope cl s H C fp (X.pn++aa)):=by
 rcases h with h |⟨e,oe,vs,a,b,c,d⟩
 ·exact .inl h
 ·exact .inr ⟨e,oe,vs,a,ZP _ b,c,d⟩
section
variable {s:Shared}
theorem Pm {it l:Addr}{i:Nat}{xs:Array Value}{Q:Option Value->Shared->Prop} (hc:iV X) (I:Inv X aa σ H s) (hf:Ew X aa H it) (hI:s.heap.IsListIter it l i) (hL:s.heap.IsList l xs) (hx:xs[i]?=none)
  (fin:∀h',Heap.ExtBut it s.heap h'->Q none { s with heap:=h' }):wpAny (model X.prog X.w) X.A (pyNext (.ref it)) Q E s:=by
 rcases hc with hc |⟨e,oe,vs,a,b,c,d⟩
 ·exact wpAny_pyNext_list_end (I.ok.hd hc) hI hL hx fin
 ·exact Dk a (I.pin (e,oe) (ZP _ b)).1 c d (hf.2.2.2.2.2 (e,oe) (ZP _ b)) hI hL hx fin
end
theorem MU {tg:Expr} (a it:Addr):TJ iV P w K tg (jN K a) [it] it (fun i h=>h.IsListIter it a i):=by
 have T:=JM (P:=P) (w:=w) (K:=K) (tg:=tg) a it;refine⟨T.obj,T.keep,?_,?_,T.self⟩
 ·intro X hP hw hK hc i aa s σ H E I hf st hg;subst hP hw hK;obtain⟨xs,x,hq,hx⟩:=hg;obtain⟨its,rv,p,hz⟩:=I.list hq;obtain⟨u,hu,ru⟩:=rv.get hx;obtain⟨f0,f1,f2,f3,f4,f5⟩:=hf it (by simp);refine wpAny_pyNext_list_item st p.isList (x:=u) (by simpa using hu) fun h' dY sb=>?_;obtain⟨o,e,c,d⟩:=id dY;exact⟨u,rfl,Km (s:={ s with heap:=h' }) e c d qc ⟨x,H,I.turned (t':=s.toks) (fun b o hb e=>(sb.2 b hb).trans e) f0 f1 f3 f4 f5,ru,⟨rfl,fun ys hy=>by rw[I.list_inj hy hq];exact hx⟩,dY,fun b hb=>(hf b hb).1⟩⟩
 ·intro X hP hw hK hc i aa s σ H E I hf st hg;subst hP hw hK;obtain⟨xs,hq,hx⟩:=hg;obtain⟨its,rv,p,hz⟩:=I.list hq;have f:=hf it (by simp);have hl:=rv.length;exact Pm hc I f st p.isList (by simp;omega) fun h' eb=>⟨rfl,I.turned (t':=s.toks) (fun b o hb e=>eb b o hb e) f.1 f.2.1 f.2.2.2.1 f.2.2.2.2.1 f.2.2.2.2.2⟩
section
variable {iter elt:Expr}{ifs:List Expr}{scope:Scope}{px:Pos}{wi:TI}{tt:TT}
theorem Pn {tg l:Expr}{tl:TE} (hl:PE X l tl):PIg iV X tg l (TB X.K tl):=by
 intro aa s σ H R I h;refine aJ (hl aa s σ H _ I h) fun v s1 ⟨x,H1,I1,r1,a,e,⟨xs,hq⟩,q⟩=>?_;subst e;cases r1;obtain⟨its,rv,p,hz⟩:=I1.list hq;refine wpAny_pyIter_list p.isList ⟨s1.heap.objs.size,[s1.heap.objs.size],_,_,H1,rfl,I1.kept (t':=s1.toks) fun b o e=>ZX _ e,MU a _,⟨_,ZN _ rfl,rfl,rfl⟩,fun b hb=>?_,q⟩;obtain rfl:b=s1.heap.objs.size:=by simpa using hb
 exact I1.gy (Zy _) (I1.aI.fresh (Zy _))
theorem ON (Nc:List Str) (gi:List (Option Nat)) (hf:Gy X.env.scope scope X.N (x :: Nc) (none :: gi)=true) (ip:(x :: Nc).Nodup) (hx:scope.names.lookup x=some .local) (hc:iV X) (hi:PIg iV X (.Name x px) iter wi)
  (ht:∀cl s H C fp pn,iz (Al X (x :: Nc) scope cl s H C fp pn) ifs tt) (he:∀cl s H C fp pn,PE (Al X (x :: Nc) scope cl s H C fp pn) elt te) (hs:∀x,foldedSetIterable iter X.env x=pure x:=by intro _;rfl) :
  PE X (.ListComp elt [⟨.Name x px,iter,ifs,0⟩] scope pos) (fun σ H Q=>DU wi (C2 0) tt te (none :: gi) (fun ys H'=>∀p,H' p=none->Q (.ref p) (upd H' p (.lst ys))) σ H) :=
 Ja (aV.of hf) (fun _ _ _ _ _ _=>hc.comp) hi (fun cl s H C fp pn=>FY (AO (i:=0) ip rfl (.inl (Z5 hx)) (.inr (Z5 hx)))) ht he hs
end
theorem MW {s:Shared}{p:Addr}{its:List Value} (hc:iV X) (I:Inv X aa σ H s) (pl:s.heap.IsList p its.toArray):∃fp St,Walks X.prog X.w X.A.in1 s.heap.objs.size fp [s.heap.objs.size] its.toArray.size (fun i v=>its.toArray[i]?=some v) St /\
  St 0 (s.heap.push { cls:=.type "list_iterator", data:=.fields #[.ref p,.int 0 0] })/\∀b∈fp,b < s.heap.objs.size + 1:=by
 have hp:p < s.heap.objs.size:=by obtain⟨o,e,_⟩:=id pl;exact lt_size e
 have jR:(s.heap.push { cls:=.type "list_iterator", data:=.fields #[.ref p,.int 0 0] }).IsListIter s.heap.objs.size p 0/\(s.heap.push { cls:=.type "list_iterator", data:=.fields #[.ref p,.int 0 0] }).IsList p its.toArray :=
  ⟨⟨_,ZN _ rfl,rfl,rfl⟩,pl.at fun o e=>ZX _ e⟩
 rcases hc with hc |⟨e,oe,vs,a,b,c,d⟩
 ·refine⟨_,_,Walks.list (A:=X.A.in1) (show X.A.in1.handled=none from I.ok.hd hc) _ p (ZC hp) its.toArray,jR,fun b hb=>?_⟩;have z:b=s.heap.objs.size\/b=p:=by simpa using hb
  rcases z with rfl |rfl
  ·exact Nat.lt_succ_self _
  ·exact Nat.lt_succ_of_lt hp
 ·have he:=(I.pin (e,oe) (ZP _ b)).1;have hlt:=lt_size he;refine⟨[s.heap.objs.size,p,e],fun i h=>(h.IsListIter s.heap.objs.size p i/\h.IsList p its.toArray)/\h.get? e=some oe,⟨fun b hb=>by simp at hb;simp[hb],fun i h h' st k=>⟨⟨st.1.1.at fun o z=>k _ (by simp) o z,st.1.2.at fun o z=>k _ (by simp) o z⟩,k e (by simp) oe st.2⟩,?_,?_,fun _ _ _ _ st hQ=>wpAny_pyIter_listiter st.1.1 hQ⟩,⟨jR,ZX _ he⟩,fun b hb=>?_⟩
  ·intro i s1 Q E hi st hQ;refine wpAny_pyNext_list_item st.1.1 st.1.2 (x:=its.toArray[i]) (by simp[hi]) fun h' t1 t2=>?_;exact hQ _ h' s1.toks (by simp[hi]) ⟨⟨t1,st.1.2.extBut t2.extBut (ZC hp)⟩,t2.extBut e oe (ZC hlt) st.2⟩ fun b o hb z=>t2.extBut b o (fun y=>hb (by simp[y])) z
  ·intro s1 Q E st hQ;exact Dk (show X.A.in1.handled=_ from a) st.2 c d (ZC hlt) st.1.1 st.1.2 (by simp) fun h' z=>hQ h' s1.toks fun b o hb y=>z b o (fun y'=>hb (by simp[y'])) y
  ·have z:b=s.heap.objs.size\/b=p\/b=e:=by simpa using hb
   rcases z with rfl |rfl |rfl
   ·exact Nat.lt_succ_self _
   ·exact Nat.lt_succ_of_lt hp
   ·exact Nat.lt_succ_of_lt hlt
noncomputable def Nb (a p:Addr):HO:=.ext fun h=>h.IsItemsView p a
noncomputable def Nd (a p:Addr):HO:=.ext fun h=>h.IsValuesView p a
section
variable {o:Expr}{to:TE}{name:Str}{apos eF:Pos}{id:String}{r:V->List V->Hp->VK->Prop}
theorem MY (slot:Slot "dict" name id) (hty:typeOf (.builtin id)=pure (.type "method_descriptor")) (hm:iW X id r) (ho:PE X o to)
  (bp:attributeBase o name X.env (eval o X.env)=eval o X.env:=by rfl) (bw:(apos.endLine == eF.line)=true:=by rfl) :
  PE X (.Call (.Attribute o name apos) [] [] eF) (fun σ H Q=>to σ H fun x H1=>∃a,x=.ref a/\IsD H1 a/\r x [] H1 Q):=by
 intro aa s σ H Q I h;refine wpAny_Call_method0_late bp bw (aJ (ho aa s σ H _ I h) fun v s1 ⟨x,H1,I1,r1,a,ex,d,q1⟩=>?_);subst ex;cases r1;obtain⟨t1,t2,_⟩:=Ph I1 d;exact⟨"dict", id,PySem.F.plainAttrs_dict,slot,hty,t1,t2,Calls.callWith_builtin rfl (PySem.evalArgs_none (hm aa s1 σ H1 (.ref a) [] (.ref a) [] Q I1 rfl .nil q1))⟩
theorem Po:iW X "dict.items" (fun x xs H Q=>∃a kvs,x=.ref a/\xs=[]/\Rd H a (.dK kvs)/\∀p,H p=none->Q (.ref p) (upd H p (Nb a p))):=by
 intro aa s σ H x xs v us Q I rx rs h;obtain⟨a,kvs,rfl,rfl,hd,q⟩:=h;cases rx;cases rs;obtain⟨z,y,vs,rel,dd⟩:=DN I.aI hd;refine call_meetsIn PySem.F.slot_dict_items dd.typeIs PySem.F.entry_dict_items (PySem.F.args_dict_items_1 _) (meets_dict_items (Ar X.prog X.w) a y) ⟨⟨vs,dd⟩,?_⟩;refine⟨.ref s.heap.objs.size,_,I.laid (t':=s.toks) (o:=Nb a s.heap.objs.size) (fun b o e=>ZX _ e) (Zy _) ⟨⟨_,ZN _ rfl,rfl,rfl⟩,⟨_,ZN _ rfl⟩,fun h1 h2 z k=>?_⟩,rfl,q _ (I.aI.fresh (Zy _))⟩;obtain⟨ob,e,r⟩:=z;exact⟨ob,k ob e,r⟩
theorem Jb:iW X "dict.values" (fun x xs H Q=>∃a kvs,x=.ref a/\xs=[]/\Rd H a (.dK kvs)/\∀p,H p=none->Q (.ref p) (upd H p (Nd a p))):=by
 intro aa s σ H x xs v us Q I rx rs h;obtain⟨a,kvs,rfl,rfl,hd,q⟩:=h;cases rx;cases rs;obtain⟨z,y,vs,rel,dd⟩:=DN I.aI hd;refine call_meetsIn PySem.F.slot_dict_values dd.typeIs PySem.F.entry_dict_values (PySem.F.args_dict_values_1 _) (meets_dict_values (Ar X.prog X.w) a y) ⟨⟨vs,dd⟩,?_⟩;refine⟨.ref s.heap.objs.size,_,I.laid (t':=s.toks) (o:=Nd a s.heap.objs.size) (fun b o e=>ZX _ e) (Zy _) ⟨⟨_,ZN _ rfl,rfl,rfl⟩,⟨_,ZN _ rfl⟩,fun h1 h2 z k=>?_⟩,rfl,q _ (I.aI.fresh (Zy _))⟩;obtain⟨ob,e,r⟩:=z;exact⟨ob,k ob e,r⟩
theorem Ch {α β:Type}{F:α->β->Prop}:∀ {xs:List α}{ys:List β},xs.length=ys.length->(∀(j:Nat) x y,xs[j]?=some x->ys[j]?=some y->F x y)->Paired F xs ys
 | [],[],_,_=>.nil
 | [],_ :: _,h,_=>by simp at h
 |_ :: _,[],h,_=>by simp at h
 |x :: xs,y :: ys,h,k=>.cons (k 0 x y rfl rfl) (Ch (by simpa using h) fun j a b ea eb=>k (j + 1) a b (by simpa using ea) (by simpa using eb))
theorem MZ (hc:X.calm=true):Bb X (.type "list") (fun xs H Q=>∃a kvs,xs=[.ref a]/\Rd H a (.dK kvs)/\∀l,H l=none->Q (.ref l) (upd H l (.lst (kvs.map fun kv=>kV kv.1)))):=by
 intro aa s σ H xs us Q I r h;obtain⟨a,kvs,rfl,hd,q⟩:=h;obtain⟨u,rfl,ru⟩:=B4 r;cases ru;obtain⟨z,y,vs,rel,dd⟩:=DN I.aI hd;obtain⟨ep,da⟩:=dd.dictAt;have hl:=rel.length;refine W.kdl_call (W.kdl_dict (knd:=Ar X.prog X.w) (kvs:=vs) (ep:=ep) y) (I.ok.hd hc) da (by rw[←hl];exact z) fun h' tk acc c' keep e hit=>?_;refine⟨.ref s.heap.objs.size,_,I.laid (t':=tk) keep (Zy _) (show aT X.prog X.w _ h' _ (.lst (kvs.map fun kv=>kV kv.1))from⟨by rw[AH];exact z,acc.toList,c',?_,by rw[Array.toArray_toList];exact e⟩),rfl,q _ (I.aI.fresh (Zy _))⟩
 refine Ch (by have e0:acc.toList.length=acc.size:=by simp
               rw[AH,e0,hit.1,hl]) fun j v w' ev ew=>?_
 rw[Array.getElem?_toList]at ew;obtain⟨k,x,ex,hk⟩:=hit.2 j w' ew;rw[ZE]at ev;cases e2:kvs[j]? with
 |none=>rw[e2]at ev;cases ev
 |some kv =>
  rw[e2]at ev;simp only[Option.map_some,Option.some.injEq]at ev;obtain⟨v2,eY,_⟩:=KV.get rel e2;rw[ex]at eY;simp only[Option.some.injEq,Prod.mk.injEq]at eY;rw[←ev,←eY.1];exact FZ hk
theorem Hs (hc:X.calm=true):Bb X (.type "list") (fun xs H Q=>∃p a kvs,xs=[.ref p]/\H p=some (Nd a p)/\Rd H a (.dK kvs)/\∀l,H l=none->Q (.ref l) (upd H l (.lst (kvs.map (·.2))))):=by
 intro aa s σ H xs us Q I r h;obtain⟨p,a,kvs,rfl,hp,hd,q⟩:=h;obtain⟨u,rfl,ru⟩:=B4 r;cases ru;obtain⟨z,y,vs,rel,dd⟩:=DN I.aI hd;obtain⟨ep,da⟩:=dd.dictAt;obtain⟨hv,_⟩:=I.aI p _ hp;have hl:=rel.length;refine W.kdl_call (W.kdl_values (knd:=Ar X.prog X.w) (d:=a) (kvs:=vs) (ep:=ep)) (I.ok.hd hc) ⟨hv,da⟩ (by rw[←hl];exact z) fun h' tk acc c' keep e hit=>?_;refine⟨.ref s.heap.objs.size,_,I.laid (t':=tk) keep (Zy _) (show aT X.prog X.w _ h' _ (.lst (kvs.map (·.2)))from⟨by rw[AH];exact z,acc.toList,c',?_,by rw[Array.toArray_toList];exact e⟩),rfl,q _ (I.aI.fresh (Zy _))⟩
 refine Ch (by have e0:acc.toList.length=acc.size:=by simp
               rw[AH,e0,hit.1,hl]) fun j v w' ev ew=>?_
 rw[Array.getElem?_toList]at ew;obtain⟨k,ex⟩:=hit.2 j w' ew;rw[ZE]at ev;cases e2:kvs[j]? with
 |none=>rw[e2]at ev;cases ev
 |some kv =>
  rw[e2]at ev;simp only[Option.map_some,Option.some.injEq]at ev;obtain⟨v2,eY,rv2⟩:=KV.get rel e2;rw[ex]at eY;simp only[Option.some.injEq,Prod.mk.injEq]at eY;rw[←ev,eY.2];exact rv2
theorem Fa (hc:X.calm=true):Bb X (.builtin "sorted") (fun xs H Q=>∃a kvs,xs=[.ref a]/\Rd H a (.dK kvs)/\kvs.length < 64/\(∀kv∈kvs,∃i,kv.1=Sum.inl i) /\
  ∀(l:Addr) (ns:List Int),H l=none->ns.Perm (kvs.map fun kv=>match kv.1 with |Sum.inl i=>i |Sum.inr _=>0)->ns.Pairwise (· <= ·)->Q (.ref l) (upd H l (.lst (ns.map V.int)))):=by
 intro aa s σ H xs us Q I r h;obtain⟨a,kvs,rfl,hd,h64,hk,q⟩:=h;obtain⟨u,rfl,ru⟩:=B4 r;cases ru;obtain⟨z,y,vs,rel,dd⟩:=DN I.aI hd;obtain⟨ep,da⟩:=dd.dictAt;have hl:=rel.length;refine Calls.call_function_entry kind_sorted plain_sorted entry_sorted (args_sorted1 _) ?_;unfold Builtin.«sorted»;refine Zx (m:=checkCount "sorted" 1 1 _) (Zw ?_);refine Zx (W.kdu_collect (A:=X.A.in1) (W.kdl_dict (knd:=Ar X.prog X.w) (kvs:=vs) (ep:=ep) y) (I.ok.hd hc) da (by rw[←hl];exact z) fun h' tk acc keep hit=>?_)
 have ax:acc.toList.length=kvs.length:=by
  have e0:acc.toList.length=acc.size:=by simp
  rw[e0,hit.1,hl]
 refine Zx (wpAny_newList ?_ (by rw[ax];exact z))
 have bt:IntsAre acc.toList (kvs.map fun kv=>match kv.1 with |Sum.inl i=>i |Sum.inr _=>0):=by
  refine Co (Ch (by rw[AH,AH,ax]) fun j v w' ev ew=>?_);rw[Array.getElem?_toList]at ew;obtain⟨k,x,ex,hkk⟩:=hit.2 j w' ew;rw[ZE,ZE]at ev;cases e2:kvs[j]? with
  |none=>rw[e2]at ev;cases ev
  |some kv =>
   rw[e2]at ev;simp only[Option.map_some,Option.some.injEq]at ev;obtain⟨v2,eY,_⟩:=KV.get rel e2;rw[ex]at eY;simp only[Option.some.injEq,Prod.mk.injEq]at eY;obtain⟨i,hi⟩:=hk kv (ZQ e2);rw[eY.1,hi]at hkk;rw[←ev,hi];exact FZ hkk
 have I1:Inv X aa σ H { s with heap:=h',toks:=tk }:=I.kept keep;have jb:(h'.push { cls:=.type "list", data:=.seq acc.toList.toArray }).get? h'.objs.size=some (seqObj "list" acc.toList.toArray 0):=ZN _ rfl;refine Zx (ZK (wpAny_call_entry slot_list_sort ⟨_,jb,rfl⟩ entry_list_sort (list_sort_tree jb bt (by rw[ax];exact h64) fun out ns' a1 a2 a3=>⟨_,rfl,?_⟩) (args_list_sort _)));refine Zw ⟨_,rfl,?_⟩;have hn:H h'.objs.size=none:=I1.aI.fresh (Zy _);have bf:ns'.length=kvs.length:=by rw[a2.length_eq,AH]
 refine⟨.ref h'.objs.size,_,I1.laid (t':=tk) (o:=.lst (ns'.map V.int)) (h':=sortedHeap (h'.push { cls:=.type "list", data:=.seq acc.toList.toArray }) h'.objs.size acc.toList out) (fun b o e=>?_) (Zy _) ⟨by rw[AH,bf];exact z,out.toList,?_⟩,rfl,q _ ns' hn a2 a3⟩
 ·rw[sortedHeap_old (ZC (lt_size e)) (lt_size (ZX _ e))];exact ZX _ e
 ·obtain⟨c,hcx⟩:=sortedHeap_at (out:=out) jb;exact⟨c,Ea a1,by rw[Array.toArray_toList];exact hcx⟩
end
section
theorem Cq (hc:X.calm=true):Bb X (.builtin "all") (fun xs H Q=>∃(p:Addr) (bs:List Bool),xs=[.ref p]/\aH X.K H p (bs.map V.bl)/\Q (.bl (bs.all id)) H):=by
 intro aa s σ H xs us Q I r h;obtain⟨p,bs,rfl,hq,q⟩:=h;obtain⟨u,rfl,ru⟩:=B4 r;cases ru;obtain⟨its,rv,pl,hz⟩:=I.list hq;have hp:p < s.heap.objs.size:=by obtain⟨o,n,e,_⟩:=id pl;exact lt_size e
 have bf:bs.length=its.length:=by have:=rv.length;rw[AH]at this;exact this
 refine call_all_walk (wpAny_pyIter_list pl.isList ?_);refine⟨_,_,_,_,_,_,fun i=>bs.getD i false,rfl,Walks.list (A:=X.A.in1) (show X.A.in1.handled=none from I.ok.hd hc) _ p (ZC hp) its.toArray,⟨⟨_,ZN _ rfl,rfl,rfl⟩,pl.isList.at fun o e=>ZX _ e⟩,fun i v s' Q' E' hP hQ=>?_,fun h' tk keep=>?_⟩
 ·have hv:its[i]?=some v:=by simpa using hP
  have hi:i < its.length:=(Z8.mp hv).1;have hb:bs[i]?=some (bs[i]'qe):=Z7 qe;obtain⟨u',gF,ru'⟩:=rv.get (i:=i) (x:=V.bl (bs[i]'qe)) (by rw[ZE,hb];rfl);rw[hv]at gF;cases gF;cases (show v=Value.bool _ from ru');refine Z0 ?_;have hQ':Q' (bs.getD i false) s':=hQ;rw[getD_eq_getElem?_getD,hb]at hQ';exact hQ'
 ·have I1:Inv X aa σ H { s with heap:=h',toks:=tk }:=I.kept fun b o e=>keep b o (by simp;exact ZC (lt_size e)) (ZX _ e);refine⟨.bl _,H,I1,rfl,?_⟩
  have e:(List.range its.toArray.size).all (fun i=>bs.getD i false)=bs.all id:=by
   rw[size_toArray,←bf,Bool.eq_iff_iff,List.all_eq_true,List.all_eq_true];constructor
   ·intro h b hb;obtain⟨i,hi,rfl⟩:=List.mem_iff_getElem.mp hb;have:=h i (mem_range.mpr hi);rw[getD_eq_getElem?_getD,Z7 hi]at this;exact this
   ·intro h i hi;have js:=mem_range.mp hi;rw[getD_eq_getElem?_getD,Z7 js];exact h _ (List.getElem_mem js)
  rw[e];exact q
theorem Dx (ns:List Int):∀k,k <= ns.length->preSum (fun i=>ns.getD i 0) k=(ns.take k).sum
 |0,_=>by simp[preSum]
 |k + 1,h=>by
  have ih:=Dx ns k qe;have hk:k < ns.length:=by omega
  simp only[preSum,ih];rw[ZD,Z7 hk,sum_append];simp[getD_eq_getElem?_getD,Z7 hk]
theorem Jc (hc:iV X):Bb X (.builtin "sum") (fun xs H Q=>∃(p:Addr) (ns:List Int),xs=[.ref p]/\aH X.K H p (ns.map V.int)/\(∀n∈ns,0 <= n)/\ns.sum < 2 ^ 62/\Q (.int ns.sum) H):=by
 intro aa s σ H xs us Q I r h;obtain⟨p,ns,rfl,hq,kj,hsum,q⟩:=h;obtain⟨u,rfl,ru⟩:=B4 r;cases ru;obtain⟨its,rv,pl,hz⟩:=I.list hq;have hp:p < s.heap.objs.size:=by obtain⟨o,n,e,_⟩:=id pl;exact lt_size e
 have bf:ns.length=its.length:=by have:=rv.length;rw[AH]at this;exact this
 have tk0:∀k,0 <= (ns.take k).sum:=fun k=>by
  have:∀l:List Int,(∀n∈l,0 <= n)->0 <= l.sum:=fun l=>by
   induction l with
   |nil=>intro _;simp
   |cons a r ih=>intro h;rw[sum_cons];have:=h a ZI;have:=ih fun n hn=>h n (ZR _ hn);omega
  exact this _ fun n hn=>kj n (mem_of_mem_take hn)
 have tkle:∀k,(ns.take k).sum <= ns.sum:=fun k=>by
  have e:ns.sum=(ns.take k).sum + (ns.drop k).sum:=by rw[←sum_append,take_append_drop]
  have:∀l:List Int,(∀n∈l,0 <= n)->0 <= l.sum:=fun l=>by
   induction l with
   |nil=>intro _;simp
   |cons a r ih=>intro h;rw[sum_cons];have:=h a ZI;have:=ih fun n hn=>h n (ZR _ hn);omega
  have:=this _ fun n hn=>kj n (List.mem_of_mem_drop (i:=k) hn);omega
 refine call_sum_walk (wpAny_pyIter_list pl.isList ?_);obtain⟨fp,St,W,jR,iJ⟩:=MW hc I pl.isList;refine⟨_,_,_,_,_,_,fun i=>ns.getD i 0,rfl,W,jR,fun b hb=>?_,fun i v hP=>?_,fun j hj=>?_,fun h' tk t' keep=>?_⟩
 ·have hs:(s.heap.push { cls:=.type "list_iterator", data:=.fields #[.ref p,.int 0 0] }).objs.size=s.heap.objs.size + 1:=size_push ..;show b < (s.heap.push { cls:=.type "list_iterator", data:=.fields #[.ref p,.int 0 0] }).objs.size;rw[hs];exact iJ b hb
 ·have hv:its[i]?=some v:=by simpa using hP
  have hi:i < its.length:=(Z8.mp hv).1;have hb:ns[i]?=some (ns[i]'qe):=Z7 qe;obtain⟨u',gF,t,ru'⟩:=rv.get (i:=i) (x:=V.int (ns[i]'qe)) (by rw[ZE,hb];rfl);rw[hv]at gF;cases gF;refine⟨t,?_⟩;show v=Value.int (ns.getD i 0) t;rw[ru',getD_eq_getElem?_getD,hb];rfl
 ·have hj':j < ns.length:=by rw[size_toArray]at hj;omega
  rw[Dx ns (j + 1) qe];have h1:=tk0 (j + 1);have h2:=tkle (j + 1);have h3:ns.getD j 0=ns[j]:=by rw[getD_eq_getElem?_getD,Z7 hj'];rfl
  have h4:=kj _ (List.getElem_mem hj');have h5:(ns.take (j + 1)).sum=(ns.take j).sum + ns[j]:=by rw[ZD,Z7 hj',sum_append];simp
  have h6:=tk0 j;show InLong (ns.getD j 0)/\InLong _;unfold InLong;rw[h3];omega
 ·have I1:Inv X aa σ H { s with heap:=h',toks:=tk }:=I.kept fun b o e=>keep b o (by simp;exact ZC (lt_size e)) (ZX _ e);refine⟨.int ns.sum,H,I1,⟨t',?_⟩,q⟩;rw[size_toArray,←bf,Dx ns ns.length (Zy _),ZB]
theorem Pp (hc:X.calm=true):Bb X (.builtin "sum") (fun xs H Q=>∃(p:Addr) (ns:List Int),xs=[.ref p]/\aH X.K H p (ns.map V.int)/\(∀n∈ns,0 <= n)/\ns.sum < 2 ^ 62/\Q (.int ns.sum) H):=Jc (.inl hc)
theorem J6:iW X "int.bit_length" (fun x xs H Q=>∃i,x=.int i/\xs=[]/\Q (.int (Builtin.Int.intBits i)) H):=by
 intro aa s σ H x xs v us Q I rx rs h;obtain⟨i,rfl,rfl,q⟩:=h;obtain⟨t,rfl⟩:=rx;cases rs;exact call_int_bit_length ⟨.int _,H,I.tok _,⟨_,rfl⟩,q⟩
theorem Jd:eB X (compareOp .LtE) (fun x y H Q=>∃i j,x=.str i/\y=.str j/\Q (.bl (!decide (j.cps.toList < i.cps.toList))) H):=by
 intro aa s σ H x y v u Q I rx ry h;obtain⟨i,j,rfl,rfl,q⟩:=h;obtain⟨t,rfl⟩:=rx;obtain⟨t',rfl⟩:=ry;exact PySem.P.le_str (Av I q rfl)
theorem JC:iW X "dict.setdefault" (fun x xs H Q=>∃a kvs k v,x=.ref a/\xs=[kV k,v]/\H a=some (.dK kvs)/\kvs.length < sizeLine /\
  (∀w,As kvs k=some w->Q w H)/\(As kvs k=none->Q v (upd H a (.dK (BV kvs k v))))):=by
 intro aa s σ H x xs u us Q I rx rs h;obtain⟨a,kvs,k,v,rfl,rfl,hd,hl,q1,q2⟩:=h;cases rx;obtain⟨uk,uv,rfl,rk,rv⟩:=El rs;obtain⟨z,y,vs,rel,dd⟩:=NY I.aI hd;refine call_meetsIn PySem.F.slot_dict_setdefault dd.typeIs PySem.F.entry_dict_setdefault (PySem.F.args_dict_setdefault_3 _ _ _) (PySem.kt_meets_setdefault (Ar X.prog X.w) a (FV rk) y uv) ⟨vs,dd,by rw[←rel.length];exact z,fun w' hw=>?_,fun hn h' hW hs=>?_⟩
 ·have rr:=rel.val k;rw[hw]at rr;cases e:As kvs k with
  |none=>rw[e]at rr;exact False.elim rr
  |some w=>rw[e]at rr;exact⟨w,H,I.tok _,rr,q1 w e⟩
 ·have rr:=rel.val k;rw[hn]at rr
  have e:As kvs k=none:=by
   cases e:As kvs k with
   |none=>rfl
   |some w=>rw[e]at rr;exact False.elim rr
  have he:∃q,h'.get? a=some q:=let ⟨q,_,_,hq,_⟩:=hW;⟨q,hq⟩
  have iI:(BV kvs k v).length <= sizeLine:=by have:=Bm kvs k v;omega
  exact⟨v,_,FW I (by rw[hd];exact True.intro) hs he (Hk iI y (rel.put k rv) hW),rv,q2 e⟩
theorem Pq:Bb X (.builtin "isinstance") (fun xs H Q=>∃v T t b,xs=[v,.ty T]/\eQ X.K H v t/\W.kitOne X.K t (.type T)=some b/\Q (.bl b) H):=by
 intro aa s σ H xs us Q I r h;obtain⟨v,T,t,b,rfl,ty,hk,q⟩:=h;obtain⟨u,uT,rfl,ru,jj⟩:=El r;cases (show uT=Value.type T from jj);exact JN I ru ty hk fun tk=>⟨.bl b,H,I.tok tk,rfl,q⟩
end
noncomputable def K2 (d:Int):List Int->Int
 | []=>d
 |n :: r=>r.foldl max n
theorem Je (d:Int) (ns:List Int) (n:Int) (h:ns≠ []):K2 d (ns++[n])=max (K2 d ns) n:=by
 cases ns with
 |nil=>exact absurd rfl h
 |cons a r=>show(r++[n]).foldl max a=_;rw[foldl_append];rfl
theorem OO (a v:Value):argsOk "max" ⟨[a],[(Str.ofString "default", v)]⟩:=by unfold argsOk;kernel_rfl
section
variable {prog:Program}{R:Result->Shared->Prop}{s:Shared}{p I S:Addr}{its:List Value}{ns:List Int}{d:Value}
noncomputable def Pr:Option (Int×Tok)->Array Value
 |none=>#[]
 |some (m,t)=>#[.int m t,.int m t]
theorem OP (hh:A.handled=none) (bt:IntsAre its ns) (hpI:p≠I) (hSI:S≠I) (hpS:p≠S)
  (hR:∀h' tk v,(∀b o,b≠I->b≠S->s.heap.get? b=some o->h'.get? b=some o)->(ns=[]->v=d)->(ns≠ []->∃t,v=.int (K2 0 ns) t)->R (.ok (.ret v)) { s with heap:=h',toks:=tk }) :
  ∀(k i:Nat) (h:Heap) (tk c:Nat) (b:Option (Int×Tok)),its.length - i=k->i <= its.length->h.IsListIter I p i->h.IsList p its.toArray->h.get? S=some { cls:=.type "list", data:=.seq (Pr b) c } ->
   (b=none->i=0)->(∀m t,b=some (m,t)->0 < i/\m=K2 0 (ns.take i))->(∀b' o,b'≠I->b'≠S->s.heap.get? b'=some o->h.get? b'=some o) ->
   codeAny (model prog w) A (.builtin "max.loop" ⟨[.ref I,.none,.ref S],[(Str.ofString "default", d)]⟩) R { s with heap:=h,toks:=tk }:=by
 have cg:(toString "max" ++ toString ".loop" : String) = "max.loop" := by decide
 have bf:=bt.length;intro k;induction k with
 |zero =>
  intro i h tk c b hk hi hit hl hS hb0 kQ keep;have e:i=its.length:=by omega
  refine codeAny_builtin PySem.F.entry_max_loop ?_;rw[Around.under_plainId PySem.F.plain_max_loop _];show wpAny _ A.in1 (seqItems? (.ref S) >>= _) _ _ _;refine Zx (wpAny_seqItems hS rfl ?_);show wpAny _ A.in1 (tryCatch (pyNext (.ref I)) _ >>= _) _ _ _;refine Zx (wpAny_tryCatch (wpAny_pyNext_list_end (show A.in1.handled=none from hh) hit hl (by simp;omega) fun h' eb=>?_));cases b with
  |none =>
   have hn:ns=[]:=by
    have:=hb0 rfl;exact List.eq_nil_of_length_eq_zero qe
   exact Zx (wpAny_rule (Zw (hR h' tk d (fun b o h1 h2 q=>eb b o h1 (keep b o h1 h2 q)) (fun _=>rfl) fun z=>absurd hn z)))
  |some mt =>
   obtain⟨m,t⟩:=mt;obtain⟨hpos,hm⟩:=kQ m t rfl
   have az:ns≠ []:=fun z=>by
    have:its.length=0:=by rw[bf,z];rfl
    omega
   show wpAny _ A.in1 (updateSeq S (fun _=>#[]) >>= _) _ _ _;refine Zx (wpAny_updateSeq (eb S _ hSI hS) rfl (Zx (wpAny_letGo (Zw ?_))) gc);refine hR _ tk _ (fun b o h1 h2 q=>(ZW _ _ (Ne.symm h2)).trans (eb b o h1 (keep b o h1 h2 q))) (fun z=>absurd z az) fun _=>⟨t,?_⟩;rw[hm,e,bf,ZB]
 |succ k ih =>
  intro i h tk c b hk hi hit hl hS hb0 kQ keep;have hlt:i < its.length:=by omega
  have hv:its[i]?=some its[i]:=Z7 hlt
  obtain⟨n,t,hn,hvt⟩:∃n t,ns[i]?=some n/\its[i]=.int n t:=by
   have jr:i < ns.length:=by omega
   obtain⟨u,hu,t,ru⟩:=(Ea bt).get (i:=i) (x:=V.int ns[i]) (by rw[ZE,Z7 jr];rfl);rw[hv]at hu;exact⟨ns[i],t,Z7 jr,(Option.some.inj hu).trans ru⟩
  refine codeAny_builtin PySem.F.entry_max_loop ?_;rw[Around.under_plainId PySem.F.plain_max_loop _];show wpAny _ A.in1 (seqItems? (.ref S) >>= _) _ _ _;refine Zx (wpAny_seqItems hS rfl ?_);show wpAny _ A.in1 (tryCatch (pyNext (.ref I)) _ >>= _) _ _ _;refine Zx (wpAny_tryCatch (wpAny_pyNext_list_item hit hl (x:=.int n t) (by simpa[hvt]using hv) fun h' hit' sb=>?_));have hS':h'.get? S=some { cls:=.type "list", data:=.seq (Pr b) c }:=(sb.2 S hSI).trans hS;have iI:h'.IsList p its.toArray:=hl.at fun o q=>(sb.2 p hpI).trans q;have keep':∀b' o,b'≠I->b'≠S->s.heap.get? b'=some o->h'.get? b'=some o:=fun b' o h1 h2 q=>(sb.2 b' h1).trans (keep b' o h1 h2 q);have etk:ns.take (i + 1)=ns.take i++[n]:=by rw[ZD,hn];rfl
  have store:∀c0,(∀v,v=Value.int n t->(h'.update S (Obj.mapSeq fun _=>#[v,v])).get? S=some { cls:=.type "list", data:=.seq (Pr (some (n,t))) c0 })->n=K2 0 (ns.take (i + 1)) ->
    codeAny (model prog w) A (.builtin "max.loop" ⟨[.ref I,.none,.ref S],[(Str.ofString "default", d)]⟩) R { s with heap:=h'.update S (Obj.mapSeq fun _=>#[.int n t,.int n t]),toks:=tk }:=fun c0 e0 em =>
   ih (i + 1) _ tk c0 (some (n,t)) qe hlt (hit'.at fun o q=>(ZW _ _ hSI).trans q) (iI.at fun o q=>(ZW _ _ (Ne.symm hpS)).trans q) (e0 _ rfl) (fun z=>by cases z)
    (fun m t' z=>by cases z;exact⟨Nat.succ_pos _,em⟩) fun b' o h1 h2 q=>(ZW _ _ (Ne.symm h2)).trans (keep' b' o h1 h2 q)
  cases b with
  |none =>
   have hi0:=hb0 rfl;show wpAny _ A.in1 (updateSeq S (fun _=>#[Value.int n t,Value.int n t]) >>= _) _ _ _;refine Zx (wpAny_updateSeq hS' rfl ?_);rw[cg];refine Zw ⟨plainId_quiet PySem.F.plain_max_loop _,store _ (fun v e=>by subst e;exact get?_update_seq hS' fun _=>#[_,_]) ?_⟩;rw[etk,hi0];rfl
  |some mt =>
   obtain⟨m,t0⟩:=mt;obtain⟨hpos,hm⟩:=kQ m t0 rfl
   have az:ns.take i≠ []:=fun z=>by
    have:=congrArg List.length z;rw[ZA,length_nil]at this;omega
   show wpAny _ A.in1 (tryCatch (holding [Value.int n t,Value.int n t] (richCompare .Gt (.int n t) (.int m t0) >>= _)) _ >>= _) _ _ _
   refine Zx (wpAny_tryCatch (ZK (Zx (CmpOf.ints_gt (P:=fun i v=>(i=0/\v=.int n t)\/(i=1/\v=.int m t0)) (fun i=>if i=0 then n else m) (fun i v h=>by
    rcases h with⟨rfl,rfl⟩ |⟨rfl,rfl⟩
    ·exact⟨t,rfl⟩
    ·exact⟨t0,rfl⟩) 0 1 _ _ _ _ _ (.inl ⟨rfl,rfl⟩) (.inr ⟨rfl,rfl⟩) ?_))))
   refine Zx (ZK (Z0 ?_));refine Zx (wpAny_letGo (Zw ?_));by_cases hgt:n > m
   ·have e1:(fun (i j:Nat)=>decide ((if i=0 then n else m) > if j=0 then n else m)) 0 1=true:=ZL hgt;rw[e1];simp only[if_true];refine Zx (wpAny_updateSeq hS' rfl (Zx (wpAny_letGo ?_)) gc);rw[cg];refine Zw ⟨plainId_quiet PySem.F.plain_max_loop _,store _ (fun v e=>by subst e;exact get?_update_seq hS' fun _=>#[_,_]) ?_⟩;rw[etk,Je 0 _ n az,←hm];omega
   ·have e1:(fun (i j:Nat)=>decide ((if i=0 then n else m) > if j=0 then n else m)) 0 1=false:=ZO hgt;rw[e1];simp only[Bool.false_eq_true,if_false];refine Zx (wpAny_letGo ?_);rw[cg]
    refine Zw ⟨plainId_quiet PySem.F.plain_max_loop _,ih (i + 1) _ tk c (some (m,t0)) qe hlt hit' iI hS' (fun z=>by cases z) (fun m' t' z=>by
     cases z;refine⟨Nat.succ_pos _,?_⟩;rw[etk,Je 0 _ n az,←hm]
     omega) keep'⟩
end
section
variable {c:Expr}{tc:TE}{p kp:Pos}
theorem Nf (hc:X.calm=true) (hg:Gl X "max") (hm:X.mg "max" = none) (he:PE X e te) (hcc:PE X c tc) (hs:starEach [e] X.env=(false,eval e X.env) :: starEach [] X.env:=by rfl)
  (ja:backTo pos (starEach [e] X.env)=(false,eval e X.env) :: backTo pos (starEach [] X.env):=by rfl) :
  PE X (.Call (.Name "max" p) [e] [⟨some "default", c,kp⟩] pos) (fun σ H Q=>te σ H fun x H1=>tc σ H1 fun y H2=>∃(a:Addr) (ns:List Int) (d:Int),x=.ref a/\y=.int d/\aH X.K H2 a (ns.map V.int)/\(ns=[]->Q (.int d) H2)/\(ns≠ []->Q (.int (K2 0 ns)) H2)):=by
 intro aa s σ H Q I h;refine Z3 (Eu (u:=.builtin "max") I hg hm boot_max ?_)
 let R3:V->V->Hp->Prop:=fun x y H2=>∃(a:Addr) (ns:List Int) (d:Int),x=.ref a/\y=.int d/\aH X.K H2 a (ns.map V.int)/\(ns=[]->Q (.int d) H2)/\(ns≠ []->Q (.int (K2 0 ns)) H2)
 refine callWith_kw (aJ ((AA he AB hs:PA X [e] (Ay te Dr)) pos aa s σ H (fun vs H1=>match vs with | [x]=>tc σ H1 (fun y H2=>R3 x y H2) |_=>False) I h) fun us s1 ⟨vs,H1,I1,r1,q1⟩=>?_) ja (by rw[ja];rfl)
 match vs,r1,q1 with
 | [x],r1,q1 =>
  refine aJ ((EZ (nm:=some "default") (kpos:=kp) hcc HX:PK X [⟨some "default", c,kp⟩] (Ay tc Dr)) pos aa s1 σ H1 (fun vs H2=>match vs with | [y]=>R3 x y H2 |_=>False) I1 q1) fun us2 s2 ⟨vs2,H2,I2,r2,q2⟩=>?_
  match vs2,r2,q2 with
  | [y],r2,q2 =>
   obtain⟨a,ns,d,rfl,rfl,hq,k1,k2⟩:=q2;obtain⟨u,rfl,ru⟩:=B4 r1;cases ru;obtain⟨ud,rfl,td,rud⟩:=B4 r2;subst rud;obtain⟨its,rv,pl,hz⟩:=I2.list hq;have hp:a < s2.heap.objs.size:=by obtain⟨o,n,e,_⟩:=id pl;exact lt_size e
   show wpAny _ _ (call (.builtin "max") [.ref a] [(Str.ofString "default", .int d td)]) _ _ _;refine PyProof.Rows.kmk_tree PySem.F.kind_max PySem.F.plain_max PySem.F.entry_max (OO _ _) ?_;show wpAny _ X.A.in1 (Builtin.Builtins.bindParams "max" ["key", "default"] 0 ⟨[],[(Str.ofString "default", .int d td)]⟩ >>= _) _ _ _;refine Zx (wpAny_of_eq (show Builtin.Builtins.bindParams "max" ["key", "default"] 0 ⟨[],[(Str.ofString "default", Value.int d td)]⟩=pure [none,some (.int d td)]from rfl) ?_);refine Zx (Zw ?_);refine Zx (wpAny_pyIter_list pl.isList ?_);refine Zx (wpAny_newList ?_ (Nat.zero_le _));have cg:(toString "max" ++ toString ".loop" : String) = "max.loop" := by decide
   rw[cg];have hS:(s2.heap.push { cls:=.type "list_iterator", data:=.fields #[.ref a,.int 0 0] }).objs.size=s2.heap.objs.size + 1:=size_push ..
   refine Zw ⟨plainId_quiet PySem.F.plain_max_loop _,OP (its:=its) (ns:=ns) (s:=s2) (I.ok.hd hc) (Co rv) (ZC hp) (by rw[hS];exact Nat.succ_ne_self _) (by rw[hS];exact ZC (Nat.lt_succ_of_lt hp))
    (fun h' tk v keep e1 e2=>?_) _ 0 _ _ 0 none rfl (Nat.zero_le _) ⟨_,ZX _ (ZN _ rfl),rfl,rfl⟩ (pl.isList.at fun o q=>ZX _ (ZX _ q)) (ZN _ rfl) (fun _=>rfl) (fun m t z=>by cases z) fun b o h1 h2 q=>ZX _ (ZX _ q)⟩
   have I3:Inv X aa σ H2 { s2 with heap:=h',toks:=tk }:=I2.kept fun b o q=>keep b o (ZC (lt_size q)) (by rw[hS];exact ZC (Nat.lt_succ_of_lt (lt_size q))) q;by_cases hn:ns=[]
   ·rw[e1 hn];exact⟨.int d,H2,I3,⟨td,rfl⟩,k1 hn⟩
   ·obtain⟨t,ev⟩:=e2 hn;rw[ev];exact⟨.int _,H2,I3,⟨t,rfl⟩,k2 hn⟩
end
def aE (H:Hp):List Addr->List (V×V)->Prop:=Paired fun b p=>H b=some (.tup [p.1,p.2])
theorem aE.same {as:List Addr}{ps:List (V×V)} (s:∀b o,H b=some o->H' b=some o) (h:aE H as ps):aE H' as ps:=Paired.mapP h fun _ _ e=>s _ _ e
theorem Inv.trackTups {s:Shared}{as:List Addr}{ps:List (V×V)} (hr:Paired (fun a (p:V×V)=>∃its,Vals [p.1,p.2] its/\IsTup s.heap a its.toArray) as ps):∀(H:Hp),Inv X aa σ H s->as.Pairwise (· < ·) ->
  (∀a∈as,H a=none/\a≠X.env.locals/\X.bA.heap.objs.size <= a/\(∀x c,X.env.cells.lookup x=some c->c≠a)/\∀q∈X.pn++aa,q.1≠a)->∃H',Inv X aa σ H' s/\aB H H'/\aE H' as ps:=by
 induction hr with
 |nil=>intro H I _ _;exact⟨H,I,aB.refl H,.nil⟩
 | @cons a p as ps h hr ih =>
  intro H I hp aI;obtain⟨its,hv,ht⟩:=h;obtain⟨p1,p2⟩:=List.pairwise_cons.mp hp;obtain⟨o1,o2,o3,o4,o5⟩:=aI a ZI;have I1:Inv X aa σ (upd H a (.tup [p.1,p.2])) s:=I.track o1 o2 (.inr o3) o4 o5 ⟨by show 2 <= sizeLine;decide,its,hv,ht⟩;have s1:aB H (upd H a (.tup [p.1,p.2])):=fun b u e=>by rw[AF (AG e o1)];exact e
  obtain⟨H',I',s',t'⟩:=ih _ I1 p2 (fun b hb=>by
   obtain⟨q1,q2⟩:=aI b (ZR _ hb)
   exact⟨by rw[AF (Nat.ne_of_gt (p1 b hb))];exact q1,q2⟩)
  exact⟨H',I',s1.trans s',.cons (s' _ _ aA) t'⟩
theorem Ma (hc:X.calm=true):Bb X (.type "list") (fun xs H Q=>∃p a kvs,xs=[.ref p]/\H p=some (Nb a p)/\Rd H a (.dK kvs) /\
  ∀l as H',aB H H'->H l=none->H' l=some (.lst (as.map V.ref))->aE H' as (kvs.map fun kv=>(kV kv.1,kv.2))->Q (.ref l) H'):=by
 intro aa s σ H xs us Q I r h;obtain⟨p,a,kvs,rfl,hp,hd,q⟩:=h;obtain⟨u,rfl,ru⟩:=B4 r;cases ru;obtain⟨z,y,vs,rel,dd⟩:=DN I.aI hd;obtain⟨ep,da⟩:=dd.dictAt;obtain⟨hv,_⟩:=I.aI p _ hp;have hl:=rel.length;refine W.kdx_call (knd:=Ar X.prog X.w) (kvs:=vs) (ep:=ep) (I.ok.hd hc) hv da (by rw[←hl];exact z) fun h' tk acc c as keep e bf G b9=>?_;have I1:Inv X aa σ H { s with heap:=h',toks:=tk }:=I.kept keep;obtain⟨n1,n2,n3,n4,n5⟩:=I.newOk (Zy s.heap.objs.size);have el:acc=(as.map Value.ref).toArray:=by rw[←b9]
 have I2:Inv X aa σ (upd H s.heap.objs.size (.lst (as.map V.ref))) { s with heap:=h',toks:=tk }:=I1.track n1 n2 (.inr n3) n4 n5 ⟨by rw[AH,bf,←hl];exact z,as.map Value.ref,c,Ch (by rw[AH,AH]) fun j v w' ev ew=>by
  rw[ZE]at ev ew;cases e2:as[j]? with
  |none=>rw[e2]at ev;cases ev
  |some b=>rw[e2]at ev ew;cases ev;cases ew;rfl,by rw[←el];exact e⟩
 have hpp:Paired (fun a (p:V×V)=>∃its,Vals [p.1,p.2] its/\IsTup h' a its.toArray) as (kvs.map fun kv=>(kV kv.1,kv.2)):=(Ch (by rw[AH,bf,hl]) fun j b pr eb jv=>by
   obtain⟨key,k,x,ex,hk,ho⟩:=G.pairs j b eb;rw[ZE]at jv;cases e2:kvs[j]? with
   |none=>rw[e2]at jv;cases jv
   |some kv =>
    rw[e2]at jv;simp only[Option.map_some,Option.some.injEq]at jv;obtain⟨v2,eY,rv2⟩:=KV.get rel e2;rw[ex]at eY;simp only[Option.some.injEq,Prod.mk.injEq]at eY;subst jv;refine⟨[key,x],.cons ?_ (.cons ?_ .nil),_,ho,rfl,_,rfl⟩
    ·show RelV (kV kv.1) key;rw[←eY.1];exact FZ hk
    ·show RelV kv.2 x
     rw[eY.2];exact rv2)
 obtain⟨H',I',s',t'⟩:=Inv.trackTups (s:={ s with heap:=h',toks:=tk }) hpp _ I2 G.rise (fun b hb=>by
   have hgt:=G.above b hb;obtain⟨m1,m2,m3,m4,m5⟩:=I.newOk (Nat.le_of_lt hgt)
   exact⟨by rw[AF (Nat.ne_of_gt hgt)];exact m1,m2,m3,m4,m5⟩)
 exact⟨.ref s.heap.objs.size,H',I',rfl,q _ as H' (fun b u e=>s' b u (by rw[AF (AG e n1)];exact e)) n1 (s' _ _ aA) t'⟩
mutual
def Ce (K:FG) (H:Hp):PyData->V->Prop
 | .none,v=>v=.aU
 | .bool b,v=>v=.bl b
 | .int i,v=>v=.int i
 | .str x,v=>v=.str x
 | .list ds,v=>∃a xs,v=.ref a/\aH K H a xs/\BW K H ds xs
 | .tuple ds,v=>∃a xs,v=.ref a/\aY K H a xs/\BW K H ds xs
 | .dict _,_=>False
def BW (K:FG) (H:Hp):List PyData->List V->Prop
 | [],xs=>xs=[]
 |d :: ds,xs=>∃x r,xs=x :: r/\Ce K H d x/\BW K H ds r
end
section
variable {s:Shared}
mutual
theorem Inv.reads (I:Inv X aa σ H s):∀(d:PyData) (v:V) (u:Value),RelV v u->Ce X.K H d v->∃as,Reads s.heap u d as
 | .none,v,u,r,h=>by
  have e:v=.aU:=by simpa[Ce]using h
  subst e;cases r;exact⟨_,.none⟩
 | .bool b,v,u,r,h=>by
  have e:v=.bl b:=by simpa[Ce]using h
  subst e;cases r;exact⟨_,.bool b⟩
 | .int i,v,u,r,h=>by
  have e:v=.int i:=by simpa[Ce]using h
  subst e;obtain⟨t,rfl⟩:=r;exact⟨_,.int i t⟩
 | .str x,v,u,r,h=>by
  have e:v=.str x:=by simpa[Ce]using h
  subst e;obtain⟨t,rfl⟩:=r;exact⟨_,.str x t⟩
 | .list ds,v,u,r,h=>by
  rw[Ce]at h;obtain⟨a,xs,rfl,hq,hd⟩:=h;cases r;obtain⟨its,rv,⟨o,n,e,c,_,dd⟩,_⟩:=I.list hq;obtain⟨as,hr⟩:=I.readsAll ds xs its rv hd;exact⟨_,.list e c dd (by simpa using hr)⟩
 | .tuple ds,v,u,r,h=>by
  rw[Ce]at h;obtain⟨a,xs,rfl,hq,hd⟩:=h;cases r;obtain⟨its,rv,⟨o,e,c,n,dd⟩,_⟩:=I.tuple hq;obtain⟨as,hr⟩:=I.readsAll ds xs its rv hd;exact⟨_,.tuple e c dd (by simpa using hr)⟩
 | .dict kvs,v,u,r,h=>by
  rw[Ce]at h;exact h.elim
theorem Inv.readsAll (I:Inv X aa σ H s):∀(ds:List PyData) (xs:List V) (us:List Value),Vals xs us->BW X.K H ds xs->∃as,ReadsAll s.heap us ds as
 | [],xs,us,r,h=>by
  have e:xs=[]:=by simpa[BW]using h
  subst e;cases r;exact⟨_,.nil⟩
 |d :: ds,xs,us,r,h=>by
  rw[BW]at h;obtain⟨x,xr,rfl,h1,h2⟩:=h;cases r with
  |cons p q =>
   obtain⟨as,h3⟩:=I.reads d x _ p h1;obtain⟨bs,h4⟩:=I.readsAll ds xr _ q h2;exact⟨_,.cons h3 h4⟩
end
end
section
theorem Ps (K:FG) (hK:X.K=K) (hu:X.A.units + 64 < cLine):eB X (compareOp .Eq) (fun x y H Q=>∃dx dy,Ce K H dx x/\Ce K H dy y/\SeqAt.shaped dx=true/\SeqAt.shaped dy=true/\Q (.bl (PyData.eqv dx dy)) H):=by
 subst hK;intro aa s σ H x y v u Q I rx ry h;obtain⟨dx,dy,h1,h2,s1,s2,q⟩:=h;obtain⟨as,r1⟩:=I.reads dx x v rx h1;obtain⟨bs,r2⟩:=I.reads dy y u ry h2;exact eq_dataH r1 r2 s1 s2 hu ⟨.bl _,H,I,rfl,q⟩
theorem Pt (K:FG) (hK:X.K=K) (hu:X.A.units + 64 < cLine):eB X (compareOp .NotEq) (fun x y H Q=>∃dx dy,Ce K H dx x/\Ce K H dy y/\SeqAt.shaped dx=true/\SeqAt.shaped dy=true/\Q (.bl (!PyData.eqv dx dy)) H):=by
 subst hK;intro aa s σ H x y v u Q I rx ry h;obtain⟨dx,dy,h1,h2,s1,s2,q⟩:=h;obtain⟨as,r1⟩:=I.reads dx x v rx h1;obtain⟨bs,r2⟩:=I.reads dy y u ry h2;exact ne_dataH r1 r2 s1 s2 hu ⟨.bl _,H,I,rfl,q⟩
theorem Ty (K:FG) (hK:X.K=K) (hu:X.A.units + 64 < cLine):eB X (compareOp .Eq) (fun x y H Q=>∃(a b:Addr) (ns ms:List Int),x=.ref a/\y=.ref b/\aH K H a (ns.map V.int)/\aH K H b (ms.map V.int)/\Q (.bl (decide (ns=ms))) H):=by
 subst hK;intro aa s σ H x y v u Q I rx ry h;obtain⟨a,b,ns,ms,rfl,rfl,h1,h2,q⟩:=h;cases rx;cases ry;obtain⟨is1,r1,p1,_⟩:=I.list h1;obtain⟨is2,r2,p2,_⟩:=I.list h2;exact W.ke_eq_ints p1.isList p2.isList (Co r1) (Co r2) hu ⟨.bl _,H,I,rfl,q⟩
def Tz (C:Addr) (sp:Sp) (gV:List V->List V->List V) (E:XK) (t tk:TA):TE:=fun σ H Q=>t σ H fun vs H1=>tk σ H1 fun zs H2=>∀x dx,H2 x=none->H2 dx=none->dx≠x ->
 sp (gV (.ref x :: vs) zs) (upd (upd H2 dx (.own x)) x (.ins C dx [])) (fun v H3=>v=.aU/\Q (.ref x) H3) E
variable {k:Nat}{fd:FuncData}{ps ks:List Str}{sp:Sp}{p:Pos}{es:List Expr}{i9:List Keyword}{t tk:TA}{g:List Value->List Value->List Value}{gV:List V->List V->List V}
theorem Fb (M:Mk X.K C f) (F:AY X.prog X.w X.K X.mg X.base aO k f fd ps sp) (hr:aG (k + 1) X.A) (hg:Gl X x) (hm:X.mg x=some (.ref C)) (hb:HY X.K fd ps ks g gV)
  (ha:PA X (e :: es) t) (hkw:PK X i9 tk) (br:(backToKw pos (keywordEach i9 X.env)).all (·.1.isSome)=true:=by rfl) (hks:(backToKw pos (keywordEach i9 X.env)).filterMap (·.1)=ks:=by rfl)
  (eV:(x == ("__debug__" : Str))=false:=by decide) (he:starEach (e :: es) X.env=(false,eval e X.env) :: starEach es X.env:=by rfl)
  (eM:((backTo pos (starEach (e :: es) X.env)).any (·.1) || (backToKw pos (keywordEach i9 X.env)).any (·.1.isNone))=false:=by rfl) :
  PE X (.Call (.Name x p) (e :: es) i9 pos) (Tz C sp gV E0 t tk):=by
 intro aa s σ H Q I h;refine Z3 (B2 I hg hm ?_ eV);refine W.callWith_KW (h₀:=X.base) I.ok.mod.kin M.kp br (aJ (ha pos aa s σ H _ I h) fun us s1 ⟨vs,H1,I1,r,q⟩=>?_) eM he;refine aJ (hkw pos aa s1 σ H1 _ I1 q) fun ws s2 ⟨zs,H2,I2,rz,q2⟩=>⟨I2.cS,?_⟩;rw[hks];have hq:=q2 (s2.heap.objs.size + 1) s2.heap.objs.size (I2.aI.fresh (Nat.le_succ _)) (I2.aI.fresh (Zy _)) (ZC (Nat.lt_succ_self _));have I3:=Inv.made (C:=C) I2;have r2:Vals (gV (V.ref (s2.heap.objs.size + 1) :: vs) zs) (g (Value.ref (s2.heap.objs.size + 1) :: us) ws):=hb.rel (.cons rfl r) rz;have hl:(g (Value.ref (s2.heap.objs.size + 1) :: us) ws).length=ps.length:=by rw[←r2.length];exact F.len _ _ _ _ hq
 refine wpAny_call (Kp (f:=f) I2.cS M.makes M.init (beq_iff_eq.mp M.fn) (codeAny_mono (F.run _ X.stack _ _ ⟨Value.ref (s2.heap.objs.size + 1) :: us,ks.zip ws⟩ _ _ _ E0 (hr.make C us (ks.zip ws)) (I3.gK.make C us (ks.zip ws)) (hb.to _ _ _ I3.cS hl) r2 hq) fun r' s' f6=>?_));cases r' with
 |error e=>exact f6.elim
 |ok fl =>
  cases fl with
  |ret u =>
   obtain⟨v,H',I4,rv,ev,q3⟩:=I3.after f6;subst ev;exact⟨rv,⟨V.ref (s2.heap.objs.size + 1),H',I4,rfl,q3⟩⟩
  |next=>exact False.elim f6
  |brk=>exact False.elim f6
  |cont=>exact False.elim f6
def WF (i j:Int):Prop:=Builtin.Int.intBits i <= 2 ^ 20/\Builtin.Int.intBits j <= 2 ^ 20
theorem J7:eB X (binaryOp .Mult) (rI WF fun i j=>.int (i * j)):=jV fun _ _ _ _ _ _ _ hc q=>mul_int q (IntMulOk.of_bits hc.1 hc.2)
def VQ (i j:Int):Prop:=0 < j/\Builtin.divisionGoesByPylong i j=false
theorem Pu:eB X (binaryOp .FloorDiv) (rI VQ fun i j=>.int (i / j)):=jV fun i j _ _ _ _ _ hc q=>by
 have h1:(0:Int) < j:=hc.1;exact floordiv_int qe (by rw[Int.fdiv_eq_ediv_of_nonneg i qe];exact q) (.inl hc.2)
end
section
variable {prog:Program}{s:Shared}{x y:Addr}{ox oy:Obj}{od od':Option Obj}
theorem J8 {M:Model}{args:List Value}{Q:Option Value->Shared->Prop} (X:K.In s.heap) (I:W.InstAt s.heap x ox C od) (hs:W.findIn K (.ref C) "__ne__" = some (some (.builtin "object.__ne__")))
  (h:wpAny M A (call (.builtin "object.__ne__") (.ref x :: args)) (fun v=>Q (some v)) E s):wpAny M A (callSpecialIfBound? (.ref x) "__ne__" args) Q E s:=by
 simp only[callSpecialIfBound?,bindSpecialIfBound?];refine ZK (Zx (Zx (Zx (I.type.here ((W.looks_findIn X hs).here ?_)))));simp only[PySem.F.cmp_object.ne.bind];refine Zx (wpAny_askSetting (wpAny_ite ?_));have fin:wpAny M A (call (.builtin "object.__ne__") ([.ref x]++args) >>= fun v=>pure (some v)) Q E s:=Zx (Zv h (fun v s' h'=>Zw h') fun _ _ h'=>h');split
 ·exact Zx (Zw (Zw fin))
 ·exact wpAny_tryCatch (Zx (Zw (Zw fin)))
theorem K4 {Q:VS} (hu:A.units + 1 < cLine) (X:K.In s.heap) (I:W.InstAt s.heap x ox C od) (hm:W.mroIn K C (.type "object")=some true) (hr:W.findIn K (.ref C) "__eq__" = some (some (.ref f))) (hf:W.isFn K (.ref f)=true)
    (h:wpAny (model prog w) A.in1 (call (.ref f) [.ref x,.ref y]) (fun v s'=>∃b,v=.bool b/\Q (.bool (!b)) s') E s):wpAny (model prog w) A (call (.builtin "object.__ne__") [.ref x,.ref y]) Q E s:=by
  refine wpAny_call (codeAny_call_builtin PySem.F.cmp_object.ne.plain PySem.F.cmpEntry_ne (W.check_slot (i := "object.__ne__") (owner := "object") (n := "__ne__") qb qb (I.type.andThen (W.looks_mroIn X hm)) (PySem.F.cmpArgs_ne _ _) ?_));unfold Builtin.«object.__ne__»
  repeat (first
    |with_reducible refine wpAny_cRoomFor (by show A.in1.units < cLine;exact hu) ?_
    | (refine Zx (m:=callSpecialIfBound? (.ref x) (Str.ofString "__eq__") [.ref y])
        (W.ifBound_K X I hr hf (Zv h (fun r s' hr=>by
          obtain⟨b,rfl,hq⟩:=hr
          repeat (first |exact hq |exact⟨_,rfl,hq⟩ |exact Zw ⟨_,rfl,hq⟩ | (refine Zx (m:=truthy (.bool _)) (Z0 ?_)) |wp_step)) fun _ _ e=>e)))
    |wp_step)
theorem T3 {Q:VS} (hu:A.units + 1 < cLine) (X:K.In s.heap) (I:W.InstAt s.heap x ox C od) (J:W.InstAt s.heap y oy C od') (hm:W.mroIn K C (.type "object")=some true)
  (hn:W.findIn K (.ref C) "__ne__" = some (some (.builtin "object.__ne__"))) (hr:W.findIn K (.ref C) "__eq__" = some (some (.ref f))) (hf:W.isFn K (.ref f)=true)
  (h:wpAny (model prog w) A.in1 (call (.ref f) [.ref x,.ref y]) (fun v s'=>∃b,v=.bool b/\Q (.bool (!b)) s') E s):wpAny (model prog w) A (compareOp .NotEq (.ref x) (.ref y)) Q E s:=by
 show wpAny _ _ (richCompare .NotEq (.ref x) (.ref y)) _ _ _
 have one:wpAny (model prog w) A (tryCompare (.ref x) (cmpInfo .NotEq).2.1 (.ref y)) (fun r s'=>∃v,r=some v/\Q v s') E s:=by
  unfold tryCompare;refine Zx (J8 X I hn (K4 hu X I hm hr hf (Zv h (fun v s' hv=>?_) fun _ _ e=>e)));obtain⟨b,rfl,hq⟩:=hv;exact⟨b,rfl,Zw ⟨_,rfl,hq⟩⟩
 unfold richCompare;simp only[oneThing_ref];refine ZK (Zx (wpAny_cRoomFor (Nat.lt_of_succ_lt hu) ?_));refine Zx (I.type.here (Zx (J.type.here ?_)));rw[Zq (by simp)];refine Zx (Zw ?_);simp only[Bool.false_eq_true,if_false];refine Zx (Zv one (fun r s' z=>?_) fun _ _ e=>e);obtain⟨v,rfl,hq⟩:=z;exact Zw hq
end
section
variable {k:Nat}{fd:FuncData}{sp:Sp}
def T4 (sp:Sp) (a b:Addr) (H:Hp) (Q:VK):Prop:=sp [.ref a,.ref b] H (fun v H'=>∃t:Bool,v=.bl t/\Q (.bl t) H') E0
theorem Pw {s:Shared}{b:Addr}{Q:VK} (F:AY X.prog X.w X.K X.mg X.base aO k f fd ["self", "other"] sp) (hr:aG k A) (hA:eN X.prog X.w X.K X.mg X.base A X.stack s H) (hb:Binds X.K fd ["self", "other"] []) (I:Inv X aa σ H s) (h:T4 sp a b H Q) :
  wpAny (model X.prog X.w) A (call (.ref f) [.ref a,.ref b]) (fun v s'=>∃t:Bool,v=.bool t/\EP X aa σ Q (.bool t) s') E s:=by
 refine wpAny_call (codeAny_mono (F.run A X.stack s H ⟨[.ref a,.ref b],[]⟩ [.ref a,.ref b] [.ref a,.ref b] _ E0 hr hA (hb s [.ref a,.ref b] I.cS rfl) (.cons rfl (.cons rfl .nil)) h) fun r' s' hq=>?_);cases r' with
 |error e=>exact hq.elim
 |ok fl =>
  cases fl with
  |ret u =>
   obtain⟨v,H',I',rv,t,ev,q'⟩:=I.after hq;subst ev;cases rv;exact⟨t,rfl,.bl t,H',I',rfl,q'⟩
  |next=>exact False.elim hq
  |brk=>exact False.elim hq
  |cont=>exact False.elim hq
theorem Px (F:AY X.prog X.w X.K X.mg X.base aO k f fd ["self", "other"] sp) (hr:aG k X.A) (hb:Binds X.K fd ["self", "other"] []) (hm:HV X.K C "__eq__" f) :
  eB X (compareOp .Eq) (fun x y H Q=>∃a dx fs b,x=.ref a/\y=.ref b/\H a=some (.ins C dx fs)/\((∃dy gs,H b=some (.ins C dy gs))\/((∃xs,aH X.K H b xs)/\W.subIn X.K (.type "list") (.ref C)=some false))/\T4 sp a b H Q):=by
 intro aa s σ H x y v u Q I rx ry h;obtain⟨a,dx,fs,b,rfl,rfl,ha,hy,q⟩:=h;cases rx;cases ry;obtain⟨m,Fm⟩:=I.fr;obtain⟨mA,om,_⟩:=C3 I.aI ha;obtain⟨od,ia,_⟩:=om.look;have run:=Pw (E:=X.xe) F hr I.gK hb I q;have hu:X.A.units < cLine:=Nat.lt_of_le_of_lt (Nat.le_add_right _ 64) hr.units
 have run2:wpAny (model X.prog X.w) X.A (call (.ref f) [.ref a,.ref b]) (W.CmpBack (EP X aa σ Q)) X.xe s:=by
  refine aJ run fun v s' hv=>?_;obtain⟨t,rfl,q⟩:=hv;exact q
 show wpAny _ _ (richCompare .Eq (.ref a) (.ref b)) _ _ _;rcases hy with⟨dy,gs,hy⟩ |⟨⟨xs,hy⟩,hn⟩
 ·obtain⟨mB,ob,_⟩:=C3 I.aI hy;obtain⟨odb,ib,_⟩:=ob.look;exact W.cmp_K hu Fm I.mod.kin ia ib.type (by simp[W.notFirst]) hm.at_ hm.fn run2
 ·obtain⟨its,rv,⟨o,n,e,c,dd,_⟩,_⟩:=I.list hy;have T:W.Looks (model X.prog X.w) s.heap (typeOf (.ref b)) (.type "list"):=c ▸ (W.Looks.ld e).andThen .now;exact W.cmp_K hu Fm I.mod.kin ia T (by simp[W.notFirst,hn]) hm.at_ hm.fn run2
theorem Cr (F:AY X.prog X.w X.K X.mg X.base aO k f fd ["self", "other"] sp) (hr:aG (k + 1) X.A) (hb:Binds X.K fd ["self", "other"] []) (hm:HV X.K C "__eq__" f) (hn:W.findIn X.K (.ref C) "__ne__" = some (some (.builtin "object.__ne__"))) (ho:W.mroIn X.K C (.type "object")=some true) :
  eB X (compareOp .NotEq) (fun x y H Q=>∃a dx fs b dy gs,x=.ref a/\y=.ref b/\H a=some (.ins C dx fs)/\H b=some (.ins C dy gs)/\T4 sp a b H (fun v H'=>∃t:Bool,v=.bl t/\Q (.bl (!t)) H')):=by
 intro aa s σ H x y v u Q I rx ry h;obtain⟨a,dx,fs,b,dy,gs,rfl,rfl,ha,hy,q⟩:=h;cases rx;cases ry;obtain⟨mA,om,_⟩:=C3 I.aI ha;obtain⟨od,ia,_⟩:=om.look;obtain⟨mB,ob,_⟩:=C3 I.aI hy;obtain⟨odb,ib,_⟩:=ob.look;have run:=Pw (E:=X.xe) F hr.in1 I.gK.in1 hb I q;have hu:X.A.units + 1 < cLine:=Nat.lt_of_le_of_lt (Nat.add_le_add_left qc _) hr.units;refine T3 hu I.cS ia ib ho hn hm.at_ hm.fn (aJ run fun v s' hv=>?_);obtain⟨t,rfl,v',H',I',rv,t',e,q⟩:=hv;subst e;cases rv;exact⟨t,rfl,.bl _,H',I',rfl,q⟩
end
theorem Mb (K:FG) (hK:X.K=K):Bb X (.builtin "isinstance") (fun xs H Q=>∃a p ys,xs=[.ref a,.ref p]/\(H a=some (.lst ys)\/H a=some (.tup ys))/\aY K H p [.ty "list", .ty "tuple"]/\Q (.bl true) H):=by
 subst hK;intro aa s σ H xs us Q I r h;obtain⟨a,p,ys,rfl,ha,hp,q⟩:=h;obtain⟨u,uT,rfl,ru,jj⟩:=El r;cases ru;cases jj;obtain⟨its,rv,⟨o,e,c,n,dd⟩,_⟩:=I.tuple hp;obtain⟨ocl,odi,oda,fZ⟩:=o;simp only at c dd;subst c;subst dd
 have ei:its=[Value.type "list", Value.type "tuple"]:=by
  cases rv with
  |cons r1 r2 =>
   cases r2 with
   |cons r3 r4 =>
    cases r4;cases (show _=Value.type "list" from r1);cases (show _=Value.type "tuple" from r3);rfl
 subst ei;have fin:∀tk,EP X aa σ Q (.bool true) { s with toks:=tk }:=fun tk=>⟨.bl true,H,I.tok tk,rfl,q⟩;rcases ha with ha |ha
 ·obtain⟨_,_,m,_,h1⟩:=(show aT X.prog X.w H s.heap a (.lst ys)from I.aI a _ ha);exact W.kia_tup W.kitx_list I.cS ⟨_,h1,rfl⟩ e rfl (fun z=>nomatch z) fin
 ·obtain⟨_,_,_,pp⟩:=(show aT X.prog X.w H s.heap a (.tup ys)from I.aI a _ ha);obtain⟨o,h1,h2,_⟩:=pp;exact W.kia_tup W.kitx_tuple I.cS ⟨o,h1,h2⟩ e rfl (fun z=>nomatch z) fin
structure Ht (fs:List Addr) (e:Addr) (oe:Obj) (vs:Array Value) (old:Addr->Prop) (h h':Heap):Prop where
 tb:∃T oT ts,h.objs.size <= T/\h'.get? T=some oT/\oT.data=.fields ts/\ts[3]?=some .none/\h'.get? e=some { oe with data:=.fields (vs.setIfInBounds 1 (.ref T)) }
 keep:∀b o,h.get? b=some o->b≠e->¬ old b->b∉ fs->h'.get? b=some o
 slot:∀b o,h.get? b=some o->b≠e->¬ old b->b∈fs->∃sl,h'.get? b=some { o with slots:=sl }
 there:∀b o,h.get? b=some o->∃o',h'.get? b=some o'
section
variable {M:Model}{s:Shared}
theorem DW {o:Obj}{vs:Array Value} (hd:o.data=.fields vs) (f:Array Value->Array Value):Obj.mapFields f o={ o with data:=.fields (f vs) }:=by
 obtain⟨c,d,dt,sl⟩:=o;cases hd;rfl
theorem OQ {b:Addr}{f:Obj->Obj} (hf:∀o,h.get? a=some o->(f o).isFreed=false):∀o,h.get? b=some o->∃o',(h.update a f).get? b=some o':=fun o ho=>by
 by_cases q:b=a
 ·subst q;exact⟨_,ZU f ho (hf o ho)⟩
 ·exact⟨o,(ZW _ _ (Ne.symm q)).trans ho⟩
theorem Ng {env:Env}{outer:List Env}{L e:Addr}{oe:Obj}{vs:Array Value}{head:Value}{hadNext:Bool}{Q:Unit->Shared->Prop}
  (hfr:A.frames=some (env :: outer)) (hl:s.heap.FunFrames base (env :: outer)) (hf:env.frame=some L) (he:s.heap.get? e=some oe) (hd:oe.data=.fields vs) (hsz:1 < vs.size)
  (h:∀h',Ht (d8 (env :: outer)) e oe vs (fun _=>False) s.heap h'->Q () { s with heap:=h' }) :
  wpAny M A (do let a ←frameOf env;let pl ←entryPlaceOf L hadNext;let b ←EntryCells.newEntry head a .none (rawInt L) .none pl;setField (.ref e) 1 b) (fun _ s'=>wpAny M A (setFlight (.ref e) none) Q E s') E s:=by
 have hene:e∉ d8 (env :: outer):=fun hm=>by
  obtain⟨_,o,ho,hnf⟩:=hl.mem hm;rw[he]at ho;cases ho;exact hnf vs hd
 refine Zx (wpAny_frameOf_fun hfr hl hf fun h1 x1=>Zx (wpAny_entryPlaceOf fun pl eM=>?_));unfold EntryCells.newEntry newFields;refine Zx (wpAny_newObj_type ?_ (eM.sizeOk5 _ _ _ _ _));generalize hpg:([head,Value.ref L,.none,rawInt L,.none]++(if pl.isEmpty then List.replicate 6 Value.none else pl)).toArray=pg;have jm:3 < pg.size:=by rw[←hpg];simp only[size_toArray,ZH,length_cons,length_nil];omega
 have e1:h1.get? e=some oe:=(x1.2.1 e hene).trans he;have e2:=ZX (h:=h1) ⟨.type "traceback", none,.fields pg,#[]⟩ e1;refine wpAny_setField e2 hd hsz ?_;have ne:h1.objs.size≠e:=Nat.ne_of_gt (lt_size e1);have d3:=Obj.data_mapFields hd (·.setIfInBounds 1 (Value.ref h1.objs.size));have e3:=ZU (Obj.mapFields (·.setIfInBounds 1 (Value.ref h1.objs.size))) e2 (Obj.isFreed_of_fields d3);have t3:=(ZW (h1.push ⟨.type "traceback", none,.fields pg,#[]⟩) (Obj.mapFields (·.setIfInBounds 1 (Value.ref h1.objs.size))) (Ne.symm ne)).trans (ZN h1 rfl);unfold setFlight;refine Zx (wpAny_field e3 d3 (x:=.ref h1.objs.size) (by simp[hsz]) ?_);rw[Zp (show(Value.ref h1.objs.size != Value.none)=true from by simp)];refine wpAny_setField t3 rfl jm (h _ ?_)
 have other:∀b o,b≠e->h1.get? b=some o->∀(g:Obj->Obj),(((h1.push ⟨.type "traceback", none,.fields pg,#[]⟩).update e (Obj.mapFields (·.setIfInBounds 1 (Value.ref h1.objs.size)))).update h1.objs.size g).get? b=some o:=fun b o hb hlt g=>by
  rw[ZW _ _ (Nat.ne_of_gt (lt_size hlt)),ZW _ _ (Ne.symm hb)];exact ZX _ hlt
 refine⟨⟨h1.objs.size,_,_,Nat.le_of_eq x1.1.symm,ZU _ t3 (Obj.isFreed_of_fields (Obj.data_mapFields rfl _)),Obj.data_mapFields rfl _,by simp[jm],?_⟩,fun b o hb n1 _ n3=>?_,fun b o hb n1 _ n3=>?_,fun b o hb=>?_⟩
 ·rw[ZW _ _ ne,e3,DW hd]
 ·have kQ:h1.get? b=some o:=(x1.2.1 b n3).trans hb;exact other b o n1 kQ _
 ·obtain⟨sl,hs⟩:=x1.2.2 b o hb;exact⟨sl,other b _ n1 hs _⟩
 ·obtain⟨sl,hs⟩:=x1.2.2 b o hb;by_cases q:b=e
  ·subst q;exact⟨_,(ZW _ _ ne).trans e3⟩
  ·exact⟨_,other b _ q hs _⟩
theorem K6 {env:Env}{outer:List Env}{L e:Addr}{oe:Obj}{vs:Array Value}{Q:Unit->Shared->Prop}
  (hfr:A.frames=some (env :: outer)) (hl:s.heap.FunFrames base (env :: outer)) (hf:env.frame=some L) (he:s.heap.get? e=some oe) (hd:oe.data=.fields vs) (h1:vs[1]?=some .none)
  (h:∀h',Ht (d8 (env :: outer)) e oe vs (fun _=>False) s.heap h'->Q () { s with heap:=h' }):wpAny M A (leaving env (.ref e)) Q E s:=by
 unfold leaving noteFrame;simp only[hf];refine Zx (Zx (wpAny_field he hd h1 ?_));rw[Zq qc];exact Ng hfr hl hf he hd (Z9.mp h1).1 h
theorem Jf {env:Env}{outer:List Env}{L e T:Addr}{oe oT:Obj}{vs ts:Array Value}{Q:Unit->Shared->Prop}
  (hfr:A.frames=some (env :: outer)) (hl:s.heap.FunFrames base (env :: outer)) (hf:env.frame=some L) (he:s.heap.get? e=some oe) (hd:oe.data=.fields vs) (h1:vs[1]?=some (.ref T)) (hTe:T≠e)
  (hT:s.heap.get? T=some oT) (g8:oT.data=.fields ts) (h3:ts[3]?=some .none)
  (h:∀h',Ht (d8 (env :: outer)) e oe vs (·=T) s.heap h'->Q () { s with heap:=h' }):wpAny M A (noteFrame (.ref e) env) (fun _ s2=>wpAny M A (setFlight (.ref e) none) Q E s2) E s:=by
 unfold noteFrame;simp only[hf];refine Zx (wpAny_field he hd h1 ?_);rw[Zp (show(Value.ref T != Value.none)=true from by simp)];refine Zx (wpAny_field hT g8 h3 ?_);rw[Zq (show ¬ ((Value.none == rawInt L)=true)from by simp[rawInt])];refine Zx (wpAny_setField hT g8 (Z9.mp h3).1 ?_);have far:∀b,b≠T->(s.heap.update T (Obj.mapFields (·.setIfInBounds 3 Value.none))).get? b=s.heap.get? b:=fun b hb=>ZW _ _ (Ne.symm hb)
 have nr:∀b o,s.heap.get? b=some o->(∀vs,o.data≠ .fields vs)->b≠T:=fun b o hb hn q=>by
  subst q;rw[hT]at hb;cases hb;exact hn ts g8
 refine Ng (hfr:=hfr) (hl.of_keeps fun b o hb hn=>⟨o,(far b (nr b o hb hn)).trans hb,rfl⟩) hf ((far e (Ne.symm hTe)).trans he) hd (Z9.mp h1).1 fun h' x=>h h' ?_
 have fr:∀o,s.heap.get? T=some o->(Obj.mapFields (·.setIfInBounds 3 Value.none) o).isFreed=false:=fun o ho=>by
  rw[hT]at ho;cases ho;exact Obj.isFreed_of_fields (Obj.data_mapFields g8 _)
 obtain⟨T',oT',ts',a1,a2⟩:=x.tb;refine⟨⟨T',oT',ts',by rw[size_update]at a1;exact a1,a2⟩,fun b o hb n1 n2 n3=>x.keep b o ((far b n2).trans hb) n1 (fun z=>z) n3,fun b o hb n1 n2 n3=>x.slot b o ((far b n2).trans hb) n1 (fun z=>z) n3,fun b o hb=>?_⟩;obtain⟨o',gY⟩:=OQ fr o hb;exact x.there b o' gY
theorem Mc {env:Env}{outer:List Env}{L e T:Addr}{oe oT:Obj}{vs ts:Array Value}{Q:Unit->Shared->Prop}
  (hfr:A.frames=some (env :: outer)) (hl:s.heap.FunFrames base (env :: outer)) (hf:env.frame=some L) (he:s.heap.get? e=some oe) (hd:oe.data=.fields vs) (h1:vs[1]?=some (.ref T)) (hTe:T≠e)
  (hT:s.heap.get? T=some oT) (g8:oT.data=.fields ts) (h3:ts[3]?=some .none)
  (h:∀h',Ht (d8 (env :: outer)) e oe vs (·=T) s.heap h'->Q () { s with heap:=h' }):wpAny M A (leaving env (.ref e)) Q E s:=by
 unfold leaving;exact Zx (Jf hfr hl hf he hd h1 hTe hT g8 h3 h)
end
noncomputable def Ey (e C:Addr) (dx:Option Addr):HO:=.ext fun h=>∃oe vs,h.get? e=some oe/\oe.cls=.ref C/\oe.dict=dx/\oe.data=.fields vs/\5 < vs.size/\vs[2]?=some .none
structure Py (P:Program) (w:World) (l:List Env) (H:Hp) (s:Shared) (e C:Addr) (dx:Option Addr) (H':Hp) (s':Shared):Prop where
 os:s'.os=s.os
 bare:AllBare s'.gens
 un:Un (d8 l) [] H H' s.heap s'.heap
 aI:eE P w H' s'.heap
 at_:H' e=some (Ey e C dx)
def Tb0 (e:Addr) (s':Shared):Prop:=∃oe vs,s'.heap.get? e=some oe/\oe.data=.fields vs/\vs[1]?=some .none
def Tb1 (e:Addr) (H':Hp) (s s':Shared) (fl:Value):Prop:=∃oe vs T oT ts,s'.heap.get? e=some oe/\oe.data=.fields vs/\vs[1]?=some (.ref T)/\T≠e/\s'.heap.get? T=some oT/\oT.data=.fields ts/\ts[3]?=some fl/\H' T=none/\s.heap.get? T=none
def Fly (P:Program) (w:World) (l:List Env) (H:Hp) (s:Shared) (e C:Addr) (dx:Option Addr) (H':Hp) (s':Shared):Prop:=Py P w l H s e C dx H' s'/\Tb1 e H' s s' .none
def gk (P:Program) (w:World):hX:=fun outer H s E e s'=>∃ea C dx H',e=.ref ea/\Fly P w outer H s ea C dx H' s'/\E (.ref C) dx H'
theorem Nh {base h h':Heap}{fs:List Addr}{H H':Hp} (u:Un fs [] H H' h h'):∀ {l:List Env},(∀b∈d8 l,b∈fs)->(∀b∈d8 l,H b=none)->h.FunFrames base l->h'.FunFrames base l
 | [],_,_,_=>trivial
 |env :: r,hs,hn,⟨hk,⟨L,o,hf,hb,ho,hd⟩,hr⟩=>by
  have hL:L∈d8 (env :: r):=by unfold d8;rw[ZM,hf];exact ZI
  have sub:∀b∈d8 r,b∈d8 (env :: r):=fun b z=>by unfold d8;rw[ZM,hf];exact ZR _ z
  obtain⟨sl,e⟩:=u.slot L o ho (hn L hL) (hs L hL) (by simp);exact⟨hk,⟨L,_,hf,hb,e,hd⟩,Nh u (fun b z=>hs b (sub b z)) (fun b z=>hn b (sub b z)) hr⟩
section
variable {H1 H2:Hp}{s1 s2:Shared}{e:Addr}{dx:Option Addr}
structure Md (X:Cx):Prop where
 gB:X.stack=X.env :: X.outer
 fr:X.env.frame=some X.env.locals
 ex:X.ex=[]
theorem K8 {fs:List Addr}{oe:Obj}{vs:Array Value}{old:Addr->Prop}{h':Heap} (ok:eE P w H2 h) (L:Ht fs e oe vs old h h') (hf:∀b∈fs,H2 b=none) (ho:∀b,old b->H2 b=none)
  (he:h.get? e=some oe) (hd:oe.data=.fields vs) (at_:H2 e=some (Ey e C dx)):eE P w H2 h':=fun b u q=>by
 have kp:∀c v,c≠e->(∃z,H2 c=some z)->h.get? c=some v->h'.get? c=some v:=fun c v n ⟨z,hz⟩ hv=>L.keep c v hv n (fun y=>by rw[ho c y]at hz;cases hz) fun y=>by rw[hf c y]at hz;cases hz
 by_cases hb:b=e
 ·subst hb;rw[at_]at q;cases q;obtain⟨⟨oe',jQ,a1,a2,a3,a4,a5,a6⟩,_,st⟩:=ok _ _ at_;rw[he]at a1;cases a1;rw[hd]at a4;cases a4;obtain⟨T,oT,ts,b1,b2,b3,b4,b5⟩:=L.tb;exact⟨⟨_,_,b5,a2,a3,rfl,by rw[Array.size_setIfInBounds];exact a5,by rw[Array.getElem?_setIfInBounds_ne qc];exact a6⟩,⟨_,b5⟩,st⟩
 ·refine(ok b u q).fY (fun c v hc r=>?_) (fun _ z=>z) fun _ _ z=>z;rcases hc with rfl |hc
  ·exact kp c v hb ⟨u,q⟩ r
  ·refine kp c v (fun z=>?_) ⟨_,hc⟩ r;subst z;rw[at_]at hc;cases hc
theorem K9 {oe:Obj}{vs:Array Value}{old:Addr->Prop}{h':Heap} (O:Md X) (I:Inv X aa σ H1 s1) (F:Py X.prog X.w X.stack H1 s1 e C dx H2 s2) (he:s2.heap.get? e=some oe) (hd:oe.data=.fields vs) (h1:1 < vs.size)
  (hold:∀b,old b->H2 b=none/\s1.heap.get? b=none) (L:Ht (d8 X.stack) e oe vs old s2.heap h'):Fly X.prog X.w X.outer X.fw X.bA e C dx H2 { s2 with heap:=h' }:=by
 have b0:Un (d8 X.outer) [] X.fw H1 X.bA.heap s1.heap:=by have:=I.base;rw[O.ex]at this;exact this
 have free2:∀b∈d8 X.stack,H2 b=none:=fun b hb=>by
  obtain⟨_,o,ho,_⟩:=I.stack.mem hb;exact F.un.free b o ho (I.stkFree b hb) (by simp)
 have ne:∀b,H2 b=none->b≠e:=fun b n z=>by subst z;rw[F.at_]at n;cases n
 have out:∀b o,X.bA.heap.get? b=some o->b∉ d8 X.outer->b∉ d8 X.stack:=fun b o hb hn z=>by
  rw[O.gB]at z;unfold d8 at z;rw[ZM,O.fr]at z;rcases mem_cons.mp z with z |z
  ·exact absurd (Z2 (lt_size hb) I.ok.above) (by rw[z];exact ZF _)
  ·exact hn z
 have up:∀b,b∈d8 X.outer->b∈d8 X.stack:=fun b hb=>by
  rw[O.gB];unfold d8;rw[ZM,O.fr];exact ZR _ hb
 have nold:∀b o,X.bA.heap.get? b=some o->¬ old b:=fun b o hb z=>by
  obtain⟨o',gY⟩:=b0.there b o hb (by simp);rw[(hold b z).2]at gY;cases gY
 have und:Un (d8 X.outer) [] X.fw H2 X.bA.heap h':=by
  refine⟨fun b o q n hb _=>?_,fun b o q n hb _=>?_,fun b o q n _=>?_,fun b o q _=>?_,fun b xs q=>F.un.fQ b xs (b0.fQ b xs q),fun b o xs q=>F.un.ft b o xs (b0.ft b o xs q),fun b ps q=>?_⟩
  ·have q1:=b0.keep b o q n hb (by simp);have n1:=b0.free b o q n (by simp);have q2:=F.un.keep b o q1 n1 (out b o q hb) (by simp);exact L.keep b o q2 (ne b (F.un.free b o q1 n1 (by simp))) (nold b o q) (out b o q hb)
  ·obtain⟨sl,q1⟩:=b0.slot b o q n hb (by simp);have n1:=b0.free b o q n (by simp);obtain⟨gc,q2⟩:=F.un.slot b _ q1 n1 (up b hb) (by simp);obtain⟨iE,q3⟩:=L.slot b _ q2 (ne b (F.un.free b _ q1 n1 (by simp))) (nold b o q) (up b hb);exact⟨iE,q3⟩
  ·obtain⟨o1,q1⟩:=b0.there b o q (by simp);exact F.un.free b o1 q1 (b0.free b o q n (by simp)) (by simp)
  ·obtain⟨o1,q1⟩:=b0.there b o q (by simp);obtain⟨o2,q2⟩:=F.un.there b o1 q1 (by simp);exact L.there b o2 q2
  ·obtain⟨m1,e1⟩:=b0.fj b ps q;obtain⟨m2,e2⟩:=F.un.fj b _ e1;exact⟨m1++m2,by rw[e2,Array.append_assoc]⟩
 refine⟨⟨F.os.trans I.os,F.bare,und,K8 F.aI L free2 (fun b z=>(hold b z).1) he hd F.at_,F.at_⟩,?_⟩;obtain⟨T,oT,ts,b1,b2,b3,b4,b5⟩:=L.tb;have hT:s2.heap.get? T=none:=Heap.get?_none_of_le b1;refine⟨_,_,T,oT,ts,b5,rfl,by simp[h1],fun z=>?_,b2,b3,b4,F.aI.fresh b1,?_⟩
 ·subst z;rw[he]at hT;cases hT
 ·cases q:X.bA.heap.get? T with
  |none=>rfl
  |some o =>
   obtain⟨o1,q1⟩:=b0.there T o q (by simp);obtain⟨o2,q2⟩:=F.un.there T o1 q1 (by simp);rw[hT]at q2;cases q2
theorem Ez (I:Inv X aa σ H1 s1) (F:Py X.prog X.w X.stack H1 s1 e C dx H2 s2):s2.heap.FunFrames X.base X.stack:=Nh F.un (fun _ z=>z) I.stkFree I.stack
theorem Hu {E':VS} (O:Md X) (I:Inv X aa σ H1 s1) (F:Fly X.prog X.w X.stack H1 s1 e C dx H2 s2) :
  wpAny (model X.prog X.w) X.A (leaving X.env (.ref e)) (fun _ s3=>Fly X.prog X.w X.outer X.fw X.bA e C dx H2 s3) E' s2:=by
 obtain⟨B,oe,vs,T,oT,ts,a1,a2,a3,a4,a5,a6,a7,a8,a9⟩:=F;have fr:=Ez I B;have hA:=I.ok.frames;rw[O.gB]at fr hA;refine Mc hA fr O.fr a1 a2 a3 a4 a5 a6 a7 fun h' L=>?_;rw[←O.gB]at L;exact K9 O I B a1 a2 (Z9.mp a3).1 (fun b z=>by subst z;exact⟨a8,a9⟩) L
theorem Me {E':VS} (O:Md X) (I:Inv X aa σ H1 s1) (B:Py X.prog X.w X.stack H1 s1 e C dx H2 s2) (T:Tb0 e s2) :
  wpAny (model X.prog X.w) X.A (leaving X.env (.ref e)) (fun _ s3=>Fly X.prog X.w X.outer X.fw X.bA e C dx H2 s3) E' s2:=by
 obtain⟨oe,vs,a1,a2,a3⟩:=T;have fr:=Ez I B;have hA:=I.ok.frames;rw[O.gB]at fr hA;refine K6 hA fr O.fr a1 a2 a3 fun h' L=>?_;rw[←O.gB]at L;exact K9 O I B a1 a2 (Z9.mp a3).1 (fun b z=>z.elim) L
end
theorem Rx {CX:hX}{qual:Str}{scope:Scope}{cd:Value}{outer:List Env}{s:Shared}{E:XK} :
  Md (Bj CX P w K mg base N qual scope f cd A outer s H E):=⟨rfl,rfl,rfl⟩
theorem VR {qual:Str}{scope:Scope}{cd:Value}{outer:List Env}{s:Shared}{E:XK} :
  Bx (gk P w) (Bj (gk P w) P w K mg base N qual scope f cd A outer s H E) E:=by
 rintro aa σ H1 s1 e s2 I ⟨ea,C,dx,H2,rfl,F,q⟩;exact Zv (Hu (X:=Bj (gk P w) P w K mg base N qual scope f cd A outer s H E) Rx I F) (fun _ s3 G=>⟨ea,C,dx,H2,rfl,G,q⟩) fun _ _ z=>z
def Pz (X:Cx) (E:XK):Prop:=∀(aa:LO) (σ:St) (H:Hp) (s:Shared) (e C:Addr) (dx:Option Addr) (H':Hp) (s':Shared),Inv X aa σ H s->Py X.prog X.w X.stack H s e C dx H' s'->Tb0 e s'->E (.ref C) dx H'->X.xe (.ref e) s'
theorem Ni {qual:Str}{scope:Scope}{cd:Value}{outer:List Env}{s:Shared}{E:XK} :
  Pz (Bj (gk P w) P w K mg base N qual scope f cd A outer s H E) E:=by
 intro aa σ H1 s1 ea C dx H2 s2 I F T q;exact Zv (Me (X:=Bj (gk P w) P w K mg base N qual scope f cd A outer s H E) Rx I F T) (fun _ s3 G=>⟨ea,C,dx,H2,rfl,G,q⟩) fun _ _ z=>z
structure LA (B:String) (bm:List Value):Prop where
 b:bm.contains (.type B)=true
 base:bm.contains (.type "BaseException")=true
 na:bm.contains (.type "AttributeError")=false
 nn:bm.contains (.type "NameError")=false
section
variable {M:Model}{g:Array GenState}{d:Drawn}{t:Nat}{os:OsState}
variable {nm qn:Str}{N:Addr}{bs bm kZ:List Value}{bg:Bool}{sn:List Str}{sub:List Value}{ab:Bool}{col:Option Bool}{dd:Option Addr}{k0 k1 k2 k3 k5:Option Value}{B newId dZ:String}
theorem Mf (F:ExcBaseFacts B newId dZ kZ) (T:LA B bm) {rest:List Value}{Q:Unit->Shared->Prop} (oC:h.get? C=some (excClassObj nm qn C N bs bm bg sn sub ab col dd k0 k1 k2 k3 k5 newId))
  (fin:Q () ⟨h,g,d,t,os⟩):wpAny M A (checkBuiltinCall newId ⟨.ref C :: rest,[]⟩) Q E ⟨h,g,d,t,os⟩:=by
 have c1:(Value.ref C :: bm).contains (.type B)=true:=by rw[contains_cons,T.b];simp
 have st:=F.noStar;simp only[checkBuiltinCall,F.newKind,F.newSplit,F.newRow]
 repeat (first |refine ZY oC ?_ | (refine Z4 oC ?_;rw[c1]) |refine wpAny_staticBase_exc oC ?_ |refine wpAny_madeBy_exc oC ?_ |simp only[bne_self_eq_false,Bool.false_eq_true,if_false] |wp_step)
 exact fin
end
section
variable {prog:Program}{R:Result->Shared->Prop}{g:Array GenState}{d:Drawn}{t:Nat}{os:OsState}
variable {nm qn:Str}{N:Addr}{bs bm kZ:List Value}{bg:Bool}{sn:List Str}{sub:List Value}{ab:Bool}{col:Option Bool}{dd:Option Addr}{k0 k1 k2 k3 k5:Option Value}{B newId dZ:String}
noncomputable abbrev Mg (C:Addr) (h:Heap):Obj:={ cls:=.ref C,data:=.fields #[.ref h.objs.size,.none,.none,.none,.bool false,.none] }
noncomputable abbrev Dy (C:Addr) (rest:List Value) (h:Heap):Heap:=(h.push { cls:=.type "tuple", data:=.seq rest.toArray }).push (Mg C h)
theorem P1 (F:ExcBaseFacts B newId dZ kZ) (T:LA B bm) {rest:List Value} (oC:h.get? C=some (excClassObj nm qn C N bs bm bg sn sub ab col dd k0 k1 k2 k3 k5 newId))
  (fin:R (.ok (.ret (.ref (h.objs.size + 1)))) ⟨Dy C rest h,g,d,t,os⟩) (hz:rest.length <= sizeLine):codeAny (model prog w) A (.builtin newId ⟨.ref C :: rest,[]⟩) R ⟨h,g,d,t,os⟩:=by
 have e1:=F.ends;have c1:(Value.ref C :: bm).contains (.type B)=true:=by rw[contains_cons,T.b];simp
 have c2:(Value.ref C :: bm).contains (.type "AttributeError")=false:=by rw[contains_cons,T.na];rfl
 have c3:(Value.ref C :: bm).contains (.type "NameError")=false:=by rw[contains_cons,T.nn];rfl
 refine codeAny_builtinAt F.entry ?_;unfold Builtin.«BaseException.__new__»;refine PySem.wpAt_bind ?_;show PySem.wpAt _ _ _ (stack >>= _) _ _ _;refine PySem.wpAt_bind (PySem.wpAt_stack fun p below=>PySem.wpAt_of_wpAny ?_)
 wp_walk
 refine PySem.wpAt_of_wpAny ?_;rw[F.owner]
 repeat (first |with_reducible refine wpAny_madeHere_exc F.canon oC ?_ |with_reducible refine ZY oC ?_ | (with_reducible refine Z4 oC ?_;first |rw[c1] |rw[c2] |rw[c3]) |wp_step)
 show R _ _;rw[size_push];exact fin
theorem Mh (F:ExcBaseFacts B newId dZ kZ) (T:LA B bm) {rest:List Value}{fI:Addr}{oI:Obj}{Q:Fin->Shared->Prop}
  (oC:h.get? C=some (excClassObj nm qn C N bs bm bg sn sub ab col dd k0 k1 k2 k3 k5 newId)) (li:W.Looks (model prog w) h (typeLookup (.ref C) "__init__") (some (.ref fI))) (oF:h.get? fI=some oI) (cF:oI.cls=.type "function") (hz:rest.length <= sizeLine)
  (fin:wpAny (model prog w) A (call (.ref fI) (.ref (h.objs.size + 1) :: rest)) (fun r s'=>r=.none/\Q (.done (.ret (.ref (h.objs.size + 1)))) s') E ⟨Dy C rest h,g,d,t,os⟩) :
  wpAny (model prog w) A (Builtin.«type.__call__» ⟨.ref C :: rest,[]⟩) Q E ⟨h,g,d,t,os⟩:=by
 repeat (first |with_reducible refine ZY oC ?_ |with_reducible refine wpAny_madeBy_exc oC ?_ |wp_step)
 refine codeAny_call_builtin_code (Code.quiet_builtin _ F.quiet) (Mf F T oC (P1 F T oC ?_ hz));show wpAny _ _ _ _ _ _;have kp:∀b o,h.get? b=some o->(Dy C rest h).get? b=some o:=fun b o z=>ZX _ (ZX _ z);have oC1:=kp _ _ oC;have ge:(Dy C rest h).get? (h.objs.size + 1)=some (Mg C h):=by unfold Dy;heap_get
 have c1:(Value.ref C :: bm).contains (.ref C)=true:=by simp
 unfold isInstance
 repeat (first |with_reducible refine ZY ge ?_ | (with_reducible refine Z4 oC1 ?_;rw[c1]) |wp_step)
 refine li A _ E ⟨Dy C rest h,g,d,t,os⟩ kp ?_;refine ZK (Zx ?_);unfold bindSpecial;refine Zx (wpAny_typeOf (T := "function") ⟨_,kp _ _ oF,cF⟩ ?_);rw[Zp qc];refine Zw (Zx (Zv fin (fun r s' z=>?_) fun _ _ x=>x));obtain⟨rfl,hQ⟩:=z
 wp_walk
 exact hQ
theorem OR (F:ExcBaseFacts B newId dZ kZ) (T:LA B bm) {rest:List Value}{fI:Addr}{oI:Obj}{Q:VS}
  (oC:h.get? C=some (excClassObj nm qn C N bs bm bg sn sub ab col dd k0 k1 k2 k3 k5 newId)) (li:W.Looks (model prog w) h (typeLookup (.ref C) "__init__") (some (.ref fI))) (oF:h.get? fI=some oI) (cF:oI.cls=.type "function") (hz:rest.length <= sizeLine)
  (fin:wpAny (model prog w) (A.under (.builtin "type.__call__" ⟨.ref C :: rest,[]⟩)) (call (.ref fI) (.ref (h.objs.size + 1) :: rest)) (fun r s'=>r=.none/\Q (.ref (h.objs.size + 1)) s') E ⟨Dy C rest h,g,d,t,os⟩) :
  wpAny (model prog w) A (call (.ref C) rest) Q E ⟨h,g,d,t,os⟩:=by
 have f1:=tc_lookup;have f2:=tc_bind (.ref C);have hT:(⟨h,g,d,t,os⟩:Shared).TypeIs (.ref C) "type" := ⟨_,oC,rfl⟩;refine wpAny_call (codeAny_of_tree ?_);show wpAny _ _ (callAny (.ref C) _) _ _ _
 repeat (any_goals (first |assumption |with_reducible refine ZY oC ?_ |wp_step))
 refine⟨rfl,?_⟩;exact codeAny_call_builtin_at (Code.quiet_builtin _ qb) entry_typeCall (wpAny_check_type_call_sub oC (Mh F T oC li oF cF hz fin))
end
noncomputable def Fc (e C:Addr) (dx:Option Addr):HO:=.ext fun h=>∃oe vs,h.get? e=some oe/\oe.cls=.ref C/\oe.dict=dx/\oe.data=.fields vs/\vs.size=6/\vs[1]?=some .none/\vs[2]?=some .none
noncomputable def BJ (K:FG) (C:Addr):Bool:=match K.lookup C with
 |some ⟨.type "type", _,.cls cd,sl⟩=>(match cd.mro,sl.toList with
  | .ref C' :: bm,[_,_,_,_,some (.builtin n),_]=>C' == C && !cd.hasDel && n == "ValueError.__new__" && bm.contains (.type "BaseException") && bm.contains (.type "ValueError") && !bm.contains (.type "AttributeError") && !bm.contains (.type "NameError")
  |_,_=>false)
 |_=>false
theorem HA (X:K.In h) (q:BJ K C=true):∃nm qn N bs bm bg sn sub ab col dd k0 k1 k2 k3 k5,h.get? C=some (excClassObj nm qn C N bs bm bg sn sub ab col dd k0 k1 k2 k3 k5 "ValueError.__new__")/\LA "ValueError" bm:=by
 unfold BJ at q;split at q
 ·rename_i dd cd sl ho;split at q
  ·rename_i C' bm k0 k1 k2 k3 n k5 hm hs;simp only[Bool.and_eq_true,beq_iff_eq,Bool.not_eq_true']at q;obtain⟨⟨⟨⟨⟨⟨rfl,hdel⟩,rfl⟩,hb⟩,ht⟩,ha⟩,hn⟩:=q;obtain⟨nm,bs,mro,ns,qn,hd,sn,sub,ab,col,del⟩:=cd
   dsimp only at hm hdel
   subst hm hdel;obtain⟨l⟩:=sl;simp only at hs;subst hs;exact⟨nm,qn,ns,bs,bm,hd,sn,sub,ab,col,dd,k0,k1,k2,k3,k5,X _ _ ho,⟨ht,hb,ha,hn⟩⟩
  ·cases q
 ·cases q
structure MkX (K:FG) (C f:Addr):Prop where
 cls:BJ K C=true
 init:W.findIn K (.ref C) "__init__" = some (some (.ref f))
 fn:W.isFn K (.ref f)=true
 fo:∃o,K.lookup f=some o/\o.cls=.type "function"
 kp:W.keepIn K (.ref C)=true
section
variable {CX:hX}{k:Nat}{fd:FuncData}{ps:List Str}{sp:Sp}{eW:List V}{ds:List Value}{E:XK}{m:Str}{p apos:Pos}{o:Expr}{es:List Expr}{t:TA}
variable {s:Shared}
theorem OS (C:Addr) (rest:List Value) (h:Heap):(Dy C rest h).get? (h.objs.size + 1)=some (Mg C h):=by unfold Dy;heap_get
theorem Inv.madeX (I:Inv X aa σ H s) (rest:List Value):Inv X aa σ (upd H (s.heap.objs.size + 1) (Fc (s.heap.objs.size + 1) C none)) { s with heap:=Dy C rest s.heap }:=by
 have kp:∀b o,s.heap.get? b=some o->(Dy C rest s.heap).get? b=some o:=fun b o z=>ZX _ (ZX _ z);refine I.laid (t':=s.toks) kp (Nat.le_succ _) ?_;have ge:=OS C rest s.heap;exact⟨⟨_,_,ge,rfl,rfl,rfl,rfl,rfl,rfl⟩,⟨_,ge⟩,fun h1 h2 ⟨oe,vs,a,r⟩ k=>⟨oe,vs,k _ a,r⟩⟩
theorem OT {Q:VK}{vs:List V} (M:MkX X.K C f) (F:AY X.prog X.w X.K X.mg X.base CX k f fd ps sp) (hr:aG (k + 1) X.A) (hb:Binds X.K fd ps ds) (hd:Vals eW ds) (hx:Bx CX X E) (I:Inv X aa σ H s) (r:Vals vs us) (hz:vs.length <= 1000)
  (h:∀x,H x=none->sp (.ref x :: (vs++eW)) (upd H x (Fc x C none)) (fun v H2=>v=.aU/\Q (.ref x) H2) E):wpAny (model X.prog X.w) X.A (call (.ref C) us) (EP X aa σ Q) X.xe s:=by
 have hq:=h (s.heap.objs.size + 1) (I.aI.fresh (Nat.le_succ _));have I2:=Inv.madeX (C:=C) I us;have r2:Vals (V.ref (s.heap.objs.size + 1) :: (vs++eW)) (Value.ref (s.heap.objs.size + 1) :: (us++ds)):=.cons rfl (r.append hd)
 have hl:(Value.ref (s.heap.objs.size + 1) :: us++ds).length=ps.length:=by
  have e:=r2.length;rw[F.len _ _ _ _ hq]at e;exact e.symm
 obtain⟨nm,qn,N,bs,bm,bg,sn,sub,ab,col,dd,k0,k1,k2,k3,k5,oC,T⟩:=HA I.cS M.cls;obtain⟨oF,lF,cF⟩:=M.fo;obtain⟨hh,g,d,tk,os⟩:=s;refine OR PySem.F.excBase_ValueError T oC (W.looks_findIn I.cS M.init) (I.cS _ _ lF) cF (by rw[←r.length];exact Nat.le_of_lt (AZ hz)) ?_;refine wpAny_call (codeAny_mono (F.run _ X.stack _ _ ⟨_,[]⟩ (Value.ref (hh.objs.size + 1) :: (us++ds)) _ _ E (hr.make C us []) (I2.gK.make C us []) (hb _ (Value.ref (hh.objs.size + 1) :: us) I2.cS hl) r2 hq) fun r s' f6=>?_);cases r with
 |error e=>exact hx aa σ _ _ e s' I2 f6
 |ok fl =>
  cases fl with
  |ret u =>
   obtain⟨v,H',I3,rv,ev,q3⟩:=I2.after f6;subst ev;exact⟨rv,⟨V.ref (hh.objs.size + 1),H',I3,rfl,q3⟩⟩
  |next=>exact False.elim f6
  |brk=>exact False.elim f6
  |cont=>exact False.elim f6
def Mi (C:Addr) (sp:Sp) (eW:List V) (E:XK) (t:TA):TE:=fun σ H Q=>t σ H fun vs H1=>vs.length <= 1000/\∀x,H1 x=none->sp (.ref x :: (vs++eW)) (upd H1 x (Fc x C none)) (fun v H2=>v=.aU/\Q (.ref x) H2) E
theorem LB (M:MkX X.K C f) (F:AY X.prog X.w X.K X.mg X.base CX k f fd ps sp) (hr:aG (k + 1) X.A) (hg:Gl X x) (hm:X.mg x=some (.ref C)) (hb:Binds X.K fd ps ds) (hd:Vals eW ds) (hx:Bx CX X E)
  (ha:PA X (e :: es) t) (eV:(x == ("__debug__" : Str))=false:=by decide) (he:starEach (e :: es) X.env=(false,eval e X.env) :: starEach es X.env:=by rfl) (eM:(backTo pos (starEach es X.env)).any (·.1)=false:=by rfl) :
  PE X (.Call (.Name x p) (e :: es) [] pos) (Mi C sp eW E t):=by
 intro aa s σ H Q I h;refine Z3 (B2 I hg hm ?_ eV);refine W.callWith_K (h₀:=X.base) I.ok.mod.kin M.kp (aJ (ha pos aa s σ H _ I h) fun us s1 ⟨vs,H1,I1,r,q⟩=>⟨I1.cS,?_⟩) he eM;exact OT M F hr hb hd hx I1 r q.1 q.2
def Mj (C:Addr) (te:TE) (E:XK):TS:=fun _ σ H=>te σ H fun v H1=>∃e dx,v=.ref e/\H1 e=some (Fc e C dx)/\E (.ref C) dx (upd H1 e (Ey e C dx))
theorem OU {H1:Hp}{e:Addr}{dx:Option Addr} (ok:eE P w H1 h) (at_:H1 e=some (Fc e C dx)):eE P w (upd H1 e (Ey e C dx)) h:=by
 obtain⟨⟨oe,vs,a1,a2,a3,a4,a5,a6,a7⟩,_,_⟩:=ok _ _ at_;refine ok.write (x:=e) (e:=e) (by rw[at_];exact True.intro) (.inl rfl) (fun b u _ q=>q) ⟨_,a1⟩ ⟨⟨oe,vs,a1,a2,a3,a4,qe,a7⟩,⟨_,a1⟩,fun h1 h2 ⟨oe,vs,a,r⟩ k=>⟨oe,vs,k _ a,r⟩⟩
end
section
variable {M:Model}{s:Shared}{env:Env}
theorem LD {x:Sem Value}{Q:Flow->Shared->Prop} (hh:A.handled=none)
  (h:wpAny M A x (fun v s1=>∃e oe vs,v=.ref e/\s1.heap.get? e=some oe/\oe.cls=.ref C/\oe.data=.fields vs/\vs[1]?=some .none /\
   (∃nm qn N bs bm bg sn sub ab col dd k0 k1 k2 k3 k5 nid,s1.heap.get? C=some (excClassObj nm qn C N bs bm bg sn sub ab col dd k0 k1 k2 k3 k5 nid)/\bm.contains (.type "BaseException")=true)/\E (.ref e) s1) E s) :
  wpAny M A (raiseStmt env (some x) none) Q E s:=by
 unfold raiseStmt;refine Zx (Zv h (fun v s1 z=>?_) fun _ _ y=>y);obtain⟨e,oe,vs,rfl,he,bo,hd,h1,⟨nm,qn,N,bs,bm,bg,sn,sub,ab,col,dd,k0,k1,k2,k3,k5,nid,oC,hb⟩,hE⟩:=z;have c1:(Value.ref C :: bm).contains (.type "BaseException")=true:=by rw[contains_cons,hb,Bool.or_true]
 obtain⟨hp,g,d,tk,os⟩:=s1
 repeat (first | (with_reducible refine ZY he ?_;rw[bo]) |with_reducible refine ZY oC ?_ | (with_reducible refine Z4 oC ?_;rw[c1]) |wp_step)
 rw[hd];refine Zw ?_;rw[h1];refine Zw ?_;rw[Zq qc];exact Zw (wpAny_raiseNew_none hh hE)
end
section
variable {E:XK}{o:Expr}
theorem LF (hR:Pz X E) (hc:X.calm=true) (hC:BJ X.K C=true) (he:PE X o te):PS X (.Raise (some o) none pos) (Mj C te E):=by
 intro aa s σ H D I h;rw[arm_exec_Raise];refine Zx (ZJ (LD (C:=C) (I.ok.hd hc) (Zx (Zv (he aa s σ H _ I h) (fun v s1 z=>Zx (ZJ (Zw ?_))) fun _ _ y=>y))));obtain⟨u,H1,I1,ru,e,dx,rfl,at_,q⟩:=z;obtain rfl:v=.ref e:=ru;obtain⟨⟨oe,vs,a1,a2,a3,a4,a5,a6,a7⟩,_,_⟩:=I1.aI _ _ at_;obtain⟨nm,qn,N,bs,bm,bg,sn,sub,ab,col,dd,k0,k1,k2,k3,k5,oC,T⟩:=HA I1.cS hC;refine⟨e,oe,vs,rfl,a1,a2,a4,a6,⟨nm,qn,N,bs,bm,bg,sn,sub,ab,col,dd,k0,k1,k2,k3,k5,_,oC,T.base⟩,?_⟩;refine hR aa σ H1 s1 e C dx _ s1 I1 ⟨rfl,I1.bare,Un.write (x:=e) (e:=e) (by rw[at_];exact True.intro) (.inl rfl) (fun b u _ r=>r) ⟨_,a1⟩,OU I1.aI at_,aA⟩ ⟨oe,vs,a1,a4,a6⟩ q
end
section
variable {prog:Program}{g:Array GenState}{d:Drawn}{t:Nat}{os:OsState}
variable {nm qn:Str}{N:Addr}{bs bm kZ:List Value}{bg:Bool}{sn:List Str}{sub:List Value}{ab:Bool}{col:Option Bool}{dd:Option Addr}{k0 k1 k2 k3 k5:Option Value}{B newId dZ:String}
theorem LG (F:ExcBaseFacts B newId dZ kZ) (T:LA B bm) {M:Model}{e:Addr}{oe:Obj}{rest:List Value}{Q:Unit->Shared->Prop}
  (oC:h.get? C=some (excClassObj nm qn C N bs bm bg sn sub ab col dd k0 k1 k2 k3 k5 newId)) (he:h.get? e=some oe) (bo:oe.cls=.ref C) (fin:Q () ⟨h,g,d,t,os⟩) :
  wpAny M A (checkBuiltinCall dZ ⟨.ref e :: rest,[]⟩) Q E ⟨h,g,d,t,os⟩:=by
 have c1:(Value.ref C :: bm).contains (.type B)=true:=by rw[contains_cons,T.b];simp
 have st:=F.noStar;simp only[checkBuiltinCall,F.initKind,F.initSplit,F.initRow]
 repeat (first | (with_reducible refine ZY he ?_;rw[bo]) |with_reducible refine ZY oC ?_ | (with_reducible refine Z4 oC ?_;rw[c1]) |wp_step)
 refine wpAny_onRaise ?_;rw[show ∀(a b:String) (n:Nat),Bind.check ⟨.positional, "*", B,.self,[⟨"args", .varPos,false⟩]⟩ a b n (List.map (fun x=>x.fst) ({ pos:=Value.ref e :: rest }:Args).kw)=pure ()from fun a b n=>check_star_args _ _ _ _ _ _];exact Zw fin
theorem Ml (F:ExcBaseFacts B newId dZ kZ) (T:LA B bm) {e:Addr}{oe:Obj}{vs:Array Value}{v0:Value}{rest:List Value}{Q:VS}
  (oC:h.get? C=some (excClassObj nm qn C N bs bm bg sn sub ab col dd k0 k1 k2 k3 k5 newId)) (he:h.get? e=some oe) (bo:oe.cls=.ref C) (hd:oe.data=.fields vs) (h0:vs[0]?=some v0) (hz:rest.length <= sizeLine)
  (fin:Q .none ⟨(h.push { cls:=.type "tuple", data:=.seq rest.toArray }).update e (Obj.mapFields (·.setIfInBounds 0 (.ref h.objs.size))),g,d,t,os⟩) :
  wpAny (model prog w) A (call (.builtin dZ) (.ref e :: rest)) Q E ⟨h,g,d,t,os⟩:=by
 refine wpAny_call (codeAny_call_builtin F.init.plain F.initEntry (LG F T oC he bo ?_));have e1:=ZX { cls:=.type "tuple", data:=.seq rest.toArray } he;unfold Builtin.«BaseException.__init__»
 wp_walk
 rw[hd];refine Zw ?_;rw[h0];refine Zw (Zx (wpAny_setField e1 hd (Z9.mp h0).1 ?_))
 have done:∀ {E':VS},wpAny (model prog w) A.in1 (match v0 with |Value.ref _=>letGo [v0] |_=>pure ()) (fun _ s'=>Q .none s') E' ⟨(h.push { cls:=.type "tuple", data:=.seq rest.toArray }).update e (Obj.mapFields (·.setIfInBounds 0 (.ref h.objs.size))),g,d,t,os⟩:=fun {E'}=>by
  cases v0 <;> first |exact Zw fin | (wp_walk;exact fin)
 exact Zv done (fun _ s' q=>Zw q) fun _ _ z=>z
end
theorem P2 {o:HO} (h:H a=some o):upd H a o=H:=by
 funext b;unfold upd;split
 ·rename_i e;rw[e,h]
 ·rfl
theorem OV {x:V}:∀ {us:List Value},Vals (x :: xs) us->∃u ls,us=u :: ls/\RelV x u/\Vals xs ls
 |_ :: _,.cons a b=>⟨_,_,rfl,a,b⟩
section
variable {es:List Expr}{t:TA}{np apos:Pos}
def T6 (K:FG) (t:TA):TE:=fun σ H Q=>t σ H fun vs H1=>∃a C dx rest,vs=.ref a :: rest/\rest.length <= 1000/\BJ K C=true/\H1 a=some (Fc a C dx)/\Q .aU H1
theorem Ry:typeOf (.type "ValueError")=pure (.type "type"):=by kernel_rfl
theorem Rz:Manifest.isStub "ValueError" = false:=by decide +kernel
theorem R0 (K:FG):W.findCls K (.type "ValueError") (.type "type") "__init__" = some (.val (.builtin "ValueError.__init__")):=by kernel_rfl
theorem R5:W.handedIn (.builtin "ValueError.__init__")=true:=by decide +kernel
theorem Nj:bootBuiltins "ValueError" = some (.type "ValueError"):=by decide +kernel
theorem P3 {pl:Sem Bool} (hg:Gl X "ValueError") (hm:X.mg "ValueError" = none) (ha:PA X (e :: es) t) (he:starEach (e :: es) X.env=(false,eval e X.env) :: starEach es X.env:=by rfl) (eM:(backTo pos (starEach es X.env)).any (·.1)=false:=by rfl)
  (ht:eval (.Call (.Attribute (.Name "ValueError" np) "__init__" apos) (e :: es) [] pos) X.env=(do
   let ov ←eval (.Name "ValueError" np) X.env
   standAt apos.atName
   let (f,first) ←holding [ov] (getMethod ov "__init__" pl)
   callWith pos f first (backTo pos (starEach (e :: es) X.env)) (backToKw pos (keywordEach [] X.env))):=by rfl) :
  PE X (.Call (.Attribute (.Name "ValueError" np) "__init__" apos) (e :: es) [] pos) (T6 X.K t):=by
 intro aa s σ H Q I h;refine W.methodCall_KW (pl:=pl) ?_ ht;refine Eu (u:=.type "ValueError") I hg hm Nj ?_;obtain⟨m,Fm⟩:=I.fr;have L1:=fun (Q':Value×List Value->Shared->Prop) hq=>W.method_type (prog:=X.prog) (w:=X.w) (A:=X.A) (E:=X.xe) (K:=X.K) (T := "ValueError") (name := "__init__") (pl:=pl) (v:=.builtin "ValueError.__init__") (Q:=Q') Fm I.ok.mod.kin Ry Rz (R0 X.K) R5 hq;refine L1 _ ?_;refine PyProof.Rows.callWith_builtin1 (aJ (ha pos aa _ σ H _ (I.tok _) h) fun us s1 ⟨vs,H1,I1,r1,a,C,dx,rest,ev,hz,hC,at_,q⟩=>?_) he eM;subst ev;obtain⟨nm,qn,N,bs,bm,bg,sn,sub,ab,col,dd,k0,k1,k2,k3,k5,oC,T⟩:=HA I1.cS hC;obtain⟨⟨oe,ws,a1,a2,a3,a4,a5,a6,a7⟩,_,st⟩:=I1.aI _ _ at_;obtain⟨u0,ls,eu,ra,rr⟩:=OV r1;subst eu
 ·obtain rfl:=ra;obtain⟨hp,g,d,tk,os⟩:=s1;refine Ml PySem.F.excBase_ValueError T oC a1 a2 a4 (v0:=ws[0]'qe) (by rw[Array.getElem?_eq_getElem]) (by rw[←rr.length];exact Nat.le_of_lt (AZ hz)) ?_;have J:=I1.kept (h':=hp.push { cls:=.type "tuple", data:=.seq ls.toArray }) (t':=tk) fun b u z=>ZX _ z;have e1:=ZX { cls:=.type "tuple", data:=.seq ls.toArray } a1;have e2:=ZU (Obj.mapFields (·.setIfInBounds 0 (.ref hp.objs.size))) e1 (Obj.isFreed_of_fields (Obj.data_mapFields a4 _));rw[DW a4]at e2
  have J2:=J.write (x:=a) (e:=a) (o:=Fc a C dx) (t':=tk) (by rw[at_];exact True.intro) (.inl rfl) (fun b u n z=>(ZW _ _ (Ne.symm n)).trans z) ⟨_,e2⟩
   ⟨⟨_,_,e2,a2,a3,rfl,by rw[Array.size_setIfInBounds];exact a5,by rw[Array.getElem?_setIfInBounds_ne qc];exact a6,by rw[Array.getElem?_setIfInBounds_ne qc];exact a7⟩,⟨_,e2⟩,st⟩
  rw[P2 at_]at J2;exact⟨.aU,H1,J2,rfl,q⟩
end
noncomputable def Hv (P:Program) (w:World) (K:FG) (mg:SV) (base:Heap) (N:List Str) (qual:Str) (scope:Scope) (f:Addr) (cd:Value) (A:Around) (outer:List Env) (s:Shared) (H:Hp) (e:Addr) (oe:Obj):Cx :=
 { Bj aO P w K mg base N qual scope f cd A outer s H (fun _ _ _=>False)with calm:=false,pn:=[(e,oe)],xe:=fun _ _=>False }
structure RoomS (k:Nat) (A:Around):Prop where
 dp:A.depth + 3 * k + 5 < recursionLimit
 un:A.units + 16 * k + 200 < cLine
theorem RoomS.deeper {k:Nat}{A:Around} (r:RoomS (k + 1) A) (env:Env):RoomS k (A.deeper env):=⟨by have:=r.dp;show A.depth + 1 + 3 * k + 5 < _;omega,by have:=r.un;show A.units + 3 + 16 * k + 200 < _;omega⟩
theorem Mm {ps:List Str}{qual:Str}{scope:Scope}{cd:Value}{outer:List Env}{s s1:Shared}{vs:List V}{e:Addr}{oe:Obj}
  (S:AL N ps scope) (e0:eN P w K mg base A outer s H) (hl:vs.length=ps.length) (r:Vals vs us) (he:s.heap.get? e=some oe) (hn:H e=none) (ho:e∉ d8 outer) (hd:∀v,oe.data≠ .cell v)
  (x:InCallC s s.heap.objs.size (bindL (envOfC qual scope s.heap.objs.size f cd).kindOf (ps.zip us) fun _=>none) (cellsFrom (s.heap.objs.size + 1) scope.names []) (bindC (envOfC qual scope s.heap.objs.size f cd).kindOf (ps.zip us) fun _=>none) s1) :
  Inv (Hv P w K mg base N qual scope f cd A outer s H e oe) [] (Bt N vs) H s1:=by
 have A0:∃A0:Around,A0.handled=none/\A0.frames=A.frames:=⟨{ A with handled:=none },rfl,rfl⟩;obtain⟨A0,h1,h2⟩:=A0;have I:=GH (CX:=aO) (E:=fun _ _ _=>False) (A:=A0) S h1 ⟨h2.trans e0.frames,e0.mod,e0.bs,e0.gP,e0.cZ,e0.g9,e0.aI,e0.bare⟩ hl r x;obtain⟨hh,tk,rfl,hk⟩:=x.done;have ok:=I.ok;refine⟨⟨ok.mod,ok.kind,ok.glob,ok.blt,ok.above,ok.inj,ok.has,ok.jf,(fun z=>by cases (show false=true from z)),Around.frames_deeper e0.frames,ok.gB,ok.exf,ok.bs,ok.gP,ok.gv,ok.gj,ok.cZ,ok.g9⟩,I.os,I.bare,I.base,I.loc,I.cell,I.free,I.cI,fun p hp=>?_,I.aI,I.len⟩;have q:p=(e,oe):=by simpa[Hv]using hp
 subst q;exact⟨hk _ _ he,hn,ZC (lt_size he),ho,hd⟩
end L2
namespace L2
open PySem PySem.Spec PyProof.Rows
abbrev SpS:=Addr->Obj->List V->Hp->VK->Prop
structure Nk (P:Program) (w:World) (K:FG) (mg:SV) (base:Heap) (k:Nat) (f:Addr) (fd:FuncData) (ps:List Str) (sp:SpS):Prop where
 len:∀e oe vs H Q,sp e oe vs H Q->vs.length=ps.length
 run:∀(A:Around) (outer:List Env) (s:Shared) (H:Hp) (args:Args) (us:List Value) (vs:List V) (Q:VK) (e:Addr) (oe:Obj),RoomS k A->eN P w K mg base A outer s H->A.handled=some (.ref e)->s.heap.get? e=some oe->H e=none->e∉ d8 outer->(∀v,oe.data≠ .cell v) ->
  BindsTo s fd args (ps.zip us)->Vals vs us->sp e oe vs H Q->codeAny (model P w) A (.call (.ref f) args) (CR aO outer P w H s Q fun _ _ _=>False) s
section
theorem aW.okS {qual:Str}{st:Stmt}{fd:FuncData}{ps:List Str}{k:Nat}{sp:SpS} (F:aW K x qual st f fd) (S:AL N ps (defScope st)) (len:∀e oe vs H Q,sp e oe vs H Q->vs.length=ps.length)
  (bi:∀(ac:Value) (A:Around) (outer:List Env) (s:Shared) (H:Hp) (vs:List V) (Q:VK) (e:Addr) (oe:Obj),A.handled=some (.ref e)->RoomS k (A.deeper (envOfC qual (defScope st) s.heap.objs.size f ac))->sp e oe vs H Q ->
   ∃t,fc (Hv P w K mg base N qual (defScope st) f ac A outer s H e oe) (defBody st) t/\t { nx:=fun _ H'=>Q .aU H',rt:=Q } (Bt N vs) H):Nk P w K mg base (k + 1) f fd ps sp:=by
 obtain⟨oc,od,kV,doc,pm,an,ac,ct,fZ,rfl,lk,fm⟩:=F.ex;refine⟨len,fun A outer s H args us vs Q e oe hr e0 hh he hn ho hd hb r gG=>?_⟩;have hl:=len _ _ _ _ _ gG;have KX:K.In s.heap:=e0.mod.kin.keeps fun b o z=>(e0.bs b o z).1;have lim:s.heap.NoLimit:=e0.mod.nolimit.keeps fun b o z=>(e0.bs b o z).1
 have hk:∀y∈ps.zip us,(defScope st).names.lookup y.1=some .local\/((defScope st).names.lookup y.1=some .cell/\((cellsFrom (s.heap.objs.size + 1) (defScope st).names []).lookup y.1).isSome=true):=fun⟨n,v⟩ hy=>by
  rcases S.par n (of_mem_zip hy).1 with q |q
  ·exact .inl q
  ·exact .inr ⟨q,W.cellsFrom_some _ _ _ (.inl q)⟩
 refine codeAny_call_function (by have:=hr.dp;omega) (KX _ _ lk) rfl S.co S.gen rfl (W.codeRec_of KX fm) (hb _ _ _ _ (wpAny_newFunctionEnv_cells S.kind hk fun env ee s1 x=>?_));subst ee;refine⟨lim.keeps x.toInCall.keep,codeAny_func ?_⟩;obtain⟨t,ht,hq⟩:=bi ac A outer s H vs Q e oe hh (hr.deeper _) gG;have I:Inv (Hv P w K mg base N qual (defScope st) f ac A outer s H e oe) [] (Bt N vs) H s1:=Mm S e0 hl r he hn ho hd x;refine Zv (ht [] s1 (Bt N vs) H _ I hq) (fun fl s' z=>?_) fun _ _ z=>z.elim;cases fl with
 |ret u =>
  obtain⟨v,aK,H',J,rv,q⟩:=z;exact⟨v,H',J.os,J.bare,J.base,J.aI,rv,q⟩
 |next =>
  obtain⟨aK,H',J,q⟩:=z;exact⟨.aU,H',J.os,J.bare,J.base,J.aI,rfl,q⟩
 |brk =>
  obtain⟨_,_,_,q⟩:=z;exact q.elim
 |cont =>
  obtain⟨_,_,_,q⟩:=z;exact q.elim
theorem R6 {qual:Str}{scope:Scope}{cd:Value}{outer:List Env}{s:Shared}{e:Addr}{oe:Obj}{vs:Array Value} (hh:A.handled=some (.ref e)) (hd:oe.data=.fields vs) (h2:vs[2]?=some .none) :
  iV (Hv P w K mg base N qual scope f cd A outer s H e oe):=.inr ⟨e,oe,vs,hh,ZI,hd,h2⟩
end
noncomputable def del (H:Hp) (a:Addr):Hp:=fun b=>if b=a then none else H b
theorem LH:del H a a=none:=Zp rfl
theorem Dz {b:Addr} (h:b≠a):del H a b=H b:=Zq h
section
variable {H1 H2:Hp}{s1 s2:Shared}{e:Addr}{dx:Option Addr}
theorem P4 {fs:List Addr}{oe:Obj}{vs:Array Value}{old:Addr->Prop}{h2 h':Heap} (u:Un fs [] H1 H2 h h2) (L:Ht fs e oe vs old h2 h') (at_:H2 e=some (Ey e C dx)) (hold:∀b,old b->H2 b=none/\h.get? b=none):Un fs [] H1 (del H2 e) h h':=by
 have ne:∀b,H2 b=none->b≠e:=fun b n z=>by subst z;rw[at_]at n;cases n
 have nold:∀b o,h.get? b=some o->¬ old b:=fun b o hb z=>by rw[(hold b z).2]at hb;cases hb
 have ne2:∀b v,H2 b=some v->(∀φ,v≠ .ext φ)->b≠e:=fun b v hv hn z=>by subst z;rw[at_]at hv;cases hv;exact hn _ rfl
 refine⟨fun b o q n hb _=>?_,fun b o q n hb _=>?_,fun b o q n _=>?_,fun b o q _=>?_,fun b xs q=>?_,fun b o xs q=>?_,fun b ps q=>?_⟩
 ·exact L.keep b o (u.keep b o q n hb (by simp)) (ne b (u.free b o q n (by simp))) (nold b o q) hb
 ·obtain⟨sl,q1⟩:=u.slot b o q n hb (by simp);obtain⟨gc,q2⟩:=L.slot b _ q1 (ne b (u.free b o q n (by simp))) (nold b o q) hb;exact⟨gc,q2⟩
 ·have z:=u.free b o q n (by simp);rw[Dz (ne b z)];exact z
 ·obtain⟨o1,q1⟩:=u.there b o q (by simp);exact L.there b o1 q1
 ·have z:=u.fQ b xs q;rw[Dz (ne2 b _ z fun _ y=>nomatch y)];exact z
 ·have z:=u.ft b o xs q;rw[Dz (ne2 b _ z fun _ y=>nomatch y)];exact z
 ·obtain⟨m,z⟩:=u.fj b ps q;exact⟨m,by rw[Dz (ne2 b _ z fun _ y=>nomatch y)];exact z⟩
theorem R7 (ok:eE P w H2 h) (at_:H2 e=some (Ey e C dx)):eE P w (del H2 e) h:=fun b u q=>by
 have hb:b≠e:=fun z=>by subst z;rw[LH]at q;cases q
 rw[Dz hb]at q;have ne2:∀c v,H2 c=some v->(∀φ,v≠ .ext φ)->c≠e:=fun c v hv hn z=>by subst z;rw[at_]at hv;cases hv;exact hn _ rfl
 exact(ok b u q).fY (fun _ _ _ z=>z) (fun c z=>by rw[Dz (ne2 c _ z fun _ y=>nomatch y)];exact z) fun c xs z=>by rw[Dz (ne2 c _ z fun _ y=>nomatch y)];exact z
structure Cgt (C:Addr) (dx:Option Addr) (e:Addr) (oe:Obj) (T:Addr) (oT:Obj):Prop where
 cls:oe.cls=.ref C
 dict:oe.dict=dx
 fld:∃vs,oe.data=.fields vs/\vs[1]?=some (.ref T)/\vs[2]?=some .none
 tb:∃ts,oT.data=.fields ts/\ts[3]?=some .none
theorem T8 {E':VS}{Q:Unit->Shared->Prop} (O:Md X) (I:Inv X aa σ H1 s1) (F:Fly X.prog X.w X.stack H1 s1 e C dx H2 s2)
  (h:∀s3 oe T oT,Cgt C dx e oe T oT->Inv X ((e,oe) :: (T,oT) :: aa) σ (del H2 e) s3->Q () s3) :
  wpAny (model X.prog X.w) X.A (noteFrame (.ref e) X.env) (fun _ s3=>wpAny (model X.prog X.w) X.A (setFlight (.ref e) none) Q E' s3) E' s2:=by
 obtain⟨B,oe,vs,T,oT,ts,a1,a2,a3,a4,a5,a6,a7,a8,a9⟩:=F;have fr:=Ez I B;have hA:=I.ok.frames;rw[O.gB]at fr hA;refine Jf hA fr O.fr a1 a2 a3 a4 a5 a6 a7 fun h' L=>?_;rw[←O.gB]at L;have hold:∀b,b=T->H2 b=none/\s1.heap.get? b=none:=fun b z=>by subst z;exact⟨a8,a9⟩
 have free2:∀b∈d8 X.stack,H2 b=none:=fun b hb=>by
  obtain⟨_,o,ho,_⟩:=I.stack.mem hb;exact B.un.free b o ho (I.stkFree b hb) (by simp)
 have ok3:=K8 B.aI L free2 (fun b z=>(hold b z).1) a1 a2 B.at_;obtain⟨T',oT',ts',b1,b2,b3,b4,b5⟩:=L.tb;obtain⟨⟨oe',jQ,c1,c2,c3,c4,c5,c6⟩,_,_⟩:=B.aI _ _ B.at_;rw[a1]at c1;cases c1;rw[a2]at c4;cases c4;have I3:Inv X aa σ (del H2 e) { s2 with heap:=h' }:=I.call' (ch:=[]) B.os (P4 B.un L B.at_ hold) (R7 ok3 B.at_) B.bare fun b z=>nomatch z;have hT0:s2.heap.get? T'=none:=Heap.get?_none_of_le b1;have hTH:H2 T'=none:=B.aI.fresh b1;have hTe:T'≠e:=fun z=>by subst z;rw[a1]at hT0;cases hT0
 have locs:∃o,s2.heap.get? X.env.locals=some o:=by
  obtain⟨m,⟨o,_,_,ho,_⟩,_⟩:=id I.loc;exact B.un.there _ o ho (by simp)
 have fsIn:∀b∈X.fs,∃o,s2.heap.get? b=some o:=fun b hb=>by
  obtain⟨_,o,ho,_⟩:=I.cZ.mem hb;exact B.un.there b o ho (by simp)
 have upfs:∀b∈X.fs,b∈d8 X.stack:=fun b hb=>by
  rw[O.gB];unfold d8;rw[ZM,O.fr];exact ZR _ hb
 refine h _ { oe with data:=.fields (vs.setIfInBounds 1 (.ref T')) } T' oT' ⟨c2,c3,⟨vs.setIfInBounds 1 (.ref T'),rfl,by simp[(Z9.mp a3).1],by rw[Array.getElem?_setIfInBounds_ne qc];exact c6⟩,⟨ts',b3,b4⟩⟩ (I3.cK fun p hp=>?_);rcases mem_cons.mp hp with z |z
 ·subst z;refine⟨b5,LH,fun z=>?_,fun z=>?_,fun v z=>by cases z⟩
  ·obtain⟨m,⟨o,_,_,ho,_⟩,_⟩:=id I.loc;have n1:=B.un.free _ _ ho I.free (by simp);rw[←z,B.at_]at n1;cases n1
  ·have n1:=free2 e (upfs e z);rw[B.at_]at n1;cases n1
 rcases mem_cons.mp z with z |z
 ·subst z;refine⟨b2,by rw[Dz hTe];exact hTH,fun z=>?_,fun z=>?_,fun v z=>by rw[b3]at z;cases z⟩
  ·obtain⟨o,ho⟩:=locs;rw[←z,hT0]at ho;cases ho
  ·obtain⟨o,ho⟩:=fsIn _ z;rw[hT0]at ho;cases ho
 ·exact I3.pin p (ZT _ z)
end
noncomputable def D0 (K:FG) (C:Addr):List Value:=match K.lookup C with
 |some ⟨_,_,.cls cd,_⟩=>cd.mro
 |_=>[]
theorem LI (X:K.In h) (q:BJ K C=true):∃nm qn N bs bm bg sn sub ab col dd k0 k1 k2 k3 k5,h.get? C=some (excClassObj nm qn C N bs bm bg sn sub ab col dd k0 k1 k2 k3 k5 "ValueError.__new__")/\LA "ValueError" bm/\D0 K C=.ref C :: bm:=by
 obtain⟨nm,qn,N,bs,bm,bg,sn,sub,ab,col,dd,k0,k1,k2,k3,k5,oC,T⟩:=HA X q;refine⟨nm,qn,N,bs,bm,bg,sn,sub,ab,col,dd,k0,k1,k2,k3,k5,oC,T,?_⟩;unfold BJ at q;unfold D0;split at q
 ·rename_i hW cd sl ho;rw[ho];have e:=X _ _ ho;rw[oC]at e;have e1:=Option.some.inj e;have e3:=congrArg Obj.data e1;injection e3 with e2
  rw[←e2]
 ·cases q
section
variable {M:Model}{g:Array GenState}{d:Drawn}{t:Nat}{os:OsState}
variable {nm qn nm' qn':Str}{N D N':Addr}{bs bm bs' bm':List Value}{bg hdct':Bool}{sn sn':List Str}{sub sub':List Value}{ab ab':Bool}{col col':Option Bool}{dd hW:Option Addr}{k0 k1 k2 k3 k5 l0 l1 l2 l3 l5:Option Value}{newId newId':String}
theorem J9 {e:Addr}{oe:Obj}{Q:Bool->Shared->Prop} (oC:h.get? C=some (excClassObj nm qn C N bs bm bg sn sub ab col dd k0 k1 k2 k3 k5 newId)) (oD:h.get? D=some (excClassObj nm' qn' D N' bs' bm' hdct' sn' sub' ab' col' hW l0 l1 l2 l3 l5 newId'))
  (he:h.get? e=some oe) (bo:oe.cls=.ref C) (bp:bm'.contains (.type "BaseException")=true) (hq:Q ((Value.ref C :: bm).contains (.ref D)) ⟨h,g,d,t,os⟩):wpAny M A (excMatches (.ref e) (.ref D)) Q E ⟨h,g,d,t,os⟩:=by
 have hcB:(Value.ref D :: bm').contains (.type "BaseException")=true:=by rw[contains_cons,bp,Bool.or_true]
 have f:=tc_notTuple;unfold excMatches;generalize hb:(Value.ref C :: bm).contains (.ref D)=b at hq
 repeat (first | (with_reducible refine ZY he ?_;rw[bo]) |with_reducible refine ZY oD ?_ | (with_reducible refine Z4 oD ?_;rw[hcB]) | (with_reducible refine Z4 oC ?_;rw[hb]) |wp_step)
 cases b <;> (wp_walk;exact hq)
end
noncomputable def CM (X:Cx) (e:Addr) (oe:Obj) (T:Addr) (oT:Obj):Cx:={ X with A:=X.A.mark (some (.ref e)),calm:=false,pn:=X.pn++[(e,oe),(T,oT)],xe:=fun _ _=>False }
section
variable {s:Shared}{e T:Addr}{oe oT:Obj}
theorem Inv.mark (I:Inv X ((e,oe) :: (T,oT) :: aa) σ H s):Inv (CM X e oe T oT) aa σ H s :=
 ⟨⟨I.ok.mod,I.ok.kind,I.ok.glob,I.ok.blt,I.ok.above,I.ok.inj,I.ok.has,I.ok.jf,(fun z=>by cases (show false=true from z)),I.ok.frames,I.ok.gB,I.ok.exf,I.ok.bs,I.ok.gP,I.ok.gv,I.ok.gj,I.ok.cZ,I.ok.g9⟩,I.os,I.bare,I.base,I.loc,I.cell,I.free,I.cI,
  fun p hp=>I.pin p (by simpa[CM]using hp),I.aI,I.len⟩
theorem Inv.unmark (ok:X.Ok) (I:Inv (CM X e oe T oT) aa σ H s):Inv X ((e,oe) :: (T,oT) :: aa) σ H s :=
 ⟨ok,I.os,I.bare,I.base,I.loc,I.cell,I.free,I.cI,fun p hp=>I.pin p (by simpa[CM]using hp),I.aI,I.len⟩
theorem Inv.less {q:LO} (I:Inv X (q++aa) σ H s):Inv X aa σ H s:=I.cK fun p hp=>I.pin p (ZT _ (ZT _ hp))
theorem Inv.nameless {h':Heap}{m':SV}{tk:Nat} (I:Inv X aa σ H s) (hn:h'.Ns X.env.locals m') (hs:Heap.SameBut X.env.locals s.heap h'):Inv X aa (List.replicate σ.length none) H { s with heap:=h',toks:=tk }:=by
 obtain⟨m,⟨oL,_,_,jb,_⟩,_⟩:=id I.loc;refine⟨I.ok,I.os,I.bare,⟨fun b o e n hb hx=>?_,fun b o e n hb hx=>?_,I.base.free,fun b o e hx=>?_,I.base.fQ,I.base.ft,I.base.fj⟩,⟨_,hn,fun j y v' e1 e2 e3=>?_⟩,fun y c e=>?_,I.free,I.cI,fun p hp=>?_,fun b ob e=>?_,by simpa using I.len⟩
 ·exact(hs.2 b (ZC (Z2 (lt_size e) I.ok.above))).trans (I.base.keep b o e n hb hx)
 ·obtain⟨sl,e1⟩:=I.base.slot b o e n hb hx;exact⟨sl,(hs.2 b (ZC (Z2 (lt_size e) I.ok.above))).trans e1⟩
 ·obtain⟨o',e1⟩:=I.base.there b o e hx;exact⟨o',(hs.2 b (ZC (Z2 (lt_size e) I.ok.above))).trans e1⟩
 ·rw[List.getElem?_replicate]at e2;split at e2 <;> cases e2
 ·obtain⟨w',z⟩:=I.cell y c e;exact⟨w',z.sameBut hs (I.jL y c e)⟩
 ·obtain⟨e,n,ne,nf,d⟩:=I.pin p hp;exact⟨(hs.2 p.1 ne).trans e,n,ne,nf,d⟩
 ·refine(I.aI b ob e).fY (fun c w' hc q=>(hs.2 c ?_).trans q) (fun _ q=>q) fun _ _ q=>q;intro z;subst z;rcases hc with z |hc
  ·rw[←z,I.free]at e;cases e
  ·rw[I.free]at hc;cases hc
end
def PH (X:Cx) (C:Addr) (dx:Option Addr) (hs:List ExceptHandler) (t:Addr->TS):Prop :=
 ∀(aa:LO) (s:Shared) (σ:St) (H:Hp) (D:Ei) (e:Addr) (oe:Obj) (T:Addr) (oT:Obj),Cgt C dx e oe T oT->Inv X ((e,oe) :: (T,oT) :: aa) σ H s->t e D σ H->wpAny (model X.prog X.w) X.A (handleBy (.ref e) X.env hs) (SP X aa D) X.xe s
section
variable {Dn:Addr}{dx:Option Addr}{hs:List ExceptHandler}{t:Addr->TS}{np:Pos}{name:Option Str}{body:List Stmt}
theorem GY (e:Addr):Value.ref e≠byPass:=by intro q;cases q
theorem GZ {s:Shared}{e T:Addr}{oe oT:Obj} (hC:BJ X.K C=true) (hD:BJ X.K Dn=true) (c:Cgt C dx e oe T oT) (I:Inv X ((e,oe) :: (T,oT) :: aa) σ H s) {Q:Bool->Shared->Prop}
  (h:Q ((D0 X.K C).contains (.ref Dn)) s):wpAny (model X.prog X.w) A (excMatches (.ref e) (.ref Dn)) Q E s:=by
 obtain⟨nm,qn,N,bs,bm,bg,sn,sub,ab,col,dd,k0,k1,k2,k3,k5,oC,T1,e1⟩:=LI I.cS hC;obtain⟨nm',qn',N',bs',bm',hdct',sn',sub',ab',col',hW,l0,l1,l2,l3,l5,oD,T2,e2⟩:=LI I.cS hD;have he:=(I.pin (e,oe) (by simp)).1;rw[e1]at h;obtain⟨hp,g,d,tk,os⟩:=s;exact J9 oC oD he c.cls T2.base h
theorem HB (hC:BJ X.K C=true) (hD:BJ X.K Dn=true) (hg:Gl X x) (hm:X.mg x=some (.ref Dn)) (hs':(D0 X.K C).contains (.ref Dn)=false) (hr:PH X C dx hs t) (eV:(x == ("__debug__" : Str))=false:=by decide) :
  PH X C dx (.ExceptHandler (some (.Name x np)) name body pos :: hs) t:=by
 intro aa s σ H D e oe T oT c I h;refine wpAny_handleBy_cons (codeAny_handlers_test ?_) (GY e);refine B2 (X:=CM X e oe T oT) I.mark hg hm ?_ eV;refine GZ hC hD c I ?_;rw[hs'];exact hr aa s σ H D e oe T oT c I h
def TK (i:Nat) (tb:TS):Addr->TS:=fun e D σ H=>tb { nx:=fun _ _=>False,rt:=D.rt } (σ.set i (some (.ref e))) H
theorem R8 {n:Str}{b₀:Stmt}{i:Nat}{tb:Addr->TS} (hN:X.N.Nodup) (hi:X.N[i]?=some n) (hl:X.env.scope.names.lookup n=some .local) (hC:BJ X.K C=true) (hD:BJ X.K Dn=true) (hg:Gl X x) (hm:X.mg x=some (.ref Dn)) (hs':(D0 X.K C).contains (.ref Dn)=true)
  (hb:∀e oe T oT,Cgt C dx e oe T oT->fc (CM X e oe T oT) (b₀ :: body) (tb e)) (eV:(x == ("__debug__" : Str))=false:=by decide) :
  PH X C dx (.ExceptHandler (some (.Name x np)) (some n) (b₀ :: body) pos :: hs) (fun e=>TK i (tb e) e):=by
 intro aa s σ H D e oe T oT c I h;refine wpAny_handleBy_cons (codeAny_handlers_test ?_) (GY e);refine B2 (X:=CM X e oe T oT) I.mark hg hm ?_ eV;refine GZ hC hD c I ?_;rw[hs'];refine codeAny_handlers_suite_as ?_;obtain⟨vs,hd,h1,h2⟩:=c.fld;obtain⟨ts,g8,h3⟩:=c.tb;have he:=(I.pin (e,oe) (by simp)).1;have hT:=(I.pin (T,oT) (by simp)).1;refine wpAny_setFlight_none he hd h1 hT g8 (Z9.mp h3).1 ?_
 have I1:Inv X ((e,oe) :: (T,oT) :: aa) σ H { s with heap:=s.heap.update T (Obj.mapFields (·.setIfInBounds 3 .none)) }:=I.kept (t':=s.toks) fun b u q=>by
  by_cases z:b=T
  ·subst z;have e1:=ZU (Obj.mapFields (·.setIfInBounds 3 Value.none)) hT (Obj.isFreed_of_fields (Obj.data_mapFields g8 _));rw[DW g8]at e1
   have e2:ts.setIfInBounds 3 Value.none=ts:=by
    obtain⟨l1,l2⟩:=Z9.mp h3;rw[Array.setIfInBounds,dif_pos l1]
    conv=>lhs;rw[←l2]
    exact Array.set_getElem_self l1
   rw[e2,←g8]at e1;rw[show s.heap.get? b=some oT from hT]at q;cases q;exact e1
  ·exact(ZW _ _ (Ne.symm z)).trans q
 refine B1 (X:=CM X e oe T oT) (v:=.ref e) I1.mark hN hi (.inl hl) rfl (fun s2 I2=>?_) (.inr hl);refine Zv (hb e oe T oT c aa s2 _ H _ I2 h) (fun fl s3 z=>?_) fun _ _ z=>z.elim;cases fl with
 |ret u =>
  obtain⟨v,aK,H',J,rv,q⟩:=z;have J':=J.unmark I.ok;obtain⟨m,hn,_⟩:=id J'.loc;have bo:(X.env.scope.kind == .class || (X.env.scope.kind == .module && X.env.locals != X.env.globals))=false:=by rw[I.ok.kind];rfl
  exact wpAny_nameGoes hl hn bo fun h' m' hn' hs'=>⟨v,_,H',(J'.nameless hn' hs').less (q:=[(e,oe),(T,oT)]),rv,q⟩
 |next =>
  obtain⟨_,_,_,q⟩:=z;exact q.elim
 |brk =>
  obtain⟨_,_,_,q⟩:=z;exact q.elim
 |cont =>
  obtain⟨_,_,_,q⟩:=z;exact q.elim
end
noncomputable def Fd (X:Cx) (P0:LO) (xe:VS):Cx:={ X with pn:=X.pn++P0,xe:=xe }
section
variable {P0:LO}{xe:VS}{s:Shared}
theorem Cx.Ok.tr (ok:X.Ok):(Fd X P0 xe).Ok:=⟨ok.mod,ok.kind,ok.glob,ok.blt,ok.above,ok.inj,ok.has,ok.jf,ok.hd,ok.frames,ok.gB,ok.exf,ok.bs,ok.gP,ok.gv,ok.gj,ok.cZ,ok.g9⟩
theorem Cx.Ok.untr (ok:(Fd X P0 xe).Ok):X.Ok:=⟨ok.mod,ok.kind,ok.glob,ok.blt,ok.above,ok.inj,ok.has,ok.jf,ok.hd,ok.frames,ok.gB,ok.exf,ok.bs,ok.gP,ok.gv,ok.gj,ok.cZ,ok.g9⟩
theorem Inv.tr (I:Inv X P0 σ H s):Inv (Fd X P0 xe) [] σ H s:=⟨I.ok.tr,I.os,I.bare,I.base,I.loc,I.cell,I.free,I.cI,fun p hp=>I.pin p (by simpa[Fd]using hp),I.aI,I.len⟩
theorem Inv.untr (I:Inv (Fd X P0 xe) aa σ H s):Inv X P0 σ H s:=⟨I.ok.untr,I.os,I.bare,I.base,I.loc,I.cell,I.free,I.cI,fun p hp=>I.pin p (by
 rcases mem_append.mp hp with z |z
 ·exact ZP _ (ZP _ z)
 ·exact ZP _ (ZT _ z)),I.aI,I.len⟩
end
def R9 (n:Nat) (th:Addr->Option Addr->Addr->TS) (D:Ei):XK:=fun Cv dx H2=>∃C,Cv=.ref C/\∀e,H2 e=some (Ey e C dx)->th C dx e D (List.replicate n none) (del H2 e)
def WG (n:Nat) (tb:XK->TS) (th:Addr->Option Addr->Addr->TS):TS:=fun D σ H=>tb (R9 n th D) { D with nx:=D.nx } σ H
section
variable {body:List Stmt}{h₀:ExceptHandler}{hs:List ExceptHandler}{tb:XK->TS}{th:Addr->Option Addr->Addr->TS}{Cs:Addr->Prop}
theorem P5 (O:Md X) (hb:∀P0 xe E,Bx (gk X.prog X.w) (Fd X P0 xe) E->fc (Fd X P0 xe) body (tb E)) (hh:∀C dx,PH X C dx (h₀ :: hs) (th C dx)) :
  PS X (.Try body (h₀ :: hs) [] [] pos) (WG X.N.length tb th):=by
 intro aa s σ H D I h;refine wpAny_Try_except ?_
 let E:XK:=R9 X.N.length th D
 let xe:Value->Shared->Prop:=fun ev s2=>∃i0 H1 s1 ea C dx H2,ev=.ref ea/\Inv X aa i0 H1 s1/\Fly X.prog X.w X.stack H1 s1 ea C dx H2 s2/\E (.ref C) dx H2
 have hp:Bx (gk X.prog X.w) (Fd X aa xe) E:=by
  rintro pins' i0 H1 s1 ev s2 I1 ⟨ea,C,dx,H2,rfl,F,q⟩;exact⟨i0,H1,s1,ea,C,dx,H2,rfl,I1.untr,F,q⟩
 have ok:=I.ok;refine Zv (hb aa xe E hp [] s σ H _ I.tr h) (fun fl s1 z=>?_) fun ev s2 z=>?_
 ·cases fl with
  |next =>
   obtain⟨aK,H',J,q⟩:=z;exact wpAny_execs_nil ⟨aK,H',J.untr,q⟩
  |brk=>obtain⟨aK,H',J,q⟩:=z;exact⟨aK,H',J.untr,q⟩
  |cont=>obtain⟨aK,H',J,q⟩:=z;exact⟨aK,H',J.untr,q⟩
  |ret u=>obtain⟨v,aK,H',J,r,q⟩:=z;exact⟨v,aK,H',J.untr,r,q⟩
 ·obtain⟨i0,H1,s1,ea,C,dx,H2,rfl,I1,F,C',eC,q⟩:=z;cases eC;refine T8 O I1 F fun s3 oe T oT c I3=>?_
  have I4:Inv X ((ea,oe) :: (T,oT) :: aa) (List.replicate X.N.length none) (del H2 ea) s3:=I3.weak (by rw[List.length_replicate,I3.len]) fun i v z=>by
   rw[List.getElem?_replicate]at z;split at z <;> cases z
  exact hh C dx aa s3 _ _ D ea oe T oT c I4 (q ea F.1.at_)
end
structure Hw (K:FG) (C:Addr):Prop where
 ga:W.findIn K (.ref C) "__getattribute__" = some (some (.builtin "BaseException.__getattribute__"))
 gr:W.findIn K (.ref C) "__getattr__" = some none
 mb:W.mroIn K C (.type "BaseException")=some true
section
variable {prog:Program}{x:Addr}{ox:Obj}{od:Option Obj}{name:Str}{g:Array GenState}{d:Drawn}{t:Nat}{os:OsState}
theorem OW {M:Model}{nameV:Value}{Q:Unit->Shared->Prop} (p:Hw K C) (X:K.In h) (I:W.InstAt h x ox C od) (hq:Q () ⟨h,g,d,t,os⟩):wpAny M A (checkBuiltinCall "BaseException.__getattribute__" ⟨[.ref x,nameV],[]⟩) Q E ⟨h,g,d,t,os⟩:=by
 have hk:builtinKind "BaseException.__getattribute__" = some .slot:=by decide +kernel
 have hsplit:splitId "BaseException.__getattribute__" = some ("BaseException", "__getattribute__"):=by decide +kernel
 have ha:=F.args_bexc_ga (.ref x) nameV;have L0:=I.type (M:=M);have L1:=W.looks_mroIn (M:=M) X p.mb;simp only[checkBuiltinCall,hk,hsplit];refine Zx ?_
 ·unfold isInstance
  repeat (first |with_reducible refine L0.at ?_ |with_reducible refine L1.at ?_ |wp_step)
  exact hq
theorem OX {tk:Tok}{Q:Fin->Shared->Prop} (X:K.In h) (I:W.InstAt h x ox C od) (hf:W.findObj K C od name=some (.bind (.builtin "getset_descriptor.__get__") (.builtin "object.__class__"))) (hm:W.mroIn K C (.type "object")=some true)
  (hq:Q (.done (.ret (.ref C))) ⟨h,g,d,t,os⟩) :
  wpAny (model prog w) A (Builtin.«object.__getattribute__» ⟨[.ref x,.str name tk],[]⟩) Q E ⟨h,g,d,t,os⟩:=by
 have L0:=I.type (M:=model prog w);have L1:=W.looks_find (M:=model prog w) X I hf
 repeat (any_goals (first |assumption |with_reducible refine L0.at ?_ |with_reducible refine L1.at ?_ |wp_step))
 exact W.class_get X I hm (Zw hq)
theorem P6 {tk:Tok}{v:Value}{R:Result->Shared->Prop} (p:Hw K C) (X:K.In h) (I:W.InstAt h x ox C od)
  (hb:∀(A':Around) (E':VS) (Q:Fin->Shared->Prop),Q (.done (.ret v)) ⟨h,g,d,t,os⟩->wpAny (model prog w) A' (Builtin.«object.__getattribute__» ⟨[.ref x,.str name tk],[]⟩) Q E' ⟨h,g,d,t,os⟩) (hq:R (.ok (.ret v)) ⟨h,g,d,t,os⟩) :
  codeAny (model prog w) A (.call (.builtin "BaseException.__getattribute__") ⟨[.ref x,.str name tk],[]⟩) R ⟨h,g,d,t,os⟩ :=
 codeAny_call_builtin F.excAttr_ValueError.ga.plain F.entry_bexc_ga (OW p X I (hb _ _ _ hq))
theorem T9 {tk:Tok}{v:Value}{fill expr:Bool}{Q:VS} (p:Hw K C) (X:K.In h) (I:W.InstAt h x ox C od) (hh:W.handedIn v=true)
  (hb:∀(A':Around) (E':VS) (Q:Fin->Shared->Prop),Q (.done (.ret v)) ⟨h,g,d,t,os⟩->wpAny (model prog w) A' (Builtin.«object.__getattribute__» ⟨[.ref x,.str name tk],[]⟩) Q E' ⟨h,g,d,t,os⟩) (hq:Q v ⟨h,g,d,t,os⟩) :
  wpAny (model prog w) A (getAttrBy (.ref x) (.str name tk) fill expr) Q E ⟨h,g,d,t,os⟩:=by
 have L0:=I.type (M:=model prog w);have L1:=W.looks_findIn (M:=model prog w) X p.ga;have L2:=W.looks_findIn (M:=model prog w) X p.gr;have f3:=F.excAttr_ValueError.ga.bind (.ref x);have hx0:(expr && onTheHeap (Value.builtin "BaseException.__getattribute__"))=false:=by cases expr <;> rfl
 have hx2:(Value.builtin "BaseException.__getattribute__" == Value.builtin "object.__getattribute__")=false:=by decide +kernel
 have jY:(onTheHeap (Value.ref C) && Value.builtin "BaseException.__getattribute__" == Value.builtin "object.__getattribute__")=false:=by rw[hx2];rfl
 have ho:=W.handedOut_of hh
 repeat (any_goals (first |assumption |with_reducible refine L0.at ?_ |with_reducible refine L1.at ?_ |with_reducible refine L2.at ?_ |wp_step))
 refine P6 p X I hb ?_
 repeat (any_goals (first |assumption | (rw[ho];exact Zw hq) |wp_step))
theorem LJ {Q:Option Value->Shared->Prop} (p:Hw K C) (X:K.In h) (I:W.InstAt h x ox C od) (hf:W.findObj K C od "__class__" = some (.bind (.builtin "getset_descriptor.__get__") (.builtin "object.__class__"))) (hm:W.mroIn K C (.type "object")=some true)
  (hq:Q (some (.ref C)) ⟨h,g,d,t + 1,os⟩):wpAny (model prog w) A (getAttr? (.ref x) "__class__") Q E ⟨h,g,d,t,os⟩:=by
 unfold getAttr? getAttrBy?;refine Zx (wpAny_mkText (Zx (wpAny_attempt ?_)));exact T9 (v:=.ref C) p X I rfl (fun A' E' Q' z=>OX X I hf hm z) (Zw hq)
end
theorem JD {name:Str}{od:Option Obj}{a g:Value} (hc:(W.clsIn K C).isSome=true) (ha:W.findIn K (.ref C) name=some (some a)) (hg:W.specialIn K a "__get__" = some (some g)) (ht:W.takesIn K a=some true):W.findObj K C od name=some (.bind g a):=by
 obtain⟨cd,hc⟩:=Option.isSome_iff_exists.mp hc;unfold W.findObj;rw[hc,Option.bind_some,ha,Option.bind_some];simp[hg,ht]
structure SA (K:FG) (C:Addr):Prop where
 hg:Hw K C
 hc:(W.clsIn K C).isSome=true
 ha:W.findIn K (.ref C) "__class__" = some (some (.builtin "object.__class__"))
 hn:W.specialIn K (.builtin "object.__class__") "__get__" = some (some (.builtin "getset_descriptor.__get__"))
 htk:W.takesIn K (.builtin "object.__class__")=some true
 hm:W.mroIn K C (.type "object")=some true
theorem P7 {x D:Addr}{ox:Obj}{od:Option Obj} (k:SA K D):W.KitX K (.ref x) (.ref D) (fun h=>W.InstAt h x ox D od) where
 ty:=fun _ _ _ I=>I.type
 it:=fun _ _ X _=>by
  have jc:=k.hc;unfold W.clsIn at jc;split at jc
  ·rename_i c' d' cd' sl' ho;intro A' Q' E' s' k q;unfold isType loadHead;exact Zx (wpAny_loadPart (k _ _ (X _ _ ho)) (Zw q))
  ·cases jc
 ne:=fun h tp dd its n sl X htp=>by
  have jc:=k.hc;refine Bool.eq_false_iff.mpr fun q=>?_;have e:D=tp:=Value.ref.inj (beq_iff_eq.mp q);subst e;unfold W.clsIn at jc;split at jc
  ·rename_i c' d' cd' sl' ho;have z:=(X _ _ ho).symm.trans htp;cases z
  ·cases jc
 ca:=fun {prog w A E Q s} X I h=>by
  obtain⟨hh,g,d,t,os⟩:=s;exact LJ k.hg X I (JD k.hc k.ha k.hn k.htk) k.hm h
structure ExcP (X:Cx) (e:Addr) (oe:Obj) (C:Addr):Prop where
 at_:(e,oe)∈X.pn
 cls:oe.cls=.ref C
 fld:∃vs,oe.data=.fields vs
section
variable {e:Addr}{oe:Obj}
theorem ExcP.inst {s:Shared} (p:ExcP X e oe C) (I:Inv X aa σ H s) (hd:oe.dict=none\/∃d u,oe.dict=some d/\H d=some u):∃od,W.InstAt s.heap e oe C od:=by
 have he:=(I.pin (e,oe) (ZP _ p.at_)).1;obtain⟨vs,hv⟩:=p.fld;have no:W.notCls oe=true:=by unfold W.notCls;rw[hv]
 rcases hd with z |⟨d,u,z,hu⟩
 ·exact⟨none,he,p.cls,no,by rw[z];trivial⟩
 ·have hlt:=(I.aI d u hu).lt
  have:∃o,s.heap.get? d=some o:=by
   have q:=(I.aI d u hu);cases u with
   |lst xs=>obtain⟨_,_,_,_,e⟩:=q;exact⟨_,e⟩
   |tup xs=>obtain⟨_,_,_,o,e,_⟩:=q;exact⟨o,e⟩
   |dK kvs=>obtain⟨_,_,_,_,o,_,_,e,_⟩:=q;exact⟨o,e⟩
   |dT kvs=>obtain⟨_,_,_,_,o,_,_,e,_⟩:=q;exact⟨o,e⟩
   |set S n=>obtain⟨o,_,_,_,e,_⟩:=q;exact⟨o,e⟩
   |ins C dx fs=>obtain⟨_,_,_,e,_⟩:=q;exact⟨_,e⟩
   |own y=>exact q
   |xd fs=>obtain⟨_,⟨o,_,_,e,_⟩,_⟩:=q;exact⟨o,e⟩
   |rng lo hi=>obtain⟨_,_,_,e⟩:=q;exact⟨_,e⟩
   |dA ob u=>exact⟨_,q.1⟩
   |gA ps=>exact⟨_,(show s.heap.get? d=some _ from q)⟩
   |met f y=>exact⟨_,(show s.heap.get? d=some _ from q)⟩
   |ext φ=>exact q.2.1
  obtain⟨o,ho⟩:=this;exact⟨some o,he,p.cls,no,by rw[z];exact ho⟩
theorem Jg (p:ExcP X e oe C) (k:SA X.K C):Bb X (.builtin "isinstance") (fun xs H Q=>∃v c b,xs=[.ref e,v]/\((∃D,v=.ref D/\c=.ref D)\/∃T,v=.ty T/\c=.type T)/\(oe.dict=none\/∃d u,oe.dict=some d/\H d=some u)/\W.kitOne X.K (.ref C) c=some b/\Q (.bl b) H):=by
 intro aa s σ H xs us Q I r h;obtain⟨v,c,b,rfl,hv,hd,hk,q⟩:=h;obtain⟨u,uT,rfl,ru,jj⟩:=El r;cases (show u=Value.ref e from ru);obtain⟨od,J⟩:=p.inst I hd
 have hc:uT=c:=by
  rcases hv with⟨D,rfl,rfl⟩ |⟨T,rfl,rfl⟩
  ·exact jj
  ·exact jj
 subst hc;exact W.kia_one (P7 k) I.cS J hk (fun z=>nomatch z) fun tk=>⟨.bl b,H,I.tok tk,rfl,q⟩
end
section
variable {k:Nat}{e:Addr}{oe:Obj}{fd:FuncData}{ps:List Str}{sp:SpS}{p:Pos}{a:Expr}{es:List Expr}{t:TA}
def P8 (sp:SpS) (e:Addr) (oe:Obj) (t:TA):TE:=fun σ H Q=>t σ H fun vs H1=>sp e oe vs H1 Q
theorem P9 (F:Nk X.prog X.w X.K X.mg X.base k f fd ps sp) (hr:RoomS k X.A) (hh:X.A.handled=some (.ref e)) (at_:(e,oe)∈X.pn) (hg:Gl X x) (hm:X.mg x=some (.ref f)) (hk:W.keepIn X.K (.ref f)=true) (hb:Binds X.K fd ps [])
  (ha:PA X (a :: es) t) (eV:(x == ("__debug__" : Str))=false:=by decide) (he:starEach (a :: es) X.env=(false,eval a X.env) :: starEach es X.env:=by rfl) (eM:(backTo pos (starEach es X.env)).any (·.1)=false:=by rfl) :
  PE X (.Call (.Name x p) (a :: es) [] pos) (P8 sp e oe t):=by
 intro aa s σ H Q I h;refine Z3 (B2 I hg hm ?_ eV);refine W.callWith_K (h₀:=X.base) I.ok.mod.kin hk (aJ (ha pos aa s σ H _ I h) fun us s1 ⟨vs,H1,I1,r,q⟩=>⟨I1.cS,?_⟩) he eM;obtain⟨e1,e2,e3,e4,e5⟩:=I1.pin (e,oe) (ZP _ at_);have hl:(us++[]).length=ps.length:=by rw[Zt,←r.length];exact F.len _ _ _ _ _ q
 have bb:=hb s1 us I1.cS hl;rw[Zt]at bb;refine wpAny_call (codeAny_mono (F.run X.A X.stack s1 H1 ⟨us,[]⟩ us vs Q e oe hr I1.gK hh e1 e2 (fun z=>(mem_cons.mp (I1.eI e z)).elim e3 e4) e5 bb r q) fun r s' hq=>?_);cases r with
 |error e=>exact False.elim hq
 |ok fl =>
  cases fl with
  |ret u=>exact I1.after hq
  |next=>exact False.elim hq
  |brk=>exact False.elim hq
  |cont=>exact False.elim hq
end
theorem QA (a b:Bool):MeetsSeq.EqGives (.bool a) (.bool b) (a == b):=fun prog w A E s Q h=>SeqAt.EqAt.bool_bool a b prog w E Q h
theorem Jh:∀ {bs:List Bool}{us:List Value},Vals (bs.map V.bl) us->us=bs.map Value.bool
 | [],_,.nil=>rfl
 |_ :: _,_,.cons r t=>by rw[map_cons,←Jh t];cases r;rfl
def SB:V->List V->Hp->VK->Prop:=fun x vs H Q=>∃(l:Addr) (bs:List Bool) (j:Nat),x=.ref l/\vs=[.bl true]/\H l=some (.lst (bs.map V.bl))/\bs[j]?=some true/\(∀m,m < j->bs[m]?=some false)/\Q (.int (j:Nat)) H
section
theorem OY:MtM X "list.index" SB:=by
 intro aa s σ H x vs v us Q I rx rv h;obtain⟨l,bs,j,rfl,rfl,hH,hj,hno,q⟩:=h;cases rx;obtain⟨u,rfl,ru⟩:=rv.one;obtain rfl:u=Value.bool true:=ru;obtain⟨z,its,n,r,hl,e⟩:=I.lstM hH;have ei:=Jh r;subst ei;have hjs:j < bs.length:=(Z8.mp hj).1
 have hz:(j:Int) < 2 ^ 63 - 1:=by
  have hs:sizeLine < 2 ^ 62:=by decide
  rw[AH]at z;omega
 refine call_meets F.slot_list_index ⟨_,e,rfl⟩ F.entry_list_index (F.args_list_index_2 _ _)
  (MeetsSeq.list_index l (bs.map Value.bool).toArray n (.bool true) (fun y=>match y with | .bool a=>a == true |_=>false) (fun y hy=>?_) j (by simpa using hjs) hz ?_ fun m hm hlt=>?_) ⟨e,?_⟩
 ·obtain⟨a,_,rfl⟩:=Zr.mp (List.mem_toArray.mp hy);exact QA a true
 ·have:=(Z8.mp hj).2;simp[this]
 ·have:=(Z8.mp (hno m hlt)).2;simp[this]
 ·exact⟨.int (j:Nat),H,I.tok _,⟨_,rfl⟩,q⟩
end
noncomputable def jP (f:Addr) (o:Obj):HO:=.ext fun h=>h.get? f=some o
noncomputable def Fe (c:Addr) (qual:Str):HO:=.ext fun h=>h.CodeRec (.ref c) qual
noncomputable def Er (P:Program) (w:World) (K:FG) (mg:SV) (base:Heap) (N:List Str) (qual:Str) (scope:Scope) (f:Addr) (cd:Value) (cl:List (Str×Addr)) (A:Around) (outer:List Env) (s:Shared) (H:Hp) (E:XK):Cx where
 prog:=P
 w:=w
 K:=K
 mg:=mg
 base:=base
 A:=A.deeper (W.envX qual scope s.heap.objs.size f cd cl)
 N:=N
 bA:=s
 fw:=H
 env:=W.envX qual scope s.heap.objs.size f cd cl
 outer:=outer
 stack:=W.envX qual scope s.heap.objs.size f cd cl :: outer
 ex:=[]
 calm:=true
 fn:=fun _=>false
 pn:=[]
 xe:=fun e s'=>wpAny (model P w) (A.deeper (W.envX qual scope s.heap.objs.size f cd cl)) (leaving (W.envX qual scope s.heap.objs.size f cd cl) e) (fun _ jB=>gk P w outer H s E e jB) (fun e' jB=>gk P w outer H s E e' jB) s'
structure Hy (N:List Str) (scope:Scope) (cl:List (Str×Addr)) (σ:St) (H:Hp) (h:Heap):Prop where
 inj:∀x y c,cl.lookup x=some c->cl.lookup y=some c->x=y
 has:∀x,(scope.names.lookup x=some .cell\/scope.names.lookup x=some .free)->∃c,cl.lookup x=some c
 cell:∀x c,cl.lookup x=some c->(∃v,h.IsCell c v)/\H c=none
 val:∀(i:Nat) x v,N[i]?=some x->σ[i]?=some (some v)->scope.names.lookup x=some .free/\∃u c,RelV v u/\cl.lookup x=some c/\h.IsCell c (some u)
 len:σ.length=N.length
section
variable {qual name:Str}{scope:Scope}{c':Addr}{cd:Value}{cl:List (Str×Addr)}{outer:List Env}{s:Shared}{E:XK}
theorem WH:Md (Er P w K mg base N qual scope f cd cl A outer s H E):=⟨rfl,rfl,rfl⟩
theorem TL:Bx (gk P w) (Er P w K mg base N qual scope f cd cl A outer s H E) E:=by
 rintro aa σ H1 s1 e s2 I ⟨ea,C,dx,H2,rfl,F,q⟩;exact Zv (Hu (X:=Er P w K mg base N qual scope f cd cl A outer s H E) WH I F) (fun _ s3 G=>⟨ea,C,dx,H2,rfl,G,q⟩) fun _ _ z=>z
theorem Mn {h1:Heap}{m0:SV}{tk:Nat} (hk0:scope.kind=.function) (hd:A.handled=none) (e0:eN P w K mg base A outer s H) (C:Hy N scope cl σ H s.heap) (ki:h1.Ns s.heap.objs.size m0) (hk:∀b o,s.heap.get? b=some o->h1.get? b=some o) :
  Inv (Er P w K mg base N qual scope f cd cl A outer s H E) [] σ H { s with heap:=h1,toks:=tk }:=by
 have jC:∀b:Addr,b∉ (Er P w K mg base N qual scope f cd cl A outer s H E).ex:=fun b z=>absurd (show b∈([]:List Addr)from z) (by simp);have cellK:∀ {c:Addr}{v:Option Value},s.heap.IsCell c v->h1.IsCell c v:=fun {c v} ⟨o,ho,hd⟩=>⟨o,hk _ _ ho,hd⟩
 refine⟨⟨e0.mod,hk0,rfl,rfl,Zy _,C.inj,C.has,fun y c z _=>(by cases (show false=true from z)),fun _=>hd,Around.frames_deeper e0.frames,.inr ⟨rfl,rfl⟩,fun b z=>absurd z (jC b),e0.bs,e0.gP,fun b _ _=>jC b,fun b z=>absurd z (jC b),e0.cZ,e0.g9⟩,
  rfl,e0.bare,Un.kept hk,⟨m0,ki,fun i x v h1 h2 h3=>?_⟩,fun y c h=>?_,e0.aI.fresh (Zy _),fun y c h=>(C.cell y c h).2,fun p hp=>absurd (show p∈([]:LO)from hp) (by simp),e0.aI.kept hk,C.len⟩
 ·obtain⟨k,u,c,r,e,z⟩:=C.val i x v h1 h2;exact⟨u,r,.inr ⟨.inr k,c,e,cellK z⟩⟩
 ·obtain⟨⟨v,z⟩,_⟩:=C.cell y c h;exact⟨v,cellK z⟩
theorem QB {k:Nat}{params:Arguments}{body:Expr}{pm eP:Value}{Q:VK}{tb:TE} (hr:aG k A) (e0:eN P w K mg base A outer s H) (C:Hy N scope cl σ H s.heap)
  (ho:s.heap.get? f=some (W.kla_obj name qual params body scope cl pm c' eP)) (fm:s.heap.CodeRec (.ref c') qual) (bq:bindArgs (W.kla_fn name qual params body scope cl pm (.ref c') eP) ⟨[],[]⟩=pure [])
  (hco:scope.isCoroutine=false) (bz:scope.isGenerator=false) (hk:scope.kind=.function) (bn:∀x∈scope.names,x.2≠ .cell)
  (hb:PE (Er P w K mg base N qual scope f (.ref c') cl A outer s H E) body tb) (h:tb σ H Q):codeAny (model P w) A (.call (.ref f) ⟨[],[]⟩) (CR (gk P w) outer P w H s Q E) s:=by
 have lim:s.heap.NoLimit:=e0.mod.nolimit.keeps fun b o e=>(e0.bs b o e).1;refine W.kla_callFunE hr.depth ho rfl hco bz rfl fm ?_;rw[bq];refine Zw (wpAny_newFunctionEnv bn (fun y hy=>nomatch hy) (fun eX ki hsb=>⟨lim.fresh _ hsb,?_⟩) hk);show codeAny _ _ (.expr body (W.envX qual scope s.heap.objs.size f (.ref c') cl)) _ _;have hk₁:∀b o,s.heap.get? b=some o->eX.get? b=some o:=fun b o e=>hsb.extBut b o (ZC (lt_size e)) (ZX _ e);have I:Inv (Er P w K mg base N qual scope f (.ref c') cl A outer s H E) [] σ H _:=Mn (tk:=s.toks + ([]:List (Str×Value)).length) hk hr.hd e0 C ki hk₁;exact W.kla_codeExpr (Zv (hb [] _ σ H Q I h) (fun v s' ⟨x,H',J,rv,q⟩=>⟨x,H',J.os,J.bare,J.base,J.aI,rv,q⟩) fun e s' z=>z)
end
section
variable {s:Shared}
theorem Inv.cells {scope:Scope}{cl:List (Str×Addr)}{iY:St} (I:Inv X aa σ H s) (C:Hy N scope cl iY X.fw X.bA.heap) (jt:∀x c,cl.lookup x=some c->c∉ X.fs) (hex:X.ex=[]):Hy N scope cl iY H s.heap:=by
 have kp:∀x c v,cl.lookup x=some c->X.bA.heap.IsCell c v->s.heap.IsCell c v:=fun x c v e ⟨o,ho,hd⟩=>⟨o,I.base.keep c o ho (C.cell x c e).2 (jt x c e) (by rw[hex];simp),hd⟩;refine⟨C.inj,C.has,fun x c e=>?_,fun i x v h1 h2=>?_,C.len⟩
 ·obtain⟨⟨v,z⟩,n⟩:=C.cell x c e;obtain⟨o,ho,_⟩:=id z;exact⟨⟨v,kp x c v e z⟩,I.base.free c o ho n (by rw[hex];simp)⟩
 ·obtain⟨k,u,c,r,e,z⟩:=C.val i x v h1 h2;exact⟨k,u,c,r,e,kp x c _ e z⟩
def LL (i:Nat) (f c':Addr) (qual:Str) (o:Obj) (iY:St) (tb:TE):TE:=fun σ H Q=>σ[i]?=some (some (.ref f))/\H f=some (jP f o)/\H c'=some (Fe c' qual)/\tb iY H Q
theorem Mo {i k:Nat}{name qual:Str}{p:Pos}{Nl:List Str}{scope:Scope}{cl:List (Str×Addr)}{iY:St}{c':Addr}{params:Arguments}{body:Expr}{pm eP:Value}{tb:TE}{E:XK}
  (hN:X.N[i]?=some x) (hv:Vis X.env.scope x) (hr:aG k X.A) (C:Hy Nl scope cl iY X.fw X.bA.heap) (jt:∀x c,cl.lookup x=some c->c∉ X.fs) (hex:X.ex=[]) (hx:Bx (gk X.prog X.w) X E)
  (bq:bindArgs (W.kla_fn name qual params body scope cl pm (.ref c') eP) ⟨[],[]⟩=pure [])
  (hco:scope.isCoroutine=false) (bz:scope.isGenerator=false) (hk:scope.kind=.function) (bn:∀x∈scope.names,x.2≠ .cell)
  (hb:∀s H,PE (Er X.prog X.w X.K X.mg X.base Nl qual scope f (.ref c') cl X.A X.stack s H E) body tb) (hd:(x == ("__debug__" : Str))=false:=by decide) (fm:(x == ("__classdict__" : Str))=false:=by decide) :
  PE X (.Call (.Name x p) [] [] pos) (LL i f c' qual (W.kla_obj name qual params body scope cl pm c' eP) iY tb):=by
 intro aa s σ H Q I h;obtain⟨h1,h2,h3,h4⟩:=h;refine Z3 (aJ (PD hN hv hd fm aa s σ H (fun v H'=>v=.ref f/\H'=H) I ⟨_,h1,rfl,rfl⟩) fun u s1 ⟨v,H1,I1,r,ev,eH⟩=>?_);subst ev eH;obtain rfl:u=Value.ref f:=r;obtain⟨ho,_,_⟩:=I1.aI _ _ h2;obtain⟨hc,_,_⟩:=I1.aI _ _ h3;refine callWith_meth0 rfl ho (wpAny_call (codeAny_mono (QB hr I1.gK (I1.cells C jt hex) ho hc bq hco bz hk bn (hb s1 H1) h4) fun r s' hq=>?_));cases r with
 |error e=>exact hx aa σ H1 s1 e s' I1 hq
 |ok fl =>
  cases fl with
  |ret u=>exact I1.after hq
  |next=>exact False.elim hq
  |brk=>exact False.elim hq
  |cont=>exact False.elim hq
end
section
variable {CX:hX}
theorem aW.at {qual:Str}{st:Stmt}{fd:FuncData}{ps:List Str}{k:Nat}{outer:List Env}{s:Shared}{args:Args}{vs:List V}{Q:VK}{E:XK} (F:aW K x qual st f fd) (S:AL N ps (defScope st)) (hl:vs.length=ps.length)
  (hr:aG (k + 1) A) (e0:eN P w K mg base A outer s H) (hb:BindsTo s fd args (ps.zip us)) (r:Vals vs us)
  (bi:∀ac,aG k (A.deeper (envOfC qual (defScope st) s.heap.objs.size f ac))->∃t,fc (Bj CX P w K mg base N qual (defScope st) f ac A outer s H E) (defBody st) t/\t { nx:=fun _ H'=>Q .aU H',rt:=Q } (Bt N vs) H) :
  codeAny (model P w) A (.call (.ref f) args) (CR CX outer P w H s Q E) s:=by
 obtain⟨oc,od,kV,doc,pm,an,ac,ct,fZ,rfl,lk,fm⟩:=F.ex;have KX:K.In s.heap:=e0.mod.kin.keeps fun b o z=>(e0.bs b o z).1;have lim:s.heap.NoLimit:=e0.mod.nolimit.keeps fun b o z=>(e0.bs b o z).1
 have hk:∀y∈ps.zip us,(defScope st).names.lookup y.1=some .local\/((defScope st).names.lookup y.1=some .cell/\((cellsFrom (s.heap.objs.size + 1) (defScope st).names []).lookup y.1).isSome=true):=fun⟨n,v⟩ hy=>by
  rcases S.par n (of_mem_zip hy).1 with q |q
  ·exact .inl q
  ·exact .inr ⟨q,W.cellsFrom_some _ _ _ (.inl q)⟩
 refine codeAny_call_function hr.depth (KX _ _ lk) rfl S.co S.gen rfl (W.codeRec_of KX fm) (hb _ _ _ _ (wpAny_newFunctionEnv_cells S.kind hk fun env ee s1 x=>?_));subst ee;refine⟨lim.keeps x.toInCall.keep,codeAny_func ?_⟩;obtain⟨t,ht,hq⟩:=bi ac (hr.deeper _);have I:Inv (Bj CX P w K mg base N qual (defScope st) f ac A outer s H E) [] (Bt N vs) H s1:=GH S hr.hd e0 hl r x;refine Zv (ht [] s1 (Bt N vs) H _ I hq) (fun fl s' z=>?_) fun _ _ z=>z;cases fl with
 |ret u =>
  obtain⟨v,aK,H',J,rv,q⟩:=z;exact⟨v,H',J.os,J.bare,J.base,J.aI,rv,q⟩
 |next =>
  obtain⟨aK,H',J,q⟩:=z;exact⟨.aU,H',J.os,J.bare,J.base,J.aI,rfl,q⟩
 |brk =>
  obtain⟨_,_,_,q⟩:=z;exact q.elim
 |cont =>
  obtain⟨_,_,_,q⟩:=z;exact q.elim
end
theorem G5 {q:Pos}{c:Value} (az:(q.line == pos.line && q.col == pos.col)=false) (l:List Value) (h:TriplesOk l):codeAmong q (l++[rawInt pos.line,rawInt pos.col,c])=codeAmong q l:=by
 fun_induction TriplesOk l with
 |case1 =>
  have:((pos.line:Int) == (q.line:Int) && (pos.col:Int) == (q.col:Int))=false:=by
   rw[Bool.and_eq_false_iff]at az ⊢;rcases az with z |z
   ·left;rw[beq_eq_false_iff_ne]at z ⊢;omega
   ·right;rw[beq_eq_false_iff_ne]at z ⊢;omega
  simp[codeAmong,rawInt,this]
 |case2 a t b u x rest ih =>
  simp only[cons_append,codeAmong];split
  ·rfl
  ·exact ih h
 |case3 l h1 h2=>exact h.elim
def aQ (H:Hp) (P0:Addr) (qual:Str) (ls:List Pos):Prop:=∃ps,H P0=some (.gA ps)/\TriplesOk ps.toList/\∀q∈ls,codeAmong q ps.toList=none\/∃c',codeAmong q ps.toList=some (.ref c')/\H c'=some (Fe c' qual)
def Nm (P0:Addr) (H H':Hp):Prop:=∀b u,b≠P0->H b=some u->H' b=some u
structure QC (X:Cx) (c P0:Addr):Prop where
 code:X.env.code=.ref c
 hd:W.CodeHd X.base c P0
 bu:X.base.BuiltinsAt X.mg P0
section
variable {s:Shared}{c P0:Addr}{ls:List Pos}{cX:Pos}
def VU (P0:Addr) (qual:Str) (ls:List Pos) (o:Addr->Value->Obj):TE:=fun σ H Q=>aQ H P0 qual ls/\∀f c' eP H',H f=none->Nm P0 H H'->aQ H' P0 qual ls->H' f=some (jP f (o c' eP))->H' c'=some (Fe c' qual)->Q (.ref f) H'
theorem SC {c':Addr}{qual:Str} (r:h.CodeRec (.ref c') qual):aT P w H h c' (Fe c' qual):=by
 obtain⟨c1,oc,vs,t,e,ho,hd,hq⟩:=id r;cases e;exact⟨r,⟨_,ho⟩,fun h1 h2 ⟨c2,o2,v2,t2,e2,a,b⟩ k=>by cases e2;exact⟨_,o2,v2,t2,rfl,k _ a,b⟩⟩
theorem TM {o:Obj} (r:h.get? f=some o):aT P w H h f (jP f o):=⟨r,⟨_,r⟩,fun h1 h2 a k=>k _ a⟩
theorem UA {params:Arguments}{body:Expr}{scope:Scope}{cC:List (Str×Addr)} (L:QC X c P0) (hm:cX∈ls) (az:∀q∈ls,q=cX\/(q.line == cX.line && q.col == cX.col)=false)
  (ag:closureFor scope X.env=pure cC) (dc:defaultsOf params X.env=([],[])) :
  PE X (.Lambda params body scope cX) (VU P0 (X.env.qual ++ "<lambda>") ls (fun c' eP=>W.kla_obj "<lambda>" (X.env.qual ++ "<lambda>") params body scope cC ((X.mg "__name__").getD .none) c' eP)):=by
 intro aa s σ H Q I h;obtain⟨⟨ps,hP,ht,hls⟩,k⟩:=h;have bk:∀b o,X.base.get? b=some o->s.heap.get? b=some o:=fun b o e=>(I.bs b o e).1;have hPg:s.heap.get? P0=some (W.tabObj ps):=I.aI _ _ hP;have hgs:s.heap.Ns mainGlobals X.mg:=I.ok.mod.glob.keeps bk
 have hgP:mainGlobals≠P0:=fun q=>by
  obtain⟨o,es,ep,e,_⟩:=I.ok.mod.glob;have n:=(I.bs _ _ e).2;rw[q,hP]at n;cases n
 have C:=L.hd.keeps bk
 have B:s.heap.BuiltinsAt X.mg P0:=by
  obtain⟨bm,o,a1,a2,a3,a4,a5,a6⟩:=L.bu;exact⟨bm,o,a1,a2,a3,a4,bk _ _ a5,a6⟩
 refine W.kla_eval dc ?_;rcases hls cX hm with hn |⟨c',hf,jI⟩
 ·refine W.kla_makeFunction (mg:=X.mg) ag I.ok.glob hgs L.code C hPg ht hn hgP B fun c' eP h' tk hx hge hlt hrec ay=>?_;have kp:∀b o,b≠P0->s.heap.get? b=some o->(h'.push (W.kla_obj "<lambda>" (X.env.qual ++ "<lambda>") params body scope cC ((X.mg "__name__").getD .none) c' eP)).get? b=some o:=fun b o n e=>ZX _ (hx b o n e);have lt:∀b u,H b=some u->b < s.heap.objs.size:=fun b u e=>I.aI.lt e;have jt:s.heap.objs.size <= h'.objs.size:=Nat.le_trans hge (Nat.le_of_lt hlt);have hPl:P0 < s.heap.objs.size:=lt _ _ hP;have hcP:c'≠P0:=fun z=>by rw[z]at hge;exact absurd hPl (Nat.not_lt_of_le hge)
  have hfP:h'.objs.size≠P0:=fun z=>by rw[z]at jt;exact absurd hPl (Nat.not_lt_of_le jt)
  have hcf:c'≠h'.objs.size:=ZC hlt;generalize bx:upd (upd (upd H P0 (.gA (ps++#[rawInt cX.line,rawInt cX.col,.ref c']))) c' (Fe c' (X.env.qual ++ "<lambda>"))) h'.objs.size (jP h'.objs.size (W.kla_obj "<lambda>" (X.env.qual ++ "<lambda>") params body scope cC ((X.mg "__name__").getD .none) c' eP))=H'
  have ij:∀b,b < s.heap.objs.size->b≠P0->H' b=H b:=fun b hb n=>by
   rw[←bx,AF (ZC (Z2 hb jt)),AF (ZC (Z2 hb hge)),AF n]
  have atP:H' P0=some (.gA (ps++#[rawInt cX.line,rawInt cX.col,.ref c'])):=by rw[←bx,AF (Ne.symm hfP),AF (Ne.symm hcP),aA]
  have atc:H' c'=some (Fe c' (X.env.qual ++ "<lambda>")):=by rw[←bx,AF hcf,aA]
  have atf:H' h'.objs.size=some (jP h'.objs.size (W.kla_obj "<lambda>" (X.env.qual ++ "<lambda>") params body scope cC ((X.mg "__name__").getD .none) c' eP)):=by rw[←bx,aA]
  have ntbl:∀b u,H b=some u->(∀qs,u≠ .gA qs)->b≠P0:=fun b u e n z=>by subst z;rw[hP]at e;cases e;exact n _ rfl
  have un:Un X.fs [] H H' s.heap (h'.push (W.kla_obj "<lambda>" (X.env.qual ++ "<lambda>") params body scope cC ((X.mg "__name__").getD .none) c' eP)):=by
   have nP:∀b,H b=none->b≠P0:=fun b n z=>by subst z;rw[hP]at n;cases n
   refine⟨fun b o q n _ _=>kp b o (nP b n) q,fun b o q n _ _=>⟨o.slots,kp b o (nP b n) q⟩,fun b o q n _=>by rw[ij b (lt_size q) (nP b n)];exact n,fun b o q _=>?_,fun b xs e=>?_,fun b o u e=>?_,fun b qs e=>?_⟩
   ·by_cases z:b=P0
    ·subst z;exact⟨_,ZX _ ay⟩
    ·exact⟨o,kp b o z q⟩
   ·rw[ij b (lt _ _ e) (ntbl b _ e fun _ y=>nomatch y)];exact e
   ·rw[ij b (lt _ _ e) (ntbl b _ e fun _ y=>nomatch y)];exact e
   ·by_cases z:b=P0
    ·subst z;rw[hP]at e;cases e;exact⟨_,atP⟩
    ·exact⟨#[],by rw[ij b (lt _ _ e) z,e];simp⟩
  have aI:eE X.prog X.w H' (h'.push (W.kla_obj "<lambda>" (X.env.qual ++ "<lambda>") params body scope cC ((X.mg "__name__").getD .none) c' eP)):=fun b u e=>by
   by_cases z1:b=h'.objs.size
   ·subst z1;rw[atf]at e;cases e;exact TM (ZN _ rfl)
   by_cases z2:b=c'
   ·subst z2;rw[atc]at e;cases e;obtain⟨c1,oc,vs,t,ec,ho,hd⟩:=hrec;exact SC ⟨c1,oc,vs,t,ec,ZX _ ho,hd⟩
   by_cases z3:b=P0
   ·subst z3;rw[atP]at e;cases e;exact ZX _ ay
   ·have e':H b=some u:=by rw[←bx,AF z1,AF z2,AF z3]at e;exact e
    refine(I.aI b u e').fY (fun b2 o hb q=>kp b2 o ?_ q) (fun b2 q=>?_) fun b2 xs q=>?_
    ·rcases hb with z |z
     ·rw[z];exact z3
     ·exact ntbl b2 _ z fun _ y=>nomatch y
    ·rw[ij b2 (lt _ _ q) (ntbl b2 _ q fun _ y=>nomatch y)];exact q
    ·rw[ij b2 (lt _ _ q) (ntbl b2 _ q fun _ y=>nomatch y)];exact q
  have I':=I.un (t':=tk) un aI;refine⟨.ref h'.objs.size,H',I',rfl,k _ c' eP H' (I.aI.fresh jt) (fun b u n e=>by rw[ij b (lt _ _ e) n];exact e) ⟨_,atP,?_,fun q hq=>?_⟩ atf atc⟩
  ·rw[Array.toList_append];exact TriplesOk_snoc _ _ _ _ ht
  ·rw[Array.toList_append];rcases az q hq with z |z
   ·subst z;exact .inr ⟨c',codeAmong_snoc _ ht hn,atc⟩
   ·show codeAmong q (ps.toList++[rawInt cX.line,rawInt cX.col,.ref c'])=none\/_;rw[G5 z _ ht];rcases hls q hq with y |⟨c2,y1,y2⟩
    ·exact .inl y
    ·exact .inr ⟨c2,y1,by rw[ij c2 (lt _ _ y2) (ntbl c2 _ y2 fun _ y=>nomatch y)];exact y2⟩
 ·refine W.kla_makeFunctionHit (mg:=X.mg) ag I.ok.glob hgs L.code C hPg ht hf B fun eP h' tk hk hsz=>?_;have I':=I.laid (t':=tk) (a:=h'.objs.size) (o:=jP h'.objs.size (W.kla_obj "<lambda>" (X.env.qual ++ "<lambda>") params body scope cC ((X.mg "__name__").getD .none) c' eP)) (fun b o e=>ZX _ (hk b o e)) hsz (TM (ZN _ rfl));have fr:H h'.objs.size=none:=I.aI.fresh hsz
  have sm:∀b u,H b=some u->upd H h'.objs.size (jP h'.objs.size (W.kla_obj "<lambda>" (X.env.qual ++ "<lambda>") params body scope cC ((X.mg "__name__").getD .none) c' eP)) b=some u:=fun b u e=>by
   rw[AF (AG e fr)];exact e
  refine⟨.ref h'.objs.size,_,I',rfl,k _ c' eP _ fr (fun b u _ e=>sm b u e) ⟨ps,sm _ _ hP,ht,fun q hq=>?_⟩ aA (sm _ _ jI)⟩;rcases hls q hq with y |⟨c2,y1,y2⟩
  ·exact .inl y
  ·exact .inr ⟨c2,y1,sm _ _ y2⟩
end
def QD (P0:Addr) (H:Hp):Prop:=∀b,H b=none\/(∃o xs,H b=some (.dA o (.lst xs)))\/(b=P0/\H b=some (.gA #[]))
theorem OZ {mb:SV}{CX:hX}{k:Nat}{fa c P0:Addr}{fd:FuncData}{sp:Sp}{aL:Shared}{vs:List Value}{ns:List Int}
  (KX:K.In aL.heap) (ki:aL.heap.Ns mainGlobals mg) (hb:aL.heap.Ns builtinsNs mb) (hbb:∀x:Str,x≠ "__name__" -> mb x=bootBuiltins x) (hlim:aL.heap.NoLimit) (hg:aL.gens=#[])
  (ha:aL.heap.get? a=some { cls:=.type "list", data:=.seq vs.toArray }) (hi:IntsAre vs ns) (hl:ns.length <= sizeLine) (hr:aG k callerA)
  (hP:aL.heap.get? P0=some (W.tabObj #[])) (hKP:K.lookup P0=none) (hC:W.CodeHd aL.heap c P0) (hB:aL.heap.BuiltinsAt mg P0)
  (F:∀base:Heap,K.In base->base.Ns mainGlobals mg->W.CodeHd base c P0->base.BuiltinsAt mg P0->AY P w K mg base CX k fa fd [x] sp) (bq:∀(s:Shared) (u:Value),BindsTo s fd ⟨[u],[]⟩ [(x,u)])
  (gG:∀H:Hp,QD P0 H->H P0=some (.gA #[])->aH K H a (ns.map V.int)->sp [.ref a] H (fun v _=>v=.bl true) fun _ _ _=>False)
  (hCX:∀H e s',CX [] H aL (fun _ _ _=>False) e s'->False) :
  codeAny (model P w) callerA (.call (.ref fa) ⟨[.ref a],[]⟩) (fun r s'=>r=.ok (.ret (.bool true))/\OldK aL.heap s'.heap/\s'.os=aL.os/\AllBare s'.gens) aL:=by
 have rv:=Ea hi;have lenV:=hi.length;have haP:a≠P0:=fun z=>by subst z;rw[ha]at hP;cases hP
 have core:∀H:Hp,QD P0 H->H P0=some (.gA #[])->aH K H a (ns.map V.int)->eE P w H aL.heap->(∀b,H b≠none->b=a\/b=P0)->(H a≠none->K.lookup a=none) ->
   codeAny (model P w) callerA (.call (.ref fa) ⟨[.ref a],[]⟩) (fun r s'=>r=.ok (.ret (.bool true))/\OldK aL.heap s'.heap/\s'.os=aL.os/\AllBare s'.gens) aL:=by
  intro H hO hHP hS aI hA hK;have base_of:∀ {b:Addr}{o:Obj},aL.heap.get? b=some o->H b=none->(HK aL.heap H).get? b=some o:=fun e n=>O9 e n
  have noS:∀ {b:Addr}{o:Obj},aL.heap.get? b=some o->(∀xs n,o.data≠ .seq xs n)->o.cls≠ .none->H b=none:=fun {b o} e d1 d2=>by
   cases q:H b with
   |none=>rfl
   |some u =>
    rcases hA b (by rw[q];simp)with e' |e'
    ·subst e';rw[ha]at e;cases e;exact absurd rfl (d1 _ _)
    ·subst e';rw[hP]at e;cases e;exact absurd rfl d2
  have jC:∀ {b:Addr}{o:Obj}{es:Array DictEntry}{ep:Nat},aL.heap.get? b=some o->o.data=.dict es ep->H b=none:=fun {b o es ep} e d=>by
   cases q:H b with
   |none=>rfl
   |some u =>
    rcases hA b (by rw[q];simp)with e' |e'
    ·subst e';rw[ha]at e;cases e;cases (show Data.seq vs.toArray _=Data.dict es ep from d)
    ·subst e';rw[hP]at e;cases e;cases (show Data.fields #[]=Data.dict es ep from d)
  have nsK:∀ {b:Addr}{m:SV},aL.heap.Ns b m->(HK aL.heap H).Ns b m:=fun {b m} ⟨o,es,ep,e,d,r⟩=>⟨o,es,ep,base_of e (jC e d),d,r⟩
  have hKb:K.In (HK aL.heap H):=fun b o e=>base_of (KX b o e) (by
   cases q:H b with
   |none=>rfl
   |some u =>
    rcases hA b (by rw[q];simp)with e' |e'
    ·subst e';rw[hK (by rw[q];simp)]at e;cases e
    ·subst e'
     rw[hKP]at e;cases e)
  have hM:Mod K mg (HK aL.heap H):=⟨hKb,nsK ki,⟨mb,nsK hb,hbb⟩,let ⟨mc,h1,h2⟩:=hlim;⟨mc,nsK h1,h2⟩⟩
  have hCb:W.CodeHd (HK aL.heap H) c P0:=by
   obtain⟨o,jQ,file,tf,flags,tg,inF,text,tt,e,ag,kJ,r⟩:=id hC;exact⟨o,jQ,file,tf,flags,tg,inF,text,tt,base_of e (noS e (fun xs n z=>by rw[kJ]at z;cases z) (by rw[ag];exact fun z=>nomatch z)),ag,kJ,r⟩
  have hBb:(HK aL.heap H).BuiltinsAt mg P0:=by
   obtain⟨bm,o,a1,a2,a3,a4,a5,a6,a7,a8⟩:=id hB;exact⟨bm,o,a1,a2,a3,a4,base_of a5 (noS a5 (fun xs n z=>by rw[a8]at z;cases z) (by rw[a6];exact fun z=>nomatch z)),a6,a7,a8⟩
  have e0:eN P w K mg (HK aL.heap H) callerA [] aL H:=⟨rfl,hM,fun b o e=>RZ e,Nat.le_of_eq (N8 _ _),trivial,fun b hb=>absurd (show b∈([]:List Addr)from hb) (by simp),aI,.of_eq hg⟩;refine codeAny_mono ((F _ hKb (nsK ki) hCb hBb).run callerA [] aL H ⟨[.ref a],[]⟩ [.ref a] [.ref a] _ _ hr e0 (bq aL (.ref a)) (.cons rfl .nil) (gG H hO hHP hS)) fun r s' h=>?_;cases r with
  |error e=>exact(hCX H e s' h).elim
  |ok fl =>
   cases fl with
   |next=>exact False.elim h
   |brk=>exact False.elim h
   |cont=>exact False.elim h
   |ret u =>
    obtain⟨v,H',os,bare,un,hok',r',q⟩:=h;have q':v=.bl true:=q;subst q';obtain rfl:u=Value.bool true:=r'
    have tabNow:∃more,s'.heap.get? P0=some (W.tabObj (#[]++more)):=by
     obtain⟨more,e⟩:=un.fj P0 #[] hHP;exact⟨more,hok' _ _ e⟩
    have rest:∀b o,b≠P0->aL.heap.get? b=some o->s'.heap.get? b=some o:=fun b o hb e=>by
     cases q:H b with
     |none=>exact un.keep b o e q (by intro z;exact absurd (show b∈([]:List Addr)from z) (by simp)) (by simp)
     |some u =>
      rcases hO b with z |⟨ob,xs,z⟩ |⟨z,_⟩
      ·rw[q]at z;cases z
      ·have z2:=un.ft b ob _ z;obtain⟨e1,_⟩:=aI b _ z;obtain⟨e2,_⟩:=hok' b _ z2;rw[e]at e1;cases e1;exact e2
      ·exact absurd z hb
    refine⟨rfl,⟨fun b o e=>?_,fun b o e=>?_⟩,os,bare⟩
    ·by_cases hb:b=P0
     ·subst hb;rw[hP]at e;cases e;obtain⟨more,e2⟩:=tabNow;exact .inr (.inl ⟨(hC.tab hP).isCodeTable,rfl,#[],more,rfl,e2⟩)
     ·exact .inl (rest b o hb e)
    ·by_cases hb:b=P0
     ·subst hb;obtain⟨more,e2⟩:=tabNow;exact⟨_,e2⟩
     ·exact⟨o,rest b o hb e⟩
 cases hk:K.lookup a with
 |some o =>
  have e:=KX a o hk;rw[ha]at e;cases e;refine core (fun b=>if b=P0 then some (.gA #[])else none) (fun b=>?_) (Zp rfl) (.inr ⟨_,vs.toArray,_,hk,rfl,rfl,rfl,by rw[size_toArray,lenV];exact hl,by simpa using rv⟩) (fun b u z=>?_) (fun b z=>?_) fun z=>absurd (Zq haP) z
  ·by_cases hb:b=P0
   ·exact .inr (.inr ⟨hb,Zp hb⟩)
   ·exact .inl (Zq hb)
  ·by_cases hb:b=P0
   ·have z':=(Zp hb).symm.trans z;cases z';subst hb;exact hP
   ·have z':=(Zq hb).symm.trans z;cases z'
  ·by_cases hb:b=P0
   ·exact .inr hb
   ·exact absurd (Zq hb) z
 |none =>
  refine core (fun b=>if b=P0 then some (.gA #[])else if b=a then some (.dA { cls:=.type "list", data:=.seq vs.toArray } (.lst (ns.map V.int)))else none) (fun b=>?_) (Zp rfl) (.inl (.inr ⟨{ cls:=.type "list", data:=.seq vs.toArray },(Zq haP).trans (Zp rfl)⟩)) (fun b u z=>?_) (fun b z=>?_) fun _=>hk
  ·by_cases hb:b=P0
   ·exact .inr (.inr ⟨hb,Zp hb⟩)
   ·by_cases iL:b=a
    ·exact .inr (.inl ⟨_,_,(Zq hb).trans (Zp iL)⟩)
    ·exact .inl ((Zq hb).trans (Zq iL))
  ·by_cases hb:b=P0
   ·have z':=(Zp hb).symm.trans z;cases z';subst hb;exact hP
   ·by_cases iL:b=a
    ·have z':=((Zq hb).trans (Zp iL)).symm.trans z;cases z';subst iL;exact⟨ha,by rw[AH];exact hl,vs,_,rv,ha⟩
    ·have z':=((Zq hb).trans (Zq iL)).symm.trans z;cases z'
  ·by_cases hb:b=P0
   ·exact .inr hb
   ·by_cases iL:b=a
    ·exact .inl iL
    ·exact absurd ((Zq hb).trans (Zq iL)) z
theorem QE {l:W.OpenLaw}{n k:Nat}{q:Program}{loose:List Str}{XP:(Str->Option Value)->Heap->Prop}{YP:World->Heap->Prop}{d:DefRec}{K:Params->FG}{CX:World->hX}{sp:World->Sp}{c P0:Addr}
  (hn:l.most=some n) (hn2:n <= sizeLine) (iK:d.params.defaults=[]) (hr:aG k callerA)
  (hY:∀(w:World) (h:Heap),YP w h->(K w.params).In h/\h.get? P0=some (W.tabObj #[])/\(K w.params).lookup P0=none/\W.CodeHd h c P0)
  (F:∀(w:World) (mg:SV) (fa:Addr) (h:Heap),(K w.params).In h->h.Ns mainGlobals mg->mg d.name=some (.ref fa) ->
   ∃fd:FuncData,(∀(s:Shared) (u:Value),BindsTo s fd ⟨[u],[]⟩ [(x,u)]) /\
    ∀base:Heap,(K w.params).In base->base.Ns mainGlobals mg->W.CodeHd base c P0->base.BuiltinsAt mg P0->AY l.prog w (K w.params) mg base (CX w) k fa fd [x] (sp w))
  (gG:∀(w:World) (H:Hp) (a:Addr) (ns:List Int),ns.length <= n->QD P0 H->H P0=some (.gA #[])->aH (K w.params) H a (ns.map V.int)->sp w [.ref a] H (fun v _=>v=.bl true) fun _ _ _=>False)
  (hCX:∀(w:World) (H:Hp) (s:Shared) (e:Value) (s':Shared),CX w [] H s (fun _ _ _=>False) e s'->False) :
  W.WalkO q loose XP YP l.row.toRowW d [] (fun f vs=>PySem.call f vs):=by
 refine Att.attach_call hn iK fun w bA aL mg mb fa o pm cd doc a vs ns G Y ho hd fm hmg cz bt bf hg=>?_;obtain⟨KX,hP,hKP,hC⟩:=hY w _ Y;obtain⟨fd,hb,hF⟩:=F w mg fa _ KX G.T.g hmg
 have hB:aL.heap.BuiltinsAt mg P0:=by
  obtain⟨bm,ob,b1,b2,b3,b4,b5,b6⟩:=G.T.bmain;refine⟨bm,ob,b1,b2,fun z=>?_,fun z=>?_,b3,b4,b5,b6⟩
  ·obtain⟨o',es,ep,e,hd',_⟩:=G.T.g;rw[z,e]at b3;cases b3;rw[hd']at b6;cases b6
  ·rw[z,hP]at b3;cases b3;cases b4
 exact OZ KX G.T.g G.T.b G.T.builtins G.T.nolimit hg cz bt (Nat.le_trans bf hn2) hr hP hKP hC hB hF hb (fun H hO hH hS=>gG w H a ns bf hO hH hS) fun H e s'=>hCX w H aL e s'
section
theorem aW.okX {qual:Str}{st:Stmt}{fd:FuncData}{ps:List Str}{k:Nat}{sp:Sp} (F:aW K x qual st f fd) (S:AL N ps (defScope st)) (len:∀vs H Q E,sp vs H Q E->vs.length=ps.length)
  (bi:∀(ac:Value) (A:Around) (outer:List Env) (s:Shared) (H:Hp) (vs:List V) (Q:VK) (E:XK),aG k (A.deeper (envOfC qual (defScope st) s.heap.objs.size f ac))->sp vs H Q E ->
   ∃t,fc (Bj (gk P w) P w K mg base N qual (defScope st) f ac A outer s H E) (defBody st) t/\t { nx:=fun _ H'=>Q .aU H',rt:=Q } (Bt N vs) H):AY P w K mg base (gk P w) (k + 1) f fd ps sp:=by
 obtain⟨oc,od,kV,doc,pm,an,ac,ct,fZ,rfl,lk,fm⟩:=F.ex;exact Kr lk fm S len fun A outer s H vs Q E hr gG=>bi ac A outer s H vs Q E hr gG
structure BdX (P:Program) (w:World) (K:FG) (mg:SV) (base:Heap) (f:Addr) (qual:Str) (st:Stmt) (N ps:List Str) (k:Nat) (vs:List V) (H:Hp) (Q:VK) (E:XK):Prop where
 len:vs.length=ps.length
 ok:∀(ac:Value) (A:Around) (outer:List Env) (s:Shared),aG k (A.deeper (envOfC qual (defScope st) s.heap.objs.size f ac)) ->
  ∃t,fc (Bj (gk P w) P w K mg base N qual (defScope st) f ac A outer s H E) (defBody st) t/\t { nx:=fun _ H'=>Q .aU H',rt:=Q } (Bt N vs) H
theorem aW.n {qual:Str}{st:Stmt}{fd:FuncData}{ps:List Str}{k:Nat}{sp:Sp} (F:aW K x qual st f fd) (S:AL N ps (defScope st)) (h:∀vs H Q E,sp vs H Q E->BdX P w K mg base f qual st N ps k vs H Q E) :
  AY P w K mg base (gk P w) (k + 1) f fd ps sp:=F.okX S (fun vs H Q E q=>(h vs H Q E q).len) fun c A o s H vs Q E r q=>(h vs H Q E q).ok c A o s r
structure FunD (K:FG) (x qual:Str) (st:Stmt) (f:Addr) (fd:FuncData):Prop where
 ex:∃(oc:Value) (od:Option Addr) (dV kV doc pm:Value) (an:Option Addr) (ac ct:Value) (fZ:Array (Option Value)),
  fd=W.fnOf x qual (defArgs st) (defBody st) (defScope st) dV kV doc pm an ac ct/\K.lookup f=some ⟨oc,od,.func fd,fZ⟩/\W.codeIn K ac qual=true
theorem FunD.ok {qual:Str}{st:Stmt}{fd:FuncData}{ps:List Str}{k:Nat}{sp:Sp} (F:FunD K x qual st f fd) (S:AL N ps (defScope st)) (len:∀vs H Q E,sp vs H Q E->vs.length=ps.length)
  (bi:∀(ac:Value) (A:Around) (outer:List Env) (s:Shared) (H:Hp) (vs:List V) (Q:VK) (E:XK),aG k (A.deeper (envOfC qual (defScope st) s.heap.objs.size f ac))->sp vs H Q E ->
   ∃t,fc (Bj aO P w K mg base N qual (defScope st) f ac A outer s H E).gO (defBody st) t/\t { nx:=fun _ H'=>Q .aU H',rt:=Q } (Bt N vs) H):AY P w K mg base aO (k + 1) f fd ps sp:=by
 obtain⟨oc,od,dV,kV,doc,pm,an,ac,ct,fZ,rfl,lk,fm⟩:=F.ex;refine Kr lk fm S len fun A outer s H vs Q E hr gG=>?_;obtain⟨t,h,q⟩:=bi ac A outer s H vs Q E hr gG;exact⟨t,h.gO,q⟩
end
end L2
end
section
namespace L2
open PySem PySem.Spec PyProof.Rows Builtin Builtin.ObjectAttr
noncomputable def E2 (C M:Addr):List Value:=[.ref C,.ref M,.type "ValueError", .type "Exception", .type "BaseException", .type "object"]
section
variable {prog:Program}{s:Shared}{x M:Addr}{ox:Obj}{vs:Array Value}{name:Str}{v:Value}{cd:ClassData}
theorem SD {R:Result->Shared->Prop}{tk:Tok} (X:K.In s.heap) (hx:s.heap.get? x=some ox) (ag:ox.cls=.ref C) (fk:ox.dict=none) (hf:ox.data=.fields vs) (hc:W.clsIn K C=some cd) (ci:cd.mro=E2 C M) (bg:cd.hasDict=true) (hn:W.findIn K (.ref C) name=some none)
  (h:∀(h':Heap) (ji:Nat),h'.get? x=some { ox with dict:=some s.heap.objs.size }->h'.Ns1 s.heap.objs.size (fun y=>if y=name then some v else none)->(∀b o,b≠x->s.heap.get? b=some o->h'.get? b=some o)->R (.ok (.ret .none)) { s with heap:=h',toks:=ji }) :
  codeAny (model prog w) A (.call (.builtin "object.__setattr__") ⟨[.ref x,.str name tk,v],[]⟩) R s:=by
 have SF:=PySem.F.store_object;have I:W.InstAt s.heap x ox C none:=⟨hx,ag,by unfold W.notCls;rw[hf],by rw[fk];trivial⟩;have ne:cd.mro.isEmpty=false:=by rw[ci];rfl
 have sub:W.Looks (model prog w) s.heap (isInstance (.ref x) (.type "object")) true:=I.type.andThen (W.looks_mroIn X (by unfold W.mroIn;rw[hc,Option.bind_some,Zq (by rw[ne];decide),ci];simp[E2]));refine codeAny_call_builtin SF.slot.plain SF.entry (@W.check_slot (model prog w) _ _ s "object.__setattr__" "object" "__setattr__" (.ref x) [.str name tk,v] [] _ SF.kind SF.split sub (SF.args (.ref x) (.str name tk) v) ?_);have hm:W.Looks (model prog w) s.heap (mroOf (.ref C)) cd.mro:=(W.looks_clsIn X hc).andThen .now;have L3:W.Looks (model prog w) s.heap (storeTaker? none) none:=.now;rw[W.osa_eq,refuse_eq];refine Zx (Zx (I.type.here (Zx (hm.here ?_))));rw[ci];unfold E2;rw[refuseLoop_ref,refuseLoop_ref,PySem.F.store_ValueError.passes];refine Zw (Zx (I.type.here (Zx ((W.looks_findIn X hn).here (Zx (L3.here ?_))))));obtain⟨oc,odi,oda,fZ⟩:=ox
 dsimp only at ag fk hf
 subst ag fk hf;refine Zx (Zw (Zx (Zx (wpAny_loadPart hx (Zx ((W.looks_clsIn X hc).here ?_))))));rw[bg];have hx₁:(s.heap.push { cls:=.type "dict", data:=.dict #[] }).get? x=some _:=ZX _ hx;have hxs:x≠s.heap.objs.size:=ZC (lt_size hx);obtain⟨hp,g,d,t,os⟩:=s
 dsimp only at hx hx₁ hxs h ⊢
 rw[Zq qc,Zq (by simp[typeHasDict])];refine Zx (wpAny_alloc' ?_);refine Zx (wpAny_update' hx₁ ?_);refine Zw ?_
 have hgd:((hp.push { cls:=.type "dict", data:=.dict #[] }).update x fun o=>{ cls:=o.cls,dict:=some hp.objs.size,data:=o.data,slots:=o.slots }).get? hp.objs.size=some { cls:=.type "dict", data:=.dict #[] } :=
  (Heap.get?_update_ne _ _ _ _ hxs.symm).trans (Heap.get?_push_at rfl rfl)
 have ip:((hp.push { cls:=.type "dict", data:=.dict #[] }).update x fun o=>{ cls:=o.cls,dict:=some hp.objs.size,data:=o.data,slots:=o.slots }).Ns hp.objs.size (fun _=>none) :=
  ⟨_,#[],_,hgd,rfl,fun e he=>absurd he (by simp),fun _=>rfl⟩
 show wpAny _ _ (storeInDict hp.objs.size (.str name tk) name v) _ _ _;unfold storeInDict newKeyGuard;refine Zx (Zw (Zx (wpAny_nsSet1 (Heap.Ns1.of_empty ip) fun h' hn' hs=>?_)));obtain⟨oD,esD,epD,hoD,hdD,jc⟩:=hn'.count (Within.cons name v Within.nil);refine Zx (wpAny_lookBehind hoD (by rw[hdD];exact pastItsLine_dict (Nat.le_trans jc (by rw[length_cons,length_nil,sizeLine_eq];omega))) ?_)
 wp_walk
 have jZ:h'.get? x=some { cls:=.ref C,dict:=some hp.objs.size,data:=.fields vs,slots:=fZ }:=(hs.2 x hxs).trans (ZU _ hx₁ rfl);exact h h' _ jZ hn' fun b ob hbx hb=>(hs.2 b (ZC (lt_size hb))).trans ((Heap.get?_update_ne _ _ _ _ hbx).trans (ZX _ hb))
theorem SE {Q:Unit->Shared->Prop} (X:K.In s.heap) (hx:s.heap.get? x=some ox) (ag:ox.cls=.ref C) (fk:ox.dict=none) (hf:ox.data=.fields vs) (hc:W.clsIn K C=some cd) (ci:cd.mro=E2 C M) (bg:cd.hasDict=true) (hn:W.findIn K (.ref C) name=some none)
  (hs:W.findIn K (.ref C) "__setattr__" = some (some (.builtin "object.__setattr__")))
  (h:∀(h':Heap) (ji:Nat),h'.get? x=some { ox with dict:=some s.heap.objs.size }->h'.Ns1 s.heap.objs.size (fun y=>if y=name then some v else none)->(∀b o,b≠x->s.heap.get? b=some o->h'.get? b=some o)->Q () { s with heap:=h',toks:=ji }) :
  wpAny (model prog w) A (setAttr (.ref x) name v) Q E s:=by
 have I:W.InstAt s.heap x ox C none:=⟨hx,ag,by unfold W.notCls;rw[hf],by rw[fk];trivial⟩;exact W.set_plain X I hs (SD (s:={ s with toks:=s.toks + 1 }) X hx ag fk hf hc ci bg hn fun h' ji a b c=>h h' ji a b c)
end
end L2
end
section
namespace L2
open PySem PySem.Spec PyProof.Rows
structure QF (K:FG) (C M:Addr) (f:Str):Prop where
 cls:∃cd,W.clsIn K C=some cd/\cd.mro=E2 C M/\cd.hasDict=true
 nf:W.findIn K (.ref C) f=some none
 sa:W.findIn K (.ref C) "__setattr__" = some (some (.builtin "object.__setattr__"))
section
variable {o value:Expr}{ta tv:TE}{f:Str}{pos':Pos}{M:Addr}
def VW (K:FG) (M:Addr) (ta tv:TE) (f:Str):TS:=fun D σ H=>tv σ H fun y H1=>ta σ H1 fun x H2=>∃e C,x=.ref e/\H2 e=some (Fc e C none)/\QF K C M f /\
 ∀d,H2 d=none->d≠e->D.nx σ (upd (upd H2 e (Fc e C (some d))) d (.xd [(f,y)]))
theorem SG (ha:PE X o ta) (hv:PE X value tv) (hs:swapsWith value (some (.Attribute o f pos')) pos.line X.env=pure false):PS X (.Assign [.Attribute o f pos'] value pos) (VW X.K M ta tv f):=by
 intro aa s σ H D I h;refine plainObj_wpAny_Assign_Attribute (aJ (hv aa s σ H _ I h) fun u s1 ⟨y,H1,I1,ry,q⟩=>aJ (ha aa s1 σ H1 _ I1 q) fun ov s2 ⟨x,H2,I2,rx,e,C,ex,ea,S,q2⟩=>?_) hs;subst ex;obtain rfl:ov=Value.ref e:=rx;obtain⟨⟨oe,vs,a1,a2,a3,a4,a5,a6,a7⟩,_,_⟩:=I2.aI _ _ ea;obtain⟨cd,hc,hm,hd⟩:=S.cls;refine SE I2.cS a1 a2 a3 a4 hc hm hd S.nf S.sa fun h' ji hx hn hk=>?_;have hde:s2.heap.objs.size≠e:=Nat.ne_of_gt (lt_size a1);have fk:H2 s2.heap.objs.size=none:=I2.aI.fresh (Zy _);generalize hH':upd (upd H2 e (Fc e C (some s2.heap.objs.size))) s2.heap.objs.size (.xd [(f,y)])=H';have lt:∀b u,H2 b=some u->b < s2.heap.objs.size:=fun b u z=>I2.aI.lt z;have ij:∀b,b < s2.heap.objs.size->b≠e->H' b=H2 b:=fun b hb n=>by rw[←hH',AF (ZC hb),AF n]
 have ate:H' e=some (Fc e C (some s2.heap.objs.size)):=by rw[←hH',AF (Ne.symm hde),aA]
 have atd:H' s2.heap.objs.size=some (.xd [(f,y)]):=by rw[←hH',aA]
 have next:∀b u,H2 b=some u->(∀φ,u≠ .ext φ)->b≠e:=fun b u z n w=>by subst w;rw[ea]at z;cases z;exact n _ rfl
 have nn:∀b,H2 b=none->b≠e:=fun b z w=>by subst w;rw[ea]at z;cases z
 have un:Un X.fs [] H2 H' s2.heap h':=by
  refine⟨fun b ob z n _ _=>hk b ob (nn b n) z,fun b ob z n _ _=>⟨ob.slots,hk b ob (nn b n) z⟩,fun b ob z n _=>by rw[ij b (lt_size z) (nn b n)];exact n,fun b ob z _=>?_,fun b xs z=>?_,fun b ob w z=>?_,fun b ps z=>⟨#[],?_⟩⟩
  ·by_cases w:b=e
   ·subst w;exact⟨_,hx⟩
   ·exact⟨ob,hk b ob w z⟩
  ·rw[ij b (lt _ _ z) (next b _ z fun _ w=>nomatch w)];exact z
  ·rw[ij b (lt _ _ z) (next b _ z fun _ w=>nomatch w)];exact z
  ·rw[ij b (lt _ _ z) (next b _ z fun _ w=>nomatch w),z];simp
 have aI:eE X.prog X.w H' h':=fun b w z=>by
  by_cases hb:b=s2.heap.objs.size
  ·subst hb;rw[atd]at z;cases z;refine⟨_,hn,fun g=>?_⟩;by_cases hg:g=f
   ·subst hg;simp only[Zp rfl,Zz,beq_self_eq_true];exact ry
   ·have e1:(g == f)=false:=beq_eq_false_iff_ne.mpr hg;simp only[Zq hg,Zz,e1,List.lookup_nil];trivial
  by_cases iL:b=e
  ·subst iL;rw[ate]at z;cases z;exact⟨⟨_,vs,hx,a2,rfl,a4,a5,a6,a7⟩,⟨_,hx⟩,fun h1 h2 ⟨oe,vs,a,r⟩ k=>⟨oe,vs,k _ a,r⟩⟩
  ·have z':H2 b=some w:=by rw[←hH',AF hb,AF iL]at z;exact z
   refine(I2.aI b w z').fY (fun b2 ob hc2 q=>hk b2 ob ?_ q) (fun b2 q=>?_) fun b2 xs q=>?_
   ·rcases hc2 with w2 |w2
    ·rw[w2];exact iL
    ·exact next b2 _ w2 fun _ y=>nomatch y
   ·rw[ij b2 (lt _ _ q) (next b2 _ q fun _ y=>nomatch y)];exact q
   ·rw[ij b2 (lt _ _ q) (next b2 _ q fun _ y=>nomatch y)];exact q
 have I3:=I2.un (t':=ji) un aI;have q3:=q2 s2.heap.objs.size fk hde;rw[hH']at q3;exact⟨σ,H',I3,q3⟩
end
section
variable {CX:hX}{k:Nat}{fd:FuncData}{ps:List Str}{sp:Sp}{eW:List V}{ds:List Value}{E:XK}{name:Str}{np apos:Pos}{es:List Expr}{t:TA}{mc:Value}
theorem Mp {pl:Sem Bool} (hg:Gl X x) (hm:X.mg x=some (.ref C)) (ga:W.specialIn X.K (.ref C) "__getattribute__" = some (some (.builtin "type.__getattribute__"))) (hr0:W.readsIn X.K C mc=true) (hf:W.findCls X.K (.ref C) mc name=some (.val (.ref f)))
  (F:AY X.prog X.w X.K X.mg X.base CX k f fd ps sp) (hr:aG k X.A) (hk:W.keepIn X.K (.ref f)=true) (hb:Binds X.K fd ps ds) (hd:Vals eW ds) (hx:Bx CX X E) (ha:PA X (e :: es) t) (eV:(x == ("__debug__" : Str))=false:=by decide)
  (he:starEach (e :: es) X.env=(false,eval e X.env) :: starEach es X.env:=by rfl) (eM:(backTo pos (starEach es X.env)).any (·.1)=false:=by rfl)
  (ht:eval (.Call (.Attribute (.Name x np) name apos) (e :: es) [] pos) X.env=(do
   let ov ←eval (.Name x np) X.env
   standAt apos.atName
   let (f,first) ←holding [ov] (getMethod ov name pl)
   callWith pos f first (backTo pos (starEach (e :: es) X.env)) (backToKw pos (keywordEach [] X.env))):=by rfl) :
  PE X (.Call (.Attribute (.Name x np) name apos) (e :: es) [] pos) (TD sp eW E t):=by
 intro aa s σ H Q I h;refine W.methodCall_KW (pl:=pl) ?_ ht;refine B2 I hg hm ?_ eV;refine W.method_cls I.cS ga (W.cls_value I.cS hr0 hf rfl ?_);refine W.callWith_K (h₀:=X.base) I.ok.mod.kin hk (aJ (ha pos aa _ σ H _ (I.tok _) h) fun us s1 ⟨vs,H1,I1,r,q⟩=>⟨I1.cS,?_⟩) he eM;exact J0 F hr hb hd hx I1 r q
end
section
variable {c:Str}{cp fp:Pos}{ck:Nat}
def VX (c:Str) (te:TE):TE:=fun σ H Q=>te σ H fun x H1=>((∃i,x=.int i/\i.natAbs.log2 < 1920)\/(∃z,x=.str z/\z.length <= 1000)\/x=.aU)/\∀z,Q (.str z) H1
theorem HC (a b:Str):(a++b).length=a.length + b.length:=strLen_append a b
theorem SH (hc:c.length <= 1000) (he:PE X e te):PE X (.JoinedStr [.Constant (.str c) ck cp,.FormattedValue e (-1) none fp] pos) (VX c te):=by
 intro aa s σ H Q I h;refine JoinedStr_many (joinParts_cons (Calls.Constant_str ?_));have l0:(Str.empty++c).length <= 1000:=by rw[HC];show 0 + c.length <= 1000;omega
 have sz:(3000:Nat) <= sizeLine:=by decide
 refine⟨Nat.le_trans l0 (Nat.le_trans qc sz),joinParts_cons ?_⟩;refine wpAny_FormattedValue_plain (aJ (he aa _ σ H _ (I.tok _) h) fun u s1 ⟨x,H1,I1,r,q,k⟩=>?_);rcases q with⟨i,rfl,hi⟩ |⟨z,rfl,hz⟩ |rfl
 ·obtain⟨t,rfl⟩:=r;refine PySem.wpAny_formatField_int hi ?_;have l1:(Str.ofString (toString i)).length <= 1921:=by rw[PySem.ofString_length];exact int_text_length_le (k:=1920) qc hi
  have l2:((Str.empty++c)++Str.ofString (toString i)).length <= sizeLine:=by
   rw[HC];omega
  exact⟨l2,joinParts_nil ⟨.str _,H1,(I1.tok _).tok _,⟨_,rfl⟩,k _⟩ l2⟩
 ·obtain⟨t,rfl⟩:=r
  have l2:((Str.empty++c)++z).length <= sizeLine:=by
   rw[HC];omega
  have jE:z.length <= sizeLine:=by omega
  exact PySem.wpAny_formatField_str ⟨l2,joinParts_nil ⟨.str _,H1,I1.tok _,⟨_,rfl⟩,k _⟩ l2⟩ ⟨l2,joinParts_nil ⟨.str _,H1,(I1.tok _).tok _,⟨_,rfl⟩,k _⟩ l2⟩ jE
 ·obtain rfl:u=Value.none:=r
  have l2:((Str.empty++c)++("None" : Str)).length <= sizeLine:=by
   have:("None" : Str).length=4:=by decide +kernel
   rw[HC];omega
  exact PySem.wpAny_formatField_none ⟨l2,joinParts_nil ⟨.str _,H1,(I1.tok _).tok _,⟨_,rfl⟩,k _⟩ l2⟩
end
structure PSw (X:Cx) (st:Stmt) (t:TS):Prop where
 h:PS X st t
structure PSsw (X:Cx) (st:List Stmt) (t:TS):Prop where
 h:fc X st t
structure PIw (X:Cx) (tg e:Expr) (t:TI):Prop where
 h:PI X tg e t
section
variable {st:Stmt}{rest:List Stmt}{t u:TS}{tg l iter:Expr}{tl:TE}
theorem Mq (a:PSw X st t) (b:PSsw X rest u):PSsw X (st :: rest) (U2 t u):=⟨AE a.h b.h⟩
theorem QG (a:PSw X st t):PSsw X [st] t:=⟨AD a.h⟩
theorem TQ {body:List Stmt}{wi:TI}{g:TG}{tb:TS} (hp:PassesOwn (model X.prog X.w) X.A X.env X.xe) (hc:X.calm=true) (hi:PIw X tg iter wi) (hg:PG X tg g) (hb:PSsw X body tb)
  (hs:∀x,foldedSetIterable iter X.env x=pure x:=by intro _;rfl):PSw X (.For tg iter body [] pos) (U7 wi g tb):=⟨BY hp hc hi.h hg hb.h hs⟩
end
end L2
end
section
namespace PySem
open Sem (wp)
theorem Hz {prog:Program}{s:Shared}{xs:Array Value}{o:Obj}{k:Nat}{Q:Option Value->Shared->Prop}
  (hx:s.heap.get? a=some o) (hc:o.cls=.type "list") (cr:o.data=.seq xs k) (hd:o.dict=none) (hA:A.handled=none)
  (h:∀h' tk,(∀b ob,s.heap.get? b=some ob->h'.get? b=some ob)->Q none { s with heap:=h',toks:=tk }) :
  wpAny (model prog w) A (getAttr? (.ref a) "keys") Q E s:=by
 obtain⟨c,dct,dat,sl⟩:=o;simp only at hc cr hd;subst hc cr hd;obtain⟨hp,g,d,tk,os⟩:=s;have hT:∀ji,(⟨hp,g,d,ji,os⟩:Shared).TypeIs (.ref a) "list" := fun _=>⟨_,hx,rfl⟩;have f1:=sub_AttributeError;have f3:=F.slot_list_getattribute.lookup;have f4:=F.slot_list_getattribute.bind (.ref a);have f5:=am_list_getattr_none;have hmiss:typeLookup (.type "list") "keys" = pure none:=by rw[typeLookup_type,builtinLookup_eq_fast];kernel_rfl
 unfold getAttr? getAttrBy? getAttrBy
 repeat (any_goals (first |assumption |exact hT _ | ((with_reducible show wpAny _ _ (call (Value.builtin "list.__getattribute__") _ _) _ _ _);refine call_meets F.slot_list_getattribute (hT _) am_entry_list_getattribute (F.args_list_getattribute_2 _ _) (meets_getattribute_miss_list a xs k sl "keys" _ hmiss qb) ⟨hx,hA,fun h' ji e jZ=>?_⟩) |wp_step))
 obtain⟨t',u',he⟩:=jZ.there;show wpAny _ _ (getattributeRaised _ _ _ _ _ _ _) _ _ _;unfold getattributeRaised
 repeat (any_goals (first |assumption |wp_step))
 exact h _ _ jZ.keeps
end PySem
end
section
namespace L2
open PySem PySem.Spec PyProof.Rows
theorem B7:entryFor table "dict.update.loop" = some Builtin.«dict.update.loop»:=entryFor_of_tree qd
theorem BH:plainId "dict.update.loop" = true:=by decide +kernel
noncomputable def BZ (kvs ps:LK):LK:=ps.foldl (fun d p=>BV d p.1 p.2) kvs
theorem IA:∀(ps kvs:LK),(BZ kvs ps).length <= kvs.length + ps.length
 | [],kvs=>Zy _
 |p :: r,kvs=>by
  have h1:=IA r (BV kvs p.1 p.2);have h2:=Bm kvs p.1 p.2;show(BZ (BV kvs p.1 p.2) r).length <= _;rw[length_cons];omega
section
variable {R:Result->Shared->Prop}{it p:Addr}{bs:List Addr}{ps:LK}
theorem Oa (hA:A.in1.handled=none) (hpa:p≠a) (hpit:p≠it) (hq:aH X.K H a (bs.map V.ref)) (hl:bs.length=ps.length) (hb:∀(i:Nat) b q,bs[i]?=some b->ps[i]?=some q->b≠p/\aY X.K H b [kV q.1,q.2]) (hz:ps.length <= 1000)
  (hqs:∀kvs,aH X.K (upd H p (.dK kvs)) a (bs.map V.ref)) (hts:∀kvs b xs,b≠p->aY X.K H b xs->aY X.K (upd H p (.dK kvs)) b xs) (f0:∀kvs,(upd H p (.dK kvs)) it=none) (f1:it≠X.env.locals) (f3:it∈X.ex\/X.bA.heap.objs.size <= it) (f4:∀(x:Str) (c:Addr),X.env.cells.lookup x=some c->c≠it) (f5:∀q:Addr×Obj,q∈X.pn++aa->q.1≠it) :
  ∀(k i:Nat) (s:Shared) (kvs:LK),ps.length - i=k->i <= ps.length->kvs.length <= i->Inv X aa σ (upd H p (.dK kvs)) s->s.heap.IsListIter it a i->(∀s',Inv X aa σ (upd H p (.dK (BZ kvs (ps.drop i)))) s'->R (.ok (.ret .none)) s') ->
   codeAny (model X.prog X.w) A (.builtin "dict.update.loop" ⟨[.ref p,.ref it,rawInt (i:Int),.none],[]⟩) R s:=by
 intro k;induction k with
 |zero =>
  intro i s kvs hk hi hkl I st hR;have eU:i=ps.length:=by omega
  obtain⟨its,rv,pl,_⟩:=I.list (hqs kvs);have bf:=rv.length;refine codeAny_builtin B7 ?_;rw[Around.under_plainId BH _];show wpAny _ A.in1 (pyNext (.ref it) >>= _) _ _ s;refine Zx (wpAny_pyNext_list_end hA st pl.isList (by rw[AH]at bf;simp;omega) fun h' eb=>?_);show wpAny _ A.in1 (Builtin.Dict.addKeywords p [] >>= _) _ _ _;refine Zx (Zw (Zw (hR _ ?_)));have e:BZ kvs (ps.drop i)=kvs:=by rw[eU,List.drop_length];rfl
  rw[e];exact I.turned (t':=s.toks) (fun b o hb e=>eb b o hb e) (f0 kvs) f1 f3 f4 f5
 |succ k ih =>
  intro i s kvs hk hi hkl I st hR;have hlt:i < ps.length:=by omega
  obtain⟨its,rv,pl,_⟩:=I.list (hqs kvs);have hbi:bs[i]?=some (bs[i]'qe):=Z7 qe;have hpi:ps[i]?=some ps[i]:=Z7 hlt;obtain⟨hbp,hT⟩:=hb i _ _ hbi hpi;obtain⟨u,hu,ru⟩:=rv.get (i:=i) (x:=V.ref (bs[i]'qe)) (by rw[ZE,hbi];rfl);cases (show u=Value.ref _ from ru);refine codeAny_builtin B7 ?_;rw[Around.under_plainId BH _];show wpAny _ A.in1 (pyNext (.ref it) >>= _) _ _ s;refine Zx (wpAny_pyNext_list_item st pl.isList (x:=Value.ref (bs[i]'qe)) (by simpa using hu) fun h' dY sb=>?_);have I1:Inv X aa σ (upd H p (.dK kvs)) { s with heap:=h' }:=I.turned (t':=s.toks) (fun b o hb e=>(sb.2 b hb).trans e) (f0 kvs) f1 f3 f4 f5;obtain⟨gw,rv2,⟨ot,et,ct,nt,dt⟩,_⟩:=I1.tuple (hts kvs _ _ hbp hT);obtain⟨uk,uv,e2,rk,rvv⟩:=El rv2;subst e2;show wpAny _ A.in1 (holding [Value.ref (bs[i]'qe)] _ >>= _) _ _ _;refine Zx (ZK ?_);have hp:(upd H p (.dK kvs)) p=some (.dK kvs):=aA;obtain⟨z,hd,vs,rel,dd⟩:=NY I1.aI hp;have hvs:vs.length <= sizeLine:=by rw[←rel.length];exact z
  have hTy:Shared.TypeIs { s with heap:=h' } (.ref (bs[i]'qe)) "tuple" := ⟨_,et,ct⟩;refine Zx (wpAny_tryCatch ?_);unfold Builtin.Dict.pairItems;refine Zx (wpAny_typeOf hTy ?_);rw[Zp qc];obtain⟨oc,odd,oda,fZ⟩:=ot;simp only at ct dt;subst ct dt;refine Zx (m:=seqItems? _) ?_;unfold seqItems?;refine Zx (wpAny_load et (Zw ?_));refine Zw ?_;show wpAny _ _ (holding [uk,uv] (dictSet p uk uv)) _ _ _;refine ZK (wpAny_dictSet_pairs (hsz:=hvs) (FV rk) dd fun h2 dd2 sb2=>?_);refine Zw ⟨plainId_quiet BH _,?_⟩;have jo:(BV kvs ps[i].1 ps[i].2).length <= i + 1:=by have:=Bm kvs ps[i].1 ps[i].2;omega
  have I2:=FW (t':=s.toks + 1) I1 (by rw[hp];exact True.intro) sb2 (let ⟨q,_,_,f6,_⟩:=dd2;⟨q,f6⟩) (Hk (P:=X.prog) (w:=X.w) (H':=upd (upd H p (.dK kvs)) p (.dK (BV kvs ps[i].1 ps[i].2))) (Nat.le_of_lt (AZ qe)) hd (rel.put ps[i].1 rvv) dd2);rw[FP]at I2;have e3:ps.drop i=ps[i] :: ps.drop (i + 1):=List.drop_eq_getElem_cons hlt;have:=ih (i + 1) _ (BV kvs ps[i].1 ps[i].2) qe qe jo I2 (dY.extBut sb2.extBut (Ne.symm hpit)) (fun s' I'=>hR s' (by rw[e3];exact I'));exact this
theorem DX (hc:X.calm=true):Bb X (.type "dict") (fun xs H Q=>∃(a:Addr) (bs:List Addr) (ps:LK),xs=[.ref a]/\aH X.K H a (bs.map V.ref)/\bs.length=ps.length/\ps.length <= 1000/\(∀(i:Nat) b q,bs[i]?=some b->ps[i]?=some q->aY X.K H b [kV q.1,q.2]) /\
  ∀p,H p=none->Q (.ref p) (upd H p (.dK (BZ [] ps)))):=by
 intro aa s σ H xs us Q I r h;obtain⟨a,bs,ps,rfl,hq,hl,hz,hb,q⟩:=h;obtain⟨u,rfl,ru⟩:=B4 r;cases (show u=Value.ref a from ru);have hp0:H s.heap.objs.size=none:=I.aI.fresh (Zy _)
 have sH:∀o,aB H (upd H s.heap.objs.size o):=fun o b v e=>by
  rw[AF (AG e hp0)];exact e
 refine callType_codes (Q₁:=fun obj aL=>obj=.ref s.heap.objs.size/\aL={ s with heap:=s.heap.push { cls:=.type "dict", data:=.dict #[] } }) PySem.F.kt_called_dict (PySem.F.kt_typeCall_dict_1 _) PySem.F.entry_dict_init (kt_code_dict_new _ ⟨rfl,rfl⟩) ?_;rintro obj aL ⟨rfl,rfl⟩;have I1:Inv X aa σ (upd H s.heap.objs.size (.dK [])) { s with heap:=s.heap.push { cls:=.type "dict", data:=.dict #[] } }:=I.laid (a:=s.heap.objs.size) (o:=.dK []) (t':=s.toks) (fun _ _ q=>ZX _ q) (Zy _) (Hl s.heap I.big);obtain⟨its,rv,pl,_⟩:=I1.list ((sH (.dK [])).seq hq);have hTd:Shared.TypeIs { s with heap:=s.heap.push { cls:=.type "dict", data:=.dict #[] } } (.ref s.heap.objs.size) "dict" := ⟨_,ZN _ rfl,rfl⟩;refine⟨hTd,PySem.F.args_dict_init_2 _ _,?_⟩;unfold Builtin.«dict.__init__»;refine Zx ?_;unfold Builtin.Dict.selfAndRest;refine Zx (wpAny_notOrdered_dict hTd ?_);show wpAny _ _ (pure (s.heap.objs.size,[Value.ref a])) _ _ _;refine Zw ?_;show wpAny _ _ (Builtin.Dict.updateFrom "dict.__init__" s.heap.objs.size (.ref a) [] .none) _ _ _;unfold Builtin.Dict.updateFrom;refine Zx (wpAny_typeOf pl.isList.typeIs ?_);rw[Zp qc];have hA:X.A.handled=none:=I.ok.hd hc;have hA2:X.A.in1.in1.handled=none:=hA;obtain⟨ol,nl,hol,ag,hdl,cr⟩:=id pl;obtain⟨its0,_,⟨o0,_,e0,_⟩,_⟩:=I.list hq;have ax:a < s.heap.objs.size:=lt_size e0;refine Zx (Hz hol ag cr hdl hA2 fun h' tk keep=>?_);have I2:Inv X aa σ (upd H s.heap.objs.size (.dK [])) { s with heap:=h',toks:=tk }:=I1.kept keep;show wpAny _ _ (if (Option.isNone (none:Option Value))=true then _ else _) _ _ _;rw[Zp (show Option.isNone (none:Option Value)=true from rfl)];refine Zx (wpAny_rule ?_);refine Zx (wpAny_pyIter_list (pl.isList.at fun o e=>keep _ o e) ?_)
 have hsz:s.heap.objs.size < h'.objs.size:=by
  have:=keep _ _ (ZN s.heap (o:={ cls:=.type "dict", data:=.dict #[] }) rfl);exact lt_size this
 have I3:Inv X aa σ (upd H s.heap.objs.size (.dK [])) { s with heap:=h'.push { cls:=.type "list_iterator", data:=.fields #[.ref a,.int 0 0] },toks:=tk }:=I2.kept (t':=tk) fun b o e=>ZX _ e;have az:s.heap.objs.size≠h'.objs.size:=ZC hsz;have hn0:(upd H s.heap.objs.size (.dK [])) h'.objs.size=none:=I2.aI.fresh (Zy _);obtain⟨_,f1,_,f3,f4,f5⟩:=I2.gy (Zy h'.objs.size) hn0;have hnb:∀(i:Nat) b q,bs[i]?=some b->ps[i]?=some q->b≠s.heap.objs.size/\aY X.K H b [kV q.1,q.2]:=fun i b q e1 e2=>⟨fun z=>?_,hb i b q e1 e2⟩
 ·refine Zw ⟨plainId_quiet BH _,?_⟩;refine Oa (X:=X) (aa:=aa) (σ:=σ) (H:=H) (a:=a) (it:=h'.objs.size) (p:=s.heap.objs.size) (bs:=bs) (ps:=ps) (A:=X.A.in1) hA2 (fun z=>?_) az hq hl hnb hz (fun kvs=>(sH _).seq hq) (fun kvs b xs _ hT=>?_) (fun kvs=>?_) f1 f3 f4 f5 (ps.length - 0) 0 _ [] qe (Nat.zero_le _) (Zy _) I3 ⟨_,ZN _ rfl,rfl,rfl⟩ (fun s' I'=>⟨rfl,.ref s.heap.objs.size,_,I',rfl,q _ hp0⟩)
  ·exact absurd ax (by rw[←z];exact ZF _)
  ·rcases hT with (h |⟨o,h⟩) |h
   ·exact .inl (.inl (sH _ _ _ h))
   ·exact .inl (.inr ⟨o,sH _ _ _ h⟩)
   ·exact .inr h
  ·rw[AF (Ne.symm az)];rw[AF (Ne.symm az)]at hn0;exact hn0
 ·obtain⟨gw,_,⟨o2,e2',_⟩,_⟩:=I.tuple (hb i b q e1 e2);exact absurd (lt_size e2') (by rw[z];exact ZF _)
end
def Mr (wi:TI) (g:TG) (tt:TT) (tk te:TE) (ix:List (Option Nat)) (R:LK->Hp->Prop):St->Hp->Prop:=fun σ H=>wi σ H fun J H1=>∃W:Nat->Nat->LK->Hp->Prop,(∃m,W 0 m [] H1)/\∀i m ys H,W i m ys H ->
 (J.stop i H/\ys.length <= sizeLine/\R ys H) \/
 (J.go i H/\∃N:LK->Hp->Prop,(∀cT H',N cT H'->cT.length <= sizeLine/\∃m',m' < m/\W (i + 1) m' cT H') /\
  ∀x H',J.ic i H x H'->g x (CT ix σ) H' fun cG H2=>tt cG H2 fun b H3=>if b=true then tk cG H3 fun yk H4=>te cG H4 fun y H5=>∃k,yk=kV k/\N (BV ys k y) H5 else N ys H3)
theorem Ob (kvs:LK) (k:Key) (v:V):kvs.length <= (BV kvs k v).length:=by
 unfold BV;split
 ·rw[AH];exact Zy _
 ·rw[ZH];omega
theorem UB {s:Heap} (h:sysModules < s.objs.size):(s.objs.size == sysModules)=false:=by
 rw[beq_eq_false_iff_ne];exact Nat.ne_of_gt h
section
variable {N':List Str}{ix:List (Option Nat)}{scope:Scope}{tg iter kx vx:Expr}{ifs:List Expr}{wi:TI}{g:TG}{tt:TT}{tk:TE}{pos':Pos}
theorem Ms {RD:Cx->Prop}{use:Option (Value->Sem Unit)}{Qv:VS} (hf:aV X.env.scope scope X.N N' ix) (hc:∀cl s H C fp aa,RD (Al X N' scope cl s H C fp (X.pn++aa))) (hi:PIg RD X tg iter wi)
  (hg:∀cl s H C fp pn,k8 (Al X N' scope cl s H C fp pn) tg ix g) (ht:∀cl s H C fp pn,iz (Al X N' scope cl s H C fp pn) ifs tt) (hk:∀cl s H C fp pn,PE (Al X N' scope cl s H C fp pn) kx tk) (he:∀cl s H C fp pn,PE (Al X N' scope cl s H C fp pn) vx te)
  (hs:∀x,foldedSetIterable iter X.env x=pure x) {aa:LO}{s:Shared}{σ:St}{H:Hp}{R:LK->Hp->Prop} (I:Inv X aa σ H s) (h:Mr wi g tt tk te ix R σ H)
  (c8:∀s' ys H' D C m,Inv X aa σ (upd H' D (.dK ys)) s'->R ys H'->H' D=none->s'.heap.Ns C m->X.bA.heap.objs.size <= C->C≠X.env.locals->(∀x c,X.env.cells.lookup x=some c->c≠C)->(∀p∈X.pn++aa,p.1≠C) ->
   upd H' D (.dK ys) C=none->compPost (model X.prog X.w) X.A X.xe use Qv (.ref D) C (.ok .next) s') :
  wpAny (model X.prog X.w) X.A (comprehension (.DictComp kx vx [⟨tg,iter,ifs,0⟩] scope pos) scope X.env pos' newDict false (eval iter X.env) use) Qv X.xe s:=by
 obtain⟨cl,c9,c1,c2⟩:=Na (env:=X.env) (scope:=scope) fun y hy hyf=>by
  have:=hf.free y hy hyf;exact I.ok.has y.1 this
 refine wpAny_comprehension_free (use:=use) rfl hs c9 hf.kind hf.loc (aJ (hi aa s σ H _ I h) fun v s1 h1=>aJ h1 fun itv s2 h2=>?_);obtain⟨it,fp,tn,J,H2,e,I2,T,i5,f2,W,⟨m0,w0⟩,turn⟩:=h2;subst e
 have hlt:∀b∈fp,b < s2.heap.objs.size:=fun b hb=>by
  obtain⟨o,e,_⟩:=T.obj _ _ i5 b hb;exact lt_size e
 refine wpAny_newObj_type (wpAny_newFunctionEnv hf.nocell (by intro y hy;simp at hy) (fun eX hns₁ eD=>?_) hf.kind)
 dsimp only at hns₁ eD ⊢
 generalize hH2:s2.heap.push { cls:=.type "dict", data:=.dict #[] }=HP at hns₁ eD ⊢;have hC:HP.objs.size=s2.heap.objs.size + 1:=by rw[←hH2,size_push]
 have je:s2.heap.objs.size≠HP.objs.size:=by rw[hC];exact ZC (Nat.lt_succ_self _)
 have fq:s2.heap.objs.size <= HP.objs.size:=by rw[hC];exact Nat.le_succ _
 have hCne:∀b,b < s2.heap.objs.size->b≠HP.objs.size:=fun b hb=>by rw[hC];exact ZC (Nat.lt_succ_of_lt hb)
 have old:∀b o,s2.heap.get? b=some o->eX.get? b=some o:=fun b o e=>eD.extBut b o (hCne b (lt_size e)) (ZX _ (hH2 ▸ ZX _ e));have b9:eX.get? s2.heap.objs.size=some { cls:=.type "dict", data:=.dict #[] }:=eD.extBut _ _ je (ZX _ (hH2 ▸ ZN _ rfl));generalize hCC:HP.objs.size=C at *;generalize gd:s2.heap.objs.size=D at *;have IX:=Hr (N':=N') (fp:=fp) I2 hf c1 c2 (by rw[gd];exact fq) f2 (by rw[gd];exact hlt) (tk:=s2.toks + ([]:List (Str×Value)).length) old hns₁;have hDn:H2 D=none:=I2.aI.fresh (by rw[gd];exact Zy _)
 have hDfs:D∉ d8 X.stack:=fun z=>by
  rcases mem_cons.mp (I2.eI D z)with q |q
  ·have:=I2.lt;rw[←q,gd]at this;exact ZF _ this
  ·exact I2.nofs (by rw[gd];exact Zy _) q
 have cellLt:∀x c,X.env.cells.lookup x=some c->c < D:=fun x c e=>by
  obtain⟨v,z⟩:=I2.cell x c e;rw[←gd];exact z.lt
 have pinLt:∀p∈X.pn++aa,p.1 < D:=fun p hp=>by rw[←gd];exact lt_size (I2.pin p hp).1
 have s0D:X.bA.heap.objs.size <= D:=by rw[←gd];exact I2.sz
 have locLt:X.env.locals < D:=by rw[←gd];exact I2.lt
 let X':Cx:=Al X N' scope cl s2 H2 C fp (X.pn++aa)
 have gf:∀ {H':Hp}{ob:Obj},(∀b∈fp,H' b=none)->∀b∈fp,Ew X' [(D,ob)] H' b:=fun {H' ob} hn b hb=>by
  refine⟨hn b hb,ZC (Z2 (hlt b hb) fq),fun z=>?_,.inl hb,fun x c e=>(f2 b hb).2.2.2.2.1 x c (c1 x c e),fun p hp=>?_⟩
  ·exact IX.ok.gj b hb z
  ·rcases mem_append.mp hp with z |z
   ·exact(f2 b hb).2.2.2.2.2 p z
   ·have e:p=(D,ob):=by simpa using z
    subst e;exact Nat.ne_of_gt (hlt b hb)
 have pinD:∀ {aK:St}{H':Hp}{s':Shared}{ob:Obj},Inv X' [] aK H' s'->s'.heap.get? D=some ob->H' D=none->(∀v,ob.data≠ .cell v)->Inv X' [(D,ob)] aK H' s':=fun {aK H' s' ob} Ia e n d =>
  Ia.cK fun p hp=>by
   have q:p=(D,ob):=by simpa using hp
   subst q;exact⟨e,n,je,hDfs,d⟩
 have loop:∀s3:Shared,s3={ s2 with heap:=eX,toks:=s2.toks + ([]:List (Str×Value)).length } ->
   codeAny (model X.prog X.w) X.A (.compLoop (.DictComp kx vx [⟨tg,iter,ifs,0⟩] scope pos) 0 (.ref it) (.ref D) (compEnvC scope cl C X.env)) (compPost (model X.prog X.w) X.A X.xe use Qv (.ref D) C) s3:=by
  rintro s3 rfl
  refine codeAny_loop rfl (fun n s'=>∃i ys vs ob H',Inv X' [(D,ob)] (CT ix σ) H' s'/\tn i s'.heap/\(∀b∈fp,H' b=none)/\W i n ys H'/\KV ys vs/\s'.heap.DictOf (Ar X.prog X.w) D vs)
   (fun n s4 hI=>?_) m0 ⟨0,[],[],_,H2,pinD IX b9 hDn (fun v z=>by cases z),T.keep _ _ _ i5 (fun b _ o e=>old b o e),fun b hb=>(f2 b hb).1,w0,.nil,by rw[←gd];exact Heap.DictOf.at (Heap.DictOf.new s2.heap) fun o e=>by rw[ZN _ rfl]at e;cases e;rw[gd];exact b9⟩
  obtain⟨i,ys,vs,ob,H4,I4,st4,fr4,w4,rv,dd4⟩:=hI;have hDsys:(D == sysModules)=false:=by rw[←gd];exact UB I2.big
  show wpAny _ X.A ((compTurn (.DictComp kx vx [⟨tg,iter,ifs,0⟩] scope pos) 0 (.ref it) (.ref D) (compEnvC scope cl C X.env)).onRaise (fun x=>do noteFrame x (compEnvC scope cl C X.env);theTreesLotGoes x)) _ _ s4;refine wpAny_noted ?_;rw[compTurn_dict];refine DP ?_;rcases turn i n ys H4 w4 with⟨stop,hz,r⟩ |⟨go,N,hN,step⟩
  ·refine Zx (ZJ (Zx (aJ (T.done X' rfl rfl rfl (hc _ _ _ _ _ _) i _ s4 _ H4 _ I4 (gf fr4) st4 stop) fun r' s5 ⟨hr,I5⟩=>?_)));subst hr;have pD:=I5.pin (D,_) (ZT _ ZI);have Ib:Inv X aa σ H4 s5:=JY I2 f2 I5;have pD4:=I4.pin (D,_) (ZT _ ZI);have dd5:=dd4.at (h':=s5.heap) fun o e=>by rw[pD4.1]at e;cases e;exact pD.1
   have Ic:Inv X aa σ (upd H4 D (.dK ys)) s5:=Ib.track pD.2.1 (Nat.ne_of_gt locLt) (.inr s0D) (fun x c e=>ZC (cellLt x c e)) (fun p hp=>ZC (pinLt p hp)) (Hk hz hDsys rv dd5);obtain⟨m5,n5,_⟩:=I5.loc
   refine Zw (c8 s5 ys H4 D C m5 Ic r pD.2.1 n5 (Nat.le_trans s0D fq) (Nat.ne_of_gt (Z2 locLt fq)) (fun x c e=>ZC (Z2 (cellLt x c e) fq))
    (fun p hp=>ZC (Z2 (pinLt p hp) fq)) ?_)
   rw[AF (Ne.symm je)];exact I5.free
  ·refine Zx (ZJ (Zx (aJ (T.item X' rfl rfl rfl (hc _ _ _ _ _ _) i _ s4 _ H4 _ I4 (gf fr4) st4 go) fun r' s5 ⟨u,hr,h5⟩=>?_)));subst hr;refine Zx (aJ h5 fun _ s6 ⟨x,H6,I6,r6,y6,st6,fr6⟩=>?_);have I6':=I6.pinned (gf fr6) (T.obj _ _ st6);refine Zx (aJ (hg _ _ _ _ _ _ _ s6 _ H6 x u _ I6' r6 (step x H6 y6)) fun _ s7 ⟨f9,H7,I7,k7,q7⟩=>?_);refine Zx (aJ (ht _ _ _ _ _ _ _ s7 f9 H7 _ I7 q7) fun b s8 ⟨H8,I8,q8⟩=>?_)
   have again:∀ {H9:Hp}{s9:Shared}{cT:LK}{jQ:List (Key×Value)}{ob':Obj},Inv X' ([(D,ob')]++Cm fp s6.heap) f9 H9 s9->KV cT jQ->s9.heap.DictOf (Ar X.prog X.w) D jQ ->
     (∃m',m' < n/\W (i + 1) m' cT H9)->∃m,m < n/\∃i ys vs ob H',Inv X' [(D,ob)] (CT ix σ) H' s9/\tn i s9.heap/\(∀b∈fp,H' b=none)/\W i m ys H'/\KV ys vs/\s9.heap.DictOf (Ar X.prog X.w) D vs:=by
    intro H9 s9 cT jQ ob' I9 rv' hW ⟨m',hm,w9⟩;refine⟨m',hm,i + 1,cT,jQ,ob',H9,I9.unpinned.weak (I4.len.trans I9.len.symm) k7,T.keep _ _ _ st6 fun b hb o e=>(I9.pin (b,o) (ZT _ (ZT _ (CK hb e)))).1,fun b hb=>?_,w9,rv',hW⟩;obtain⟨o,e,d⟩:=T.obj _ _ st6 b hb;exact(I9.pin (b,o) (ZT _ (ZT _ (CK hb e)))).2.1
   have pD4:=I4.pin (D,_) (ZT _ ZI)
   have dAt:∀ {σ9:St}{H9:Hp}{s9:Shared},Inv X' ([(D,ob)]++Cm fp s6.heap) σ9 H9 s9->s9.heap.DictOf (Ar X.prog X.w) D vs:=fun {σ9 H9 s9} I9=>dd4.at fun o e=>by
    rw[pD4.1]at e;cases e;exact(I9.pin (D,_) (ZT _ (ZP _ ZI))).1
   cases b with
   |false =>
    rw[Zq Bool.false_ne_true]at q8;exact Zw ⟨rfl,again I8 rv (dAt I8) (hN _ _ q8).2⟩
   |true =>
    rw[Zp rfl]at q8;refine Zx (Zx (aJ (hk _ _ _ _ _ _ _ s8 f9 H8 _ I8 q8) fun yk s8' ⟨zk,H8',I8',rk,q8'⟩=>?_));refine Zx (ZK (aJ (he _ _ _ _ _ _ _ s8' f9 H8' _ I8' q8') fun y s9 ⟨z,H9,I9,r9,kk,ek,q9⟩=>?_));subst ek;refine Zx (ZJ ?_);have hz:(BV ys kk z).length <= sizeLine:=(hN _ _ q9).1
    have hzv:vs.length <= sizeLine:=by
     have h1:=Ob ys kk z;rw[←rv.length];omega
    have pD:=I9.pin (D,_) (ZT _ (ZP _ ZI));refine ZK (wpAny_dictSet_pairs (hsz:=hzv) (FV rk) (dAt I9) fun h2 dd2 sb2=>?_);obtain⟨ob2,es2,ep2,q,ex2,dt2,rest2⟩:=id dd2;have Iw:Inv X' (Cm fp s6.heap) f9 H9 s9:=I9.cK fun p hp=>I9.pin p (ZT _ (ZT _ hp))
    have It:Inv X' (Cm fp s6.heap) f9 H9 { s9 with heap:=h2,toks:=s9.toks + 1 }:=Iw.turned (it:=D) (fun b o hb e=>(sb2.2 b hb).trans e) pD.2.1 je
     (.inr (by show s2.heap.objs.size <= D;rw[gd];exact Zy _)) (fun x c e=>ZC (cellLt x c (c1 x c e))) (fun p hp=>by
      rcases mem_append.mp hp with z' |z'
      ·exact ZC (pinLt p z')
      ·exact ZC (hlt p.1 (F8 z').1))
    refine Zw ⟨rfl,again (ob':=ob2) (It.cK fun p hp=>?_) (rv.put kk r9) dd2 (hN _ _ q9).2⟩;rcases mem_append.mp hp with z' |z'
    ·have e:p=(D,ob2):=by simpa using z'
     subst e;exact⟨q,pD.2.1,je,hDfs,fun v z=>by rw[dt2]at z;cases z⟩
    ·exact It.pin p (ZT _ z')
 exact codeAny_compStart_dict (loop _ rfl) (T.self _ 0 _ _ _ (T.keep _ _ _ i5 fun b _ o e=>old b o e) (loop _ rfl))
theorem QH (hf:aV X.env.scope scope X.N N' ix) (hc:X.calm=true) (hi:PI X tg iter wi)
  (hg:∀cl s H C fp pn,k8 (Al X N' scope cl s H C fp pn) tg ix g) (ht:∀cl s H C fp pn,iz (Al X N' scope cl s H C fp pn) ifs tt) (hk:∀cl s H C fp pn,PE (Al X N' scope cl s H C fp pn) kx tk) (he:∀cl s H C fp pn,PE (Al X N' scope cl s H C fp pn) vx te)
  (hs:∀x,foldedSetIterable iter X.env x=pure x:=by intro _;rfl) :
  PE X (.DictComp kx vx [⟨tg,iter,ifs,0⟩] scope pos) (fun σ H Q=>Mr wi g tt tk te ix (fun ys H'=>∀p,H' p=none->Q (.ref p) (upd H' p (.dK ys))) σ H):=by
 intro aa s σ H Q I h;rw[arm_eval_DictComp];refine Ms (use:=none) hf (fun _ _ _ _ _ _=>hc) hi.g hg ht hk he hs I h fun s' ys H' D C m I' r hD hn h1 h2 h3 h4 h5=>?_;refine⟨m,hn,fun h'' hs''=>⟨.ref D,_,I'.turned (it:=C) (t':=s'.toks) (fun b o hb e=>(hs''.2 b hb).trans e) h5 h2 (.inr h1) h3 h4,rfl,r D hD⟩⟩
variable {y:Str}{px:Pos}
theorem Oc (Nc:List Str) (gi:List (Option Nat)) (hf:Gy X.env.scope scope X.N (x :: Nc) (none :: gi)=true) (ip:(x :: Nc).Nodup) (hx:scope.names.lookup x=some .local) (hc:X.calm=true) (hi:PI X (.Name x px) iter wi)
  (ht:∀cl s H C fp pn,iz (Al X (x :: Nc) scope cl s H C fp pn) ifs tt) (hk:∀cl s H C fp pn,PE (Al X (x :: Nc) scope cl s H C fp pn) kx tk) (he:∀cl s H C fp pn,PE (Al X (x :: Nc) scope cl s H C fp pn) vx te)
  (hs:∀x,foldedSetIterable iter X.env x=pure x:=by intro _;rfl) :
  PE X (.DictComp kx vx [⟨.Name x px,iter,ifs,0⟩] scope pos) (fun σ H Q=>Mr wi (C2 0) tt tk te (none :: gi) (fun ys H'=>∀p,H' p=none->Q (.ref p) (upd H' p (.dK ys))) σ H) :=
 QH (aV.of hf) hc hi (fun cl s H C fp pn=>FY (AO (i:=0) ip rfl (.inl (Z5 hx)) (.inr (Z5 hx)))) ht hk he hs
end
noncomputable def Itk (a:Addr) (o:Obj) (kvs:LK):It:=⟨fun i H=>H a=some (.dA o (.dK kvs))/\i < kvs.length,fun i H x H'=>H'=H/\∃kv,kvs[i]?=some kv/\x=kV kv.1,fun i H=>H a=some (.dA o (.dK kvs))/\kvs.length <= i⟩
theorem Od {tg:Expr} (a it:Addr) (o:Obj) (kvs:LK) :
  Kl P w K tg (Itk a o kvs) [it] it (fun i h=>h.IsKeyIter it a i kvs.length (OL o)) where
 mem:=by simp
 obj:=fun i h st b hb=>by
  have e:b=it:=by simpa using hb
  subst e;obtain⟨ob,e,c,d⟩:=st;exact⟨ob,e,fun v z=>by rw[d]at z;cases z⟩
 keep:=fun i h h' st k=>by
  obtain⟨ob,e,r⟩:=st;exact⟨ob,k it (by simp) _ e,r⟩
 item:=by
  intro X hP hw hK hc i aa s σ H E I hf st hg;subst hP hw hK;obtain⟨iS,hi⟩:=hg;obtain⟨z,y,vs,rel,dd⟩:=DR I iS;have bf:=rel.length;obtain⟨kv,gx⟩:∃kv,kvs[i]?=some kv:=⟨_,Z7 hi⟩;obtain⟨v,hv,rv⟩:=KV.get rel gx;obtain⟨f0,f1,f2,f3,f4,f5⟩:=hf it (by simp);rw[bf]at st;refine wpAny_pyNext_dict_item st dd hv fun key h' cf dY sb=>?_;have I1:Inv X aa σ H { s with heap:=h' }:=I.turned (t':=s.toks) (fun b o hb e=>(sb.2 b hb).trans e) f0 f1 f3 f4 f5;obtain⟨o',e',c',d'⟩:=id dY;exact⟨key,rfl,Km (s:={ s with heap:=h' }) e' c' d' qc ⟨kV kv.1,H,I1,FZ cf,⟨rfl,kv,gx,rfl⟩,by rw[bf];exact dY,fun b hb=>(hf b hb).1⟩⟩
 done:=by
  intro X hP hw hK hc i aa s σ H E I hf st hg;subst hP hw hK;obtain⟨iS,hi⟩:=hg;obtain⟨z,y,vs,rel,dd⟩:=DR I iS;have bf:=rel.length;rw[bf]at st;obtain⟨f0,f1,f2,f3,f4,f5⟩:=hf it (by simp);exact wpAny_pyNext_dict_end (I.ok.hd hc) st dd (List.getElem?_eq_none_iff.mpr qe) fun h' eb=>⟨rfl,I.turned (t':=s.toks) (fun b o hb e=>eb b o hb e) f0 f1 f3 f4 f5⟩
 self:=fun _ _ _ _ _ st h=>wpAny_pyIter_keyiter st h
def VY (to:TE):TI:=fun σ H R=>to σ H fun x H1=>∃a o kvs,x=.ref a/\H1 a=some (.dA o (.dK kvs))/\R (Itk a o kvs) H1
theorem SI {tg o:Expr}{to:TE} (ho:PE X o to):PI X tg o (VY to):=by
 intro aa s σ H R I h;refine aJ (ho aa s σ H _ I h) fun v s1 ⟨x,H1,I1,r1,a,ob,kvs,ex,iS,q⟩=>?_;subst ex;cases r1;obtain⟨z,y,vs,rel,dd⟩:=DR I1 iS;refine wpAny_pyIter_dict y dd ?_;refine⟨_,[_],_,_,H1,rfl,I1.kept (t':=s1.toks) fun b o e=>ZX _ e,Od a _ ob kvs,⟨_,ZN _ rfl,rfl,by rw[rel.length];rfl⟩,fun b hb=>?_,q⟩;have e:b=s1.heap.objs.size:=by simpa using hb
 subst e;exact I1.gy (Zy _) (I1.aI.fresh (Zy _))
theorem Mu {o:Obj}{kvs:LK}{g:TG}{tt:TT}{tk:TE}{ix:List (Option Nat)}{R:LK->Hp->Prop}{H1:Hp} (Pv:Nat->LK->Hp->Prop) (h0:Pv 0 [] H1) (hl:∀i ys H,Pv i ys H->H a=some (.dA o (.dK kvs))) (hz:∀i ys H,Pv i ys H->ys.length <= 1000)
  (hs:∀i kv ys H,kvs[i]?=some kv->Pv i ys H->g (kV kv.1) (CT ix σ) H fun cG H2=>tt cG H2 fun b H3=>if b=true then tk cG H3 fun yk H4=>te cG H4 fun y H5=>∃k,yk=kV k/\Pv (i + 1) (BV ys k y) H5 else Pv (i + 1) ys H3) (hd:∀ys H,Pv kvs.length ys H->R ys H) :
  ∃W:Nat->Nat->LK->Hp->Prop,(∃m,W 0 m [] H1)/\∀i m ys H,W i m ys H ->
   ((Itk a o kvs).stop i H/\ys.length <= sizeLine/\R ys H) \/
   ((Itk a o kvs).go i H/\∃N:LK->Hp->Prop,(∀cT H',N cT H'->cT.length <= sizeLine/\∃m',m' < m/\W (i + 1) m' cT H') /\
    ∀x H',(Itk a o kvs).ic i H x H'->g x (CT ix σ) H' fun cG H2=>tt cG H2 fun b H3=>if b=true then tk cG H3 fun yk H4=>te cG H4 fun y H5=>∃k,yk=kV k/\N (BV ys k y) H5 else N ys H3):=by
 refine⟨fun i m ys H=>m=kvs.length - i/\i <= kvs.length/\Pv i ys H,⟨_,rfl,Nat.zero_le _,h0⟩,?_⟩;rintro i m ys H ⟨rfl,hi,hp⟩;by_cases hlt:i < kvs.length
 ·refine .inr ⟨⟨hl i ys H hp,hlt⟩,Pv (i + 1),fun cT H' q=>⟨Nat.le_of_lt (AZ (hz _ cT H' q)),kvs.length - (i + 1),qe,rfl,hlt,q⟩,?_⟩;rintro x H' ⟨rfl,kv,gx,rfl⟩;exact hs i kv ys _ gx hp
 ·have e:i=kvs.length:=by omega
  subst e;exact .inl ⟨⟨hl _ ys H hp,Zy _⟩,Nat.le_of_lt (AZ (hz _ ys H hp)),hd ys H hp⟩
section
noncomputable def QI (xs:List V) (k:Nat) (y:V):List V:=xs.take k++y :: xs.drop k
def SJ:V->List V->Hp->VK->Prop:=fun x vs H Q=>∃(l:Addr) (xs:List V) (k:Nat) (y:V),x=.ref l/\vs=[.int (k:Int),y]/\H l=some (.lst xs)/\k <= xs.length/\xs.length <= 1000/\Q .aU (upd H l (.lst (QI xs k y)))
theorem Oe:MtM X "list.insert" SJ:=by
 intro aa s σ H x vs v us Q I rx rv h;obtain⟨l,xs,k,y,rfl,rfl,hH,hk,hz,q⟩:=h;cases rx;obtain⟨u1,u2,rfl,⟨t,rfl⟩,ru⟩:=El rv;obtain⟨z,its,n,r,hl,e⟩:=I.lstM hH;have bf:=r.length;have hk62:(k:Int) < 2 ^ 63:=by omega
 have cn:¬ (!Builtin.List.listFitsIndex (k:Int))=true:=by
  have h1:-(2 ^ 63) <= (k:Int):=by omega
  have h2:=fitsIndex_both h1 hk62;intro z;rw[h2]at z;cases z
 have hsz:its.toArray.size <= sizeLine:=by rw[size_toArray,←bf];exact z
 generalize hx:(k:Int)=x at cn ⊢;refine call_meets F.slot_list_insert ⟨_,e,rfl⟩ F.entry_list_insert (F.args_list_insert_3 _ _ _) (PySem.AutoSeq1.list_insert_list_int_val_1 l its.toArray n x t u2 cn hsz) ⟨e,?_⟩;refine⟨.aU,_,I.lset (its':=its.take k++u2 :: its.drop k) hH e ?_ ?_ ?_,rfl,q⟩
 ·have hk':(if x < 0 then (x + ((its.toArray.size:Nat):Int)).toNat else min x.toNat its.toArray.size)=k:=by
   rw[Zq qe,size_toArray];omega
  show(its.toArray.extract 0 (if x < 0 then (x + ((its.toArray.size:Nat):Int)).toNat else min x.toNat its.toArray.size)).push u2++its.toArray.extract (if x < 0 then (x + ((its.toArray.size:Nat):Int)).toNat else min x.toNat its.toArray.size)=_;rw[hk'];apply Array.toList_inj.mp;simp;exact List.take_of_length_le (by rw[List.length_drop];exact Zy _)
 ·exact Vals.append (r.take _) (.cons ru (r.drop _))
 ·unfold QI;have:(1001:Nat) <= sizeLine:=by decide
  rw[ZH,length_cons,ZA,List.length_drop];omega
end
section
theorem KC (l:Addr) (items:Array Value) (n:Nat) (b:Addr) (o2:Obj) (ae:Array Value) (n2:Nat) (hc:o2.cls=.type "tuple") (hd:o2.data=.seq ae n2) (hs0:¬(!items.isEmpty && Builtin.List.listTooLong (items.size + ae.size))=true) (hs1:items.size <= sizeLine) (ja:items.size + ae.size <= sizeLine + 1) :
  Meets (Builtin.«list.extend» ⟨[.ref l,.ref b],[]⟩) (fun _ R s=>s.heap.get? l=some { cls:=.type "list", dict:=none,data:=.seq items n,slots:=#[] }/\s.heap.get? b=some o2/\R (.ok (.ret Value.none)) { s with heap:=s.heap.update l (Obj.mapSeq fun x=>x++ae),toks:=s.toks }) :=
 .of_wp fun prog w A R s h=>by
  obtain⟨hp,g,d,tk,os⟩:=s;obtain⟨hl,hb,h⟩:=h;obtain⟨oc,od,oda,fZ⟩:=o2;simp only at hc hd;subst hc hd;have q0:=AutoSeq1.idx_int;have q1:=AutoSeq1.sub_tuple_tuple;have q2:=AutoSeq1.sub_tuple_list;have q3:=AutoSeq1.sub_list_list;have q4:=AutoSeq1.sub_list_tuple
  have q5:(items++ae).size <= sizeLine + 1:=by
   rw[Array.size_append];exact ja
  wp_walk using AutoSeq1.wpAny_loadPart' hl,AutoSeq1.wpAny_loadPart' hb,(wpAny_updateSeq hl rfl (hz:=hs1) (_hz':=q5))
  exact⟨_,rfl,h⟩
def QJ:V->List V->Hp->VK->Prop:=fun x vs H Q=>∃l b xs zs,x=.ref l/\vs=[.ref b]/\H l=some (.lst xs)/\H b=some (.tup zs)/\xs.length + zs.length <= sizeLine/\Q .aU (upd H l (.lst (xs++zs)))
theorem Mv:MtM X "list.extend" QJ:=by
 intro aa s σ H x vs v us Q I rx rv h;obtain⟨l,b,xs,zs,rfl,rfl,hH,hB,hz,q⟩:=h;cases rx;obtain⟨u,rfl,ru⟩:=rv.one;cases ru;obtain⟨z,its,n,r,hl,e⟩:=I.lstM hH;obtain⟨gw,r2,⟨o2,e2,hc2,n2,hd2⟩,_⟩:=I.tuple (aY.of hB);have fg:=r2.length;have hsz:its.toArray.size + gw.toArray.size <= sizeLine:=by rw[size_toArray,size_toArray];omega
 have cy:¬ (!its.toArray.isEmpty && Builtin.List.listTooLong (its.toArray.size + gw.toArray.size))=true:=by
  rw[Kt hsz,Bool.and_false];exact Bool.false_ne_true
 refine call_meets F.slot_list_extend ⟨_,e,rfl⟩ F.entry_list_extend (F.args_list_extend_2 _ _)
  (KC l its.toArray n b o2 gw.toArray n2 hc2 hd2 cy (by rw[size_toArray];omega) qe) ⟨e,e2,?_⟩
 refine⟨.aU,_,I.lset (its':=its++gw) hH e (by simp) (r.append r2) ?_,rfl,q⟩;rw[ZH];omega
end
section
def VZ (i j k:Nat) (ta:TA):TS:=fun D σ H=>ta σ H fun vs H1=>∃v w z,vs=[v,w,z]/\D.nx (((σ.set k (some z)).set j (some w)).set i (some v)) H1
theorem Nn {i j k:Nat}{y z:Str}{a b c:Expr}{ta:TA}{px py pz pt:Pos}{kt k2 pt2} (hc:X.calm=true) (hN:X.N.Nodup) (hi:X.N[i]?=some x) (hj:X.N[j]?=some y) (hk:X.N[k]?=some z)
  (hx:X.env.scope.names.lookup x=some .local) (hy:X.env.scope.names.lookup y=some .local) (hz:X.env.scope.names.lookup z=some .local) (ha:PA X [a,b,c] ta)
  (hw:swappedStores [.Tuple [.Name x px,.Name y py,.Name z pz] kt pt] (.Tuple [a,b,c] k2 pt2) X.env=pure (some [x,y,z]))
  (hs:swapsWithSole [.Tuple [.Name x px,.Name y py,.Name z pz] kt pt] (.Tuple [a,b,c] k2 pt2) pos.line X.env=pure false:=by rfl) :
  PS X (.Assign [.Tuple [.Name x px,.Name y py,.Name z pz] kt pt] (.Tuple [a,b,c] k2 pt2) pos) (VZ i j k ta):=by
 intro aa s σ H D I h;rw[exec_Assign_arm];refine Zx (ZJ ?_);rw[hs];refine Zx (Zw ?_);rw[Zq qc];refine Zx (Tuple_ (aJ (ha _ aa s σ H _ I h) fun us s1 ⟨vs,H1,I1,r1,q1⟩=>?_));obtain⟨v,w,t,e1,q1⟩:=q1;subst e1
 obtain⟨u1,u2,u3,rfl,rv,iF,rt⟩:∃u1 u2 u3,us=[u1,u2,u3]/\RelV v u1/\RelV w u2/\RelV t u3:=by
  cases r1 with
  |cons p q =>
   cases q with
   |cons p' q' =>
    cases q' with
    |cons p'' q'' =>
     cases q'';exact⟨_,_,_,rfl,p,p',p''⟩
 refine wpAny_newObj_type ?_ iE;have I2:Inv X aa σ H1 { s1 with heap:=s1.heap.push { cls:=.type "tuple", data:=.seq [u1,u2,u3].toArray } }:=I1.kept (t':=s1.toks) fun b o e=>ZX _ e;rw[hw];refine Zx (Zw ?_);show wpAny (model X.prog X.w) X.A (do rule "assign.swapped-stores";let items ←unpackItems (.ref s1.heap.objs.size) 3 none;assignInOrder [fun v=>bindName X.env z v,fun v=>bindName X.env y v,fun v=>bindName X.env x v] items.reverse;pure Flow.next) _ _ _;refine Zx (wpAny_rule (Zx (unpackItems_tuple (items:=#[u1,u2,u3]) (I.ok.hd hc) (IsTup.new s1.heap _) fun h' jZ=>?_)));have I3:=I2.kept (h':=h') (t':=s1.toks) fun b o e=>jZ b o (ZC (lt_size e)) e;show wpAny _ _ (assignInOrder [fun v=>bindName X.env z v,fun v=>bindName X.env y v,fun v=>bindName X.env x v] [u3,u2,u1] >>= fun _=>pure Flow.next) _ _ _;refine Zx (assignInOrder_cons (wpAny_bindName (B1 I3 hN hk (.inl hz) rt (fun s2 I4=>?_) (.inr hz))));refine assignInOrder_cons (wpAny_bindName (B1 I4 hN hj (.inl hy) iF (fun s3 I5=>?_) (.inr hy)));refine assignInOrder_cons (wpAny_bindName (B1 I5 hN hi (.inl hx) rv (fun s4 I6=>assignInOrder_nil (Zw ?_)) (.inr hx)));exact⟨_,H1,I6,q1⟩
end
theorem Ji:∀(fuel n r:Nat),r <= 1->minRun' fuel n r <= n + r
 |0,n,r,_=>Zy _
 |f + 1,n,r,h=>by
  rw[minRun'_succ];split
  ·exact Zy _
  ·have:=Ji f (n / 2) (max r (n % 2)) qe;omega
section
variable {prog:Program}{s:Shared}{a₀:Array Keyed}
theorem JE {st:SortSt}{nrem:Nat}{Q:Option Nat->SortSt->Prop} (h0:IntKeys a₀) (hn:nrem <= a₀.size) (h1:1 <= nrem) (hB:SBase a₀ st) (hr:SortedTo (arrOf st) nrem)
  (h:Q (some nrem) st):wpS (model prog w) A E s (countRun' 0 nrem) Q st:=by
 rw[countRun0_eq];refine wpS_bind (wpS_ascLoop h0 hn (Zy 1) h1 hB (fun i j kA hj=>hr i j kA qe) fun n hn1 hn2 hsn hor=>?_)
 dsimp only
 have e:n=nrem:=by
  rcases hor with z |z
  ·exact z
  ·by_cases q:n=nrem
   ·exact q
   ·exact absurd z (Int.not_lt.mpr (hr (n - 1) n qe qe))
 subst e;rw[Zp (by simp)];exact wpS_pure h
theorem JF {st:SortSt}{Q:Unit->SortSt->Prop} (h0:IntKeys a₀) (hB:SBase a₀ st) (h2:2 <= a₀.size) (hr:SortedTo (arrOf st) a₀.size)
  (h:∀dY,arrOf dY=arrOf st->failedOf dY=none->Q () dY):wpS (model prog w) A E s sortRuns' Q st:=by
 rw[sortRuns'_eq];refine wpS_bind (wpS_get ?_)
 dsimp only
 have hmr:minRun' a₀.size a₀.size 0 <= a₀.size:=Ji _ _ _ qc;simp only[hB.size]
 refine wpS_bind (wpS_mono (wpS_forRange
  (I:=fun x c dY=>(x=0/\c=(none,0)/\dY=st)\/(1 <= x/\c=(none,a₀.size)/\dY=setPending st ((pendingOf st).push (0,a₀.size,0))))
  (Q:=fun c dY=>c=(none,a₀.size)/\dY=setPending st ((pendingOf st).push (0,a₀.size,0))) ?step ?fin (.inl ⟨rfl,rfl,rfl⟩)) ?post)
 case fin =>
  rintro c dY (⟨hx,_,_⟩ |⟨_,hc,hD⟩)
  ·omega
  ·exact⟨hc,hD⟩
 case step =>
  rintro x c dY _ hx (⟨rfl,rfl,rfl⟩ |⟨jY,rfl,rfl⟩)
  ·dsimp only
   rw[Zq qe];simp only[Nat.sub_zero,Nat.zero_add];refine wpS_bind (JE h0 (Zy _) qe hB hr ?_)
   dsimp only
   rw[Zq qe];refine wpS_bind (wpS_get ?_);have hb:(pendingOf dY).back?=none:=by rw[hB.pend];rfl
   rw[hb]
   dsimp only
   exact wpS_bind (wpS_modify (wpS_pure (.inr ⟨qe,rfl,rfl⟩)))
  ·dsimp only
   rw[Zp (Zy _)];exact wpS_pure ⟨rfl,rfl⟩
 case post =>
  rintro c dY ⟨rfl,hD⟩
  have hpe:pendingOf dY=#[(0,a₀.size,0)]:=by
   rw[hD];show(pendingOf st).push _=_;rw[hB.pend];rfl
  dsimp only
  refine wpS_bind (wpS_mono (wpS_forRange (I:=fun _ c gC=>gC=dY/\c=(none,())) (Q:=fun c gC=>gC=dY/\c=(none,())) ?_ (fun _ _ hh=>hh) ⟨rfl,rfl⟩) ?_)
  ·rintro x c gC _ _ ⟨rfl,rfl⟩;refine wpS_bind (wpS_get ?_);rw[Zp (by rw[hpe];exact Zy 1)];exact wpS_pure ⟨rfl,rfl⟩
  ·rintro c gC ⟨rfl,rfl⟩;refine wpS_pure (h _ ?_ ?_)
   ·rw[hD]
   ·rw[hD];exact hB.failed
theorem LM:∀ {vs:List Value}{ns:List Int},IntsAre vs ns->∀(i:Nat) (v:Value),vs[i]?=some v->∃n t,v=.int n t/\ns[i]?=some n
 |_,_,.nil,i,v,e=>by cases e
 |_,_,.cons n t h,0,v,e=>by cases e;exact⟨n,t,rfl,rfl⟩
 |_,_,.cons n t h,i + 1,v,e=>LM h i v e
theorem LP {vs:List Value}{ns:List Int} (hI:IntsAre vs ns) (hp:ns.Pairwise (· <= ·)):SortedTo (pairsOf vs) (pairsOf vs).size:=by
 have key:∀i,i < vs.length->ns[i]?=some (PyProof.Rows.K (pairsOf vs) i):=fun i hi=>by
  obtain⟨n,tk,hn,e⟩:=LM hI i _ (Z7 hi);rw[e];unfold PyProof.Rows.K;have hzz:(vs.zip vs)[i]?=some (vs[i],vs[i]):=List.getElem?_zip_eq_some.mpr ⟨Z7 hi,Z7 hi⟩;rw[←Array.getElem?_toList,pairsOf_toList,hzz,hn];rfl
 intro i j kA hj;rw[pairsOf_size]at hj;have e1:=key i qe;have e2:=key j hj;rcases Nat.lt_or_ge i j with z |z
 ·obtain⟨h1,g1⟩:=Z8.mp e1;obtain⟨h2,g2⟩:=Z8.mp e2;have:=List.pairwise_iff_getElem.mp hp i j h1 h2 z;rw[g1,g2]at this;exact this
 ·have:i=j:=by omega
  subst this;exact Int.le_refl _
theorem KD (vs:List Value):((pairsOf vs).map (·.2))=vs.toArray:=by
 apply Array.toList_inj.mp;rw[Array.toList_map,pairsOf_toList,List.map_snd_zip (Zy _)]
theorem G6 {vs:List Value}{ns:List Int}{n:Nat}{P:Fin->Shared->Prop} (ho:s.heap.get? a=some (seqObj "list" vs.toArray n))
  (hI:IntsAre vs ns) (hpw:ns.Pairwise (· <= ·)) (hz:vs.length <= 1000)
  (h:P (.done (.ret .none)) { s with heap:=sortedHeap s.heap a vs vs.toArray }) :
  wpAny (model prog w) A (Builtin.«list.sort» ⟨[.ref a],[]⟩) P E s:=by
 rw[list_sort_plain];have ha:a < s.heap.objs.size:=lt_size ho;have hsL:vs.toArray.size <= sizeLine:=by rw[sizeLine_eq];simp only[size_toArray];omega
 refine Zx (listItems_at ho rfl ?_);refine Zx (listUpdate_at ho rfl ?_ hsL);obtain⟨e1,ho1⟩:∃e1,(s.heap.update a (Obj.mapSeq fun _=>#[])).get? a=some (seqObj "list" #[] e1):=⟨_,get?_update_seq ho (fun _=>#[])⟩;refine Zx (seqEpoch_at ho1 rfl ?_);refine Zx (wpAny_newTuple ?_ (by rw[sizeLine_eq];show vs.length <= _;omega));refine Zx (wpAny_newList ?_);refine ZK ?_
 have ho6:(((s.heap.update a (Obj.mapSeq fun _=>#[])).push (seqObj "tuple" vs.toArray 0)).push (seqObj "list" #[] 0)).get? a=some (seqObj "list" #[] e1):=by
  rw[Heap.get?_push_ne _ _ _ (by rw[size_push',size_update];exact ZC (Nat.lt_succ_of_lt ha)),Heap.get?_push_ne _ _ _ (by rw[size_update];exact ZC ha)];exact ho1
 show wpAny (model prog w) A _ P E { s with heap:=((s.heap.update a (Obj.mapSeq fun _=>#[])).push (seqObj "tuple" vs.toArray 0)).push (seqObj "list" #[] 0) }
 dsimp only
 have hsz:vs.toArray.size=vs.length:=by simp
 by_cases h2:vs.toArray.size < 2
 ·rw[Zp h2,Zp h2];refine Zx (Zw ?_);rw[StateT.run_pure];refine Zx (Zw ?_)
  dsimp only
  refine Zx (seqEpoch_at ho6 rfl ?_);refine Zx (listUpdate_at ho6 rfl ?_ (hsz2:=by rw[Array.size_map];show(pairsOf vs).size <= _;rw[pairsOf_size,sizeLine_eq];omega));simp only[bne_self_eq_false,Bool.false_eq_true,if_false];refine Zw ?_;rw[←KD]at h;exact h
 ·rw[Zq h2,Zq h2]
  obtain⟨gR,gQ,rest,rfl⟩:∃gR gQ rest,vs=gR :: gQ :: rest:=by
   match vs,hsz,h2 with
   | [],_,h2=>simp at h2
   | [_],_,h2=>simp at h2
   |gR :: gQ :: rest,_,_=>exact⟨gR,gQ,rest,rfl⟩
  rw[keyKind_ints hI];refine Zx (Zw ?_)
  refine Zx (Zv (JF (a₀:=pairsOf (gR :: gQ :: rest)) (st:=SortSt.mk' oneType' ((gR :: gQ :: rest).toArray.zip (gR :: gQ :: rest).toArray) #[] 7 none)
   (Q:=fun _ dY=>arrOf dY=pairsOf (gR :: gQ :: rest)/\failedOf dY=none)
   hI.intKeys ⟨Array.Perm.refl _,rfl,rfl,rfl⟩ (by rw[pairsOf_size];simp) (LP hI hpw) fun dY a1 a2=>⟨a1,a2⟩) ?_ fun _ _ e=>e)
  rintro⟨⟨⟩,dY⟩ s' ⟨rfl,hp,hf⟩
  dsimp only
  refine Zx (seqEpoch_at ho6 rfl ?_);refine Zx (listUpdate_at ho6 rfl ?_ (hsz2:=by rw[hp,KD];exact Nat.le_succ_of_le hsL));rw[hf];simp only[bne_self_eq_false,Bool.false_eq_true,if_false];rw[hp,KD];exact Zw h
end
section
theorem KF (hK:X.K=K):Bb X (.builtin "sorted") (fun xs H Q=>∃(p:Addr) (ns:List Int),xs=[.ref p]/\aH K H p (ns.map V.int)/\ns.Pairwise (· <= ·)/\ns.length <= 1000/\∀l,H l=none->Q (.ref l) (upd H l (.lst (ns.map V.int)))):=by
 subst hK;intro aa s σ H xs us Q I r h;obtain⟨p,ns,rfl,hq,hpw,hz,q⟩:=h;obtain⟨u,rfl,ru⟩:=B4 r;cases ru;obtain⟨its,rv,pl,hzl⟩:=I.list hq;have bf:ns.length=its.length:=by have:=rv.length;rw[AH]at this;exact this
 have hI:=Co rv;have hsL:its.length <= sizeLine:=by rw[sizeLine_eq];omega
 refine Calls.call_function_entry kind_sorted plain_sorted entry_sorted (args_sorted1 _) ?_;unfold Builtin.«sorted»;refine Zx (m:=checkCount "sorted" 1 1 _) (Zw ?_);refine Zx (collect_list pl.isList ?_ hsL);refine Zx (wpAny_newList ?_ hsL)
 have hsz:((s.heap.push (seqObj "list" #[] 0)).update s.heap.objs.size (Obj.mapSeq (·++its.toArray))).objs.size=s.heap.objs.size + 1:=by
  rw[size_update,size_push']
 have jb:(((s.heap.push (seqObj "list" #[] 0)).update s.heap.objs.size (Obj.mapSeq (·++its.toArray))).push (seqObj "list" its.toArray 0)).get? (s.heap.objs.size + 1)=some (seqObj "list" its.toArray 0):=by
  rw[←hsz];exact ZN _ rfl
 show wpAny _ _ _ _ _ { s with heap:=((s.heap.push (seqObj "list" #[] 0)).update s.heap.objs.size (Obj.mapSeq (·++its.toArray))).push (seqObj "list" its.toArray 0) };rw[hsz];refine Zx (ZK (wpAny_call_entry slot_list_sort ⟨_,jb,rfl⟩ entry_list_sort (G6 jb hI hpw qe ⟨_,rfl,?_⟩) (args_list_sort _)));refine Zw ⟨_,rfl,?_⟩;have hn:H (s.heap.objs.size + 1)=none:=I.aI.fresh (Nat.le_succ _);refine⟨.ref (s.heap.objs.size + 1),_,I.laid (t':=s.toks) (o:=.lst (ns.map V.int)) (h':=sortedAll s.heap its its.toArray) (fun b o e=>sortedAll_old e) (Nat.le_succ _) ⟨by rw[AH,bf];exact hsL,its,?_⟩,rfl,q _ hn⟩;obtain⟨c,hcx⟩:=sortedAll_at s.heap its its.toArray;exact⟨c,rv,hcx⟩
end
def UC (tb:TS):Addr->TS:=fun e D σ H=>tb { nx:=fun _ _=>False,rt:=D.rt } σ H
section
variable {Dn:Addr}{dx:Option Addr}{hs:List ExceptHandler}{t:Addr->TS}{np:Pos}{name:Option Str}{body:List Stmt}
theorem QK {b₀:Stmt}{tb:Addr->TS} (hC:BJ X.K C=true) (hD:BJ X.K Dn=true) (hg:Gl X x) (hm:X.mg x=some (.ref Dn)) (hs':(D0 X.K C).contains (.ref Dn)=true)
  (hb:∀e oe T oT,Cgt C dx e oe T oT->fc (CM X e oe T oT) (b₀ :: body) (tb e)) (eV:(x == ("__debug__" : Str))=false:=by decide) :
  PH X C dx (.ExceptHandler (some (.Name x np)) none (b₀ :: body) pos :: hs) (fun e=>UC (tb e) e):=by
 intro aa s σ H D e oe T oT c I h;refine wpAny_handleBy_cons (codeAny_handlers_test ?_) (GY e);refine B2 (X:=CM X e oe T oT) I.mark hg hm ?_ eV;refine GZ hC hD c I ?_;rw[hs'];refine codeAny_handlers_suite ?_;obtain⟨vs,hd,h1,h2⟩:=c.fld;obtain⟨ts,g8,h3⟩:=c.tb;have he:=(I.pin (e,oe) (by simp)).1;have hT:=(I.pin (T,oT) (by simp)).1;refine wpAny_setFlight_none he hd h1 hT g8 (Z9.mp h3).1 ?_
 have I1:Inv X ((e,oe) :: (T,oT) :: aa) σ H { s with heap:=s.heap.update T (Obj.mapFields (·.setIfInBounds 3 .none)) }:=I.kept (t':=s.toks) fun b u q=>by
  by_cases z:b=T
  ·subst z;have e1:=ZU (Obj.mapFields (·.setIfInBounds 3 Value.none)) hT (Obj.isFreed_of_fields (Obj.data_mapFields g8 _));rw[DW g8]at e1
   have e2:ts.setIfInBounds 3 Value.none=ts:=by
    obtain⟨l1,l2⟩:=Z9.mp h3;rw[Array.setIfInBounds,dif_pos l1]
    conv=>lhs;rw[←l2]
    exact Array.set_getElem_self l1
   rw[e2,←g8]at e1;rw[show s.heap.get? b=some oT from hT]at q;cases q;exact e1
  ·exact(ZW _ _ (Ne.symm z)).trans q
 refine Zv (hb e oe T oT c aa _ _ H _ I1.mark h) (fun fl s3 z=>?_) fun _ _ z=>z.elim;cases fl with
 |ret u =>
  obtain⟨v,aK,H',J,rv,q⟩:=z;exact⟨v,aK,H',(J.unmark I.ok).less (q:=[(e,oe),(T,oT)]),rv,q⟩
 |next =>
  obtain⟨_,_,_,q⟩:=z;exact q.elim
 |brk =>
  obtain⟨_,_,_,q⟩:=z;exact q.elim
 |cont =>
  obtain⟨_,_,_,q⟩:=z;exact q.elim
end
end L2
end
section
namespace MK
open PySem
theorem CS (a b:Nat):Builtin.bitAnd (a:Int) (b:Int)=((a &&& b:Nat):Int):=by
 rw[PyProof.Rows.bitAnd_pp (Z1 _) (Z1 _)];simp
theorem DC (a b:Nat):Builtin.bitOr (a:Int) (b:Int)=((a |||b:Nat):Int):=by
 have ha:¬ (0:Int) <= Builtin.bitNot (a:Int):=by unfold Builtin.bitNot;omega
 have hb:¬ (0:Int) <= Builtin.bitNot (b:Int):=by unfold Builtin.bitNot;omega
 unfold Builtin.bitOr;rw[PyProof.Rows.bitAnd_nn ha hb];have e:∀n:Nat,(Builtin.bitNot (Builtin.bitNot (n:Int))).toNat=n:=fun n=>by unfold Builtin.bitNot;omega
 rw[e a,e b];unfold Builtin.bitNot;omega
theorem IB (a b:Nat):Builtin.bitAnd (a:Int) (Builtin.bitNot (b:Int))=((a - (a &&& b):Nat):Int):=by
 rw[PyProof.Rows.bitAnd_not,CS];have:a &&& b <= a:=Nat.and_le_left;omega
noncomputable def Ab (l:List Nat):Nat:=l.foldl (· ||| ·) 0
theorem Ff (k:Nat):∀(l:List Nat) (a:Nat),(l.foldl (· ||| ·) a).testBit k=(a.testBit k ||l.any (·.testBit k))
 | [],a=>by simp
 |x :: r,a=>by rw[foldl_cons,Ff k r,Nat.testBit_or,any_cons,Bool.or_assoc]
theorem B0 (l:List Nat) (k:Nat):(Ab l).testBit k=l.any (·.testBit k):=by
 unfold Ab;rw[Ff];simp
theorem Fg {l:List Nat}{m:Nat} (h:∀n∈l,n < 2 ^ m):Ab l < 2 ^ m:=by
 have:∀(l:List Nat) (a:Nat),a < 2 ^ m->(∀n∈l,n < 2 ^ m)->l.foldl (· ||| ·) a < 2 ^ m:=by
  intro l;induction l with
  |nil=>intro a ha _;exact ha
  |cons x r ih=>intro a ha hl;exact ih _ (Nat.or_lt_two_pow ha (hl x ZI)) fun n hn=>hl n (ZR _ hn)
 exact this l 0 (Nat.two_pow_pos m) h
theorem DY (l:List Nat) (n:Nat):Ab (l++[n])=Ab l |||n:=by unfold Ab;rw[foldl_append];rfl
noncomputable def A6 (n:Nat):Bool:=decide (0 < n) && decide (n &&& (n - 1)=0)
theorem Mw (k:Nat):A6 (2 ^ k)=true:=by
 unfold A6;have h0:0 < 2 ^ k:=Nat.two_pow_pos k
 have h1:2 ^ k &&& (2 ^ k - 1)=0:=by
  apply Nat.eq_of_testBit_eq;intro i;rw[Nat.testBit_and,Nat.testBit_two_pow,Nat.testBit_two_pow_sub_one,Nat.zero_testBit];by_cases e:k=i
  ·subst e;simp
  ·simp[e]
 simp[h0,h1]
theorem Be {n:Nat} (h:A6 n=true):∃k,n=2 ^ k:=by
 unfold A6 at h;simp only[Bool.and_eq_true,decide_eq_true_eq]at h;obtain⟨h0,h1⟩:=h;refine⟨n.log2,?_⟩;have hlo:2 ^ n.log2 <= n:=Nat.log2_self_le qe;have hhi:n < 2 ^ (n.log2 + 1):=Nat.lt_log2_self;rcases Nat.eq_or_lt_of_le hlo with e |hlt
 ·exact e.symm
 ·exfalso
  have b1:n.testBit n.log2=true:=by
   rw[Nat.testBit_eq_decide_div_mod_eq];simp
   have:n / 2 ^ n.log2=1:=by
    apply Nat.div_eq_of_lt_le <;> (try rw[Nat.pow_succ]at hhi) <;> omega
   rw[this]
  have b2:(n - 1).testBit n.log2=true:=by
   rw[Nat.testBit_eq_decide_div_mod_eq];simp
   have:(n - 1) / 2 ^ n.log2=1:=by
    apply Nat.div_eq_of_lt_le <;> (try rw[Nat.pow_succ]at hhi) <;> omega
   rw[this]
  have:(n &&& (n - 1)).testBit n.log2=true:=by rw[Nat.testBit_and,b1,b2];rfl
  rw[h1,Nat.zero_testBit]at this;cases this
noncomputable def Db (n:Nat):List Nat:=(List.range 42).filter fun k=>n.testBit k
theorem IC {α:Type} [DecidableEq α] {p:α->Bool}:∀ {l:List α}{a:α},l.Nodup->a∈l->(∀b∈l,p b=true ↔ b=a)->l.filter p=[a]
 | [],_,_,h,_=>by cases h
 |b :: r,a,hn,ha,hp=>by
  obtain⟨n1,n2⟩:=Zs.mp hn;by_cases e:b=a
  ·subst e;have hb:p b=true:=(hp b ZI).mpr rfl;rw[filter_cons,Zp hb];congr 1;apply List.filter_eq_nil_iff.mpr;intro c hc hpc;have:=(hp c (ZR _ hc)).mp hpc;exact n1 (this ▸ hc)
  ·have hb:¬ p b=true:=fun z=>e ((hp b ZI).mp z);rw[filter_cons,Zq hb];rcases mem_cons.mp ha with z |z
   ·exact absurd z.symm e
   ·exact IC n2 z fun c hc=>hp c (ZR _ hc)
theorem JG {n:Nat} (hn:n < 2 ^ 42):decide ((Db n).length=1)=A6 n:=by
 rw[Bool.eq_iff_iff,decide_eq_true_eq];constructor
 ·intro h;obtain⟨k,hk⟩:∃k,Db n=[k]:=List.length_eq_one_iff.mp h
  have mem:∀i,i < 42->(n.testBit i=true ↔ i=k):=fun i hi=>by
   have:i∈Db n ↔ i=k:=by rw[hk];simp
   unfold Db at this;rw[mem_filter]at this;constructor
   ·intro hb;exact this.mp ⟨mem_range.mpr hi,hb⟩
   ·intro e;exact(this.mpr e).2
  have hk42:k < 42:=by
   have:k∈Db n:=by rw[hk];simp
   unfold Db at this;exact mem_range.mp (mem_filter.mp this).1
  have e:n=2 ^ k:=by
   apply Nat.eq_of_testBit_eq;intro i;rw[Nat.testBit_two_pow];by_cases hi:i < 42
   ·rw[Bool.eq_iff_iff,mem i hi,decide_eq_true_eq];exact eq_comm
   ·have h1:n.testBit i=false:=Nat.testBit_lt_two_pow (Z2 hn (Nat.pow_le_pow_right qc qe));rw[h1];symm;rw[decide_eq_false_iff_not];omega
  rw[e];exact Mw k
 ·intro h;obtain⟨k,rfl⟩:=Be h;have hk:k < 42:=(Nat.pow_lt_pow_iff_right qc).mp hn
  have:Db (2 ^ k)=[k]:=by
   unfold Db;refine IC List.nodup_range (mem_range.mpr hk) fun b _=>?_;rw[Nat.testBit_two_pow,decide_eq_true_eq];exact eq_comm
  rw[this];rfl
noncomputable def Bn (m:Nat):Nat:=2 ^ (Builtin.Int.intBits (m:Int))
theorem D3 {m:Nat} (h:0 < m):Builtin.Int.intBits (m:Int)=m.log2 + 1:=by
 unfold Builtin.Int.intBits;have:((m:Int) == 0)=false:=by rw[beq_eq_false_iff_ne];omega
 rw[this];simp
theorem LQ {m k:Nat} (h1:m < 2 ^ k) (h2:k=0\/2 ^ (k - 1) <= m):2 ^ k=Bn m:=by
 unfold Bn;congr 1;rcases Nat.eq_zero_or_pos m with e |hm
 ·subst e
  have:k=0:=by
   rcases h2 with z |z
   ·exact z
   ·have:=Nat.two_pow_pos (k - 1);omega
  rw[this];rfl
 ·rw[D3 hm];rcases h2 with z |z
  ·subst z;simp at h1;omega
  ·have hk:0 < k:=by rcases Nat.eq_zero_or_pos k with e |e
                     ·subst e;simp at h1;omega
                     ·exact e
   have e:m.log2=k - 1:=by
    apply Nat.le_antisymm
    ·have:m.log2 < k:=(Nat.log2_lt qe).mpr h1;omega
    ·exact(Nat.le_log2 qe).mpr z
   omega
theorem QL:∀ {l:List Nat}{a:Nat},(∀n∈l,A6 n=true)->l.Pairwise (· < ·)->(∀n∈l,a &&& n=0)->a + l.sum=l.foldl (· ||| ·) a
 | [],a,_,_,_=>by simp
 |n :: r,a,hm,hp,ha=>by
  obtain⟨p1,p2⟩:=List.pairwise_cons.mp hp;have han:=ha n ZI
  have e:a |||n=a + n:=by
   have h:=PyProof.Rows.bitOr_and (a:Int) (n:Int);rw[DC,CS,han]at h;omega
  rw[sum_cons,foldl_cons,←QL (a:=a |||n) (fun m jn=>hm m (ZR _ jn)) p2 (fun m jn=>?_),e]
  ·omega
  ·obtain⟨i,rfl⟩:=Be (hm n ZI);obtain⟨j,rfl⟩:=Be (hm m (ZR _ jn));have hlt:=p1 _ jn;have haj:=ha _ (ZR _ jn);apply Nat.eq_of_testBit_eq;intro t;rw[Nat.testBit_and,Nat.testBit_or,Nat.zero_testBit];have h1:(a &&& 2 ^ j).testBit t=false:=by rw[haj];exact Nat.zero_testBit t
   rw[Nat.testBit_and]at h1;rw[Bool.and_or_distrib_right,h1,Nat.testBit_two_pow,Nat.testBit_two_pow];have:i≠j:=fun e=>by subst e;omega
   by_cases e1:i=t
   ·have:¬ j=t:=by omega
    simp[this]
   ·simp[e1]
theorem Of {l:List Nat} (hm:∀n∈l,A6 n=true) (hp:l.Pairwise (· < ·)):l.sum=Ab l:=by
 have:=QL (a:=0) hm hp (fun n _=>by simp);unfold Ab;omega
end MK
end
end
variable {P:PySem.Program}{w:PySem.World}{K:FG}{mg:SV}{base:PySem.Heap}{f:PySem.Addr}{fd:PySem.FuncData}{H:L2.Hp}{H':L2.Hp}{due:Aa}{aD:Aa}{C:PySem.Addr}{VC:PySem.Addr}{EC:PySem.Addr}
section
namespace Mk
open PySem L2 MK
noncomputable def top (i:Nat):Stmt:=PySem.Challenge.pw_markworks_k51_whole_first_unled.main.body.getD i (.Pass ⟨0,0,0,0⟩)
noncomputable abbrev BM:Stmt:=inClass (top 2) 0
noncomputable abbrev E4:Stmt:=inClass (top 12) 0
noncomputable abbrev ID:Stmt:=top 19
noncomputable abbrev KG:Stmt:=top 20
noncomputable abbrev KH:Stmt:=top 21
noncomputable abbrev IE:Stmt:=top 22
noncomputable abbrev Ga:Stmt:=top 23
noncomputable abbrev IF:Stmt:=top 24
noncomputable abbrev Gb:Stmt:=top 25
noncomputable abbrev Gc:Stmt:=top 26
noncomputable abbrev E5:Stmt:=top 27
noncomputable abbrev Dc:Stmt:=top 28
noncomputable abbrev E6:Stmt:=top 29
noncomputable abbrev Gd:Stmt:=top 30
noncomputable abbrev D4:Stmt:=top 31
noncomputable abbrev Bf:Stmt:=inClass (top 32) 0
noncomputable abbrev Ge:Stmt:=inClass (top 32) 1
noncomputable abbrev D5:Stmt:=inClass (top 32) 2
noncomputable abbrev E7:Stmt:=inClass (top 32) 5
noncomputable abbrev E8:Stmt:=inClass (top 32) 6
noncomputable abbrev Gf:Stmt:=inClass (top 32) 7
noncomputable abbrev KJ:Stmt:=inClass (top 32) 8
noncomputable abbrev Gg:Stmt:=top 35
noncomputable abbrev KK:Stmt:=top 36
noncomputable abbrev E9:Stmt:=inClass (top 37) 0
noncomputable abbrev Dd:Stmt:=inClass (top 37) 1
noncomputable abbrev FA:Stmt:=inClass (top 37) 2
noncomputable abbrev D6:Stmt:=inClass (top 37) 3
noncomputable abbrev FB:Stmt:=inClass (top 37) 4
noncomputable abbrev IG:Stmt:=inClass (top 37) 5
noncomputable abbrev QM:Stmt:=top 38
noncomputable abbrev IH:Stmt:=top 39
noncomputable abbrev II:Stmt:=top 41
noncomputable abbrev IJ:Stmt:=top 42
noncomputable abbrev De:Stmt:=inClass (top 43) 0
noncomputable abbrev Df:Stmt:=inClass (top 43) 1
noncomputable abbrev DD:Stmt:=inClass (top 43) 2
noncomputable abbrev Bq:Stmt:=inClass (top 43) 3
noncomputable abbrev C5:Stmt:=inClass (top 43) 4
noncomputable abbrev BN:Stmt:=inClass (top 43) 5
noncomputable abbrev BO:Stmt:=inClass (top 43) 6
noncomputable abbrev KL:Stmt:=top 45
noncomputable abbrev IK:Stmt:=top 46
noncomputable abbrev Ci:Stmt:=inClass (top 47) 0
noncomputable abbrev Gh:Stmt:=inClass (top 47) 1
noncomputable abbrev Cd:Stmt:=inClass (top 47) 2
noncomputable abbrev Ct:Stmt:=inClass (top 47) 3
noncomputable abbrev Gi:Stmt:=inClass (top 47) 4
noncomputable abbrev FC:Stmt:=inClass (top 47) 5
noncomputable abbrev FD:Stmt:=inClass (top 47) 9
noncomputable abbrev IL:Stmt:=inClass (top 47) 10
noncomputable abbrev IM:Stmt:=top 49
noncomputable abbrev Gj:Stmt:=top 50
noncomputable abbrev IN:Stmt:=top 51
noncomputable abbrev FE:Stmt:=top 52
noncomputable abbrev D7:Stmt:=top 53
noncomputable abbrev BU:Stmt:=top 54
noncomputable abbrev FF:Stmt:=top 55
noncomputable abbrev FH:Stmt:=top 56
noncomputable abbrev CN:Stmt:=top 57
noncomputable abbrev D8:Stmt:=top 58
noncomputable abbrev IP:Stmt:=top 59
noncomputable abbrev Dg:Stmt:=top 60
noncomputable abbrev FI:Stmt:=top 61
noncomputable abbrev Gk:Stmt:=top 62
noncomputable abbrev D9:Stmt:=top 63
noncomputable abbrev IQ:Stmt:=top 64
noncomputable abbrev KM:Stmt:=top 65
noncomputable abbrev Do:Stmt:=top 66
structure Fn (P:Program) (w:World) (K:FG) (mg:SV) (base:Heap) (x:Str) (k:Nat) (ps:List Str) (sp:Sp):Prop where
 ex:∃f fd,AY P w K mg base aO k f fd ps sp/\mg x=some (.ref f)/\W.keepIn K (.ref f)=true/\Binds K fd ps []
structure Bl (mg:SV):Prop where
 len:mg "len" = none
 eO:mg "isinstance" = none
 max:mg "max" = none
 min:mg "min" = none
 range:mg "range" = none
 list:mg "list" = none
 tuple:mg "tuple" = none
 sorted:mg "sorted" = none
 sum:mg "sum" = none
 all:mg "all" = none
 enum:mg "enumerate" = none
 int:mg "int" = none
 bool:mg "bool" = none
 str:mg "str" = none
noncomputable def Af (ns:List Nat):List V:=ns.map fun (n:Nat)=>V.int (n:Int)
section
inductive spIsMark (vs:List V) (H:Hp) (Q:VK) (_E:XK):Prop where
 |mk (n:Nat) (cE:vs=[.int (n:Int)]) (cD:Q (.bl (A6 n)) H)
theorem QN:AL ["number"] ["number"] (defScope KH):=cB
theorem Mx (n:Nat):(decide (0 < (n:Int)) && decide (V.int (Builtin.bitAnd (n:Int) ((n:Int) - 1))=V.int 0))=A6 n:=by
 unfold A6;rcases Nat.eq_zero_or_pos n with e |h
 ·subst e;rfl
 ·have e1:((n:Int) - 1)=((n - 1:Nat):Int):=by omega
  rw[e1,CS];have e2:decide (0 < (n:Int))=true:=ZL qe;have e3:decide (0 < n)=true:=ZL h;rw[e2,e3];congr 1;rw[Bool.eq_iff_iff,decide_eq_true_eq,decide_eq_true_eq];constructor
  ·intro z;injection z with z;omega
  ·intro z;rw[z];rfl
theorem Og (F:aW K "is_mark" "is_mark" KH f fd):AY P w K mg base aO 1 f fd ["number"] spIsMark:=by
 refine F.m QN fun vs H Q E h=>?_;obtain⟨n,rfl,k⟩:=h;refine⟨rfl,fun ac A outer s hr=>?_⟩;refine⟨_,AD (AR (Cb (CQ HS (pv 0) AJ (AW _)) (DB (CQ DI (AX Bw (pv 0) (AX HM (pv 0) AJ)) AJ (AW _))))),?_⟩;rw[←Mx]at k;refine⟨_,rfl,_,_,rfl,rfl,_,rfl,?_⟩;refine By (fun h=>?_) (fun h=>?_)
 ·rw[h,Bool.true_and]at k;exact⟨_,rfl,_,rfl,_,_,rfl,rfl,_,_,rfl,rfl,rfl,k⟩
 ·rw[Bool.eq_false_iff.mpr h,Bool.false_and]at k;exact k
inductive spUnionOf (K:FG) (vs:List V) (H:Hp) (Q:VK) (_E:XK):Prop where
 |mk (a:Addr) (ns:List Nat) (cE:vs=[.ref a]) (cD:aH K H a (Af ns)) (cH:Q (.int (Ab ns:Nat)) H)
theorem scUnionOf:AL ["numbers", "bits", "number"] ["numbers"] (defScope IE):=cB
theorem KN {ns:List Nat}{i:Nat}{x:V} (h:(Af ns)[i]?=some x):∃n,ns[i]?=some n/\x=V.int (n:Int):=by
 unfold Af at h;rw[ZE]at h;cases e:ns[i]? with
 |none=>rw[e]at h;cases h
 |some n=>rw[e]at h;exact⟨n,rfl,(Option.some.inj h).symm⟩
theorem My (F:aW K "union_of" "union_of" IE f fd):AY P w K mg base aO 1 f fd ["numbers"] (spUnionOf K):=by
 refine F.m scUnionOf fun vs H Q E h=>?_;obtain⟨a,ns,rfl,hS,k⟩:=h;refine⟨rfl,fun ac A outer s hr=>?_⟩
 refine⟨_,AE (Ag (i:=1) scUnionOf.nd rfl (Or.inl rfl) AJ)
  (AE (BY PassesOwn.never rfl (Ao (pv 0)) (AO (i:=2) scUnionOf.nd rfl (Or.inl rfl))
   (AD (Tk (i:=1) scUnionOf.nd rfl (Or.inl rfl) (pv 2) (Tp:eB _ _ _))))
  (AD (AR (pv 1)))),?_⟩
 refine⟨_,rfl,a,rfl,⟨_,hS⟩,BL (K:=K) (a:=a) (xs:=Af ns) (fun i σ H2=>∃v:Option V,σ=[some (.ref a),some (.int (Ab (ns.take i):Nat)),v]/\H2=H) ⟨none,rfl,rfl⟩ (fun i σ H2 _ ⟨_,_,e⟩=>e ▸ hS) ?_ ?_⟩
 ·rintro i x σ H2 hi ⟨v,rfl,rfl⟩;obtain⟨n,hn,rfl⟩:=KN hi;refine⟨_,rfl,_,rfl,_,_,rfl,rfl,?_⟩;refine⟨some (V.int (n:Int)),?_,rfl⟩;rw[ZD,hn,Option.toList_some,DY];show [some (V.ref a),some (V.int (Builtin.bitOr (Ab (ns.take i):Nat) (n:Nat))),some (V.int (n:Int))]=_;rw[DC]
 ·rintro σ H2 ⟨v,rfl,rfl⟩;refine⟨_,rfl,?_⟩;have e:(Af ns).length=ns.length:=by unfold Af;rw[AH]
  rw[e,ZB];exact k
end
end Mk
end
section
namespace L2
open PySem
theorem QO {x:Str}{g:TG}{tt:TT}{te:TE}{ix:List (Option Nat)}{R:List V->Hp->Prop}{σ:St}{H1:Hp} (Pv:Nat->List V->Hp->Prop) (h0:Pv 0 [] H1) (hz:∀i ys H,Pv i ys H->ys.length <= 1000)
  (hs:∀(i c:Nat) ys H,x.cps[i]?=some c->Pv i ys H->g (.str ⟨#[c]⟩) (CT ix σ) H fun cG H2=>tt cG H2 fun b H3=>if b=true then te cG H3 fun y H4=>Pv (i + 1) (ys++[y]) H4 else Pv (i + 1) ys H3) (hd:∀ys H,Pv x.cps.size ys H->R ys H) :
  ∃W:Nat->Nat->List V->Hp->Prop,(∃m,W 0 m [] H1)/\∀i m ys H,W i m ys H ->
   ((Its x).stop i H/\ys.length <= sizeLine/\R ys H) \/
   ((Its x).go i H/\∃N:List V->Hp->Prop,(∀cT H',N cT H'->cT.length <= sizeLine/\∃m',m' < m/\W (i + 1) m' cT H') /\
    ∀v H',(Its x).ic i H v H'->g v (CT ix σ) H' fun cG H2=>tt cG H2 fun b H3=>if b=true then te cG H3 fun y H4=>N (ys++[y]) H4 else N ys H3):=by
 refine⟨fun i m ys H=>m=x.cps.size - i/\i <= x.cps.size/\Pv i ys H,⟨_,rfl,Nat.zero_le _,h0⟩,?_⟩;rintro i m ys H ⟨rfl,hi,hp⟩;by_cases hlt:i < x.cps.size
 ·refine .inr ⟨hlt,Pv (i + 1),fun cT H' q=>⟨Nat.le_of_lt (AZ (hz _ cT H' q)),x.cps.size - (i + 1),qe,rfl,hlt,q⟩,?_⟩;rintro v H' ⟨rfl,c,hc,rfl⟩;exact hs i c ys H' hc hp
 ·have e:i=x.cps.size:=by omega
  subst e;exact .inl ⟨Zy _,Nat.le_of_lt (AZ (hz _ ys H hp)),hd ys H hp⟩
end L2
namespace Mk
open PySem L2 MK
theorem FJ:bootBuiltins "all" = some (.builtin "all"):=by decide +kernel
theorem EB:bootBuiltins "isinstance" = some (.builtin "isinstance"):=by decide +kernel
theorem Gm:bootBuiltins "sorted" = some (.builtin "sorted"):=by decide +kernel
theorem QP:bootBuiltins "sum" = some (.builtin "sum"):=by decide +kernel
theorem UD:bootBuiltins "min" = some (.builtin "min"):=by decide +kernel
theorem UE:bootBuiltins "max" = some (.builtin "max"):=by decide +kernel
theorem Mz:bootBuiltins "str" = some (.type "str"):=by decide +kernel
theorem QQ:bootBuiltins "int" = some (.type "int"):=by decide +kernel
theorem SK:bootBuiltins "bool" = some (.type "bool"):=by decide +kernel
theorem Bd:bootBuiltins "tuple" = some (.type "tuple"):=by decide +kernel
theorem B9:bootBuiltins "list" = some (.type "list"):=by decide +kernel
theorem AC {H1:Hp}{p:Addr}{o:HO} (s:aB H H1) (hp:H1 p=none):aB H (upd H1 p o):=fun b u e=>by
 have e':=s b u e;rw[AF (AG e' hp)];exact e'
noncomputable def JH (c:Nat):Bool:=decide (65 <= c) && decide (c <= 90)
noncomputable def JI (x:Str):Bool:=(decide (1 <= x.length) && decide (x.length <= 6)) && x.cps.toList.all JH
section
theorem Bi {X:Cx}{e:Expr}{te:TE}{T:String}{x:Str}{p p2 pos:Pos} (K:FG) (hK:X.K=K) (hg:Gl X "isinstance") (hm:X.mg "isinstance" = none) (hgT:Gl X x) (hmT:X.mg x=none) (hvT:bootBuiltins x=some (.type T)) (he:PE X e te)
  (hn:x≠ "__name__" := by decide) (eV:(x == ("__debug__" : Str))=false:=by decide)
  (hs:starEach [e,.Name x p2] X.env=(false,eval e X.env) :: starEach [.Name x p2] X.env:=by rfl) (eM:(backTo pos (starEach [.Name x p2] X.env)).any (·.1)=false:=by rfl) (ja:starEach [.Name x p2] X.env=(false,eval (.Name x p2) X.env) :: starEach [] X.env:=by rfl) :
  PE X (.Call (.Name "isinstance" p) [e,.Name x p2] [] pos) (tCB (fun xs H Q=>∃v T t b,xs=[v,.ty T]/\eQ K H v t/\W.kitOne K t (.type T)=some b/\Q (.bl b) H) (Ay te (Ay (tC (.ty T)) Dr))):=by
 subst hK;exact AV Pq hg hm EB (AA he (AA (C1 hgT hmT hvT rfl hn eV) AB ja) hs) qc qc hs eM
theorem A4 {X:Cx} (K:FG) (hK:X.K=K):IxR X (VD K):=hK ▸ Rj
theorem Dh {X:Cx} (K:FG) (hK:X.K=K):IxR X (VE K):=hK ▸ Tr
theorem Au {X:Cx} (K:FG) (hK:X.K=K):Bb X (.builtin "len") (fun xs H Q=>∃p ys,xs=[.ref p]/\(aH K H p ys\/aY K H p ys)/\Q (.int ys.length) H):=hK ▸ FS
theorem No {X:Cx}{e:Expr}{f:Str}{pos:Pos}{ta:TE} (K:FG) (hK:X.K=K) (he:PE X e ta) (hb:attributeBase e f X.env (eval e X.env)=eval e X.env):PE X (.Attribute e f pos) (U9 K ta f):=hK ▸ Ak he hb
inductive spIsName (vs:List V) (H:Hp) (Q:VK) (_E:XK):Prop where
 |mk (x:Str) (cE:vs=[.str x]) (cD:x.cps.all (· < 128)=true) (cH:x.length <= 1000) (dH:∀H',aB H H'->Q (.bl (JI x)) H')
theorem QR:AL ["thing"] ["thing"] (defScope KG):=cB
theorem QS (c:Nat):(if (!decide ((⟨#[c]⟩:Str).cps.toList < ("A" : Str).cps.toList))=true then (!decide (("Z" : Str).cps.toList < (⟨#[c]⟩:Str).cps.toList))else false)=JH c:=by
 have hA:("A" : Str).cps.toList=[65]:=by decide +kernel
 have hZ:("Z" : Str).cps.toList=[90]:=by decide +kernel
 rw[hA,hZ];show(if (!decide ([c] < [65]))=true then !decide ([90] < [c])else false)=JH c;unfold JH
 have e1:decide ([c] < [65])=decide (c < 65):=by
  rw[Bool.eq_iff_iff,decide_eq_true_eq,decide_eq_true_eq,List.cons_lt_cons_iff];simp
 have e2:decide ([90] < [c])=decide (90 < c):=by
  rw[Bool.eq_iff_iff,decide_eq_true_eq,decide_eq_true_eq,List.cons_lt_cons_iff];simp
 rw[e1,e2];by_cases h1:c < 65 <;> by_cases h2:90 < c <;> simp[h1,h2] <;> omega
theorem Oh {t6:Tok} (F:aW K "is_name" "is_name" KG f fd) (B:Bl mg) (hL:mg "LONGEST_NAME" = some (.int 6 t6)):AY P w K mg base aO 1 f fd ["thing"] spIsName:=by
 refine F.m QR fun vs H Q E h=>?_;obtain⟨x,rfl,ha,hz,k⟩:=h;refine⟨rfl,fun ac A outer s hr=>?_⟩
 refine⟨_,AE (An (PW.pt (CH (A9 (A5 (Bi K rfl rfl B.eO rfl B.str Mz (pv 0)))) (Bk (A9 (Dq Ek Ek AJ (AV J3 rfl B.len PySem.boot_len (AA (pv 0) AB)) (CP (v:=.int 6) rfl hL ⟨t6,rfl⟩))))))
   (AD (AR NQ)) AT)
  (AD (AR (AV (Cq rfl) rfl B.all FJ (AA (A3 [] [] qd qb qd rfl (Tx (pv 0)) (fun _ _ _ _ _ _=>BF) (fun _ _ _ _ _ _=>Ko Jd Jd Ae (pv 0) Ae)) AB)))),?_⟩
 refine⟨_,rfl,_,_,_,true,rfl,.str x,rfl,_,rfl,?_⟩;refine Aq ?_;refine⟨_,rfl,x,rfl,Nat.le_of_lt (AZ hz),_,_,rfl,rfl,_,rfl,?_⟩;refine By (fun h1=>?_) (fun h1=>?_)
 ·have h1':1 <= x.length:=by have:=ZV h1;omega
  refine⟨_,_,rfl,rfl,_,rfl,?_⟩;refine By (fun h2=>?_) (fun h2=>?_)
  ·have h2':¬ x.length <= 6:=by
    intro z;rw[ZL (show(x.length:Int) <= 6 by omega)]at h2;cases h2
   have e:JI x=false:=by unfold JI;simp[h2']
   have:=k H (aB.refl H);rw[e]at this;exact this
  ·have h2':x.length <= 6:=Decidable.byContradiction fun z=>h2 (by rw[ZO (show ¬ (x.length:Int) <= 6 by omega)];rfl);refine⟨_,rfl,x,rfl,ha,QO (x:=x) (fun i ys H2=>H2=H/\ys=(x.cps.toList.take i).map fun c=>V.bl (JH c)) ⟨rfl,rfl⟩ (fun i ys H2 ⟨_,e⟩=>?_) ?_ ?_⟩
   ·rw[e,AH,ZA];have:x.cps.toList.length=x.length:=by rw[Array.length_toList];rfl
    omega
   ·rintro i c ys H2 hc ⟨rfl,rfl⟩;refine⟨_,rfl,_,_,rfl,rfl,_,rfl,?_⟩
    have fin:∀b,b=JH c->(H2=H2/\(x.cps.toList.take i).map (fun c=>V.bl (JH c))++[V.bl b]=(x.cps.toList.take (i + 1)).map fun c=>V.bl (JH c)):=fun b hb=>by
     refine⟨rfl,?_⟩;have jI:x.cps.toList[i]?=some c:=by rw[Array.getElem?_toList];exact hc
     rw[ZD,jI,Zu,hb];rfl
    have hu:=QS c;refine By (fun h3=>?_) (fun h3=>?_)
    ·rw[Zp h3]at hu;exact⟨_,_,rfl,rfl,fin _ hu⟩
    ·rw[Zq h3]at hu;exact fin _ hu
   ·rintro ys H2 ⟨rfl,rfl⟩ p hp;have el:x.cps.toList.take x.cps.size=x.cps.toList:=List.take_of_length_le (by rw[Array.length_toList];exact Zy _);refine⟨p,x.cps.toList.map JH,rfl,aH.of (by rw[aA,el,map_map];rfl),?_⟩
    have e:JI x=((x.cps.toList.map JH).all id):=by
     unfold JI;rw[ZL h1',ZL h2',all_map];rfl
    rw[←e];exact k _ (AC (aB.refl _) hp)
 ·have h1':¬ 1 <= x.length:=fun z=>h1 (ZL qe);refine⟨_,rfl,?_⟩;refine BX ?_;have e:JI x=false:=by unfold JI;simp[h1']
  have:=k H (aB.refl H);rw[e]at this;exact this
end
inductive Th where
 |aU |num (n:Nat) |jW (ns:List Str)
def gz (H:Hp) (v:V):Th->Prop
 | .aU=>v=.aU
 | .num n=>v=.int (n:Int)
 | .jW ns=>∃a,v=.ref a/\H a=some (.tup (ns.map V.str))
noncomputable def Dl (ns:List Nat):Nat:=ns.foldl max 0
noncomputable def look (due:Aa) (x:Str):Nat:=((due.find? fun p=>decide (p.1=x)).map (·.2)).getD 0
noncomputable def A8 (due:Aa):LK:=due.map fun p=>(Sum.inr p.1,V.int (p.2:Int))
noncomputable def C6 (due:Aa):Th->Nat
 | .aU=>Bn (Dl (due.map (·.2)))
 | .num n=>n
 | .jW ns=>Ab (ns.map (look due))
theorem FK (x:Str):∀due:Aa,As (A8 due) (Sum.inr x)=(due.find? fun p=>decide (p.1=x)).map fun p=>V.int (p.2:Int)
 | []=>rfl
 |p :: r=>by
  show As ((Sum.inr p.1,V.int (p.2:Int)) :: A8 r) (Sum.inr x)=_;by_cases e:p.1=x
  ·rw[BR (p:=(Sum.inr p.1,V.int (p.2:Int))) (by rw[←e]),List.find?_cons_of_pos (by simpa using e)];rfl
  ·rw[BS (p:=(Sum.inr p.1,V.int (p.2:Int))) (fun z=>e (Sum.inr.inj z)),List.find?_cons_of_neg (by simpa using e)];exact FK x r
theorem Oi {x:Str} (h:x∈due.map (·.1)):(due.find? fun p=>decide (p.1=x)).isSome=true:=by
 obtain⟨p,hp,e⟩:=Zr.mp h;rw[List.find?_isSome];exact⟨p,hp,by simpa using e⟩
theorem CV {x:Str} (h:x∈due.map (·.1)):As (A8 due) (Sum.inr x)=some (V.int (look due x:Int)):=by
 rw[FK];unfold look;obtain⟨p,hp⟩:=Option.isSome_iff_exists.mp (Oi h);rw[hp];rfl
theorem Fh {x:Str} (h:x∉ due.map (·.1)):As (A8 due) (Sum.inr x)=none:=by
 rw[FK]
 have:(due.find? fun p=>decide (p.1=x))=none:=by
  rw[List.find?_eq_none];intro p hp e;exact h (Zr.mpr ⟨p,hp,by simpa using e⟩)
 rw[this];rfl
theorem Fi {m:Nat}:∀(l:List Nat) (a:Nat),a < m->(∀n∈l,n < m)->l.foldl max a < m
 | [],a,h,_=>h
 |x :: r,a,h,k=>Fi r (max a x) (by have:=k x ZI;omega) fun n hn=>k n (ZR _ hn)
theorem LR {ns:List Nat}{m:Nat} (h0:0 < m) (h:∀n∈ns,n < m):Dl ns < m:=Fi ns 0 h0 h
theorem QT (a b:Nat):max (a:Int) (b:Int)=((max a b:Nat):Int):=by omega
theorem IR:∀(r:List Nat) (a:Nat),(r.map fun n:Nat=>(n:Int)).foldl max (a:Int)=((r.foldl max a:Nat):Int)
 | [],_=>rfl
 |x :: r,a=>by rw[map_cons,foldl_cons,QT,IR r];rfl
theorem LU {ns:List Nat} (h:ns≠ []):K2 0 (ns.map fun n:Nat=>(n:Int))=(Dl ns:Nat):=by
 cases ns with
 |nil=>exact absurd rfl h
 |cons a r =>
  show(r.map fun n:Nat=>(n:Int)).foldl max (a:Int)=_;rw[IR];unfold Dl;rw[foldl_cons];have:max 0 a=a:=by omega
  rw[this]
theorem M0 {m:Nat} (h:m < 2 ^ 20):Builtin.Int.intBits (m:Int) <= 20:=by
 rcases Nat.eq_zero_or_pos m with e |hm
 ·subst e;decide
 ·rw[D3 hm];have:m.log2 < 20:=(Nat.log2_lt qe).mpr h;omega
section
inductive spNextMark (K:FG) (vs:List V) (H:Hp) (Q:VK) (_E:XK):Prop where
 |mk (a:Addr) (ns:List Nat) (cE:vs=[.ref a]) (cD:aH K H a (Af ns)) (cH:(∀n∈ns,n < 2 ^ 20)) (dH:Q (.int (Bn (Dl ns):Nat)) H)
theorem M6:AL ["numbers"] ["numbers"] (defScope Gc):=cB
theorem Di (ns:List Nat):Af ns=(ns.map fun n:Nat=>(n:Int)).map V.int:=by unfold Af;rw[map_map];rfl
theorem LV (F:aW K "next_mark" "next_mark" Gc f fd) (B:Bl mg):AY P w K mg base aO 1 f fd ["numbers"] (spNextMark K):=by
 refine F.m M6 fun vs H Q E h=>?_;obtain⟨a,ns,rfl,hS,hlt,k⟩:=h;refine⟨rfl,fun ac A outer s hr=>?_⟩;refine⟨_,AD (AR (AX Jz AJ (Tt PySem.F.plainAttrs_int PySem.F.slot_int_bit_length PySem.F.type_int_bit_length J6 (Nf rfl rfl B.max (pv 0) AJ)))),?_⟩;have hm:=LR (m:=2 ^ 20) qc hlt
 have fin:∀m:Int,m=(Dl ns:Nat)->tyV K "int" (.int m) H/\∃i,V.int m=.int i/\([]:List V)=[]/\rI Tm (fun i j=>V.int (i * 2 ^ j.toNat)) (V.int 1) (V.int (Builtin.Int.intBits i:Nat)) H Q:=fun m e=>by
  subst e;refine⟨rfl,_,rfl,rfl,1,_,rfl,rfl,⟨Z1 _,?_,qc⟩,?_⟩
  ·have:=M0 hm;omega
  ·have e:(1:Int) * 2 ^ ((Builtin.Int.intBits (Dl ns:Nat):Nat):Int).toNat=((Bn (Dl ns):Nat):Int):=by
    unfold Bn;rw[Int.one_mul,Int.toNat_natCast];simp
   show Q (V.int (1 * 2 ^ ((Builtin.Int.intBits (Dl ns:Nat):Nat):Int).toNat)) H;rw[e];exact k
 refine⟨_,rfl,a,ns.map (fun n:Nat=>(n:Int)),0,rfl,rfl,by rw[←Di];exact hS,fun e=>?_,fun e=>?_⟩
 ·have e':ns=[]:=List.map_eq_nil_iff.mp e;exact fin 0 (by rw[e'];rfl)
 ·have e':ns≠ []:=fun z=>e (by rw[z];rfl);exact fin _ (LU e')
def CO (K:FG):Sp:=fun vs H Q _=>(∃(x:Str) (d:Addr) (kvs:LK),vs=[.str x,.ref d]/\Rd H d (.dK kvs)/\Q (.bl (As kvs (Sum.inr x:Key)).isSome) H) \/
 (∃(x:Str) (t:Addr) (xs:List Str),vs=[.str x,.ref t]/\aY K H t (xs.map V.str)/\Q (.bl (gT (.str x) (xs.map V.str))) H)
theorem Oj:AL ["thing", "names"] ["thing", "names"] (defScope IF):=cB
theorem Cj:∀xs:List Str,(xs.map V.str).all FQ=true
 | []=>rfl
 |_ :: r=>Cj r
theorem M7 (F:aW K "is_one_of" "is_one_of" IF f fd) (B:Bl mg):AY P w K mg base aO 1 f fd ["thing", "names"] (CO K):=by
 refine F.ok Oj (fun vs H Q E h=>?_) (fun ac A outer s H vs Q E hr h=>?_)
 ·rcases h with⟨x,d,kvs,rfl,_⟩ |⟨x,t,xs,rfl,_⟩ <;> rfl
 ·have hu:=B6 hr;rcases h with⟨x,d,kvs,rfl,hd,k⟩ |⟨x,t,xs,rfl,ht,k⟩
  ·refine⟨_,AD (AR (Cb (Bi K rfl rfl B.eO rfl B.str Mz (pv 0)) (DB (MB (MQ hu (pv 0) (pv 1)))))),?_⟩;refine⟨_,rfl,_,_,_,true,rfl,.str x,rfl,_,rfl,?_⟩;exact⟨_,rfl,_,rfl,d,_,rfl,.inl ⟨kvs,Sum.inr x,hd,rfl,rfl⟩,k⟩
  ·refine⟨_,AD (AR (Cb (Bi K rfl rfl B.eO rfl B.str Mz (pv 0)) (DB (CQ DJ (pv 0) (pv 1) (by with_unfolding_all rfl))))),?_⟩;refine⟨_,rfl,_,_,_,true,rfl,.str x,rfl,_,rfl,?_⟩;exact⟨_,rfl,_,rfl,t,_,rfl,.inr ht,rfl,Cj xs,k⟩
inductive spIsNamesOf (vs:List V) (H:Hp) (Q:VK) (_E:XK):Prop where
 |mk (a d:Addr) (ns:List Str) (kvs:LK) (cE:vs=[.ref a,.ref d]) (cD:H a=some (.tup (ns.map V.str))) (cH:ns.length <= 1000) (dH:Rd H d (.dK kvs)) (eT:∀H',aB H H'->Q (.bl (decide (0 < ns.length) && ns.all fun x=>(As kvs (Sum.inr x:Key)).isSome)) H')
theorem LX:AL ["parts", "ahead"] ["parts", "ahead"] (defScope E5):=cB
theorem aB.rd {a:Addr}{u:HO} (s:aB H H') (h:Rd H a u):Rd H' a u:=by
 rcases h with h |⟨o,h⟩
 ·exact .inl (s _ _ h)
 ·exact .inr ⟨o,s _ _ h⟩
theorem KP (F:aW K "is_names_of" "is_names_of" E5 f fd) (B:Bl mg) (GO:Fn P w K mg base "is_one_of" 1 ["thing", "names"] (CO K)):AY P w K mg base aO 2 f fd ["parts", "ahead"] spIsNamesOf:=by
 obtain⟨fO,dO,GO,mO,kO,bO⟩:=GO.ex;refine F.m LX fun vs H Q E h=>?_;obtain⟨a,d,ns,kvs,rfl,ha,hz,hd,k⟩:=h;refine⟨rfl,fun ac A outer s hr=>?_⟩;have hu:=B6 hr
 refine⟨_,AD (AR (Cb (CQ HS (AV FS rfl B.len PySem.boot_len (AA (pv 0) AB)) AJ (AW _))
  (DB (AV (Cq rfl) rfl B.all FJ (AA (A3 ["ahead"] [some 1] qd qb qd rfl (F7 (pv 0)) (fun _ _ _ _ _ _=>BF)
   (fun _ _ _ _ _ _=>AM GO hr rfl mO kO bO .nil AN (AA (pv 0) (AA (pv 1) AB)))) AB))))),?_⟩
 have hl:(ns.map V.str).length=ns.length:=AH _;refine⟨_,rfl,a,_,rfl,.inr (aY.of ha),_,_,rfl,rfl,_,rfl,?_⟩;refine By (fun h1=>?_) (fun h1=>?_)
 ·have h1':0 < ns.length:=by have:=ZV h1;rw[hl]at this;omega
  refine⟨_,rfl,a,rfl,⟨_,aY.of ha⟩,Dw (K:=K) (a:=a) (xs:=ns.map V.str) (fun i ys H2=>H2=H/\ys=(ns.take i).map fun x=>V.bl (As kvs (Sum.inr x:Key)).isSome) ⟨rfl,rfl⟩ (fun i ys H2 _ ⟨e,_⟩=>e ▸ aY.of ha) (fun i ys H2 ⟨_,e⟩=>?_) ?_ ?_⟩
  ·rw[e,AH,ZA];omega
  ·rintro i v ys H2 hi ⟨rfl,rfl⟩;rw[ZE]at hi
   obtain⟨x,hx,rfl⟩:∃x,ns[i]?=some x/\v=V.str x:=by
    cases e:ns[i]? with
    |none=>rw[e]at hi;cases hi
    |some x=>rw[e]at hi;exact⟨x,rfl,(Option.some.inj hi).symm⟩
   refine⟨_,rfl,_,rfl,.inl ⟨x,d,kvs,rfl,hd,rfl,?_⟩⟩;rw[ZD,hx,Zu];rfl
  ·rintro ys H2 ⟨rfl,rfl⟩ p hp;have el:ns.take (ns.map V.str).length=ns:=by rw[hl];exact ZB
   refine⟨p,ns.map fun x=>(As kvs (Sum.inr x:Key)).isSome,rfl,aH.of (by rw[aA,el,map_map];rfl),?_⟩
   have e:(decide (0 < ns.length) && ns.all fun x=>(As kvs (Sum.inr x:Key)).isSome)=(ns.map fun x=>(As kvs (Sum.inr x:Key)).isSome).all id:=by
    rw[ZL h1',Bool.true_and,all_map];rfl
   rw[←e];exact k _ (AC (aB.refl _) hp)
 ·have h1':¬ 0 < ns.length:=fun z=>h1 (ZL (by rw[hl];omega));have:=k H (aB.refl H);rw[ZO h1',Bool.false_and]at this;exact this
inductive spIsWhole (vs:List V) (H:Hp) (Q:VK) (_E:XK):Prop where
 |mk (n:Int) (cE:vs=[.int n]) (cD:Q (.bl true) H)
theorem Ol:AL ["thing"] ["thing"] (defScope ID):=cB
theorem M8 (F:aW K "is_whole" "is_whole" ID f fd) (B:Bl mg):AY P w K mg base aO 1 f fd ["thing"] spIsWhole:=by
 refine F.m Ol fun vs H Q E h=>?_;obtain⟨n,rfl,k⟩:=h;refine⟨rfl,fun ac A outer s hr=>?_⟩;refine⟨_,AD (AR (Cb (Bi K rfl rfl B.eO rfl B.int QQ (pv 0)) (DB (Ti (Bi K rfl rfl B.eO rfl B.bool SK (pv 0)))))),?_⟩;refine⟨_,rfl,_,_,_,true,rfl,.int n,rfl,_,rfl,?_⟩;exact⟨_,rfl,_,_,_,false,rfl,.int n,qd,_,rfl,k⟩
structure Es (due:Aa):Prop where
 len:due.length <= 10
 lt:∀p∈due,p.2 < 2 ^ 20
 nd:(due.map (·.1)).Nodup
 nm:∀p∈due,JI p.1=true/\p.1.cps.all (· < 128)=true/\p.1.length <= 1000
def SL (due:Aa):Th->Prop
 | .aU=>True
 | .num _=>True
 | .jW ns=>ns≠ []/\ns.length <= 10/\∀x∈ns,x∈due.map (·.1)
inductive spThing (vs:List V) (H:Hp) (Q:VK) (_E:XK):Prop where
 |mk (tv:V) (th:Th) (d:Addr) (due:Aa) (cE:vs=[tv,.ref d]) (cD:gz H tv th) (cH:Rd H d (.dK (A8 due))) (dH:Es due) (eT:SL due th) (gm:∀H',aB H H'->Q (.int (C6 due th:Nat)) H')
theorem SM:AL ["thing", "ahead"] ["thing", "ahead"] (defScope Dc):=cB
theorem QU (due:Aa):(A8 due).map (·.2)=Af (due.map (·.2)):=by unfold A8 Af;rw[map_map,map_map];rfl
theorem QV (F:aW K "thing_number" "thing_number" Dc f fd) (B:Bl mg) (GN:Fn P w K mg base "next_mark" 1 ["numbers"] (spNextMark K)) (GI:Fn P w K mg base "is_names_of" 2 ["parts", "ahead"] spIsNamesOf)
  (GU:Fn P w K mg base "union_of" 1 ["numbers"] (spUnionOf K)) (GW:Fn P w K mg base "is_whole" 1 ["thing"] spIsWhole):AY P w K mg base aO 3 f fd ["thing", "ahead"] spThing:=by
 obtain⟨fN,dN,GN,mN,kN,bN⟩:=GN.ex;obtain⟨fI,dI,GI,mI,kI,bI⟩:=GI.ex;obtain⟨fU,dU,GU,mU,kU,bU⟩:=GU.ex;obtain⟨fW,dW,GW,mW,kW,bW⟩:=GW.ex;refine F.m SM fun vs H Q E h=>?_;obtain⟨tv,th,d,due,rfl,hT,hd,DO,TO,k⟩:=h;refine⟨rfl,fun ac A outer s hr=>?_⟩;have hu:=B6 hr;have cN:aG 1 _:=hr.mono qc
 refine⟨_,AE (An (CZ (Ev (pv 0))) (AD (AR (AM GN cN rfl mN kN bN .nil AN (AA (BK (Hs rfl) rfl B.list B9 (AA (MY PySem.F.slot_dict_values PySem.F.type_dict_values Jb (pv 1)) AB)) AB)))) AT)
  (AE (An (PW.pt (Ca (A5 (Bi K rfl rfl B.eO rfl B.tuple Bd (pv 0))) (Bv (A5 (AM GI hr rfl mI kI bI .nil AN (AA (pv 0) (AA (pv 1) AB)))))))
   (AD (AR (AM GU cN rfl mU kU bU .nil AN (AA (A3 ["ahead"] [some 1] qd qb qd rfl (F7 (pv 0)) (fun _ _ _ _ _ _=>BF) (fun _ _ _ _ _ _=>A2 hu (pv 1) (pv 0) (fun _ _=>rfl))) AB)))) AT)
  (AE (An (A5 (AM GW cN rfl mW kW bW .nil AN (AA (pv 0) AB))) (AD (AR (pv 0))) AT)
  (AD Ah))),?_⟩
 refine⟨_,rfl,_,rfl,?_⟩;cases th with
 |aU =>
  have e:tv=.aU:=hT;subst e;refine By (fun _=>?_) (fun z=>absurd rfl z);refine⟨_,rfl,d,rfl,.inl ⟨_,hd⟩,d,_,rfl,rfl,hd,fun p hp=>?_⟩;refine⟨p,d,_,rfl,aA,aB.rd (AC (aB.refl _) hp) hd,fun l hl=>?_⟩;refine⟨l,due.map (·.2),rfl,aH.of (by rw[aA,QU]),fun n hn=>?_,?_⟩
  ·obtain⟨q,hq,rfl⟩:=Zr.mp hn;exact DO.lt q hq
  ·exact k _ (AC (AC (aB.refl _) hp) hl)
 |num n =>
  have e:tv=.int (n:Int):=hT;subst e;refine By (fun z=>absurd (ZV z) (by intro q;cases q)) (fun _=>?_);refine⟨_,rfl,_,_,_,false,rfl,.int _,qd,_,rfl,?_⟩;refine Aq ?_;refine⟨_,rfl,n,rfl,_,rfl,?_⟩;refine BX ?_;exact⟨_,rfl,k H (aB.refl H)⟩
 |jW ns =>
  obtain⟨a,rfl,ha⟩:=hT;obtain⟨az,jo,eU⟩:=TO;refine By (fun z=>absurd (ZV z) (by intro q;cases q)) (fun _=>?_);refine⟨_,rfl,_,_,_,true,rfl,.tup ha,rfl,_,rfl,?_⟩;have hl:(ns.map V.str).length=ns.length:=AH _;refine⟨_,rfl,_,rfl,a,d,ns,A8 due,rfl,ha,qe,hd,fun H1 s1=>⟨_,rfl,?_⟩⟩
  have e1:(decide (0 < ns.length) && ns.all fun x=>(As (A8 due) (Sum.inr x:Key)).isSome)=true:=by
   rw[Bool.and_eq_true,decide_eq_true_eq,List.all_eq_true];refine⟨List.length_pos_iff.mpr az,fun x hx=>?_⟩;rw[CV (eU x hx)];rfl
  rw[e1];refine BX ?_;refine⟨_,rfl,a,rfl,⟨_,aY.of (s1 _ _ ha)⟩,Dw (K:=K) (a:=a) (xs:=ns.map V.str) (fun i ys H2=>H2=H1/\ys=Af ((ns.take i).map (look due))) ⟨rfl,rfl⟩ (fun i ys H2 _ ⟨e,_⟩=>e ▸ aY.of (s1 _ _ ha)) (fun i ys H2 ⟨_,e⟩=>?_) ?_ ?_⟩
  ·rw[e];unfold Af;rw[AH,AH,ZA];omega
  ·rintro i v ys H2 hi ⟨rfl,rfl⟩;rw[ZE]at hi
   obtain⟨x,hx,rfl⟩:∃x,ns[i]?=some x/\v=V.str x:=by
    cases e:ns[i]? with
    |none=>rw[e]at hi;cases hi
    |some x=>rw[e]at hi;exact⟨x,rfl,(Option.some.inj hi).symm⟩
   refine⟨_,rfl,_,rfl,d,_,rfl,.inl ⟨A8 due,Sum.inr x,aB.rd s1 hd,rfl,(CV (eU x (ZQ hx))).symm⟩,rfl,?_⟩;rw[ZD,hx,Zu];unfold Af;rw[Zu];rfl
  ·rintro ys H2 ⟨rfl,rfl⟩ p hp;have el:ns.take (ns.map V.str).length=ns:=by rw[hl];exact ZB
   refine⟨p,ns.map (look due),rfl,aH.of (by rw[aA,el]),?_⟩;exact k _ (AC s1 hp)
end
end Mk
end
section
namespace L2
open PySem
theorem QW {a:Addr}{xs:List V}{g:TG}{tb:TS}{D:Ei}{σ:St} (Pv:Nat->St->Hp->Prop) (h0:Pv 0 σ H) (hl:∀i σ H,i <= xs.length->Pv i σ H->aH K H a xs)
  (hs:∀i x σ H p,xs[i]?=some x->Pv i σ H->H p=none->g (.ref p) σ (upd H p (.tup [.int i,x])) fun cG H2=>tb { D with nx:=Pv (i + 1),ct:=Pv (i + 1),bk:=D.nx } cG H2) (hd:∀σ H,Pv xs.length σ H->D.nx σ H) :
  ∃W:Nat->Nat->St->Hp->Prop,(∃m,W 0 m σ H)/\∀i m σ H,W i m σ H ->
   ((Ite K a).stop i H/\D.nx σ H)\/((Ite K a).go i H/\∃N:St->Hp->Prop,(∀aK H',N aK H'->∃m',m' < m/\W (i + 1) m' aK H')/\∀x H',(Ite K a).ic i H x H'->g x σ H' fun cG H2=>tb { D with nx:=N,ct:=N,bk:=D.nx } cG H2):=by
 refine⟨fun i m σ H=>m=xs.length - i/\i <= xs.length/\Pv i σ H,⟨_,rfl,Nat.zero_le _,h0⟩,?_⟩;rintro i m σ H ⟨rfl,hi,hp⟩;by_cases hlt:i < xs.length
 ·have hx:xs[i]?=some xs[i]:=Z7 hlt;refine .inr ⟨⟨xs,xs[i],hl i σ H hi hp,hx⟩,Pv (i + 1),fun aK H' q=>⟨xs.length - (i + 1),qe,rfl,hlt,q⟩,?_⟩;rintro x H' ⟨p,y,hn,rfl,hy,rfl⟩
  have ex:y=xs[i]:=by
   have:=hy xs (hl i σ H hi hp);rw[hx]at this;exact(Option.some.inj this).symm
  subst ex;exact hs i xs[i] σ H p hx hp hn
 ·have e:i=xs.length:=by omega
  subst e;exact .inl ⟨⟨xs,hl _ σ H hi hp,Zy _⟩,hd σ H hp⟩
theorem Om {a:Addr}{o:Obj}{kvs:LK}{g:TG}{tb:TS}{D:Ei}{σ:St} (Pv:Nat->St->Hp->Prop) (h0:Pv 0 σ H) (hl:∀i σ H,Pv i σ H->H a=some (.dA o (.dK kvs)))
  (hs:∀i kv σ H p,kvs[i]?=some kv->Pv i σ H->H p=none->g (.ref p) σ (upd H p (.tup [kV kv.1,kv.2])) fun cG H2=>tb { D with nx:=Pv (i + 1),ct:=Pv (i + 1),bk:=D.nx } cG H2) (hd:∀σ H,Pv kvs.length σ H->D.nx σ H) :
  ∃W:Nat->Nat->St->Hp->Prop,(∃m,W 0 m σ H)/\∀i m σ H,W i m σ H ->
   ((Iti a o kvs).stop i H/\D.nx σ H)\/((Iti a o kvs).go i H/\∃N:St->Hp->Prop,(∀aK H',N aK H'->∃m',m' < m/\W (i + 1) m' aK H')/\∀x H',(Iti a o kvs).ic i H x H'->g x σ H' fun cG H2=>tb { D with nx:=N,ct:=N,bk:=D.nx } cG H2):=by
 refine⟨fun i m σ H=>m=kvs.length - i/\i <= kvs.length/\Pv i σ H,⟨_,rfl,Nat.zero_le _,h0⟩,?_⟩;rintro i m σ H ⟨rfl,hi,hp⟩;by_cases hlt:i < kvs.length
 ·refine .inr ⟨⟨hl i σ H hp,hlt⟩,Pv (i + 1),fun aK H' q=>⟨kvs.length - (i + 1),qe,rfl,hlt,q⟩,?_⟩;rintro x H' ⟨p,kv,hn,rfl,gx,rfl⟩;exact hs i kv σ H p gx hp hn
 ·have e:i=kvs.length:=by omega
  subst e;exact .inl ⟨⟨hl _ σ H hp,Zy _⟩,hd σ H hp⟩
end L2
namespace Mk
open PySem L2 MK
def Va (x:Str):Prop:=JI x=true/\x.cps.all (· < 128)=true/\x.length <= 1000
structure Np (due:Aa) (r:Str×Th):Prop where
 ahead:Es due
 few:due.length < 10
 nm:Va r.1
 new:r.1∉ due.map (·.1)
 th:SL due r.2
 lt:C6 due r.2 < 2 ^ 20
noncomputable def Ai (rows:List (Str×Th)):Aa:=rows.foldl (fun due r=>due++[(r.1,C6 due r.2)]) []
theorem Eb (rows:List (Str×Th)) (r:Str×Th):Ai (rows++[r])=Ai rows++[(r.1,C6 (Ai rows) r.2)]:=by unfold Ai;rw[foldl_append];rfl
def DE (rows:List (Str×Th)):Prop:=∀(i:Nat) r,rows[i]?=some r->Np (Ai (rows.take i)) r
def dQ (H:Hp) (b:Addr) (r:Str×Th):Prop:=∃tv,H b=some (.tup [.str r.1,tv])/\gz H tv r.2
def QX (H:Hp) (l:Addr) (rows:List (Str×Th)):Prop:=∃as:List Addr,H l=some (.lst (as.map V.ref))/\Paired (dQ H) as rows
theorem gz.same {v:V}{th:Th} (s:aB H H') (h:gz H v th):gz H' v th:=by
 cases th with
 |aU=>exact h
 |num n=>exact h
 |jW ns=>obtain⟨a,e,h⟩:=h;exact⟨a,e,s _ _ h⟩
theorem dQ.same {b:Addr}{r:Str×Th} (s:aB H H') (h:dQ H b r):dQ H' b r:=by
 obtain⟨tv,e,t⟩:=h;exact⟨tv,s _ _ e,t.same s⟩
theorem Bz {α β:Type}{F:α->β->Prop}:∀ {xs:List α}{ys:List β}{i:Nat}{x:α},Paired F xs ys->xs[i]?=some x->∃y,ys[i]?=some y/\F x y
 |_,_,_,_,.nil,e=>by simp at e
 |_,_,0,_,.cons r _,e=>by simp at e;subst e;exact⟨_,rfl,r⟩
 |_,_,i + 1,x,.cons _ t,e=>by
  obtain⟨u,h1,h2⟩:=Bz (i:=i) (x:=x) t (by simpa using e);exact⟨u,by simpa using h1,h2⟩
theorem IS {H1:Hp}{d:Addr}{o:HO} (s:aB H H1) (hd:H d=none):aB H (upd H1 d o):=fun b u e=>by
 rw[AF (AG e hd)];exact s b u e
section
inductive spRow (vs:List V) (H:Hp) (Q:VK) (_E:XK):Prop where
 |mk (b d:Addr) (r:Str×Th) (due:Aa) (cE:vs=[.ref b,.ref d]) (cD:dQ H b r) (cH:Rd H d (.dK (A8 due))) (dH:Np due r) (eT:∀H',aB H H'->Q (.int (C6 due r.2:Nat)) H')
theorem scRow:AL ["row", "ahead", "name", "thing", "number"] ["row", "ahead"] (defScope E6):=cB
theorem UF {tg:Tok} (F:aW K "row_number" "row_number" E6 f fd) (B:Bl mg) (hG:mg "GREATEST" = some (.int 1048575 tg)) (GN:Fn P w K mg base "is_name" 1 ["thing"] spIsName) (GT:Fn P w K mg base "thing_number" 3 ["thing", "ahead"] spThing) :
  AY P w K mg base aO 4 f fd ["row", "ahead"] spRow:=by
 obtain⟨fN,dN,GN,mN,kN,bN⟩:=GN.ex;obtain⟨fT,dT,GT,mT,kT,bT⟩:=GT.ex;refine F.m scRow fun vs H Q E h=>?_;obtain⟨b,d,r,due,rfl,⟨tv,hb,hT⟩,hd,RO,k⟩:=h;refine⟨rfl,fun ac A outer s hr=>?_⟩;have hu:=B6 hr;have cN:aG 1 _:=hr.mono qc
 refine⟨_,AE (An (PW.pt (CH (A9 (A5 (Bi K rfl rfl B.eO rfl B.tuple Bd (pv 0)))) (Bk (AS CI (AV (Au K rfl) rfl B.len PySem.boot_len (AA (pv 0) AB)) AJ (AW _))))) (AD Ah) AT)
  (AE (Cc (pv 0) (BG rfl (AQ (AO (i:=2) scRow.nd rfl (Or.inl rfl)) (AQ (AO (i:=3) scRow.nd rfl (Or.inl rfl)) Ax))))
  (AE (An (PW.pt (CH (A9 (A5 (AM GN cN rfl mN kN bN .nil AN (AA (pv 2) AB)))) (Bk (CZ (MQ hu (pv 2) (pv 1)))))) (AD Ah) AT)
  (AE (Ag (i:=4) scRow.nd rfl (Or.inl rfl) (AM GT hr rfl mT kT bT .nil AN (AA (pv 3) (AA (pv 1) AB))))
  (AE (An (PW.pt (CH (CZ (Ev (pv 4))) (Bk (A9 (Dq Ek Ek AJ (pv 4) (CP (v:=.int 1048575) rfl hG ⟨tg,rfl⟩)))))) (AD Ah) AT)
  (AD (AR (pv 4))))))),?_⟩
 refine⟨_,rfl,_,_,_,true,rfl,.tup hb,rfl,_,rfl,?_⟩;refine Aq ?_;refine⟨_,rfl,b,_,rfl,.inr (aY.of hb),rfl,_,rfl,?_⟩;refine Kw rfl ?_;refine⟨_,rfl,b,_,rfl,aY.of hb,rfl,_,_,rfl,_,_,rfl,rfl,?_⟩;refine⟨_,rfl,r.1,rfl,RO.nm.2.1,RO.nm.2.2,fun H1 s1=>⟨_,rfl,?_⟩⟩;rw[RO.nm.1];refine Aq ?_;refine⟨_,rfl,_,rfl,d,_,rfl,.inl ⟨A8 due,Sum.inr r.1,aB.rd s1 hd,rfl,(Fh RO.new).symm⟩,_,rfl,?_⟩;refine Aq ?_;refine⟨_,rfl,_,rfl,tv,r.2,d,due,rfl,hT.same s1,aB.rd s1 hd,RO.ahead,RO.th,fun H2 s2=>?_⟩;refine⟨_,rfl,_,rfl,?_⟩;refine By (fun z=>absurd (ZV z) (by intro q;cases q)) (fun _=>?_);refine⟨_,rfl,_,_,rfl,rfl,_,rfl,?_⟩;refine By (fun _=>?_) (fun z=>absurd (ZL (Z1 _)) z);refine⟨_,_,rfl,rfl,_,rfl,?_⟩;have hlt:=RO.lt;refine Kw (show((C6 due r.2:Nat):Int) <= 1048575 by omega) ?_;exact⟨_,rfl,k _ (s1.trans s2)⟩
inductive spNumbered (vs:List V) (H:Hp) (Q:VK) (_E:XK):Prop where
 |mk (l:Addr) (rows:List (Str×Th)) (cE:vs=[.ref l]) (cD:QX H l rows) (cH:0 < rows.length) (dH:rows.length <= 10) (eT:DE rows) (gm:∀d H',aB H H'->H d=none->H' d=some (.dK (A8 (Ai rows)))->Q (.ref d) H')
theorem scNumbered:AL ["rows", "numbers", "at", "row", "number"] ["rows"] (defScope Gd):=cB
theorem Nq {x:Str}{n:Nat} (h:x∉ due.map (·.1)):BV (A8 due) (Sum.inr x:Key) (V.int (n:Int))=A8 (due++[(x,n)]):=by
 rw[DL _ (Fh h)];unfold A8;rw[Zu];rfl
theorem Ec (due:Aa):(A8 due).length=due.length:=AH _
theorem Az:∀rows:List (Str×Th),(Ai rows).length=rows.length:=fun rows=>by
 have:∀(l:List (Str×Th)) (a:Aa),(l.foldl (fun due r=>due++[(r.1,C6 due r.2)]) a).length=a.length + l.length:=by
  intro l;induction l with
  |nil=>intro a;rfl
  |cons x r ih=>intro a;rw[foldl_cons,ih,ZH,length_cons,length_cons,length_nil];omega
 have e:=this rows [];rw[length_nil]at e;unfold Ai;omega
theorem LY {tm:Tok} (F:aW K "numbered" "numbered" Gd f fd) (B:Bl mg) (hM:mg "MOST_ROWS" = some (.int 10 tm)) (GR:Fn P w K mg base "row_number" 4 ["row", "ahead"] spRow):AY P w K mg base aO 5 f fd ["rows"] spNumbered:=by
 obtain⟨fR,dR,GR,mR,kR,bR⟩:=GR.ex;refine F.m scNumbered fun vs H Q E h=>?_;obtain⟨l,rows,rfl,⟨as,hl,hP⟩,h0,iN,RO,k⟩:=h;refine⟨rfl,fun ac A outer s hr=>?_⟩;have hu:=B6 hr;have bf:as.length=rows.length:=hP.length
 refine⟨_,AE (An (PW.pt (CH (A9 (A5 (Bi K rfl rfl B.eO rfl B.list B9 (pv 0)))) (Bk (A9 (Dq Ek Ek AJ (AV (Au K rfl) rfl B.len PySem.boot_len (AA (pv 0) AB)) (CP (v:=.int 10) rfl hM ⟨tm,rfl⟩)))))) (AD Ah) AT)
  (AE (Ag (i:=1) scNumbered.nd rfl (Or.inl rfl) Dv)
  (AE (BY PassesOwn.never rfl (Rv rfl B.enum (AA (pv 0) AB)) (BG rfl (AQ (AO (i:=2) scNumbered.nd rfl (Or.inl rfl)) (AQ (AO (i:=3) scNumbered.nd rfl (Or.inl rfl)) Ax)))
   (AE (Ag (i:=4) scNumbered.nd rfl (Or.inl rfl) (AM GR hr rfl mR kR bR .nil AN (AA (pv 3) (AA (pv 1) AB))))
   (AE (An (CZ (Ev (pv 4))) (AD Ah) AT)
   (AD (G9 hu (pv 1) (Bc (Dh K rfl) (pv 3) AJ (fun _ _=>rfl)) (pv 4) rfl)))))
  (AD (AR (pv 1))))),?_⟩
 refine⟨_,rfl,_,_,_,true,rfl,.lst hl,rfl,_,rfl,?_⟩;refine Aq ?_;have hll:(as.map V.ref).length=rows.length:=by rw[AH,bf]
 refine⟨_,rfl,l,_,rfl,.inl (aH.of hl),_,_,rfl,rfl,_,rfl,?_⟩;refine By (fun _=>?_) (fun z=>absurd (ZL (by rw[hll];omega)) z);refine⟨_,_,rfl,rfl,_,rfl,?_⟩;refine Kw (show(((as.map V.ref).length:Nat):Int) <= 10 by rw[hll];omega) ?_;intro d fk
 refine⟨_,rfl,l,rfl,⟨_,aH.of (AC (aB.refl _) fk _ _ hl)⟩,QW (K:=K) (a:=l) (xs:=as.map V.ref) (fun i σ H2=>∃v1 v2 v3:Option V,σ=[some (.ref l),some (.ref d),v1,v2,v3]/\aB H H2/\H2 d=some (.dK (A8 (Ai (rows.take i)))))
  ⟨none,none,none,rfl,AC (aB.refl _) fk,aA⟩ (fun i σ H2 _ ⟨_,_,_,_,s2,_⟩=>aH.of (s2 _ _ hl)) ?_ ?_⟩
 ·rintro i y σ H2 p hi ⟨v1,v2,v3,rfl,s2,hd2⟩ hp;rw[ZE]at hi
  obtain⟨b,hb,rfl⟩:∃b,as[i]?=some b/\y=V.ref b:=by
   cases e:as[i]? with
   |none=>rw[e]at hi;cases hi
   |some x=>rw[e]at hi;exact⟨x,rfl,(Option.some.inj hi).symm⟩
  obtain⟨r,hr',hra⟩:=Bz hP hb;have R1:=RO i r hr';have s3:aB H (upd H2 p (.tup [.int i,.ref b])):=AC s2 hp;have iy:(upd H2 p (.tup [.int i,.ref b])) d=some (.dK (A8 (Ai (rows.take i)))):=by rw[AF (AG hd2 hp)];exact hd2
  refine⟨p,_,rfl,aY.of aA,rfl,_,_,rfl,_,_,rfl,rfl,?_⟩;refine⟨_,rfl,_,rfl,b,d,r,Ai (rows.take i),rfl,hra.same s3,.inl iy,R1,fun H4 s4=>?_⟩;refine⟨_,rfl,_,rfl,?_⟩;refine By (fun z=>absurd (ZV z) (by intro q;cases q)) (fun _=>?_);obtain⟨tv,aj,_⟩:=hra.same (s3.trans s4);refine⟨_,rfl,_,rfl,_,rfl,b,_,0,.str r.1,rfl,rfl,aY.of aj,rfl,d,_,rfl,DPut.k (k:=Sum.inr r.1) (s4 _ _ iy) (AZ (by rw[Ec,Az,ZA];omega)),?_⟩;refine⟨_,_,_,rfl,IS (s3.trans s4) fk,?_⟩;rw[aA,Nq R1.new,ZD,hr',Option.toList_some,Eb]
 ·rintro σ H2 ⟨v1,v2,v3,rfl,s2,hd2⟩;rw[hll,ZB]at hd2;exact⟨_,rfl,k d H2 s2 fk hd2⟩
end
noncomputable def AU (due:Aa):List (Nat×Str):=due.foldl (fun fs p=>if (fs.map (·.1)).contains p.2 then fs else fs++[(p.2,p.1)]) []
noncomputable def CG (fs:List (Nat×Str)):LK:=fs.map fun q=>(Sum.inl (q.1:Int),V.str q.2)
noncomputable def BP (fs:List (Nat×Str)) (n:Nat):Str:=((fs.find? fun q=>decide (q.1=n)).map (·.2)).getD (Str.ofString "")
theorem C7 (due:Aa) (p:Str×Nat):AU (due++[p])=if ((AU due).map (·.1)).contains p.2 then AU due else AU due++[(p.2,p.1)]:=by unfold AU;rw[foldl_append];rfl
theorem Gn (n:Nat):∀fs:List (Nat×Str),As (CG fs) (Sum.inl (n:Int):Key)=(fs.find? fun q=>decide (q.1=n)).map fun q=>V.str q.2
 | []=>rfl
 |q :: r=>by
  show As ((Sum.inl (q.1:Int),V.str q.2) :: CG r) (Sum.inl (n:Int))=_;by_cases e:q.1=n
  ·rw[BR (p:=(Sum.inl (q.1:Int),V.str q.2)) (by rw[←e]),List.find?_cons_of_pos (by simpa using e)];rfl
  ·rw[BS (p:=(Sum.inl (q.1:Int),V.str q.2)) (fun z=>e (by have:=Sum.inl.inj z;omega)),List.find?_cons_of_neg (by simpa using e)];exact Gn n r
theorem IT {fs:List (Nat×Str)}{n:Nat} (h:n∈fs.map (·.1)):(fs.find? fun q=>decide (q.1=n)).isSome=true:=by
 obtain⟨q,hq,e⟩:=Zr.mp h;rw[List.find?_isSome];exact⟨q,hq,by simpa using e⟩
theorem Fj {fs:List (Nat×Str)}{n:Nat} (h:n∈fs.map (·.1)):As (CG fs) (Sum.inl (n:Int):Key)=some (V.str (BP fs n)):=by
 rw[Gn];unfold BP;obtain⟨q,hq⟩:=Option.isSome_iff_exists.mp (IT h);rw[hq];rfl
theorem Go {fs:List (Nat×Str)}{n:Nat} (h:n∉ fs.map (·.1)):As (CG fs) (Sum.inl (n:Int):Key)=none:=by
 rw[Gn]
 have:(fs.find? fun q=>decide (q.1=n))=none:=by
  rw[List.find?_eq_none];intro q hq e;exact h (Zr.mpr ⟨q,hq,by simpa using e⟩)
 rw[this];rfl
theorem LZ {fs:List (Nat×Str)}{n:Nat}{x:Str} (h:n∉ fs.map (·.1)):BV (CG fs) (Sum.inl (n:Int):Key) (V.str x)=CG (fs++[(n,x)]):=by
 rw[DL _ (Go h)];unfold CG;rw[Zu];rfl
theorem Cu (due:Aa):(AU due).length <= due.length:=by
 have:∀(l:Aa) (a:List (Nat×Str)),(l.foldl (fun fs p=>if (fs.map (·.1)).contains p.2 then fs else fs++[(p.2,p.1)]) a).length <= a.length + l.length:=by
  intro l;induction l with
  |nil=>intro a;exact Zy _
  |cons x r ih =>
   intro a;rw[foldl_cons];refine Nat.le_trans (ih _) ?_;split
   ·rw[length_cons];omega
   ·rw[ZH,length_cons,length_cons,length_nil];omega
 have e:=this due [];rw[length_nil]at e;unfold AU;omega
theorem EE (due:Aa):∀(a:List (Nat×Str)),(a.map (·.1)).Nodup->(∀n∈a.map (·.1),n∈(due.foldl (fun fs p=>if (fs.map (·.1)).contains p.2 then fs else fs++[(p.2,p.1)]) a).map (·.1)) /\
  ((due.foldl (fun fs p=>if (fs.map (·.1)).contains p.2 then fs else fs++[(p.2,p.1)]) a).map (·.1)).Nodup/\(∀p∈due,p.2∈(due.foldl (fun fs p=>if (fs.map (·.1)).contains p.2 then fs else fs++[(p.2,p.1)]) a).map (·.1)) /\
  (∀q∈due.foldl (fun fs p=>if (fs.map (·.1)).contains p.2 then fs else fs++[(p.2,p.1)]) a,q∈a\/(q.2,q.1)∈due):=by
 induction due with
 |nil=>intro a ha;exact⟨fun n hn=>hn,ha,fun p hp=>(nomatch hp),fun q hq=>.inl hq⟩
 |cons p r ih =>
  intro a ha;rw[foldl_cons];by_cases hc:(a.map (·.1)).contains p.2=true
  ·rw[Zp hc];obtain⟨i1,i2,i3,i4⟩:=ih a ha;refine⟨i1,i2,fun q hq=>?_,fun q hq=>?_⟩
   ·rcases mem_cons.mp hq with rfl |hq
    ·exact i1 _ (by simpa using hc)
    ·exact i3 q hq
   ·rcases i4 q hq with z |z
    ·exact .inl z
    ·exact .inr (ZR _ z)
  ·rw[Zq hc];have hnot:p.2∉ a.map (·.1):=fun z=>hc (by simpa using z);obtain⟨i1,i2,i3,i4⟩:=ih (a++[(p.2,p.1)]) (by rw[Zu];exact NZ ha hnot);refine⟨fun n hn=>i1 n (by rw[Zu];exact ZP _ hn),i2,fun q hq=>?_,fun q hq=>?_⟩
   ·rcases mem_cons.mp hq with rfl |hq
    ·exact i1 _ (by rw[Zu];exact ZT _ (by simp))
    ·exact i3 q hq
   ·rcases i4 q hq with z |z
    ·rcases mem_append.mp z with z |z
     ·exact .inl z
     ·have:q=(p.2,p.1):=by simpa using z
      subst this;exact .inr ZI
    ·exact .inr (ZR _ z)
theorem Jj (due:Aa):((AU due).map (·.1)).Nodup:=(EE due [] nodup_nil).2.1
theorem On {p:Str×Nat} (h:p∈due):p.2∈(AU due).map (·.1):=(EE due [] nodup_nil).2.2.1 p h
theorem Gp {q:Nat×Str} (h:q∈AU due):(q.2,q.1)∈due:=by
 rcases (EE due [] nodup_nil).2.2.2 q h with z |z
 ·cases z
 ·exact z
section
inductive spFirsts (vs:List V) (H:Hp) (Q:VK) (_E:XK):Prop where
 |mk (d:Addr) (o:Obj) (due:Aa) (cE:vs=[.ref d]) (cD:H d=some (.dA o (.dK (A8 due)))) (cH:due.length <= 100) (dH:∀e H',aB H H'->H e=none->H' e=some (.dK (CG (AU due)))->Q (.ref e) H')
theorem scFirsts:AL ["numbers", "firsts", "name", "number"] ["numbers"] (defScope D4):=cB
theorem QY {i:Nat}{kv:Key×V} (h:(A8 due)[i]?=some kv):∃p,due[i]?=some p/\kv=(Sum.inr p.1,V.int (p.2:Int)):=by
 unfold A8 at h;rw[ZE]at h;cases e:due[i]? with
 |none=>rw[e]at h;cases h
 |some p=>rw[e]at h;exact⟨p,rfl,(Option.some.inj h).symm⟩
theorem Oo (F:aW K "first_names" "first_names" D4 f fd):AY P w K mg base aO 1 f fd ["numbers"] spFirsts:=by
 refine F.m scFirsts fun vs H Q E h=>?_;obtain⟨d,o,due,rfl,hd,hz,k⟩:=h;refine⟨rfl,fun ac A outer s hr=>?_⟩
 refine⟨_,AE (Ag (i:=1) scFirsts.nd rfl (Or.inl rfl) Dv)
  (AE (BY PassesOwn.never rfl (Pk (pv 0)) (BG rfl (AQ (AO (i:=2) scFirsts.nd rfl (Or.inl rfl)) (AQ (AO (i:=3) scFirsts.nd rfl (Or.inl rfl)) Ax)))
   (AD (B3 (En PySem.F.plainAttrs_dict PySem.F.slot_dict_setdefault PySem.F.type_dict_setdefault JC (pv 1) (AA (pv 3) (AA (pv 2) AB))))))
  (AD (AR (pv 1)))),?_⟩
 intro e he
 refine⟨_,rfl,d,o,A8 due,rfl,AC (aB.refl _) he _ _ hd,Om (a:=d) (o:=o) (kvs:=A8 due) (fun i σ H2=>∃v1 v2:Option V,σ=[some (.ref d),some (.ref e),v1,v2]/\aB H H2/\H2 e=some (.dK (CG (AU (due.take i)))))
  ⟨none,none,rfl,AC (aB.refl _) he,aA⟩ (fun i σ H2 ⟨_,_,_,s2,_⟩=>s2 _ _ hd) ?_ ?_⟩
 ·rintro i kv σ H2 p gx ⟨v1,v2,rfl,s2,g7⟩ hp;obtain⟨pr,eZ,rfl⟩:=QY gx;have s3:aB H (upd H2 p (.tup [.str pr.1,.int (pr.2:Int)])):=AC s2 hp;have he3:(upd H2 p (.tup [.str pr.1,.int (pr.2:Int)])) e=some (.dK (CG (AU (due.take i)))):=by rw[AF (AG g7 hp)];exact g7
  have et:due.take (i + 1)=due.take i++[pr]:=by rw[ZD,eZ];rfl
  have hle:(CG (AU (due.take i))).length <= 100:=by
   unfold CG;rw[AH];have:=Cu (due.take i);rw[ZA]at this;omega
  refine⟨p,_,rfl,aY.of aA,rfl,_,_,rfl,_,_,rfl,rfl,?_⟩;refine⟨_,rfl,.inr (.inr (.inl ⟨rfl,.inl ⟨_,he3⟩⟩)),_,rfl,_,rfl,e,_,Sum.inl (pr.2:Int),.str pr.1,rfl,rfl,he3,AZ qe,fun w' hw=>?_,fun hn=>?_⟩
  ·refine⟨_,_,rfl,s3,?_⟩;have z:pr.2∈(AU (due.take i)).map (·.1):=Decidable.byContradiction fun z=>by rw[Go z]at hw;cases hw
   rw[et,C7,Zp (by simpa using z)];exact he3
  ·have z:pr.2∉ (AU (due.take i)).map (·.1):=fun z=>by rw[Fj z]at hn;cases hn
   refine⟨_,_,rfl,IS s3 he,?_⟩;rw[aA,et,C7,Zq (by simpa using z),LZ z]
 ·rintro σ H2 ⟨v1,v2,rfl,s2,g7⟩;rw[Ec,ZB]at g7;exact⟨_,rfl,k e H2 s2 he g7⟩
end
theorem n12:¬ (("numbers" : Str) = "firsts"):=by decide +kernel
theorem n13:¬ (("numbers" : Str) = "rule"):=by decide +kernel
theorem n23:¬ (("firsts" : Str) = "rule"):=by decide +kernel
noncomputable def IU (d1 d2:Addr) (r:Str):List (Str×V):=At "rule" (.str r) (At "firsts" (.ref d2) (At "numbers" (.ref d1) []))
theorem EF (d1 d2:Addr) (r:Str):(IU d1 d2 r).lookup ("numbers" : Str)=some (.ref d1):=by
 unfold IU;rw[AK,Zq n13,AK,Zq n12,AK,Zp rfl]
theorem IV (d1 d2:Addr) (r:Str):(IU d1 d2 r).lookup ("firsts" : Str)=some (.ref d2):=by
 unfold IU;rw[AK,Zq n23,AK,Zp rfl]
theorem Gq (d1 d2:Addr) (r:Str):(IU d1 d2 r).lookup ("rule" : Str)=some (.str r):=by
 unfold IU;rw[AK,Zp rfl]
theorem Br (d1 d2:Addr) (r:Str) {m:Str} (h1:¬ m = "rule" := by decide +kernel) (h2:¬ m = "firsts" := by decide +kernel) (h3:¬ m = "numbers" := by decide +kernel):(IU d1 d2 r).lookup m=none:=by
 unfold IU;rw[AK,Zq h1,AK,Zq h2,AK,Zq h3];rfl
theorem SN (d1:Addr):(At "numbers" (V.ref d1) []).lookup ("numbers" : Str)=some (.ref d1):=by rw[AK,Zp rfl]
structure aF (C:Addr) (H:Hp) (p:Addr) (due:Aa) (r:Str):Prop where
 ex:∃dx d1 o1 d2 o2,H p=some (.ins C dx (IU d1 d2 r))/\H d1=some (.dA o1 (.dK (A8 due)))/\H d2=some (.dA o2 (.dK (CG (AU due))))
theorem aF.same {p:Addr}{r:Str} (s:aB H H') (h:aF C H p due r):aF C H' p due r:=by
 obtain⟨dx,d1,o1,d2,o2,a,b,c⟩:=h.ex;exact⟨⟨dx,d1,o1,d2,o2,s _ _ a,s _ _ b,s _ _ c⟩⟩
structure Dj (K:FG) (C:Addr):Prop where
 cl:ir K C
 nN:bQ K C "numbers"
 nF:bQ K C "firsts"
 nR:bQ K C "rule"
noncomputable def cA:List Str:=["bar", "drop", "keep", "leave"]
section
inductive spInit (C:Addr) (vs:List V) (H:Hp) (Q:VK) (_E:XK):Prop where
 |mk (p dx l:Addr) (rows:List (Str×Th)) (r:Str) (cE:vs=[.ref p,.ref l,.str r]) (cD:H p=some (.ins C dx [])) (cH:QX H l rows) (dH:0 < rows.length) (eT:rows.length <= 10) (gm:DE rows) (iB:r∈cA) (jy:∀H',(∀b o,H b=some o->b≠p->H' b=some o)->aF C H' p (Ai rows) r->Q .aU H')
theorem UG:AL ["self", "rows", "rest"] ["self", "rows", "rest"] (defScope Bf):=cB
theorem QZ {r:Str} (h:r∈cA):gT (.str r) (cA.map V.str)=true:=by
 unfold gT;rw[any_map,any_eq_true];exact⟨r,h,by show(r == r)=true;simp⟩
theorem SO {aR:Addr} (F:aW K "__init__" "Kind.__init__" Bf f fd) (B:Bl mg) (T:Dj K C) (hR:mg "RULES" = some (.ref aR)) (hRT:∀H:Hp,aY K H aR (cA.map V.str))
  (GN:Fn P w K mg base "numbered" 5 ["rows"] spNumbered) (GF:Fn P w K mg base "first_names" 1 ["numbers"] spFirsts) (GO:Fn P w K mg base "is_one_of" 1 ["thing", "names"] (CO K)):AY P w K mg base aO 6 f fd ["self", "rows", "rest"] (spInit C):=by
 obtain⟨fN,dN,GN,mN,kN,bN⟩:=GN.ex;obtain⟨fF,dF,GF,mF,kF,bF⟩:=GF.ex;obtain⟨fO,dO,GO,mO,kO,bO⟩:=GO.ex;refine F.m UG fun vs H Q E h=>?_;obtain⟨p,dx,l,rows,r,rfl,hp,RA,h0,iN,RO,aq,k⟩:=h;refine⟨rfl,fun ac A outer s hr=>?_⟩;have cN:aG 1 _:=hr.mono qc
 refine⟨_,AE (CL (pv 0) (AM GN hr rfl mN kN bN .nil AN (AA (pv 1) AB)) rfl)
  (Cp (AE (An (A9 (A5 (AM GO cN rfl mO kO bO .nil AN (AA (pv 2) (AA (CP (v:=.ref aR) rfl hR rfl) AB))))) (AD Ah) AT)
  (AE (CL (pv 0) (AM GF cN rfl mF kF bF .nil AN (AA (Ak (pv 0) rfl) AB)) rfl)
  (Cp (AD (CL (pv 0) (pv 2) rfl)))))),?_⟩
 refine⟨_,rfl,l,rows,rfl,RA,h0,iN,RO,fun d1 H1 s1 hd1n hd1=>?_⟩;have gD:p≠d1:=AG hp hd1n;refine⟨_,rfl,p,C,dx,[],rfl,s1 _ _ hp,T.cl,T.nN,(by show 0 < 1000;decide),?_⟩;refine⟨d1,A8 (Ai rows),by rw[AF (Ne.symm gD)];exact hd1,fun o1=>?_⟩;refine⟨_,rfl,.inr ⟨r,aR,cA,rfl,hRT _,_,rfl,?_⟩⟩;rw[QZ aq];refine Aq ?_;have al:∀o,(upd (upd H1 p (.ins C dx (At "numbers" (.ref d1) []))) d1 o) p=some (.ins C dx (At "numbers" (.ref d1) [])):=fun o=>by rw[AF gD,aA]
 refine⟨_,rfl,p,C,dx,_,_,rfl,al _,T.cl,T.nN,SN d1,d1,o1,Ai rows,rfl,aA,by rw[Az];omega,fun d2 H2 s2 hd2n hd2=>?_⟩;have npd2:p≠d2:=AG (al _) hd2n;have jm:=s2 _ _ (al _);refine⟨_,rfl,p,C,dx,_,rfl,jm,T.cl,T.nF,(by show 1 < 1000;decide),?_⟩;refine⟨d2,CG (AU (Ai rows)),by rw[AF (Ne.symm npd2)];exact hd2,fun o2=>?_⟩;have hp4:∀o,(upd (upd H2 p (.ins C dx (At "firsts" (.ref d2) (At "numbers" (.ref d1) [])))) d2 o) p=some (.ins C dx (At "firsts" (.ref d2) (At "numbers" (.ref d1) []))):=fun o=>by rw[AF npd2,aA]
 refine⟨_,rfl,_,rfl,p,C,dx,_,rfl,hp4 _,T.cl,T.nR,Nat.lt_of_le_of_lt (BA _ _ _) (by show 2 < 1000;decide),?_⟩;have nd12:d1≠d2:=AG (aA (H:=upd H1 p (.ins C dx (At "numbers" (.ref d1) []))) (o:=.dA o1 (.dK (A8 (Ai rows))))) hd2n;refine k _ (fun b o e hb=>?_) ⟨⟨dx,d1,o1,d2,o2,aA,?_,?_⟩⟩
 ·rw[AF hb,AF,AF hb]
  ·refine s2 _ _ ?_;rw[AF (AG e hd1n),AF hb];exact s1 _ _ e
  ·intro z;subst z
   have:(upd (upd H1 p (.ins C dx (At "numbers" (.ref d1) []))) d1 (.dA o1 (.dK (A8 (Ai rows))))) b=some o:=by
    rw[AF (AG e hd1n),AF hb];exact s1 _ _ e
   rw[hd2n]at this;cases this
 ·rw[AF (Ne.symm gD),AF nd12,AF (Ne.symm gD)];exact s2 _ _ aA
 ·rw[AF (Ne.symm npd2),aA]
end
structure Mt (P:Program) (w:World) (K:FG) (mg:SV) (base:Heap) (C:Addr) (m:Str) (k:Nat) (ps:List Str) (sp:Sp):Prop where
 ex:∃f fd,AY P w K mg base aO k f fd ps sp/\HV K C m f/\Binds K fd ps []
noncomputable def C0 (due:Aa):List (V×V):=due.map fun p=>(V.str p.1,V.int (p.2:Int))
noncomputable def A1 (due:Aa):List Nat:=((AU due).map (·.1)).mergeSort fun a b=>decide (a <= b)
noncomputable def AI (due:Aa):List Nat:=(A1 due).filter A6
noncomputable def CA (due:Aa):List (V×V):=(AI due).map fun n=>(V.str (BP (AU due) n),V.int (n:Int))
theorem Cw (due:Aa):(A1 due).Perm ((AU due).map (·.1)):=List.mergeSort_perm _ _
theorem Fk (due:Aa):(A1 due).Pairwise (· <= ·):=by
 have:=List.pairwise_mergeSort (le:=fun a b:Nat=>decide (a <= b)) (fun a b c h1 h2=>by simp at h1 h2 ⊢;omega) (fun a b=>by simp;omega) ((AU due).map (·.1));exact this.imp fun h=>by simpa using h
theorem La {ns:List Int} (hp:ns.Perm ((CG (AU due)).map fun kv=>match kv.1 with |Sum.inl i=>i |Sum.inr _=>0)) (hs:ns.Pairwise (· <= ·)):ns=(A1 due).map fun n:Nat=>(n:Int):=by
 refine List.Perm.eq_of_pairwise (le:=(· <= ·)) (fun a b _ _ h1 h2=>Int.le_antisymm h1 h2) hs ?_ ?_
 ·rw[pairwise_map];exact(Fk due).imp fun h=>by omega
 ·have e:((CG (AU due)).map fun kv=>match kv.1 with |Sum.inl i=>i |Sum.inr _=>0)=((AU due).map (·.1)).map fun n:Nat=>(n:Int):=by
   unfold CG;rw[map_map,map_map];rfl
  rw[e]at hp;exact hp.trans ((Cw due).symm.map _)
theorem mem_keysS {n:Nat}:n∈A1 due ↔ n∈(AU due).map (·.1):=(Cw due).mem_iff
theorem Ed (due:Aa):(A1 due).length <= due.length:=by
 rw[(Cw due).length_eq,AH];exact Cu due
section
inductive spRows (C:Addr) (vs:List V) (H:Hp) (Q:VK) (_E:XK):Prop where
 |mk (p:Addr) (due:Aa) (r:Str) (cE:vs=[.ref p]) (cD:aF C H p due r) (cH:∀l as H',aB H H'->H' l=some (.lst (as.map V.ref))->aE H' as (C0 due)->Q (.ref l) H')
theorem UH:AL ["self"] ["self"] (defScope Ge):=cB
theorem Nr (due:Aa):(A8 due).map (fun kv=>(kV kv.1,kv.2))=C0 due:=by unfold A8 C0;rw[map_map];rfl
theorem SQ (F:aW K "rows" "Kind.rows" Ge f fd) (B:Bl mg) (T:Dj K C):AY P w K mg base aO 1 f fd ["self"] (spRows C):=by
 refine F.m UH fun vs H Q E h=>?_;obtain⟨p,due,r,rfl,KA,k⟩:=h;refine⟨rfl,fun ac A outer s hr=>?_⟩;obtain⟨dx,d1,o1,d2,o2,hp,h1,h2⟩:=KA.ex;refine⟨_,AD (AR (BK (Ma rfl) rfl B.list B9 (AA (MY PySem.F.slot_dict_items PySem.F.type_dict_items Po (Ak (pv 0) rfl)) AB))),?_⟩;refine⟨_,rfl,p,C,dx,_,_,rfl,hp,T.cl,T.nN,EF _ _ _,d1,rfl,.inl ⟨_,.inr ⟨o1,h1⟩⟩,d1,_,rfl,rfl,.inr ⟨o1,h1⟩,fun v hv=>?_⟩;have s1:aB H (upd H v (Nb d1 v)):=AC (aB.refl _) hv;refine⟨v,d1,_,rfl,aA,aB.rd s1 (.inr ⟨o1,h1⟩),fun l as H' s2 _ hl ht=>?_⟩;rw[Nr]at ht;exact k l as H' (s1.trans s2) hl ht
inductive spKnown (C:Addr) (vs:List V) (H:Hp) (Q:VK) (_E:XK):Prop where
 |mk (p:Addr) (due:Aa) (r:Str) (cE:vs=[.ref p]) (cD:aF C H p due r) (cH:∀H',aB H H'->Q (.int (Ab ((AU due).map (·.1)):Nat)) H')
theorem SR:AL ["self"] ["self"] (defScope E8):=cB
theorem Qa (F:aW K "known" "Kind.known" E8 f fd) (B:Bl mg) (T:Dj K C) (GU:Fn P w K mg base "union_of" 1 ["numbers"] (spUnionOf K)):AY P w K mg base aO 2 f fd ["self"] (spKnown C):=by
 obtain⟨fU,dU,GU,mU,kU,bU⟩:=GU.ex;refine F.m SR fun vs H Q E h=>?_;obtain⟨p,due,r,rfl,KA,k⟩:=h;refine⟨rfl,fun ac A outer s hr=>?_⟩;obtain⟨dx,d1,o1,d2,o2,hp,h1,h2⟩:=KA.ex;refine⟨_,AD (AR (AM GU hr rfl mU kU bU .nil AN (AA (BK (MZ rfl) rfl B.list B9 (AA (Ak (pv 0) rfl) AB)) AB))),?_⟩;refine⟨_,rfl,p,C,dx,_,_,rfl,hp,T.cl,T.nF,IV _ _ _,d2,_,rfl,.inr ⟨o2,h2⟩,fun l hl=>?_⟩;refine⟨l,(AU due).map (·.1),rfl,aH.of (by rw[aA];unfold CG Af;rw[map_map,map_map];rfl),k _ (AC (aB.refl _) hl)⟩
inductive spMarks (C:Addr) (vs:List V) (H:Hp) (Q:VK) (_E:XK):Prop where
 |mk (p:Addr) (due:Aa) (r:Str) (cE:vs=[.ref p]) (cD:aF C H p due r) (cH:due.length <= 60) (dH:∀l as H',aB H H'->H' l=some (.lst (as.map V.ref))->aE H' as (CA due)->Q (.ref l) H')
theorem SS:AL ["self"] ["self"] (defScope E7):=cB
theorem Gr {as:List Addr}{ps:List (V×V)}{b:Addr}{p:V×V} (s:aB H H') (h:aE H as ps) (hb:H' b=some (.tup [p.1,p.2])):aE H' (as++[b]) (ps++[p]):=Paired.snoc (aE.same s h) hb
theorem Qb (F:aW K "marks" "Kind.marks" E7 f fd) (B:Bl mg) (T:Dj K C) (GM:Fn P w K mg base "is_mark" 1 ["number"] spIsMark):AY P w K mg base aO 2 f fd ["self"] (spMarks C):=by
 obtain⟨fM,dM,GM,mM,kM,bM⟩:=GM.ex;refine F.m SS fun vs H Q E h=>?_;obtain⟨p,due,r,rfl,KA,iU,k⟩:=h;refine⟨rfl,fun ac A outer s hr=>?_⟩;have hu:=B6 hr;obtain⟨dx,d1,o1,d2,o2,hp,h1,h2⟩:=KA.ex
 refine⟨_,AD (AR (A3 ["self"] [some 0] qd qb qd rfl (Ao (AV (Fa rfl) rfl B.sorted Gm (AA (Ak (pv 0) rfl) AB)))
  (fun _ _ _ _ _ _=>C4 (A5 (AM GM hr rfl mM kM bM .nil AN (AA (pv 0) AB))))
  (fun _ _ _ _ _ _=>BB (AA (A2 hu (No K rfl (pv 1) rfl) (pv 0) (fun _ _=>rfl)) (AA (pv 0) AB))))),?_⟩
 have hle:(CG (AU due)).length <= due.length:=by unfold CG;rw[AH];exact Cu due
 refine⟨_,rfl,p,C,dx,_,_,rfl,hp,T.cl,T.nF,IV _ _ _,d2,_,rfl,.inr ⟨o2,h2⟩,qe,fun kv gx=>?_,fun l ns hl de df=>?_⟩
 ·unfold CG at gx;obtain⟨q,_,rfl⟩:=Zr.mp gx;exact⟨_,rfl⟩
 ·have en:=La de df;subst en;have s1:aB H (upd H l (.lst (((A1 due).map fun n:Nat=>(n:Int)).map V.int))):=AC (aB.refl _) hl;have exs:((A1 due).map fun n:Nat=>(n:Int)).map V.int=Af (A1 due):=(Di _).symm
  refine⟨l,rfl,⟨_,aH.of aA⟩,Aw (K:=K) (a:=l) (xs:=Af (A1 due))
   (fun i ys H2=>∃as,ys=as.map V.ref/\aB H H2/\H2 l=some (.lst (Af (A1 due)))/\aE H2 as ((((A1 due).take i).filter A6).map fun n=>(V.str (BP (AU due) n),V.int (n:Int)))) ⟨[],rfl,s1,by rw[aA,exs],.nil⟩
   (fun i ys H2 _ ⟨_,_,_,e,_⟩=>aH.of e) (fun i ys H2 ⟨as,e,_,_,t⟩=>?_) ?_ ?_⟩
  ·have:=t.length;rw[e,AH,this,AH];have h3:(((A1 due).take i).filter A6).length <= ((A1 due).take i).length:=ZS _ _;rw[ZA]at h3;have:=Ed due;omega
  ·rintro i v ys H2 hi ⟨as,rfl,s2,fg,ht⟩;obtain⟨n,hn,rfl⟩:=KN hi;have bv:n∈(AU due).map (·.1):=mem_keysS.mp (ZQ hn);have et:((A1 due).take (i + 1)).filter A6=((A1 due).take i).filter A6++(if A6 n then [n]else []):=PySem.take_succ_filter A6 _ i n hn;refine⟨_,rfl,n,rfl,_,rfl,?_⟩;refine By (fun hm=>?_) (fun hm=>?_)
   ·refine⟨_,rfl,p,C,dx,_,_,rfl,s2 _ _ hp,T.cl,T.nF,IV _ _ _,_,rfl,d2,_,rfl,.inl ⟨_,Sum.inl (n:Int),aB.rd s2 (.inr ⟨o2,h2⟩),rfl,(Fj bv).symm⟩,_,rfl,gc,fun b hb=>?_⟩;refine⟨as++[b],by rw[Zu];rfl,AC s2 hb,by rw[AF (AG fg hb)];exact fg,?_⟩;rw[et,hm,Zp rfl,Zu];exact Gr (AC (aB.refl _) hb) ht aA
   ·refine⟨as,rfl,s2,fg,?_⟩;rw[et,Zq hm,Zt];exact ht
  ·rintro ys H2 ⟨as,rfl,s2,_,ht⟩ q hq
   have el:(A1 due).take (Af (A1 due)).length=A1 due:=by
    have:(Af (A1 due)).length=(A1 due).length:=by unfold Af;rw[AH]
    rw[this];exact ZB
   rw[el]at ht;exact k q as _ (AC s2 hq) aA (aE.same (AC (aB.refl _) hq) ht)
end
theorem Lb {as:List Addr}{ps:List (V×V)}{i:Nat}{b:Addr} (h:aE H as ps) (e:as[i]?=some b):∃p,ps[i]?=some p/\H b=some (.tup [p.1,p.2]):=Bz h e
section
theorem aF.ins {p:Addr}{r:Str} (h:aF C H p due r):∃dx d1 d2,H p=some (.ins C dx (IU d1 d2 r)):=by
 obtain⟨dx,d1,o1,d2,o2,a,_⟩:=h.ex;exact⟨dx,d1,d2,a⟩
theorem Jk (due:Aa):(CA due).length=(AI due).length:=AH _
end
theorem Nt (h:∀p∈due,p.2 < 2 ^ 20):∀n∈(AU due).map (·.1),n < 2 ^ 20:=fun n hn=>by
 obtain⟨q,hq,rfl⟩:=Zr.mp hn;exact h _ (Gp hq)
theorem Qc (h:∀p∈due,p.2 < 2 ^ 20):∀n∈AI due,n < 2 ^ 20:=fun n hn=>Nt h n (mem_keysS.mp (mem_filter.mp hn).1)
theorem Fl {x:Int}{n:Nat} (h0:0 <= x) (h:x < 2 ^ n):Builtin.Int.intBits x <= n:=by
 obtain⟨m,rfl⟩:=Int.eq_ofNat_of_zero_le h0;have hm:m < 2 ^ n:=by exact_mod_cast h
 rcases Nat.eq_zero_or_pos m with e |hp
 ·subst e;exact Nat.zero_le _
 ·rw[D3 hp];exact(Nat.log2_lt qe).mpr hm
theorem IW {xs:List V}{i:Int} (h0:0 <= i) (h1:i < xs.length):∃v,jg xs i=some v/\xs[i.toNat]?=some v:=by
 have hlt:i.toNat < xs.length:=by omega
 refine⟨xs[i.toNat],?_,Z7 hlt⟩;unfold jg jk;rw[Zp h0,Zp h1];exact Z7 hlt
structure bZ (d:Addr) (H H':Hp):Prop where
 old:∀b o,H b=some o->b≠d->H' b=some o
 bS:∃a b:Int,H' d=some (.lst [.int a,.int b])
theorem bZ.step {d:Addr}{H1 H2:Hp} (x:bZ d H H1) (s:aB H1 H2):bZ d H H2 :=
 ⟨fun b o e hb=>s _ _ (x.old b o e hb),by obtain⟨a,b,e⟩:=x.bS;exact⟨a,b,s _ _ e⟩⟩
theorem bZ.trans {d:Addr}{H1 H2:Hp} (x:bZ d H H1) (y:bZ d H1 H2):bZ d H H2:=⟨fun b o e hb=>y.old _ _ (x.old b o e hb) hb,y.bS⟩
section
inductive spCell (K:FG) (vs:List V) (H:Hp) (Q:VK) (_E:XK):Prop where
 |mk (a:Addr) (ns:List Int) (k:Int) (cE:vs=[.ref a,.int k]) (cD:aH K H a (ns.map V.int)) (cH:ns.length <= 63) (dH:0 <= k) (eT:∀(v:Int) H',aB H H'->Q (.int v) H')
theorem UI:AL ["_law_script", "_law_k"] ["_law_script", "_law_k"] (defScope IM):=cB
theorem SU (F:aW K "_law_cell" "_law_cell" IM f fd) (B:Bl mg):AY P w K mg base aO 1 f fd ["_law_script", "_law_k"] (spCell K):=by
 refine F.m UI fun vs H Q E h=>?_;obtain⟨a,ns,kk,rfl,hS,h63,hk,k⟩:=h;refine⟨rfl,fun ac A outer s hr=>?_⟩;have hu:=hr.units
 refine⟨_,AE (An (AS (Ty K rfl hu) (pv 0) (BC AB) (AW _)) (AD (AR (AX HN (pv 1) AJ))) AT)
  (AD (AR (AX Cn (Bc (A4 K rfl) (pv 0) (AX Dp (pv 1) (AV (Au K rfl) rfl B.len PySem.boot_len (AA (pv 0) AB))) (fun _ _=>rfl))
   (AX HN (AX Jy (pv 1) (AV (Au K rfl) rfl B.len PySem.boot_len (AA (pv 0) AB))) AJ)))),?_⟩
 refine⟨_,rfl,Nat.zero_le _,fun p hp=>?_⟩;have s1:aB H (upd H p (.lst [])):=AC (aB.refl _) hp;refine⟨a,p,ns,[],rfl,rfl,s1.seq hS,aH.of aA,_,rfl,?_⟩;refine By (fun h0=>?_) (fun h0=>?_)
 ·exact⟨_,rfl,_,_,rfl,rfl,.inr ⟨qc,qc⟩,k _ _ s1⟩
 ·have az:ns≠ []:=fun z=>h0 (ZL z);have hpos:0 < ns.length:=List.length_pos_iff.mpr az;have hl:(ns.map V.int).length=ns.length:=AH _;have hm0:0 <= kk % ((ns.map V.int).length:Int):=Int.emod_nonneg _ (by rw[hl];omega);have hm1:kk % ((ns.map V.int).length:Int) < ((ns.map V.int).length:Nat):=Int.emod_lt_of_pos _ (by rw[hl];omega);obtain⟨v,hv,eY⟩:=IW (xs:=ns.map V.int) hm0 hm1
  obtain⟨n,rfl⟩:∃n,v=V.int n:=by
   rw[ZE]at eY;cases e:ns[(kk % ((ns.map V.int).length:Int)).toNat]? with
   |none=>rw[e]at eY;cases eY
   |some n=>rw[e]at eY;exact⟨n,(Option.some.inj eY).symm⟩
  refine⟨_,rfl,_,rfl,_,rfl,a,_,rfl,.inl (s1.seq hS),_,_,rfl,rfl,(by rw[hl];omega),a,_,_,_,rfl,rfl,s1.seq hS,hv,?_⟩;exact⟨_,rfl,_,rfl,a,_,rfl,.inl (s1.seq hS),_,_,rfl,rfl,⟨by rw[hl];omega,by rw[hl];omega⟩,_,_,rfl,rfl,.inr ⟨qc,qc⟩,_,_,rfl,rfl,k _ _ s1⟩
inductive spDrawn (vs:List V) (H:Hp) (Q:VK) (_E:XK):Prop where
 |mk (c k:Int) (cE:vs=[.int c,.int k]) (cD:∀r:Int,0 <= r->Q (.int r) H)
theorem scDrawn:AL ["_law_cell_here", "_law_k", "_law_more"] ["_law_cell_here", "_law_k"] (defScope Gj):=cB
theorem Qd (F:aW K "_law_drawn" "_law_drawn" Gj f fd):AY P w K mg base aO 1 f fd ["_law_cell_here", "_law_k"] spDrawn:=by
 refine F.m scDrawn fun vs H Q E h=>?_;obtain⟨c,kk,rfl,k⟩:=h;refine⟨rfl,fun ac A outer s hr=>?_⟩
 refine⟨_,AE (Ag (i:=2) scDrawn.nd rfl (Or.inl rfl) (AX Dp (AX Cn (AX HN (pv 0) AJ) (AX HN (AX Cn (pv 1) AJ) AJ)) AJ))
  (AE (Ag (i:=2) scDrawn.nd rfl (Or.inl rfl) (AX Dp (AX J7 (pv 2) (pv 2)) AJ))
  (AE (Ag (i:=2) scDrawn.nd rfl (Or.inl rfl) (AX J7 (AX J7 (AX Cn (AX Dp (pv 2) AJ) AJ) (AX Cn (AX Pu (pv 2) AJ) AJ)) (pv 2)))
  (AD (AR (AX Dp (pv 2) AJ))))),?_⟩
 refine⟨_,rfl,_,_,rfl,rfl,.inr ⟨qc,qc⟩,_,rfl,_,_,rfl,rfl,_,_,rfl,rfl,.inr ⟨qc,qc⟩,_,_,rfl,rfl,_,_,rfl,rfl,(by show(0:Int) < _;decide),?_⟩;generalize ha:(c * 6364136223846793005 + (kk + 1) * 1442695040888963407) % 340282366920938463463374607431768211507=m1
 have h1:0 <= m1/\m1 < 2 ^ 130:=by
  rw[←ha];exact⟨Int.emod_nonneg _ qc,Int.lt_trans (Int.emod_lt_of_pos _ qc) qc⟩
 have b1:Builtin.Int.intBits m1 <= 2 ^ 20:=Nat.le_trans (Fl h1.1 h1.2) qc;subst ha;refine⟨_,rfl,_,rfl,_,_,rfl,rfl,⟨b1,b1⟩,_,_,rfl,rfl,(by show(0:Int) < _;decide),?_⟩;generalize hb:(c * 6364136223846793005 + (kk + 1) * 1442695040888963407) % 340282366920938463463374607431768211507 * ((c * 6364136223846793005 + (kk + 1) * 1442695040888963407) % 340282366920938463463374607431768211507) % 340282366920938463463374607431768211297=m2
 have h2:0 <= m2/\m2 < 2 ^ 130:=by
  rw[←hb];exact⟨Int.emod_nonneg _ qc,Int.lt_trans (Int.emod_lt_of_pos _ qc) qc⟩
 have b2:Builtin.Int.intBits m2 <= 2 ^ 20:=Nat.le_trans (Fl h2.1 h2.2) qc
 have p1:0 <= m2 % 18446744073709551557 + 1/\m2 % 18446744073709551557 + 1 < 2 ^ 65:=by
  have:=Int.emod_nonneg m2 (show(18446744073709551557:Int)≠0 by decide);have:=Int.emod_lt_of_pos m2 (show(0:Int) < 18446744073709551557 by decide);omega
 have p2:0 <= m2 / 18446744073709551557 + 1/\m2 / 18446744073709551557 + 1 < 2 ^ 131:=by
  have h3:=Int.ediv_nonneg h2.1 (show(0:Int) <= 18446744073709551557 by decide);have h4:=Int.ediv_le_self (18446744073709551557) h2.1;omega
 have p3:0 <= (m2 % 18446744073709551557 + 1) * (m2 / 18446744073709551557 + 1):=Int.mul_nonneg p1.1 p2.1
 have p4:(m2 % 18446744073709551557 + 1) * (m2 / 18446744073709551557 + 1) < 2 ^ 196:=by
  have:=Int.mul_lt_mul' (Int.le_of_lt p1.2) p2.2 p2.1 (show(0:Int) < 2 ^ 65 by decide);exact Int.lt_of_lt_of_le this qc
 have c1:Builtin.Int.intBits (m2 % 18446744073709551557 + 1) <= 2 ^ 20:=Nat.le_trans (Fl p1.1 p1.2) qc;have c2:Builtin.Int.intBits (m2 / 18446744073709551557 + 1) <= 2 ^ 20:=Nat.le_trans (Fl p2.1 p2.2) qc;have c3:Builtin.Int.intBits ((m2 % 18446744073709551557 + 1) * (m2 / 18446744073709551557 + 1)) <= 2 ^ 20:=Nat.le_trans (Fl p3 p4) qc;subst hb;refine⟨_,rfl,_,_,rfl,rfl,(by show(0:Int) < _;decide),_,_,rfl,rfl,_,rfl,_,_,rfl,rfl,⟨qc,PyProof.noPylong_of_log2 qb⟩,_,_,rfl,rfl,_,_,rfl,rfl,⟨c1,c2⟩,?_⟩;refine⟨_,rfl,_,_,rfl,rfl,⟨c3,b2⟩,?_⟩;exact⟨_,rfl,_,_,rfl,rfl,(by show(0:Int) < _;decide),k _ (Int.emod_nonneg _ qc)⟩
inductive spRoll (vs:List V) (H:Hp) (Q:VK) (_E:XK):Prop where
 |mk (d:Addr) (a b m:Int) (cE:vs=[.ref d,.int m]) (cD:H d=some (.lst [.int a,.int b])) (cH:0 < m) (dH:m < 1073741824) (eT:∀r a' b':Int,0 <= r->r < m->Q (.int r) (upd H d (.lst [.int a',.int b'])))
theorem scRoll:AL ["_law_dice", "_law_many", "_law_told_here"] ["_law_dice", "_law_many"] (defScope IN):=cB
theorem SW (F:aW K "_law_roll" "_law_roll" IN f fd) (GD:Fn P w K mg base "_law_drawn" 1 ["_law_cell_here", "_law_k"] spDrawn):AY P w K mg base aO 2 f fd ["_law_dice", "_law_many"] spRoll:=by
 obtain⟨fD,dD,GD,mD,kD,bD⟩:=GD.ex;refine F.m scRoll fun vs H Q E h=>?_;obtain⟨d,a,b,m,rfl,hd,m0,m1,k⟩:=h;refine⟨rfl,fun ac A outer s hr=>?_⟩
 refine⟨_,AE (An (AS NV (Bc (A4 K rfl) (pv 0) AJ (fun _ _=>rfl)) (AX PZ AJ AJ) (AW _))
   (AE (Ag (i:=2) scRoll.nd rfl (Or.inl rfl) (AX Dp (Bc (A4 K rfl) (pv 0) AJ (fun _ _=>rfl)) (pv 1)))
   (AE (Cc (AX Jy (Bc (A4 K rfl) (pv 0) AJ (fun _ _=>rfl)) (pv 1)) (PM (pv 0) AJ Ks))
   (AD (AR (pv 2))))) AT)
  (AE (Cc (AX Cn (Bc (A4 K rfl) (pv 0) AJ (fun _ _=>rfl)) AJ) (PM (pv 0) AJ Ks))
  (AD (AR (AX Dp (AX Jy (AM GD hr rfl mD kD bD .nil AN (AA (Bc (A4 K rfl) (pv 0) AJ (fun _ _=>rfl)) (AA (Bc (A4 K rfl) (pv 0) AJ (fun _ _=>rfl)) AB))) AJ) (pv 1))))),?_⟩
 refine⟨_,rfl,d,_,0,.int a,rfl,rfl,aH.of hd,B5 (j:=0) rfl,_,_,rfl,rfl,⟨qc,qc,qc⟩,_,_,rfl,rfl,_,rfl,?_⟩;refine By (fun _=>?_) (fun _=>?_)
 ·refine⟨_,rfl,d,_,0,.int a,rfl,rfl,aH.of hd,B5 (j:=0) rfl,_,rfl,_,_,rfl,rfl,m0,?_⟩;refine⟨_,rfl,d,_,0,.int a,rfl,rfl,aH.of hd,B5 (j:=0) rfl,_,rfl,_,_,rfl,rfl,⟨m0,m1⟩,_,rfl,d,_,0,0,rfl,rfl,hd,rfl,?_⟩;exact⟨_,rfl,k _ (a / m) b (Int.emod_nonneg _ qe) (Int.emod_lt_of_pos _ m0)⟩
 ·refine⟨_,rfl,d,_,1,.int b,rfl,rfl,aH.of hd,B5 (j:=1) rfl,_,_,rfl,rfl,_,rfl,d,_,1,1,rfl,rfl,hd,rfl,?_⟩;have hd2:(upd H d (.lst ([V.int a,V.int b].set 1 (V.int (b + 1))))) d=some (.lst [.int a,.int (b + 1)]):=aA;refine⟨_,rfl,d,_,0,.int a,rfl,rfl,aH.of hd2,B5 (j:=0) rfl,_,rfl,d,_,1,.int (b + 1),rfl,rfl,aH.of hd2,B5 (j:=1) rfl,_,_,rfl,fun r hr0=>?_⟩;refine⟨_,_,rfl,rfl,⟨qc,qc⟩,_,rfl,_,_,rfl,rfl,m0,?_⟩;exact k _ a (b + 1) (Int.emod_nonneg _ qe) (Int.emod_lt_of_pos _ m0)
inductive spRuleOf (vs:List V) (H:Hp) (Q:VK) (_E:XK):Prop where
 |mk (d:Addr) (a b:Int) (cE:vs=[.ref d]) (cD:H d=some (.lst [.int a,.int b])) (cH:∀(r:Str) H',r∈(["bar", "drop", "keep", "leave"]:List Str)->bZ d H H'->Q (.str r) H')
theorem Qe:AL ["_law_dice"] ["_law_dice"] (defScope FH):=cB
theorem Op (F:aW K "_law_rule_of" "_law_rule_of" FH f fd) (GR:Fn P w K mg base "_law_roll" 2 ["_law_dice", "_law_many"] spRoll):AY P w K mg base aO 3 f fd ["_law_dice"] spRuleOf:=by
 obtain⟨fR,dR,GR,mR,kR,bR⟩:=GR.ex;refine F.m Qe fun vs H Q E h=>?_;obtain⟨d,a,b,rfl,hd,k⟩:=h;refine⟨rfl,fun ac A outer s hr=>?_⟩;refine⟨_,AD (AR (Bc (A4 K rfl) (BC (AA Ae (AA Ae (AA Ae (AA Ae AB))))) (AM GR hr rfl mR kR bR .nil AN (AA (pv 0) (AA AJ AB))) (fun _ _=>rfl))),?_⟩;refine⟨sl4,fun p hp=>?_⟩;have gD:d≠p:=AG hd hp;refine⟨_,rfl,d,a,b,4,rfl,by rw[AF gD];exact hd,qc,qc,fun r a' b' h0 h1=>?_⟩;have hl:(upd (upd H p (.lst [.str "bar", .str "drop", .str "keep", .str "leave"])) d (.lst [.int a',.int b'])) p=some (.lst [.str "bar", .str "drop", .str "keep", .str "leave"]):=by rw[AF (Ne.symm gD),aA]
 obtain⟨v,hv,eY⟩:=IW (xs:=[V.str "bar", V.str "drop", V.str "keep", V.str "leave"]) h0 (by show r < 4;exact h1)
 have eU:∃x,v=.str x/\x∈(["bar", "drop", "keep", "leave"]:List Str):=by
  have:=ZQ eY;simp only[mem_cons,not_mem_nil,or_false]at this;rcases this with z |z |z |z
  ·exact⟨_,z,by simp⟩
  ·exact⟨_,z,by simp⟩
  ·exact⟨_,z,by simp⟩
  ·exact⟨_,z,by simp⟩
 obtain⟨x,rfl,hx⟩:=eU;refine⟨p,_,r,_,rfl,rfl,aH.of hl,hv,k x _ hx ⟨fun c o e hc=>?_,⟨a',b',aA⟩⟩⟩;rw[AF hc,AF (AG e hp)];exact e
end
theorem Nu (n k:Nat):decide (V.int (Builtin.bitAnd ((n:Int) / 2 ^ ((0:Int) + (k:Int)).toNat) 1)=V.int 1)=n.testBit k:=by
 have e0:((0:Int) + (k:Int)).toNat=k:=by omega
 have e1:(n:Int) / 2 ^ k=((n / 2 ^ k:Nat):Int):=by push_cast;rfl
 have e2:Builtin.bitAnd ((n / 2 ^ k:Nat):Int) 1=((n / 2 ^ k % 2:Nat):Int):=by
  have:=CS (n / 2 ^ k) 1;rw[Nat.and_one_is_mod]at this;exact this
 rw[e0,e1,e2,Nat.testBit_eq_decide_div_mod_eq];refine decide_eq_decide.mpr ⟨fun h=>?_,fun h=>?_⟩
 ·have:=V.int.inj h;omega
 ·rw[h];rfl
section
inductive spRounds (K:FG) (vs:List V) (H:Hp) (Q:VK) (_E:XK):Prop where
 |mk (a:Addr) (ns:List Int) (cE:vs=[.ref a,.int 3]) (cD:aH K H a (ns.map V.int)) (cH:ns.length <= 63) (dH:∀(l:Addr) (as:List Addr) H',aB H H'->H' l=some (.lst (as.map V.ref))->as.Nodup->l∉ as->as.length <= 4->(∀b∈as,H b=none/\∃x y:Int,H' b=some (.lst [.int x,.int y]))->Q (.ref l) H')
theorem Qf:AL ["_law_script", "_law_most"] ["_law_script", "_law_most"] (defScope FE):=cB
theorem Oq (F:aW K "_law_rounds" "_law_rounds" FE f fd) (B:Bl mg) (GC:Fn P w K mg base "_law_cell" 1 ["_law_script", "_law_k"] (spCell K)):AY P w K mg base aO 2 f fd ["_law_script", "_law_most"] (spRounds K):=by
 obtain⟨fC,dC,GC,mC,kC,bC⟩:=GC.ex;refine F.m Qf fun vs H Q E h=>?_;obtain⟨a,ns,rfl,hS,h63,k⟩:=h;refine⟨rfl,fun ac A outer s hr=>?_⟩
 refine⟨_,AD (AR (A3 ["_law_script"] [some 0] qd qb qd rfl
  (CJ rfl B.range (AA (AV (OA rfl) rfl B.max UE (AA AJ (AA (AV (OB rfl) rfl B.min UD (AA (pv 1) (AA (AV (Au K rfl) rfl B.len PySem.boot_len (AA (pv 0) AB)) AB))) AB))) AB))
  (fun _ _ _ _ _ _=>BF)
  (fun _ _ _ _ _ _=>BC (AA (AM GC hr rfl mC kC bC .nil AN (AA (pv 1) (AA (pv 0) AB))) (AA AJ AB))))),?_⟩
 have hl:(ns.map V.int).length=ns.length:=AH _;refine⟨_,rfl,_,rfl,a,_,rfl,.inl hS,_,_,rfl,_,_,rfl,_,rfl,?_,?_,?_⟩
 ·split <;> split <;> omega
 ·split <;> split <;> omega
 ·generalize hn:(if (if (((ns.map V.int).length:Nat):Int) < 3 then (((ns.map V.int).length:Nat):Int)else 3) > 1 then (if (((ns.map V.int).length:Nat):Int) < 3 then (((ns.map V.int).length:Nat):Int)else 3)else 1).toNat=n
  have n5:n <= 4:=by
   rw[←hn];split <;> split <;> omega
  refine DV (lo:=0) (n:=n) (fun i ys H2=>∃as:List Addr,ys=as.map V.ref/\as.length=i/\i <= 4/\aB H H2/\as.Nodup/\∀b∈as,H b=none/\∃x y:Int,H2 b=some (.lst [.int x,.int y])) ⟨[],rfl,rfl,qc,aB.refl _,nodup_nil,fun b hb=>nomatch hb⟩ ?_ ?_ ?_
  ·rintro i ys H2 ⟨as,rfl,e,h5,_⟩;rw[AH];omega
  ·rintro i ys H2 hi ⟨as,rfl,e,h5,s2,nd,hb⟩;refine⟨_,rfl,_,rfl,a,ns,_,rfl,s2.seq hS,h63,qe,fun v H3 s3=>⟨gc,fun p hp=>?_⟩⟩;refine⟨as++[p],by rw[Zu];rfl,by rw[ZH,e];rfl,qe,AC (s2.trans s3) hp,?_,fun b iM=>?_⟩
   ·refine nodup_append.mpr ⟨nd,Zs.mpr ⟨not_mem_nil,nodup_nil⟩,?_⟩;intro x hx y hy;rw[ZG]at hy;subst hy;obtain⟨_,x1,y1,e1⟩:=hb x hx;exact AG (s3 _ _ e1) hp
   ·rcases mem_append.mp iM with z |z
    ·obtain⟨h0,x1,y1,e1⟩:=hb b z;exact⟨h0,x1,y1,AC s3 hp _ _ e1⟩
    ·rw[ZG]at z;subst z;refine⟨?_,v,0,aA⟩;cases e:H b with
     |none=>rfl
     |some o =>
      have:=s3 _ _ (s2 _ _ e);rw[this]at hp;cases hp
  ·rintro ys H2 ⟨as,rfl,e,h5,s2,nd,hb⟩ l hl;refine k l as _ (AC s2 hl) aA nd ?_ qe fun b iM=>?_
   ·intro z;obtain⟨_,x,y,e1⟩:=hb l z;rw[e1]at hl;cases hl
   ·obtain⟨h0,x,y,e1⟩:=hb b iM;exact⟨h0,x,y,AC (aB.refl _) hl _ _ e1⟩
inductive spBitsOf (vs:List V) (H:Hp) (Q:VK) (_E:XK):Prop where
 |mk (n:Nat) (cE:vs=[.int (n:Int)]) (cD:∀l ys H',aB H H'->H' l=some (.lst ys)->ys.length=(Db n).length->Q (.ref l) H')
theorem Qg:AL ["_law_number"] ["_law_number"] (defScope FF):=cB
theorem Os (F:aW K "_law_bits_of" "_law_bits_of" FF f fd) (B:Bl mg):AY P w K mg base aO 1 f fd ["_law_number"] spBitsOf:=by
 refine F.m Qg fun vs H Q E h=>?_;obtain⟨n,rfl,k⟩:=h;refine⟨rfl,fun ac A outer s hr=>?_⟩
 refine⟨_,AD (AR (A3 ["_law_number"] [some 0] qd qb qd rfl (CJ rfl B.range (AA AJ AB))
  (fun _ _ _ _ _ _=>C4 (AS DI (AX Bw (AX To (pv 1) (pv 0)) AJ) AJ (AW _)))
  (fun _ _ _ _ _ _=>AX Jz AJ (pv 0)))),?_⟩
 refine⟨42,rfl,qc,qc,?_⟩;refine DV (lo:=0) (n:=42) (fun i ys H2=>ys.length=((List.range i).filter fun k=>n.testBit k).length/\i <= 42/\H2=H) ⟨rfl,qc,rfl⟩ ?_ ?_ ?_
 ·rintro i ys H2 ⟨e,hi,_⟩;rw[e];have:=ZS (fun k=>n.testBit k) (List.range i);rw[List.length_range]at this;omega
 ·rintro i ys H2 hi ⟨e,_,rfl⟩;refine⟨_,rfl,_,rfl,_,_,rfl,rfl,qe,_,_,rfl,rfl,?_⟩;refine⟨rfl,_,rfl,?_⟩
  have er:((List.range (i + 1)).filter fun k=>n.testBit k).length=((List.range i).filter fun k=>n.testBit k).length + (if n.testBit i then 1 else 0):=by
   rw[List.range_succ,filter_append,ZH,filter_cons,filter_nil];split <;> rfl
  refine By (fun h=>?_) (fun h=>?_)
  ·have hb:n.testBit i=true:=by rw[←Nu];exact h
   refine⟨_,rfl,_,_,rfl,rfl,⟨qe,by first |decide |omega,by first |decide |omega⟩,?_,qe,rfl⟩;rw[er,hb,ZH,e];rfl
  ·have hb:n.testBit i=false:=by rw[←Nu];exact Bool.eq_false_iff.mpr h
   refine⟨?_,qe,rfl⟩;rw[er,hb,e];rfl
 ·rintro ys H2 ⟨e,_,rfl⟩ l hl;exact k l ys _ (AC (aB.refl _) hl) aA e
end
end Mk
end
section
namespace L2
open PySem
def Vb (t u:TS):TS:=fun D σ H=>∃G:St->Hp->Prop,(∀R:St->Hp->Prop,(∀σ H,G σ H->R σ H)->t { D with nx:=R } σ H)/\∀σ H,G σ H->u D σ H
theorem Ee {X:Cx}{st:Stmt}{rest:List Stmt}{t u:TS} (h1:PS X st t) (h2:fc X rest u):fc X (st :: rest) (Vb t u):=fun aa s σ H D I ⟨_,a,b⟩=>AE h1 h2 aa s σ H D I (a (u D) b)
end L2
namespace Mk
open PySem L2 MK
def aN (H H':Hp):Prop:=∀b xs,H b=some (.tup xs)->H' b=some (.tup xs)
theorem aN.of (s:aB H H'):aN H H':=fun b xs e=>s _ _ e
theorem aN.upd {d:Addr}{xs ys:List V} (h:H d=some (.lst xs)):aN H (upd H d (.lst ys)):=fun b zs e=>by
 rw[AF (fun z=>by subst z;rw[h]at e;cases e)];exact e
theorem aN.trans {H1 H2:Hp} (x:aN H H1) (y:aN H1 H2):aN H H2:=fun b xs e=>y _ _ (x _ _ e)
theorem aE.aS {as:List Addr}{ps:List (V×V)} (s:aN H H') (h:aE H as ps):aE H' as ps:=Paired.mapP h fun _ _ e=>s _ _ e
theorem gz.aS {v:V}{th:Th} (s:aN H H') (h:gz H v th):gz H' v th:=by
 cases th with
 |aU=>exact h
 |num n=>exact h
 |jW ns=>obtain⟨a,e,h⟩:=h;exact⟨a,e,s _ _ h⟩
theorem dQ.aS {b:Addr}{r:Str×Th} (s:aN H H') (h:dQ H b r):dQ H' b r:=by
 obtain⟨tv,e,t⟩:=h;exact⟨tv,s _ _ e,t.aS s⟩
theorem Ba {as:List Addr}{rows:List (Str×Th)} (s:aN H H') (h:Paired (dQ H) as rows):Paired (dQ H') as rows:=Paired.mapP h fun _ _ e=>e.aS s
noncomputable def FL (due:Aa):List PyData:=due.map fun p=>.tuple [.str p.1,.int (p.2:Int)]
theorem Qh {b:Addr}{x:Str}{n:Int} (h:H b=some (.tup [.str x,.int n])):Ce K H (.tuple [.str x,.int n]) (.ref b):=by
 rw[Ce];refine⟨b,_,rfl,aY.of h,?_⟩;rw[BW];refine⟨_,_,rfl,by rw[Ce],?_⟩;rw[BW];refine⟨_,_,rfl,by rw[Ce],?_⟩;rw[BW]
theorem Fo:∀ {due:Aa}{bs:List Addr},aE H bs (C0 due)->BW K H (FL due) (bs.map V.ref)
 | [],bs,h=>by
  have:bs=[]:=List.eq_nil_of_length_eq_zero (by rw[h.length];rfl);subst this;show BW K H [] [];rw[BW]
 |p :: r,[],h=>by have:=h.length;simp[C0]at this
 |p :: r,b :: bs,h=>by
  have hh:H b=some (.tup [.str p.1,.int (p.2:Int)])/\aE H bs (C0 r):=by
   cases h with
   |cons h1 h2=>exact⟨h1,h2⟩
  show BW K H (.tuple [.str p.1,.int (p.2:Int)] :: FL r) (V.ref b :: bs.map V.ref);rw[BW];exact⟨_,_,rfl,Qh hh.1,Fo hh.2⟩
theorem Lc:∀xs:List Nat,BW K H (xs.map fun n:Nat=>PyData.int (n:Int)) (Af xs)
 | []=>by show BW K H [] [];rw[BW]
 |x :: r=>by
  show BW K H (.int x :: r.map fun n:Nat=>PyData.int (n:Int)) (V.int x :: Af r);rw[BW];exact⟨_,_,rfl,by rw[Ce],Lc r⟩
theorem CW {l:Addr}{ds:List PyData}{xs:List V} (h:H l=some (.lst xs)) (d:BW K H ds xs):Ce K H (.list ds) (.ref l):=by
 rw[Ce];exact⟨l,xs,rfl,aH.of h,d⟩
theorem KQ:BW K H [] []:=by rw[BW]
theorem Nv (ds:List PyData):PyData.eqv (.list ds) (.list [])=ds.isEmpty:=by
 cases ds with
 |nil=>rfl
 |cons a r=>simp[PyData.eqv,PyData.eqvAll]
theorem IY {x:Str} (h:x.cps.all (· < 128)=true):PyData.strOk x=true:=by
 unfold PyData.strOk;simp only[Array.all_eq_true,decide_eq_true_eq]at h ⊢;intro i hi;have:=h i hi;simp;omega
theorem M9 {ds:List PyData} (h:∀d∈ds,d.canLay0=true):PyData.canLayAll0 ds=true:=by
 induction ds with
 |nil=>rfl
 |cons a r ih=>rw[PyData.canLayAll0,h a ZI,ih fun d hd=>h d (ZR _ hd)];rfl
theorem UJ {ds:List PyData}{k:Nat} (h:∀d∈ds,d.depth <= k):PyData.depthAll ds <= k:=by
 induction ds with
 |nil=>rw[PyData.depthAll];exact Nat.zero_le _
 |cons a r ih=>rw[PyData.depthAll];exact Nat.max_le.mpr ⟨h a ZI,ih fun d hd=>h d (ZR _ hd)⟩
theorem EG {ds:List PyData} (h:∀d∈ds,d.canLay0=true/\d.depth <= 60):SeqAt.shaped (.list ds)=true:=by
 unfold SeqAt.shaped;rw[Bool.and_eq_true,decide_eq_true_eq];refine⟨by rw[PyData.canLay0];exact M9 fun d hd=>(h d hd).1,?_⟩;rw[PyData.depth];have:=UJ (k:=60) fun d hd=>(h d hd).2;omega
theorem Qi {x:Str}{n:Int} (h:x.cps.all (· < 128)=true):(PyData.tuple [.str x,.int n]).canLay0=true/\(PyData.tuple [.str x,.int n]).depth <= 60:=by
 refine⟨?_,?_⟩
 ·rw[PyData.canLay0];refine M9 fun d hd=>?_;simp only[mem_cons,not_mem_nil,or_false]at hd;rcases hd with rfl |rfl
  ·rw[PyData.canLay0];exact IY h
  ·rw[PyData.canLay0]
 ·simp only[PyData.depth,PyData.depthAll];omega
theorem EH (h:∀p∈due,p.1.cps.all (· < 128)=true):SeqAt.shaped (.list (FL due))=true:=EG fun d hd=>by
 obtain⟨p,hp,rfl⟩:=Zr.mp hd;exact Qi (h p hp)
theorem G0 (xs:List Nat):SeqAt.shaped (.list (xs.map fun n:Nat=>PyData.int (n:Int)))=true:=EG fun d hd=>by
 obtain⟨x,hx,rfl⟩:=Zr.mp hd;exact⟨by rw[PyData.canLay0],by simp[PyData.depth]⟩
theorem NA:SeqAt.shaped (.list [])=true:=by decide +kernel
noncomputable def uni (due:Aa) (ns:List Str):Nat:=Ab (due.map fun p=>if gT (.str p.1) (ns.map V.str)then p.2 else 0)
theorem KR (x:Str) (ns:List Str):gT (.str x) (ns.map V.str)=ns.any (· == x):=by
 unfold gT;rw[any_map];rfl
theorem EJ {p:Str×Nat} (nd:(due.map (·.1)).Nodup) (h:p∈due):look due p.1=p.2:=by
 induction due with
 |nil=>cases h
 |cons q r ih =>
  rw[map_cons,Zs]at nd;unfold look;by_cases e:q.1=p.1
  ·rw[List.find?_cons_of_pos (by simpa using e)];rcases mem_cons.mp h with z |z
   ·subst z;rfl
   ·exact absurd (Zr.mpr ⟨p,z,e.symm⟩) nd.1
  ·rw[List.find?_cons_of_neg (by simpa using e)];rcases mem_cons.mp h with z |z
   ·subst z;exact absurd rfl e
   ·exact ih nd.2 z
theorem UK {ns:List Str} (nd:(due.map (·.1)).Nodup) (hs:∀x∈ns,x∈due.map (·.1)):uni due ns=Ab (ns.map (look due)):=by
 refine Nat.eq_of_testBit_eq fun k=>?_;unfold uni;rw[B0,B0,any_map,any_map,Bool.eq_iff_iff,any_eq_true,any_eq_true];constructor
 ·rintro⟨p,hp,hb⟩;simp only[Function.comp]at hb;by_cases hi:gT (.str p.1) (ns.map V.str)=true
  ·rw[Zp hi]at hb;rw[KR,any_eq_true]at hi;obtain⟨x,hx,e⟩:=hi;have e':x=p.1:=by simpa using e
   subst e';exact⟨p.1,hx,by simp only[Function.comp];rw[EJ nd hp];exact hb⟩
  ·rw[Zq hi,Nat.zero_testBit]at hb;cases hb
 ·rintro⟨x,hx,hb⟩;obtain⟨p,hp,rfl⟩:=Zr.mp (hs x hx);refine⟨p,hp,?_⟩;simp only[Function.comp]at hb ⊢;rw[EJ nd hp]at hb;rw[Zp (by rw[KR,any_eq_true];exact⟨p.1,hx,by simp⟩)];exact hb
theorem Ld {rows:List (Str×Th)}{r:Str×Th} (h:DE rows) (hr:Np (Ai rows) r):DE (rows++[r]):=by
 intro i q e;rcases Nat.lt_trichotomy i rows.length with z |z |z
 ·rw[List.getElem?_append_left z]at e;rw[List.take_append_of_le_length (Nat.le_of_lt z)];exact h i q e
 ·subst z;rw[List.getElem?_append_right (Zy _),Nat.sub_self]at e;have:r=q:=by simpa using e
  subst this;rw[List.take_append_of_le_length (Zy _),ZB];exact hr
 ·rw[List.getElem?_eq_none (by rw[ZH,length_singleton];omega)]at e;cases e
theorem Fp {rows:List (Str×Th)} (h:DE rows) (iN:rows.length <= 10):Es (Ai rows):=by
 have key:∀n,n <= rows.length->Es (Ai (rows.take n)):=by
  intro n;induction n with
  |zero=>intro _;rw[List.take_zero];exact⟨qc,(fun p hp=>nomatch hp),nodup_nil,(fun p hp=>nomatch hp)⟩
  |succ n ih =>
   intro hn;have D:=ih qe;have hq:rows[n]?=some rows[n]:=Z7 qe;have R:=h n _ hq;rw[ZD,hq,Option.toList_some,Eb];refine⟨?_,fun p hp=>?_,?_,fun p hp=>?_⟩
   ·rw[ZH,length_singleton];have:=R.few;omega
   ·rcases mem_append.mp hp with z |z
    ·exact D.lt p z
    ·rw[ZG]at z;subst z;exact R.lt
   ·rw[Zu];refine nodup_append.mpr ⟨D.nd,Zs.mpr ⟨not_mem_nil,nodup_nil⟩,?_⟩;intro x hx y hy;have ey:y=(rows[n]).1:=by simpa using hy
    subst ey;exact fun z=>R.new (z ▸ hx)
   ·rcases mem_append.mp hp with z |z
    ·exact D.nm p z
    ·rw[ZG]at z;subst z;exact R.nm
 have:=key rows.length (Zy _);rw[ZB]at this;exact this
theorem UL {A B:TT}{σ:St}{Q:Bool->Hp->Prop} (p q:Bool) (hA:∀Q':Bool->Hp->Prop,Q' p H->A σ H Q') (hB:∀Q':Bool->Hp->Prop,Q' q H->B σ H Q') (h:Q (p ||q) H):tOr A B σ H Q:=by
 refine hA _ ?_;cases p with
 |true=>exact BX h
 |false=>exact Aq (hB _ h)
theorem SX {A B:TT}{σ:St}{Q:Bool->Hp->Prop} (p q:Bool) (hA:∀Q':Bool->Hp->Prop,Q' p H->A σ H Q') (hB:∀Q':Bool->Hp->Prop,(∀H',aB H H'->Q' q H')->B σ H Q') (h:∀H',aB H H'->Q (p && q) H'):Uy A B σ H Q:=by
 refine hA _ ?_;cases p with
 |true=>exact BX (hB _ h)
 |false=>exact Aq (h _ (aB.refl _))
theorem Jl {p:Addr} (s:aB H H') (h:H' p=none):H p=none:=by
 cases e:H p with
 |none=>rfl
 |some o=>rw[s _ _ e]at h;cases h
theorem DF {X:Cx}{x:Str}{j}{p:Pos}{es:List Expr}{t:TA} (h:PA X es t):PA X (.Constant (.str x) j p :: es) (Ay (tC (.str x)) t):=AA Ae h
theorem Ot {X:Cx}{x0 x1 x2 x3 x4 x5 x6 x7 x8 x9:Str}{j0}{j1}{j2}{j3}{j4}{j5}{j6}{j7}{j8}{j9}{p0 p1 p2 p3 p4 p5 p6 p7 p8 p9:Pos}:PA X [.Constant (.str x0) j0 p0,.Constant (.str x1) j1 p1,.Constant (.str x2) j2 p2,.Constant (.str x3) j3 p3,.Constant (.str x4) j4 p4,.Constant (.str x5) j5 p5,.Constant (.str x6) j6 p6,.Constant (.str x7) j7 p7,.Constant (.str x8) j8 p8,.Constant (.str x9) j9 p9] (Ay (tC (.str x0)) (Ay (tC (.str x1)) (Ay (tC (.str x2)) (Ay (tC (.str x3)) (Ay (tC (.str x4)) (Ay (tC (.str x5)) (Ay (tC (.str x6)) (Ay (tC (.str x7)) (Ay (tC (.str x8)) (Ay (tC (.str x9)) (Dr))))))))))):=DF (DF (DF (DF (DF (DF (DF (DF (DF (DF (AB))))))))))
theorem Ck {bs:List Addr}{i:Nat}{v:V} (h:aE H bs (C0 due)) (e:(bs.map V.ref)[i]?=some v):∃b p,v=.ref b/\bs[i]?=some b/\due[i]?=some p/\H b=some (.tup [.str p.1,.int (p.2:Int)]):=by
 rw[ZE]at e
 obtain⟨b,hb,rfl⟩:∃b,bs[i]?=some b/\v=V.ref b:=by
  cases q:bs[i]? with
  |none=>rw[q]at e;cases e
  |some x=>rw[q]at e;exact⟨x,rfl,(Option.some.inj e).symm⟩
 obtain⟨pq,iH,aj⟩:=Lb h hb;unfold C0 at iH;rw[ZE]at iH
 obtain⟨pr,eZ,rfl⟩:∃q,due[i]?=some q/\pq=(V.str q.1,V.int (q.2:Int)):=by
  cases q:due[i]? with
  |none=>rw[q]at iH;cases iH
  |some x=>rw[q]at iH;exact⟨x,rfl,(Option.some.inj iH).symm⟩
 exact⟨b,pr,rfl,hb,eZ,aj⟩
noncomputable def bH:List Str:=["A", "B", "CD", "EFG", "H", "IJKLMN", "O", "P", "Q", "R"]
theorem Qj:∀x∈bH,Va x:=by
 have:∀x∈bH,(JI x && x.cps.all (· < 128) && decide (x.length <= 1000))=true:=by decide +kernel
 intro x hx;have:=this x hx;simp only[Bool.and_eq_true,decide_eq_true_eq]at this;exact⟨this.1.1,this.1.2,this.2⟩
theorem Ou:∀i:Fin 10,(bH[i.1]?.map fun x=>decide (x∈bH.take i.1))=some false:=by decide +kernel
structure LW (d w f u:Addr) (H0 H:Hp) (rows:List (Str×Th)):Prop where
 old:∀b o,H0 b=some o->b≠d->H b=some o
 bS:∃a b:Int,H d=some (.lst [.int a,.int b])
 words:H w=some (.lst (bH.map V.str))
 found:∃as:List Addr,H f=some (.lst (as.map V.ref))/\Paired (dQ H) as rows
 due:∃bs:List Addr,H u=some (.lst (bs.map V.ref))/\aE H bs (C0 (Ai rows))
structure Ap (d w f u:Addr) (H0:Hp):Prop where
 wd:w≠d
 fd:f≠d
 ud:u≠d
 wf:w≠f
 wu:w≠u
 fu:f≠u
 nf:H0 f=none
 nu:H0 u=none
section
variable {d w u:Addr}{H0:Hp}{rows:List (Str×Th)}
theorem LW.same (h:LW d w f u H0 H rows) (s:aB H H'):LW d w f u H0 H' rows:=by
 obtain⟨a,b,e⟩:=h.bS;obtain⟨as,e1,p1⟩:=h.found;obtain⟨bs,e2,p2⟩:=h.due;exact⟨fun c o ec hc=>s _ _ (h.old c o ec hc),⟨a,b,s _ _ e⟩,s _ _ h.words,⟨as,s _ _ e1,Ba (aN.of s) p1⟩,⟨bs,s _ _ e2,aE.aS (aN.of s) p2⟩⟩
theorem LW.roll (A:Ap d w f u H0) (h:LW d w f u H0 H rows) (a' b':Int):LW d w f u H0 (upd H d (.lst [.int a',.int b'])) rows:=by
 obtain⟨a,b,e⟩:=h.bS;obtain⟨as,e1,p1⟩:=h.found;obtain⟨bs,e2,p2⟩:=h.due;have t:aN H (upd H d (.lst [.int a',.int b'])):=aN.upd e;exact⟨fun c o ec hc=>by rw[AF hc];exact h.old c o ec hc,⟨a',b',aA⟩,by rw[AF A.wd];exact h.words,⟨as,by rw[AF A.fd];exact e1,Ba t p1⟩,⟨bs,by rw[AF A.ud];exact e2,aE.aS t p2⟩⟩
end
theorem Cl {rows:List (Str×Th)}{bs:List Addr} (h:aE H bs (C0 (Ai rows))):bs.length=rows.length:=by
 rw[h.length];unfold C0;rw[AH,Az]
theorem IZ (rows:List (Str×Th)):(Ai rows).map (·.1)=rows.map (·.1):=by
 have:∀(l:List (Str×Th)) (a:Aa),((l.foldl (fun due r=>due++[(r.1,C6 due r.2)]) a).map (·.1))=a.map (·.1)++l.map (·.1):=by
  intro l;induction l with
  |nil=>intro a;simp
  |cons x r ih=>intro a;rw[foldl_cons,ih,Zu];simp
 have e:=this rows [];unfold Ai;rw[e];rfl
noncomputable def WI:St->Nat
 | [_,_,_,_,_,_,_,_,_,some (.int i),_,_]=>(2 ^ 22 - i).toNat
 |_=>0
section
inductive spLines (vs:List V) (H:Hp) (Q:VK) (_E:XK):Prop where
 |mk (d:Addr) (a b M:Int) (cE:vs=[.ref d,.int M]) (cD:1 <= M) (cH:M <= 10) (dH:H d=some (.lst [.int a,.int b])) (eT:∀(q f u:Addr) (as bs:List Addr) (rows:List (Str×Th)) H',bZ d H H'->H' q=some (.tup [.ref f,.ref u])->H f=none->H u=none->H' f=some (.lst (as.map V.ref))->Paired (dQ H') as rows->H' u=some (.lst (bs.map V.ref))->aE H' bs (C0 (Ai rows)) ->     0 < rows.length->(rows.length:Int) <= M->DE rows->(∀x∈rows.map (·.1),x∈bH)->Q (.ref q) H')
noncomputable abbrev UM:List Str:=["_law_dice", "_law_most", "_law_words", "_law_found", "_law_due", "_law_at", "_law_high", "_law_kind", "_law_thing", "_law_number", "_law_name", "_law_more"]
@[irreducible] noncomputable def NB:Expr:=match defBody CN with | .Assign _ (.Tuple (e :: _) _ _) _ :: _=>e |_=>.Constant .none 0 ⟨0,0,0,0⟩
noncomputable abbrev SY:Stmt:=match defBody CN with | .Assign t (.Tuple (_ :: r) k p) q :: _=>.Assign t (.Tuple (NB :: r) k p) q |_=>.Pass ⟨0,0,0,0⟩
noncomputable abbrev UN:List Stmt:=(defBody CN).drop 1
theorem UP:defBody CN=SY :: UN:=by kernel_rfl
theorem Ov {X:Cx}:PE X NB (VA (Ay (tC (.str "A")) (Ay (tC (.str "B")) (Ay (tC (.str "CD")) (Ay (tC (.str "EFG")) (Ay (tC (.str "H")) (Ay (tC (.str "IJKLMN")) (Ay (tC (.str "O")) (Ay (tC (.str "P")) (Ay (tC (.str "Q")) (Ay (tC (.str "R")) (Dr)))))))))))):=by
 unfold NB;exact BC Ot
theorem aX:AL UM ["_law_dice", "_law_most"] (defScope CN):=cB
theorem Qk {f0:Addr} (F:aW K "_law_lines" "_law_lines" CN f0 fd) (B:Bl mg) (GR:Fn P w K mg base "_law_roll" 2 ["_law_dice", "_law_many"] spRoll):AY P w K mg base aO 3 f0 fd ["_law_dice", "_law_most"] spLines:=by
 obtain⟨fR,dR,GR,mR,kR,bR⟩:=GR.ex;refine F.m aX fun vs H Q E h=>?_;obtain⟨d,a,b,M,rfl,M1,M10,hd,k⟩:=h;refine⟨rfl,fun ac A outer s hr=>?_⟩;have hu64:=hr.units;have nd:=aX.nd;rw[UP]
 refine⟨_,AE (Cc (hs:=by kernel_rfl) (hw:=by kernel_rfl) (BB (AA (hs:=by kernel_rfl) Ov (AA (BC AB) (AA (BC AB) AB))))
   (BG rfl (AQ (AO (i:=2) aX.nd rfl (Or.inl rfl)) (AQ (AO (i:=3) aX.nd rfl (Or.inl rfl)) (AQ (AO (i:=4) aX.nd rfl (Or.inr rfl)) Ax)))))
  (AE (BY PassesOwn.never rfl (CJ rfl B.range (AA (AX Cn AJ (AM GR hr rfl mR kR bR .nil AN (AA (pv 0) (AA (pv 1) AB)))) AB)) (AO (i:=5) aX.nd rfl (Or.inl rfl))
   (Ee (Ag (i:=6) aX.nd rfl (Or.inl rfl) (Nf rfl rfl B.max (DQ [] [] qd qb qd qd rfl (Ao (pv 4)) (fun _ _ _ _ _ _=>BF) (fun _ _ _ _ _ _=>pv 1)) AJ))
   (AE (Ag (i:=7) aX.nd rfl (Or.inl rfl) (AM GR hr rfl mR kR bR .nil AN (AA (pv 0) (AA AJ AB))))
   (AE (Cc (hs:=by kernel_rfl) (hw:=by kernel_rfl) (BB (AA Jx (AA AJ AB))) (BG rfl (AQ (AO (i:=8) aX.nd rfl (Or.inl rfl)) (AQ (AO (i:=9) aX.nd rfl (Or.inl rfl)) Ax))))
   (Ee (PQ PassesOwn.never (AS Ek (pv 9) (pv 6) (AW _)) (AD (Ag (i:=9) aX.nd rfl (Or.inl rfl) (AX HN (pv 9) AJ))))
   (Ee (An (PW.pt (CH (AS DI (pv 7) AJ (AW _)) (Bk (AS NV (pv 9) (AX PZ AJ AJ) (AW _)))))
     (AE (Ag (i:=8) aX.nd rfl (Or.inl rfl) (Bc (A4 K rfl) (BC (AA (AX Jz AJ (AM GR hr rfl mR kR bR .nil AN (AA (pv 0) (AA AJ AB)))) (AA (AM GR hr rfl mR kR bR .nil AN (AA (pv 0) (AA AJ AB)))
      (AA (AX Jz AJ (AM GR hr rfl mR kR bR .nil AN (AA (pv 0) (AA AJ AB)))) (AA AJ AB))))) (AM GR hr rfl mR kR bR .nil AN (AA (pv 0) (AA AJ AB))) (fun _ _=>rfl)))
     (AD (Ag (i:=9) aX.nd rfl (Or.inl rfl) (pv 8)))) AT)
   (Ee (An (PW.pt (Ca (AS HS (pv 7) AJ (AW _)) (Bv (AS (Pt K rfl hu64) (pv 4) (BC AB) (AW _)))))
     (AE (Ag (i:=8) aX.nd rfl (Or.inl rfl) (BK Em rfl B.tuple Bd (AA (A3 ["_law_due", "_law_dice"] [some 4,some 0] qd qb qd rfl (CJ rfl B.range (AA (AX Cn AJ (AM GR hr rfl mR kR bR .nil AN (AA (pv 0) (AA AJ AB)))) AB)) (fun _ _ _ _ _ _=>BF)
      (fun _ _ _ _ _ _=>Bc (Dh K rfl) (Bc (A4 K rfl) (pv 1) (AM GR hr rfl mR kR bR .nil AN (AA (pv 2) (AA (AV (Au K rfl) rfl B.len PySem.boot_len (AA (pv 1) AB)) AB))) (fun _ _=>rfl)) AJ (fun _ _=>rfl))) AB)))
     (AE (Ag (i:=9) aX.nd rfl (Or.inl rfl) AJ)
     (AD (BY PassesOwn.never rfl (Ao (pv 4)) (BG rfl (AQ (AO (i:=10) aX.nd rfl (Or.inl rfl)) (AQ (AO (i:=11) aX.nd rfl (Or.inl rfl)) Ax)))
      (AD (Ag (i:=9) aX.nd rfl (Or.inl rfl) (AX HQ (pv 9) (DH (AS DJ (pv 10) (pv 8) rfl) (pv 11) AJ)))))))) AT)
   (AE (B3 (En PySem.F.plainAttrs_list PySem.F.slot_list_append PySem.F.type_list_append Cg (pv 3) (AA (BB (AA (Bc (A4 K rfl) (pv 2) (pv 5) (fun _ _=>rfl)) (AA (pv 8) AB))) AB)))
   (AD (B3 (En PySem.F.plainAttrs_list PySem.F.slot_list_append PySem.F.type_list_append Cg (pv 4) (AA (BB (AA (Bc (A4 K rfl) (pv 2) (pv 5) (fun _ _=>rfl)) (AA (pv 9) AB))) AB))))))))))))
  (AD (AR (BB (AA (pv 3) (AA (pv 4) AB)))))),?_⟩
 refine⟨(by show 10 <= sizeLine;decide),fun pw hpw=>⟨Nat.zero_le _,fun pf hpf=>⟨Nat.zero_le _,fun pu hpu=>⟨iE,fun q0 hq0=>?_⟩⟩⟩⟩;refine⟨q0,_,rfl,aY.of aA,rfl,_,_,rfl,_,_,rfl,_,_,rfl,rfl,?_⟩;have dw:pw≠d:=Ne.symm (AG hd hpw);have s1:aB H (upd H pw (.lst (bH.map V.str))):=AC (aB.refl _) hpw;have s2:aB (upd H pw (.lst (bH.map V.str))) (upd (upd H pw (.lst (bH.map V.str))) pf (.lst [])):=AC (aB.refl _) hpf;have s3:aB (upd (upd H pw (.lst (bH.map V.str))) pf (.lst [])) (upd (upd (upd H pw (.lst (bH.map V.str))) pf (.lst [])) pu (.lst [])):=AC (aB.refl _) hpu;have s4:=AC (aB.refl _) hq0 (o:=HO.tup [.ref pw,.ref pf,.ref pu]);have nf0:H pf=none:=Jl s1 hpf;have nu0:H pu=none:=Jl (s1.trans s2) hpu;have AP:Ap d pw pf pu H:=⟨dw,Ne.symm (AG hd nf0),Ne.symm (AG hd nu0),AG aA hpf,AG (s2 _ _ aA) hpu,AG aA hpu,nf0,nu0⟩;have L0:LW d pw pf pu H _ []:=⟨fun b o e _=>s4 _ _ (s3 _ _ (s2 _ _ (s1 _ _ e))),⟨a,b,s4 _ _ (s3 _ _ (s2 _ _ (s1 _ _ hd)))⟩,s4 _ _ (s3 _ _ (s2 _ _ aA)),⟨[],s4 _ _ (s3 _ _ aA),.nil⟩,⟨[],s4 _ _ aA,.nil⟩⟩;obtain⟨a1,b1,hd1⟩:=L0.bS;refine⟨_,rfl,_,rfl,d,a1,b1,M,rfl,hd1,qe,qe,fun r a' b' h0 h1=>?_⟩;refine⟨_,_,rfl,rfl,_,rfl,qe,qe,?_⟩
 refine F9 (lo:=0) (n:=(1 + r).toNat) (fun i σ H2=>∃(v5 v6 v7 v8 v9 v10 v11:Option V) (rows:List (Str×Th)),σ=[some (.ref d),some (.int M),some (.ref pw),some (.ref pf),some (.ref pu),v5,v6,v7,v8,v9,v10,v11]/\rows.length=i/\DE rows/\rows.map (·.1)=bH.take i/\LW d pw pf pu H H2 rows)
  ⟨none,none,none,none,none,none,none,[],rfl,rfl,(fun i r e=>by simp at e),rfl,L0.roll AP a' b'⟩ ?_ ?_
 ·rintro i σ H2 hi ⟨v5,v6,v7,v8,v9,v10,v11,rows,rfl,bf,RO,cu,L⟩;have hi10:i < 10:=by omega
  have DO:Es (Ai rows):=Fp RO qe;generalize cb:Dl ((Ai rows).map (·.2))=bh
  have hh20:bh < 2 ^ 20:=by
   rw[←cb];exact LR qc fun n hn=>by obtain⟨p,hp,rfl⟩:=Zr.mp hn;exact DO.lt p hp
  refine⟨fun σ H3=>σ=[some (.ref d),some (.int M),some (.ref pw),some (.ref pf),some (.ref pu),some (.int (0 + (i:Int))),some (.int (bh:Int)),v7,v8,v9,v10,v11]/\LW d pw pf pu H H3 rows,fun R hR=>?_,?_⟩
  ·obtain⟨bs,hu,ap⟩:=L.due;have kK:=Cl ap;refine⟨_,rfl,pu,rfl,⟨_,aH.of hu⟩,Aw (K:=K) (a:=pu) (xs:=bs.map V.ref) (fun j ys H3=>ys=Af (((Ai rows).take j).map (·.2))/\H3=H2) ⟨by rfl,rfl⟩ (fun j ys H3 _ ⟨_,e⟩=>e ▸ aH.of hu) (fun j ys H3 ⟨e,_⟩=>?_) ?_ ?_⟩
   ·rw[e];unfold Af;rw[AH,AH,ZA,Az];omega
   ·rintro j v ys H3 hj ⟨rfl,rfl⟩;obtain⟨bb,p,rfl,kQ,ak,aj⟩:=Ck ap hj;refine⟨bb,_,rfl,aY.of aj,rfl,_,_,rfl,_,_,rfl,rfl,?_⟩;refine⟨_,rfl,?_,rfl⟩;rw[ZD,ak,Option.toList_some,Zu];unfold Af;rw[Zu];rfl
   ·rintro ys H3 ⟨rfl,rfl⟩ p hp;have sp:=AC (aB.refl _) hp (o:=HO.lst (Af (((Ai rows).take (bs.map V.ref).length).map (·.2))));have el:(Ai rows).take (bs.map V.ref).length=Ai rows:=by rw[AH,kK,←Az,ZB]
    refine⟨p,((Ai rows).map (·.2)).map (fun n:Nat=>(n:Int)),0,rfl,rfl,aH.of (by rw[aA,el,Di]),fun e=>?_,fun e=>?_⟩
    ·refine hR _ _ ⟨?_,L.same sp⟩;have:(Ai rows).map (·.2)=[]:=List.map_eq_nil_iff.mp e;rw[this]at cb;subst cb;rfl
    ·refine hR _ _ ⟨?_,L.same sp⟩;have az:(Ai rows).map (·.2)≠ []:=fun z=>e (by rw[z];rfl);rw[LU az,cb];rfl
  ·rintro σ H3 ⟨rfl,L3⟩;obtain⟨a3,b3,iy⟩:=L3.bS;refine⟨_,rfl,d,a3,b3,8,rfl,iy,qc,qc,fun kd a4 b4 kd0 kd1=>?_⟩;have L4:=L3.roll AP a4 b4;refine⟨gc,fun q hq=>⟨q,_,rfl,aY.of aA,rfl,_,_,rfl,_,_,rfl,rfl,?_⟩⟩;have L5:=L4.same (AC (aB.refl _) hq (o:=HO.tup [V.aU,V.int 1]));refine⟨fun σ H6=>σ=[some (.ref d),some (.int M),some (.ref pw),some (.ref pf),some (.ref pu),some (.int (0 + (i:Int))),some (.int (bh:Int)),some (.int kd),some .aU,some (.int (Bn bh:Nat)),v10,v11]/\LW d pw pf pu H H6 rows,fun R hR=>?_,?_⟩
   ·refine PV (fun σ H6=>LW d pw pf pu H H6 rows/\∃j:Nat,j <= 20/\σ=[some (.ref d),some (.int M),some (.ref pw),some (.ref pf),some (.ref pu),some (.int (0 + (i:Int))),some (.int (bh:Int)),some (.int kd),some .aU,some (.int ((2 ^ j:Nat):Int)),v10,v11]/\(j=0\/2 ^ (j - 1) <= bh)) (fun σ _=>WI σ) ⟨L5,0,qe,rfl,.inl rfl⟩ ?_ ?_
    ·rintro σ H6 ⟨L6,j,hj,rfl,hjj⟩;refine⟨_,rfl,_,rfl,_,_,rfl,rfl,_,rfl,?_⟩;refine By (fun hle=>?_) (fun hle=>?_)
     ·have hle':2 ^ j <= bh:=by have:=ZV hle;exact_mod_cast this
      have hj20:j < 20:=(Nat.pow_lt_pow_iff_right qc).mp (Nat.lt_of_le_of_lt hle' hh20);refine⟨_,rfl,_,_,rfl,rfl,.inr ⟨qc,qc⟩,?_⟩;have e2:(((2 ^ j:Nat):Int) * 2)=((2 ^ (j + 1):Nat):Int):=by rw[Nat.pow_succ];omega
      refine⟨⟨L6,j + 1,qe,?_,.inr hle'⟩,?_⟩
      ·show [some (V.ref d),some (V.int M),some (V.ref pw),some (V.ref pf),some (V.ref pu),some (V.int (0 + (i:Int))),some (V.int (bh:Int)),some (V.int kd),some V.aU,some (V.int (((2 ^ j:Nat):Int) * 2)),v10,v11]=_;rw[e2]
      ·show(2 ^ 22 - (((2 ^ j:Nat):Int) * 2)).toNat < (2 ^ 22 - ((2 ^ j:Nat):Int)).toNat;have h1:0 < 2 ^ j:=Nat.two_pow_pos j;have h2:2 ^ j <= 2 ^ 20:=Nat.pow_le_pow_right qc hj;omega
     ·have hgt:bh < 2 ^ j:=by
       have:¬ ((2 ^ j:Nat):Int) <= (bh:Int):=fun z=>hle (ZL z);omega
      refine hR _ _ ⟨?_,L6⟩;rw[LQ hgt hjj]
    ·rintro σ H6 Q1 Q2 hQ ⟨v,e1,v2,e2,i,j,a,b,c,ec,q⟩;exact⟨v,e1,v2,e2,i,j,a,b,c,ec,hQ _ _ q⟩
   ·rintro σ H6 ⟨rfl,L6⟩;have hsig:∀(tv nv iC gX:V),True:=fun _ _ _ _=>trivial;refine⟨fun σ H7=>∃(tv:V) (th:Th) (iC gX:Option V),σ=[some (.ref d),some (.int M),some (.ref pw),some (.ref pf),some (.ref pu),some (.int (0 + (i:Int))),some (.int (bh:Int)),some (.int kd),some tv,some (.int (C6 (Ai rows) th:Nat)),iC,gX]/\LW d pw pf pu H H7 rows/\gz H7 tv th/\SL (Ai rows) th/\C6 (Ai rows) th < 2 ^ 20,fun R hR=>?_,?_⟩
    ·refine UL (decide (V.int kd=V.int 5)) (decide ((2:Int) ^ (20:Int).toNat <= (Bn bh:Nat))) (fun Q' h=>⟨_,rfl,rfl,_,rfl,h⟩) (fun Q' h=>⟨_,rfl,_,_,rfl,rfl,⟨qc,qc,qc⟩,_,_,rfl,rfl,_,rfl,h⟩) ?_;refine By (fun _=>?_) (fun hc=>?_)
     ·obtain⟨x1,y1,e1⟩:=L6.bS;refine⟨_,rfl,d,x1,y1,8,rfl,e1,qc,qc,fun r1 a1 b1 r10 r11=>?_⟩;have M1:=L6.roll AP a1 b1;refine⟨_,_,rfl,rfl,⟨r10,qe,qc⟩,?_⟩;obtain⟨x2,y2,e2⟩:=M1.bS;refine⟨_,rfl,d,x2,y2,64,rfl,e2,qc,qc,fun r2 a2 b2 r20 r21=>?_⟩;have M2:=M1.roll AP a2 b2;obtain⟨x3,y3,e3⟩:=M2.bS;refine⟨_,rfl,d,x3,y3,20,rfl,e3,qc,qc,fun r3 a3 b3 r30 r31=>?_⟩;have M3:=M2.roll AP a3 b3;refine⟨_,_,rfl,rfl,⟨r30,qe,qc⟩,?_⟩;refine⟨sl4,fun p hp=>?_⟩;have M4:=M3.same (AC (aB.refl _) hp (o:=HO.lst [V.int (1 * 2 ^ r1.toNat),V.int r2,V.int (1 * 2 ^ r3.toNat),V.int 0]));obtain⟨x4,y4,e4⟩:=M4.bS;have gD:p≠d:=Ne.symm (AG aA hp);refine⟨_,rfl,d,x4,y4,4,rfl,e4,qc,qc,fun r4 a4 b4 r40 r41=>?_⟩;have M5:=M4.roll AP a4 b4;obtain⟨v,hv,eY⟩:=IW (xs:=[V.int (1 * 2 ^ r1.toNat),V.int r2,V.int (1 * 2 ^ r3.toNat),V.int 0]) r40 (by show r4 < 4;exact r41)
      have eU:∃n:Nat,v=.int (n:Int)/\n < 2 ^ 20:=by
       have:=ZQ eY;simp only[mem_cons,not_mem_nil,or_false]at this;rcases this with z |z |z |z
       ·refine⟨2 ^ r1.toNat,by rw[z];simp,?_⟩;exact(Nat.pow_lt_pow_iff_right qc).mpr qe
       ·exact⟨r2.toNat,by rw[z,Int.toNat_of_nonneg r20],qe⟩
       ·refine⟨2 ^ r3.toNat,by rw[z];simp,?_⟩;exact(Nat.pow_lt_pow_iff_right qc).mpr qe
       ·exact⟨0,z,qc⟩
      obtain⟨n,rfl,hn⟩:=eU;refine⟨p,_,r4,_,rfl,rfl,aH.of (by rw[AF gD];exact aA),hv,?_⟩;exact⟨_,rfl,hR _ _ ⟨.int (n:Int),.num n,v10,v11,rfl,M5,rfl,trivial,hn⟩⟩
     ·refine hR _ _ ⟨.aU,.aU,v10,v11,?_,L6,rfl,trivial,?_⟩
      ·show _=[some (V.ref d),some (V.int M),some (V.ref pw),some (V.ref pf),some (V.ref pu),some (V.int (0 + (i:Int))),some (V.int (bh:Int)),some (V.int kd),some V.aU,some (V.int ((Bn (Dl ((Ai rows).map (·.2))):Nat):Int)),v10,v11];rw[cb]
      ·show Bn (Dl ((Ai rows).map (·.2))) < 2 ^ 20;rw[cb];have h2:¬ ((2:Int) ^ (20:Int).toNat <= (Bn bh:Nat)):=fun z=>hc (by rw[ZL z,Bool.or_true]);have h3:((2:Int) ^ (20:Int).toNat)=1048576:=by decide
       omega
    ·rintro σ H7 ⟨tv,th,iC,gX,rfl,L7,hT,hTO,hlt⟩;obtain⟨bs,hu,ap⟩:=L7.due;have kK:=Cl ap;refine⟨fun σ H8=>∃(tv:V) (th:Th) (iC gX:Option V),σ=[some (.ref d),some (.int M),some (.ref pw),some (.ref pf),some (.ref pu),some (.int (0 + (i:Int))),some (.int (bh:Int)),some (.int kd),some tv,some (.int (C6 (Ai rows) th:Nat)),iC,gX]/\LW d pw pf pu H H8 rows/\gz H8 tv th/\SL (Ai rows) th/\C6 (Ai rows) th < 2 ^ 20,fun R hR=>?_,?_⟩
     ·refine SX (decide ((5:Int) < kd)) (!(FL (Ai rows)).isEmpty) (fun Q' h=>⟨_,rfl,_,_,rfl,rfl,_,rfl,h⟩) (fun Q' h=>⟨_,rfl,Nat.zero_le _,fun p hp=>?_⟩) (fun H8 s8=>?_)
      ·have sp:=AC (aB.refl _) hp (o:=HO.lst []);refine⟨.list (FL (Ai rows)),.list [],CW (sp _ _ hu) (Fo (aE.aS (aN.of sp) ap)),CW aA KQ,EH fun p hp=>(DO.nm p hp).2.1,NA,_,rfl,?_⟩;rw[Nv];exact h _ sp
      ·refine By (fun hc=>?_) (fun hc=>?_)
       ·have az:0 < bs.length:=by
         rw[Bool.and_eq_true]at hc;have h2:=hc.2;rw[kK,←Az];cases hz:Ai rows with
         |nil=>rw[hz]at h2;cases h2
         |cons x r=>simp
        have L8:=L7.same s8;obtain⟨x1,y1,e1⟩:=L8.bS;refine⟨_,rfl,d,x1,y1,3,rfl,e1,qc,qc,fun r1 a1 b1 r10 r11=>?_⟩;have M1:=L8.roll AP a1 b1;refine⟨_,_,rfl,rfl,_,rfl,qe,qe,?_⟩;refine DV (lo:=0) (n:=(1 + r1).toNat) (fun j ys H9=>∃ns:List Str,ys=ns.map V.str/\ns.length=j/\j <= 3/\(∀x∈ns,x∈(Ai rows).map (·.1))/\LW d pw pf pu H H9 rows) ⟨[],rfl,rfl,qc,(fun x hx=>nomatch hx),M1⟩ ?_ ?_ ?_
        ·rintro j ys H9 ⟨ns,rfl,e,h3,_⟩;rw[AH];omega
        ·rintro j ys H9 hj ⟨ns,rfl,e,h3,eU,L9⟩;obtain⟨x2,y2,e2⟩:=L9.bS;obtain⟨cs,hu9,bd⟩:=L9.due;have ag:=Cl bd;have av:(cs.map V.ref).length=bs.length:=by rw[AH,ag,kK]
         refine⟨_,rfl,_,rfl,_,rfl,pu,_,rfl,.inl (aH.of hu9),d,x2,y2,_,rfl,e2,by rw[av];omega,by rw[av];omega,fun r2 a2 b2 r20 r21=>?_⟩;have M2:=L9.roll AP a2 b2;have hu10:(upd H9 d (.lst [.int a2,.int b2])) pu=some (.lst (cs.map V.ref)):=by rw[AF AP.ud];exact hu9
         have hcs2:aE (upd H9 d (.lst [.int a2,.int b2])) cs (C0 (Ai rows)):=aE.aS (aN.upd e2) bd;obtain⟨v,hv,eY⟩:=IW (xs:=cs.map V.ref) r20 (by exact r21);obtain⟨bb,p,rfl,_,ak,aj⟩:=Ck hcs2 eY;refine⟨pu,_,r2,_,rfl,rfl,aH.of hu10,hv,bb,_,0,.str p.1,rfl,rfl,aY.of aj,rfl,?_⟩;refine⟨ns++[p.1],by rw[Zu];rfl,by rw[ZH,e];rfl,qe,fun x hx=>?_,M2⟩;rcases mem_append.mp hx with z |z
         ·exact eU x z
         ·rw[ZG]at z;subst z;exact Zr.mpr ⟨p,ZQ ak,rfl⟩
        ·rintro ys H9 ⟨ns,rfl,e,h3,eU,L9⟩ l hl;have L10:=L9.same (AC (aB.refl _) hl (o:=HO.lst (ns.map V.str)));refine⟨l,_,rfl,.inl ⟨aH.of aA,fun t ht=>?_⟩⟩;have L11:=L10.same (AC (aB.refl _) ht (o:=HO.tup (ns.map V.str)));obtain⟨cs,hu11,bd⟩:=L11.due;have ag:=Cl bd;refine⟨_,rfl,pu,rfl,⟨_,aH.of hu11⟩,BL (K:=K) (a:=pu) (xs:=cs.map V.ref) (fun j σ H12=>H12=upd (upd H9 l (.lst (ns.map V.str))) t (.tup (ns.map V.str))/\∃iC gX:Option V,σ=[some (.ref d),some (.int M),some (.ref pw),some (.ref pf),some (.ref pu),some (.int (0 + (i:Int))),some (.int (bh:Int)),some (.int kd),some (.ref t),some (.int (uni ((Ai rows).take j) ns:Nat)),iC,gX]) ⟨rfl,iC,gX,rfl⟩ (fun j σ H12 _ ⟨e,_⟩=>e ▸ aH.of hu11) ?_ ?_⟩
         ·rintro j v σ H12 hj ⟨rfl,iC,gX,rfl⟩;obtain⟨bb,p,rfl,_,ak,aj⟩:=Ck bd hj;refine⟨bb,_,rfl,aY.of aj,rfl,_,_,rfl,_,_,rfl,rfl,?_⟩;refine⟨_,rfl,_,rfl,_,rfl,t,_,rfl,.inr (aY.of aA),rfl,?_,_,rfl,?_⟩
          ·rw[all_map];exact List.all_eq_true.mpr fun _ _=>rfl
          ·have eu:uni ((Ai rows).take (j + 1)) ns=uni ((Ai rows).take j) ns ||| (if gT (.str p.1) (ns.map V.str)then p.2 else 0):=by
            unfold uni;rw[ZD,ak,Option.toList_some,Zu];exact DY _ _
           refine By (fun hc2=>?_) (fun hc2=>?_)
           ·refine⟨_,rfl,_,_,rfl,rfl,rfl,some (.str p.1),some (.int (p.2:Int)),?_⟩;have hc3:gT (.str p.1) (ns.map V.str)=true:=hc2;rw[hc3,Zp rfl]at eu;rw[eu,←DC];rfl
           ·refine⟨_,_,rfl,rfl,rfl,some (.str p.1),some (.int (p.2:Int)),?_⟩;have hc3:gT (.str p.1) (ns.map V.str)=false:=Bool.eq_false_iff.mpr hc2;rw[hc3,Zq Bool.false_ne_true]at eu;rw[eu,←DC];rfl
         ·rintro σ H12 ⟨rfl,iC,gX,rfl⟩;have el:(Ai rows).take (cs.map V.ref).length=Ai rows:=by rw[AH,ag,←Az,ZB]
          have en:C6 (Ai rows) (.jW ns)=uni (Ai rows) ns:=(UK DO.nd eU).symm;have eL:ns.length=(1 + r1).toNat:=e;refine hR _ _ ⟨.ref t,.jW ns,iC,gX,by rw[el,en],L11,⟨t,rfl,aA⟩,⟨?_,qe,eU⟩,?_⟩
          ·intro z;subst z;simp at eL;omega
          ·show Ab (ns.map (look (Ai rows))) < 2 ^ 20;refine Fg fun n hn=>?_;obtain⟨x,hx,rfl⟩:=Zr.mp hn;obtain⟨p,hp,rfl⟩:=Zr.mp (eU x hx);rw[EJ DO.nd hp];exact DO.lt p hp
       ·exact hR _ _ ⟨tv,th,iC,gX,rfl,L7.same s8,hT.same s8,hTO,hlt⟩
     ·rintro σ H8 ⟨tv,th,iC,gX,rfl,L8,hT,hTO,hlt⟩;obtain⟨as,hf,hP⟩:=L8.found;have ax:as.length=rows.length:=hP.length;have hw:bH[i]?=some bH[i]:=Z7 hi10;generalize ar:bH[i]=wd at hw
      have hat:jg (bH.map V.str) (0 + (i:Int))=some (.str wd):=by
       have:(0:Int) + (i:Int)=((i:Nat):Int):=by omega
       rw[this];exact B5 (by rw[ZE,hw];rfl)
      refine⟨_,rfl,.inl ⟨rfl,_,aH.of hf⟩,_,rfl,_,rfl,pw,_,_,.str wd,rfl,rfl,aH.of L8.words,hat,_,rfl,gc,fun p hp=>?_⟩;have sp:=AC (aB.refl _) hp (o:=HO.tup [V.str wd,tv]);have hz1:(as.map V.ref).length < sizeLine:=AZ (by rw[AH];omega);refine⟨pf,_,.ref p,rfl,rfl,sp _ _ hf,hz1,?_⟩;have t1:aN (upd H8 p (.tup [V.str wd,tv])) (upd (upd H8 p (.tup [V.str wd,tv])) pf (.lst (as.map V.ref++[.ref p]))):=aN.upd (sp _ _ hf);obtain⟨bs,hu,ap⟩:=L8.due;have kK:=Cl ap;have hu1:(upd (upd H8 p (.tup [V.str wd,tv])) pf (.lst (as.map V.ref++[.ref p]))) pu=some (.lst (bs.map V.ref)):=by rw[AF (Ne.symm AP.fu)];exact sp _ _ hu
      have hw1:(upd (upd H8 p (.tup [V.str wd,tv])) pf (.lst (as.map V.ref++[.ref p]))) pw=some (.lst (bH.map V.str)):=by rw[AF AP.wf];exact sp _ _ L8.words
      refine⟨_,rfl,.inl ⟨rfl,_,aH.of hu1⟩,_,rfl,_,rfl,pw,_,_,.str wd,rfl,rfl,aH.of hw1,hat,_,rfl,gc,fun q hq=>?_⟩;have sq:=AC (aB.refl _) hq (o:=HO.tup [V.str wd,V.int ((C6 (Ai rows) th:Nat):Int)]);have jE:(bs.map V.ref).length < sizeLine:=AZ (by rw[AH];omega);refine⟨pu,_,.ref q,rfl,rfl,sq _ _ hu1,jE,?_⟩;have t2:=aN.upd (sq _ _ hu1) (ys:=bs.map V.ref++[.ref q]);have tall:=((aN.of sp).trans t1).trans ((aN.of sq).trans t2);obtain⟨x,y,ed⟩:=L8.bS;have RR:Np (Ai rows) (wd,th):=⟨DO,by rw[Az];omega,Qj wd (ZQ hw),?_,hTO,hlt⟩;refine⟨_,_,_,_,_,_,_,rows++[(wd,th)],rfl,by rw[ZH,bf];rfl,Ld RO RR,?_,?_⟩
      ·rw[Zu,cu,ZD,hw,Option.toList_some];rfl
      ·refine⟨fun c o ec hc=>?_,⟨x,y,?_⟩,?_,⟨as++[p],?_,?_⟩,⟨bs++[q],?_,?_⟩⟩
       ·have n1:c≠pu:=AG ec AP.nu;have n2:c≠pf:=AG ec AP.nf;rw[AF n1];refine sq _ _ ?_;rw[AF n2];exact sp _ _ (L8.old c o ec hc)
       ·rw[AF (Ne.symm AP.ud)];refine sq _ _ ?_;rw[AF (Ne.symm AP.fd)];exact sp _ _ ed
       ·rw[AF AP.wu];exact sq _ _ hw1
       ·rw[AF AP.fu];refine sq _ _ ?_;rw[aA,Zu];rfl
       ·refine Paired.snoc (Ba tall hP) ?_;exact⟨tv,t2 _ _ (sq _ _ (t1 _ _ aA)),hT.aS tall⟩
       ·rw[aA,Zu];rfl
       ·rw[Eb];unfold C0;rw[Zu];exact Paired.snoc (aE.aS tall ap) (t2 _ _ aA)
      ·rw[IZ,cu];intro z;have key:=Ou ⟨i,hi10⟩;rw[hw]at key;have:=Option.some.inj key;exact of_decide_eq_false this z
 ·rintro σ H2 ⟨v5,v6,v7,v8,v9,v10,v11,rows,rfl,bf,RO,cu,L⟩;obtain⟨as,hf,hP⟩:=L.found;obtain⟨bs,hu,ap⟩:=L.due;refine⟨_,rfl,_,rfl,gc,fun q hq=>?_⟩;have sq:=AC (aB.refl _) hq (o:=HO.tup [V.ref pf,V.ref pu]);refine k q pf pu as bs rows _ ⟨fun c o e hc=>sq _ _ (L.old c o e hc),?_⟩ aA nf0 nu0 (sq _ _ hf) (Ba (aN.of sq) hP) (sq _ _ hu) (aE.aS (aN.of sq) ap) qe qe RO (fun x hx=>mem_of_mem_take (cu ▸ hx));obtain⟨x,y,e⟩:=L.bS;exact⟨x,y,sq _ _ e⟩
end
end Mk
end
section
namespace L2
open PySem
theorem Jm {X:Cx} (K:FG) (hK:X.K=K):Bb X (.builtin "isinstance") (fun xs H Q=>∃v C t b,xs=[v,.ref C]/\eQ K H v t/\W.kitOne K t (.ref C)=some b/\Q (.bl b) H):=by
 subst hK;intro aa s σ H xs us Q I r h;obtain⟨v,C,t,b,rfl,ty,hk,q⟩:=h;obtain⟨u,uT,rfl,ru,jj⟩:=El r;cases jj;exact JN I ru ty hk fun tk=>⟨.bl b,H,I.tok tk,rfl,q⟩
end L2
namespace Mk
open PySem L2 MK
structure KIsi (K:FG) (C:Addr):Prop where
 cl:ir K C
 ha:W.findIn K (.ref C) "__class__" = some (some (.builtin "object.__class__"))
 hn:W.specialIn K (.builtin "object.__class__") "__get__" = some (some (.builtin "getset_descriptor.__get__"))
 ht:W.takesIn K (.builtin "object.__class__")=some true
 hm:W.mroIn K C (.type "object")=some true
 nl:W.kitOne K (.type "list") (.ref C)=some false
theorem KIsi.ty {a dx:Addr}{fs:List (Str×V)} (k:KIsi K C) (e:H a=some (.ins C dx fs)):eQ K H (.ref a) (.ref C):=.ins e k.cl k.ha k.hn k.ht k.hm
theorem Fq (K:FG) (C:Addr):W.kitOne K (.ref C) (.ref C)=some true:=by
 unfold W.kitOne;rw[Zp (by simp)]
section
inductive spNumber (C:Addr) (vs:List V) (H:Hp) (Q:VK) (_E:XK):Prop where
 |mk (p:Addr) (due:Aa) (r:Str) (x:Str) (cE:vs=[.ref p,.str x]) (cD:aF C H p due r) (cH:x∈due.map (·.1)) (dH:Q (.int (look due x:Nat)) H)
theorem Ql:AL ["self", "name"] ["self", "name"] (defScope D5):=cB
theorem Ow (F:aW K "number" "Kind.number" D5 f fd) (T:Dj K C) (GO:Fn P w K mg base "is_one_of" 1 ["thing", "names"] (CO K)):AY P w K mg base aO 2 f fd ["self", "name"] (spNumber C):=by
 obtain⟨fO,dO,GO,mO,kO,bO⟩:=GO.ex;refine F.m Ql fun vs H Q E h=>?_;obtain⟨p,due,r,x,rfl,KA,hx,k⟩:=h;refine⟨rfl,fun ac A outer s hr=>?_⟩;have hu:=B6 hr;obtain⟨dx,d1,o1,d2,o2,hp,h1,h2⟩:=KA.ex
 refine⟨_,AE (An (A9 (A5 (AM GO hr rfl mO kO bO .nil AN (AA (pv 1) (AA (Ak (pv 0) rfl) AB))))) (AD Ah) AT)
  (AD (AR (A2 hu (Ak (pv 0) rfl) (pv 1) (fun _ _=>rfl)))),?_⟩
 have DG:J4 H d1 (.str x) (some (V.int (look due x:Int))):=.inl ⟨_,Sum.inr x,.inr ⟨o1,h1⟩,rfl,(CV hx).symm⟩;refine⟨_,rfl,_,rfl,p,C,dx,_,_,rfl,hp,T.cl,T.nN,EF _ _ _,.inl ⟨x,d1,A8 due,rfl,.inr ⟨o1,h1⟩,_,rfl,?_⟩⟩;rw[CV hx];refine Aq ?_;exact⟨_,rfl,p,C,dx,_,_,rfl,hp,T.cl,T.nN,EF _ _ _,_,rfl,d1,_,rfl,DG,k⟩
inductive spRest (C:Addr) (vs:List V) (H:Hp) (Q:VK) (_E:XK):Prop where
 |mk (p:Addr) (due:Aa) (r:Str) (cE:vs=[.ref p]) (cD:aF C H p due r) (cH:Q (.str r) H)
theorem UQ:AL ["self"] ["self"] (defScope Gf):=cB
theorem SZ (F:aW K "rest" "Kind.rest" Gf f fd) (T:Dj K C):AY P w K mg base aO 1 f fd ["self"] (spRest C):=by
 refine F.m UQ fun vs H Q E h=>?_;obtain⟨p,due,r,rfl,KA,k⟩:=h;refine⟨rfl,fun ac A outer s hr=>?_⟩;obtain⟨dx,d1,o1,d2,o2,hp,h1,h2⟩:=KA.ex;refine⟨_,AD (AR (Ak (pv 0) rfl)),?_⟩;exact⟨_,rfl,p,C,dx,_,_,rfl,hp,T.cl,T.nR,Gq _ _ _,k⟩
theorem Qm {p q:Str×Nat}:PyData.eqv (.tuple [.str p.1,.int (p.2:Int)]) (.tuple [.str q.1,.int (q.2:Int)])=decide (p=q):=by
 rw[Bool.eq_iff_iff];simp only[PyData.eqv,PyData.eqvAll,Bool.and_true,Bool.and_eq_true,decide_eq_true_eq,beq_iff_eq];constructor
 ·rintro⟨a,b⟩;exact Prod.ext a (by exact_mod_cast b)
 ·rintro rfl;exact⟨rfl,rfl⟩
theorem Le:∀(a b:Aa),PyData.eqv (.list (FL a)) (.list (FL b))=decide (a=b)
 | [],[]=>by simp[FL,PyData.eqv,PyData.eqvAll]
 | [],q :: r=>by simp[FL,PyData.eqv,PyData.eqvAll]
 |p :: r,[]=>by simp[FL,PyData.eqv,PyData.eqvAll]
 |p :: r,q :: s=>by
  have ih:=Le r s
  have h:PyData.eqv (.list (FL (p :: r))) (.list (FL (q :: s)))=(PyData.eqv (.tuple [.str p.1,.int (p.2:Int)]) (.tuple [.str q.1,.int (q.2:Int)]) && PyData.eqv (.list (FL r)) (.list (FL s))):=by
   simp only[FL,map_cons,PyData.eqv,PyData.eqvAll]
  rw[h,Qm,ih,Bool.eq_iff_iff];simp
def iu (due:Aa):Prop:=∀p∈due,p.1.cps.all (· < 128)=true
inductive spEqK (C:Addr) (vs:List V) (H:Hp) (Q:VK) (_E:XK):Prop where
 |mk (a b:Addr) (due:Aa) (r:Str) (cE:vs=[.ref a,.ref b]) (cD:aF C H a due r) (cH:iu due) (dH:((∃xs,H b=some (.lst xs)/\∀H',aB H H'->Q (.bl false) H')\/∃(fh:Aa) (r':Str),aF C H b fh r'/\iu fh/\∀H',aB H H'->Q (.bl (decide (due=fh/\r=r'))) H'))
theorem WJ:AL ["self", "other"] ["self", "other"] (defScope KJ):=cB
theorem UR (F:aW K "__eq__" "Kind.__eq__" KJ f fd) (B:Bl mg) (T:Dj K C) (KI:KIsi K C) (mC:mg "Kind" = some (.ref C)) (GR:Mt P w K mg base C "rows" 1 ["self"] (spRows C)):AY P w K mg base aO 2 f fd ["self", "other"] (spEqK C):=by
 obtain⟨fR,dR,GR,mR,bR⟩:=GR.ex;refine F.m WJ fun vs H Q E h=>?_;obtain⟨a,b,due,r,rfl,KA,h1,h⟩:=h;refine⟨rfl,fun ac A outer s hr=>?_⟩;have hu64:=hr.units
 refine⟨_,AD (AR (Cb (AV (Jm K rfl) rfl B.eO EB (AA (pv 1) (AA (CP (v:=.ref C) rfl mC rfl) AB)))
  (Cb (CQ (Ps K rfl hu64) (Aj (pv 0) T.cl mR GR hr bR .nil AN) (Aj (pv 1) T.cl mR GR hr bR .nil AN) (AW _))
   (DB (CQ DI (Ak (pv 0) rfl) (Ak (pv 1) rfl) (AW _)))))),?_⟩
 obtain⟨dx,d1,d2,hp⟩:=KA.ins;rcases h with⟨xs,hb,k⟩ |⟨fh,r',KB,h2,k⟩
 ·refine⟨_,rfl,_,C,_,false,rfl,.lst hb,KI.nl,_,rfl,?_⟩;exact Aq (k _ (aB.refl _))
 ·obtain⟨dy,e1,e2,hq⟩:=KB.ins;refine⟨_,rfl,_,C,_,true,rfl,KI.ty hq,Fq K C,_,rfl,?_⟩;refine BX ?_;refine⟨_,rfl,a,dx,_,rfl,hp,(Br _ _ _),a,due,r,rfl,KA,fun l as H1 s1 hl ht=>?_⟩;refine⟨_,rfl,b,dy,_,rfl,s1 _ _ hq,(Br _ _ _),b,fh,r',rfl,KB.same s1,fun l2 as2 H2 s2 fg ht2=>?_⟩;refine⟨_,_,CW (s2 _ _ hl) (Fo (aE.same s2 ht)),CW fg (Fo ht2),EH h1,EH h2,_,rfl,?_⟩;rw[Le];have eK:=s1.trans s2;refine By (fun e=>?_) (fun e=>?_)
  ·have e':due=fh:=ZV e;refine⟨_,rfl,a,C,dx,_,_,rfl,eK _ _ hp,T.cl,T.nR,Gq _ _ _,_,rfl,b,C,dy,_,_,rfl,eK _ _ hq,T.cl,T.nR,Gq _ _ _,rfl,?_⟩;have:=k _ eK;have ev:decide (V.str r=V.str r')=decide (due=fh/\r=r'):=decide_eq_decide.mpr ⟨fun z=>⟨e',V.str.inj z⟩,fun z=>by rw[z.2]⟩;rw[ev];exact this
  ·have:=k _ eK;rw[ZO (fun z=>e (ZL z.1))]at this;exact this
end
noncomputable def NC (due:Aa) (e m:Addr):LK:=[(Sum.inr "known", V.int (Ab (due.map (·.2)):Nat)),(Sum.inr "firsts", V.ref e),(Sum.inr "marks", V.ref m),(Sum.inr "bits", V.int (Ab (AI due):Nat))]
theorem US (a b c d:V):GS [] [((Sum.inr "known" : Key),a),(Sum.inr "firsts", b),(Sum.inr "marks", c),(Sum.inr "bits", d)]=[((Sum.inr "known" : Key),a),(Sum.inr "firsts", b),(Sum.inr "marks", c),(Sum.inr "bits", d)]:=by kernel_rfl
theorem Jn (due:Aa) (e m:Addr):As (NC due e m) (Sum.inr "known")=some (V.int (Ab (due.map (·.2)):Nat)):=by kernel_rfl
theorem DS (due:Aa) (e m:Addr):As (NC due e m) (Sum.inr "marks")=some (V.ref m):=by kernel_rfl
theorem Lf (due:Aa) (e m:Addr):As (NC due e m) (Sum.inr "bits")=some (V.int (Ab (AI due):Nat)):=by kernel_rfl
theorem Jo (due:Aa):(AI due).Pairwise (· < ·):=by
 have h1:=Fk due;have h2:(A1 due).Nodup:=(Cw due).nodup_iff.mpr (Jj due);have h3:(A1 due).Pairwise (· < ·):=List.Pairwise.imp₂ (fun a b h n=>Nat.lt_of_le_of_ne h n) h1 h2;exact h3.filter _
theorem Jp (due:Aa):((AI due).map fun n:Nat=>(n:Int)).sum=((Ab (AI due):Nat):Int):=by
 have hs:(AI due).sum=Ab (AI due):=Of (fun n hn=>(mem_filter.mp hn).2) (Jo due);rw[←hs];clear hs;generalize AI due=l;induction l with
 |nil=>rfl
 |cons a r ih=>rw[map_cons,sum_cons,sum_cons,ih];push_cast;rfl
theorem Qn (due:Aa):Ab ((AU due).map (·.1))=Ab (due.map (·.2)):=by
 refine Nat.eq_of_testBit_eq fun k=>?_;rw[B0,B0,Bool.eq_iff_iff,any_eq_true,any_eq_true];constructor
 ·rintro⟨n,hn,hb⟩;obtain⟨q,hq,rfl⟩:=Zr.mp hn;exact⟨q.1,Zr.mpr ⟨_,Gp hq,rfl⟩,hb⟩
 ·rintro⟨n,hn,hb⟩;obtain⟨p,hp,rfl⟩:=Zr.mp hn;exact⟨p.2,On hp,hb⟩
section
inductive spTable (vs:List V) (H:Hp) (Q:VK) (_E:XK):Prop where
 |mk (u:Addr) (bs:List Addr) (due:Aa) (cE:vs=[.ref u]) (cD:H u=some (.lst (bs.map V.ref))) (cH:aE H bs (C0 due)) (dH:due.length <= 10) (eT:(∀p∈due,p.2 < 2 ^ 20)) (gm:∀t e m ms H',aB H H'->H' t=some (.dK (NC due e m))->H' e=some (.dK (CG (AU due)))->H' m=some (.lst (ms.map V.ref))->aE H' ms (CA due)->Q (.ref t) H')
noncomputable abbrev UT:List Str:=["_law_due", "_law_known", "_law_firsts", "_law_name", "_law_number", "_law_marks"]
theorem scTable:AL UT ["_law_due"] (defScope D8):=cB
theorem Qo (F:aW K "_law_table_of" "_law_table_of" D8 f fd) (B:Bl mg) (GB:Fn P w K mg base "_law_bits_of" 1 ["_law_number"] spBitsOf):AY P w K mg base aO 2 f fd ["_law_due"] spTable:=by
 obtain⟨fB,dB,GB,mB,kB,bB⟩:=GB.ex;refine F.m scTable fun vs H Q E h=>?_;obtain⟨u,bs,due,rfl,hu0,ap,iN,hlt,k⟩:=h;refine⟨rfl,fun ac A outer s hr=>?_⟩;have hu:=B6 hr
 refine⟨_,AE (Cc (hs:=by kernel_rfl) (hw:=by kernel_rfl) (BB (AA AJ (AA Dv AB))) (BG rfl (AQ (AO (i:=1) scTable.nd rfl (Or.inl rfl)) (AQ (AO (i:=2) scTable.nd rfl (Or.inr rfl)) Ax))))
  (AE (BY PassesOwn.never rfl (Ao (pv 0)) (BG rfl (AQ (AO (i:=3) scTable.nd rfl (Or.inl rfl)) (AQ (AO (i:=4) scTable.nd rfl (Or.inl rfl)) Ax)))
   (AE (Ag (i:=1) scTable.nd rfl (Or.inl rfl) (AX HQ (pv 1) (pv 4)))
   (AD (An (CZ (GQ hu (pv 4) (pv 2))) (AD (G9 hu (pv 2) (pv 4) (pv 3) rfl)) AT))))
  (AE (Pi (i:=5) scTable.nd rfl qd ["_law_firsts"] [some 2] qd qb qd rfl (Ao (AV (Fa rfl) rfl B.sorted Gm (AA (pv 2) AB)))
   (fun _ _ _ _ _ _=>C4 (AS DI (AV (Au K rfl) rfl B.len PySem.boot_len (AA (AM GB hr rfl mB kB bB .nil AN (AA (pv 0) AB)) AB)) AJ (AW _)))
   (fun _ _ _ _ _ _=>BB (AA (A2 hu (pv 1) (pv 0) (fun _ _=>rfl)) (AA (pv 0) AB))))
  (AD (AR (Rq (FX Ae (pv 1) (FX Ae (pv 2) (FX Ae (pv 5) (FX Ae (AV (Pp rfl) rfl B.sum QP (AA (DQ [] [] qd qb qd qd rfl (Ao (pv 5)) (fun _ _ _ _ _ _=>BF) (fun _ _ _ _ _ _=>pv 1)) AB)) Rp)))) rfl rfl (by simp) qc))))),?_⟩
 refine fun e he=>⟨gc,fun q hq=>⟨q,_,rfl,aY.of aA,rfl,_,_,rfl,_,_,rfl,rfl,?_⟩⟩;have s1:=AC (AC (aB.refl _) he (o:=HO.dK [])) hq (o:=HO.tup [V.int 0,V.ref e]);have kK:bs.length=due.length:=by rw[ap.length];unfold C0;rw[AH]
 refine⟨_,rfl,u,rfl,⟨_,aH.of (s1 _ _ hu0)⟩,BL (K:=K) (a:=u) (xs:=bs.map V.ref) (fun i σ H2=>∃v3 v4:Option V,σ=[some (.ref u),some (.int (Ab ((due.take i).map (·.2)):Nat)),some (.ref e),v3,v4,none]/\aB H H2/\H2 e=some (.dK (CG (AU (due.take i)))))
  ⟨none,none,rfl,s1,AC (aB.refl _) hq _ _ aA⟩ (fun i σ H2 _ ⟨_,_,_,s2,_⟩=>aH.of (s2 _ _ hu0)) ?_ ?_⟩
 ·rintro i v σ H2 hi ⟨v3,v4,rfl,s2,g7⟩;obtain⟨bb,p,rfl,_,ak,aj⟩:=Ck (aE.same s2 ap) hi;have et:due.take (i + 1)=due.take i++[p]:=by rw[ZD,ak];rfl
  have ek:(((Ab ((due.take (i + 1)).map (·.2)):Nat)):Int)=Builtin.bitOr ((Ab ((due.take i).map (·.2)):Nat):Int) (p.2:Int):=by
   rw[et,Zu,DC];exact congrArg _ (DY _ _)
  have hle:(CG (AU (due.take i))).length <= 100:=by
   unfold CG;rw[AH];have:=Cu (due.take i);rw[ZA]at this;omega
  refine⟨bb,_,rfl,aY.of aj,rfl,_,_,rfl,_,_,rfl,rfl,?_⟩;refine⟨_,rfl,_,rfl,_,_,rfl,rfl,?_⟩;by_cases z:p.2∈(AU (due.take i)).map (·.1)
  ·refine⟨_,rfl,_,rfl,e,_,rfl,.inl ⟨_,Sum.inl (p.2:Int),.inl g7,rfl,(Fj z).symm⟩,_,rfl,?_⟩;refine Aq ⟨_,_,by rw[ek];rfl,s2,?_⟩;rw[et,C7,Zp (by simpa using z)];exact g7
  ·refine⟨_,rfl,_,rfl,e,_,rfl,.inl ⟨_,Sum.inl (p.2:Int),.inl g7,rfl,(Go z).symm⟩,_,rfl,?_⟩;refine BX ⟨_,rfl,_,rfl,_,rfl,e,_,rfl,DPut.k (k:=Sum.inl (p.2:Int)) g7 (AZ qe),?_⟩;refine⟨_,_,by rw[ek];rfl,IS s2 he,?_⟩;rw[aA,et,C7,Zq (by simpa using z),LZ z]
 ·rintro σ H2 ⟨v3,v4,rfl,s2,g7⟩;have e1:due.take (bs.map V.ref).length=due:=by rw[AH,kK,ZB]
  rw[e1]at g7 ⊢;have hle:(CG (AU due)).length <= due.length:=by unfold CG;rw[AH];exact Cu due
  refine⟨_,rfl,e,_,rfl,.inl g7,qe,fun kv gx=>?_,fun l ns hl de df=>?_⟩
  ·unfold CG at gx;obtain⟨q,_,rfl⟩:=Zr.mp gx;exact⟨_,rfl⟩
  ·have en:=La de df;subst en;have s3:=AC (aB.refl _) hl (o:=HO.lst (((A1 due).map fun n:Nat=>(n:Int)).map V.int));have exs:((A1 due).map fun n:Nat=>(n:Int)).map V.int=Af (A1 due):=(Di _).symm
   refine⟨l,rfl,⟨_,aH.of aA⟩,Aw (K:=K) (a:=l) (xs:=Af (A1 due))
    (fun i ys H3=>∃as,ys=as.map V.ref/\aB H2 H3/\H3 l=some (.lst (Af (A1 due)))/\aE H3 as ((((A1 due).take i).filter A6).map fun n=>(V.str (BP (AU due) n),V.int (n:Int)))) ⟨[],rfl,s3,by rw[aA,exs],.nil⟩
    (fun i ys H3 _ ⟨_,_,_,e,_⟩=>aH.of e) (fun i ys H3 ⟨as,e,_,_,t⟩=>?_) ?_ ?_⟩
   ·have:=t.length;rw[e,AH,this,AH];have h3:(((A1 due).take i).filter A6).length <= ((A1 due).take i).length:=ZS _ _;rw[ZA]at h3;have:=Ed due;omega
   ·rintro i v ys H3 hi ⟨as,rfl,s4,jG,ht⟩;obtain⟨n,hn,rfl⟩:=KN hi;have bv:n∈(AU due).map (·.1):=mem_keysS.mp (ZQ hn);have hn42:n < 2 ^ 42:=Nat.lt_trans (Nt hlt n bv) qc;have et:((A1 due).take (i + 1)).filter A6=((A1 due).take i).filter A6++(if A6 n then [n]else []):=PySem.take_succ_filter A6 _ i n hn;refine⟨_,rfl,n,rfl,fun l2 zs H4 s5 hl4 hz=>⟨l2,_,rfl,.inl (aH.of hl4),rfl,_,rfl,?_⟩⟩
    have eb:decide (V.int ((zs.length:Nat):Int)=V.int 1)=A6 n:=by
     rw[←JG hn42,hz];refine decide_eq_decide.mpr ⟨fun h=>?_,fun h=>by rw[h];rfl⟩;have:=V.int.inj h;omega
    rw[eb];have hl5:=s5 _ _ jG;refine By (fun hm=>?_) (fun hm=>?_)
    ·refine⟨_,rfl,_,rfl,e,_,rfl,.inl ⟨_,Sum.inl (n:Int),.inl (s5 _ _ (s4 _ _ g7)),rfl,(Fj bv).symm⟩,_,rfl,gc,fun b hb=>?_⟩;refine⟨as++[b],by rw[Zu];rfl,AC (s4.trans s5) hb,by rw[AF (AG hl5 hb)];exact hl5,?_⟩;rw[et,hm,Zp rfl,Zu];exact Gr (AC s5 hb) ht aA
    ·refine⟨as,rfl,s4.trans s5,hl5,?_⟩;rw[et,Zq hm,Zt];exact aE.same s5 ht
   ·rintro ys H3 ⟨as,rfl,s4,_,ht⟩ m hm
    have el:(A1 due).take (Af (A1 due)).length=A1 due:=by
     have:(Af (A1 due)).length=(A1 due).length:=by unfold Af;rw[AH]
     rw[this];exact ZB
    rw[el]at ht;have ht':aE H3 as (CA due):=ht;have s5:=AC (aB.refl _) hm (o:=HO.lst (as.map V.ref));have ax:as.length=(AI due).length:=by rw[ht'.length];exact Jk due
    refine fun t ht0=>⟨_,rfl,_,rfl,_,rfl,?_⟩;have s6:=AC (aB.refl _) ht0 (o:=HO.dK []);have htm:=aE.same (s5.trans s6) ht';have hm6:=s6 _ _ (aA (H:=H3) (a:=m) (o:=HO.lst (as.map V.ref)));refine⟨_,rfl,m,rfl,⟨_,aH.of hm6⟩,Aw (K:=K) (a:=m) (xs:=as.map V.ref) (fun j ys H7=>ys=Af ((AI due).take j)/\H7=upd (upd H3 m (.lst (as.map V.ref))) t (.dK [])) ⟨by rfl,rfl⟩ (fun j ys H7 _ ⟨_,e⟩=>e ▸ aH.of hm6) (fun j ys H7 ⟨e,_⟩=>?_) ?_ ?_⟩
    ·rw[e];unfold Af;rw[AH,ZA];have h3:(AI due).length <= (A1 due).length:=ZS _ _;have:=Ed due;omega
    ·rintro j v ys H7 hj ⟨rfl,rfl⟩;rw[ZE]at hj
     obtain⟨b,hb,rfl⟩:∃b,as[j]?=some b/\v=V.ref b:=by
      cases q:as[j]? with
      |none=>rw[q]at hj;cases hj
      |some x=>rw[q]at hj;exact⟨x,rfl,(Option.some.inj hj).symm⟩
     obtain⟨pq,iH,aj⟩:=Lb htm hb;unfold CA at iH;rw[ZE]at iH
     obtain⟨n,hn,rfl⟩:∃n,(AI due)[j]?=some n/\pq=(V.str (BP (AU due) n),V.int (n:Int)):=by
      cases q:(AI due)[j]? with
      |none=>rw[q]at iH;cases iH
      |some x=>rw[q]at iH;exact⟨x,rfl,(Option.some.inj iH).symm⟩
     refine⟨b,_,rfl,aY.of aj,rfl,_,_,rfl,_,_,rfl,rfl,?_⟩;refine⟨_,rfl,?_,rfl⟩;rw[ZD,hn,Option.toList_some];unfold Af;rw[Zu];rfl
    ·rintro ys H7 ⟨rfl,rfl⟩ l2 fg;have el2:(AI due).take (as.map V.ref).length=AI due:=by rw[AH,ax,ZB]
     rw[el2];have s7:=AC (aB.refl _) fg (o:=HO.lst (Af (AI due)));refine⟨l2,(AI due).map fun n:Nat=>(n:Int),rfl,aH.of (by rw[aA,Di]),fun n hn=>?_,?_,?_⟩
     ·obtain⟨x,_,rfl⟩:=Zr.mp hn;exact Z1 _
     ·rw[Jp];have:=Fg (Qc hlt);omega
     ·rw[Jp];refine⟨s7 _ _ aA,[((Sum.inr "known" : Key),V.int (Ab (due.map (·.2)):Nat)),(Sum.inr "firsts", .ref e),(Sum.inr "marks", .ref m),(Sum.inr "bits", V.int (Ab (AI due):Nat))],rfl,(by show 4 <= 15;decide),?_⟩;rw[US];have nt:∀b o,H3 b=some o->b≠t:=fun b o ebo=>AG (s5 _ _ ebo) ht0
      have sAll:aB (upd H3 m (.lst (as.map V.ref))) (upd (upd (upd (upd H3 m (.lst (as.map V.ref))) t (.dK [])) l2 (.lst (Af (AI due)))) t (.dK (NC due e m))):=fun b o ebo=>by
       rw[AF (AG ebo ht0)];exact s7 _ _ (s6 _ _ ebo)
      refine k t e m as _ ?_ aA ?_ (sAll _ _ aA) (aE.same (s5.trans sAll) ht')
      ·intro b o ebo;exact sAll _ _ (s5 _ _ (s4 _ _ (s2 _ _ ebo)))
      ·exact sAll _ _ (s5 _ _ (s4 _ _ g7))
end
theorem Sa {b:Addr}{x y:Str} (h:H b=some (.tup [.str x,.str y])):Ce K H (.tuple [.str x,.str y]) (.ref b):=by
 rw[Ce];refine⟨b,_,rfl,aY.of h,?_⟩;rw[BW];refine⟨_,_,rfl,by rw[Ce],?_⟩;rw[BW];refine⟨_,_,rfl,by rw[Ce],?_⟩;rw[BW]
theorem Ox {fs:List (Nat×Str)}{n:Nat} (h:n∈fs.map (·.1)):(n,BP fs n)∈fs:=by
 unfold BP;obtain⟨q,hq⟩:=Option.isSome_iff_exists.mp (IT h);rw[hq];have e:q.1=n:=by simpa using List.find?_some hq
 have hm:=List.mem_of_find?_eq_some hq;subst e;exact hm
theorem WK:¬ (("own_kind" : Str) = "bits"):=by decide +kernel
noncomputable def Ie (kp:Addr) (n:Nat):List (Str×V):=At "bits" (.int (n:Int)) (At "own_kind" (.ref kp) [])
theorem Fs (kp:Addr) (n:Nat):(Ie kp n).lookup ("own_kind" : Str)=some (.ref kp):=by
 unfold Ie;rw[AK,Zq WK,AK,Zp rfl]
theorem Ft (kp:Addr) (n:Nat):(Ie kp n).lookup ("bits" : Str)=some (.int (n:Int)):=by
 unfold Ie;rw[AK,Zp rfl]
theorem Ig (kp:Addr) (n:Nat) {m:Str} (h1:¬ m = "bits") (h2:¬ m = "own_kind"):(Ie kp n).lookup m=none:=by
 unfold Ie;rw[AK,Zq h1,AK,Zq h2];rfl
def cJ (VC:Addr) (H:Hp) (p kp:Addr) (n:Nat):Prop:=∃dx,H p=some (.ins VC dx (Ie kp n))
theorem cJ.same {p kp:Addr}{n:Nat} (s:aB H H') (h:cJ VC H p kp n):cJ VC H' p kp n:=by
 obtain⟨dx,h⟩:=h;exact⟨dx,s _ _ h⟩
structure G7 (K:FG) (VC:Addr):Prop where
 cl:ir K VC
 nK:bQ K VC "own_kind"
 nB:bQ K VC "bits"
noncomputable def kn (due:Aa):Nat:=Ab (due.map (·.2))
section
inductive spIsNumber (vs:List V) (H:Hp) (Q:VK) (_E:XK):Prop where
 |mk (n:Nat) (cE:vs=[.int (n:Int)]) (cD:n < 2 ^ 40) (cH:Q (.bl true) H)
theorem ND:AL ["thing"] ["thing"] (defScope Gg):=cB
theorem Lg {tL:Tok} (F:aW K "is_number" "is_number" Gg f fd) (hL:mg "LIMIT" = some (.int 1099511627776 tL)) (GW:Fn P w K mg base "is_whole" 1 ["thing"] spIsWhole):AY P w K mg base aO 2 f fd ["thing"] spIsNumber:=by
 obtain⟨fW,dW,GW,mW,kW,bW⟩:=GW.ex;refine F.m ND fun vs H Q E h=>?_;obtain⟨n,rfl,hn,k⟩:=h;refine⟨rfl,fun ac A outer s hr=>?_⟩;refine⟨_,AD (AR (Cb (AM GW hr rfl mW kW bW .nil AN (AA (pv 0) AB)) (DB (Ko Ek HR AJ (pv 0) (CP (v:=.int 1099511627776) rfl hL ⟨tL,rfl⟩))))),?_⟩;refine⟨_,rfl,(n:Int),rfl,_,rfl,?_⟩;refine BX ?_;refine⟨_,rfl,_,_,rfl,rfl,_,rfl,?_⟩;rw[ZL (show(0:Int) <= (n:Int) by omega)];refine BX ?_;refine⟨_,_,rfl,rfl,?_⟩;show Q (V.bl (decide ((n:Int) < 1099511627776))) H
 rw[ZL (show(n:Int) < 1099511627776 by have:(2:Nat) ^ 40=1099511627776:=by decide
                                       omega)]
 exact k
inductive spRestOf (C:Addr) (vs:List V) (H:Hp) (Q:VK) (_E:XK):Prop where
 |mk (kp:Addr) (due:Aa) (r:Str) (n:Nat) (cE:vs=[.ref kp,.int (n:Int)]) (cD:aF C H kp due r) (cH:∀H',aB H H'->Q (.int ((n - (n &&& kn due):Nat):Int)) H')
theorem Qp:AL ["kind", "number"] ["kind", "number"] (defScope KK):=cB
theorem Oy (F:aW K "rest_of" "rest_of" KK f fd) (T:Dj K C) (GK:Mt P w K mg base C "known" 2 ["self"] (spKnown C)):AY P w K mg base aO 3 f fd ["kind", "number"] (spRestOf C):=by
 obtain⟨fK,dK,GK,mK,bK⟩:=GK.ex;refine F.m Qp fun vs H Q E h=>?_;obtain⟨kp,due,r,n,rfl,KA,k⟩:=h;refine⟨rfl,fun ac A outer s hr=>?_⟩;obtain⟨dx,d1,d2,hp⟩:=KA.ins;refine⟨_,AD (AR (AX Bw (pv 1) (PX Pa (Aj (pv 0) T.cl mK GK hr bK .nil AN)))),?_⟩;refine⟨_,rfl,_,rfl,kp,dx,_,rfl,hp,(Br _ _ _),kp,due,r,rfl,KA,fun H1 s1=>?_⟩;refine⟨_,rfl,_,_,rfl,rfl,?_⟩;show Q (V.int (Builtin.bitAnd (n:Int) (Builtin.bitNot ((Ab ((AU due).map (·.1)):Nat):Int)))) H1;rw[IB,Qn];exact k H1 s1
inductive spVInit (C VC:Addr) (vs:List V) (H:Hp) (Q:VK) (_E:XK):Prop where
 |mk (p dx kp:Addr) (due:Aa) (r:Str) (n:Nat) (cE:vs=[.ref p,.ref kp,.int (n:Int)]) (cD:H p=some (.ins VC dx [])) (cH:aF C H kp due r) (dH:n < 2 ^ 40) (eT:(r = "keep" \/ n - (n &&& kn due)=0)) (gm:∀H',(∀b o,H b=some o->b≠p->H' b=some o)->cJ VC H' p kp n->Q .aU H')
theorem Sb:AL ["self", "kind", "number"] ["self", "kind", "number"] (defScope E9):=cB
theorem Lh (F:aW K "__init__" "Value.__init__" E9 f fd) (T:Dj K C) (VT:G7 K VC)
  (GN:Fn P w K mg base "is_number" 2 ["thing"] spIsNumber) (GR:Fn P w K mg base "rest_of" 3 ["kind", "number"] (spRestOf C)) (GRe:Mt P w K mg base C "rest" 1 ["self"] (spRest C)):AY P w K mg base aO 4 f fd ["self", "kind", "number"] (spVInit C VC):=by
 obtain⟨fN,dN,GN,mN,kN,bN⟩:=GN.ex;obtain⟨fR,dR,GR,mR,kR,bR⟩:=GR.ex;obtain⟨fE,dE,GE,mE,bE⟩:=GRe.ex;refine F.m Sb fun vs H Q E h=>?_;obtain⟨p,dx,kp,due,r,n,rfl,hp,KA,hn,hrest,k⟩:=h;refine⟨rfl,fun ac A outer s hr=>?_⟩;have cN:aG 1 _:=hr.mono qc;have ff:aG 2 _:=hr.mono qc;obtain⟨jK,d1,d2,ah⟩:=KA.ins
 refine⟨_,AE (An (A9 (A5 (AM GN ff rfl mN kN bN .nil AN (AA (pv 2) AB)))) (AD Ah) AT)
  (Ee (An (PW.pt (Ca (AS CI (Aj (pv 1) T.cl mE GE cN bE .nil AN) Ae (AW _)) (Bv (AS CI (AM GR hr rfl mR kR bR .nil AN (AA (pv 1) (AA (pv 2) AB))) AJ (AW _))))) (AD Ah) AT)
  (AE (CL (pv 0) (pv 1) rfl) (AD (CL (pv 0) (pv 2) rfl)))),?_⟩
 refine⟨_,rfl,n,rfl,hn,_,rfl,?_⟩;refine Aq ?_;refine⟨fun σ H1=>σ=[some (.ref p),some (.ref kp),some (.int (n:Int))]/\aB H H1,fun R hR=>?_,?_⟩
 ·refine⟨_,rfl,kp,jK,_,rfl,ah,(Br _ _ _),kp,due,r,rfl,KA,rfl,_,rfl,?_⟩;by_cases hk:r = "keep"
  ·rw[ZL (show V.str r=V.str "keep" by rw[hk])];exact Aq (Aq (hR _ _ ⟨rfl,aB.refl _⟩))
  ·rw[ZO (show ¬ V.str r=V.str "keep" from fun z=>hk (V.str.inj z))];refine BX ?_;refine⟨_,rfl,_,rfl,kp,due,r,n,rfl,KA,fun H1 s1=>⟨rfl,_,rfl,?_⟩⟩;have h0:=hrest.resolve_left hk;rw[h0];exact Aq (hR _ _ ⟨rfl,s1⟩)
 ·rintro σ H1 ⟨rfl,s1⟩;refine⟨_,rfl,_,rfl,p,VC,dx,[],rfl,s1 _ _ hp,VT.cl,VT.nK,(by show 0 < 1000;decide),?_⟩;refine⟨_,rfl,_,rfl,p,VC,dx,_,rfl,aA,VT.cl,VT.nB,Nat.lt_of_le_of_lt (BA _ _ _) (by show 1 < 1000;decide),?_⟩;refine k _ (fun b o e hb=>?_) ⟨dx,aA⟩;rw[AF hb,AF hb];exact s1 _ _ e
inductive spVNumber (VC:Addr) (vs:List V) (H:Hp) (Q:VK) (_E:XK):Prop where
 |mk (p kp:Addr) (n:Nat) (cE:vs=[.ref p]) (cD:cJ VC H p kp n) (cH:Q (.int (n:Int)) H)
theorem Oz:AL ["self"] ["self"] (defScope Dd):=cB
theorem NE (F:aW K "number" "Value.number" Dd f fd) (VT:G7 K VC):AY P w K mg base aO 1 f fd ["self"] (spVNumber VC):=by
 refine F.m Oz fun vs H Q E h=>?_;obtain⟨p,kp,n,rfl,⟨dx,hp⟩,k⟩:=h;refine⟨rfl,fun ac A outer s hr=>?_⟩;refine⟨_,AD (AR (Ak (pv 0) rfl)),?_⟩;exact⟨_,rfl,p,VC,dx,_,_,rfl,hp,VT.cl,VT.nB,Ft _ _,k⟩
inductive spVKind (VC:Addr) (vs:List V) (H:Hp) (Q:VK) (_E:XK):Prop where
 |mk (p kp:Addr) (n:Nat) (cE:vs=[.ref p]) (cD:cJ VC H p kp n) (cH:Q (.ref kp) H)
theorem Sc:AL ["self"] ["self"] (defScope FA):=cB
theorem Qq (F:aW K "kind" "Value.kind" FA f fd) (VT:G7 K VC):AY P w K mg base aO 1 f fd ["self"] (spVKind VC):=by
 refine F.m Sc fun vs H Q E h=>?_;obtain⟨p,kp,n,rfl,⟨dx,hp⟩,k⟩:=h;refine⟨rfl,fun ac A outer s hr=>?_⟩;refine⟨_,AD (AR (Ak (pv 0) rfl)),?_⟩;exact⟨_,rfl,p,VC,dx,_,_,rfl,hp,VT.cl,VT.nK,Fs _ _,k⟩
inductive spVEq (C VC:Addr) (vs:List V) (H:Hp) (Q:VK) (_E:XK):Prop where
 |mk (a:Addr) (v:V) (ka:Addr) (na:Nat) (due:Aa) (r:Str) (cE:vs=[.ref a,v]) (cD:cJ VC H a ka na) (cH:aF C H ka due r) (dH:iu due) (eT:((∃i,v=.int i/\Q (.bl false) H)\/∃(b kb:Addr) (nb:Nat) (fh:Aa) (r':Str),v=.ref b/\cJ VC H b kb nb/\aF C H kb fh r'/\iu fh/\∀H',aB H H'->Q (.bl (decide ((due=fh/\r=r')/\na=nb))) H'))
theorem Vc:AL ["self", "other"] ["self", "other"] (defScope IG):=cB
theorem UU (F:aW K "__eq__" "Value.__eq__" IG f fd) (B:Bl mg) (T:Dj K C) (VT:G7 K VC) (VI:KIsi K VC) (hI:W.kitOne K (.type "int") (.ref VC)=some false) (mV:mg "Value" = some (.ref VC))
  (GE:Mt P w K mg base C "__eq__" 2 ["self", "other"] (spEqK C)):AY P w K mg base aO 3 f fd ["self", "other"] (spVEq C VC):=by
 obtain⟨fE,dE,GE,mE,bE⟩:=GE.ex;refine F.m Vc fun vs H Q E h=>?_;obtain⟨a,v,ka,na,due,r,rfl,⟨dx,hp⟩,KA,h1,h⟩:=h;refine⟨rfl,fun ac A outer s hr=>?_⟩
 refine⟨_,AD (AR (Cb (AV (Jm K rfl) rfl B.eO EB (AA (pv 1) (AA (CP (v:=.ref VC) rfl mV rfl) AB)))
  (Cb (CQ (Px GE hr bE mE) (Ak (pv 0) rfl) (Ak (pv 1) rfl) (AW _))
   (DB (CQ DI (Ak (pv 0) rfl) (Ak (pv 1) rfl) (AW _)))))),?_⟩
 rcases h with⟨i,rfl,k⟩ |⟨b,kb,nb,fh,r',rfl,⟨dy,hq⟩,KB,h2,k⟩
 ·refine⟨_,rfl,_,VC,_,false,rfl,.int i,hI,_,rfl,?_⟩;exact Aq k
 ·refine⟨_,rfl,_,VC,_,true,rfl,VI.ty hq,Fq K VC,_,rfl,?_⟩;refine BX ?_;obtain⟨dka,d1,d2,hka⟩:=KA.ins;obtain⟨dkb,e1,e2,hkb⟩:=KB.ins;refine⟨_,rfl,a,VC,dx,_,_,rfl,hp,VT.cl,VT.nK,Fs _ _,_,rfl,b,VC,dy,_,_,rfl,hq,VT.cl,VT.nK,Fs _ _,?_⟩;refine⟨ka,dka,_,kb,rfl,rfl,hka,.inl ⟨_,_,hkb⟩,ka,kb,due,r,rfl,KA,h1,.inr ⟨fh,r',KB,h2,fun H1 s1=>⟨_,rfl,_,rfl,?_⟩⟩⟩;refine By (fun e=>?_) (fun e=>?_)
  ·have e':=ZV e;refine⟨_,rfl,a,VC,dx,_,_,rfl,s1 _ _ hp,VT.cl,VT.nB,Ft _ _,_,rfl,b,VC,dy,_,_,rfl,s1 _ _ hq,VT.cl,VT.nB,Ft _ _,rfl,?_⟩;have ev:decide (V.int (na:Int)=V.int (nb:Int))=decide ((due=fh/\r=r')/\na=nb):=decide_eq_decide.mpr ⟨fun z=>⟨e',by have:=V.int.inj z;omega⟩,fun z=>by rw[z.2]⟩;rw[ev];exact k _ s1
  ·have:=k _ s1;rw[ZO (fun z=>e (ZL z.1))]at this;exact this
structure Li (P:Program) (w:World) (K:FG) (mg:SV) (base:Heap) (C VC:Addr):Prop where
 VT:G7 K VC
 cls:mg "Value" = some (.ref VC)
 make:∃f fd,Mk K VC f/\AY P w K mg base aO 4 f fd ["self", "kind", "number"] (spVInit C VC)/\Binds K fd ["self", "kind", "number"] []
 eq:∃f fd,AY P w K mg base aO 3 f fd ["self", "other"] (spVEq C VC)/\HV K VC "__eq__" f/\Binds K fd ["self", "other"] []
 eO:KIsi K VC
 ne:W.findIn K (.ref VC) "__ne__" = some (some (.builtin "object.__ne__"))
 ni:W.subIn K (.type "int") (.ref VC)=some false
theorem Bu {D kp dx:Addr} (hkp:H kp=none) (a0:H dx=none) (az:dx≠kp):aB H (upd (upd H dx (.own kp)) kp (.ins D dx [])):=by
 refine AC (AC (aB.refl _) a0) ?_;rw[AF (Ne.symm az)];exact hkp
theorem Bg {Hc:Hp}{kp:Addr} (sN:aB H H') (hkp:H kp=none) (sc:∀b o,H' b=some o->b≠kp->Hc b=some o):aB H Hc:=fun b o e=>sc b o (sN _ _ e) (AG e hkp)
theorem TR (h:∀p∈due,p.2 < 2 ^ 20):kn due < 2 ^ 20:=by
 unfold kn;exact Fg fun n hn=>by obtain⟨p,hp,rfl⟩:=Zr.mp hn;exact h p hp
end
section
variable {CU:Addr}
inductive spErrInit (K:FG) (vs:List V) (H:Hp) (Q:VK) (_E:XK):Prop where
 |mk (e C:Addr) (dx:Option Addr) (x:Str) (cE:vs=[.ref e,.str x]) (cD:BJ K C=true) (cH:H e=some (Fc e C dx)) (dH:Q .aU H)
theorem O0:AL ["self", "words"] ["self", "words"] (defScope BM):=cB
theorem Ih (F:FunD K "__init__" "MarkError.__init__" BM f fd) (hV:mg "ValueError" = none):AY P w K mg base aO 1 f fd ["self", "words"] (spErrInit K):=by
 refine F.ok O0 (fun vs H Q E h=>?_) (fun ac A outer s H vs Q E hr h=>?_)
 ·obtain⟨e,C,dx,x,rfl,_⟩:=h;rfl
 ·obtain⟨e,C,dx,x,rfl,hC,he,k⟩:=h;refine⟨_,AD (B3 (P3 rfl hV (AA (pv 0) (AA (pv 1) AB)))),?_⟩;exact⟨_,rfl,_,rfl,e,C,dx,[.str x],rfl,(by show 1 <= 1000;decide),hC,he,k⟩
structure TU (P:Program) (w:World) (K:FG) (mg:SV) (base:Heap) (x:Str) (CU:Addr):Prop where
 cls:mg x=some (.ref CU)
 make:∃f fd,MkX K CU f/\AY P w K mg base aO 1 f fd ["self", "words"] (spErrInit K)/\Binds K fd ["self", "words"] []
def Uq (H:Hp) (E:XK) (CU:Addr):Prop:=∀e H',aB H H'->H e=none->H' e=some (Ey e CU none)->E (.ref CU) none H'
theorem none_of {x:Addr} (s:aB H H') (h:H' x=none):H x=none:=by
 cases e:H x with
 |none=>rfl
 |some u=>rw[s _ _ e]at h;cases h
theorem Ii {te:XK->TE}{σ:St}{H1:Hp}{E:XK}{D:Ei}{x:Str} (hC:BJ K CU=true) (s1:aB H H1) (h:Uq H E CU):Mj CU (Mi CU (spErrInit K) [] E0 (Ay (tC (.str x)) Dr)) E D σ H1:=by
 refine⟨(by show 1 <= 1000;decide),fun a ha=>?_⟩;refine⟨a,CU,none,x,rfl,hC,aA,rfl,a,none,rfl,aA,?_⟩;refine h a _ (s1.trans ?_) (none_of s1 ha) aA;rw[FP];exact AC (aB.refl _) ha
end
noncomputable def wds:List Str:=["BadRows", "BadRest", "BadText", "Unled", "BadRule", "BadName", "BadNumber", "Unlike", "BadPairs", "Never", "Nothing"]
noncomputable def wd (j:Nat):Str:=wds.getD j ""
noncomputable def hJ (j:Nat):List Bool:=(List.range 11).map fun i=>decide (i=j)
noncomputable def b1 (b:Bool):Int:=if b then 1 else 0
theorem Nw:∀j,j < 11->((hJ j).map b1).sum=1:=by decide +kernel
theorem UV:∀j,j < 11->(hJ j)[j]?=some true/\∀m,m < j->(hJ j)[m]?=some false:=by decide +kernel
theorem UW:∀j:Nat,j < 11->jg (wds.map V.str) (j:Int)=some (V.str (wd j)):=by decide +kernel
structure NF (mg:SV) (ec:Nat->Addr):Prop where
 e0:mg "BadRows" = some (.ref (ec 0))
 e1:mg "BadRest" = some (.ref (ec 1))
 e2:mg "BadText" = some (.ref (ec 2))
 e3:mg "Unled" = some (.ref (ec 3))
 e4:mg "BadRule" = some (.ref (ec 4))
 e5:mg "BadName" = some (.ref (ec 5))
 e6:mg "BadNumber" = some (.ref (ec 6))
 e7:mg "Unlike" = some (.ref (ec 7))
 e8:mg "BadPairs" = some (.ref (ec 8))
 e9:mg "Never" = some (.ref (ec 9))
 jw:mg "Nothing" = some (.ref (ec 10))
 ev:mg "ValueError" = none
structure Qr (K:FG) (ec:Nat->Addr) (C:Addr) (j:Nat):Prop where
 hj:j < 11
 kx:SA K C
 kit:∀i,i < 11->W.kitOne K (.ref C) (.ref (ec i))=some (decide (i=j))
 val:W.kitOne K (.ref C) (.type "ValueError")=some true
noncomputable abbrev w4 (j:Nat):List V:=[V.bl (decide (0=j)),V.bl (decide (1=j)),V.bl (decide (2=j)),V.bl (decide (3=j))]
noncomputable abbrev w3 (j:Nat):List V:=[V.bl (decide (4=j)),V.bl (decide (5=j)),V.bl (decide (6=j))]
noncomputable abbrev w1 (j:Nat):List V:=[V.bl (decide (7=j))]
noncomputable abbrev wz (j:Nat):List V:=[V.bl (decide (8=j)),V.bl (decide (9=j)),V.bl (decide (10=j))]
noncomputable abbrev w7 (j:Nat):List V:=w4 j++w3 j
noncomputable abbrev w8 (j:Nat):List V:=w7 j++w1 j
noncomputable abbrev gX (j:Nat):List V:=w8 j++wz j
section
variable {ec:Nat->Addr}
theorem CB {X:Cx}{a:Expr}{te:TE}{e c:Addr}{oe:Obj}{x:Str}{p p2 pos:Pos} (K:FG) (hK:X.K=K) (pX:ExcP X e oe C) (k:SA K C) (hg:Gl X "isinstance") (hm:X.mg "isinstance" = none) (hgT:Gl X x) (hmT:X.mg x=some (.ref c)) (he:PE X a te)
  (eV:(x == ("__debug__" : Str))=false:=by decide)
  (hs:starEach [a,.Name x p2] X.env=(false,eval a X.env) :: starEach [.Name x p2] X.env:=by rfl) (eM:(backTo pos (starEach [.Name x p2] X.env)).any (·.1)=false:=by rfl) (ja:starEach [.Name x p2] X.env=(false,eval (.Name x p2) X.env) :: starEach [] X.env:=by rfl) :
  PE X (.Call (.Name "isinstance" p) [a,.Name x p2] [] pos) (tCB (fun xs H Q=>∃v c b,xs=[.ref e,v]/\((∃D,v=.ref D/\c=.ref D)\/∃T,v=.ty T/\c=.type T)/\(oe.dict=none\/∃d u,oe.dict=some d/\H d=some u)/\W.kitOne K (.ref C) c=some b/\Q (.bl b) H) (Ay te (Ay (tC (.ref c)) Dr))):=by
 subst hK;exact AV (Jg pX k) hg hm EB (AA he (AA (CP (v:=.ref c) hgT hmT rfl eV) AB ja) hs) qc qc hs eM
def EK (K:FG) (ec:Nat->Addr):SpS:=fun e oe vs H Q=>vs=[.ref e]/\∃(C:Addr) (j:Nat) (fs:Array Value),oe.cls=.ref C/\oe.data=.fields fs/\fs[2]?=some .none/\(oe.dict=none\/∃d u,oe.dict=some d/\H d=some u)/\Qr K ec C j /\
 ∀p H',aB H H'->H' p=some (.tup [.str "refused", .str (wd j)])->Q (.ref p) H'
theorem scWord:AL ["_law_e", "_law_flags", "_law_words"] ["_law_e"] (defScope D7):=cB
theorem Sd (F:aW K "_law_word" "_law_word" D7 f fd) (B:Bl mg) (M:NF mg ec):Nk P w K mg base 1 f fd ["_law_e"] (EK K ec):=by
 refine F.okS scWord (fun e oe vs H Q h=>?_) (fun ac A outer s H vs Q e oe hh hr h=>?_)
 ·obtain⟨rfl,_⟩:=h;rfl
 ·obtain⟨rfl,C,j,fs,hc,hf,h2,hd,EA,k⟩:=h;have hj:=EA.hj
  have iT:∀H',aB H H'->(oe.dict=none\/∃d u,oe.dict=some d/\H' d=some u):=fun H' s=>by
   rcases hd with z |⟨d,u,z,y⟩
   ·exact .inl z
   ·exact .inr ⟨d,u,z,s _ _ y⟩
  have kt:=EA.kit;have pX:ExcP (Hv P w K mg base ["_law_e", "_law_flags", "_law_words"] "_law_word" (defScope D7) f ac A outer s H e oe) e oe C:=⟨ZI,hc,⟨fs,hf⟩⟩;have rd:iV (Hv P w K mg base ["_law_e", "_law_flags", "_law_words"] "_law_word" (defScope D7) f ac A outer s H e oe):=R6 hh hf h2
  refine⟨_,AE (Ag (i:=1) scWord.nd rfl (Or.inl rfl) (BC (AA (CB K rfl pX EA.kx rfl B.eO rfl M.e0 (pv 0)) (AA (CB K rfl pX EA.kx rfl B.eO rfl M.e1 (pv 0)) (AA (CB K rfl pX EA.kx rfl B.eO rfl M.e2 (pv 0)) (AA (CB K rfl pX EA.kx rfl B.eO rfl M.e3 (pv 0)) AB))))))
   (AE (Ag (i:=1) scWord.nd rfl (Or.inl rfl) (AX Du (pv 1) (BC (AA (CB K rfl pX EA.kx rfl B.eO rfl M.e4 (pv 0)) (AA (CB K rfl pX EA.kx rfl B.eO rfl M.e5 (pv 0)) (AA (CB K rfl pX EA.kx rfl B.eO rfl M.e6 (pv 0)) AB))))))
   (AE (Ag (i:=1) scWord.nd rfl (Or.inl rfl) (AX Du (pv 1) (BC (AA (CB K rfl pX EA.kx rfl B.eO rfl M.e7 (pv 0)) AB))))
   (AE (Ag (i:=1) scWord.nd rfl (Or.inl rfl) (AX Du (pv 1) (BC (AA (CB K rfl pX EA.kx rfl B.eO rfl M.e8 (pv 0)) (AA (CB K rfl pX EA.kx rfl B.eO rfl M.e9 (pv 0)) (AA (CB K rfl pX EA.kx rfl B.eO rfl M.jw (pv 0)) AB))))))
   (AE (Ag (i:=2) scWord.nd rfl (Or.inl rfl) (BC (AA Ae (AA Ae (AA Ae (AA Ae (AA Ae (AA Ae (AA Ae AB)))))))))
   (AE (Ag (i:=2) scWord.nd rfl (Or.inl rfl) (AX Du (pv 2) (BC (AA Ae (AA Ae AB)))))
   (AE (An (PW.pt (CH (AS CI (AV (Jc rd) rfl B.sum QP (AA (ON [] [] qd qb qd rd (Pn (pv 1)) (fun _ _ _ _ _ _=>BF) (fun _ _ _ _ _ _=>BK OC rfl B.int QQ (AA (pv 0) AB))) AB)) AJ (AW _))
     (Bk (A9 (A5 (AV (Jg pX EA.kx) rfl B.eO EB (AA (pv 0) (AA (C1 (v:=.ty "ValueError") rfl M.ev Nj rfl) AB)))))))) (AD Ah) AT)
   (AD (AR (BB (AA Ae (AA (Bc (A4 K rfl) (AX Du (pv 2) (BC (AA Ae (AA Ae AB)))) (En PySem.F.plainAttrs_list PySem.F.slot_list_index PySem.F.type_list_index OY (pv 1) (AA NQ AB)) (fun _ _=>rfl)) AB))))))))))),?_⟩
  refine⟨_,rfl,_,_,_,rfl,.inl ⟨_,rfl,rfl⟩,iT _ (aB.refl _),kt 0 qc,_,rfl,_,_,_,rfl,.inl ⟨_,rfl,rfl⟩,iT _ (aB.refl _),kt 1 qc,_,rfl,_,_,_,rfl,.inl ⟨_,rfl,rfl⟩,iT _ (aB.refl _),kt 2 qc,_,rfl,_,_,_,rfl,.inl ⟨_,rfl,rfl⟩,iT _ (aB.refl _),kt 3 qc,sl4,fun l1 h1=>?_⟩;have s1:=AC (aB.refl H) h1 (o:=.lst (w4 j));have a1:=aA (H:=H) (a:=l1) (o:=.lst (w4 j));generalize upd H l1 (.lst (w4 j))=H1 at s1 a1 ⊢;refine⟨_,rfl,_,rfl,_,_,_,rfl,.inl ⟨_,rfl,rfl⟩,iT _ s1,kt 4 qc,_,rfl,_,_,_,rfl,.inl ⟨_,rfl,rfl⟩,iT _ s1,kt 5 qc,_,rfl,_,_,_,rfl,.inl ⟨_,rfl,rfl⟩,iT _ s1,kt 6 qc,iE,fun l2 h2'=>?_⟩;refine⟨l1,l2,_,_,rfl,rfl,(AC (aB.refl H1) h2') _ _ a1,aA,(by show 4 + 3 <= sizeLine;decide),fun l3 h3=>?_⟩;have s3:=s1.trans (AC (AC (aB.refl H1) h2' (o:=.lst (w3 j))) h3 (o:=.lst (w7 j)));generalize e3:upd (upd H1 l2 (.lst (w3 j))) l3 (.lst (w7 j))=H3 at s3 ⊢;have a3:H3 l3=some (.lst (w7 j)):=by rw[←e3,aA]
  refine⟨_,rfl,_,rfl,_,_,_,rfl,.inl ⟨_,rfl,rfl⟩,iT _ s3,kt 7 qc,jS,fun l4 h4=>?_⟩;refine⟨l3,l4,_,_,rfl,rfl,(AC (aB.refl H3) h4) _ _ a3,aA,(by show 7 + 1 <= sizeLine;decide),fun l5 h5=>?_⟩;have s5:=s3.trans (AC (AC (aB.refl H3) h4 (o:=.lst (w1 j))) h5 (o:=.lst (w8 j)));generalize e5:upd (upd H3 l4 (.lst (w1 j))) l5 (.lst (w8 j))=H5 at s5 ⊢;have a5:H5 l5=some (.lst (w8 j)):=by rw[←e5,aA]
  refine⟨_,rfl,_,rfl,_,_,_,rfl,.inl ⟨_,rfl,rfl⟩,iT _ s5,kt 8 qc,_,rfl,_,_,_,rfl,.inl ⟨_,rfl,rfl⟩,iT _ s5,kt 9 qc,_,rfl,_,_,_,rfl,.inl ⟨_,rfl,rfl⟩,iT _ s5,kt 10 qc,iE,fun l6 h6=>?_⟩;refine⟨l5,l6,_,_,rfl,rfl,(AC (aB.refl H5) h6) _ _ a5,aA,(by show 8 + 3 <= sizeLine;decide),fun l7 h7=>?_⟩;have s7:=s5.trans (AC (AC (aB.refl H5) h6 (o:=.lst (wz j))) h7 (o:=.lst (gX j)));generalize e7:upd (upd H5 l6 (.lst (wz j))) l7 (.lst (gX j))=H7 at s7 ⊢;have a7:H7 l7=some (.lst ((hJ j).map V.bl)):=by rw[←e7];exact aA
  refine⟨sl7,fun l8 h8=>?_⟩;refine⟨_,rfl,gc,fun l9 h9=>?_⟩;refine⟨l8,l9,_,_,rfl,rfl,(AC (aB.refl _) h9) _ _ aA,aA,(by show 7 + 2 <= sizeLine;decide),fun l10 iN=>?_⟩;have s10:=AC (AC (AC (aB.refl H7) h8 (o:=.lst [V.str "BadRows", V.str "BadRest", V.str "BadText", V.str "Unled", V.str "BadRule", V.str "BadName", V.str "BadNumber"])) h9 (o:=.lst [V.str "Unlike", V.str "BadPairs"])) iN (o:=.lst ([V.str "BadRows", V.str "BadRest", V.str "BadText", V.str "Unled", V.str "BadRule", V.str "BadName", V.str "BadNumber"]++[V.str "Unlike", V.str "BadPairs"]));generalize jw:upd (upd (upd H7 l8 (.lst [V.str "BadRows", V.str "BadRest", V.str "BadText", V.str "Unled", V.str "BadRule", V.str "BadName", V.str "BadNumber"])) l9 (.lst [V.str "Unlike", V.str "BadPairs"])) l10 (.lst ([V.str "BadRows", V.str "BadRest", V.str "BadText", V.str "Unled", V.str "BadRule", V.str "BadName", V.str "BadNumber"]++[V.str "Unlike", V.str "BadPairs"]))=H10 at s10 ⊢;have a10:H10 l10=some (.lst ([V.str "BadRows", V.str "BadRest", V.str "BadText", V.str "Unled", V.str "BadRule", V.str "BadName", V.str "BadNumber"]++[V.str "Unlike", V.str "BadPairs"])):=by rw[←jw];exact aA
  have b7:=s10 _ _ a7;refine⟨_,rfl,l7,rfl,⟨_,aH.of b7⟩,Aw (K:=K) (a:=l7) (xs:=(hJ j).map V.bl) (fun i ys H2=>ys=((hJ j).take i).map (fun b=>V.int (b1 b))/\H2=H10) ⟨rfl,rfl⟩ (fun i ys H2 _ ⟨_,e⟩=>e ▸ aH.of b7) (fun i ys H2 ⟨e,_⟩=>?_) ?_ ?_⟩
  ·rw[e,AH,ZA];have:(hJ j).length=11:=rfl;omega
  ·rintro i v ys H2 hi ⟨rfl,rfl⟩;rw[ZE]at hi;obtain⟨b,hb,rfl⟩:=Z6.mp hi;refine⟨_,rfl,.inr ⟨b,rfl,?_,rfl⟩⟩;rw[ZD,hb,Option.toList_some,Zu];rfl
  ·rintro ys H2 ⟨rfl,rfl⟩ p hp;have el:(hJ j).take ((hJ j).map V.bl).length=hJ j:=by rw[AH];exact ZB
   rw[el];have em:(hJ j).map (fun b=>V.int (b1 b))=((hJ j).map b1).map V.int:=by rw[map_map];rfl
   rw[em];have s11:=AC (aB.refl H2) hp (o:=.lst (((hJ j).map b1).map V.int));refine⟨p,(hJ j).map b1,rfl,aH.of aA,fun n hn=>?_,(by rw[Nw j hj];decide),rfl,_,rfl,?_⟩
   ·obtain⟨b,_,rfl⟩:=Zr.mp hn;unfold b1;split <;> decide
   rw[Nw j hj];refine Aq ?_;refine⟨_,rfl,_,_,true,rfl,.inr ⟨_,rfl,rfl⟩,iT _ (s7.trans (s10.trans s11)),EA.val,_,rfl,?_⟩;refine Aq ?_;refine⟨_,rfl,gc,fun l11 h11=>?_⟩;have eK:=AC s11 h11 (o:=.lst [V.str "Never", V.str "Nothing"]);refine⟨l10,l11,_,_,rfl,rfl,eK _ _ a10,aA,(by show 9 + 2 <= sizeLine;decide),fun l12 h12=>?_⟩;have ie:=AC eK h12 (o:=.lst (([V.str "BadRows", V.str "BadRest", V.str "BadText", V.str "Unled", V.str "BadRule", V.str "BadName", V.str "BadNumber"]++[V.str "Unlike", V.str "BadPairs"])++[V.str "Never", V.str "Nothing"]));have c7:=ie _ _ b7;obtain⟨f1,f2⟩:=UV j hj;refine⟨_,rfl,.inl ⟨rfl,_,aH.of c7⟩,l7,hJ j,j,rfl,rfl,c7,f1,f2,l12,_,(j:Int),_,rfl,rfl,aH.of aA,UW j hj,gc,fun q hq=>?_⟩;exact k q _ (s7.trans (s10.trans (AC ie hq))) aA
end
structure Lj (K:FG) (ec:Nat->Addr) (cM C:Addr) (j:Nat):Prop where
 ea:Qr K ec C j
 cx:BJ K C=true
 n0:(D0 K C).contains (.ref (ec 0))=false
 n1:(D0 K C).contains (.ref (ec 1))=false
 n2:(D0 K C).contains (.ref (ec 2))=false
 n3:(D0 K C).contains (.ref (ec 3))=false
 m:(D0 K C).contains (.ref cM)=true
structure O1 (K:FG) (mg:SV) (ec:Nat->Addr) (cM:Addr):Prop where
 m:mg "MarkError" = some (.ref cM)
 xm:BJ K cM=true
 x0:BJ K (ec 0)=true
 x1:BJ K (ec 1)=true
 x2:BJ K (ec 2)=true
 x3:BJ K (ec 3)=true
structure FnS (P:Program) (w:World) (K:FG) (mg:SV) (base:Heap) (x:Str) (k:Nat) (ps:List Str) (sp:SpS):Prop where
 ex:∃f fd,Nk P w K mg base k f fd ps sp/\mg x=some (.ref f)/\W.keepIn K (.ref f)=true/\Binds K fd ps []
def Qs (K:FG) (ec:Nat->Addr) (cM C:Addr) (dx:Option Addr) (e:Addr):TS:=fun D σ H=>σ.length=2/\∃j,Lj K ec cM C j/\dx=none/\∀p H',aB H H'->H' p=some (.tup [.str "refused", .str (wd j)])->D.rt (.ref p) H'
def Lk (K:FG) (ec:Nat->Addr) (cM:Addr) (Q:VK):XK:=fun Cv dx H2=>∃C,Cv=.ref C/\∀e,H2 e=some (Ey e C dx)->∃j,Lj K ec cM C j/\dx=none/\∀p H',aB (del H2 e) H'->H' p=some (.tup [.str "refused", .str (wd j)])->Q (.ref p) H'
theorem scTold:AL ["_law_deed", "_law_e"] ["_law_deed"] (defScope BU):=cB
section
variable {ec:Nat->Addr}{cM:Addr}
theorem Se {k:Nat}{lf c':Addr} (F:aW K "_law_told" "_law_told" BU f fd) (M:NF mg ec) (EX:O1 K mg ec cM) (GW:FnS P w K mg base "_law_word" 1 ["_law_e"] (EK K ec))
  {A:Around}{outer:List Env}{s:Shared}{H:Hp}{args:Args}{Nl:List Str}{scope:Scope}{cl:List (Str×Addr)}{iY:St}{name qual:Str}{params:Arguments}{body:Expr}{pm eP:Value}{tl:XK->TE}{Q:VK}
  (hr:aG (k + 2) A) (e0:eN P w K mg base A outer s H) (hb:BindsTo s fd args ((["_law_deed"]:List Str).zip [Value.ref lf])) (C:Hy Nl scope cl iY H s.heap) (jt:∀x c,cl.lookup x=some c->c∉ d8 outer)
  (h1:H lf=some (jP lf (W.kla_obj name qual params body scope cl pm c' eP))) (h2:H c'=some (Fe c' qual))
  (bq:bindArgs (W.kla_fn name qual params body scope cl pm (.ref c') eP) ⟨[],[]⟩=pure [])
  (hco:scope.isCoroutine=false) (bz:scope.isGenerator=false) (hk:scope.kind=.function) (bn:∀x∈scope.names,x.2≠ .cell)
  (dg:∀(A':Around) (outer':List Env) (s':Shared) (H':Hp) (E:XK),aG k (A'.deeper (W.envX qual scope s'.heap.objs.size lf (.ref c') cl))->PE (Er P w K mg base Nl qual scope lf (.ref c') cl A' outer' s' H' E) body (tl E))
  (h:tl (Lk K ec cM Q) iY H Q):codeAny (model P w) A (.call (.ref f) args) (CR aO outer P w H s Q E0) s:=by
 obtain⟨fW,dW,GW,mW,kW,bW⟩:=GW.ex;refine F.at (N:=["_law_deed", "_law_e"]) scTold (vs:=[.ref lf]) rfl (k:=k + 1) hr e0 hb (.cons rfl .nil) fun ac cN=>?_;have own:=Rx (CX:=aO) (P:=P) (w:=w) (K:=K) (mg:=mg) (base:=base) (N:=["_law_deed", "_law_e"]) (qual := "_law_told") (scope:=defScope BU) (f:=f) (cd:=ac) (A:=A) (outer:=outer) (s:=s) (H:=H) (E:=E0)
 have hrm:∀e:Addr,RoomS 1 ((A.deeper (PyProof.Rows.envOfC "_law_told" (defScope BU) s.heap.objs.size f ac)).mark (some (.ref e))):=fun e=>by
  have q:=cN.mono (show 1 <= k + 1 by omega);exact⟨q.dp,q.un⟩
 refine⟨_,AD (P5 (tb:=fun E=>PJ (LL 0 lf c' qual (W.kla_obj name qual params body scope cl pm c' eP) iY (tl E))) (th:=Qs K ec cM) own (fun P0 xe E hx=>?_) (fun CC dx=>?_)),?_⟩
 ·exact AD (AR (Mo (X:=Fd (Bj aO P w K mg base ["_law_deed", "_law_e"] "_law_told" (defScope BU) f ac A outer s H E0) P0 xe) (i:=0) (k:=k + 1) rfl (Or.inl rfl) cN C jt rfl hx bq hco bz hk bn (fun s' H'=>dg _ _ s' H' E (cN.deeper _))))
 ·intro aa s1 σ H1 D e oe T oT c I h;obtain⟨hl,j,EP,rfl,kq⟩:=h
  ·refine(?hp:PH (Bj aO P w K mg base ["_law_deed", "_law_e"] "_law_told" (defScope BU) f ac A outer s H E0) CC none _ (fun e=>TK 1 (fun D σ H=>σ[1]?=some (some (.ref e))/\∀p H',aB H H'->H' p=some (.tup [.str "refused", .str (wd j)])->D.rt (.ref p) H') e)) aa s1 σ H1 D e oe T oT c I ?_
   ·refine HB (Dn:=ec 0) EP.cx EX.x0 rfl M.e0 EP.n0 ?_;refine HB (Dn:=ec 1) EP.cx EX.x1 rfl M.e1 EP.n1 ?_;refine HB (Dn:=ec 2) EP.cx EX.x2 rfl M.e2 EP.n2 ?_;refine HB (Dn:=ec 3) EP.cx EX.x3 rfl M.e3 EP.n3 ?_;refine R8 (Dn:=cM) (i:=1) (tb:=fun (e:Addr) (D:Ei) (σ:St) (H:Hp)=>σ[1]?=some (some (V.ref e))/\∀p H',aB H H'->H' p=some (.tup [.str "refused", .str (wd j)])->D.rt (.ref p) H') scTold.nd rfl rfl EP.cx EX.xm rfl EX.m EP.m (fun e oe T oT c=>?_);refine fun aa s2 cG H2 D2 I2 h2=>?_;obtain⟨fs,hd,hf1,gU⟩:=c.fld;refine(?hb2:fc (CM (Bj aO P w K mg base ["_law_deed", "_law_e"] "_law_told" (defScope BU) f ac A outer s H E0) e oe T oT) _ (PJ (P8 (EK K ec) e oe (Ay (F6 1) Dr)))) aa s2 cG H2 D2 I2 ⟨_,h2.1,rfl,CC,j,fs,c.cls,hd,gU,.inl c.dict,EP.ea,h2.2⟩;exact AD (AR (P9 (X:=CM (Bj aO P w K mg base ["_law_deed", "_law_e"] "_law_told" (defScope BU) f ac A outer s H E0) e oe T oT) (e:=e) (oe:=oe) GW (hrm e) rfl (by simp[CM]) rfl mW kW bW (AA (pv 1) AB)))
   ·exact⟨by rw[List.getElem?_set_self qe],kq⟩
 ·refine⟨rfl,h1,h2,?_⟩
  have e:R9 (Bj aO P w K mg base ["_law_deed", "_law_e"] "_law_told" (defScope BU) f ac A outer s H E0).N.length (Qs K ec cM) { nx:=fun _ H'=>Q .aU H',rt:=Q }=Lk K ec cM Q:=by
   funext Cv dx H2;unfold R9 Lk Qs;simp[Bj]
  rw[←e]at h;exact h
end
end Mk
end
section
namespace L2
open PySem PySem.Spec PyProof.Rows
noncomputable def Sf (ix:List Nat) (σ:St):St:=ix.map fun j=>(σ[j]?).getD none
structure LamN (X:Cx) (Nl:List Str) (ix:List Nat) (scope:Scope) (cC:List (Str×Addr)):Prop where
 len:ix.length=Nl.length
 nm:∀(i:Nat) (x:Str),Nl[i]?=some x->∃j:Nat,ix[i]?=some j/\X.N[j]?=some x/\X.env.scope.names.lookup x=some .cell/\scope.names.lookup x=some .free
 cl:∀x c,cC.lookup x=some c->X.env.cells.lookup x=some c
 has:∀x,(scope.names.lookup x=some .cell\/scope.names.lookup x=some .free)->∃c,cC.lookup x=some c
 fn:∀x,X.fn x=true
section
variable {X:Cx}{aa:LO}{σ:St}{s:Shared}{Nl:List Str}{ix:List Nat}{scope:Scope}{cC:List (Str×Addr)}
theorem LamN.cells (L:LamN X Nl ix scope cC) (I:Inv X aa σ H s):Hy Nl scope cC (Sf ix σ) H s.heap:=by
 refine⟨fun x y c h1 h2=>I.ok.inj x y c (L.cl x c h1) (L.cl y c h2),L.has,fun x c h=>⟨I.cell x c (L.cl x c h),I.cI x c (L.cl x c h)⟩,fun i x v h1 h2=>?_,?_⟩
 ·obtain⟨j,hj,hN,hk,hf⟩:=L.nm i x h1;refine⟨hf,?_⟩;unfold Sf at h2;rw[ZE,hj]at h2
  have hv:σ[j]?=some (some v):=by
   simp only[Option.map_some,Option.some.injEq]at h2;cases e:σ[j]? with
   |none=>rw[e]at h2;cases h2
   |some o=>rw[e]at h2;simp only[Option.getD_some]at h2;rw[h2]
  obtain⟨m,_,hl⟩:=I.loc;obtain⟨u,r,l⟩:=hl j x v hN hv (.inr (.inl hk));rcases l with⟨l,_⟩ |⟨_,c,e,z⟩
  ·rw[show X.env.kindOf x=X.env.scope.names.lookup x from rfl,hk]at l;cases l
  ·obtain⟨c2,e2⟩:=L.has x (.inr hf);have e3:=L.cl x c2 e2;rw[e]at e3;cases e3;exact⟨u,c,r,e2,z⟩
 ·unfold Sf;rw[AH];exact L.len
theorem LamN.far (L:LamN X Nl ix scope cC) (I:Inv X aa σ H s):∀x c,cC.lookup x=some c->c∉ d8 X.stack:=fun x c h z=>by
 have hc:=L.cl x c h;rcases mem_cons.mp (I.eI c z)with z |z
 ·exact I.jL x c hc z
 ·obtain⟨_,o,ho,_⟩:=I.ok.cZ.mem z;exact absurd (Z2 (lt_size ho) (I.ok.jf x c (L.fn x) hc)) (ZF _)
end
end L2
namespace Mk
open PySem L2 MK
section
variable {X:Cx}{ec:Nat->Addr}{cM c P0:Addr}{ls:List Pos}{cX:Pos}
def Qt (K:FG) (ec:Nat->Addr) (cM P0:Addr) (qual:Str) (ls:List Pos) (ix:List Nat) (tl:XK->TE):TE:=fun σ H Q=>aQ H P0 qual ls/\∀H',Nm P0 H H'->aQ H' P0 qual ls->tl (Lk K ec cM Q) (Sf ix σ) H' Q
theorem Nx {k:Nat} (F:aW X.K "_law_told" "_law_told" BU f fd) (M:NF X.mg ec) (EX:O1 X.K X.mg ec cM) (GW:FnS X.prog X.w X.K X.mg X.base "_law_word" 1 ["_law_e"] (EK X.K ec))
  (hr:aG (k + 2) X.A) (hg:Gl X "_law_told") (hm:X.mg "_law_told" = some (.ref f)) (hkp:W.keepIn X.K (.ref f)=true) (hB:Binds X.K fd ["_law_deed"] [])
  {Nl:List Str}{ix:List Nat}{scope:Scope}{cC:List (Str×Addr)}{params:Arguments}{body:Expr}{tl:XK->TE}{p pos:Pos}
  (L:QC X c P0) (hls:cX∈ls) (az:∀q∈ls,q=cX\/(q.line == cX.line && q.col == cX.col)=false) (ag:closureFor scope X.env=pure cC) (dc:defaultsOf params X.env=([],[])) (LN:LamN X Nl ix scope cC)
  (bq:∀pm c' eP,bindArgs (W.kla_fn "<lambda>" (X.env.qual ++ "<lambda>") params body scope cC pm (.ref c') eP) ⟨[],[]⟩=pure [])
  (hco:scope.isCoroutine=false) (bz:scope.isGenerator=false) (hk:scope.kind=.function) (bn:∀x∈scope.names,x.2≠ .cell)
  (dg:∀(lf c':Addr) (A':Around) (outer':List Env) (s':Shared) (H':Hp) (E:XK),aG k (A'.deeper (W.envX (X.env.qual ++ "<lambda>") scope s'.heap.objs.size lf (.ref c') cC))->PE (Er X.prog X.w X.K X.mg X.base Nl (X.env.qual ++ "<lambda>") scope lf (.ref c') cC A' outer' s' H' E) body (tl E))
  (he:starEach [.Lambda params body scope cX] X.env=(false,eval (.Lambda params body scope cX) X.env) :: starEach [] X.env:=by rfl) (eM:(backTo pos (starEach [] X.env)).any (·.1)=false:=by rfl) :
  PE X (.Call (.Name "_law_told" p) [.Lambda params body scope cX] [] pos) (Qt X.K ec cM P0 (X.env.qual ++ "<lambda>") ls ix tl):=by
 intro aa s σ H Q I ⟨hT,h⟩;refine Z3 (B2 I hg hm ?_ qc);have ha:PA X [.Lambda params body scope cX] (Ay (VU P0 (X.env.qual ++ "<lambda>") ls (fun c' eP=>W.kla_obj "<lambda>" (X.env.qual ++ "<lambda>") params body scope cC ((X.mg "__name__").getD .none) c' eP)) Dr):=AA (UA L hls az ag dc) AB he;refine W.callWith_K (h₀:=X.base) I.ok.mod.kin hkp (aJ (ha pos aa s σ H (fun vs H1=>∃lf c' eP,vs=[.ref lf]/\Nm P0 H H1/\aQ H1 P0 (X.env.qual ++ "<lambda>") ls/\H1 lf=some (jP lf (W.kla_obj "<lambda>" (X.env.qual ++ "<lambda>") params body scope cC ((X.mg "__name__").getD .none) c' eP))/\H1 c'=some (Fe c' (X.env.qual ++ "<lambda>"))) I ⟨hT,fun lf c' eP H' _ hs ht h1 h2=>⟨lf,c',eP,rfl,hs,ht,h1,h2⟩⟩) fun us s1 ⟨vs,H1,I1,r,lf,c',eP,ev,hs,ht,h1,h2⟩=>⟨I1.cS,?_⟩) he eM;subst ev;obtain⟨u,eu,ru⟩:=B4 r;subst eu;obtain rfl:u=Value.ref lf:=ru;have bb:=hB s1 [.ref lf] I1.cS rfl;rw[Zt]at bb;refine wpAny_call (codeAny_mono (Se (k:=k) F M EX GW hr I1.gK bb (LN.cells I1) (LN.far I1) h1 h2 (bq _ _ _) hco bz hk bn (dg lf c') (h H1 hs ht)) fun r s' hq=>?_);cases r with
 |error e=>exact False.elim hq
 |ok fl =>
  cases fl with
  |ret u=>exact I1.after hq
  |next=>exact False.elim hq
  |brk=>exact False.elim hq
  |cont=>exact False.elim hq
end
theorem Gs {α β:Type}{F:α->β->Prop}:∀ {xs:List α}{ys:List β}{i:Nat}{a:α},Paired F xs ys->xs[i]?=some a->∃b,ys[i]?=some b/\F a b
 |_,_,_,_,.nil,e=>by simp at e
 |_,_,0,_,.cons r _,e=>by simp at e;subst e;exact⟨_,rfl,r⟩
 |_,_,i + 1,x,.cons _ t,e=>by
  obtain⟨u,h1,h2⟩:=Gs (i:=i) (a:=x) t (by simpa using e);exact⟨u,by simpa using h1,h2⟩
noncomputable def Am (due:Aa) (n:Nat):List Str:=((AI due).filter fun m=>decide (m &&& n≠0)).map (BP (AU due))
theorem A7 (due:Aa):(AI due).length <= due.length:=Nat.le_trans (ZS _ _) (Ed due)
section
inductive spVMarks (C VC:Addr) (vs:List V) (H:Hp) (Q:VK) (_E:XK):Prop where
 |mk (p kp:Addr) (n:Nat) (due:Aa) (r:Str) (cE:vs=[.ref p]) (cD:cJ VC H p kp n) (cH:aF C H kp due r) (dH:due.length <= 60) (eT:∀l H',aB H H'->H' l=some (.lst ((Am due n).map V.str))->Q (.ref l) H')
theorem Qu:AL ["self"] ["self"] (defScope D6):=cB
theorem O2 (F:aW K "marks" "Value.marks" D6 f fd) (T:Dj K C) (VT:G7 K VC) (GM:Mt P w K mg base C "marks" 2 ["self"] (spMarks C)):AY P w K mg base aO 3 f fd ["self"] (spVMarks C VC):=by
 obtain⟨fM,dM,GM,mM,bM⟩:=GM.ex;refine F.m Qu fun vs H Q E h=>?_;obtain⟨p,kp,n,due,r,rfl,⟨dx,hp⟩,KA,iU,k⟩:=h;refine⟨rfl,fun ac A outer s hr=>?_⟩;obtain⟨jK,d1,d2,ah⟩:=KA.ins
 refine⟨_,AD (AR (DQ ["self"] [some 0] qd qb qd qd rfl (Ao (Aj (Ak (pv 0) rfl) T.cl mM GM hr bM .nil AN))
  (fun _ _ _ _ _ _=>C4 (AS CI (AX Bw (pv 1) (No K rfl (pv 2) rfl)) AJ (AW _))) (fun _ _ _ _ _ _=>pv 0))),?_⟩
 refine⟨_,rfl,p,VC,dx,_,_,rfl,hp,VT.cl,VT.nK,Fs _ _,kp,jK,_,rfl,ah,(Br _ _ _),kp,due,r,rfl,KA,iU,fun l as H1 s1 hl ht=>?_⟩;have av:=A7 due;have ax:as.length=(AI due).length:=by rw[ht.length];unfold CA;rw[AH]
 refine⟨l,rfl,⟨_,aH.of hl⟩,Aw (K:=K) (a:=l) (xs:=as.map V.ref) (fun i ys H2=>ys=((((AI due).take i).filter fun m=>decide (m &&& n≠0)).map (BP (AU due))).map V.str/\H2=H1) ⟨rfl,rfl⟩ (fun i ys H2 _ ⟨_,e⟩=>e ▸ aH.of hl) (fun i ys H2 ⟨e,_⟩=>?_) ?_ ?_⟩
 ·rw[e,AH,AH];have h3:(((AI due).take i).filter fun m=>decide (m &&& n≠0)).length <= ((AI due).take i).length:=ZS _ _;rw[ZA]at h3;omega
 ·rintro i v ys H2 hi ⟨rfl,rfl⟩;rw[ZE]at hi;obtain⟨b,hb,rfl⟩:=Z6.mp hi
  obtain⟨pr,eZ,aj⟩:∃pr,(CA due)[i]?=some pr/\H2 b=some (.tup [pr.1,pr.2]):=by
   exact Gs ht hb
  unfold CA at eZ;rw[ZE]at eZ;obtain⟨m,hm,rfl⟩:=Z6.mp eZ;refine⟨b,_,rfl,aY.of aj,rfl,_,_,rfl,_,_,rfl,rfl,?_⟩;refine⟨_,rfl,_,rfl,p,VC,dx,_,_,rfl,s1 _ _ hp,VT.cl,VT.nB,Ft _ _,_,_,rfl,rfl,rfl,_,rfl,?_⟩;have et:(((AI due).take (i + 1)).filter fun m=>decide (m &&& n≠0))=((AI due).take i).filter (fun m=>decide (m &&& n≠0))++(if decide (m &&& n≠0)then [m]else []):=PySem.take_succ_filter (fun m=>decide (m &&& n≠0)) _ i m hm
  have ed:(!decide (V.int (Builtin.bitAnd (m:Int) (n:Int))=V.int 0))=decide (m &&& n≠0):=by
   rw[CS];by_cases z:m &&& n=0
   ·rw[z];rfl
   ·rw[ZL z,ZO (fun y=>z (by have:=V.int.inj y;omega))];rfl
  show if (!decide (V.int (Builtin.bitAnd (m:Int) (n:Int))=V.int 0))=true then _ else _
  rw[ed];refine By (fun hq=>?_) (fun hq=>?_)
  ·refine⟨_,rfl,?_,rfl⟩;rw[et,Zp hq,Zu,Zu];rfl
  ·refine⟨?_,rfl⟩;rw[et,Zq hq,Zt]
 ·rintro ys H2 ⟨rfl,rfl⟩ q hq;have el:(AI due).take (as.map V.ref).length=AI due:=by rw[AH,ax];exact ZB
  rw[el];exact k q _ (AC s1 hq) aA
inductive spMarkBits (C:Addr) (vs:List V) (H:Hp) (Q:VK) (_E:XK):Prop where
 |mk (kp:Addr) (due:Aa) (r:Str) (cE:vs=[.ref kp]) (cD:aF C H kp due r) (cH:due.length <= 60) (dH:∀H',aB H H'->Q (.int (Ab (AI due):Nat)) H')
theorem NG:AL ["kind"] ["kind"] (defScope Gb):=cB
theorem Ll (F:aW K "mark_bits" "mark_bits" Gb f fd) (T:Dj K C) (GM:Mt P w K mg base C "marks" 2 ["self"] (spMarks C)) (GU:Fn P w K mg base "union_of" 1 ["numbers"] (spUnionOf K)):AY P w K mg base aO 3 f fd ["kind"] (spMarkBits C):=by
 obtain⟨fM,dM,GM,mM,bM⟩:=GM.ex;obtain⟨fU,dU,GU,mU,kU,bU⟩:=GU.ex;refine F.m NG fun vs H Q E h=>?_;obtain⟨kp,due,r,rfl,KA,iU,k⟩:=h;refine⟨rfl,fun ac A outer s hr=>?_⟩;obtain⟨jK,d1,d2,ah⟩:=KA.ins;have cN:aG 1 _:=hr.mono qc;refine⟨_,AD (AR (AM GU cN rfl mU kU bU .nil AN (AA (DQ [] [] qd qb qd qd rfl (Ao (Aj (pv 0) T.cl mM GM hr bM .nil AN)) (fun _ _ _ _ _ _=>BF) (fun _ _ _ _ _ _=>pv 1)) AB))),?_⟩;refine⟨_,rfl,kp,jK,_,rfl,ah,(Br _ _ _),kp,due,r,rfl,KA,iU,fun l as H1 s1 hl ht=>?_⟩;have av:=A7 due;have ax:as.length=(AI due).length:=by rw[ht.length];unfold CA;rw[AH]
 refine⟨l,rfl,⟨_,aH.of hl⟩,Aw (K:=K) (a:=l) (xs:=as.map V.ref) (fun i ys H2=>ys=Af ((AI due).take i)/\H2=H1) ⟨rfl,rfl⟩ (fun i ys H2 _ ⟨_,e⟩=>e ▸ aH.of hl) (fun i ys H2 ⟨e,_⟩=>?_) ?_ ?_⟩
 ·rw[e];unfold Af;rw[AH,ZA];omega
 ·rintro i v ys H2 hi ⟨rfl,rfl⟩;rw[ZE]at hi;obtain⟨b,hb,rfl⟩:=Z6.mp hi;obtain⟨pr,eZ,aj⟩:∃pr,(CA due)[i]?=some pr/\H2 b=some (.tup [pr.1,pr.2]):=Gs ht hb;unfold CA at eZ;rw[ZE]at eZ;obtain⟨m,hm,rfl⟩:=Z6.mp eZ;refine⟨b,_,rfl,aY.of aj,rfl,_,_,rfl,_,_,rfl,rfl,_,rfl,?_,rfl⟩;rw[ZD,hm,Option.toList_some];unfold Af;rw[Zu];rfl
 ·rintro ys H2 ⟨rfl,rfl⟩ q hq;have el:(AI due).take (as.map V.ref).length=AI due:=by rw[AH,ax];exact ZB
  rw[el];exact⟨q,AI due,rfl,aH.of aA,k _ (AC s1 hq)⟩
inductive spVRest (C VC:Addr) (vs:List V) (H:Hp) (Q:VK) (_E:XK):Prop where
 |mk (p kp:Addr) (n:Nat) (due:Aa) (r:Str) (cE:vs=[.ref p]) (cD:cJ VC H p kp n) (cH:aF C H kp due r) (dH:due.length <= 60) (eT:∀H',aB H H'->Q (.int ((n - (n &&& Ab (AI due)):Nat):Int)) H')
theorem Sg:AL ["self"] ["self"] (defScope FB):=cB
theorem Qw (F:aW K "rest" "Value.rest" FB f fd) (VT:G7 K VC) (GB:Fn P w K mg base "mark_bits" 3 ["kind"] (spMarkBits C)):AY P w K mg base aO 4 f fd ["self"] (spVRest C VC):=by
 obtain⟨fB,dB,GB,mB,kB,bB⟩:=GB.ex;refine F.m Sg fun vs H Q E h=>?_;obtain⟨p,kp,n,due,r,rfl,⟨dx,hp⟩,KA,iU,k⟩:=h;refine⟨rfl,fun ac A outer s hr=>?_⟩;refine⟨_,AD (AR (AX Bw (Ak (pv 0) rfl) (PX Pa (AM GB hr rfl mB kB bB .nil AN (AA (Ak (pv 0) rfl) AB))))),?_⟩;refine⟨_,rfl,p,VC,dx,_,_,rfl,hp,VT.cl,VT.nB,Ft _ _,_,rfl,p,VC,dx,_,_,rfl,hp,VT.cl,VT.nK,Fs _ _,kp,due,r,rfl,KA,iU,fun H1 s1=>⟨_,rfl,_,_,rfl,rfl,?_⟩⟩;show Q (V.int (Builtin.bitAnd (n:Int) (Builtin.bitNot ((Ab (AI due):Nat):Int)))) H1;rw[IB];exact k H1 s1
end
section
theorem Lm {X:Cx}{e:Expr}:PE X e (fun _ _ _=>False):=fun _ _ _ _ _ _ h=>h.elim
inductive spLMade (vs:List V) (H:Hp) (Q:VK) (_E:XK):Prop where
 |mk (t e m:Addr) (due:Aa) (r:Str) (n:Nat) (cE:vs=[.ref t,.str r,.int (n:Int)]) (cD:H t=some (.dK (NC due e m))) (cH:n &&& kn due=n) (dH:Q (.int (n:Int)) H)
theorem scLMade:AL ["_law_table", "_law_way", "_law_number", "_law_plain", "_law_strange"] ["_law_table", "_law_way", "_law_number"] (defScope IP):=cB
theorem Qx (F:aW K "_law_made" "_law_made" IP f fd):AY P w K mg base aO 1 f fd ["_law_table", "_law_way", "_law_number"] spLMade:=by
 refine F.m scLMade fun vs H Q E h=>?_;obtain⟨t,e,m,due,r,n,rfl,ht,hn,k⟩:=h;refine⟨rfl,fun ac A outer s hr=>?_⟩;have hu:=B6 hr
 refine⟨_,AE (Ag (i:=3) scLMade.nd rfl (Or.inl rfl) (DH (AS NV (pv 2) AJ (AW _)) (pv 2) Lm))
  (AE (Ag (i:=4) scLMade.nd rfl (Or.inl rfl) (AX HM (pv 3) (AX Bw (pv 3) (A2 hu (pv 0) Ae (fun _ _=>rfl)))))
  (AE (An (PW.pt (Ca (AS HS (pv 4) AJ (AW _)) (Bv (AS DI (pv 1) Ae (AW _))))) (AD Ah) AT)
  (AE (An (AS HR (pv 2) AJ (AW _)) (AD Ah) AT)
  (AE (An (PW.pt (Ca (AS HS (pv 4) AJ (AW _)) (Bv (AS DI (pv 1) Ae (AW _))))) (AD Ah) AT)
  (AD (AR (DH (AS DI (pv 1) Ae (AW _)) (pv 2) (AX Bw (pv 2) (A2 hu (pv 0) Ae (fun _ _=>rfl)))))))))),?_⟩
 have ea:Builtin.bitAnd ((n:Nat):Int) ((Ab (due.map (·.2)):Nat):Int)=(n:Int):=by
  rw[CS];exact congrArg (fun z:Nat=>(z:Int)) hn
 have es:(fun i j=>V.int (i - j)) ((n:Nat):Int) (Builtin.bitAnd ((n:Nat):Int) ((Ab (due.map (·.2)):Nat):Int))=V.int 0:=by
  show V.int (((n:Nat):Int) - Builtin.bitAnd _ _)=_;rw[ea,Int.sub_self]
 refine⟨_,rfl,_,_,rfl,rfl,_,rfl,?_⟩;rw[ZL (show(0:Int) <= (n:Int)from Z1 _)];refine BX ⟨_,rfl,?_⟩;refine⟨_,rfl,_,rfl,_,rfl,t,_,rfl,.inl ⟨_,Sum.inr "known", .inl ht,rfl,(Jn _ _ _).symm⟩,_,_,rfl,rfl,_,_,rfl,rfl,?_⟩;refine⟨_,congrArg (fun z=>some (some z)) es,_,_,rfl,rfl,_,rfl,Aq (Aq ?_)⟩;refine⟨_,rfl,_,_,rfl,rfl,_,rfl,?_⟩;rw[ZO (show ¬ (n:Int) < 0 by omega)];refine Aq ⟨_,congrArg (fun z=>some (some z)) es,_,_,rfl,rfl,_,rfl,Aq (Aq ?_)⟩;refine⟨_,rfl,rfl,_,rfl,?_⟩;refine By (fun _=>⟨_,rfl,k⟩) (fun _=>⟨_,rfl,_,rfl,t,_,rfl,.inl ⟨_,Sum.inr "known", .inl ht,rfl,(Jn _ _ _).symm⟩,_,_,rfl,rfl,?_⟩);show Q (V.int (Builtin.bitAnd _ _)) H;rw[ea];exact k
end
section
theorem Ij {ns:List Str} (hs:∀x∈ns,x∈due.map (·.1)):Ab (ns.map (look due)) - (Ab (ns.map (look due)) &&& kn due)=0:=by
 have h:Ab (ns.map (look due)) &&& kn due=Ab (ns.map (look due)):=by
  refine Nat.eq_of_testBit_eq fun k=>?_;rw[Nat.testBit_and];cases e:(Ab (ns.map (look due))).testBit k with
  |false=>rfl
  |true =>
   rw[B0,any_map,any_eq_true]at e;obtain⟨x,hx,hb⟩:=e;simp only[Function.comp]at hb
   have:(kn due).testBit k=true:=by
    unfold kn;rw[B0,any_map,any_eq_true];unfold look at hb;cases q:due.find? fun p=>decide (p.1=x)with
    |none=>rw[q]at hb;simp at hb
    |some p=>rw[q]at hb;exact⟨p,List.mem_of_find?_eq_some q,hb⟩
   rw[this];rfl
 omega
theorem Ln {ns:List Str} (h:∀p∈due,p.2 < 2 ^ 20):Ab (ns.map (look due)) < 2 ^ 20:=by
 refine Fg fun n hn=>?_;obtain⟨x,_,rfl⟩:=Zr.mp hn;unfold look;cases q:due.find? fun p=>decide (p.1=x)with
 |none=>show 0 < 2 ^ 20;decide
 |some p=>exact h p (List.mem_of_find?_eq_some q)
inductive spVOf (C VC:Addr) (vs:List V) (H:Hp) (Q:VK) (_E:XK):Prop where
 |mk (kp l:Addr) (due:Aa) (r:Str) (ns:List Str) (cE:vs=[.ref kp,.ref l]) (cD:aF C H kp due r) (cH:H l=some (.lst (ns.map V.str))) (dH:ns.length <= 100) (eT:(∀x∈ns,x∈due.map (·.1))) (gm:(∀p∈due,p.2 < 2 ^ 20)) (iB:∀q H',aB H H'->cJ VC H' q kp (Ab (ns.map (look due)))->Q (.ref q) H')
theorem O3:AL ["kind", "names"] ["kind", "names"] (defScope IH):=cB
theorem NH (F:aW K "value_of" "value_of" IH f fd) (B:Bl mg) (T:Dj K C) (VO:Li P w K mg base C VC) (GU:Fn P w K mg base "union_of" 1 ["numbers"] (spUnionOf K)) (GNu:Mt P w K mg base C "number" 2 ["self", "name"] (spNumber C)) :
  AY P w K mg base aO 6 f fd ["kind", "names"] (spVOf C VC):=by
 obtain⟨fU,dU,GU,mU,kU,bU⟩:=GU.ex;obtain⟨fN,dN,GN,mN,bN⟩:=GNu.ex;obtain⟨fI,dI,MI,GI,bI⟩:=VO.make;have mV:=VO.cls;refine F.m O3 fun vs H Q E h=>?_;obtain⟨kp,l,due,r,ns,rfl,KA,hl,hn,hs,hlt,k⟩:=h;refine⟨rfl,fun ac A outer s hr=>?_⟩;have cN:aG 1 _:=hr.mono qc;have ff:aG 2 _:=hr.mono qc;obtain⟨jK,d1,d2,ah⟩:=KA.ins;have gZ:(ns.map V.str).length=ns.length:=AH _
 have step:∀(Hx:Hp),aB H Hx->∀(i:Nat) (v:V) (ys:List V),(ns.map V.str)[i]?=some v->ys=Af ((ns.take i).map (look due))->∃x,v=V.str x/\x∈due.map (·.1)/\ys++[V.int (look due x:Nat)]=Af ((ns.take (i + 1)).map (look due)):=by
  intro Hx sx i v ys hi e;rw[ZE]at hi;obtain⟨x,hx,rfl⟩:=Z6.mp hi;refine⟨x,rfl,hs x (ZQ hx),?_⟩;rw[e,ZD,hx,Option.toList_some,Zu];unfold Af;rw[Zu];rfl
 have el:ns.take (ns.map V.str).length=ns:=by rw[gZ];exact ZB
 refine⟨_,AE (An (A9 (A5 (AV (Mb K rfl) rfl B.eO EB (AA (pv 1) (AA (BB (AA (C1 (v:=.ty "list") rfl B.list B9 rfl) (AA (C1 (v:=.ty "tuple") rfl B.tuple Bd rfl) AB))) AB))))) (AD Ah) AT)
  (AD (AR (EY MI GI hr rfl mV bI .nil AN (AA (pv 0) (AA (AM GU cN rfl mU kU bU .nil AN (AA (A3 ["kind"] [some 0] qd qb qd rfl (Ao (pv 1)) (fun _ _ _ _ _ _=>BF) (fun _ _ _ _ _ _=>Bp (pv 1) T.cl mN GN ff bN .nil AN (AA (pv 0) AB))) AB)) AB))))),?_⟩
 refine⟨_,rfl,gc,fun t ht=>?_⟩;have s1:=AC (aB.refl _) ht (o:=HO.tup [V.ty "list", V.ty "tuple"]);refine⟨l,t,_,rfl,.inl (s1 _ _ hl),aY.of aA,_,rfl,?_⟩;refine Aq ?_;refine⟨_,rfl,_,rfl,l,rfl,⟨_,aH.of (s1 _ _ hl)⟩,Aw (K:=K) (a:=l) (xs:=ns.map V.str) (fun i ys H2=>ys=Af ((ns.take i).map (look due))/\H2=upd H t (.tup [V.ty "list", V.ty "tuple"])) ⟨rfl,rfl⟩ (fun i ys H2 _ ⟨_,e⟩=>e ▸ aH.of (s1 _ _ hl)) (fun i ys H2 ⟨e,_⟩=>?_) ?_ ?_⟩
 ·rw[e];unfold Af;rw[AH,AH,ZA];omega
 ·rintro i v ys H2 hi ⟨e,rfl⟩;obtain⟨x,rfl,hx,ey⟩:=step _ s1 i v ys hi e;exact⟨_,rfl,kp,jK,_,rfl,s1 _ _ ah,(Br _ _ _),_,rfl,kp,due,r,x,rfl,KA.same s1,hx,ey,rfl⟩
 ·rintro ys H2 ⟨rfl,rfl⟩ p hp;rw[el];have s2:=s1.trans (AC (aB.refl _) hp (o:=HO.lst (Af (ns.map (look due)))));refine⟨p,ns.map (look due),rfl,aH.of aA,?_⟩;intro q dq hq jH az;have sN:=Bu (D:=VC) hq jH az;refine⟨q,dq,kp,due,r,Ab (ns.map (look due)),rfl,aA,(KA.same s2).same sN,?_,.inr (Ij hs),fun H3 s3 hV=>⟨rfl,?_⟩⟩
  ·have:=Ln (ns:=ns) hlt;have h2:(2:Nat) ^ 20 < 2 ^ 40:=by decide
   omega
  ·exact k q H3 (s2.trans (Bg sN hq s3)) hV
end
theorem HD:bootBuiltins "dict" = some (.type "dict"):=by decide +kernel
abbrev Ent:=Str×Addr×List Str
noncomputable def cY (es:List Ent):LK:=es.map fun q=>((Sum.inr q.1:Key),V.ref q.2.1)
def gW (H:Hp) (a:Addr) (q:Ent):Prop:=H a=some (.tup [.str q.1,.ref q.2.1])/\H q.2.1=some (.tup (q.2.2.map V.str))
theorem gW.same {a:Addr}{q:Ent} (s:∀b xs,H b=some (.tup xs)->H' b=some (.tup xs)) (h:gW H a q):gW H' a q:=⟨s _ _ h.1,s _ _ h.2⟩
noncomputable def Cf (due:Aa):LK:=(AI due).map fun n=>((Sum.inr (BP (AU due) n):Key),V.int (n:Int))
noncomputable def kM (due:Aa):LK:=BZ [] (Cf due)
noncomputable def kN (due:Aa):LK:=BZ [] (A8 due)
noncomputable def JJ (told:LK) (ys:LK) (kv:Key×V):LK:=match As told kv.1 with |some v=>BV ys kv.1 v |none=>ys
noncomputable def Fu (km told:LK):LK:=km.foldl (JJ told) []
theorem Qy (told ys:LK) (kv:Key×V):(JJ told ys kv).length <= ys.length + 1:=by
 unfold JJ;split
 ·exact Bm _ _ _
 ·omega
theorem Lo (told:LK):∀(km ys:LK),(km.foldl (JJ told) ys).length <= ys.length + km.length
 | [],ys=>Zy _
 |kv :: r,ys=>by
  have h1:=Lo told r (JJ told ys kv);have h2:=Qy told ys kv;rw[foldl_cons,length_cons];omega
theorem NI {km told:LK}{i:Nat}{kv:Key×V} (h:km[i]?=some kv):Fu (km.take (i + 1)) told=JJ told (Fu (km.take i) told) kv:=by
 unfold Fu;rw[ZD,h,foldl_append];rfl
theorem UX (due:Aa):(kM due).length <= due.length:=by
 have h1:=IA (Cf due) [];have h2:=A7 due;have h3:(Cf due).length=(AI due).length:=AH _;unfold kM;rw[length_nil]at h1;omega
theorem Ny {as:List Addr}{ps:LK} (t:aE H as (ps.map fun q=>(kV q.1,q.2))):as.length=ps.length/\∀(i:Nat) b q,as[i]?=some b->ps[i]?=some q->aY K H b [kV q.1,q.2]:=by
 refine⟨by rw[t.length,AH],fun i b q hb hq=>?_⟩;obtain⟨p,hp,h⟩:=Bz t hb;rw[ZE,hq]at hp;cases hp;exact aY.of h
theorem Lp (due:Aa):CA due=(Cf due).map fun q=>(kV q.1,q.2):=by
 unfold CA Cf;rw[map_map];rfl
theorem Lq:∀ {as:List Addr}{es:List Ent},Paired (gW H) as es->aE H as ((cY es).map fun q=>(kV q.1,q.2))
 |_,_,.nil=>.nil
 |_,_,.cons q p=>.cons q.1 (Lq p)
section
inductive spEnt (vs:List V) (H:Hp) (Q:VK) (_E:XK):Prop where
 |mk (a dm dn:Addr) (km kn:LK) (q:Ent) (cE:vs=[.ref a,.ref dm,.ref dn]) (cD:Rd H dm (.dK km)) (cH:Rd H dn (.dK kn)) (dH:gW H a q) (eT:(As km (Sum.inr q.1:Key)).isSome=true) (gm:q.2.2.length <= 1000) (iB:(∀y∈q.2.2,(As kn (Sum.inr y:Key)).isSome=true)) (jy:∀H',aB H H'->Q (.bl true) H')
theorem Vd:AL ["thing", "marks", "names"] ["thing", "marks", "names"] (defScope II):=cB
theorem UY (F:aW K "is_entry" "is_entry" II f fd) (B:Bl mg) (GO:Fn P w K mg base "is_one_of" 1 ["thing", "names"] (CO K)):AY P w K mg base aO 2 f fd ["thing", "marks", "names"] spEnt:=by
 obtain⟨fO,dO,GO,mO,kO,bO⟩:=GO.ex;refine F.m Vd fun vs H Q E h=>?_;obtain⟨a,dm,dn,km,kn,⟨x,c,ns⟩,rfl,hm,hn,⟨ha,hc⟩,h1,hl,h2,k⟩:=h;refine⟨rfl,fun ac A outer s hr=>?_⟩;have iI:ns.length <= 1000:=hl;have hu:=B6 hr
 refine⟨_,AE (An (PW.pt (CH (A9 (A5 (Bi K rfl rfl B.eO rfl B.tuple Bd (pv 0)))) (CH (AS CI (AV (Au K rfl) rfl B.len PySem.boot_len (AA (pv 0) AB)) AJ (AW _))
   (Bk (A9 (A5 (Bi K rfl rfl B.eO rfl B.tuple Bd (Bc (Dh K rfl) (pv 0) AJ (fun _ _=>rfl))))))))) (AD Ah) AT)
  (AD (AR (Cb (AM GO hr rfl mO kO bO .nil AN (AA (Bc (Dh K rfl) (pv 0) AJ (fun _ _=>rfl)) (AA (pv 1) AB)))
   (DB (AV (Cq rfl) rfl B.all FJ (AA (A3 ["names"] [some 2] qd qb qd rfl (F7 (Bc (Dh K rfl) (pv 0) AJ (fun _ _=>rfl))) (fun _ _ _ _ _ _=>BF)
    (fun _ _ _ _ _ _=>AM GO hr rfl mO kO bO .nil AN (AA (pv 0) (AA (pv 1) AB)))) AB)))))),?_⟩
 refine⟨_,rfl,_,_,_,true,rfl,.tup ha,rfl,_,rfl,Aq ?_⟩;refine⟨_,rfl,a,_,rfl,.inr (aY.of ha),rfl,_,rfl,?_⟩;refine Kw rfl ?_;refine⟨_,rfl,a,_,_,_,rfl,rfl,aY.of ha,rfl,_,_,_,true,rfl,.tup hc,rfl,_,rfl,Aq ?_⟩;refine⟨_,rfl,a,_,_,_,rfl,rfl,aY.of ha,rfl,_,rfl,.inl ⟨x,dm,km,rfl,hm,_,rfl,?_⟩⟩;rw[h1];refine BX ?_;refine⟨_,rfl,a,_,_,_,rfl,rfl,aY.of ha,rfl,c,rfl,⟨_,aY.of hc⟩,Dw (K:=K) (a:=c) (xs:=ns.map V.str) (fun i zs H2=>H2=H/\zs=(ns.take i).map fun _=>V.bl true) ⟨rfl,rfl⟩ (fun i zs H2 _ ⟨e,_⟩=>e ▸ aY.of hc) (fun i zs H2 ⟨_,e⟩=>by rw[e,AH,ZA];omega) ?_ ?_⟩
 ·rintro i z zs H2 hi ⟨rfl,rfl⟩;rw[ZE]at hi;obtain⟨y,hy,rfl⟩:=Z6.mp hi;refine⟨_,rfl,_,rfl,.inl ⟨y,dn,kn,rfl,hn,rfl,?_⟩⟩;rw[h2 y (ZQ hy),ZD,hy,Zu];rfl
 ·rintro zs H2 ⟨rfl,rfl⟩ q hq;refine⟨q,(ns.take (ns.map V.str).length).map fun _=>true,rfl,aH.of (by rw[aA,map_map];rfl),?_⟩;rw[show(((ns.take (ns.map V.str).length).map fun _=>true).all id)=true by rw[all_map];exact List.all_eq_true.mpr fun _ _=>rfl];exact k _ (AC (aB.refl _) hq)
structure Prs (due aD:Aa) (H:Hp) (l:Addr) (es:List Ent):Prop where
 at_:∃as:List Addr,H l=some (.lst (as.map V.ref))/\Paired (gW H) as es
 len:es.length <= 100
 nd:(es.map (·.1)).Nodup
 mr:∀q∈es,(As (kM due) (Sum.inr q.1:Key)).isSome=true
 nm:∀q∈es,q.2.2.length <= 3/\∀y∈q.2.2,(As (kN aD) (Sum.inr y:Key)).isSome=true
theorem Gu:∀(ps kvs:LK),(ps.map (·.1)).Nodup->(∀k∈ps.map (·.1),As kvs k=none)->BZ kvs ps=kvs++ps
 | [],kvs,_,_=>(Zt _).symm
 |p :: r,kvs,hn,hk=>by
  rw[map_cons,Zs]at hn;have e:BV kvs p.1 p.2=kvs++[(p.1,p.2)]:=DL p.2 (hk _ (ZI ..));show BZ (BV kvs p.1 p.2) r=_;rw[Gu r _ hn.2 fun k hkr=>?_,e,List.append_assoc]
  ·rfl
  ·rw[HZ,Zq (show ¬ k=p.1 from fun z=>hn.1 (z ▸ hkr))];exact hk k (ZR _ hkr)
theorem C8 {α β:Type}{f:α->β}:∀ {l:List α},l.Nodup->(∀a∈l,∀b∈l,f a=f b->a=b)->(l.map f).Nodup
 | [],_,_=>nodup_nil
 |a :: r,hn,h=>by
  rw[Zs]at hn;rw[map_cons,Zs];refine⟨fun z=>?_,C8 hn.2 fun b hb c hc=>h b (ZR _ hb) c (ZR _ hc)⟩;obtain⟨b,hb,e⟩:=Zr.mp z;exact hn.1 (h a (ZI ..) b (ZR _ hb) e.symm ▸ hb)
theorem Qz {es:List Ent} (h:(es.map (·.1)).Nodup):((cY es).map (·.1)).Nodup:=by
 have e:(cY es).map (·.1)=(es.map (·.1)).map (fun x=>(Sum.inr x:Key)):=by unfold cY;rw[map_map,map_map];rfl
 rw[e];exact C8 h fun a _ b _ e=>Sum.inr.inj e
theorem Q0 {es:List Ent} (h:(es.map (·.1)).Nodup):BZ [] (cY es)=cY es:=by
 rw[Gu _ _ (Qz h) fun _ _=>rfl,nil_append]
inductive spTab (C:Addr) (vs:List V) (H:Hp) (Q:VK) (_E:XK):Prop where
 |mk (k o l:Addr) (due aD:Aa) (r r2:Str) (es:List Ent) (cE:vs=[.ref k,.ref o,.ref l]) (cD:aF C H k due r) (cH:due.length <= 60) (dH:aF C H o aD r2) (eT:aD.length <= 60) (gm:Prs due aD H l es) (iB:∀d H',aB H H'->H d=none->H' d=some (.dK (Fu (kM due) (cY es)))->Q (.ref d) H')
theorem scTab:AL ["kind", "other", "pairs", "marks", "names", "told"] ["kind", "other", "pairs"] (defScope IJ):=cB
theorem UZ (F:aW K "table_of" "table_of" IJ f fd) (B:Bl mg) (hD:mg "dict" = none) (T:Dj K C) (GM:Mt P w K mg base C "marks" 2 ["self"] (spMarks C)) (GR:Mt P w K mg base C "rows" 1 ["self"] (spRows C)) (GE:Fn P w K mg base "is_entry" 2 ["thing", "marks", "names"] spEnt) :
  AY P w K mg base aO 3 f fd ["kind", "other", "pairs"] (spTab C):=by
 obtain⟨fM,dM,GM,mM,bM⟩:=GM.ex;obtain⟨fR,dR,GR,mR,bR⟩:=GR.ex;obtain⟨fE,dE,GE,mE,kE,bE⟩:=GE.ex;refine F.m scTab fun vs H Q E h=>?_;obtain⟨k,o,l,due,aD,r,r2,es,rfl,KA,iU,KB,h60',PR,q⟩:=h;refine⟨rfl,fun ac A outer s hr=>?_⟩;have hu:=B6 hr;have ff:aG 1 _:=hr.mono qc
 refine⟨_,AE (Ag (i:=3) scTab.nd rfl (Or.inr rfl) (BK (DX rfl) rfl hD HD (AA (Aj (pv 0) T.cl mM GM hr bM .nil AN) AB)))
  (Cp (AE (Ag (i:=4) scTab.nd rfl (Or.inr rfl) (BK (DX rfl) rfl hD HD (AA (Aj (pv 1) T.cl mR GR ff bR .nil AN) AB)))
  (AE (An (PW.pt (CH (A9 (A5 (Bi K rfl rfl B.eO rfl B.list B9 (pv 2)))) (Bk (A9 (A5 (AV (Cq rfl) rfl B.all FJ (AA (A3 ["marks", "names"] [some 3,some 4] qd qb qd rfl (Ao (pv 2)) (fun _ _ _ _ _ _=>BF)
    (fun _ _ _ _ _ _=>AM GE hr rfl mE kE bE .nil AN (AA (pv 0) (AA (pv 1) (AA (pv 2) AB))))) AB))))))) (AD Ah) AT)
  (AE (Ag (i:=5) scTab.nd rfl (Or.inr rfl) (BK (DX rfl) rfl hD HD (AA (pv 2) AB)))
  (AE (An (AS HR (AV OJ rfl B.len PySem.boot_len (AA (pv 5) AB)) (AV (Au K rfl) rfl B.len PySem.boot_len (AA (pv 2) AB)) (AW _)) (AD Ah) AT)
  (AD (AR (Oc ["told"] [some 5] qd qb qd rfl (SI (pv 3)) (fun _ _ _ _ _ _=>C4 (CZ (MQ hu (pv 0) (pv 1)))) (fun _ _ _ _ _ _=>pv 0) (fun _ _ _ _ _ _=>A2 hu (pv 1) (pv 0) (fun _ _=>rfl)))))))))),?_⟩
 obtain⟨dk,e1,e2,hk⟩:=KA.ins;obtain⟨dq,g1,g2,ho⟩:=KB.ins;obtain⟨as,hl,kg⟩:=PR.at_;have ax:as.length=es.length:=kg.length;have hz:=PR.len;refine⟨_,rfl,k,dk,_,rfl,hk,(Br _ _ _),k,due,r,rfl,KA,iU,fun l1 as1 H1 s1 ku kf=>?_⟩;rw[Lp]at kf;obtain⟨n1,q1⟩:=Ny (K:=K) kf
 have z1:(Cf due).length <= 1000:=by
  have h3:(Cf due).length=(AI due).length:=AH _;have:=A7 due;omega
 refine⟨l1,as1,Cf due,rfl,aH.of ku,n1,z1,q1,fun dm hdm=>?_⟩;refine⟨dm,kM due,aA,fun om=>?_⟩;rw[FP];have s2:aB H (upd H1 dm (.dA om (.dK (kM due)))):=AC s1 hdm;refine⟨_,rfl,o,dq,_,rfl,s2 _ _ ho,(Br _ _ _),o,aD,r2,rfl,KB.same s2,fun l3 as3 H3 s3 jG jF=>?_⟩;rw[←Nr]at jF;obtain⟨n3,q3⟩:=Ny (K:=K) jF;refine⟨l3,as3,A8 aD,rfl,aH.of jG,n3,by rw[Ec];omega,q3,fun dn fk=>?_⟩;have s4:aB H (upd H3 dn (.dK (kN aD))):=AC (s2.trans s3) fk
 have hm4:(upd H3 dn (.dK (kN aD))) dm=some (.dA om (.dK (kM due))):=by
  have:=s3 _ _ (aA (H:=H1) (a:=dm) (o:=.dA om (.dK (kM due))));rw[AF (AG this fk)];exact this
 have hn4:(upd H3 dn (.dK (kN aD))) dn=some (.dK (kN aD)):=aA;rw[show BZ [] (A8 aD)=kN aD from rfl];generalize upd H3 dn (.dK (kN aD))=H4 at s4 hm4 hn4 ⊢;refine⟨_,rfl,_,_,_,true,rfl,.lst (s4 _ _ hl),rfl,_,rfl,Aq ?_⟩;refine⟨_,rfl,l,rfl,⟨_,aH.of (s4 _ _ hl)⟩,Aw (K:=K) (a:=l) (xs:=as.map V.ref) (fun i ys H5=>aB H4 H5/\ys=(as.take i).map fun _=>V.bl true) ⟨aB.refl _,rfl⟩ (fun i ys H5 _ ⟨e,_⟩=>aH.of (e _ _ (s4 _ _ hl))) (fun i ys H5 ⟨_,e⟩=>by rw[e,AH,ZA];omega) ?_ ?_⟩
 ·rintro i z ys H5 hi ⟨s5,rfl⟩;rw[ZE]at hi;obtain⟨a,ha,rfl⟩:=Z6.mp hi;obtain⟨en,hen,hE⟩:=Bz kg ha;have bv:=ZQ hen;refine⟨_,rfl,_,rfl,_,rfl,a,dm,dn,kM due,kN aD,en,rfl,.inr ⟨om,s5 _ _ hm4⟩,.inl (s5 _ _ hn4),hE.same (fun b xs e=>s5 _ _ (s4 _ _ e)),PR.mr _ bv,by have:=(PR.nm _ bv).1;omega,(PR.nm _ bv).2,fun H6 s6=>⟨s5.trans s6,?_⟩⟩;rw[ZD,ha,Zu];rfl
 ·rintro ys H5 ⟨s5,rfl⟩ q5 hq5;have sq:=AC s5 hq5 (o:=HO.lst ((as.take (as.map V.ref).length).map fun _=>V.bl true));refine⟨q5,(as.take (as.map V.ref).length).map fun _=>true,rfl,aH.of (by rw[aA,map_map];rfl),_,rfl,?_⟩;rw[show(((as.take (as.map V.ref).length).map fun _=>true).all id)=true by rw[all_map];exact List.all_eq_true.mpr fun _ _=>rfl];refine Aq ?_;generalize upd H5 q5 (HO.lst ((as.take (as.map V.ref).length).map fun _=>V.bl true))=H6 at sq ⊢;have s6:aB H H6:=s4.trans sq;obtain⟨n6,q6⟩:=Ny (K:=K) (aE.same s6 (Lq kg));have hkl:(cY es).length=es.length:=AH _;refine⟨_,rfl,l,as,cY es,rfl,aH.of (s6 _ _ hl),n6,qe,q6,fun dt hdt=>?_⟩;rw[Q0 PR.nd];have s7:aB H6 (upd H6 dt (.dK (cY es))):=AC (aB.refl _) hdt;have ht7:(upd H6 dt (.dK (cY es))) dt=some (.dK (cY es)):=aA;generalize upd H6 dt (.dK (cY es))=H7 at s7 ht7 ⊢;have hm7:=s7 _ _ (sq _ _ hm4);refine⟨_,rfl,dt,_,rfl,ht7,_,rfl,l,_,rfl,.inl (aH.of (s7 _ _ (s6 _ _ hl))),_,_,rfl,rfl,_,rfl,?_⟩;refine By (fun z=>absurd (ZV z) (by rw[AH];omega)) (fun _=>?_);have hkm:=UX due;refine⟨_,rfl,dm,om,kM due,rfl,hm7,Mu (fun i ys H8=>H8=H7/\ys=Fu ((kM due).take i) (cY es)) ⟨rfl,rfl⟩ (fun i ys H8 ⟨e,_⟩=>e ▸ hm7) (fun i ys H8 ⟨_,e⟩=>?_) ?_ ?_⟩
  ·have:=Lo (cY es) ((kM due).take i) [];rw[e];unfold Fu;rw[length_nil,ZA]at this;omega
  ·rintro i kv ys H8 gx ⟨rfl,rfl⟩;refine⟨_,rfl,_,rfl,dt,_,rfl,.inl ⟨_,kv.1,.inl ht7,rfl,rfl⟩,_,rfl,?_⟩;rw[NI gx];unfold JJ;cases e:As (cY es) kv.1 with
   |none=>exact Aq ⟨rfl,rfl⟩
   |some v=>exact BX ⟨_,rfl,_,rfl,_,rfl,dt,_,rfl,.inl ⟨_,kv.1,.inl ht7,rfl,e.symm⟩,kv.1,rfl,rfl,rfl⟩
  ·rintro ys H8 ⟨rfl,rfl⟩ d hd;rw[ZB];exact q d _ (AC (s6.trans s7) hd) (none_of (s6.trans s7) hd) aA
end
theorem WL:¬ (("own_kind" : Str) = "second_kind"):=by decide +kernel
theorem WM:¬ (("own_kind" : Str) = "table"):=by decide +kernel
theorem WN:¬ (("second_kind" : Str) = "table"):=by decide +kernel
noncomputable def Fv (k o d:Addr):List (Str×V):=At "table" (.ref d) (At "second_kind" (.ref o) (At "own_kind" (.ref k) []))
theorem HE (k o d:Addr):(Fv k o d).lookup ("own_kind" : Str)=some (.ref k):=by
 unfold Fv;rw[AK,Zq WM,AK,Zq WL,AK,Zp rfl]
theorem EL (k o d:Addr):(Fv k o d).lookup ("second_kind" : Str)=some (.ref o):=by
 unfold Fv;rw[AK,Zq WN,AK,Zp rfl]
theorem Q3 (k o d:Addr):(Fv k o d).lookup ("table" : Str)=some (.ref d):=by
 unfold Fv;rw[AK,Zp rfl]
theorem EM (k o d:Addr) {m:Str} (h1:¬ m = "table" := by decide +kernel) (h2:¬ m = "second_kind" := by decide +kernel) (h3:¬ m = "own_kind" := by decide +kernel):(Fv k o d).lookup m=none:=by
 unfold Fv;rw[AK,Zq h1,AK,Zq h2,AK,Zq h3];rfl
def eA (EC:Addr) (H:Hp) (p k o:Addr) (kvs:LK):Prop:=∃dx d ob,H p=some (.ins EC dx (Fv k o d))/\H d=some (.dA ob (.dK kvs))
theorem eA.same {p k o:Addr}{kvs:LK} (s:aB H H') (h:eA EC H p k o kvs):eA EC H' p k o kvs:=by
 obtain⟨dx,d,ob,h1,h2⟩:=h;exact⟨dx,d,ob,s _ _ h1,s _ _ h2⟩
structure Fw (K:FG) (EC:Addr):Prop where
 cl:ir K EC
 nK:bQ K EC "own_kind"
 nS:bQ K EC "second_kind"
 nT:bQ K EC "table"
def aZ (p:Addr) (H H':Hp):Prop:=∀b o,H b=some o->b≠p->H' b=some o
theorem aF.eh {p dx:Addr}{k:Addr}{r:Str} (s:aZ p H H') (hp:H p=some (.ins EC dx [])) (h:aF C H k due r):aF C H' k due r:=by
 obtain⟨x,d1,o1,d2,o2,a,b,c⟩:=h.ex;refine⟨⟨x,d1,o1,d2,o2,s _ _ a fun e=>?_,s _ _ b fun e=>?_,s _ _ c fun e=>?_⟩⟩
 ·subst e;rw[hp]at a;have q:=EF d1 d2 r;cases a
 ·subst e;rw[hp]at b;cases b
 ·subst e;rw[hp]at c;cases c
theorem aZ.tup {p dx:Addr} (s:aZ p H H') (hp:H p=some (.ins EC dx [])):∀b xs,H b=some (.tup xs)->H' b=some (.tup xs):=fun b xs e=>s b _ e fun q=>by
 subst q;rw[hp]at e;cases e
theorem Prs.eh {p dx l:Addr}{es:List Ent} (s:aZ p H H') (hp:H p=some (.ins EC dx [])) (h:Prs due aD H l es):Prs due aD H' l es:=by
 obtain⟨as,h1,h2⟩:=h.at_;exact⟨⟨as,s _ _ h1 fun q=>(by subst q;rw[hp]at h1;cases h1),Paired.imp' (fun _ _ q=>q.same (s.tup hp)) h2⟩,h.len,h.nd,h.mr,h.nm⟩
section
variable {cP:Addr}
inductive spEInit (C EC:Addr) (vs:List V) (H:Hp) (Q:VK) (_E:XK):Prop where
 |mk (p dx k o l:Addr) (due aD:Aa) (r r2:Str) (es:List Ent) (cE:vs=[.ref p,.ref k,.ref o,.ref l]) (cD:H p=some (.ins EC dx [])) (cH:aF C H k due r) (dH:due.length <= 60) (eT:aF C H o aD r2) (gm:aD.length <= 60) (iB:Prs due aD H l es) (jy:∀H',aZ p H H'->eA EC H' p k o (Fu (kM due) (cY es))->Q .aU H')
theorem Sh:AL ["self", "kind", "other", "pairs"] ["self", "kind", "other", "pairs"] (defScope De):=cB
theorem Q4 (F:aW K "__init__" "Edition.__init__" De f fd) (ET:Fw K EC) (GT:Fn P w K mg base "table_of" 3 ["kind", "other", "pairs"] (spTab C)) :
  AY P w K mg base aO 4 f fd ["self", "kind", "other", "pairs"] (spEInit C EC):=by
 obtain⟨fT,dT,GT,mT,kT,bT⟩:=GT.ex;refine F.m Sh fun vs H Q E h=>?_;obtain⟨p,dx,k,o,l,due,aD,r,r2,es,rfl,hp,KA,iU,KB,h60',PR,hG⟩:=h;refine⟨rfl,fun ac A outer s hr=>?_⟩;refine⟨_,AE (CL (pv 0) (pv 1) rfl) (AE (CL (pv 0) (pv 2) rfl) (AE (CL (pv 0) (AM GT hr rfl mT kT bT .nil AN (AA (pv 1) (AA (pv 2) (AA (pv 3) AB)))) rfl) (Cp AT))),?_⟩;refine⟨_,rfl,_,rfl,p,EC,dx,_,rfl,hp,ET.cl,ET.nK,(by show 0 < 1000;decide),?_⟩;refine⟨_,rfl,_,rfl,p,EC,dx,_,rfl,aA,ET.cl,ET.nS,(by show 1 < 1000;decide),?_⟩;rw[FP];have s1:aZ p H (upd H p (.ins EC dx (At "second_kind" (.ref o) (At "own_kind" (.ref k) [])))):=fun b u e hb=>by rw[AF hb];exact e
 have ak:(upd H p (.ins EC dx (At "second_kind" (.ref o) (At "own_kind" (.ref k) [])))) p=some (.ins EC dx (At "second_kind" (.ref o) (At "own_kind" (.ref k) []))):=aA;generalize upd H p (.ins EC dx (At "second_kind" (.ref o) (At "own_kind" (.ref k) [])))=H1 at s1 ak ⊢;refine⟨_,rfl,_,rfl,_,rfl,k,o,l,due,aD,r,r2,es,rfl,KA.eh s1 hp,iU,KB.eh s1 hp,h60',PR.eh s1 hp,fun d H2 s2 am hd=>?_⟩;have gD:p≠d:=AG ak am;refine⟨_,rfl,p,EC,dx,_,rfl,s2 _ _ ak,ET.cl,ET.nT,Nat.lt_of_le_of_lt (BA _ _ _) (by show 2 < 1000;decide),?_⟩;refine⟨d,_,by rw[AF (Ne.symm gD)];exact hd,fun ob=>?_⟩;refine hG _ (fun b u e hb=>?_) ⟨dx,d,ob,?_,aA⟩
 ·have e1:=s1 b u e hb;rw[AF (AG e1 am),AF hb];exact s2 _ _ e1
 ·rw[AF gD,aA];rfl
inductive spEKind (EC:Addr) (vs:List V) (H:Hp) (Q:VK) (_E:XK):Prop where
 |mk (p:_) (k:_) (o:_) (kvs:_) (cE:vs=[.ref p]) (cD:eA EC H p k o kvs) (cH:Q (.ref k) H)
theorem Si:AL ["self"] ["self"] (defScope Df):=cB
theorem Q5 (F:aW K "kind" "Edition.kind" Df f fd) (ET:Fw K EC):AY P w K mg base aO 1 f fd ["self"] (spEKind EC):=by
 refine F.m Si fun vs H Q E h=>?_;obtain⟨p,k,o,kvs,rfl,⟨dx,d,ob,hp,hd⟩,q⟩:=h;refine⟨rfl,fun ac A outer s hr=>?_⟩;exact⟨_,AD (AR (Ak (pv 0) rfl)),_,rfl,p,EC,dx,_,_,rfl,hp,ET.cl,ET.nK,HE _ _ _,q⟩
inductive spEOther (EC:Addr) (vs:List V) (H:Hp) (Q:VK) (_E:XK):Prop where
 |mk (p:_) (k:_) (o:_) (kvs:_) (cE:vs=[.ref p]) (cD:eA EC H p k o kvs) (cH:Q (.ref o) H)
theorem Q6:AL ["self"] ["self"] (defScope DD):=cB
theorem O4 (F:aW K "other" "Edition.other" DD f fd) (ET:Fw K EC):AY P w K mg base aO 1 f fd ["self"] (spEOther EC):=by
 refine F.m Q6 fun vs H Q E h=>?_;obtain⟨p,k,o,kvs,rfl,⟨dx,d,ob,hp,hd⟩,q⟩:=h;refine⟨rfl,fun ac A outer s hr=>?_⟩;exact⟨_,AD (AR (Ak (pv 0) rfl)),_,rfl,p,EC,dx,_,_,rfl,hp,ET.cl,ET.nS,EL _ _ _,q⟩
end
theorem C9 (x:Str):∀es:List Ent,As (cY es) (Sum.inr x:Key)=(es.lookup x).map fun q=>V.ref q.1
 | []=>rfl
 |q :: r=>by
  have ih:=C9 x r;unfold cY As at ih ⊢;rw[map_cons,find?_cons,Zz];by_cases h:q.1=x
  ·rw[ZL (show(Sum.inr q.1:Key)=Sum.inr x by rw[h]),show(x == q.1)=true by rw[h];simp];rfl
  ·rw[ZO (show ¬ (Sum.inr q.1:Key)=Sum.inr x from fun z=>h (Sum.inr.inj z)),show(x == q.1)=false by simp;exact fun z=>h z.symm];exact ih
def fb (aD:Aa) (H:Hp) (tab:List Ent):Prop:=∀q∈tab,H q.2.1=some (.tup (q.2.2.map V.str))/\q.2.2.length <= 3/\∀y∈q.2.2,y∈aD.map (·.1)
theorem fb.same {tab:List Ent} (s:∀b xs,H b=some (.tup xs)->H' b=some (.tup xs)) (h:fb aD H tab):fb aD H' tab:=fun q hq=>⟨s _ _ (h q hq).1,(h q hq).2⟩
noncomputable def fl (tab:List Ent) (ms:List Str):List Str:=ms.flatMap fun x=>((tab.lookup x).map (·.2)).getD []
def jx (tab:List Ent) (ms:List Str):Prop:=∀x∈ms,(tab.lookup x).isSome=true
def Ik (tab:List Ent) (ms:List Str) (x:Str):Prop:=∃i,ms[i]?=some x/\jx tab (ms.take i)/\tab.lookup x=none
theorem Fy {tab:List Ent}{x:Str}{q:Addr×List Str} (h:tab.lookup x=some q):(x,q)∈tab:=by
 induction tab with
 |nil=>cases h
 |cons y r ih =>
  rw[Zz]at h;cases e:x == y.1 with
  |true=>rw[e]at h;cases h;rw[eq_of_beq e];exact ZI ..
  |false=>rw[e]at h;exact ZR _ (ih h)
theorem Sj {tab:List Ent}{ms:List Str}{i:Nat}{x:Str}{q:Addr×List Str} (h:ms[i]?=some x) (hq:tab.lookup x=some q):fl tab (ms.take (i + 1))=fl tab (ms.take i)++q.2:=by
 unfold fl;rw[ZD,h,List.flatMap_append];show _++List.flatMap _ [x]=_;rw[List.flatMap_singleton,hq];rfl
theorem Q7 {tab:List Ent} (h:fb aD H tab) (ms:List Str):∀y∈fl tab ms,y∈aD.map (·.1):=fun y hy=>by
 obtain⟨x,_,hx⟩:=List.mem_flatMap.mp hy;cases e:tab.lookup x with
 |none=>rw[e]at hx;cases hx
 |some q=>rw[e]at hx;exact(h _ (Fy e)).2.2 y hx
theorem NJ {tab:List Ent} (h:fb aD H tab):∀ms:List Str,(fl tab ms).length <= 3 * ms.length
 | []=>Zy _
 |x :: r=>by
  have ih:=NJ h r;unfold fl at ih ⊢;rw[List.flatMap_cons,ZH,length_cons];cases e:tab.lookup x with
  |none=>show 0 + _ <= _;omega
  |some q =>
   have:=(h _ (Fy e)).2.1;show q.2.length + _ <= _;simp only at this;omega
structure Ve (P:Program) (w:World) (K:FG) (mg:SV) (base:Heap) (cM:Addr):Prop where
 cls:mg "MarkError" = some (.ref cM)
 ga:W.specialIn K (.ref cM) "__getattribute__" = some (some (.builtin "type.__getattribute__"))
 rd:W.readsIn K cM (.type "type")=true
 fn:∃f fd,W.findCls K (.ref cM) (.type "type") "__init__" = some (.val (.ref f))/\AY P w K mg base aO 1 f fd ["self", "words"] (spErrInit K)/\W.keepIn K (.ref f)=true/\Binds K fd ["self", "words"] []
section
variable {cM cL cR cU:Addr}
inductive spUnlInit (K:FG) (cM:Addr) (vs:List V) (H:Hp) (Q:VK) (_E:XK):Prop where
 |mk (e C:Addr) (x:Str) (cE:vs=[.ref e,.str x]) (cD:x.length <= 1000) (cH:BJ K C=true) (dH:H e=some (Fc e C none)) (eT:QF K C cM "name") (gm:∀d,H d=none->d≠e->Q .aU (upd (upd H e (Fc e C (some d))) d (.xd [("name", .str x)])))
theorem O5:AL ["self", "name"] ["self", "name"] (defScope E4):=cB
theorem NK (F:aW K "__init__" "Unled.__init__" E4 f fd) (ME:Ve P w K mg base cM):AY P w K mg base aO 2 f fd ["self", "name"] (spUnlInit K cM):=by
 obtain⟨fI,dI,hf,GI,kI,bI⟩:=ME.fn;have mM:=ME.cls;refine F.m O5 fun vs H Q E h=>?_;obtain⟨e,C,x,rfl,hn,hC,he,S,k⟩:=h;refine⟨rfl,fun ac A outer s hr=>?_⟩;refine⟨_,AE (B3 (Mp rfl mM ME.ga ME.rd hf GI hr kI bI .nil AN (AA (pv 0) (AA (SH qb (pv 1)) AB)))) (AD (SG (M:=cM) (pv 0) (pv 1) rfl)),?_⟩;refine⟨_,rfl,_,rfl,.inr (.inl ⟨x,rfl,hn⟩),fun z=>⟨e,C,none,z,rfl,hC,he,?_⟩⟩;exact⟨_,rfl,_,rfl,e,C,rfl,he,S,k⟩
def UqL (H:Hp) (E:XK) (cL:Addr) (x:Str):Prop:=∀e d H',aB H H'->H e=none->H d=none->d≠e->H' e=some (Ey e cL (some d))->H' d=some (.xd [("name", .str x)])->E (.ref cL) (some d) H'
theorem UqL.same {E:XK}{x:Str} (s:aB H H') (h:UqL H E cL x):UqL H' E cL x:=fun e d H2 s2 he hd az h1 h2=>h e d H2 (s.trans s2) (none_of s he) (none_of s hd) az h1 h2
structure TV (P:Program) (w:World) (K:FG) (mg:SV) (base:Heap) (cM cL:Addr):Prop where
 cls:mg "Unled" = some (.ref cL)
 make:∃f fd,MkX K cL f/\AY P w K mg base aO 2 f fd ["self", "name"] (spUnlInit K cM)/\Binds K fd ["self", "name"] []
 st:QF K cL cM "name"
theorem Q8 {σ:St}{H1:Hp}{E:XK}{D:Ei}{x:Str}{te:TE} (hC:BJ K cL=true) (S:QF K cL cM "name") (hn:x.length <= 1000) (s1:aB H H1) (h:UqL H E cL x) (ht:∀Q:VK,Q (.str x) H1->te σ H1 Q) :
  Mj cL (Mi cL (spUnlInit K cM) [] E0 (Ay te Dr)) E D σ H1:=by
 refine ht _ ?_;refine⟨(by show 1 <= 1000;decide),fun a ha=>?_⟩;refine⟨a,cL,x,rfl,hn,hC,aA,S,fun d hd az=>⟨rfl,a,some d,rfl,?_,?_⟩⟩
 ·rw[AF (Ne.symm az),aA]
 ·have hd1:H1 d=none:=by rw[AF az]at hd;exact hd
  refine h a d _ (fun b u e=>?_) (none_of s1 ha) (none_of s1 hd1) az aA ?_
  ·have e1:=s1 _ _ e;have nb:b≠a:=AG e1 ha;have nd:b≠d:=AG e1 hd1;rw[AF nb,AF nd,AF nb,AF nb];exact e1
  ·rw[AF az,aA]
inductive spNf (C VC EC cL:Addr) (vs:List V) (H:Hp) (Q:VK) (E:XK):Prop where
 |mk (p v k o kp:Addr) (n:Nat) (due aD:Aa) (r:Str) (tab:List Ent) (cE:vs=[.ref p,.ref v]) (cD:eA EC H p k o (cY tab)) (cH:fb aD H tab) (dH:cJ VC H v kp n) (eT:aF C H kp due r) (gm:due.length <= 60) (iB:((jx tab (Am due n)/\∀l H',aB H H'->H' l=some (.lst ((fl tab (Am due n)).map V.str))->Q (.ref l) H')\/∃x,Ik tab (Am due n) x/\x.length <= 1000/\UqL H E cL x))
theorem scNf:AL ["self", "value", "names", "mark"] ["self", "value"] (defScope Bq):=cB
theorem Fz (due:Aa) (n:Nat):(Am due n).length <= due.length:=by
 unfold Am;rw[AH];exact Nat.le_trans (ZS _ _) (A7 due)
theorem Vf (F:aW K "names_for" "Edition.names_for" Bq f fd) (ET:Fw K EC) (VT:G7 K VC) (UO:TV P w K mg base cM cL) (GM:Mt P w K mg base VC "marks" 3 ["self"] (spVMarks C VC)) :
  AY P w K mg base (gk P w) 4 f fd ["self", "value"] (spNf C VC EC cL):=by
 obtain⟨fM,dM,GM,mM,bM⟩:=GM.ex;obtain⟨fX,dX,MX,GX,bX⟩:=UO.make;have mX:=UO.cls;refine F.n scNf fun vs H Q E h=>?_;obtain⟨p,v,k,o,kp,n,due,aD,r,tab,rfl,ED,TN,hV,KA,iU,h⟩:=h;refine⟨rfl,fun ac A outer s hr=>?_⟩;have hu:=B6 hr;have iG:aG 3 _:=hr.mono qc;obtain⟨dx,d,ob,hp,hd⟩:=ED;obtain⟨dv,hv⟩:=id hV;have rz:=Ni (P:=P) (w:=w) (K:=K) (mg:=mg) (base:=base) (N:=["self", "value", "names", "mark"]) (qual := "Edition.names_for") (scope:=defScope Bq) (f:=f) (cd:=ac) (A:=A) (outer:=outer) (s:=s) (H:=H) (E:=E)
 refine⟨_,AE (Ag (i:=2) scNf.nd rfl (Or.inl rfl) (BC AB))
  (AE (BY PassesOwn.leaving rfl (Ao (Aj (pv 1) VT.cl mM GM hr bM .nil AN)) (AO (i:=3) scNf.nd rfl (Or.inl rfl))
   (AE (An (CZ (GQ hu (pv 3) (Ak (pv 0) rfl))) (AD (LF rz rfl MX.cls (LB MX GX iG rfl mX bX .nil AN (AA (pv 3) AB)))) AT)
   (AD (B3 (En PySem.F.plainAttrs_list PySem.F.slot_list_extend PySem.F.type_list_extend Mv (pv 2) (AA (A2 hu (Ak (pv 0) rfl) (pv 3) (fun _ _=>rfl)) AB))))))
  (AD (AR (pv 2)))),?_⟩
 refine⟨(by show 0 <= sizeLine;decide),fun l hl=>?_⟩;have s1:=AC (aB.refl _) hl (o:=HO.lst []);have ku:(upd H l (HO.lst [])) l=some (.lst []):=aA;have hl0:=hl;generalize upd H l (HO.lst [])=H1 at s1 ku ⊢;refine⟨_,rfl,v,dv,_,rfl,s1 _ _ hv,Ig _ _ qb qb,v,kp,n,due,r,rfl,hV.same s1,KA.same s1,iU,fun l2 H2 s2 fg=>?_⟩;have eK:=s1.trans s2;have hlm:=Fz due n;have af:=NJ TN;generalize Am due n=ms at h fg hlm ⊢
 have nll:l2≠l\/ms=[]:=by
  by_cases z:l2=l
  ·refine .inr ?_;rw[z,s2 _ _ ku]at fg;cases ms with
   |nil=>rfl
   |cons a r=>cases fg
  ·exact .inl z
 refine⟨l2,rfl,⟨_,aH.of fg⟩,BL (K:=K) (a:=l2) (xs:=ms.map V.str) (fun i σ H3=>(∃v3:Option V,σ=[some (.ref p),some (.ref v),some (.ref l),v3])/\jx tab (ms.take i)/\(∀b u,H2 b=some u->b≠l->H3 b=some u)/\H3 l=some (.lst ((fl tab (ms.take i)).map V.str))/\(i=0->H3=H2))
  ⟨⟨none,rfl⟩,(fun x hx=>by cases hx),fun _ _ e _=>e,s2 _ _ ku,fun _=>rfl⟩ (fun i σ H3 hi ⟨_,_,e,_,hz⟩=>?_) ?_ ?_⟩
 ·rcases nll with z |z
  ·exact aH.of (e _ _ fg z)
  ·rw[z]at hi;rw[hz (Nat.le_zero.mp hi)];exact aH.of fg
 ·rintro i x0 σ H3 hi ⟨⟨v3,rfl⟩,hH,e3,jG,hz⟩;rw[ZE]at hi;obtain⟨x,hx,rfl⟩:=Z6.mp hi;have ie:aB H H3:=fun b u e=>e3 b u (eK _ _ e) (AG e hl0);refine⟨_,rfl,_,rfl,p,EC,dx,_,_,rfl,ie _ _ hp,ET.cl,ET.nT,Q3 _ _ _,d,_,rfl,.inl ⟨_,Sum.inr x,.inr ⟨ob,ie _ _ hd⟩,rfl,rfl⟩,_,rfl,?_⟩;rw[C9];cases eq:tab.lookup x with
  |none =>
   refine BX ?_;rcases h with⟨hA,_⟩ |⟨y,⟨j,hy,hHy,hyn⟩,hyl,hU⟩
   ·have:=hA x (ZQ hx);rw[eq]at this;cases this
   ·have kA:i=j:=by
     rcases Nat.lt_trichotomy i j with z |z |z
     ·have:=hHy x (ZQ (i:=i) (by rw[List.getElem?_take,Zp z];exact hx));rw[eq]at this;cases this
     ·exact z
     ·have:=hH y (ZQ (i:=j) (by rw[List.getElem?_take,Zp z];exact hy));rw[hyn]at this;cases this
    subst kA;rw[hx]at hy;cases hy;exact Q8 (te:=F6 3) MX.cls UO.st hyl ie hU fun Q' q=>⟨_,rfl,q⟩
  |some q =>
   refine Aq ?_;have hq:=TN _ (Fy eq);have hi60:i < ms.length:=(Z8.mp hx).1;have hfi:=af (ms.take i);rw[ZA]at hfi;refine⟨_,rfl,.inl ⟨rfl,_,aH.of jG⟩,_,rfl,p,EC,dx,_,_,rfl,ie _ _ hp,ET.cl,ET.nT,Q3 _ _ _,_,rfl,d,_,rfl,.inl ⟨_,Sum.inr x,.inr ⟨ob,ie _ _ hd⟩,rfl,by rw[C9,eq];rfl⟩,l,q.1,_,_,rfl,rfl,jG,ie _ _ hq.1,Nat.le_of_lt (AZ (by rw[AH,AH];have:=hq.2.1;simp only at this;omega)),?_⟩;refine⟨⟨_,rfl⟩,fun y hy=>?_,fun b u e hb=>by rw[AF hb];exact e3 b u e hb,?_,fun z=>by cases z⟩
   ·rw[ZD,hx]at hy;rcases mem_append.mp hy with z |z
    ·exact hH y z
    ·rw[show y=x from ZG.mp z,eq];rfl
   ·rw[aA,Sj hx eq,Zu]
 ·rintro σ H3 ⟨⟨v3,rfl⟩,hH,e3,jG,_⟩;rw[AH,ZB]at hH jG;rcases h with⟨hA,q⟩ |⟨y,⟨j,hy,hHy,hyn⟩,_⟩
  ·exact⟨_,rfl,q l _ (fun b u e=>e3 b u (eK _ _ e) (AG e hl0)) jG⟩
  ·have:=hH y (ZQ hy);rw[hyn]at this;cases this
end
section
variable {cM cL:Addr}
inductive spMade (C VC:Addr) (vs:List V) (H:Hp) (Q:VK) (_E:XK):Prop where
 |mk (kp:Addr) (due:Aa) (r:Str) (n:Nat) (cE:vs=[.ref kp,.int (n:Int)]) (cD:aF C H kp due r) (cH:n < 2 ^ 40) (dH:n - (n &&& kn due)=0) (eT:∀q H',aB H H'->cJ VC H' q kp n->Q (.ref q) H')
theorem scMade:AL ["kind", "number", "bits", "rest"] ["kind", "number"] (defScope QM):=cB
theorem Sk {tL:Tok} (F:aW K "made" "made" QM f fd) (hL:mg "LIMIT" = some (.int 1099511627776 tL)) (T:Dj K C) (VO:Li P w K mg base C VC)
  (GW:Fn P w K mg base "is_whole" 1 ["thing"] spIsWhole) (GR:Fn P w K mg base "rest_of" 3 ["kind", "number"] (spRestOf C)) (GRe:Mt P w K mg base C "rest" 1 ["self"] (spRest C)) :
  AY P w K mg base aO 6 f fd ["kind", "number"] (spMade C VC):=by
 obtain⟨fW,dW,GW,mW,kW,bW⟩:=GW.ex;obtain⟨fR,dR,GR,mR,kR,bR⟩:=GR.ex;obtain⟨fE,dE,GE,mE,bE⟩:=GRe.ex;obtain⟨fI,dI,MI,GI,bI⟩:=VO.make;have mV:=VO.cls;refine F.m scMade fun vs H Q E h=>?_;obtain⟨kp,due,r,n,rfl,KA,h40,h0,k⟩:=h;refine⟨rfl,fun ac A outer s hr=>?_⟩;have cN:aG 1 _:=hr.mono qc;have iG:aG 3 _:=hr.mono qc;obtain⟨jK,d1,d2,ah⟩:=KA.ins
 refine⟨_,AE (An (PW.pt (CH (A9 (A5 (AM GW cN rfl mW kW bW .nil AN (AA (pv 1) AB)))) (Bk (A9 (Dq Ek HR (PX Tq (CP (v:=.int 1099511627776) rfl hL ⟨tL,rfl⟩)) (pv 1) (CP (v:=.int 1099511627776) rfl hL ⟨tL,rfl⟩)))))) (AD Ah) AT)
  (AE (Ag (i:=2) scMade.nd rfl (Or.inl rfl) (DH (AS NV (pv 1) AJ (AW _)) (pv 1) Lm))
  (AE (Ag (i:=3) scMade.nd rfl (Or.inl rfl) (AM GR iG rfl mR kR bR .nil AN (AA (pv 0) (AA (pv 2) AB))))
  (AE (An (PW.pt (Ca (AS CI (pv 3) AJ (AW _)) (Bv (AS DI (Aj (pv 0) T.cl mE GE cN bE .nil AN) Ae (AW _))))) (AD Ah) AT)
  (AE (An (AS HR (pv 1) AJ (AW _)) (AD Ah) AT)
  (AE (An (PW.pt (Ca (AS CI (pv 3) AJ (AW _)) (Bv (AS DI (Aj (pv 0) T.cl mE GE cN bE .nil AN) Ae (AW _))))) (AD Ah) AT)
  (AD (AR (EY MI GI hr rfl mV bI .nil AN (AA (pv 0) (AA (DH (AS DI (Aj (pv 0) T.cl mE GE cN bE .nil AN) Ae (AW _)) (pv 2) (AX HM (pv 2) (pv 3))) AB)))))))))),?_⟩
 have noR:(IU d1 d2 r).lookup ("rest" : Str)=none:=(Br _ _ _);have e40:(2:Nat) ^ 40=1099511627776:=by decide
 refine⟨_,rfl,_,rfl,_,rfl,?_⟩;refine Aq ?_;refine⟨_,rfl,_,rfl,_,_,rfl,rfl,_,rfl,?_⟩;rw[ZL (show -1099511627776 <= (n:Int) by omega)];refine BX ?_;refine⟨_,_,rfl,rfl,_,rfl,?_⟩;rw[ZL (show(n:Int) < 1099511627776 by omega)];refine Aq ?_;refine⟨_,rfl,_,_,rfl,rfl,_,rfl,?_⟩;rw[ZL (show(0:Int) <= (n:Int)from Z1 _)];refine BX ⟨_,rfl,?_⟩;refine⟨_,rfl,_,rfl,kp,due,r,n,rfl,KA,fun H1 s1=>?_⟩;have k9:=KA.same s1;have hpk1:=s1 _ _ ah;rw[h0];refine⟨_,rfl,rfl,_,rfl,?_⟩;rw[ZL (show V.int ((0:Nat):Int)=V.int 0 from rfl)];refine Aq (Aq ?_);refine⟨_,rfl,_,_,rfl,rfl,_,rfl,?_⟩;rw[ZO (show ¬ (n:Int) < 0 by omega)];refine Aq ?_;refine⟨_,rfl,rfl,_,rfl,?_⟩;rw[ZL (show V.int ((0:Nat):Int)=V.int 0 from rfl)];refine Aq (Aq ?_);refine⟨_,rfl,_,rfl,kp,jK,_,rfl,hpk1,noR,kp,due,r,rfl,k9,rfl,_,rfl,?_⟩
 have fin:∀q dq,H1 q=none->H1 dq=none->dq≠q->spVInit C VC [.ref q,.ref kp,.int (n:Int)] (upd (upd H1 dq (.own q)) q (.ins VC dq [])) (fun v H4=>v=.aU/\Q (.ref q) H4) E0:=fun q dq hq jH az=>by
  have sN:=Bu (D:=VC) hq jH az;exact⟨q,dq,kp,due,r,n,rfl,aA,k9.same sN,h40,.inr h0,fun H4 s4 hV=>⟨rfl,k q H4 (s1.trans (Bg sN hq s4)) hV⟩⟩
 refine By (fun _=>?_) (fun _=>?_)
 ·exact⟨_,rfl,fin⟩
 ·refine⟨_,rfl,_,rfl,_,_,rfl,rfl,?_⟩;have es:((n:Nat):Int) - ((0:Nat):Int)=(n:Int):=by omega
  intro q dq hq jH az;have:=fin q dq hq jH az;rw[←es]at this;exact this
structure iW (P:Program) (w:World) (K:FG) (mg:SV) (base:Heap) (C:Addr) (m:Str) (k:Nat) (ps:List Str) (sp:Sp):Prop where
 ex:∃f fd,AY P w K mg base (gk P w) k f fd ps sp/\HV K C m f/\Binds K fd ps []
noncomputable def EN (tab:List Ent) (due aD:Aa) (n:Nat):Nat:=Ab ((fl tab (Am due n)).map (look aD)) ||| (n - (n &&& Ab (AI due)))
inductive spLed (C VC EC cL:Addr) (vs:List V) (H:Hp) (Q:VK) (E:XK):Prop where
 |mk (p v k o:Addr) (n:Nat) (due aD:Aa) (r r2:Str) (tab:List Ent) (cE:vs=[.ref p,.ref v]) (cD:eA EC H p k o (cY tab)) (cH:fb aD H tab) (dH:cJ VC H v k n) (eT:aF C H k due r) (gm:iu due) (iB:due.length <= 30) (jy:aF C H o aD r2) (z_8:(∀q∈aD,q.2 < 2 ^ 20)) (z_9:n - (n &&& Ab (AI due))=0) (z_10:((∃x,Ik tab (Am due n) x/\x.length <= 1000/\UqL H E cL x)\/(jx tab (Am due n)/\∀q H',aB H H'->cJ VC H' q o (EN tab due aD n)->Q (.ref q) H')))
theorem scLed:AL ["self", "value", "number"] ["self", "value"] (defScope C5):=cB
theorem Ua (F:aW K "led" "Edition.led" C5 f fd) (ET:Fw K EC) (VT:G7 K VC) (jD:W.findIn K (.ref C) "__ne__" = some (some (.builtin "object.__ne__"))) (hm:W.mroIn K C (.type "object")=some true)
  (GE:Mt P w K mg base C "__eq__" 2 ["self", "other"] (spEqK C)) (GVK:Mt P w K mg base VC "kind" 1 ["self"] (spVKind VC)) (GVN:Mt P w K mg base VC "number" 1 ["self"] (spVNumber VC)) (GVR:Mt P w K mg base VC "rest" 4 ["self"] (spVRest C VC))
  (GN:iW P w K mg base EC "names_for" 4 ["self", "value"] (spNf C VC EC cL)) (GV:Fn P w K mg base "value_of" 6 ["kind", "names"] (spVOf C VC)) (GM:Fn P w K mg base "made" 6 ["kind", "number"] (spMade C VC)) :
  AY P w K mg base (gk P w) 7 f fd ["self", "value"] (spLed C VC EC cL):=by
 obtain⟨fE,dE,GE,mE,bE⟩:=GE.ex;obtain⟨fK,dK,GVK,mK,bK⟩:=GVK.ex;obtain⟨fN,dN,GVN,mN,bN⟩:=GVN.ex;obtain⟨fR,dR,GVR,mR,bR⟩:=GVR.ex;obtain⟨fF,dF,GF,mF,bF⟩:=GN.ex;obtain⟨fV,dV,GV,mV,kV',bV⟩:=GV.ex;obtain⟨fM,dM,GM,mM,kM',bM⟩:=GM.ex;refine F.n scLed fun vs H Q E h=>?_;obtain⟨p,v,k,o,n,due,aD,r,r2,tab,rfl,ED,TN,hV,KA,asc,h30,KB,hlt,h0,h⟩:=h;refine⟨rfl,fun ac A outer s hr=>?_⟩;have cN:aG 1 _:=hr.mono qc;have iG:aG 3 _:=hr.mono qc;have hr4:aG 4 _:=hr.mono qc;obtain⟨dx,d,ob,hp,hd⟩:=id ED;obtain⟨dv,hv⟩:=id hV;obtain⟨dk,e1,e2,hk⟩:=KA.ins;have ps:=VR (P:=P) (w:=w) (K:=K) (mg:=mg) (base:=base) (N:=["self", "value", "number"]) (qual := "Edition.led") (scope:=defScope C5) (f:=f) (cd:=ac) (A:=A) (outer:=outer) (s:=s) (H:=H) (E:=E)
 refine⟨_,AE (An (AS (Cr GE iG bE mE jD hm) (Aj (pv 1) VT.cl mK GVK cN bK .nil AN) (Ak (pv 0) rfl) (AW _)) (AD Ah) AT)
  (AE (Ag (i:=2) scLed.nd rfl (Or.inl rfl) (Aj (AM GV hr rfl mV kV' bV .nil AN (AA (Ak (pv 0) rfl) (AA (Bp (pv 0) ET.cl mF GF hr4 bF .nil ps (AA (pv 1) AB)) AB))) VT.cl mN GVN cN bN .nil AN))
  (AD (AR (AM GM hr rfl mM kM' bM .nil AN (AA (Ak (pv 0) rfl) (AA (AX HQ (pv 2) (Aj (pv 1) VT.cl mR GVR hr4 bR .nil AN)) AB)))))),?_⟩
 refine⟨_,rfl,v,dv,_,rfl,hv,Ig _ _ qb qb,v,k,n,rfl,hV,_,rfl,p,EC,dx,_,_,rfl,hp,ET.cl,ET.nK,HE _ _ _,?_⟩;refine⟨k,dk,_,k,dk,_,rfl,rfl,hk,hk,k,k,due,r,rfl,KA,asc,.inr ⟨due,r,KA,asc,fun H1 s1=>⟨_,rfl,_,rfl,_,rfl,?_⟩⟩⟩;rw[ZL (show due=due/\r=r from⟨rfl,rfl⟩)];refine Aq ?_;refine⟨_,rfl,p,EC,dx,_,_,rfl,s1 _ _ hp,ET.cl,ET.nS,EL _ _ _,_,rfl,p,dx,_,rfl,s1 _ _ hp,EM _ _ _,_,rfl,p,v,k,o,k,n,due,aD,r,tab,rfl,ED.same s1,TN.same (fun b xs e=>s1 _ _ e),hV.same s1,KA.same s1,qe,?_⟩;rcases h with⟨x,hL,hx,hU⟩ |⟨hH,q⟩
 ·exact .inr ⟨x,hL,hx,hU.same s1⟩
 refine .inl ⟨hH,fun l H2 s2 hl=>?_⟩;have eK:=s1.trans s2;have af:=NJ TN (Am due n);have hlm:=Fz due n;refine⟨o,l,aD,r2,_,rfl,KB.same eK,hl,qe,Q7 TN _,hlt,fun q1 H3 s3 gH=>?_⟩;have ie:=eK.trans s3;obtain⟨dq,hq⟩:=id gH;refine⟨q1,dq,_,rfl,hq,Ig _ _ qb qb,q1,o,_,rfl,gH,?_⟩;refine⟨_,rfl,p,EC,dx,_,_,rfl,ie _ _ hp,ET.cl,ET.nS,EL _ _ _,_,rfl,_,rfl,v,dv,_,rfl,ie _ _ hv,Ig _ _ qb qb,v,k,n,due,r,rfl,hV.same ie,KA.same ie,qe,fun H4 s4=>⟨_,_,rfl,rfl,?_⟩⟩;have s14:=ie.trans s4;have eg:EN tab due aD n=Ab ((fl tab (Am due n)).map (look aD)):=by unfold EN;rw[h0,Nat.or_zero]
 refine⟨o,aD,r2,EN tab due aD n,?_,KB.same s14,?_,?_,fun q5 H5 s5 hV5=>q q5 H5 (s14.trans s5) hV5⟩
 ·show [V.ref o,V.int (Builtin.bitOr _ _)]=_;rw[DC];rfl
 ·rw[eg];exact Nat.lt_trans (Ln hlt) qc
 ·rw[eg];exact Ij (Q7 TN _)
end
theorem EQ (k:Key):∀(ps kvs:LK),(As (BZ kvs ps) k).isSome=((As kvs k).isSome ||ps.any fun p=>decide (p.1=k))
 | [],kvs=>by simp[BZ]
 |p :: r,kvs=>by
  show(As (BZ (BV kvs p.1 p.2) r) k).isSome=_;rw[EQ k r,HZ,any_cons];by_cases h:k=p.1
  ·rw[Zp h,ZL h.symm];simp
  ·rw[Zq h,ZO (Ne.symm h),Bool.false_or]
noncomputable def Ac (due:Aa):List Str:=(AI due).map (BP (AU due))
theorem Il {n:Nat} (h:n∈AI due):n∈(AU due).map (·.1)/\A6 n=true:=by
 unfold AI at h;obtain⟨h1,h2⟩:=mem_filter.mp h;exact⟨mem_keysS.mp h1,h2⟩
theorem Bh {n:Nat} (h:n∈AI due):(BP (AU due) n,n)∈due:=Gp (Ox (Il h).1)
theorem O6 (due:Aa):(AI due).Nodup:=((Cw due).nodup_iff.mpr (Jj due)).filter _
theorem Q9 (nd:(due.map (·.1)).Nodup) {x:Str}{m n:Nat} (h1:(x,m)∈due) (h2:(x,n)∈due):m=n:=by
 induction due with
 |nil=>cases h1
 |cons p r ih =>
  rw[map_cons,Zs]at nd;rcases mem_cons.mp h1 with z1 |z1 <;> rcases mem_cons.mp h2 with z2 |z2
  ·rw[←z2]at z1;exact(Prod.mk.inj z1).2
  ·exact absurd (Zr.mpr ⟨_,z2,by rw[←z1]⟩) nd.1
  ·exact absurd (Zr.mpr ⟨_,z1,by rw[←z2]⟩) nd.1
  ·exact ih nd.2 z1 z2
theorem Ef (nd:(due.map (·.1)).Nodup):(Ac due).Nodup :=
 C8 (O6 due) fun a ha b hb e=>Q9 nd (Bh ha) (e ▸ Bh hb)
theorem Vg (x:Str):(As (kM due) (Sum.inr x:Key)).isSome=decide (x∈Ac due):=by
 unfold kM;rw[EQ];show(false ||_)=_;rw[Bool.false_or];unfold Cf Ac;rw[any_map];refine Bool.eq_iff_iff.mpr ?_;rw[any_eq_true,decide_eq_true_eq,Zr];constructor
 ·rintro⟨n,hn,e⟩;exact⟨n,hn,Sum.inr.inj (ZV e)⟩
 ·rintro⟨n,hn,e⟩;exact⟨n,hn,ZL (congrArg Sum.inr e)⟩
theorem Vh (x:Str):(As (kN due) (Sum.inr x:Key)).isSome=decide (x∈due.map (·.1)):=by
 unfold kN;rw[EQ];show(false ||_)=_;rw[Bool.false_or];unfold A8;rw[any_map];refine Bool.eq_iff_iff.mpr ?_;rw[any_eq_true,decide_eq_true_eq,Zr];constructor
 ·rintro⟨n,hn,e⟩;exact⟨n,hn,Sum.inr.inj (ZV e)⟩
 ·rintro⟨n,hn,e⟩;exact⟨n,hn,ZL (congrArg Sum.inr e)⟩
theorem Im {α β:Type}{F:α->β->Prop}{a:α}{b:β} (h:F a b):∀ {xs:List α}{ys:List β} (j:Nat),Paired F xs ys->Paired F (xs.take j++a :: xs.drop j) (ys.take j++b :: ys.drop j)
 |_,_,0,p=>.cons h p
 |_,_,j + 1,.nil=>.cons h .nil
 |_,_,j + 1,.cons q p=>.cons q (Im h j p)
theorem RB {α:Type} (x:α) (xs:List α) (j:Nat):(xs.take j++x :: xs.drop j).Perm (x :: xs):=by
 have h:=List.perm_middle (a:=x) (l₁:=xs.take j) (l₂:=xs.drop j);rw[take_append_drop]at h;exact h
theorem Io (told:LK):∀(ps ys:LK),(ps.map (·.1)).Nodup->(∀k∈ps.map (·.1),As ys k=none)->ps.foldl (JJ told) ys=ys++ps.filterMap fun kv=>(As told kv.1).map fun v=>(kv.1,v)
 | [],ys,_,_=>(Zt _).symm
 |p :: r,ys,hn,hk=>by
  rw[map_cons,Zs]at hn;have h0:=hk _ (ZI ..);rw[foldl_cons,ZM];unfold JJ;cases e:As told p.1 with
  |none=>exact Io told r ys hn.2 fun k h=>hk k (ZR _ h)
  |some v =>
   have e2:BV ys p.1 v=ys++[(p.1,v)]:=DL v h0;show r.foldl (JJ told) (BV ys p.1 v)=_;rw[Io told r _ hn.2 fun k h=>?_,e2,List.append_assoc]
   ·rfl
   ·rw[HZ,Zq (show ¬ k=p.1 from fun z=>hn.1 (z ▸ h))];exact hk k (ZR _ h)
theorem Jq (nd:(due.map (·.1)).Nodup):((Cf due).map (·.1)).Nodup:=by
 have e:(Cf due).map (·.1)=(Ac due).map fun x=>(Sum.inr x:Key):=by unfold Cf Ac;rw[map_map,map_map];rfl
 rw[e];exact C8 (Ef nd) fun a _ b _ z=>Sum.inr.inj z
theorem FM {α β:Type}{f g:α->Option β}:∀ {l:List α},(∀a∈l,f a=g a)->l.filterMap f=l.filterMap g
 | [],_=>rfl
 |a :: r,h=>by rw[ZM,ZM,h a (ZI ..),FM fun b hb=>h b (ZR _ hb)]
noncomputable def G8 (f:Str->Option (Addr×List Str)) (xs:List Str):List Ent:=xs.filterMap fun x=>(f x).map fun q=>(x,q)
theorem RE {es:List Ent} (nd:(due.map (·.1)).Nodup):Fu (kM due) (cY es)=cY (G8 (fun x=>es.lookup x) (Ac due)):=by
 unfold Fu kM;rw[Gu _ _ (Jq nd) fun _ _=>rfl,nil_append,Io _ _ _ (Jq nd) fun _ _=>rfl,nil_append];unfold Cf G8 Ac cY;rw[List.filterMap_map,List.map_filterMap,List.filterMap_map];refine FM fun n _=>?_;show(As (cY es) (Sum.inr (BP (AU due) n):Key)).map _=_;rw[C9];show _=Option.map _ (Option.map _ (es.lookup (BP (AU due) n)));cases es.lookup (BP (AU due) n) <;> rfl
theorem Ip {f g:Str->Option (Addr×List Str)}{xs:List Str} (h:∀x∈xs,f x=g x):G8 f xs=G8 g xs:=FM fun x hx=>by rw[h x hx]
theorem Nz {f:Str->Option (Addr×List Str)}{xs:List Str}{q:Ent} (h:q∈G8 f xs):q.1∈xs:=by
 obtain⟨x,hx,e⟩:=List.mem_filterMap.mp h;obtain⟨y,_,rfl⟩:=Z6.mp e;exact hx
theorem CY {es:List Ent}{x:Str} (h:x∉ es.map (·.1)):es.lookup x=none:=by
 cases e:es.lookup x with
 |none=>rfl
 |some q=>exact absurd (Zr.mpr ⟨_,Fy e,rfl⟩) h
theorem Bo {es fs:List Ent} (y:Str):(es++fs).lookup y=(es.lookup y).or (fs.lookup y):=by
 induction es with
 |nil=>rfl
 |cons a r ih =>
  rw[cons_append,Zz,Zz];cases y == a.1 with
  |true=>rfl
  |false=>exact ih
theorem NL {es:List Ent}{x:Str}{q:Addr×List Str} (j:Nat) (h:x∉ es.map (·.1)) (y:Str):(es.take j++(x,q) :: es.drop j).lookup y=(es++[(x,q)]).lookup y:=by
 have e:es.lookup y=((es.take j).lookup y).or ((es.drop j).lookup y):=by rw[←Bo,take_append_drop]
 rw[Bo,Bo,e,Zz];cases z:y == x with
 |false =>
  show _=Option.or (Option.or _ _) (List.lookup y [(x,q)]);rw[show List.lookup y [(x,q)]=none by rw[Zz,z];rfl,Option.or_none]
 |true =>
  have hy:=eq_of_beq z;have hn:=CY h;rw[←hy,e]at hn;rw[show List.lookup y [(x,q)]=some q by rw[Zz,z]];cases e1:(es.take j).lookup y with
  |some v=>rw[e1]at hn;cases hn
  |none =>
   rw[e1]at hn;show some q=Option.or ((es.drop j).lookup y) (some q);rw[show(es.drop j).lookup y=none from hn];rfl
structure EI (mn:List Str) (i:Nat) (tab es:List Ent):Prop where
 nd:(es.map (·.1)).Nodup
 len:es.length <= i
 tlen:tab.length <= i
 lk:∀y,es.lookup y=tab.lookup y
 pk:tab=G8 (fun x=>tab.lookup x) (mn.take i)
 sub:∀q∈es,q∈tab
theorem EI.out {mn:List Str}{i:Nat}{tab es:List Ent}{x:Str} (h:EI mn i tab es) (hn:mn.Nodup) (hx:mn[i]?=some x):x∉ tab.map (·.1):=fun z=>by
 obtain⟨q,hq,rfl⟩:=Zr.mp z;rw[h.pk]at hq;have h1:=Nz hq;have et:mn.take (i + 1)=mn.take i++[q.1]:=by rw[ZD,hx];rfl
 have h7:=hn.sublist (take_sublist (i + 1) mn);rw[et,nodup_append]at h7;exact h7.2.2 _ h1 _ (ZG.mpr rfl) rfl
theorem EI.skip {mn:List Str}{i:Nat}{tab es:List Ent}{x:Str} (h:EI mn i tab es) (hn:mn.Nodup) (hx:mn[i]?=some x):EI mn (i + 1) tab es:=by
 have h1:=h.len;have h2:=h.tlen;refine⟨h.nd,qe,qe,h.lk,?_,h.sub⟩;have e:=h.pk;unfold G8 at e ⊢;rw[ZD,hx,List.filterMap_append,←e];show tab=tab++List.filterMap _ [x];simp only[ZM,CY (h.out hn hx),Option.map_none,List.filterMap_nil,Zt]
theorem EI.put {mn:List Str}{i j:Nat}{tab es:List Ent}{x:Str}{q:Addr×List Str} (h:EI mn i tab es) (hn:mn.Nodup) (hx:mn[i]?=some x):EI mn (i + 1) (tab++[(x,q)]) (es.take j++(x,q) :: es.drop j):=by
 have h1:=h.len;have h2:=h.tlen;have pm:=RB ((x,q):Ent) es j;have ho:=h.out hn hx
 have hoe:x∉ es.map (·.1):=fun z=>by
  obtain⟨y,hy,e⟩:=Zr.mp z;exact ho (e ▸ Zr.mpr ⟨y,h.sub y hy,rfl⟩)
 have et:mn.take (i + 1)=mn.take i++[x]:=by rw[ZD,hx];rfl
 have lkx:∀y,y∈mn.take i->(tab++[(x,q)]).lookup y=tab.lookup y:=fun y hy=>by
  have h7:=hn.sublist (take_sublist (i + 1) mn);rw[et,nodup_append]at h7;have az:(y == x)=false:=by simp;exact h7.2.2 y hy x (ZG.mpr rfl)
  rw[Bo,show List.lookup y [(x,q)]=none by rw[Zz,az];rfl,Option.or_none]
 refine⟨?_,by rw[pm.length_eq,length_cons];omega,by rw[ZH];show tab.length + 1 <= _;omega,fun y=>?_,?_,fun e he=>?_⟩
 ·refine(pm.map (·.1)).nodup_iff.mpr ?_;rw[map_cons];exact Zs.mpr ⟨hoe,h.nd⟩
 ·rw[NL j hoe,Bo,Bo,h.lk]
 ·have e:=h.pk;rw[et]
  have:G8 (fun y=>(tab++[(x,q)]).lookup y) (mn.take i++[x])=G8 (fun y=>(tab++[(x,q)]).lookup y) (mn.take i)++[(x,q)]:=by
   unfold G8;rw[List.filterMap_append];congr 1
   have hl:(tab++[(x,q)]).lookup x=some q:=by
    rw[Bo,CY ho,show List.lookup x [(x,q)]=some q by rw[Zz];simp];rfl
   simp only[ZM,hl,Option.map_some,List.filterMap_nil]
  rw[this,Ip lkx,←e]
 ·rcases mem_cons.mp (pm.mem_iff.mp he)with z |z
  ·exact ZT _ (ZG.mpr z)
  ·exact ZP _ (h.sub e z)
noncomputable def gV3 (vs zs:List V):List V:=match vs,zs with | [a,b],[c]=>[a,b,c] |_,_=>[]
noncomputable def gU3 (us ws:List Value):List Value:=match us,ws with | [a,b],[c]=>[a,b,c] |_,_=>[]
structure NM (P:Program) (w:World) (K:FG) (mg:SV) (base:Heap) (C:Addr):Prop where
 T:Dj K C
 cls:mg "Kind" = some (.ref C)
 make:∃f fd,Mk K C f/\AY P w K mg base aO 6 f fd ["self", "rows", "rest"] (spInit C) /\
  (∃g,HY K fd ["self", "rows", "rest"] ["rest"] g gV3)/\∃ds,Binds K fd ["self", "rows", "rest"] ds/\Vals [.str "bar"] ds
structure Vi (P:Program) (w:World) (K:FG) (mg:SV) (base:Heap) (C EC:Addr):Prop where
 T:Fw K EC
 cls:mg "Edition" = some (.ref EC)
 make:∃f fd,Mk K EC f/\AY P w K mg base aO 4 f fd ["self", "kind", "other", "pairs"] (spEInit C EC)/\Binds K fd ["self", "kind", "other", "pairs"] []
section
variable {cP:Addr}
def cQ (H H':Hp):Prop:=∀b o,H b=some o->(∀xs,o≠ .lst xs)->H' b=some o
theorem aF.fA {p:Addr}{r:Str} (s:cQ H H') (h:aF C H p due r):aF C H' p due r:=by
 obtain⟨dx,d1,o1,d2,o2,a,b,c⟩:=h.ex;exact⟨⟨dx,d1,o1,d2,o2,s _ _ a (fun _ z=>nomatch z),s _ _ b (fun _ z=>nomatch z),s _ _ c (fun _ z=>nomatch z)⟩⟩
theorem cQ.aP {d:Addr}{xs:List V} (hd:H d=some (.lst xs)) (s:bZ d H H'):cQ H H':=fun b o e h=>s.old b o e fun z=>by subst z;rw[hd]at e;cases e;exact h _ rfl
def cW (H:Hp) (u:Addr) (due:Aa):Prop:=∃bs:List Addr,H u=some (.lst (bs.map V.ref))/\aE H bs (C0 due)
theorem cW.aP {d u:Addr}{xs:List V} (hd:H d=some (.lst xs)) (hu:u≠d) (s:bZ d H H') (h:cW H u due):cW H' u due:=by
 obtain⟨bs,h1,h2⟩:=h;exact⟨bs,s.old _ _ h1 hu,aE.aS (fun b xs e=>cQ.aP hd s _ _ e (fun _ z=>nomatch z)) h2⟩
theorem cW.same {u:Addr} (s:aB H H') (h:cW H u due):cW H' u due:=by
 obtain⟨bs,h1,h2⟩:=h;exact⟨bs,s _ _ h1,aE.same s h2⟩
structure EW (d t pl:Addr) (aD:Aa) (H1 H:Hp) (tab es:List Ent) (as:List Addr):Prop where
 old:∀b o,H1 b=some o->b≠d->b≠t->b≠pl->H b=some o
 tup:aN H1 H
 bS:∃x y:Int,H d=some (.lst [.int x,.int y])
 ht:H t=some (.dK (cY tab))
 hp:H pl=some (.lst (as.map V.ref))
 he:Paired (gW H) as es
 tn:fb aD H tab
theorem EW.same {d t pl:Addr}{H1:Hp}{tab es:List Ent}{as:List Addr} (s:aB H H') (h:EW d t pl aD H1 H tab es as):EW d t pl aD H1 H' tab es as:=by
 obtain⟨x,y,h1⟩:=h.bS;exact⟨fun b o e a1 a2 a3=>s _ _ (h.old b o e a1 a2 a3),h.tup.trans (aN.of s),⟨x,y,s _ _ h1⟩,s _ _ h.ht,s _ _ h.hp,Paired.imp' (fun _ _ q=>q.same (aN.of s)) h.he,h.tn.same (aN.of s)⟩
theorem EW.roll {d t pl:Addr}{H1:Hp}{tab es:List Ent}{as:List Addr} (h:EW d t pl aD H1 H tab es as) (td:t≠d) (pd:pl≠d) (x y:Int):EW d t pl aD H1 (upd H d (.lst [.int x,.int y])) tab es as:=by
 obtain⟨x0,y0,h1⟩:=h.bS;have st:aN H (upd H d (.lst [.int x,.int y])):=aN.upd h1;exact⟨fun b o e a1 a2 a3=>by rw[AF a1];exact h.old b o e a1 a2 a3,h.tup.trans st,⟨x,y,aA⟩,by rw[AF td];exact h.ht,by rw[AF pd];exact h.hp,Paired.imp' (fun _ _ q=>q.same st) h.he,h.tn.same st⟩
theorem EW.put {d t pl:Addr}{H1:Hp}{tab tab' es:List Ent}{as:List Addr} (h:EW d t pl aD H1 H tab es as) (td:t≠d) (tp:t≠pl) (hn:fb aD H tab'):EW d t pl aD H1 (upd H t (.dK (cY tab'))) tab' es as:=by
 obtain⟨x0,y0,h1⟩:=h.bS;have st:aN H (upd H t (.dK (cY tab'))):=fun b ys e=>by rw[AF (fun z=>by subst z;rw[h.ht]at e;cases e)];exact e
 exact⟨fun b o e a1 a2 a3=>by rw[AF a2];exact h.old b o e a1 a2 a3,h.tup.trans st,⟨x0,y0,by rw[AF (Ne.symm td)];exact h1⟩,aA,by rw[AF (Ne.symm tp)];exact h.hp,Paired.imp' (fun _ _ q=>q.same st) h.he,hn.same st⟩
theorem EW.ins {d t pl ea:Addr}{H1:Hp}{j:Nat}{tab es:List Ent}{as:List Addr}{q:Ent} (h:EW d t pl aD H1 H tab es as) (pd:pl≠d) (tp:t≠pl) (he:gW H ea q) :
  EW d t pl aD H1 (upd H pl (.lst (QI (as.map V.ref) j (.ref ea)))) tab (es.take j++q :: es.drop j) (as.take j++ea :: as.drop j):=by
 obtain⟨x0,y0,h1⟩:=h.bS;have st:aN H (upd H pl (.lst (QI (as.map V.ref) j (.ref ea)))):=aN.upd h.hp;refine⟨fun b o e a1 a2 a3=>by rw[AF a3];exact h.old b o e a1 a2 a3,h.tup.trans st,⟨x0,y0,by rw[AF (Ne.symm pd)];exact h1⟩,by rw[AF tp];exact h.ht,?_,Im (he.same st) j (Paired.imp' (fun _ _ q=>q.same st) h.he),h.tn.same st⟩;rw[aA];unfold QI;rw[Zu,map_cons,map_take,List.map_drop]
theorem Sl {tab:List Ent}{x:Str}{q:Addr×List Str} (h:x∉ tab.map (·.1)):BV (cY tab) (Sum.inr x:Key) (V.ref q.1)=cY (tab++[(x,q)]):=by
 rw[DL _ (by rw[C9,CY h];rfl)];unfold cY;rw[Zu];rfl
theorem F0 {ms:List Addr}{x y:Int} (h:some (HO.lst [.int x,.int y])=some (HO.lst (ms.map V.ref))):False:=by
 injection h with h
 injection h with h
 cases ms with
 |nil=>cases h
 |cons a r=>cases h
theorem Cy {ms:List Addr}{i:Nat}{v:V} (h:aE H ms (CA due)) (e:(ms.map V.ref)[i]?=some v):∃b n,v=.ref b/\(AI due)[i]?=some n/\H b=some (.tup [.str (BP (AU due) n),.int (n:Int)]):=by
 rw[ZE]at e;obtain⟨b,hb,rfl⟩:=Z6.mp e;obtain⟨p,hp,ht⟩:=Bz h hb;unfold CA at hp;rw[ZE]at hp;obtain⟨n,hn,rfl⟩:=Z6.mp hp;exact⟨b,n,rfl,hn,ht⟩
inductive spEdL (C EC:Addr) (vs:List V) (H:Hp) (Q:VK) (_E:XK):Prop where
 |mk (d:Addr) (a b:Int) (cE:vs=[.ref d,.int 7]) (cD:H d=some (.lst [.int a,.int b])) (cH:∀(q p k o t u u2:Addr) (rows ad:List (Str×Th)) (r r2:Str) (tab:List Ent) H',bZ d H H'->H' q=some (.tup [.ref p,.ref t,.ref u,.ref u2])->eA EC H' p k o (cY tab)->H' t=some (.dK (cY tab))->tab=G8 (fun x=>tab.lookup x) (Ac (Ai rows))->fb (Ai ad) H' tab->aF C H' k (Ai rows) r->aF C H' o (Ai ad) r2->r∈cA->r2∈cA->cW H' u (Ai rows)->cW H' u2 (Ai ad)->u≠d->u2≠d ->     0 < rows.length->rows.length <= 7->DE rows->(∀x∈rows.map (·.1),x∈bH)->0 < ad.length->ad.length <= 7->DE ad->(∀x∈ad.map (·.1),x∈bH)->Q (.ref q) H')
noncomputable abbrev NEd:List Str:=["_law_dice", "_law_high", "_law_rows", "_law_due", "_law_more", "_law_next_due", "_law_kind", "_law_other", "_law_name", "_law_table", "_law_names", "_law_pairs", "_law_bit"]
theorem gg:AL NEd ["_law_dice", "_law_high"] (defScope D9):=cB
theorem Ub (F:aW K "_law_edition" "_law_edition" D9 f fd) (B:Bl mg) (KO:NM P w K mg base C) (EO:Vi P w K mg base C EC) (GR:Fn P w K mg base "_law_roll" 2 ["_law_dice", "_law_many"] spRoll) (GRu:Fn P w K mg base "_law_rule_of" 3 ["_law_dice"] spRuleOf) (GL:Fn P w K mg base "_law_lines" 3 ["_law_dice", "_law_most"] spLines) (GT:Fn P w K mg base "_law_table_of" 2 ["_law_due"] spTable) :
  AY P w K mg base aO 8 f fd ["_law_dice", "_law_high"] (spEdL C EC):=by
 obtain⟨fR,dR,GR,mR,kR,bR⟩:=GR.ex;obtain⟨fU,dU,GU,mU,kU,bU⟩:=GRu.ex;obtain⟨fL,dL,GL,mL,kL,bL⟩:=GL.ex;obtain⟨fT,dT,GT,mT,kT,bT⟩:=GT.ex;obtain⟨fI,dI,MI,GI,⟨gI,kbI⟩,ds,bI,vI⟩:=KO.make;obtain⟨fE,dE,ME,GE,bE⟩:=EO.make;have mC:=KO.cls;have mE:=EO.cls;refine F.m gg fun vs H Q E h=>?_;obtain⟨d,a,b,rfl,hd,k⟩:=h;refine⟨rfl,fun ac A outer s hr=>?_⟩;have hu:=B6 hr;have ff:aG 2 _:=hr.mono qc;have iG:aG 3 _:=hr.mono qc;have hr5:aG 5 _:=hr.mono qc
 refine⟨_,AE (Cc (AM GL iG rfl mL kL bL .nil AN (AA (pv 0) (AA (pv 1) AB))) (BG rfl (AQ (AO (i:=2) gg.nd rfl (Or.inl rfl)) (AQ (AO (i:=3) gg.nd rfl (Or.inl rfl)) Ax))))
  (AE (Cc (AM GL iG rfl mL kL bL .nil AN (AA (pv 0) (AA (pv 1) AB))) (BG rfl (AQ (AO (i:=4) gg.nd rfl (Or.inl rfl)) (AQ (AO (i:=5) gg.nd rfl (Or.inl rfl)) Ax))))
  (AE (PO (i:=6) (j:=7) rfl gg.nd rfl rfl qc rfl rfl (AA (Fb MI GI hr rfl mC kbI (AA (pv 2) AB) (EZ (AM GU iG rfl mU kU bU .nil AN (AA (pv 0) AB)) HX)) (AA (Fb MI GI hr rfl mC kbI (AA (pv 4) AB) (EZ (AM GU iG rfl mU kU bU .nil AN (AA (pv 0) AB)) HX)) AB)) qd)
  (AE (Cc (hs:=by kernel_rfl) (hw:=by kernel_rfl) (BB (AA Dv (AA (DQ [] [] qd qb qd qd rfl (Ao (pv 5)) (fun _ _ _ _ _ _=>BF) (fun _ _ _ _ _ _=>pv 0)) (AA (BC AB) AB))))
   (BG rfl (AQ (AO (i:=9) gg.nd rfl (Or.inl rfl)) (AQ (AO (i:=10) gg.nd rfl (Or.inr rfl)) (AQ (AO (i:=11) gg.nd rfl (Or.inl rfl)) Ax)))))
  (AE (BY PassesOwn.never rfl (Ao (A2 hu (AM GT ff rfl mT kT bT .nil AN (AA (pv 3) AB)) Ae (fun _ _=>rfl))) (BG rfl (AQ (AO (i:=8) gg.nd rfl (Or.inl rfl)) (AQ (AO (i:=12) gg.nd rfl (Or.inl rfl)) Ax)))
   (AD (An (AS HS (AM GR ff rfl mR kR bR .nil AN (AA (pv 0) (AA AJ AB))) AJ (AW _))
    (AE (G9 hu (pv 9) (pv 8) (BK Em rfl B.tuple Bd (AA (A3 ["_law_names", "_law_dice"] [some 10,some 0] qd qb qd rfl (CJ rfl B.range (AA (AM GR ff rfl mR kR bR .nil AN (AA (pv 0) (AA AJ AB))) AB)) (fun _ _ _ _ _ _=>BF)
     (fun _ _ _ _ _ _=>Bc (A4 K rfl) (pv 1) (AM GR ff rfl mR kR bR .nil AN (AA (pv 2) (AA (AV (Au K rfl) rfl B.len PySem.boot_len (AA (pv 1) AB)) AB))) (fun _ _=>rfl))) AB)) rfl)
    (AD (B3 (En PySem.F.plainAttrs_list PySem.F.slot_list_insert PySem.F.type_list_insert Oe (pv 11) (AA (AM GR ff rfl mR kR bR .nil AN (AA (pv 0) (AA (AX Cn (AV (Au K rfl) rfl B.len PySem.boot_len (AA (pv 11) AB)) AJ) AB))) (AA (BB (AA (pv 8) (AA (A2 hu (pv 9) (pv 8) (fun _ _=>rfl)) AB))) AB))))))
    AT)))
  (AD (AR (BB (AA (EY ME GE hr5 rfl mE bE .nil AN (AA (pv 6) (AA (pv 7) (AA (pv 11) AB)))) (AA (pv 9) (AA (pv 3) (AA (pv 5) AB))))))))))),?_⟩
 refine⟨_,rfl,_,rfl,d,a,b,7,rfl,qc,qc,hd,fun q1 f1 u1 fs1 gM rows Ha sXa gH hf1n hu1n hf1 hP1 hu1 dh r0 r6 RO ar=>?_⟩;refine⟨q1,_,rfl,aY.of gH,rfl,_,_,rfl,_,_,rfl,rfl,?_⟩;obtain⟨xa,ya,kJ⟩:=sXa.bS;have f1d:f1≠d:=fun z=>by rw[z,hd]at hf1n;cases hf1n
 have u1d:u1≠d:=fun z=>by rw[z,hd]at hu1n;cases hu1n
 refine⟨_,rfl,_,rfl,d,xa,ya,7,rfl,qc,qc,kJ,fun q2 f2 u2 fs2 gL ad Hb sXb hq2 hf2n hu2n gU hP2 hu2 di r0' r6' RO2 dj=>?_⟩;refine⟨q2,_,rfl,aY.of hq2,rfl,_,_,rfl,_,_,rfl,rfl,?_⟩;have f2d:f2≠d:=fun z=>by rw[z,kJ]at hf2n;cases hf2n
 have u2d:u2≠d:=fun z=>by rw[z,kJ]at hu2n;cases hu2n
 obtain⟨xb,yb,eV⟩:=sXb.bS;have hf1b:=sXb.old _ _ hf1 f1d;have hP1b:Paired (dQ Hb) fs1 rows:=Ba (fun b xs e=>cQ.aP kJ sXb _ _ e (fun _ z=>nomatch z)) hP1;have D1b:cW Hb u1 (Ai rows):=cW.aP kJ u1d sXb ⟨gM,hu1,dh⟩;have D2b:cW Hb u2 (Ai ad):=⟨gL,hu2,di⟩;refine⟨_,rfl,_,rfl,d,xb,yb,rfl,eV,fun ra Hc hra sXc=>?_⟩;intro k1 dx1 hk1 hdx1 hne1;have sN1:=Bu (D:=C) hk1 hdx1 hne1;refine⟨k1,dx1,f1,rows,ra,rfl,aA,⟨fs1,sN1 _ _ (sXc.old _ _ hf1b f1d),Ba (aN.of sN1) (Ba (fun b xs e=>cQ.aP eV sXc _ _ e (fun _ z=>nomatch z)) hP1b)⟩,r0,qe,RO,hra,fun Hd sd KA=>⟨rfl,?_⟩⟩;have SXd:bZ d Hb Hd:=sXc.step (Bg sN1 hk1 sd);obtain⟨xd,yd,hdd⟩:=SXd.bS;refine⟨_,rfl,_,rfl,d,xd,yd,rfl,hdd,fun rb He hrb sXe=>?_⟩;intro k2 dx2 ky hdx2 hne2;have sN2:=Bu (D:=C) ky hdx2 hne2;have SXe:=SXd.trans sXe;refine⟨k2,dx2,f2,ad,rb,rfl,aA,⟨fs2,sN2 _ _ (SXe.old _ _ gU f2d),Ba (aN.of sN2) (Ba (fun b xs e=>cQ.aP eV SXe _ _ e (fun _ z=>nomatch z)) hP2)⟩,r0',qe,RO2,hrb,fun Hf sf KB=>⟨rfl,?_⟩⟩;have sE2:aB He Hf:=Bg sN2 ky sf;have SXf:bZ d Hb Hf:=SXe.step sE2;have k9:aF C Hf k1 (Ai rows) ra:=(KA.fA (cQ.aP hdd sXe)).same sE2;have D1f:=D1b.aP eV u1d SXf;have D2f:=D2b.aP eV u2d SXf;have SXH:bZ d H Hf:=(sXa.trans sXb).trans SXf;obtain⟨xf,yf,iK⟩:=SXf.bS;refine⟨_,_,rfl,?_⟩;clear sN1 sN2 sd sf SXe SXd hP1 hP2 hP1b hf1b hk1 ky hdx1 hdx2 sXc sXe KA sE2 SXf hdd eV D1b D2b;refine fun t ht=>?_;have st:=AC (aB.refl _) ht (o:=HO.dK []);have htt:=aA (H:=Hf) (a:=t) (o:=HO.dK []);generalize upd Hf t (HO.dK [])=Hg at st htt ⊢;obtain⟨cs,be,bd⟩:=D2f.same st;have ag:=Cl bd;refine⟨_,rfl,u2,rfl,⟨_,aH.of be⟩,Aw (K:=K) (a:=u2) (xs:=cs.map V.ref) (fun j ys H3=>ys=(((Ai ad).take j).map (·.1)).map V.str/\H3=Hg) ⟨by rfl,rfl⟩ (fun j ys H3 _ ⟨_,e⟩=>e ▸ aH.of be) (fun j ys H3 ⟨e,_⟩=>?_) ?_ ?_⟩
 ·rw[e,AH,AH,ZA,Az];omega
 ·rintro j v ys H3 hj ⟨rfl,rfl⟩;obtain⟨bb,p,rfl,kQ,ak,aj⟩:=Ck bd hj;refine⟨bb,_,rfl,aY.of aj,rfl,_,_,rfl,_,_,rfl,rfl,?_⟩;refine⟨_,rfl,?_,rfl⟩;rw[ZD,ak,Option.toList_some,Zu,Zu];rfl
 rintro ys H3 ⟨rfl,rfl⟩ nl gZ;rw[show(Ai ad).take (cs.map V.ref).length=Ai ad by rw[AH,ag,←Az,ZB]];generalize hnm:(Ai ad).map (·.1)=gE;have sn:=AC (aB.refl _) gZ (o:=HO.lst (gE.map V.str));have kj:=aA (H:=H3) (a:=nl) (o:=HO.lst (gE.map V.str));generalize upd H3 nl (HO.lst (gE.map V.str))=Hh at sn kj ⊢;refine⟨Nat.zero_le _,fun pl eM=>⟨iE,fun tq htq=>⟨tq,_,rfl,aY.of aA,rfl,_,_,rfl,_,_,rfl,_,_,rfl,rfl,?_⟩⟩⟩;have sp:=AC (aB.refl _) eM (o:=HO.lst []);have hpp:=aA (H:=Hh) (a:=pl) (o:=HO.lst []);have sq:=AC (aB.refl _) htq (o:=HO.tup [.ref t,.ref nl,.ref pl]);have sf5:=st.trans (sn.trans (sp.trans sq));have ht5:=sq _ _ (sp _ _ (sn _ _ htt));have hn5:=sq _ _ (sp _ _ kj);have kh:=sq _ _ hpp;have td:t≠d:=Ne.symm (AG iK ht);have nld:nl≠d:=Ne.symm (AG (st _ _ iK) gZ);have pd:pl≠d:=Ne.symm (AG (sn _ _ (st _ _ iK)) eM);have tp:t≠pl:=AG (sn _ _ htt) eM;have nt:nl≠t:=Ne.symm (AG htt gZ);have np:nl≠pl:=AG kj eM;have hpf:Hf pl=none:=none_of (st.trans sn) eM;generalize upd (upd Hh pl (HO.lst [])) tq (HO.tup [.ref t,.ref nl,.ref pl])=H5 at sf5 ht5 hn5 kh ⊢;clear sp sq sn st kj htt hpp bd be gZ eM htq;have DO:=Fp RO (show rows.length <= 10 by omega);obtain⟨bs,hu5,hbs5⟩:=D1f.same sf5;refine⟨_,rfl,u1,bs,Ai rows,rfl,hu5,hbs5,by rw[Az];omega,DO.lt,fun tb e m ms H6 s6 ay he hm g6=>?_⟩;have s56:=sf5.trans s6;have hd6:=s56 _ _ iK;have md:m≠d:=fun z=>by rw[z,hd6]at hm;exact F0 hm
 have mt:m≠t:=fun z=>by rw[z,s6 _ _ ht5]at hm;cases hm
 have hmp:m=pl->ms=[]:=fun z=>by rw[z,s6 _ _ kh]at hm;cases ms with |nil=>rfl |cons a r=>cases hm
 have W0:EW d t pl (Ai ad) H6 H6 [] [] []:=⟨fun b o e _ _ _=>e,fun _ _ e=>e,⟨_,_,hd6⟩,s6 _ _ ht5,s6 _ _ kh,.nil,fun q hq=>by cases hq⟩;have hmn:=Ef DO.nd;have I0:EI (Ac (Ai rows)) 0 [] []:=⟨nodup_nil,Zy _,Zy _,fun _=>rfl,rfl,fun q hq=>by cases hq⟩
 refine⟨tb,_,rfl,.inl ⟨_,Sum.inr "marks", .inl ay,rfl,(DS _ _ _).symm⟩,m,rfl,⟨_,aH.of hm⟩,BL (K:=K) (a:=m) (xs:=ms.map V.ref) (fun i σ H7=>(∃v8 v12:Option V,σ=[some (.ref d),some (.int 7),some (.ref f1),some (.ref u1),some (.ref f2),some (.ref u2),some (.ref k1),some (.ref k2),v8,some (.ref t),some (.ref nl),some (.ref pl),v12])/\(∃tab es as,EI (Ac (Ai rows)) i tab es/\EW d t pl (Ai ad) H6 H7 tab es as)/\(i=0->H7=H6))
  ⟨⟨none,none,rfl⟩,⟨[],[],[],I0,W0⟩,fun _=>rfl⟩ (fun i σ H7 hi ⟨_,⟨_,_,_,_,W⟩,hz⟩=>?_) ?_ ?_⟩
 ·by_cases z:i=0
  ·rw[hz z];exact aH.of hm
  ·refine aH.of (W.old _ _ hm md mt fun q=>?_);rw[hmp q]at hi;exact z (Nat.le_zero.mp hi)
 ·rintro i v σ H7 hi ⟨⟨v8,v12,rfl⟩,⟨tab,es,as,iX,W⟩,hz⟩;obtain⟨bb,n,rfl,hn,aj⟩:=Cy (aE.aS W.tup g6) hi;have hxi:(Ac (Ai rows))[i]?=some (BP (AU (Ai rows)) n):=by unfold Ac;rw[ZE,hn];rfl
  have hi10:i < 10:=by
   have h1:=(Z8.mp hn).1;have h2:=A7 (Ai rows);rw[Az]at h2;omega
  generalize BP (AU (Ai rows)) n=x at aj hxi;refine⟨bb,_,rfl,aY.of aj,rfl,_,_,rfl,_,_,rfl,rfl,?_⟩;obtain⟨x7,y7,iw⟩:=W.bS;refine⟨_,rfl,d,x7,y7,6,rfl,iw,qc,qc,fun rr a1 b1 rr0 rr6=>?_⟩;have W8:=W.roll td pd a1 b1;refine⟨_,_,rfl,rfl,_,rfl,?_⟩;refine By (fun _=>?_) (fun _=>⟨⟨_,_,rfl⟩,⟨tab,es,as,iX.skip hmn hxi,W8⟩,fun z=>by cases z⟩);obtain⟨x8,y8,hd8⟩:=W8.bS;refine⟨_,rfl,d,x8,y8,3,rfl,hd8,qc,qc,fun r1 a2 b2 r10 r13=>?_⟩;have W9:=W8.roll td pd a2 b2;refine⟨_,rfl,qe,qe,?_⟩;refine DV (lo:=0) (n:=r1.toNat) (fun j ys H9=>∃ns:List Str,ys=ns.map V.str/\ns.length=j/\j <= 3/\(∀x∈ns,x∈gE)/\EW d t pl (Ai ad) H6 H9 tab es as) ⟨[],rfl,rfl,qc,(fun x hx=>nomatch hx),W9⟩ ?_ ?_ ?_
  ·rintro j ys H9 ⟨ns,rfl,e,h3,_⟩;rw[AH];omega
  ·rintro j ys H9 hj ⟨ns,rfl,e,h3,eU,L9⟩;obtain⟨x2,y2,e2⟩:=L9.bS;have hn9:H9 nl=some (.lst (gE.map V.str)):=L9.old _ _ (s6 _ _ hn5) nld nt np;have hn0:0 < (gE.map V.str).length:=by rw[AH,←hnm,AH,Az];exact r0'
   have hn6:(gE.map V.str).length <= 8:=by rw[AH,←hnm,AH,Az];omega
   refine⟨_,rfl,_,rfl,_,rfl,nl,_,rfl,.inl (aH.of hn9),d,x2,y2,_,rfl,e2,qe,qe,fun r2 a2 b2 r20 r21=>?_⟩;have hn10:(upd H9 d (.lst [.int a2,.int b2])) nl=some (.lst (gE.map V.str)):=by rw[AF nld];exact hn9
   obtain⟨v,hv,eY⟩:=IW (xs:=gE.map V.str) r20 (by exact r21);rw[ZE]at eY;obtain⟨y,hy,rfl⟩:=Z6.mp eY;refine⟨nl,_,r2,_,rfl,rfl,aH.of hn10,hv,?_⟩;refine⟨ns++[y],by rw[Zu];rfl,by rw[ZH,e];rfl,qe,fun x hx=>?_,L9.roll td pd a2 b2⟩;rcases mem_append.mp hx with z |z
   ·exact eU x z
   ·rw[ZG]at z;subst z;exact ZQ hy
  ·rintro ys H9 ⟨ns,rfl,e,h3,eU,L9⟩ l hl;have L10:=L9.same (AC (aB.refl _) hl (o:=HO.lst (ns.map V.str)));refine⟨l,_,rfl,.inl ⟨aH.of aA,fun c hc=>?_⟩⟩;have L11:=L10.same (AC (aB.refl _) hc (o:=HO.tup (ns.map V.str)));have hc11:=aA (H:=upd H9 l (.lst (ns.map V.str))) (a:=c) (o:=HO.tup (ns.map V.str));generalize upd (upd H9 l (.lst (ns.map V.str))) c (.tup (ns.map V.str))=H11 at L11 hc11 ⊢;have hk11:=L11.ht;have hkl:(cY tab).length <= i:=by have:=iX.tlen;unfold cY;rw[AH];exact this
   have hxo:=iX.out hmn hxi;refine⟨_,rfl,_,rfl,t,_,rfl,.inl ⟨cY tab,Sum.inr x,hk11,rfl,AZ qe,rfl⟩,?_⟩;rw[Sl (q:=(c,ns)) hxo]
   have tn:fb (Ai ad) H11 (tab++[(x,c,ns)]):=fun q hq=>by
    rcases mem_append.mp hq with z |z
    ·exact L11.tn q z
    ·rw[ZG]at z;subst z;exact⟨hc11,by show ns.length <= 3;omega,fun y hy=>by rw[hnm];exact eU y hy⟩
   have L12:=L11.put td tp tn;generalize upd H11 t (.dK (cY (tab++[(x,c,ns)])))=H12 at L12 ⊢;have ax:as.length=es.length:=L12.he.length;have aw:=iX.len;obtain⟨x12,y12,hd12⟩:=L12.bS;refine⟨_,rfl,.inl ⟨rfl,_,aH.of L12.hp⟩,_,rfl,_,rfl,pl,_,rfl,.inl (aH.of L12.hp),_,_,rfl,rfl,d,x12,y12,_,rfl,hd12,by rw[AH];omega,by rw[AH];omega,fun r3 a3 b3 r30 r31=>?_⟩;obtain⟨j,rfl⟩:=Int.eq_ofNat_of_zero_le r30;rw[AH]at r31;have L13:=L12.roll td pd a3 b3;generalize upd H12 d (.lst [.int a3,.int b3])=H13 at L13 ⊢
   have hlk:(tab++[(x,c,ns)]).lookup x=some (c,ns):=by
    rw[Bo,CY hxo,show List.lookup x [(x,c,ns)]=some (c,ns) by rw[Zz];simp];rfl
   refine⟨_,rfl,_,rfl,_,rfl,t,_,rfl,.inl ⟨_,Sum.inr x,.inl L13.ht,rfl,by rw[C9,hlk];rfl⟩,gc,fun ea hea=>?_⟩;have s14:=AC (aB.refl _) hea (o:=HO.tup [.str x,.ref c]);have he14:=aA (H:=H13) (a:=ea) (o:=HO.tup [.str x,.ref c]);have L14:=L13.same s14;generalize upd H13 ea (.tup [.str x,.ref c])=H14 at s14 he14 L14 ⊢;refine⟨pl,_,j,_,rfl,rfl,L14.hp,by rw[AH];omega,by rw[AH];omega,?_⟩;exact⟨⟨_,_,rfl⟩,⟨_,_,_,iX.put (q:=(c,ns)) hmn hxi,L14.ins (q:=(x,c,ns)) pd tp ⟨he14,(L14.tn (x,c,ns) (ZT _ (ZG.mpr rfl))).1⟩⟩,fun z=>by cases z⟩
 ·rintro σ H7 ⟨⟨v8,v12,rfl⟩,⟨tab,es,as,iX,W⟩,_⟩;have SX7:bZ d Hf H7:=⟨fun b o e hb=>W.old b o (s56 _ _ e) hb (AG e ht) (AG e hpf),W.bS⟩;have kl:=cQ.aP iK SX7;have KA7:=k9.fA kl;have KB7:=KB.fA kl;have ax:as.length=es.length:=W.he.length
  have av:(ms.map V.ref).length <= 8/\(Ac (Ai rows)).length=(ms.map V.ref).length:=by
   have h1:=g6.length;have h2:=A7 (Ai rows);rw[Az]at h2;unfold CA at h1;rw[AH]at h1;unfold Ac;rw[AH,AH];omega
  have aw:=iX.len
  have ah:tab=G8 (fun x=>tab.lookup x) (Ac (Ai rows)):=by
   have:=iX.pk;rw[List.take_of_length_le qe]at this;exact this
  refine⟨_,rfl,_,rfl,_,rfl,?_⟩;intro p dx ba a0 az;have sN:=Bu (D:=EC) ba a0 az;have W7:=W.same sN
  have PR:Prs (Ai rows) (Ai ad) (upd (upd H7 dx (.own p)) p (.ins EC dx [])) pl es:=⟨⟨as,W7.hp,W7.he⟩,qe,iX.nd,fun q hq=>by
   have h1:=iX.sub q hq;rw[ah]at h1;rw[Vg,ZL (Nz h1)],fun q hq=>by
   have h1:=W.tn q (iX.sub q hq)
   exact⟨h1.2.1,fun y hy=>by rw[Vh,ZL (h1.2.2 y hy)]⟩⟩
  refine⟨p,dx,k1,k2,pl,Ai rows,Ai ad,ra,rb,es,rfl,aA,KA7.same sN,by rw[Az];omega,KB7.same sN,by rw[Az];omega,PR,fun H8 s8 ED=>⟨rfl,?_⟩⟩;have s78:aB H7 H8:=Bg sN ba s8;refine⟨_,rfl,_,rfl,_,rfl,sl4,fun q hq=>?_⟩;have s9:=s78.trans (AC (aB.refl _) hq (o:=HO.tup [.ref p,.ref t,.ref u1,.ref u2]))
  have ED9:eA EC H8 p k1 k2 (cY tab):=by
   have h:=ED;rw[RE DO.nd,Ip (fun x _=>iX.lk x),←ah]at h;exact h
  exact k q p k1 k2 t u1 u2 rows ad ra rb tab _ ((SXH.trans SX7).step s9) aA (ED9.same (AC (aB.refl _) hq)) (s9 _ _ W.ht) ah (W.tn.same (aN.of s9)) (KA7.same s9) (KB7.same s9) hra hrb ((D1f.aP iK u1d SX7).same s9) ((D2f.aP iK u2d SX7).same s9) u1d u2d r0 qe RO ar r0' qe RO2 dj
end
theorem Sm {α:Type}{p:α->Bool}{l:List α}{i:Nat}{m:α} (h:l[i]?=some m) (hp:p m=true):(l.filter p)[((l.take i).filter p).length]?=some m/\(l.filter p).take ((l.take i).filter p).length=(l.take i).filter p:=by
 have hi:=(Z8.mp h).1
 have e:l=l.take i++m :: l.drop (i + 1):=by
  have h1:=take_append_drop i l
  have h2:l.drop i=m :: l.drop (i + 1):=by
   rw[List.drop_eq_getElem_cons hi,(Z8.mp h).2]
  rw[h2]at h1;exact h1.symm
 have e2:l.filter p=(l.take i).filter p++m :: (l.drop (i + 1)).filter p:=by
  have h3:=congrArg (List.filter p) e;rw[filter_append,filter_cons_of_pos hp]at h3;exact h3
 rw[e2];generalize (l.take i).filter p=xs;refine⟨?_,?_⟩
 ·rw[List.getElem?_append_right (Zy _),Nat.sub_self];rfl
 ·rw[List.take_append_of_le_length (Zy _),ZB]
noncomputable def gN (due:Aa) (n:Nat) (l:List Nat):List Str:=(l.filter fun m=>decide (m &&& n≠0)).map (BP (AU due))
theorem Vj {n i m:Nat} (h:(AI due)[i]?=some m) (hb:m &&& n≠0):(Am due n)[(gN due n ((AI due).take i)).length]?=some (BP (AU due) m)/\(Am due n).take (gN due n ((AI due).take i)).length=gN due n ((AI due).take i):=by
 obtain⟨h1,h2⟩:=Sm (p:=fun m=>decide (m &&& n≠0)) h (ZL hb);unfold Am gN;rw[AH];refine⟨?_,?_⟩
 ·rw[ZE,h1];rfl
 ·rw[←map_take,h2]
theorem Sn {n i m:Nat} (h:(AI due)[i]?=some m) (hb:m &&& n≠0):gN due n ((AI due).take (i + 1))=gN due n ((AI due).take i)++[BP (AU due) m]:=by
 unfold gN;rw[ZD,h,filter_append];show List.map _ (_++List.filter _ [m])=_;rw[filter_cons_of_pos (p:=fun m=>decide (m &&& n≠0)) (ZL hb),Zu];rfl
theorem So {n i m:Nat} (h:(AI due)[i]?=some m) (hb:¬ m &&& n≠0):gN due n ((AI due).take (i + 1))=gN due n ((AI due).take i):=by
 unfold gN;rw[ZD,h,filter_append];show List.map _ (_++List.filter _ [m])=_;rw[List.filter_cons_of_neg (by simpa using hb)];rw[filter_nil,Zt]
section
variable {cP:Addr}
inductive spGoal (vs:List V) (H:Hp) (Q:VK) (_E:XK):Prop where
 |mk (t u u2:Addr) (n:Nat) (due aD:Aa) (tab:List Ent) (cE:vs=[.ref t,.ref u,.ref u2,.int (n:Int)]) (cD:H t=some (.dK (cY tab))) (cH:fb aD H tab) (dH:cW H u due) (eT:cW H u2 aD) (gm:due.length <= 10) (iB:(∀p∈due,p.2 < 2 ^ 20)) (jy:aD.length <= 10) (z_8:(aD.map (·.1)).Nodup) (z_9:(∀x p H',Ik tab (Am due n) x->aB H H'->H' p=some (.tup [.str "refused", .str "Unled", .str x])->Q (.ref p) H')) (z_10:(jx tab (Am due n)->∀H',aB H H'->Q (.int (EN tab due aD n:Nat)) H'))
noncomputable abbrev Vk:List Str:=["_law_table", "_law_due", "_law_next_due", "_law_number", "_law_own", "_law_found", "_law_numbers", "_law_name", "_law_more", "_law_bit", "_law_one"]
theorem eJ:AL Vk ["_law_table", "_law_due", "_law_next_due", "_law_number"] (defScope IQ):=cB
theorem Sq (F:aW K "_law_goal" "_law_goal" IQ f fd) (GT:Fn P w K mg base "_law_table_of" 2 ["_law_due"] spTable):AY P w K mg base aO 3 f fd ["_law_table", "_law_due", "_law_next_due", "_law_number"] spGoal:=by
 obtain⟨fT,dT,GT,mT,kT,bT⟩:=GT.ex;refine F.m eJ fun vs H Q E h=>?_;obtain⟨t,u,u2,n,due,aD,tab,rfl,ht,TN,D1,D2,iN,hlt,h10',nd2,kL,kH⟩:=h;refine⟨rfl,fun ac A outer s hr=>?_⟩;have hu:=B6 hr
 refine⟨_,AE (Nn (i:=4) (j:=5) (k:=6) rfl eJ.nd rfl rfl rfl rfl rfl rfl (AA (AM GT hr rfl mT kT bT .nil AN (AA (pv 1) AB)) (AA AJ (AA Dv AB))) qd)
  (AE (BY PassesOwn.never rfl (Ao (pv 2)) (BG rfl (AQ (AO (i:=7) eJ.nd rfl (Or.inl rfl)) (AQ (AO (i:=8) eJ.nd rfl (Or.inl rfl)) Ax)))
   (AD (G9 hu (pv 6) (pv 7) (pv 8) rfl)))
  (AE (BY PassesOwn.never rfl (Ao (A2 hu (pv 4) Ae (fun _ _=>rfl))) (BG rfl (AQ (AO (i:=7) eJ.nd rfl (Or.inl rfl)) (AQ (AO (i:=9) eJ.nd rfl (Or.inl rfl)) Ax)))
   (AD (An (AS CI (AX Bw (pv 3) (pv 9)) AJ (AW _))
    (AE (An (CZ (GQ hu (pv 7) (pv 0))) (AD (AR (BB (AA Ae (AA Ae (AA (pv 7) AB)))))) AT)
    (AD (BY PassesOwn.never rfl (F7 (A2 hu (pv 0) (pv 7) (fun _ _=>rfl))) (AO (i:=10) eJ.nd rfl (Or.inl rfl))
     (AD (Ag (i:=5) eJ.nd rfl (Or.inl rfl) (AX HQ (pv 5) (A2 hu (pv 6) (pv 10) (fun _ _=>rfl))))))))
    AT)))
  (AD (AR (AX HQ (pv 5) (AX HM (pv 3) (AX Bw (pv 3) (A2 hu (pv 4) Ae (fun _ _=>rfl))))))))),?_⟩
 obtain⟨bs,hu0,ap⟩:=D1;refine⟨_,rfl,u,bs,due,rfl,hu0,ap,iN,hlt,fun tb e m ms H1 s1 ay he hm g6=>?_⟩;refine fun d hd=>⟨_,_,_,rfl,?_⟩;have eK:=AC (aB.refl _) hd (o:=HO.dK []);have hd2:=aA (H:=H1) (a:=d) (o:=HO.dK []);have s02:=s1.trans eK;have hdH:H d=none:=none_of s1 hd;have dtb:tb≠d:=AG ay hd;have dm:m≠d:=AG hm hd;generalize upd H1 d (HO.dK [])=H2 at eK hd2 s02 ⊢;obtain⟨cs,be,bd⟩:=D2.same s02;have u2d:u2≠d:=fun z=>by rw[z,hd2]at be;cases be
 have ag:cs.length=aD.length:=by rw[bd.length];unfold C0;rw[AH]
 refine⟨_,rfl,u2,rfl,⟨_,aH.of be⟩,BL (K:=K) (a:=u2) (xs:=cs.map V.ref) (fun i σ H3=>(∃v7 v8:Option V,σ=[some (.ref t),some (.ref u),some (.ref u2),some (.int (n:Int)),some (.ref tb),some (.int 0),some (.ref d),v7,v8,none,none])/\(∀b o,H2 b=some o->b≠d->H3 b=some o)/\H3 d=some (.dK (A8 (aD.take i))))
  ⟨⟨none,none,rfl⟩,fun _ _ e _=>e,hd2⟩ (fun i σ H3 _ ⟨_,e,_⟩=>aH.of (e _ _ be u2d)) ?_ ?_⟩
 ·rintro i v σ H3 hi ⟨⟨v7,v8,rfl⟩,e3,iy⟩;obtain⟨bb,p,rfl,kQ,ak,aj⟩:=Ck (aE.aS (fun b xs e=>e3 b _ e (fun z=>by rw[z,hd2]at e;cases e)) bd) hi;refine⟨bb,_,rfl,aY.of aj,rfl,_,_,rfl,_,_,rfl,rfl,?_⟩
  have hn:p.1∉ (aD.take i).map (·.1):=fun z=>by
   have h7:=nd2.sublist ((take_sublist (i + 1) aD).map (·.1));rw[ZD,ak,Zu,nodup_append]at h7;exact h7.2.2 _ z _ (ZG.mpr rfl) rfl
  refine⟨_,rfl,_,rfl,_,rfl,d,_,rfl,DPut.k (k:=Sum.inr p.1) iy (AZ (by rw[Ec,ZA];omega)),?_⟩;refine⟨⟨_,_,rfl⟩,fun b o e hb=>by rw[AF hb];exact e3 b o e hb,?_⟩;rw[aA,Nq hn,ZD,ak];rfl
 ·rintro σ H3 ⟨⟨v7,v8,rfl⟩,e3,iy⟩;rw[show aD.take (cs.map V.ref).length=aD by rw[AH,ag,ZB]]at iy;have s03:aB H H3:=fun b o e=>e3 b o (s02 _ _ e) (AG e hdH);have htb3:=e3 _ _ (eK _ _ ay) dtb;have hm3:=e3 _ _ (eK _ _ hm) dm;have hms3:aE H3 ms (CA due):=aE.aS (fun b xs e=>e3 b _ (eK _ _ e) (AG e hd)) g6;have jF:=s03 _ _ ht;have TN3:=TN.same (fun b xs e=>s03 _ _ e);clear e3 bd be ag eK hd2 s02 ay hm g6
  have av:(ms.map V.ref).length=(AI due).length:=by
   have h1:=hms3.length;unfold CA at h1;rw[AH]at h1;rw[AH];exact h1
  refine⟨_,rfl,tb,_,rfl,.inl ⟨_,Sum.inr "marks", .inl htb3,rfl,(DS _ _ _).symm⟩,m,rfl,⟨_,aH.of hm3⟩,BL (K:=K) (a:=m) (xs:=ms.map V.ref) (fun i σ H4=>(∃v7 v8 v9 v10:Option V,σ=[some (.ref t),some (.ref u),some (.ref u2),some (.int (n:Int)),some (.ref tb),some (.int (Ab ((fl tab (gN due n ((AI due).take i))).map (look aD)):Nat)),some (.ref d),v7,v8,v9,v10])/\jx tab (gN due n ((AI due).take i))/\H4=H3)
   ⟨⟨_,_,_,_,rfl⟩,(fun x hx=>by cases hx),rfl⟩ (fun i σ H4 _ ⟨_,_,e⟩=>e ▸ aH.of hm3) ?_ ?_⟩
  ·rintro i v σ H4 hi ⟨⟨v7,v8,v9,v10,rfl⟩,hH,rfl⟩;obtain⟨bb,nn,rfl,hn,aj⟩:=Cy hms3 hi;refine⟨bb,_,rfl,aY.of aj,rfl,_,_,rfl,_,_,rfl,rfl,?_⟩;refine⟨_,rfl,_,rfl,_,_,rfl,rfl,rfl,_,rfl,?_⟩
   have ed:(!decide (V.int (Builtin.bitAnd (n:Int) (nn:Int))=V.int 0))=decide (nn &&& n≠0):=by
    rw[CS,Nat.and_comm];by_cases z:nn &&& n=0
    ·rw[z];rfl
    ·rw[ZL z,ZO (fun y=>z (by have:=V.int.inj y;omega))];rfl
   show if (!decide (V.int (Builtin.bitAnd (n:Int) (nn:Int))=V.int 0))=true then _ else _
   rw[ed];refine By (fun hq=>?_) (fun hq=>?_)
   ·have hb:=ZV hq;obtain⟨jY,hx2⟩:=Vj hn hb;have hsn:=Sn hn hb;generalize BP (AU due) nn=x at aj jY hsn ⊢;refine⟨_,rfl,_,rfl,t,_,rfl,.inl ⟨_,Sum.inr x,.inl jF,rfl,rfl⟩,_,rfl,?_⟩;rw[C9];cases eq:tab.lookup x with
    |none =>
     refine BX ⟨_,rfl,iE,fun p hp=>?_⟩;exact kL x p _ ⟨_,jY,by rw[hx2];exact hH,eq⟩ (s03.trans (AC (aB.refl _) hp)) aA
    |some q =>
     refine Aq ?_;have gH:=TN3 _ (Fy eq)
     refine⟨_,rfl,_,rfl,t,_,rfl,.inl ⟨_,Sum.inr x,.inl jF,rfl,by rw[C9,eq];rfl⟩,q.1,rfl,⟨_,aY.of gH.1⟩,Rc (K:=K) (a:=q.1) (xs:=q.2.map V.str) (fun j σ H5=>(∃v10:Option V,σ=[some (.ref t),some (.ref u),some (.ref u2),some (.int (n:Int)),some (.ref tb),some (.int (Ab ((fl tab (gN due n ((AI due).take i))++q.2.take j).map (look aD)):Nat)),some (.ref d),some (.str x),v8,some (.int (nn:Int)),v10])/\H5=H4)
      ⟨⟨_,by rw[List.take_zero,Zt];rfl⟩,rfl⟩ (fun j σ H5 _ ⟨_,e⟩=>e ▸ aY.of gH.1) ?_ ?_⟩
     ·rintro j v σ H5 hj ⟨⟨v10,rfl⟩,rfl⟩;rw[ZE]at hj;obtain⟨y,hy,rfl⟩:=Z6.mp hj;have au:=gH.2.2 y (ZQ hy);refine⟨_,rfl,_,rfl,_,rfl,d,_,rfl,.inl ⟨_,Sum.inr y,.inl iy,rfl,(CV au).symm⟩,_,_,rfl,rfl,⟨some (.str y),?_⟩,rfl⟩
      have eo:(fun i j=>V.int (Builtin.bitOr i j)) ((Ab ((fl tab (gN due n ((AI due).take i))++q.2.take j).map (look aD)):Nat):Int) ((look aD y:Nat):Int)=V.int ((Ab ((fl tab (gN due n ((AI due).take i))++q.2.take (j + 1)).map (look aD)):Nat):Int):=by
       show V.int (Builtin.bitOr _ _)=_;rw[DC,ZD,hy,←List.append_assoc,Zu (l₂:=Option.toList (some y))];show _=V.int ((Ab (_++[look aD y]):Nat):Int);rw[DY]
      rw[←eo];rfl
     ·rintro σ H5 ⟨⟨v10,rfl⟩,rfl⟩;refine⟨⟨some (.str x),v8,some (.int (nn:Int)),v10,?_⟩,?_,rfl⟩
      ·rw[hsn,AH,ZB]
       have ef:fl tab (gN due n ((AI due).take i)++[x])=fl tab (gN due n ((AI due).take i))++q.2:=by
        unfold fl;rw[List.flatMap_append,List.flatMap_singleton,eq];rfl
       rw[ef]
      ·intro y hy;rw[hsn]at hy;rcases mem_append.mp hy with z |z
       ·exact hH y z
       ·rw[ZG.mp z,eq];rfl
   ·have hb:¬ nn &&& n≠0:=fun z=>hq (ZL z);rw[←So hn hb]at hH ⊢;exact⟨⟨_,_,_,_,rfl⟩,hH,rfl⟩
  ·rintro σ H4 ⟨⟨v7,v8,v9,v10,rfl⟩,hH,rfl⟩;rw[av,ZB]at hH ⊢;refine⟨_,rfl,_,rfl,_,rfl,_,rfl,tb,_,rfl,.inl ⟨_,Sum.inr "bits", .inl htb3,rfl,(Lf _ _ _).symm⟩,_,_,rfl,rfl,_,_,rfl,rfl,_,_,rfl,rfl,?_⟩
   have eg:(fun i j=>V.int (Builtin.bitOr i j)) ((Ab ((fl tab (gN due n (AI due))).map (look aD)):Nat):Int) ((n:Int) - Builtin.bitAnd (n:Int) ((Ab (AI due):Nat):Int))=V.int ((EN tab due aD n:Nat):Int):=by
    show V.int (Builtin.bitOr _ _)=_;rw[CS];have h1:=Nat.and_le_left (n:=n) (m:=Ab (AI due));rw[show((n:Int) - ((n &&& Ab (AI due):Nat):Int))=((n - (n &&& Ab (AI due)):Nat):Int) by omega,DC];rfl
   have:=kH hH H4 s03;rw[←eg]at this;exact this
end
section
variable {cP:Addr}
inductive spLLed (C EC:Addr) (vs:List V) (H:Hp) (Q:VK) (_E:XK):Prop where
 |mk (p k o t u u2:Addr) (n:Nat) (due aD:Aa) (r2:Str) (tab:List Ent) (cE:vs=[.ref p,.ref t,.ref u,.ref u2,.int (n:Int)]) (cD:eA EC H p k o (cY tab)) (cH:aF C H o aD r2) (dH:H t=some (.dK (cY tab))) (eT:fb aD H tab) (gm:cW H u due) (iB:cW H u2 aD) (jy:due.length <= 10) (z_8:(∀p∈due,p.2 < 2 ^ 20)) (z_9:aD.length <= 10) (z_10:(∀p∈aD,p.2 < 2 ^ 20)) (z_11:(aD.map (·.1)).Nodup) (z_12:n - (n &&& Ab (AI due))=0) (z_13:(∀x q H',Ik tab (Am due n) x->aB H H'->H' q=some (.tup [.str "refused", .str "Unled", .str x])->Q (.ref q) H')) (z_14:(jx tab (Am due n)->∀H',aB H H'->Q (.int ((EN tab due aD n:Nat):Int)) H'))
noncomputable abbrev Vl:List Str:=["_law_edition_here", "_law_table", "_law_due", "_law_next_due", "_law_number", "_law_goal_here"]
theorem scLLed:AL Vl ["_law_edition_here", "_law_table", "_law_due", "_law_next_due", "_law_number"] (defScope KM):=cB
theorem Sr (F:aW K "_law_led" "_law_led" KM f fd) (B:Bl mg) (ET:Fw K EC) (T:Dj K C) (GG:Fn P w K mg base "_law_goal" 3 ["_law_table", "_law_due", "_law_next_due", "_law_number"] spGoal) (GT:Fn P w K mg base "_law_table_of" 2 ["_law_due"] spTable) (GM:Fn P w K mg base "_law_made" 1 ["_law_table", "_law_way", "_law_number"] spLMade)
  (GO:Mt P w K mg base EC "other" 1 ["self"] (spEOther EC)) (GR:Mt P w K mg base C "rest" 1 ["self"] (spRest C)):AY P w K mg base aO 4 f fd ["_law_edition_here", "_law_table", "_law_due", "_law_next_due", "_law_number"] (spLLed C EC):=by
 obtain⟨fG,dG,GG,mG,kG,bG⟩:=GG.ex;obtain⟨fT,dT,GT,mT,kT,bT⟩:=GT.ex;obtain⟨fM,dM,GM,mM,kM,bM⟩:=GM.ex;obtain⟨fO,dO,GO,mO,bO⟩:=GO.ex;obtain⟨fR,dR,GR,mR,bR⟩:=GR.ex;refine F.m scLLed fun vs H Q E h=>?_;obtain⟨p,k,o,t,u,u2,n,due,aD,r2,tab,rfl,ED,KB,ht,TN,D1,D2,iN,hlt,h10',db,nd2,h0,kL,kH⟩:=h;refine⟨rfl,fun ac A outer s hr=>?_⟩;have cN:aG 1 _:=hr.mono qc;have ff:aG 2 _:=hr.mono qc
 refine⟨_,AE (Ag (i:=5) scLLed.nd rfl (Or.inl rfl) (AM GG hr rfl mG kG bG .nil AN (AA (pv 1) (AA (pv 2) (AA (pv 3) (AA (pv 4) AB))))))
  (AE (An (A5 (Bi K rfl rfl B.eO rfl B.tuple Bd (pv 5))) (AD (AR (pv 5))) AT)
  (AD (AR (AM GM cN rfl mM kM bM .nil AN (AA (AM GT ff rfl mT kT bT .nil AN (AA (pv 3) AB)) (AA (Aj (Aj (pv 0) ET.cl mO GO cN bO .nil AN) T.cl mR GR cN bR .nil AN) (AA (pv 5) AB))))))),?_⟩
 refine⟨_,rfl,_,rfl,_,rfl,_,rfl,t,u,u2,n,due,aD,tab,rfl,ht,TN,D1,D2,iN,hlt,h10',nd2,fun x q H1 hL s1 hq=>?_,fun hH H1 s1=>?_⟩
 ·refine⟨_,rfl,_,_,_,true,rfl,.tup hq,rfl,_,rfl,?_⟩;exact BX ⟨_,rfl,kL x q H1 hL s1 hq⟩
 ·refine⟨_,rfl,_,_,_,false,rfl,.int _,rfl,_,rfl,?_⟩;refine Aq ?_;obtain⟨cs,be,bd⟩:=D2.same s1;refine⟨_,rfl,u2,cs,aD,rfl,be,bd,h10',db,fun tb e m ms H2 s2 ay he hm g6=>?_⟩;have eK:=s1.trans s2;obtain⟨dx,d,ob,hp,hd⟩:=id (ED.same eK);obtain⟨dk,e1,e2,hk⟩:=(KB.same eK).ins;refine⟨_,rfl,p,dx,_,rfl,hp,EM _ _ _,p,k,o,_,rfl,ED.same eK,o,dk,_,rfl,hk,(Br _ _ _),o,aD,r2,rfl,KB.same eK,_,rfl,tb,e,m,aD,r2,_,rfl,ay,?_,kH hH _ eK⟩;have eg:EN tab due aD n=Ab ((fl tab (Am due n)).map (look aD)):=by unfold EN;rw[h0,Nat.or_zero]
  have eU:=Ij (due:=aD) (ns:=fl tab (Am due n)) (Q7 TN _);have hle:=Nat.and_le_left (n:=Ab ((fl tab (Am due n)).map (look aD))) (m:=kn aD);rw[eg];omega
end
end Mk
end
section
namespace MK
noncomputable def KS:List Nat->List Nat->List Nat
 |us,[]=>us
 |us,m :: r=>KS (us++us.map (· |||m)) r
noncomputable def dS (ms:List Nat):List Nat:=KS [0] ms
theorem Lr:∀(us a b:List Nat),KS us (a++b)=KS (KS us a) b
 |us,[],b=>rfl
 |us,m :: r,b=>Lr _ r b
theorem Ls (ms:List Nat) (m:Nat):dS (ms++[m])=dS ms++(dS ms).map (· |||m):=Lr [0] ms [m]
theorem Lu:∀(us ms:List Nat),(KS us ms).length=us.length * 2 ^ ms.length
 |us,[]=>(Nat.mul_one _).symm
 |us,m :: r=>by
  show(KS _ r).length=_;rw[Lu,ZH,AH,length_cons,Nat.pow_succ,←Nat.mul_two,Nat.mul_assoc,Nat.mul_comm 2]
theorem HF (ms:List Nat):(dS ms).length=2 ^ ms.length:=by unfold dS;rw[Lu,length_singleton,Nat.one_mul]
theorem Lv {k:Nat}:∀ {ms us:List Nat}{u:Nat},u∈KS us ms->u.testBit k=true->(∃v∈us,v.testBit k=true)\/∃m∈ms,m.testBit k=true
 | [],us,u,h,hb=>.inl ⟨u,h,hb⟩
 |m :: r,us,u,h,hb=>by
  rcases Lv (ms:=r) h hb with⟨v,hv,hvb⟩ |⟨m',h1,h2⟩
  ·rcases mem_append.mp hv with z |z
   ·exact .inl ⟨v,z,hvb⟩
   ·obtain⟨x,hx,rfl⟩:=Zr.mp z;rw[Nat.testBit_or,Bool.or_eq_true]at hvb;rcases hvb with y |y
    ·exact .inl ⟨x,hx,y⟩
    ·exact .inr ⟨m,ZI ..,y⟩
  ·exact .inr ⟨m',ZR _ h1,h2⟩
theorem N0 {k:Nat}{ms:List Nat}{u:Nat} (h:u∈dS ms) (hb:u.testBit k=true):∃m∈ms,m.testBit k=true:=by
 rcases Lv h hb with⟨v,hv,hvb⟩ |z
 ·rw[ZG.mp hv,Nat.zero_testBit]at hvb;cases hvb
 ·exact z
theorem HG {u k:Nat} (h:u < 2 ^ k):u |||2 ^ k=u + 2 ^ k:=by
 have:=Nat.two_pow_add_eq_or_of_lt h 1;rw[Nat.mul_one]at this;rw[Nat.or_comm,←this,Nat.add_comm]
theorem Jr:∀ {ms us:List Nat},us.Pairwise (· < ·)->(∀u∈us,∀m∈ms,u < m)->(∀m∈ms,A6 m=true)->ms.Pairwise (· < ·)->(KS us ms).Pairwise (· < ·)
 | [],us,h,_,_,_=>h
 |m :: r,us,h,hu,hm,hp=>by
  obtain⟨k,rfl⟩:=Be (hm m (ZI ..));have hb:∀u∈us,u < 2 ^ k:=fun u h=>hu u h _ (ZI ..);have hp':=List.pairwise_cons.mp hp;refine Jr (ms:=r) ?_ ?_ (fun m h=>hm m (ZR _ h)) hp'.2
  ·refine List.pairwise_append.mpr ⟨h,?_,fun u gF v hv=>?_⟩
   ·rw[pairwise_map];refine h.imp_of_mem fun {a b} ha iM hab=>?_;rw[HG (hb a ha),HG (hb b iM)];omega
   ·obtain⟨x,hx,rfl⟩:=Zr.mp hv;rw[HG (hb x hx)];have:=hb u gF;omega
  ·intro u gF m' jn;have hlt:=hp'.1 m' jn;obtain⟨k',rfl⟩:=Be (hm m' (ZR _ jn));rcases mem_append.mp gF with z |z
   ·exact Nat.lt_trans (hb u z) hlt
   ·obtain⟨x,hx,rfl⟩:=Zr.mp z;rw[HG (hb x hx)];have h1:=hb x hx;have h2:k < k':=(Nat.pow_lt_pow_iff_right qc).mp hlt;have h3:2 ^ (k + 1) <= 2 ^ k':=Nat.pow_le_pow_right qc h2;rw[Nat.pow_succ]at h3;omega
theorem RG {ms:List Nat} (hm:∀m∈ms,A6 m=true) (hp:ms.Pairwise (· < ·)):(dS ms).Pairwise (· < ·):=by
 refine Jr (List.pairwise_singleton _ _) (fun u hu m h=>?_) hm hp;rw[ZG.mp hu];obtain⟨k,rfl⟩:=Be (hm m h);exact Nat.two_pow_pos k
theorem Js {u n:Nat} (h:∀k,u.testBit k=true->n.testBit k=true):u &&& n=u:=by
 refine Nat.eq_of_testBit_eq fun k=>?_;rw[Nat.testBit_and];cases e:u.testBit k with
 |false=>rfl
 |true=>rw[h k e];rfl
end MK
end
section
namespace Mk
open PySem L2 MK
theorem Iq:∀(ps kvs:LK),((kvs++ps).map (·.1)).Nodup->BZ kvs ps=kvs++ps
 | [],kvs,_=>(Zt _).symm
 |p :: r,kvs,h=>by
  have hn:As kvs p.1=none:=by
   cases e:As kvs p.1 with
   |none=>rfl
   |some v =>
    have h1:=Rr e;rw[Zu,nodup_append]at h;exact absurd rfl (h.2.2 _ h1 p.1 (ZI ..))
  show BZ (BV kvs p.1 p.2) r=_;rw[DL _ hn,Iq r,List.append_assoc]
  ·rfl
  ·rw[List.append_assoc];exact h
theorem TW (nd:(due.map (·.1)).Nodup):kM due=Cf due:=by
 unfold kM;refine Iq _ [] ?_;show((Cf due).map (·.1)).Nodup;have h:=Ef nd;unfold Cf;rw[map_map];unfold Ac at h;refine pairwise_map.mpr ((pairwise_map.mp h).imp fun q z=>q (Sum.inr.inj z))
theorem NN (nd:(due.map (·.1)).Nodup) {x:Str} (h:x∈Ac due):As (kM due) (Sum.inr x:Key)=some (.int ((look due x:Nat):Int)):=by
 obtain⟨n,hn,rfl⟩:=Zr.mp h;rw[TW nd,EJ nd (Bh hn)]
 have key:∀l:List Nat,(∀m∈l,m∈AI due)->n∈l->As (l.map fun n=>((Sum.inr (BP (AU due) n):Key),V.int (n:Int))) (Sum.inr (BP (AU due) n):Key)=some (V.int (n:Int)):=by
  intro l hl eU;induction l with
  |nil=>cases eU
  |cons m r ih =>
   rw[map_cons];by_cases e:BP (AU due) m=BP (AU due) n
   ·have:m=n:=Q9 nd (Bh (hl m (ZI ..))) (e ▸ Bh hn);rw[BR (by rw[e]),this]
   ·rw[BS (fun z=>e (Sum.inr.inj z))];rcases mem_cons.mp eU with z |z
    ·exact absurd (by rw[z]) e
    ·exact ih (fun m hm=>hl m (ZR _ hm)) z
 exact key _ (fun _ h=>h) hn
noncomputable def Ej (due:Aa) (n:Nat) (x:Str):Bool:=decide (n &&& look due x≠0)
noncomputable def Eg (due:Aa) (n:Nat) (p:Str×Str):Bool:=Ej due n p.1 && !Ej due n p.2
noncomputable def Gv (due:Aa) (n:Nat) (p:Str×Str):Bool:=Ej due n p.1 && Ej due n p.2
noncomputable def BQ (due:Aa) (ns bs:List (Str×Str)) (n:Nat):Option (Str×Str×Str):=match ns.find? (Eg due n)with
 |some p=>some ("need", p)
 |none=>(bs.find? (Gv due n)).map fun p=>("bar", p)
noncomputable def BD (due:Aa) (ns bs:List (Str×Str)):List Nat:=(dS (AI due)).filter fun n=>(BQ due ns bs n).isNone
def FaultAt (H:Hp) (v:V):Option (Str×Str×Str)->Prop
 |none=>v=.aU
 |some t=>∃q,v=.ref q/\H q=some (.tup [.str t.1,.str t.2.1,.str t.2.2])
theorem F1 {α:Type}{f:α->Bool}{l:List α}{i:Nat}{a:α} (h:(l.take i).find? f=none) (e:l[i]?=some a) (hf:f a=true):l.find? f=some a:=by
 have hi:=(Z8.mp e).1
 have:l=l.take i++a :: l.drop (i + 1):=by
  have h1:=take_append_drop i l;rw[List.drop_eq_getElem_cons hi,(Z8.mp e).2]at h1;exact h1.symm
 rw[this,List.find?_append,h,find?_cons,hf];rfl
theorem Bs {α:Type}{f:α->Bool}{l:List α}{i:Nat}{a:α} (h:(l.take i).find? f=none) (e:l[i]?=some a) (hf:f a=false):(l.take (i + 1)).find? f=none:=by
 rw[ZD,e,List.find?_append,h];show Option.or none (List.find? f [a])=none;rw[find?_cons,hf];rfl
theorem F2 (n m:Nat):decide (V.int (Builtin.bitAnd (n:Int) (m:Int))=V.int 0)=decide (n &&& m=0):=by
 rw[CS];exact decide_eq_decide.mpr ⟨fun z=>by have:=V.int.inj z;omega,fun z=>by rw[z];rfl⟩
theorem KU (due:Aa) (n:Nat) (x:Str):Ej due n x=!decide (n &&& look due x=0):=by
 unfold Ej;by_cases h:n &&& look due x=0
 ·rw[ZO (fun z=>z h),ZL h];rfl
 ·rw[ZL h,ZO h];rfl
theorem KW {a:Addr}{o:HO} (s:aB H H') (h:Rd H a o):Rd H' a o:=by
 rcases h with h |⟨ob,h⟩
 ·exact .inl (s _ _ h)
 ·exact .inr ⟨ob,s _ _ h⟩
noncomputable def ig (ps:List (Str×Str)):List (V×V):=ps.map fun p=>(V.str p.1,V.str p.2)
def bY (H:Hp) (l:Addr) (ps:List (Str×Str)):Prop:=∃as:List Addr,H l=some (.lst (as.map V.ref))/\aE H as (ig ps)
theorem bY.same {l:Addr}{ps:List (Str×Str)} (s:aB H H') (h:bY H l ps):bY H' l ps:=by
 obtain⟨as,h1,h2⟩:=h;exact⟨as,s _ _ h1,aE.aS (fun b xs e=>s _ _ e) h2⟩
theorem Eh {as:List Addr}{ps:List (Str×Str)}{i:Nat}{v:V} (h:aE H as (ig ps)) (e:(as.map V.ref)[i]?=some v):∃b p,v=.ref b/\ps[i]?=some p/\H b=some (.tup [.str p.1,.str p.2]):=by
 rw[ZE]at e;obtain⟨b,hb,rfl⟩:=Z6.mp e;obtain⟨p,hp,ht⟩:=Bz h hb;unfold ig at hp;rw[ZE]at hp;obtain⟨q,hq,rfl⟩:=Z6.mp hp;exact⟨b,q,rfl,hq,ht⟩
def Cz (due:Aa) (ps:List (Str×Str)):Prop:=ps.length <= 100/\∀p∈ps,p.1∈Ac due/\p.2∈Ac due/\p.1≠p.2
theorem F3 {l:Addr}{xs:List V} (s:aB H H') (h:aY K H l xs):aY K H' l xs:=by
 rcases h with h |h
 ·exact .inl (KW s h)
 ·exact .inr h
def PrsS (K:FG) (H:Hp) (l:Addr) (ps:List (Str×Str)):Prop:=∃as:List Addr,(H l=some (.lst (as.map V.ref))\/aY K H l (as.map V.ref))/\aE H as (ig ps)
theorem bY.s {l:Addr}{ps:List (Str×Str)} (h:bY H l ps):PrsS K H l ps:=by
 obtain⟨as,h1,h2⟩:=h;exact⟨as,.inl h1,h2⟩
theorem Ir {X:Cx} (K:FG) (hK:X.K=K):Bb X (.builtin "isinstance") (fun xs H Q=>∃a p ys,xs=[.ref a,.ref p]/\(H a=some (.lst ys)\/aY K H a ys)/\aY K H p [.ty "list", .ty "tuple"]/\Q (.bl true) H):=by
 subst hK;intro aa s σ H xs us Q I r h;obtain⟨a,p,ys,rfl,ha,hp,q⟩:=h;obtain⟨u,uT,rfl,ru,jj⟩:=El r;cases ru;cases jj;obtain⟨its,rv,⟨o,e,c,n,dd⟩,_⟩:=I.tuple hp;obtain⟨ocl,odi,oda,fZ⟩:=o;simp only at c dd;subst c;subst dd
 have ei:its=[Value.type "list", Value.type "tuple"]:=by
  cases rv with
  |cons r1 r2 =>
   cases r2 with
   |cons r3 r4 =>
    cases r4;cases (show _=Value.type "list" from r1);cases (show _=Value.type "tuple" from r3);rfl
 subst ei;have fin:∀tk,EP X aa σ Q (.bool true) { s with toks:=tk }:=fun tk=>⟨.bl true,H,I.tok tk,rfl,q⟩;rcases ha with ha |ha
 ·obtain⟨_,_,m,_,h1⟩:=(show aT X.prog X.w H s.heap a (.lst ys)from I.aI a _ ha);exact W.kia_tup W.kitx_list I.cS ⟨_,h1,rfl⟩ e rfl (fun z=>nomatch z) fin
 ·obtain⟨gw,rv2,⟨o2,e2,c2,n2,dd2⟩,_⟩:=I.tuple ha;exact W.kia_tup W.kitx_tuple I.cS ⟨o2,e2,c2⟩ e rfl (fun z=>nomatch z) fin
section
variable {RC:Addr}
inductive spUni (K:FG) (vs:List V) (H:Hp) (Q:VK) (_E:XK):Prop where
 |mk (a:Addr) (ms:List Nat) (cE:vs=[.ref a]) (cD:aH K H a (Af ms)) (cH:ms.length <= 8) (dH:∀l H',aB H H'->H' l=some (.lst (Af (dS ms)))->Q (.ref l) H')
theorem scUnions:AL ["marks", "unions", "mark"] ["marks"] (defScope Ga):=cB
theorem Ss {n:Nat} (h:n <= 8):2 ^ n <= 256:=Nat.pow_le_pow_right qc h
theorem BE (l:List Nat):(Af l).length=l.length:=AH _
theorem Uc (F:aW K "unions_of" "unions_of" Ga f fd):AY P w K mg base aO 1 f fd ["marks"] (spUni K):=by
 refine F.m scUnions fun vs H Q E h=>?_;obtain⟨a,ms,rfl,hS,h8,k⟩:=h;refine⟨rfl,fun ac A outer s hr=>?_⟩
 refine⟨_,AE (Ag (i:=1) scUnions.nd rfl (Or.inl rfl) (BC (AA AJ AB)))
  (AE (BY PassesOwn.never rfl (Ao (pv 0)) (AO (i:=2) scUnions.nd rfl (Or.inr rfl))
   (AD (Ag (i:=1) scUnions.nd rfl (Or.inl rfl) (AX Du (pv 1) (A3 ["mark"] [some 2] qd qb qd rfl (Ao (pv 1)) (fun _ _ _ _ _ _=>BF) (fun _ _ _ _ _ _=>AX HQ (pv 0) (pv 1))))))) (AD (AR (pv 1)))),?_⟩
 refine⟨jS,fun l hl=>?_⟩;have s1:=AC (aB.refl _) hl (o:=HO.lst [V.int 0]);have ku:=aA (H:=H) (a:=l) (o:=HO.lst [V.int 0]);generalize upd H l (HO.lst [V.int 0])=H1 at s1 ku ⊢;refine⟨_,rfl,a,rfl,⟨_,s1.seq hS⟩,BL (K:=K) (a:=a) (xs:=Af ms) (fun i σ H2=>(∃(l:Addr) (v:Option V),σ=[some (.ref a),some (.ref l),v]/\H2 l=some (.lst (Af (dS (ms.take i)))))/\aB H H2) ⟨⟨l,none,rfl,ku⟩,s1⟩ (fun i σ H2 _ ⟨_,e⟩=>e.seq hS) ?_ ?_⟩
 ·rintro i x σ H2 hi ⟨⟨l2,v,rfl,fg⟩,s2⟩;unfold Af at hi;rw[ZE]at hi;obtain⟨m,hm,rfl⟩:=Z6.mp hi;have hi8:=(Z8.mp hm).1;have bf:(dS (ms.take i)).length <= 256:=by rw[HF];exact Ss (by rw[ZA];omega)
  refine⟨_,rfl,_,rfl,l2,rfl,⟨_,aH.of fg⟩,Aw (K:=K) (a:=l2) (xs:=Af (dS (ms.take i))) (fun j ys H3=>ys=Af (((dS (ms.take i)).take j).map (· |||m))/\H3=H2) ⟨rfl,rfl⟩ (fun j ys H3 _ ⟨_,e⟩=>e ▸ aH.of fg) (fun j ys H3 ⟨e,_⟩=>by rw[e,BE,AH,ZA];omega) ?_ ?_⟩
  ·rintro j v ys H3 hj ⟨rfl,rfl⟩;unfold Af at hj;rw[ZE]at hj;obtain⟨u,hu,rfl⟩:=Z6.mp hj;refine⟨_,rfl,_,rfl,_,_,rfl,rfl,?_,rfl⟩;rw[ZD,hu];unfold Af;rw[Zu,Zu];show _++[V.int (Builtin.bitOr _ _)]=_++[V.int _];rw[DC]
  ·rintro ys H3 ⟨rfl,rfl⟩ p hp;rw[BE,ZB]at *;have s3:=AC (aB.refl _) hp (o:=HO.lst (Af ((dS (ms.take i)).map (· |||m))));refine⟨l2,p,_,_,rfl,rfl,s3 _ _ fg,aA,Nat.le_of_lt (AZ (by rw[BE,BE,AH];omega)),fun q hq=>?_⟩;refine⟨⟨q,_,rfl,?_⟩,s2.trans (AC s3 hq)⟩;rw[aA,ZD,hm];show _=some (HO.lst (Af (dS (ms.take i++[m]))));rw[Ls];unfold Af;rw[Zu]
 ·rintro σ H2 ⟨⟨l2,v,rfl,fg⟩,s2⟩;rw[BE,ZB]at fg;exact⟨_,rfl,k l2 _ s2 fg⟩
inductive spIsPair (vs:List V) (H:Hp) (Q:VK) (_E:XK):Prop where
 |mk (b d:Addr) (km:LK) (x y:Str) (cE:vs=[.ref b,.ref d]) (cD:H b=some (.tup [.str x,.str y])) (cH:Rd H d (.dK km)) (dH:(As km (Sum.inr x:Key)).isSome=true) (eT:(As km (Sum.inr y:Key)).isSome=true) (gm:x≠y) (iB:∀H',aB H H'->Q (.bl true) H')
theorem RH:AL ["thing", "marks"] ["thing", "marks"] (defScope KL):=cB
theorem O7 (F:aW K "is_pair" "is_pair" KL f fd) (B:Bl mg) (GO:Fn P w K mg base "is_one_of" 1 ["thing", "names"] (CO K)):AY P w K mg base aO 2 f fd ["thing", "marks"] spIsPair:=by
 obtain⟨fO,dO,GO,mO,kO,bO⟩:=GO.ex;refine F.m RH fun vs H Q E h=>?_;obtain⟨b,d,km,x,y,rfl,hb,hd,hx,hy,az,k⟩:=h;refine⟨rfl,fun ac A outer s hr=>?_⟩
 refine⟨_,AE (An (PW.pt (CH (A9 (A5 (Bi K rfl rfl B.eO rfl B.tuple Bd (pv 0)))) (Bk (AS CI (AV (Au K rfl) rfl B.len PySem.boot_len (AA (pv 0) AB)) AJ (AW _))))) (AD Ah) AT)
  (AD (AR (Cb (AV (Cq rfl) rfl B.all FJ (AA (A3 ["marks"] [some 1] qd qb qd rfl (F7 (pv 0)) (fun _ _ _ _ _ _=>BF) (fun _ _ _ _ _ _=>AM GO hr rfl mO kO bO .nil AN (AA (pv 0) (AA (pv 1) AB)))) AB))
   (DB (CQ CI (Bc (Dh K rfl) (pv 0) AJ (fun _ _=>rfl)) (Bc (Dh K rfl) (pv 0) AJ (fun _ _=>rfl)) (AW _)))))),?_⟩
 refine⟨_,rfl,_,_,_,true,rfl,.tup hb,rfl,_,rfl,Aq ?_⟩;refine⟨_,rfl,b,_,rfl,.inr (aY.of hb),rfl,_,rfl,?_⟩;refine Kw rfl ?_;refine⟨_,rfl,b,rfl,⟨_,aY.of hb⟩,Dw (K:=K) (a:=b) (xs:=[V.str x,V.str y]) (fun i zs H2=>H2=H/\zs=([V.str x,V.str y].take i).map fun _=>V.bl true) ⟨rfl,rfl⟩ (fun i zs H2 _ ⟨e,_⟩=>e ▸ aY.of hb) (fun i zs H2 ⟨_,e⟩=>by rw[e,AH,ZA];show min i 2 <= _;omega) ?_ ?_⟩
 ·rintro i z zs H2 hi ⟨rfl,rfl⟩
  have hz:∃q,z=V.str q/\(As km (Sum.inr q:Key)).isSome=true:=by
   have:=ZQ hi;simp only[mem_cons,not_mem_nil,or_false]at this;rcases this with rfl |rfl
   ·exact⟨x,rfl,hx⟩
   ·exact⟨y,rfl,hy⟩
  obtain⟨q,rfl,hq⟩:=hz;refine⟨_,rfl,_,rfl,.inl ⟨q,d,km,rfl,hd,rfl,?_⟩⟩;rw[hq,ZD,hi,Zu];rfl
 ·rintro zs H2 ⟨rfl,rfl⟩ q hq;have sq:=AC (aB.refl _) hq (o:=HO.lst (([V.str x,V.str y].take [V.str x,V.str y].length).map fun _=>V.bl true));refine⟨q,[true,true],rfl,aH.of aA,_,rfl,BX ⟨_,rfl,b,_,0,.str x,rfl,rfl,aY.of (sq _ _ hb),rfl,_,rfl,b,_,1,.str y,rfl,rfl,aY.of (sq _ _ hb),rfl,rfl,?_⟩⟩;rw[ZO (show ¬ V.str x=V.str y from fun z=>az (V.str.inj z))];exact k _ sq
inductive spPairs (K:FG) (vs:List V) (H:Hp) (Q:VK) (_E:XK):Prop where
 |mk (l d:Addr) (km:LK) (ps:List (Str×Str)) (cE:vs=[.ref l,.ref d]) (cD:PrsS K H l ps) (cH:Rd H d (.dK km)) (dH:ps.length <= 100) (eT:(∀p∈ps,(As km (Sum.inr p.1:Key)).isSome=true/\(As km (Sum.inr p.2:Key)).isSome=true/\p.1≠p.2)) (gm:∀l' H',aB H H'->H l'=none->bY H' l' ps->Q (.ref l') H')
theorem Su:AL ["things", "marks"] ["things", "marks"] (defScope IK):=cB
theorem RI (F:aW K "pairs_of" "pairs_of" IK f fd) (B:Bl mg) (GP:Fn P w K mg base "is_pair" 2 ["thing", "marks"] spIsPair):AY P w K mg base aO 3 f fd ["things", "marks"] (spPairs K):=by
 obtain⟨fP,dP,GP,mP,kP,bP⟩:=GP.ex;refine F.m Su fun vs H Q E h=>?_;obtain⟨l,d,km,ps,rfl,⟨as,hl,has⟩,hd,h100,kg,k⟩:=h;refine⟨rfl,fun ac A outer s hr=>?_⟩;have ax:as.length=ps.length:=by have:=has.length;unfold ig at this;rw[AH]at this;exact this
 have step:∀ {i:Nat}{z:V},(as.map V.ref)[i]?=some z->((as.take i).map fun _=>V.bl true)++[V.bl true]=(as.take (i + 1)).map fun _=>V.bl true:=fun {i z} hi=>by
  rw[ZE]at hi;obtain⟨c,hc,_⟩:=Z6.mp hi;rw[ZD,hc,Zu];rfl
 rcases hl with hl |hl
 ·refine⟨_,AE (An (PW.pt (CH (A9 (A5 (AV (Ir K rfl) rfl B.eO EB (AA (pv 0) (AA (BB (AA (C1 (v:=.ty "list") rfl B.list B9 rfl) (AA (C1 (v:=.ty "tuple") rfl B.tuple Bd rfl) AB))) AB))))) (Bk (A9 (A5 (AV (Cq rfl) rfl B.all FJ (AA (A3 ["marks"] [some 1] qd qb qd rfl (Ao (pv 0)) (fun _ _ _ _ _ _=>BF) (fun _ _ _ _ _ _=>AM GP hr rfl mP kP bP .nil AN (AA (pv 0) (AA (pv 1) AB)))) AB))))))) (AD Ah) AT)
   (AD (AR (BK FU rfl B.list B9 (AA (pv 0) AB)))),?_⟩
  refine⟨_,rfl,gc,fun t ht=>?_⟩;have s1:=AC (aB.refl _) ht (o:=HO.tup [V.ty "list", V.ty "tuple"]);have kf:=aA (H:=H) (a:=t) (o:=HO.tup [V.ty "list", V.ty "tuple"]);generalize upd H t (HO.tup [V.ty "list", V.ty "tuple"])=H1 at s1 kf ⊢;refine⟨l,t,_,rfl,.inl (s1 _ _ hl),aY.of kf,_,rfl,Aq ?_⟩;refine⟨_,rfl,l,rfl,⟨_,aH.of (s1 _ _ hl)⟩,Aw (K:=K) (a:=l) (xs:=as.map V.ref) (fun i ys H2=>aB H1 H2/\ys=(as.take i).map fun _=>V.bl true) ⟨aB.refl _,rfl⟩ (fun i ys H2 _ ⟨e,_⟩=>aH.of (e _ _ (s1 _ _ hl))) (fun i ys H2 ⟨_,e⟩=>by rw[e,AH,ZA];omega) ?_ ?_⟩
  ·rintro i z ys H2 hi ⟨s2,rfl⟩;have st:=step hi;obtain⟨b,p,rfl,hp,hb⟩:=Eh (aE.aS (fun b xs e=>s2 _ _ (s1 _ _ e)) has) hi;obtain⟨q1,q2,q3⟩:=kg p (ZQ hp);exact⟨_,rfl,_,rfl,b,d,km,p.1,p.2,rfl,hb,KW (s1.trans s2) hd,q1,q2,q3,fun H3 s3=>⟨s2.trans s3,st⟩⟩
  ·rintro ys H2 ⟨s2,rfl⟩ q hq;have sq:=AC s2 hq (o:=HO.lst ((as.take (as.map V.ref).length).map fun _=>V.bl true));refine⟨q,(as.take (as.map V.ref).length).map fun _=>true,rfl,aH.of (by rw[aA,map_map];rfl),_,rfl,?_⟩;rw[show(((as.take (as.map V.ref).length).map fun _=>true).all id)=true by rw[all_map];exact List.all_eq_true.mpr fun _ _=>rfl];refine Aq ⟨_,rfl,l,_,rfl,.inl (aH.of (sq _ _ (s1 _ _ hl))),fun l' iI=>?_⟩;have sl:=AC (s1.trans sq) iI (o:=HO.lst (as.map V.ref));exact k l' _ sl (none_of (s1.trans sq) iI) ⟨as,aA,aE.aS (fun b xs e=>sl _ _ e) has⟩
 ·refine⟨_,AE (An (PW.pt (CH (A9 (A5 (AV (Ir K rfl) rfl B.eO EB (AA (pv 0) (AA (BB (AA (C1 (v:=.ty "list") rfl B.list B9 rfl) (AA (C1 (v:=.ty "tuple") rfl B.tuple Bd rfl) AB))) AB))))) (Bk (A9 (A5 (AV (Cq rfl) rfl B.all FJ (AA (A3 ["marks"] [some 1] qd qb qd rfl (F7 (pv 0)) (fun _ _ _ _ _ _=>BF) (fun _ _ _ _ _ _=>AM GP hr rfl mP kP bP .nil AN (AA (pv 0) (AA (pv 1) AB)))) AB))))))) (AD Ah) AT)
   (AD (AR (BK FU rfl B.list B9 (AA (pv 0) AB)))),?_⟩
  refine⟨_,rfl,gc,fun t ht=>?_⟩;have s1:=AC (aB.refl _) ht (o:=HO.tup [V.ty "list", V.ty "tuple"]);have kf:=aA (H:=H) (a:=t) (o:=HO.tup [V.ty "list", V.ty "tuple"]);generalize upd H t (HO.tup [V.ty "list", V.ty "tuple"])=H1 at s1 kf ⊢;refine⟨l,t,_,rfl,.inr (F3 s1 hl),aY.of kf,_,rfl,Aq ?_⟩;refine⟨_,rfl,l,rfl,⟨_,F3 s1 hl⟩,Dw (K:=K) (a:=l) (xs:=as.map V.ref) (fun i ys H2=>aB H1 H2/\ys=(as.take i).map fun _=>V.bl true) ⟨aB.refl _,rfl⟩ (fun i ys H2 _ ⟨e,_⟩=>F3 (s1.trans e) hl) (fun i ys H2 ⟨_,e⟩=>by rw[e,AH,ZA];omega) ?_ ?_⟩
  ·rintro i z ys H2 hi ⟨s2,rfl⟩;have st:=step hi;obtain⟨b,p,rfl,hp,hb⟩:=Eh (aE.aS (fun b xs e=>s2 _ _ (s1 _ _ e)) has) hi;obtain⟨q1,q2,q3⟩:=kg p (ZQ hp);exact⟨_,rfl,_,rfl,b,d,km,p.1,p.2,rfl,hb,KW (s1.trans s2) hd,q1,q2,q3,fun H3 s3=>⟨s2.trans s3,st⟩⟩
  ·rintro ys H2 ⟨s2,rfl⟩ q hq;have sq:=AC s2 hq (o:=HO.lst ((as.take (as.map V.ref).length).map fun _=>V.bl true));refine⟨q,(as.take (as.map V.ref).length).map fun _=>true,rfl,aH.of (by rw[aA,map_map];rfl),_,rfl,?_⟩;rw[show(((as.take (as.map V.ref).length).map fun _=>true).all id)=true by rw[all_map];exact List.all_eq_true.mpr fun _ _=>rfl];refine Aq ⟨_,rfl,l,_,rfl,.inr (F3 (s1.trans sq) hl),fun l' iI=>?_⟩;have sl:=AC (s1.trans sq) iI (o:=HO.lst (as.map V.ref));exact k l' _ sl (none_of (s1.trans sq) iI) ⟨as,aA,aE.aS (fun b xs e=>sl _ _ e) has⟩
end
noncomputable def ruF:List Str:=["own_kind", "numbered_marks", "needs", "bars", "let_numbers"]
noncomputable def i7 (k d:Addr):List (Str×V):=At "numbered_marks" (.ref d) (At "own_kind" (.ref k) [])
noncomputable def iR (k d ln:Addr):List (Str×V):=At "needs" (.ref ln) (i7 k d)
noncomputable def jT (k d ln lb:Addr):List (Str×V):=At "bars" (.ref lb) (iR k d ln)
noncomputable def i6 (k d ln lb ll:Addr):List (Str×V):=At "let_numbers" (.ref ll) (jT k d ln lb)
structure RF (fs:List (Str×V)) (k d ln lb:Addr):Prop where
 ok:fs.lookup ("own_kind" : Str)=some (.ref k)
 om:fs.lookup ("numbered_marks" : Str)=some (.ref d)
 on:fs.lookup ("needs" : Str)=some (.ref ln)
 ob:fs.lookup ("bars" : Str)=some (.ref lb)
 no:∀m:Str,m∉ ruF->fs.lookup m=none
theorem RJ {m:Str} (h:m∉ ruF):¬ m = "own_kind" /\ ¬ m = "numbered_marks" /\ ¬ m = "needs" /\ ¬ m = "bars" /\ ¬ m = "let_numbers" := by
 unfold ruF at h;simp only[mem_cons,not_mem_nil,or_false,not_or]at h;exact h
theorem TX (k d:Addr):(i7 k d).lookup ("numbered_marks" : Str)=some (.ref d):=by unfold i7;rw[AK,Zp rfl]
theorem TY (k d ln:Addr):(iR k d ln).lookup ("numbered_marks" : Str)=some (.ref d):=by unfold iR;rw[AK,Zq qb];exact TX k d
theorem RK (k d ln lb:Addr):RF (jT k d ln lb) k d ln lb:=by
 refine⟨?_,?_,?_,?_,fun m h=>?_⟩
 ·unfold jT iR i7;rw[AK,Zq qb,AK,Zq qb,AK,Zq qb,AK,Zp rfl]
 ·unfold jT;rw[AK,Zq qb];exact TY k d ln
 ·unfold jT iR;rw[AK,Zq qb,AK,Zp rfl]
 ·unfold jT;rw[AK,Zp rfl]
 ·obtain⟨h1,h2,h3,h4,h5⟩:=RJ h;unfold jT iR i7;rw[AK,Zq h4,AK,Zq h3,AK,Zq h2,AK,Zq h1];rfl
theorem TZ (k d ln lb ll:Addr):(i6 k d ln lb ll).lookup ("let_numbers" : Str)=some (.ref ll):=by unfold i6;rw[AK,Zp rfl]
theorem Ud (k d ln lb ll:Addr):RF (i6 k d ln lb ll) k d ln lb:=by
 have h:=RK k d ln lb;refine⟨?_,?_,?_,?_,fun m hm=>?_⟩
 ·unfold i6;rw[AK,Zq qb];exact h.ok
 ·unfold i6;rw[AK,Zq qb];exact h.om
 ·unfold i6;rw[AK,Zq qb];exact h.on
 ·unfold i6;rw[AK,Zq qb];exact h.ob
 ·unfold i6;rw[AK,Zq (RJ hm).2.2.2.2];exact h.no m hm
structure Gw (K:FG) (RC:Addr):Prop where
 cl:ir K RC
 nK:bQ K RC "own_kind"
 nM:bQ K RC "numbered_marks"
 nN:bQ K RC "needs"
 nB:bQ K RC "bars"
 nL:bQ K RC "let_numbers"
def RuB (RC:Addr) (H:Hp) (p k:Addr) (due:Aa) (ns bs:List (Str×Str)):Prop:=∃dx fs d ln lb ob,H p=some (.ins RC dx fs)/\RF fs k d ln lb/\H d=some (.dA ob (.dK (kM due)))/\bY H ln ns/\bY H lb bs
def cV (RC:Addr) (H:Hp) (p k:Addr) (due:Aa) (ns bs:List (Str×Str)):Prop:=∃dx fs d ln lb ob ll,H p=some (.ins RC dx fs)/\RF fs k d ln lb/\H d=some (.dA ob (.dK (kM due)))/\bY H ln ns/\bY H lb bs/\fs.lookup ("let_numbers" : Str)=some (.ref ll)/\H ll=some (.lst (Af (BD due ns bs)))
def Sv (RC:Addr) (H:Hp) (p ll:Addr):Prop:=∃dx fs,H p=some (.ins RC dx fs)/\fs.lookup ("let_numbers" : Str)=some (.ref ll)
theorem cV.b {RC:Addr}{p k:Addr}{ns bs:List (Str×Str)} (h:cV RC H p k due ns bs):RuB RC H p k due ns bs:=by
 obtain⟨dx,fs,d,ln,lb,ob,ll,h1,h2,h3,h4,h5,_⟩:=h;exact⟨dx,fs,d,ln,lb,ob,h1,h2,h3,h4,h5⟩
theorem RuB.same {RC:Addr}{p k:Addr}{ns bs:List (Str×Str)} (s:aB H H') (h:RuB RC H p k due ns bs):RuB RC H' p k due ns bs:=by
 obtain⟨dx,fs,d,ln,lb,ob,h1,h2,h3,h4,h5⟩:=h;exact⟨dx,fs,d,ln,lb,ob,s _ _ h1,h2,s _ _ h3,h4.same s,h5.same s⟩
theorem cV.same {RC:Addr}{p k:Addr}{ns bs:List (Str×Str)} (s:aB H H') (h:cV RC H p k due ns bs):cV RC H' p k due ns bs:=by
 obtain⟨dx,fs,d,ln,lb,ob,ll,h1,h2,h3,h4,h5,h6,h7⟩:=h;exact⟨dx,fs,d,ln,lb,ob,ll,s _ _ h1,h2,s _ _ h3,h4.same s,h5.same s,h6,s _ _ h7⟩
section
variable {RC:Addr}
inductive spFF (RC:Addr) (vs:List V) (H:Hp) (Q:VK) (_E:XK):Prop where
 |mk (p k:Addr) (due:Aa) (ns bs:List (Str×Str)) (n:Nat) (cE:vs=[.ref p,.int (n:Int)]) (cD:RuB RC H p k due ns bs) (cH:(due.map (·.1)).Nodup) (dH:Cz due ns) (eT:Cz due bs) (gm:∀v H',aB H H'->FaultAt H' v (BQ due ns bs n)->Q v H')
noncomputable abbrev NFF:List Str:=["self", "number", "name", "needed", "barred"]
theorem scFF:AL NFF ["self", "number"] (defScope Cd):=cB
theorem Vm (F:aW K "first_fault" "Rule.first_fault" Cd f fd) (RT:Gw K RC):AY P w K mg base aO 1 f fd ["self", "number"] (spFF RC):=by
 refine F.m scFF fun vs H Q E h=>?_;obtain⟨p,k,due,ns,bs,n,rfl,⟨dx,fs,d,ln,lb,ob,hp,R,hd,⟨as,jo,has⟩,⟨cs,hlb,bd⟩⟩,nd,⟨l1,PN⟩,⟨l2,PB⟩,q⟩:=h;refine⟨rfl,fun ac A outer s hr=>?_⟩;have hu:=B6 hr
 refine⟨_,AE (BY PassesOwn.never rfl (Ao (Ak (pv 0) rfl)) (BG rfl (AQ (AO (i:=2) scFF.nd rfl (Or.inl rfl)) (AQ (AO (i:=3) scFF.nd rfl (Or.inl rfl)) Ax)))
   (AD (An (PW.pt (Ca (AS CI (AX Bw (pv 1) (A2 hu (Ak (pv 0) rfl) (pv 2) (fun _ _=>rfl))) AJ (AW _)) (Bv (AS DI (AX Bw (pv 1) (A2 hu (Ak (pv 0) rfl) (pv 3) (fun _ _=>rfl))) AJ (AW _)))))
    (AD (AR (BB (AA Ae (AA (pv 2) (AA (pv 3) AB)))))) AT)))
  (AE (BY PassesOwn.never rfl (Ao (Ak (pv 0) rfl)) (BG rfl (AQ (AO (i:=2) scFF.nd rfl (Or.inl rfl)) (AQ (AO (i:=4) scFF.nd rfl (Or.inl rfl)) Ax)))
   (AD (An (PW.pt (Ca (AS CI (AX Bw (pv 1) (A2 hu (Ak (pv 0) rfl) (pv 2) (fun _ _=>rfl))) AJ (AW _)) (Bv (AS CI (AX Bw (pv 1) (A2 hu (Ak (pv 0) rfl) (pv 4) (fun _ _=>rfl))) AJ (AW _)))))
    (AD (AR (BB (AA Ae (AA (pv 2) (AA (pv 4) AB)))))) AT)))
  (AD (AR Jx))),?_⟩
 have ax:as.length=ns.length:=by have:=has.length;unfold ig at this;rw[AH]at this;exact this
 have ag:cs.length=bs.length:=by have:=bd.length;unfold ig at this;rw[AH]at this;exact this
 have g:∀x∈Ac due,J4 H d (.str x) (some (.int ((look due x:Nat):Int))):=fun x hx=>.inl ⟨kM due,Sum.inr x,.inr ⟨ob,hd⟩,rfl,(NN nd hx).symm⟩;refine⟨_,rfl,p,RC,dx,_,_,rfl,hp,RT.cl,RT.nN,R.on,ln,rfl,⟨_,aH.of jo⟩,BL (K:=K) (a:=ln) (xs:=as.map V.ref) (fun i σ H2=>(∃v2 v3:Option V,σ=[some (.ref p),some (.int (n:Int)),v2,v3,none])/\H2=H/\(ns.take i).find? (Eg due n)=none) ⟨⟨none,none,rfl⟩,rfl,rfl⟩ (fun i σ H2 _ ⟨_,e,_⟩=>e ▸ aH.of jo) ?_ ?_⟩
 ·rintro i v σ H2 hi ⟨⟨v2,v3,rfl⟩,rfl,hf⟩;obtain⟨b,pr,rfl,eZ,hb⟩:=Eh has hi;obtain⟨m1,m2,_⟩:=PN pr (ZQ eZ);refine⟨b,_,rfl,aY.of hb,rfl,_,_,rfl,_,_,rfl,rfl,?_⟩;refine⟨_,rfl,_,rfl,p,RC,dx,_,_,rfl,hp,RT.cl,RT.nM,R.om,_,rfl,d,_,rfl,g _ m1,_,_,rfl,rfl,rfl,_,rfl,?_⟩;rw[F2];have hnb:Eg due n pr=((!decide (n &&& look due pr.1=0)) && decide (n &&& look due pr.2=0)):=by unfold Eg;rw[KU,KU,Bool.not_not]
  by_cases h1:n &&& look due pr.1=0
  ·rw[ZL h1]at hnb ⊢;exact Aq (Aq ⟨⟨_,_,rfl⟩,rfl,Bs hf eZ hnb⟩)
  ·rw[ZO h1]at hnb ⊢;refine BX ⟨_,rfl,_,rfl,p,RC,dx,_,_,rfl,hp,RT.cl,RT.nM,R.om,_,rfl,d,_,rfl,g _ m2,_,_,rfl,rfl,rfl,_,rfl,?_⟩;rw[F2];by_cases h2:n &&& look due pr.2=0
   ·rw[ZL h2]at hnb ⊢;refine BX ⟨_,rfl,_,rfl,iE,fun t ht=>?_⟩;refine q (.ref t) _ (AC (aB.refl _) ht) ?_;unfold BQ;rw[F1 hf eZ hnb];exact⟨t,rfl,aA⟩
   ·rw[ZO h2]at hnb ⊢;exact Aq ⟨⟨_,_,rfl⟩,rfl,Bs hf eZ hnb⟩
 ·rintro σ H2 ⟨⟨v2,v3,rfl⟩,rfl,hf⟩;rw[AH,ax,ZB]at hf;refine⟨_,rfl,p,RC,dx,_,_,rfl,hp,RT.cl,RT.nB,R.ob,lb,rfl,⟨_,aH.of hlb⟩,BL (K:=K) (a:=lb) (xs:=cs.map V.ref) (fun i σ H3=>(∃v2 v3 v4:Option V,σ=[some (.ref p),some (.int (n:Int)),v2,v3,v4])/\H3=H2/\(bs.take i).find? (Gv due n)=none) ⟨⟨_,_,_,rfl⟩,rfl,rfl⟩ (fun i σ H3 _ ⟨_,e,_⟩=>e ▸ aH.of hlb) ?_ ?_⟩
  ·rintro i v σ H3 hi ⟨⟨v2,v3,v4,rfl⟩,rfl,gU⟩;obtain⟨b,pr,rfl,eZ,hb⟩:=Eh bd hi;obtain⟨m1,m2,_⟩:=PB pr (ZQ eZ);refine⟨b,_,rfl,aY.of hb,rfl,_,_,rfl,_,_,rfl,rfl,?_⟩;refine⟨_,rfl,_,rfl,p,RC,dx,_,_,rfl,hp,RT.cl,RT.nM,R.om,_,rfl,d,_,rfl,g _ m1,_,_,rfl,rfl,rfl,_,rfl,?_⟩;rw[F2];have hnb:Gv due n pr=((!decide (n &&& look due pr.1=0)) && !decide (n &&& look due pr.2=0)):=by unfold Gv;rw[KU,KU]
   by_cases h1:n &&& look due pr.1=0
   ·rw[ZL h1]at hnb ⊢;exact Aq (Aq ⟨⟨_,_,_,rfl⟩,rfl,Bs gU eZ hnb⟩)
   ·rw[ZO h1]at hnb ⊢;refine BX ⟨_,rfl,_,rfl,p,RC,dx,_,_,rfl,hp,RT.cl,RT.nM,R.om,_,rfl,d,_,rfl,g _ m2,_,_,rfl,rfl,rfl,_,rfl,?_⟩;rw[F2];by_cases h2:n &&& look due pr.2=0
    ·rw[ZL h2]at hnb ⊢;exact Aq ⟨⟨_,_,_,rfl⟩,rfl,Bs gU eZ hnb⟩
    ·rw[ZO h2]at hnb ⊢;refine BX ⟨_,rfl,_,rfl,iE,fun t ht=>?_⟩;refine q (.ref t) _ (AC (aB.refl _) ht) ?_;unfold BQ;rw[hf,F1 gU eZ hnb];exact⟨t,rfl,aA⟩
  ·rintro σ H3 ⟨⟨v2,v3,v4,rfl⟩,rfl,gU⟩;rw[AH,ag,ZB]at gU;refine q .aU _ (aB.refl _) ?_;unfold BQ;rw[hf,gU];rfl
end
theorem aZ.then {p:Addr}{H1 H2:Hp} (a:aZ p H H1) (s:aB H1 H2):aZ p H H2:=fun b o e h=>s _ _ (a b o e h)
theorem aZ.upd {p:Addr}{H1:Hp}{o:HO} (a:aZ p H H1):aZ p H (upd H1 p o):=fun b u e h=>by rw[AF h];exact a b u e h
def Iu (p:Addr) (H:Hp):Prop:=∃D dx fs,H p=some (.ins D dx fs)
theorem aF.sameM {p:Addr}{k:Addr}{r:Str} (s:aZ p H H') (hk:k≠p) (hp:Iu p H) (h:aF C H k due r):aF C H' k due r:=by
 obtain⟨x,d1,o1,d2,o2,a,b,c⟩:=h.ex;obtain⟨D,dx,fs,hp⟩:=hp;refine⟨⟨x,d1,o1,d2,o2,s _ _ a hk,s _ _ b fun e=>?_,s _ _ c fun e=>?_⟩⟩
 ·subst e;rw[hp]at b;cases b
 ·subst e;rw[hp]at c;cases c
theorem bY.eh {p l:Addr}{ps:List (Str×Str)} (s:aZ p H H') (hp:Iu p H) (h:bY H l ps):bY H' l ps:=by
 obtain⟨as,h1,h2⟩:=h;obtain⟨D,dx,fs,hp⟩:=hp;refine⟨as,s _ _ h1 fun e=>?_,aE.aS (fun b xs e=>s _ _ e fun q=>?_) h2⟩
 ·subst e;rw[hp]at h1;cases h1
 ·subst q;rw[hp]at e;cases e
theorem PrsS.eh {p l:Addr}{ps:List (Str×Str)} (s:aZ p H H') (hp:Iu p H) (h:PrsS K H l ps):PrsS K H' l ps:=by
 obtain⟨as,h1,h2⟩:=h;obtain⟨D,dx,fs,hp⟩:=hp;refine⟨as,?_,aE.aS (fun b xs e=>s _ _ e fun q=>?_) h2⟩
 ·rcases h1 with h1 | (h1 |⟨o,h1⟩) |h1
  ·exact .inl (s _ _ h1 fun e=>by subst e;rw[hp]at h1;cases h1)
  ·exact .inr (.inl (.inl (s _ _ h1 fun e=>by subst e;rw[hp]at h1;cases h1)))
  ·exact .inr (.inl (.inr ⟨o,s _ _ h1 fun e=>by subst e;rw[hp]at h1;cases h1⟩))
  ·exact .inr (.inr h1)
 ·subst q;rw[hp]at e;cases e
section
variable {RC:Addr}
inductive spRInit (K:FG) (C RC:Addr) (vs:List V) (H:Hp) (Q:VK) (_E:XK):Prop where
 |mk (p dx k l1 l2:Addr) (due:Aa) (r:Str) (ns bs:List (Str×Str)) (cE:vs=[.ref p,.ref k,.ref l1,.ref l2]) (cD:H p=some (.ins RC dx [])) (cH:aF C H k due r) (dH:due.length <= 8) (eT:(due.map (·.1)).Nodup) (gm:PrsS K H l1 ns) (iB:PrsS K H l2 bs) (jy:Cz due ns) (z_8:Cz due bs) (z_9:∀H',aZ p H H'->cV RC H' p k due ns bs->(∀ll,Sv RC H' p ll->H ll=none)->Q .aU H')
noncomputable abbrev NRI:List Str:=["self", "kind", "needs", "bars", "unions"]
theorem scRI:AL NRI ["self", "kind", "needs", "bars"] (defScope Ci):=cB
theorem RL (F:aW K "__init__" "Rule.__init__" Ci f fd) (B:Bl mg) (hD:mg "dict" = none) (T:Dj K C) (RT:Gw K RC) (GM:Mt P w K mg base C "marks" 2 ["self"] (spMarks C)) (GP:Fn P w K mg base "pairs_of" 3 ["things", "marks"] (spPairs K)) (GU:Fn P w K mg base "unions_of" 1 ["marks"] (spUni K)) (GF:Mt P w K mg base RC "first_fault" 1 ["self", "number"] (spFF RC)) :
  AY P w K mg base aO 4 f fd ["self", "kind", "needs", "bars"] (spRInit K C RC):=by
 obtain⟨fM,dM,GM,mM,bM⟩:=GM.ex;obtain⟨fP,dP,GP,mP,kP,bP⟩:=GP.ex;obtain⟨fU,dU,GU,mU,kU,bU⟩:=GU.ex;obtain⟨fF,dF,GF,mF,bF⟩:=GF.ex;refine F.m scRI fun vs H Q E h=>?_;obtain⟨p,dx,k,l1,l2,due,r,ns,bs,rfl,hp,KA,h8,nd,PL1,PL2,PN,PB,hG⟩:=h;refine⟨rfl,fun ac A outer s hr=>?_⟩;have cN:aG 1 _:=hr.mono qc;have ff:aG 2 _:=hr.mono qc
 refine⟨_,AE (CL (pv 0) (pv 1) rfl)
  (AE (CL (pv 0) (BK (DX rfl) rfl hD HD (AA (Aj (pv 1) T.cl mM GM ff bM .nil AN) AB)) rfl)
  (Cp (AE (CL (pv 0) (AM GP hr rfl mP kP bP .nil AN (AA (pv 2) (AA (Ak (pv 0) rfl) AB))) rfl)
  (AE (CL (pv 0) (AM GP hr rfl mP kP bP .nil AN (AA (pv 3) (AA (Ak (pv 0) rfl) AB))) rfl)
  (AE (Ag (i:=4) scRI.nd rfl (Or.inl rfl) (AM GU cN rfl mU kU bU .nil AN (AA (BK (Hs rfl) rfl B.list B9 (AA (MY PySem.F.slot_dict_values PySem.F.type_dict_values Jb (Ak (pv 0) rfl)) AB)) AB)))
  (AD (CL (pv 0) (A3 ["self"] [some 0] qd qb qd rfl (Ao (pv 4)) (fun _ _ _ _ _ _=>C4 (CZ (Ev (Bp (pv 1) RT.cl mF GF cN bF .nil AN (AA (pv 0) AB))))) (fun _ _ _ _ _ _=>pv 0)) rfl))))))),?_⟩
 have hkp:k≠p:=fun z=>by
  obtain⟨x,d1,o1,d2,o2,a,_⟩:=KA.ex;subst z;rw[hp]at a;have q:=EF d1 d2 r;cases a
 have iP:Iu p H:=⟨_,_,_,hp⟩;refine⟨_,rfl,_,rfl,p,RC,dx,_,rfl,hp,RT.cl,RT.nK,(by show 0 < 1000;decide),?_⟩;have s1:aZ p H (upd H p (.ins RC dx (At "own_kind" (.ref k) []))):=aZ.upd (fun _ _ e _=>e);have ak:=aA (H:=H) (a:=p) (o:=.ins RC dx (At "own_kind" (.ref k) []));generalize upd H p (.ins RC dx (At "own_kind" (.ref k) []))=H1 at s1 ak ⊢;have k9:=KA.sameM s1 hkp iP;obtain⟨dk,e1,e2,hk1⟩:=k9.ins;refine⟨_,rfl,k,dk,_,rfl,hk1,(Br _ _ _),k,due,r,rfl,k9,qe,fun la as1 H2 s2 hla hta=>?_⟩;rw[Lp]at hta;obtain⟨n1,q1⟩:=Ny (K:=K) hta
 have z1:(Cf due).length <= 1000:=by
  have h3:(Cf due).length=(AI due).length:=AH _;have:=A7 due;omega
 refine⟨la,as1,Cf due,rfl,aH.of hla,n1,z1,q1,fun d hd=>?_⟩;have al:=s2 _ _ ak;have gD:p≠d:=AG al hd;refine⟨_,rfl,p,RC,dx,_,rfl,by rw[AF gD];exact al,RT.cl,RT.nM,(by show 1 < 1000;decide),?_⟩;refine⟨d,kM due,by rw[AF (Ne.symm gD),aA];rfl,fun ob=>?_⟩
 have s3:aZ p H (upd (upd (upd H2 d (HO.dK (BZ [] (Cf due)))) p (HO.ins RC dx (At "numbered_marks" (V.ref d) (At "own_kind" (V.ref k) [])))) d (HO.dA ob (HO.dK (kM due)))):=fun b o e h=>by
  have e2:=s2 _ _ (s1 b o e h);rw[AF (AG e2 hd),AF h,AF (AG e2 hd)];exact e2
 have jm:(upd (upd (upd H2 d (HO.dK (BZ [] (Cf due)))) p (HO.ins RC dx (At "numbered_marks" (V.ref d) (At "own_kind" (V.ref k) [])))) d (HO.dA ob (HO.dK (kM due)))) p=some (.ins RC dx (i7 k d)):=by rw[AF gD,aA];rfl
 have iy:(upd (upd (upd H2 d (HO.dK (BZ [] (Cf due)))) p (HO.ins RC dx (At "numbered_marks" (V.ref d) (At "own_kind" (V.ref k) [])))) d (HO.dA ob (HO.dK (kM due)))) d=some (.dA ob (.dK (kM due))):=aA;generalize upd (upd (upd H2 d (HO.dK (BZ [] (Cf due)))) p (HO.ins RC dx (At "numbered_marks" (V.ref d) (At "own_kind" (V.ref k) [])))) d (HO.dA ob (HO.dK (kM due)))=H3 at s3 jm iy ⊢;clear hla hta n1 q1 s2 al hd hk1 k9 ak s1
 have hIn:∀ps:List (Str×Str),Cz due ps->∀q∈ps,(As (kM due) (Sum.inr q.1:Key)).isSome=true/\(As (kM due) (Sum.inr q.2:Key)).isSome=true/\q.1≠q.2:=fun ps kg q hq=>by
  obtain⟨a1,a2,a3⟩:=kg.2 q hq;exact⟨by rw[NN nd a1];rfl,by rw[NN nd a2];rfl,a3⟩
 refine⟨_,rfl,_,rfl,p,RC,dx,_,_,rfl,jm,RT.cl,RT.nM,TX k d,l1,d,kM due,ns,rfl,PL1.eh s3 iP,.inr ⟨ob,iy⟩,PN.1,hIn ns PN,fun ln H4 s4 hln0 jo=>?_⟩;have hp4:=s4 _ _ jm;have nln:ln≠p:=Ne.symm (AG jm hln0);refine⟨_,rfl,p,RC,dx,_,rfl,hp4,RT.cl,RT.nN,Nat.lt_of_le_of_lt (BA _ _ _) (by show 2 < 1000;decide),?_⟩;have iP4:Iu p H4:=⟨_,_,_,hp4⟩;have sN4:aZ p H4 (upd H4 p (HO.ins RC dx (At "needs" (V.ref ln) (i7 k d)))):=aZ.upd (fun _ _ e _=>e);have s5:aZ p H (upd H4 p (HO.ins RC dx (At "needs" (V.ref ln) (i7 k d)))):=aZ.upd (s3.then s4);have kh:(upd H4 p (HO.ins RC dx (At "needs" (V.ref ln) (i7 k d)))) p=some (.ins RC dx (iR k d ln)):=aA;have hd5:(upd H4 p (HO.ins RC dx (At "needs" (V.ref ln) (i7 k d)))) d=some (.dA ob (.dK (kM due))):=by rw[AF (Ne.symm gD)];exact s4 _ _ iy
 have dl:=jo.eh sN4 iP4;generalize upd H4 p (HO.ins RC dx (At "needs" (V.ref ln) (i7 k d)))=H5 at sN4 s5 kh hd5 dl ⊢;clear sN4 iP4 jo hp4 iy jm s4 s3;refine⟨_,rfl,_,rfl,p,RC,dx,_,_,rfl,kh,RT.cl,RT.nM,TY k d ln,l2,d,kM due,bs,rfl,PL2.eh s5 iP,.inr ⟨ob,hd5⟩,PB.1,hIn bs PB,fun lb H6 s6 hlb0 hlb=>?_⟩;have hp6:=s6 _ _ kh;refine⟨_,rfl,p,RC,dx,_,rfl,hp6,RT.cl,RT.nB,Nat.lt_of_le_of_lt (Nat.le_trans (BA _ _ _) (Nat.succ_le_succ (BA _ _ _))) (by show 3 < 1000;decide),?_⟩;have iP6:Iu p H6:=⟨_,_,_,hp6⟩;have sN6:aZ p H6 (upd H6 p (HO.ins RC dx (At "bars" (V.ref lb) (iR k d ln)))):=aZ.upd (fun _ _ e _=>e);have s7:aZ p H (upd H6 p (HO.ins RC dx (At "bars" (V.ref lb) (iR k d ln)))):=aZ.upd (s5.then s6);have hp7:(upd H6 p (HO.ins RC dx (At "bars" (V.ref lb) (iR k d ln)))) p=some (.ins RC dx (jT k d ln lb)):=aA;have iw:(upd H6 p (HO.ins RC dx (At "bars" (V.ref lb) (iR k d ln)))) d=some (.dA ob (.dK (kM due))):=by rw[AF (Ne.symm gD)];exact s6 _ _ hd5
 have d0:=(dl.same s6).eh sN6 iP6;have d4:=hlb.eh sN6 iP6;generalize upd H6 p (HO.ins RC dx (At "bars" (V.ref lb) (iR k d ln)))=H7 at sN6 s7 hp7 iw d0 d4 ⊢;clear sN6 iP6 dl hlb hp6 hd5 kh s6 s5;have R4:=RK k d ln lb;refine⟨_,rfl,p,RC,dx,_,_,rfl,hp7,RT.cl,RT.nM,R4.om,d,rfl,.inl ⟨_,.inr ⟨ob,iw⟩⟩,d,kM due,rfl,rfl,.inr ⟨ob,iw⟩,fun vw hvw=>?_⟩;have sv:=AC (aB.refl _) hvw (o:=Nd d vw);refine⟨vw,d,kM due,rfl,aA,.inr ⟨ob,sv _ _ iw⟩,fun lv hlv=>?_⟩;have sl:=AC sv hlv (o:=HO.lst ((kM due).map (·.2)))
 have gx:(kM due).map (·.2)=Af (AI due):=by
  rw[TW nd];unfold Cf Af;rw[map_map];rfl
 have hm8:(AI due).length <= 8:=Nat.le_trans (A7 due) h8;refine⟨lv,AI due,rfl,aH.of (by rw[aA,gx]),hm8,fun lu H8 s8 hlu=>?_⟩;have s78:=sl.trans s8;have hul:(dS (AI due)).length <= 256:=by rw[HF];exact Ss hm8
 have B8:RuB RC H8 p k due ns bs:=RuB.same s78 ⟨dx,_,d,ln,lb,ob,hp7,R4,iw,d0,d4⟩;refine⟨_,rfl,lu,rfl,⟨_,aH.of hlu⟩,Aw (K:=K) (a:=lu) (xs:=Af (dS (AI due))) (fun i ys H9=>ys=Af (((dS (AI due)).take i).filter fun n=>(BQ due ns bs n).isNone)/\aB H8 H9) ⟨rfl,aB.refl _⟩ (fun i ys H9 _ ⟨_,e⟩=>aH.of (e _ _ hlu)) (fun i ys H9 ⟨e,_⟩=>?_) ?_ ?_⟩
 ·have:=ZS (fun n=>(BQ due ns bs n).isNone) ((dS (AI due)).take i);rw[ZA]at this;rw[e,BE];omega
 ·rintro i v ys H9 hi ⟨rfl,s9⟩;unfold Af at hi;rw[ZE]at hi;obtain⟨u,hu,rfl⟩:=Z6.mp hi;have hp9:=s9 _ _ (s78 _ _ hp7);have ht:((dS (AI due)).take (i + 1)).filter (fun n=>(BQ due ns bs n).isNone)=((dS (AI due)).take i).filter (fun n=>(BQ due ns bs n).isNone)++[u].filter (fun n=>(BQ due ns bs n).isNone):=by rw[ZD,hu,filter_append];rfl
  refine⟨_,rfl,p,dx,_,rfl,hp9,R4.no _ qb,_,rfl,p,k,due,ns,bs,u,rfl,B8.same s9,nd,PN,PB,fun v H10 s10 hv=>⟨_,rfl,?_⟩⟩;cases hf:BQ due ns bs u with
  |none =>
   rw[hf]at hv;have hv':v=.aU:=hv;rw[ZL hv'];refine BX ⟨_,rfl,?_,s9.trans s10⟩;rw[ht,filter_cons_of_pos (by rw[hf];rfl),filter_nil];unfold Af;rw[Zu];rfl
  |some t =>
   rw[hf]at hv;obtain⟨q',rfl,_⟩:=hv;rw[ZO (show ¬ V.ref q'=V.aU from fun z=>nomatch z)];refine Aq ⟨?_,s9.trans s10⟩;rw[ht,List.filter_cons_of_neg (by rw[hf];simp),filter_nil,Zt]
 ·rintro ys H9 ⟨rfl,s9⟩ ll hll;rw[BE,ZB];have s79:=s78.trans s9;have hp9:=s79 _ _ hp7;have npl:ll≠p:=Ne.symm (AG hp9 hll);have sl9:=AC (aB.refl _) hll (o:=HO.lst (Af (BD due ns bs)));refine⟨_,rfl,p,RC,dx,_,rfl,by rw[AF (Ne.symm npl)];exact hp9,RT.cl,RT.nL,Nat.lt_of_le_of_lt (Nat.le_trans (BA _ _ _) (Nat.succ_le_succ (Nat.le_trans (BA _ _ _) (Nat.succ_le_succ (BA _ _ _))))) (by show 4 < 1000;decide),?_⟩;have sE:=s79.trans sl9;have iPE:Iu p (upd H9 ll (HO.lst (Af (BD due ns bs)))):=⟨_,_,_,sE _ _ hp7⟩;have sNE:aZ p (upd H9 ll (HO.lst (Af (BD due ns bs)))) (upd (upd H9 ll (HO.lst (Af (BD due ns bs)))) p (HO.ins RC dx (i6 k d ln lb ll))):=aZ.upd (fun _ _ e _=>e);refine hG _ (aZ.upd (s7.then sE)) ⟨dx,_,d,ln,lb,ob,ll,aA,Ud k d ln lb ll,?_,(d0.same sE).eh sNE iPE,(d4.same sE).eh sNE iPE,TZ k d ln lb ll,?_⟩ fun l' ⟨dx',fs',e1,e2⟩=>?_
  ·rw[AF (Ne.symm gD)];exact sE _ _ iw
  ·rw[AF npl,aA];rfl
  ·have e3:some (HO.ins RC dx (i6 k d ln lb ll))=some (HO.ins RC dx' fs'):=aA.symm.trans e1;have e4:fs'=i6 k d ln lb ll:=by cases e3;rfl
   rw[e4,TZ]at e2;have e5:l'=ll:=by cases e2;rfl
   rw[e5];cases e6:H ll with
   |none=>rfl
   |some o =>
    have:=s79 _ _ (s7 ll o e6 npl);rw[hll]at this;cases this
end
noncomputable def Et (due:Aa) (ns bs:List (Str×Str)) (n:Nat):Option (List Str):=if n &&& Ab (AI due)=n then (BQ due ns bs n).map (fun t=>[t.1,t.2.1,t.2.2])else some ["rest"]
def KY (H:Hp) (v:V):Option (List Str)->Prop
 |none=>v=.aU
 |some ts=>∃q,v=.ref q/\H q=some (.tup (ts.map V.str))
theorem FaultAt.brok {v:V}{o:Option (Str×Str×Str)} (h:FaultAt H v o):KY H v (o.map fun t=>[t.1,t.2.1,t.2.2]):=by
 cases o with
 |none=>exact h
 |some t=>exact h
theorem Lw (n m:Nat):n - (n &&& m)=0 ↔ n &&& m=n:=by
 have:=Nat.and_le_left (n:=n) (m:=m);omega
structure Ue (C VC RC:Addr) (H:Hp) (p v k:Addr) (n:Nat) (due:Aa) (r:Str) (ns bs:List (Str×Str)):Prop where
 ru:cV RC H p k due ns bs
 ka:aF C H k due r
 asc:iu due
 hv:cJ VC H v k n
 nd:(due.map (·.1)).Nodup
 pn:Cz due ns
 pb:Cz due bs
 h8:due.length <= 8
section
variable {RC:Addr}
inductive spOwn (C VC RC:Addr) (vs:List V) (H:Hp) (Q:VK) (_E:XK):Prop where
 |mk (p v k:Addr) (n:Nat) (due:Aa) (r:Str) (ns bs:List (Str×Str)) (cE:vs=[.ref p,.ref v]) (cD:Ue C VC RC H p v k n due r ns bs) (cH:∀H',aB H H'->Q (.int (n:Int)) H')
theorem Vn:AL ["self", "value"] ["self", "value"] (defScope Ct):=cB
theorem Uf (F:aW K "own_number" "Rule.own_number" Ct f fd) (RT:Gw K RC) (VT:G7 K VC) (jD:W.findIn K (.ref C) "__ne__" = some (some (.builtin "object.__ne__"))) (hm:W.mroIn K C (.type "object")=some true)
  (GE:Mt P w K mg base C "__eq__" 2 ["self", "other"] (spEqK C)) (GVK:Mt P w K mg base VC "kind" 1 ["self"] (spVKind VC)) (GVN:Mt P w K mg base VC "number" 1 ["self"] (spVNumber VC)):AY P w K mg base aO 4 f fd ["self", "value"] (spOwn C VC RC):=by
 obtain⟨fE,dE,GE,mE,bE⟩:=GE.ex;obtain⟨fK,dK,GVK,mK,bK⟩:=GVK.ex;obtain⟨fN,dN,GVN,mN,bN⟩:=GVN.ex;refine F.m Vn fun vs H Q E h=>?_;obtain⟨p,v,k,n,due,r,ns,bs,rfl,O,q⟩:=h;refine⟨rfl,fun ac A outer s hr=>?_⟩;have cN:aG 1 _:=hr.mono qc;have ff:aG 2 _:=hr.mono qc;obtain⟨dx,fs,d,ln,lb,ob,ll,hp,R,_⟩:=id O.ru;obtain⟨dv,hv⟩:=id O.hv;obtain⟨dk,e1,e2,hk⟩:=O.ka.ins
 refine⟨_,AE (An (AS (Cr GE hr bE mE jD hm) (Aj (pv 1) VT.cl mK GVK cN bK .nil AN) (Ak (pv 0) rfl) (AW _)) (AD Ah) AT)
  (AD (AR (Aj (pv 1) VT.cl mN GVN cN bN .nil AN))),?_⟩
 refine⟨_,rfl,v,dv,_,rfl,hv,Ig _ _ qb qb,v,k,n,rfl,O.hv,_,rfl,p,RC,dx,_,_,rfl,hp,RT.cl,RT.nK,R.ok,?_⟩;refine⟨k,dk,_,k,dk,_,rfl,rfl,hk,hk,k,k,due,r,rfl,O.ka,O.asc,.inr ⟨due,r,O.ka,O.asc,fun H1 s1=>⟨_,rfl,_,rfl,_,rfl,?_⟩⟩⟩;rw[ZL (show due=due/\r=r from⟨rfl,rfl⟩)];refine Aq ?_;exact⟨_,rfl,v,dv,_,rfl,s1 _ _ hv,Ig _ _ qb qb,v,k,n,rfl,O.hv.same s1,q _ s1⟩
inductive spFault (C VC RC:Addr) (vs:List V) (H:Hp) (Q:VK) (_E:XK):Prop where
 |mk (p v k:Addr) (n:Nat) (due:Aa) (r:Str) (ns bs:List (Str×Str)) (cE:vs=[.ref p,.ref v]) (cD:Ue C VC RC H p v k n due r ns bs) (cH:∀x H',aB H H'->KY H' x (Et due ns bs n)->Q x H')
theorem scFault:AL ["self", "value", "number"] ["self", "value"] (defScope FC):=cB
theorem RM (F:aW K "fault" "Rule.fault" FC f fd) (RT:Gw K RC) (VT:G7 K VC) (GO:Mt P w K mg base RC "own_number" 4 ["self", "value"] (spOwn C VC RC)) (GVR:Mt P w K mg base VC "rest" 4 ["self"] (spVRest C VC)) (GF:Mt P w K mg base RC "first_fault" 1 ["self", "number"] (spFF RC)) :
  AY P w K mg base aO 5 f fd ["self", "value"] (spFault C VC RC):=by
 obtain⟨fO,dO,GO,mO,bO⟩:=GO.ex;obtain⟨fR,dR,GVR,mR,bR⟩:=GVR.ex;obtain⟨fF,dF,GF,mF,bF⟩:=GF.ex;refine F.m scFault fun vs H Q E h=>?_;obtain⟨p,v,k,n,due,r,ns,bs,rfl,O,q⟩:=h;refine⟨rfl,fun ac A outer s hr=>?_⟩;have cN:aG 1 _:=hr.mono qc;obtain⟨dx,fs,d,ln,lb,ob,ll,hp,R,_⟩:=id O.ru;obtain⟨dv,hv⟩:=id O.hv
 refine⟨_,AE (Ag (i:=2) scFault.nd rfl (Or.inl rfl) (Bp (pv 0) RT.cl mO GO hr bO .nil AN (AA (pv 1) AB)))
  (AD (AR (DH (AS CI (Aj (pv 1) VT.cl mR GVR hr bR .nil AN) AJ (AW _)) (BB (AA Ae AB)) (Bp (pv 0) RT.cl mF GF cN bF .nil AN (AA (pv 2) AB))))),?_⟩
 refine⟨_,rfl,p,dx,_,rfl,hp,R.no _ qb,_,rfl,p,v,k,n,due,r,ns,bs,rfl,O,fun H1 s1=>?_⟩
 ·refine⟨_,rfl,v,dv,_,rfl,s1 _ _ hv,Ig _ _ qb qb,v,k,n,due,r,rfl,O.hv.same s1,O.ka.same s1,(by have:=O.h8;omega),fun H2 s2=>⟨rfl,_,rfl,?_⟩⟩;have eK:=s1.trans s2;have eS:decide (V.int ((n - (n &&& Ab (AI due)):Nat):Int)=V.int 0)=decide (n &&& Ab (AI due)=n):=decide_eq_decide.mpr ⟨fun z=>(Lw _ _).mp (by have:=V.int.inj z;omega),fun z=>by rw[(Lw _ _).mpr z];rfl⟩;rw[eS];by_cases hb:n &&& Ab (AI due)=n
  ·rw[ZL hb];refine Aq ⟨_,rfl,p,dx,_,rfl,eK _ _ hp,R.no _ qb,_,rfl,p,k,due,ns,bs,n,rfl,(O.ru.same eK).b,O.nd,O.pn,O.pb,fun x H3 s3 hx=>q x H3 (eK.trans s3) ?_⟩;unfold Et;rw[Zp hb];exact hx.brok
  ·rw[ZO hb];refine BX ⟨jS,fun t ht=>q (.ref t) _ (AC eK ht) ?_⟩;unfold Et;rw[Zq hb];exact⟨t,rfl,aA⟩
inductive spLets (C VC RC:Addr) (vs:List V) (H:Hp) (Q:VK) (_E:XK):Prop where
 |mk (p v k:Addr) (n:Nat) (due:Aa) (r:Str) (ns bs:List (Str×Str)) (cE:vs=[.ref p,.ref v]) (cD:Ue C VC RC H p v k n due r ns bs) (cH:∀H',aB H H'->Q (.bl (Et due ns bs n).isNone) H')
theorem Ug:AL ["self", "value"] ["self", "value"] (defScope Gi):=cB
theorem Kb {x:V}{o:Option (List Str)} (h:KY H x o):decide (x=.aU)=o.isNone:=by
 cases o with
 |none=>exact ZL h
 |some t =>
  obtain⟨q,rfl,_⟩:=h;exact ZO fun z=>nomatch z
theorem Sw (F:aW K "lets" "Rule.lets" Gi f fd) (RT:Gw K RC) (GFt:Mt P w K mg base RC "fault" 5 ["self", "value"] (spFault C VC RC)):AY P w K mg base aO 6 f fd ["self", "value"] (spLets C VC RC):=by
 obtain⟨fF,dF,GF,mF,bF⟩:=GFt.ex;refine F.m Ug fun vs H Q E h=>?_;obtain⟨p,v,k,n,due,r,ns,bs,rfl,O,q⟩:=h;refine⟨rfl,fun ac A outer s hr=>?_⟩;obtain⟨dx,fs,d,ln,lb,ob,ll,hp,R,_⟩:=id O.ru;refine⟨_,AD (AR (MB (Ev (Bp (pv 0) RT.cl mF GF hr bF .nil AN (AA (pv 1) AB))))),?_⟩;refine⟨_,rfl,p,dx,_,rfl,hp,R.no _ qb,_,rfl,p,v,k,n,due,r,ns,bs,rfl,O,fun x H1 s1 hx=>?_⟩
 ·skip
  have:=q H1 s1;rw[←Kb hx]at this;exact this
inductive spCount (RC:Addr) (vs:List V) (H:Hp) (Q:VK) (_E:XK):Prop where
 |mk (p k:Addr) (due:Aa) (ns bs:List (Str×Str)) (cE:vs=[.ref p]) (cD:cV RC H p k due ns bs) (cH:Q (.int ((BD due ns bs).length:Nat)) H)
theorem Sx:AL ["self"] ["self"] (defScope FD):=cB
theorem RN (F:aW K "count" "Rule.count" FD f fd) (B:Bl mg) (RT:Gw K RC):AY P w K mg base aO 1 f fd ["self"] (spCount RC):=by
 refine F.m Sx fun vs H Q E h=>?_;obtain⟨p,k,due,ns,bs,rfl,⟨dx,fs,d,ln,lb,ob,ll,hp,R,hd,jo,hlb,hll,hl⟩,q⟩:=h;refine⟨rfl,fun ac A outer s hr=>?_⟩;refine⟨_,AD (AR (AV (Au K rfl) rfl B.len PySem.boot_len (AA (Ak (pv 0) rfl) AB))),?_⟩;refine⟨_,rfl,p,RC,dx,_,_,rfl,hp,RT.cl,RT.nL,hll,ll,_,rfl,.inl (aH.of hl),?_⟩;rw[BE];exact q
inductive spNth (C VC RC:Addr) (vs:List V) (H:Hp) (Q:VK) (_E:XK):Prop where
 |mk (p k:Addr) (due:Aa) (r:Str) (ns bs:List (Str×Str)) (i n:Nat) (cE:vs=[.ref p,.int (i:Int)]) (cD:cV RC H p k due ns bs) (cH:aF C H k due r) (dH:(∀q∈due,q.2 < 2 ^ 20)) (eT:(BD due ns bs)[i]?=some n) (gm:∀q H',aB H H'->cJ VC H' q k n->Q (.ref q) H')
theorem Vo:AL ["self", "number"] ["self", "number"] (defScope IL):=cB
theorem HH {ns bs:List (Str×Str)}{n:Nat} (h:n∈BD due ns bs):n∈dS (AI due):=(mem_filter.mp h).1
theorem N1 {u:Nat} (h:u∈dS (AI due)):u &&& kn due=u:=Js fun k hk=>by
 obtain⟨m,hm,hb⟩:=N0 h hk;unfold kn;rw[B0];exact any_eq_true.mpr ⟨m,Zr.mpr ⟨_,Bh hm,rfl⟩,hb⟩
theorem FN {u:Nat} (h:u∈dS (AI due)):u &&& Ab (AI due)=u:=Js fun k hk=>by
 obtain⟨m,hm,hb⟩:=N0 h hk;rw[B0];exact any_eq_true.mpr ⟨m,hm,hb⟩
theorem Uh (F:aW K "nth" "Rule.nth" IL f fd) (B:Bl mg) (RT:Gw K RC) (VO:Li P w K mg base C VC) (GW:Fn P w K mg base "is_whole" 1 ["thing"] spIsWhole):AY P w K mg base aO 6 f fd ["self", "number"] (spNth C VC RC):=by
 obtain⟨fW,dW,GW,mW,kW,bW⟩:=GW.ex;obtain⟨fI,dI,MI,GI,bI⟩:=VO.make;have mV:=VO.cls;refine F.m Vo fun vs H Q E h=>?_;obtain⟨p,k,due,r,ns,bs,i,n,rfl,⟨dx,fs,d,ln,lb,ob,ll,hp,R,hd,jo,hlb,hll,hl⟩,KA,hlt,eU,q⟩:=h;refine⟨rfl,fun ac A outer s hr=>?_⟩;have cN:aG 1 _:=hr.mono qc;have ff:aG 2 _:=hr.mono qc
 refine⟨_,AE (An (PW.pt (CH (A9 (A5 (AM GW cN rfl mW kW bW .nil AN (AA (pv 1) AB)))) (Bk (A9 (Dq Ek HR AJ (pv 1) (AV (Au K rfl) rfl B.len PySem.boot_len (AA (Ak (pv 0) rfl) AB))))))) (AD Ah) AT)
  (AD (AR (EY MI GI hr rfl mV bI .nil AN (AA (Ak (pv 0) rfl) (AA (Bc (A4 K rfl) (Ak (pv 0) rfl) (pv 1) (fun _ _=>rfl)) AB))))),?_⟩
 ·have bf:=(Z8.mp eU).1;refine⟨_,rfl,(i:Int),rfl,_,rfl,Aq ?_⟩;refine⟨_,rfl,_,_,rfl,rfl,_,rfl,?_⟩;rw[ZL (show(0:Int) <= (i:Int)from Z1 _)];refine BX ⟨_,rfl,p,RC,dx,_,_,rfl,hp,RT.cl,RT.nL,hll,ll,_,rfl,.inl (aH.of hl),_,_,rfl,rfl,_,rfl,?_⟩;rw[ZL (show(i:Int) < (((Af (BD due ns bs)).length:Nat):Int) by rw[BE];omega)];refine Aq ?_;refine⟨_,rfl,p,RC,dx,_,_,rfl,hp,RT.cl,RT.nK,R.ok,_,rfl,p,RC,dx,_,_,rfl,hp,RT.cl,RT.nL,hll,_,rfl,ll,_,(i:Int),.int (n:Int),rfl,rfl,aH.of hl,B5 (by unfold Af;rw[ZE,eU];rfl),?_⟩;intro vq dq hq jH az;have sN:=Bu (D:=VC) hq jH az;have hu:=HH (ZQ eU);have hkn:=N1 hu;have h3:=Nat.and_le_right (n:=n) (m:=kn due);have h4:=TR hlt;have e40:(2:Nat) ^ 20 < 2 ^ 40:=by decide
  exact⟨vq,dq,k,due,r,n,rfl,aA,KA.same sN,qe,.inr qe,fun H4 s4 hV=>⟨rfl,q vq H4 (Bg sN hq s4) hV⟩⟩
end
structure d9 (H:Hp) (t e m:Addr) (ms:List Addr) (due:Aa):Prop where
 ht:H t=some (.dK (NC due e m))
 hm:H m=some (.lst (ms.map V.ref))
 g6:aE H ms (CA due)
theorem d9.same {t e m:Addr}{ms:List Addr} (s:aB H H') (h:d9 H t e m ms due):d9 H' t e m ms due:=⟨s _ _ h.ht,s _ _ h.hm,aE.aS (fun b xs e=>s _ _ e) h.g6⟩
theorem d9.len {t e m:Addr}{ms:List Addr} (h:d9 H t e m ms due):(ms.map V.ref).length=(AI due).length:=by
 have h1:=h.g6.length;rw[Jk]at h1;rw[AH,h1]
noncomputable def CD (due:Aa) (n:Nat) (l:List Nat):List Str:=(l.filter fun m=>decide (n &&& m≠0)).map (BP (AU due))
theorem F4 (nd:(due.map (·.1)).Nodup) {n:Nat}{x:Str} (h:x∈Ac due):gT (.str x) ((CD due n (AI due)).map V.str)=Ej due n x:=by
 rw[KR];obtain⟨m,hm,rfl⟩:=Zr.mp h;unfold Ej;rw[EJ nd (Bh hm)];refine Bool.eq_iff_iff.mpr ?_;rw[any_eq_true,decide_eq_true_eq];unfold CD;constructor
 ·rintro⟨y,hy,e⟩;obtain⟨m',jn,rfl⟩:=Zr.mp hy;obtain⟨h1,h2⟩:=mem_filter.mp jn;have ee:=eq_of_beq e;have:m'=m:=Q9 nd (Bh h1) (ee ▸ Bh hm);subst this;exact ZV h2
 ·intro hb;exact⟨_,Zr.mpr ⟨m,mem_filter.mpr ⟨hm,ZL hb⟩,rfl⟩,by simp⟩
theorem Iv {ns bs:List (Str×Str)}{n:Nat} (h:n &&& Ab (AI due)=n):Et due ns bs n=(BQ due ns bs n).map (fun t=>[t.1,t.2.1,t.2.2]):=by
 unfold Et;rw[Zp h]
section
variable {RC:Addr}
inductive spBrok (vs:List V) (H:Hp) (Q:VK) (_E:XK):Prop where
 |mk (t e m lw lf:Addr) (ms:List Addr) (due:Aa) (ns bs:List (Str×Str)) (n:Nat) (cE:vs=[.ref t,.ref lw,.ref lf,.int (n:Int)]) (cD:d9 H t e m ms due) (cH:bY H lw ns) (dH:bY H lf bs) (eT:(due.map (·.1)).Nodup) (gm:due.length <= 10) (iB:Cz due ns) (jy:Cz due bs) (z_8:∀x H',aB H H'->KY H' x (Et due ns bs n)->Q x H')
noncomputable abbrev NBr:List Str:=["_law_table", "_law_wants", "_law_fences", "_law_number", "_law_names", "_law_name", "_law_other"]
theorem scBr:AL NBr ["_law_table", "_law_wants", "_law_fences", "_law_number"] (defScope FI):=cB
theorem Sz (F:aW K "_law_broken" "_law_broken" FI f fd):AY P w K mg base aO 1 f fd ["_law_table", "_law_wants", "_law_fences", "_law_number"] spBrok:=by
 refine F.m scBr fun vs H Q E h=>?_;obtain⟨t,e,m,lw,lf,ms,due,ns,bs,n,rfl,LT,PLw,PF,nd,iN,PN,PB,q⟩:=h;refine⟨rfl,fun ac A outer s hr=>?_⟩;have hu:=B6 hr
 refine⟨_,AE (An (AS CI (AX Bw (pv 3) (A2 hu (pv 0) Ae (fun _ _=>rfl))) (pv 3) (AW _)) (AD (AR (BB (AA Ae AB)))) AT)
  (AE (Pj (i:=4) scBr.nd rfl qd ["_law_number"] [some 3] qd qb qd qd rfl (Ao (A2 hu (pv 0) Ae (fun _ _=>rfl))) (fun _ _ _ _ _ _=>C4 (AS CI (AX Bw (pv 2) (pv 1)) AJ (AW _))) (fun _ _ _ _ _ _=>pv 0))
  (AE (BY PassesOwn.never rfl (Ao (pv 1)) (BG rfl (AQ (AO (i:=5) scBr.nd rfl (Or.inl rfl)) (AQ (AO (i:=6) scBr.nd rfl (Or.inl rfl)) Ax)))
   (AD (An (PW.pt (Ca (AS DJ (pv 5) (pv 4) rfl) (Bv (AS J1 (pv 6) (pv 4) rfl)))) (AD (AR (BB (AA Ae (AA (pv 5) (AA (pv 6) AB)))))) AT)))
  (AE (BY PassesOwn.never rfl (Ao (pv 2)) (BG rfl (AQ (AO (i:=5) scBr.nd rfl (Or.inl rfl)) (AQ (AO (i:=6) scBr.nd rfl (Or.inl rfl)) Ax)))
   (AD (An (PW.pt (Ca (AS DJ (pv 5) (pv 4) rfl) (Bv (AS DJ (pv 6) (pv 4) rfl)))) (AD (AR (BB (AA Ae (AA (pv 5) (AA (pv 6) AB)))))) AT)))
  (AD (AR Jx))))),?_⟩
 refine⟨_,rfl,_,rfl,t,_,rfl,.inl ⟨_,Sum.inr "bits", .inl LT.ht,rfl,(Lf _ _ _).symm⟩,_,_,rfl,rfl,_,rfl,rfl,_,rfl,?_⟩;rw[show decide (V.int (Builtin.bitAnd (n:Int) ((Ab (AI due):Nat):Int))=V.int (n:Int))=decide (n &&& Ab (AI due)=n) by rw[CS];exact decide_eq_decide.mpr ⟨fun z=>by have:=V.int.inj z;omega,fun z=>by rw[z]⟩];by_cases hb:n &&& Ab (AI due)=n
 ·rw[ZL hb];refine Aq ?_;rw[Iv hb]at q;have av:=LT.len;have hmk:=A7 due;refine⟨_,rfl,t,_,rfl,.inl ⟨_,Sum.inr "marks", .inl LT.ht,rfl,(DS _ _ _).symm⟩,m,rfl,⟨_,aH.of LT.hm⟩,Aw (K:=K) (a:=m) (xs:=ms.map V.ref) (fun i ys H1=>ys=(CD due n ((AI due).take i)).map V.str/\H1=H) ⟨rfl,rfl⟩ (fun i ys H1 _ ⟨_,e⟩=>e ▸ aH.of LT.hm) (fun i ys H1 ⟨e,_⟩=>?_) ?_ ?_⟩
  ·have:=ZS (fun m=>decide (n &&& m≠0)) ((AI due).take i);rw[ZA]at this;unfold CD at e;rw[e,AH,AH];omega
  ·rintro i v ys H1 hi ⟨rfl,rfl⟩;obtain⟨b,mk,rfl,hmk',aj⟩:=Cy LT.g6 hi;refine⟨b,_,rfl,aY.of aj,rfl,_,_,rfl,_,_,rfl,rfl,?_⟩;refine⟨_,rfl,_,rfl,_,_,rfl,rfl,rfl,_,rfl,?_⟩;rw[F2]
   have ht:CD due n ((AI due).take (i + 1))=CD due n ((AI due).take i)++(([mk].filter fun m=>decide (n &&& m≠0)).map (BP (AU due))):=by
    unfold CD;rw[ZD,hmk',filter_append,Zu];rfl
   by_cases h0:n &&& mk=0
   ·rw[ZL h0];refine Aq ⟨?_,rfl⟩;rw[ht,List.filter_cons_of_neg (by simpa using h0),filter_nil,map_nil,Zt]
   ·rw[ZO h0];refine BX ⟨_,rfl,?_,rfl⟩;rw[ht,filter_cons_of_pos (by simpa using h0),filter_nil,Zu];rfl
  rintro ys H1 ⟨rfl,rfl⟩ nl gZ;rw[av,ZB];have s1:=AC (aB.refl _) gZ (o:=HO.lst ((CD due n (AI due)).map V.str));have bj:=aA (H:=H1) (a:=nl) (o:=HO.lst ((CD due n (AI due)).map V.str));generalize upd H1 nl (HO.lst ((CD due n (AI due)).map V.str))=H2 at s1 bj ⊢;obtain⟨as,hlw,has⟩:=PLw.same s1;obtain⟨cs,jq,bd⟩:=PF.same s1;have ax:as.length=ns.length:=by have:=has.length;unfold ig at this;rw[AH]at this;exact this
  have ag:cs.length=bs.length:=by have:=bd.length;unfold ig at this;rw[AH]at this;exact this
  refine⟨_,rfl,lw,rfl,⟨_,aH.of hlw⟩,BL (K:=K) (a:=lw) (xs:=as.map V.ref) (fun i σ H3=>(∃v5 v6:Option V,σ=[some (.ref t),some (.ref lw),some (.ref lf),some (.int (n:Int)),some (.ref nl),v5,v6])/\H3=H2/\(ns.take i).find? (Eg due n)=none) ⟨⟨none,none,rfl⟩,rfl,rfl⟩ (fun i σ H3 _ ⟨_,e,_⟩=>e ▸ aH.of hlw) ?_ ?_⟩
  ·rintro i v σ H3 hi ⟨⟨v5,v6,rfl⟩,rfl,hf⟩;obtain⟨b,pr,rfl,eZ,aj⟩:=Eh has hi;obtain⟨m1,m2,_⟩:=PN.2 pr (ZQ eZ);refine⟨b,_,rfl,aY.of aj,rfl,_,_,rfl,_,_,rfl,rfl,?_⟩;refine⟨_,rfl,_,rfl,nl,_,rfl,.inl (aH.of bj),rfl,Cj _,_,rfl,?_⟩;have hnb:Eg due n pr=(Ej due n pr.1 && !Ej due n pr.2):=rfl;show if gT (.str pr.1) ((CD due n (AI due)).map V.str)=true then _ else _
   rw[F4 nd m1];cases h1:Ej due n pr.1 with
   |false =>
    rw[h1]at hnb;exact Aq (Aq ⟨⟨_,_,rfl⟩,rfl,Bs hf eZ hnb⟩)
   |true =>
    rw[h1]at hnb;refine BX ⟨_,rfl,_,rfl,nl,_,rfl,.inl (aH.of bj),rfl,Cj _,_,rfl,?_⟩;show if (!gT (.str pr.2) ((CD due n (AI due)).map V.str))=true then _ else _
    rw[F4 nd m2];cases h2:Ej due n pr.2 with
    |true =>
     rw[h2]at hnb;exact Aq ⟨⟨_,_,rfl⟩,rfl,Bs hf eZ hnb⟩
    |false =>
     rw[h2]at hnb;refine BX ⟨_,rfl,_,rfl,iE,fun q' f6=>?_⟩;refine q (.ref q') _ (AC s1 f6) ?_;unfold BQ;rw[F1 hf eZ hnb];exact⟨q',rfl,aA⟩
  ·rintro σ H3 ⟨⟨v5,v6,rfl⟩,rfl,hf⟩;rw[AH,ax,ZB]at hf;refine⟨_,rfl,lf,rfl,⟨_,aH.of jq⟩,BL (K:=K) (a:=lf) (xs:=cs.map V.ref) (fun i σ H4=>(∃v5 v6:Option V,σ=[some (.ref t),some (.ref lw),some (.ref lf),some (.int (n:Int)),some (.ref nl),v5,v6])/\H4=H3/\(bs.take i).find? (Gv due n)=none) ⟨⟨_,_,rfl⟩,rfl,rfl⟩ (fun i σ H4 _ ⟨_,e,_⟩=>e ▸ aH.of jq) ?_ ?_⟩
   ·rintro i v σ H4 hi ⟨⟨v5,v6,rfl⟩,rfl,gU⟩;obtain⟨b,pr,rfl,eZ,aj⟩:=Eh bd hi;obtain⟨m1,m2,_⟩:=PB.2 pr (ZQ eZ);refine⟨b,_,rfl,aY.of aj,rfl,_,_,rfl,_,_,rfl,rfl,?_⟩;refine⟨_,rfl,_,rfl,nl,_,rfl,.inl (aH.of bj),rfl,Cj _,_,rfl,?_⟩;have hnb:Gv due n pr=(Ej due n pr.1 && Ej due n pr.2):=rfl;show if gT (.str pr.1) ((CD due n (AI due)).map V.str)=true then _ else _
    rw[F4 nd m1];cases h1:Ej due n pr.1 with
    |false =>
     rw[h1]at hnb;exact Aq (Aq ⟨⟨_,_,rfl⟩,rfl,Bs gU eZ hnb⟩)
    |true =>
     rw[h1]at hnb;refine BX ⟨_,rfl,_,rfl,nl,_,rfl,.inl (aH.of bj),rfl,Cj _,_,rfl,?_⟩;show if gT (.str pr.2) ((CD due n (AI due)).map V.str)=true then _ else _
     rw[F4 nd m2];cases h2:Ej due n pr.2 with
     |false =>
      rw[h2]at hnb;exact Aq ⟨⟨_,_,rfl⟩,rfl,Bs gU eZ hnb⟩
     |true =>
      rw[h2]at hnb;refine BX ⟨_,rfl,_,rfl,iE,fun q' f6=>?_⟩;refine q (.ref q') _ (AC s1 f6) ?_;unfold BQ;rw[hf,F1 gU eZ hnb];exact⟨q',rfl,aA⟩
   ·rintro σ H4 ⟨⟨v5,v6,rfl⟩,rfl,gU⟩;rw[AH,ag,ZB]at gU;refine q .aU _ s1 ?_;unfold BQ;rw[hf,gU];rfl
 ·rw[ZO hb];refine BX ⟨jS,fun q' f6=>q (.ref q') _ (AC (aB.refl _) f6) ?_⟩;unfold Et;rw[Zq hb];exact⟨q',rfl,aA⟩
inductive spLetBy (vs:List V) (H:Hp) (Q:VK) (_E:XK):Prop where
 |mk (t e m lw lf:Addr) (ms:List Addr) (due:Aa) (ns bs:List (Str×Str)) (cE:vs=[.ref t,.ref lw,.ref lf]) (cD:d9 H t e m ms due) (cH:bY H lw ns) (dH:bY H lf bs) (eT:(due.map (·.1)).Nodup) (gm:due.length <= 8) (iB:Cz due ns) (jy:Cz due bs) (z_8:∀l H',aB H H'->H l=none->H' l=some (.lst (Af (BD due ns bs)))->Q (.ref l) H')
noncomputable abbrev NLB:List Str:=["_law_table", "_law_wants", "_law_fences", "_law_numbers", "_law_name", "_law_bit"]
theorem scLB:AL NLB ["_law_table", "_law_wants", "_law_fences"] (defScope Gk):=cB
theorem RP (F:aW K "_law_let_by" "_law_let_by" Gk f fd) (B:Bl mg) (GB:Fn P w K mg base "_law_broken" 1 ["_law_table", "_law_wants", "_law_fences", "_law_number"] spBrok):AY P w K mg base aO 2 f fd ["_law_table", "_law_wants", "_law_fences"] spLetBy:=by
 obtain⟨fB,dB,GB,mB,kB,bB⟩:=GB.ex;refine F.m scLB fun vs H Q E h=>?_;obtain⟨t,e,m,lw,lf,ms,due,ns,bs,rfl,LT,PLw,PF,nd,h8,PN,PB,q⟩:=h;refine⟨rfl,fun ac A outer s hr=>?_⟩;have hu:=B6 hr
 refine⟨_,AE (Ag (i:=3) scLB.nd rfl (Or.inl rfl) (BC (AA AJ AB)))
  (AE (BY PassesOwn.never rfl (Ao (A2 hu (pv 0) Ae (fun _ _=>rfl))) (BG rfl (AQ (AO (i:=4) scLB.nd rfl (Or.inl rfl)) (AQ (AO (i:=5) scLB.nd rfl (Or.inr rfl)) Ax)))
   (AD (Ag (i:=3) scLB.nd rfl (Or.inl rfl) (AX Du (pv 3) (A3 ["_law_bit"] [some 5] qd qb qd rfl (Ao (pv 3)) (fun _ _ _ _ _ _=>BF) (fun _ _ _ _ _ _=>AX HQ (pv 0) (pv 1)))))))
  (AD (AR (A3 ["_law_table", "_law_wants", "_law_fences"] [some 0,some 1,some 2] qd qb qd rfl (Ao (AV (KF (K:=K) rfl) rfl B.sorted Gm (AA (pv 3) AB)))
   (fun _ _ _ _ _ _=>C4 (CZ (Ev (AM GB hr rfl mB kB bB .nil AN (AA (pv 1) (AA (pv 2) (AA (pv 3) (AA (pv 0) AB)))))))) (fun _ _ _ _ _ _=>pv 0))))),?_⟩
 refine⟨jS,fun nl gZ=>?_⟩;have s1:=AC (aB.refl _) gZ (o:=HO.lst [V.int 0]);have bj:=aA (H:=H) (a:=nl) (o:=HO.lst [V.int 0]);generalize upd H nl (HO.lst [V.int 0])=H1 at s1 bj ⊢;have LT1:=LT.same s1;have av:=LT.len;have hmk:=A7 due
 have htk:∀i,(dS ((AI due).take i)).length <= 256:=fun i=>by
  rw[HF];exact Ss (by rw[ZA];omega)
 refine⟨_,rfl,t,_,rfl,.inl ⟨_,Sum.inr "marks", .inl LT1.ht,rfl,(DS _ _ _).symm⟩,m,rfl,⟨_,aH.of LT1.hm⟩,BL (K:=K) (a:=m) (xs:=ms.map V.ref) (fun i σ H2=>(∃(nl:Addr) (v4 v5:Option V),σ=[some (.ref t),some (.ref lw),some (.ref lf),some (.ref nl),v4,v5]/\H2 nl=some (.lst (Af (dS ((AI due).take i)))))/\aB H1 H2) ⟨⟨nl,none,none,rfl,bj⟩,aB.refl _⟩ (fun i σ H2 _ ⟨_,s2⟩=>aH.of (s2 _ _ LT1.hm)) ?_ ?_⟩
 ·rintro i v σ H2 hi ⟨⟨nl,v4,v5,rfl,cc⟩,s2⟩;obtain⟨bb,n,rfl,hn,aj⟩:=Cy (LT1.same s2).g6 hi;refine⟨bb,_,rfl,aY.of aj,rfl,_,_,rfl,_,_,rfl,rfl,?_⟩;have bf:=htk i;refine⟨_,rfl,_,rfl,nl,rfl,⟨_,aH.of cc⟩,Aw (K:=K) (a:=nl) (xs:=Af (dS ((AI due).take i))) (fun j ys H4=>ys=Af (((dS ((AI due).take i)).take j).map (· |||n))/\H4=H2) ⟨rfl,rfl⟩ (fun j ys H4 _ ⟨_,e⟩=>e ▸ aH.of cc) (fun j ys H4 ⟨e,_⟩=>by rw[e,BE,AH,ZA];omega) ?_ ?_⟩
  ·rintro j v ys H4 hj ⟨rfl,rfl⟩;unfold Af at hj;rw[ZE]at hj;obtain⟨z,hz,rfl⟩:=Z6.mp hj;refine⟨_,rfl,_,rfl,_,_,rfl,rfl,?_,rfl⟩;rw[ZD,hz];unfold Af;rw[Zu,Zu];show _++[V.int (Builtin.bitOr _ _)]=_++[V.int _];rw[DC]
  ·rintro ys H4 ⟨rfl,rfl⟩ c hc;have sc:=AC (aB.refl _) hc (o:=HO.lst (Af (((dS ((AI due).take i)).take (Af (dS ((AI due).take i))).length).map (· |||n))));have hcn:=aA (H:=H4) (a:=c) (o:=HO.lst (Af (((dS ((AI due).take i)).take (Af (dS ((AI due).take i))).length).map (· |||n))));rw[BE,ZB]at sc hcn ⊢;refine⟨nl,c,_,_,rfl,rfl,sc _ _ cc,hcn,Nat.le_of_lt (AZ (by rw[BE,BE,AH];omega)),fun q hq=>?_⟩;refine⟨⟨q,_,_,rfl,?_⟩,s2.trans (AC sc hq)⟩;rw[aA,ZD,hn];show _=some (HO.lst (Af (dS ((AI due).take i++[n]))));rw[Ls];unfold Af;rw[Zu]
 ·rintro σ H2 ⟨⟨nl,v4,v5,rfl,cc⟩,s2⟩;rw[av,ZB]at cc;have hul:=htk (AI due).length;rw[ZB]at hul
  have hle:((dS (AI due)).map fun n:Nat=>(n:Int)).Pairwise (· <= ·):=by
   rw[pairwise_map];exact(RG (fun m h=>(Il h).2) (Jo due)).imp fun h=>by omega
  refine⟨_,rfl,nl,(dS (AI due)).map fun n:Nat=>(n:Int),rfl,aH.of (by rw[←Di];exact cc),hle,by rw[AH];omega,fun ls hls=>?_⟩;rw[←Di];have s3:=AC (s1.trans s2) hls (o:=HO.lst (Af (dS (AI due))));have d5:=aA (H:=H2) (a:=ls) (o:=HO.lst (Af (dS (AI due))));generalize upd H2 ls (HO.lst (Af (dS (AI due))))=H3 at s3 d5 ⊢;refine⟨ls,rfl,⟨_,aH.of d5⟩,Aw (K:=K) (a:=ls) (xs:=Af (dS (AI due))) (fun i ys H4=>ys=Af (((dS (AI due)).take i).filter fun n=>(BQ due ns bs n).isNone)/\aB H3 H4) ⟨rfl,aB.refl _⟩ (fun i ys H4 _ ⟨_,e⟩=>aH.of (e _ _ d5)) (fun i ys H4 ⟨e,_⟩=>?_) ?_ ?_⟩
  ·have:=ZS (fun n=>(BQ due ns bs n).isNone) ((dS (AI due)).take i);rw[ZA]at this;rw[e,BE];omega
  ·rintro i v ys H4 hi ⟨rfl,s4⟩;unfold Af at hi;rw[ZE]at hi;obtain⟨u,gF,rfl⟩:=Z6.mp hi;have jA:=s3.trans s4;have ht:((dS (AI due)).take (i + 1)).filter (fun n=>(BQ due ns bs n).isNone)=((dS (AI due)).take i).filter (fun n=>(BQ due ns bs n).isNone)++[u].filter (fun n=>(BQ due ns bs n).isNone):=by rw[ZD,gF,filter_append];rfl
   refine⟨_,rfl,_,rfl,_,rfl,_,rfl,t,e,m,lw,lf,ms,due,ns,bs,u,rfl,LT.same jA,PLw.same jA,PF.same jA,nd,qe,PN,PB,fun x H5 s5 hx=>⟨_,rfl,?_⟩⟩;rw[Kb hx,Iv (FN (ZQ gF)),Option.isNone_map];cases hf:(BQ due ns bs u).isNone with
   |true =>
    refine BX ⟨_,rfl,?_,s4.trans s5⟩;rw[ht,filter_cons_of_pos (p:=fun n=>(BQ due ns bs n).isNone) hf,filter_nil];unfold Af;rw[Zu];rfl
   |false =>
    refine Aq ⟨?_,s4.trans s5⟩;rw[ht,List.filter_cons_of_neg (by rw[hf];simp),filter_nil,Zt]
  ·rintro ys H4 ⟨rfl,s4⟩ p hp;rw[BE,ZB];exact q p _ (s3.trans (AC s4 hp)) (none_of (s3.trans s4) hp) aA
end
noncomputable def gV4 (vs zs:List V):List V:=match vs,zs with | [a,b],[c,d]=>[a,b,c,d] |_,_=>[]
noncomputable def gU4 (us ws:List Value):List Value:=match us,ws with | [a,b],[c,d]=>[a,b,c,d] |_,_=>[]
structure NO (P:Program) (w:World) (K:FG) (mg:SV) (base:Heap) (C RC:Addr):Prop where
 RT:Gw K RC
 cls:mg "Rule" = some (.ref RC)
 make:∃f fd,Mk K RC f/\AY P w K mg base aO 4 f fd ["self", "kind", "needs", "bars"] (spRInit K C RC)/\(∃g,HY K fd ["self", "kind", "needs", "bars"] ["needs", "bars"] g gV4)/\∃t1 t2,Binds K fd ["self", "kind", "needs", "bars"] [.ref t1,.ref t2]/\(∀H,aY K H t1 [])/\∀H,aY K H t2 []
section
variable {RC:Addr}
def St3 (d lw lf:Addr) (H H':Hp):Prop:=∀b o,H b=some o->b≠d->b≠lw->b≠lf->H' b=some o
theorem Jt {i:Nat}{x:Str} (h:(Ac due)[i]?=some x):x∈Ac due:=ZQ h
theorem Ix {α β:Type}{F:α->β->Prop}:∀ {xs xs':List α}{ys cT:List β},Paired F xs ys->Paired F xs' cT->Paired F (xs++xs') (ys++cT)
 |_,_,_,_,.nil,h=>h
 |_,_,_,_,.cons a r,h=>.cons a (Ix r h)
theorem RQ {l:List Str} (h:l.Nodup) {i j:Nat}{x y:Str} (hi:l[i]?=some x) (hj:l[j]?=some y) (kA:i≠j):x≠y:=fun z=>by
 subst z;obtain⟨h1,g1⟩:=Z8.mp hi;obtain⟨h2,g2⟩:=Z8.mp hj;rcases Nat.lt_or_gt_of_ne kA with q |q
 ·exact List.pairwise_iff_getElem.mp h i j h1 h2 q (by rw[g1,g2])
 ·exact List.pairwise_iff_getElem.mp h j i h2 h1 q (by rw[g1,g2])
theorem Ui {i j L:Nat} (h1:i < L) (h2:j < L - 1):(i + 1 + j) % L≠i:=by
 by_cases h:i + 1 + j < L
 ·rw[Nat.mod_eq_of_lt h];omega
 ·rw[Nat.mod_eq_sub_mod qe,Nat.mod_eq_of_lt qe];omega
theorem bY.snoc {l b:Addr}{ps:List (Str×Str)}{as:List Addr}{x y:Str} (h:aE H as (ig ps)) (hb:H b=some (.tup [.str x,.str y])) (hl:∀c xs,H c=some (.tup xs)->c≠l):bY (upd H l (.lst ((as.map V.ref)++[V.ref b]))) l (ps++[(x,y)]):=by
 refine⟨as++[b],by rw[aA,Zu];rfl,?_⟩;unfold ig;rw[Zu];refine Ix (aE.aS (fun c xs e=>by rw[AF (hl c xs e)];exact e) h) (.cons ?_ .nil);show upd H l _ b=some (.tup [.str x,.str y]);rw[AF (hl b _ hb)];exact hb
inductive spRW (C RC:Addr) (vs:List V) (H:Hp) (Q:VK) (_E:XK):Prop where
 |mk (d k t e m:Addr) (a b:Int) (ms:List Addr) (due:Aa) (r:Str) (cE:vs=[.ref d,.ref k,.ref t]) (cD:H d=some (.lst [.int a,.int b])) (cH:aF C H k due r) (dH:d9 H t e m ms due) (eT:m≠d) (gm:due.length <= 8) (iB:(due.map (·.1)).Nodup) (jy:∀(q p lw lf:Addr) (ns bs:List (Str×Str)) H',bZ d H H'->H lw=none->H lf=none->H' q=some (.tup [.ref p,.ref lw,.ref lf])->cV RC H' p k due ns bs->bY H' lw ns->bY H' lf bs->Cz due ns->Cz due bs->ns.length <= 6->(∀ll,Sv RC H' p ll->H ll=none)->Q (.ref q) H')
noncomputable abbrev NRW:List Str:=["_law_dice", "_law_kind", "_law_table", "_law_names", "_law_wants", "_law_fences", "_law_turn", "_law_at", "_law_pair"]
theorem scRW:AL NRW ["_law_dice", "_law_kind", "_law_table"] (defScope Dg):=cB
theorem Vp (F:aW K "_law_rule_with" "_law_rule_with" Dg f fd) (B:Bl mg) (RO:NO P w K mg base C RC) (GR:Fn P w K mg base "_law_roll" 2 ["_law_dice", "_law_many"] spRoll):AY P w K mg base aO 6 f fd ["_law_dice", "_law_kind", "_law_table"] (spRW C RC):=by
 obtain⟨fR,dR,GR,mR,kR,bR⟩:=GR.ex;obtain⟨fI,dI,MI,GI,⟨gI,kbI⟩,_⟩:=RO.make;have mC:=RO.cls;refine F.m scRW fun vs H Q E h=>?_;obtain⟨d,k,t,e,m,a,b,ms,due,r,rfl,hd,KA,LT,hmd,h8,ndn,q⟩:=h;refine⟨rfl,fun ac A outer s hr=>?_⟩;have hu:=B6 hr;have ff:aG 2 _:=hr.mono qc;have nd:=scRW.nd
 refine⟨_,AE (Nn (i:=3) (j:=4) (k:=5) rfl nd rfl rfl rfl rfl rfl rfl (AA (DQ [] [] qd qb qd qd rfl (Ao (A2 hu (pv 2) Ae (fun _ _=>rfl))) (fun _ _ _ _ _ _=>BF) (fun _ _ _ _ _ _=>pv 0)) (AA (BC AB) (AA (BC AB) AB))) qd)
  (AE (BY PassesOwn.never rfl (CJ rfl B.range (AA (AM GR ff rfl mR kR bR .nil AN (AA (pv 0) (AA AJ AB))) AB)) (AO (i:=6) nd rfl (Or.inl rfl))
   (AD (An (AS HS (AV (Au K rfl) rfl B.len PySem.boot_len (AA (pv 3) AB)) AJ (AW _))
    (AE (Ag (i:=7) nd rfl (Or.inl rfl) (AM GR ff rfl mR kR bR .nil AN (AA (pv 0) (AA (AV (Au K rfl) rfl B.len PySem.boot_len (AA (pv 3) AB)) AB))))
    (AE (Ag (i:=8) nd rfl (Or.inl rfl) (BB (AA (Bc (A4 K rfl) (pv 3) (pv 7) (fun _ _=>rfl)) (AA (Bc (A4 K rfl) (pv 3) (AX Dp (AX Cn (AX Cn (pv 7) AJ) (AM GR ff rfl mR kR bR .nil AN (AA (pv 0) (AA (AX HM (AV (Au K rfl) rfl B.len PySem.boot_len (AA (pv 3) AB)) AJ) AB)))) (AV (Au K rfl) rfl B.len PySem.boot_len (AA (pv 3) AB))) (fun _ _=>rfl)) AB))))
    (AD (An (AS HR (AM GR ff rfl mR kR bR .nil AN (AA (pv 0) (AA AJ AB))) AJ (AW _)) (AD (B3 (En PySem.F.plainAttrs_list PySem.F.slot_list_append PySem.F.type_list_append Cg (pv 4) (AA (pv 8) AB)))) (AD (B3 (En PySem.F.plainAttrs_list PySem.F.slot_list_append PySem.F.type_list_append Cg (pv 5) (AA (pv 8) AB))))))))
    AT)))
  (AD (AR (BB (AA (Fb MI GI hr rfl mC kbI (AA (pv 1) AB) (EZ (pv 4) (EZ (pv 5) HX))) (AA (pv 4) (AA (pv 5) AB))))))),?_⟩
 have av:=LT.len;have hmk:=A7 due;refine⟨_,rfl,t,_,rfl,.inl ⟨_,Sum.inr "marks", .inl LT.ht,rfl,(DS _ _ _).symm⟩,m,rfl,⟨_,aH.of LT.hm⟩,Aw (K:=K) (a:=m) (xs:=ms.map V.ref) (fun i ys H1=>ys=(((AI due).take i).map (BP (AU due))).map V.str/\H1=H) ⟨rfl,rfl⟩ (fun i ys H1 _ ⟨_,e⟩=>e ▸ aH.of LT.hm) (fun i ys H1 ⟨e,_⟩=>by rw[e,AH,AH,ZA];omega) ?_ ?_⟩
 ·rintro i v ys H1 hi ⟨rfl,rfl⟩;obtain⟨bb,n,rfl,hn,aj⟩:=Cy LT.g6 hi;refine⟨bb,_,rfl,aY.of aj,rfl,_,_,rfl,_,_,rfl,rfl,_,rfl,?_,rfl⟩;rw[ZD,hn,Option.toList_some,Zu,Zu];rfl
 rintro ys H1 ⟨rfl,rfl⟩ nl gZ;rw[av,ZB];have s1:=AC (aB.refl _) gZ (o:=HO.lst ((Ac due).map V.str));have bj:=aA (H:=H1) (a:=nl) (o:=HO.lst ((Ac due).map V.str));show _/\_;have hmn:(((AI due).map (BP (AU due))).map V.str)=(Ac due).map V.str:=rfl;rw[hmn];generalize upd H1 nl (HO.lst ((Ac due).map V.str))=H2 at s1 bj ⊢;refine⟨Nat.zero_le _,fun lw hlw=>⟨Nat.zero_le _,fun lf jq=>⟨_,_,_,rfl,?_⟩⟩⟩;have s2:=AC (aB.refl _) hlw (o:=HO.lst []);have s3:=AC (aB.refl _) jq (o:=HO.lst []);have hw2:=aA (H:=H2) (a:=lw) (o:=HO.lst []);have nwf:lw≠lf:=AG hw2 jq;have nlw:nl≠lw:=AG bj hlw;have nlf:nl≠lf:=AG (s2 _ _ bj) jq;have ndw:d≠lw:=AG (s1 _ _ hd) hlw;have ndf:d≠lf:=AG (s2 _ _ (s1 _ _ hd)) jq;have nld:nl≠d:=Ne.symm (AG hd gZ);have hlw0:H1 lw=none:=none_of s1 hlw;have hlf0:H1 lf=none:=none_of (s1.trans s2) jq;have sA:=(s1.trans s2).trans s3;have hnl3:=s3 _ _ (s2 _ _ bj);have hlw3:=s3 _ _ hw2;have hlf3:=aA (H:=upd H2 lw (.lst [])) (a:=lf) (o:=HO.lst []);generalize upd (upd H2 lw (HO.lst [])) lf (HO.lst [])=H3 at sA hnl3 hlw3 hlf3 s3 ⊢;clear s1 s2 s3 hlw jq gZ bj hw2 hmn;have hL10:((Ac due).map V.str).length <= 8:=by rw[AH];unfold Ac;rw[AH];omega
 refine⟨_,rfl,d,a,b,6,rfl,sA _ _ hd,qc,qc,fun r0 a' b' hr0 hr6=>?_⟩;obtain⟨mm,rfl⟩:=Int.eq_ofNat_of_zero_le hr0
 refine⟨_,rfl,qe,qe,F9 (lo:=0) (n:=((mm:Nat):Int).toNat) (fun i σ H4=>∃(ns bs:List (Str×Str)) (v6 v7 v8:Option V),σ=[some (.ref d),some (.ref k),some (.ref t),some (.ref nl),some (.ref lw),some (.ref lf),v6,v7,v8]/\ns.length <= i/\bs.length <= i/\i <= 6/\Cz due ns/\Cz due bs/\St3 d lw lf H3 H4/\(∃x y:Int,H4 d=some (.lst [.int x,.int y]))/\bY H4 lw ns/\bY H4 lf bs)
  ⟨[],[],none,none,none,rfl,Zy _,Zy _,qc,⟨qc,fun q hq=>by cases hq⟩,⟨qc,fun q hq=>by cases hq⟩,fun b o e h _ _=>by rw[AF h];exact e,⟨_,_,aA⟩,⟨[],by rw[AF (Ne.symm ndw)];exact hlw3,.nil⟩,⟨[],by rw[AF (Ne.symm ndf)];exact hlf3,.nil⟩⟩ ?_ ?_⟩
 ·rintro i σ H4 hi ⟨ns,bs,v6,v7,v8,rfl,l1,l2,hi6,PN,PB,S4,⟨x,y,hd4⟩,PW4,PF4⟩;have hi6':i + 1 <= 6:=by omega
  have cv:=S4 _ _ hnl3 nld nlw nlf;refine⟨_,rfl,nl,_,rfl,.inl (aH.of cv),_,_,rfl,rfl,_,rfl,?_⟩;refine By (fun hc=>?_) (fun _=>⟨ns,bs,_,_,_,rfl,qe,qe,hi6',PN,PB,S4,⟨x,y,hd4⟩,PW4,PF4⟩);have hL:1 < (((Ac due).map V.str).length:Int):=ZV hc;refine⟨_,rfl,_,rfl,nl,_,rfl,.inl (aH.of cv),d,x,y,(((Ac due).map V.str).length:Int),rfl,hd4,qe,qe,fun r1 a1 b1 r10 r11=>?_⟩;obtain⟨i1,rfl⟩:=Int.eq_ofNat_of_zero_le r10;have hi1:i1 < (Ac due).length:=by rw[AH]at r11;omega
  have jY:(Ac due)[i1]?=some (Ac due)[i1]:=Z7 hi1;have hd5:=aA (H:=H4) (a:=d) (o:=HO.lst [V.int a1,V.int b1]);have hnl5:(upd H4 d (HO.lst [V.int a1,V.int b1])) nl=some (.lst ((Ac due).map V.str)):=by rw[AF nld];exact cv
  refine⟨_,rfl,_,rfl,nl,_,(i1:Int),.str (Ac due)[i1],rfl,rfl,aH.of hnl5,B5 (by rw[ZE,jY];rfl),_,rfl,_,rfl,_,_,rfl,rfl,_,rfl,_,rfl,nl,_,rfl,.inl (aH.of hnl5),_,_,rfl,rfl,d,a1,b1,(((Ac due).map V.str).length:Int) - 1,rfl,hd5,qe,qe,fun r2 a2 b2 r20 r21=>?_⟩;obtain⟨i2,rfl⟩:=Int.eq_ofNat_of_zero_le r20;rw[FP];have hnl6:(upd H4 d (HO.lst [V.int a2,V.int b2])) nl=some (.lst ((Ac due).map V.str)):=by rw[AF nld];exact cv
  have jr:i2 < (Ac due).length - 1:=by rw[AH]at r21;omega
  have hm2:(i1 + 1 + i2) % (Ac due).length < (Ac due).length:=Nat.mod_lt _ qe;have hx2:(Ac due)[(i1 + 1 + i2) % (Ac due).length]?=some (Ac due)[(i1 + 1 + i2) % (Ac due).length]:=Z7 hm2;have e2:((i1:Int) + 1 + (i2:Int)) % ((((Ac due).map V.str).length:Nat):Int)=(((i1 + 1 + i2) % (Ac due).length:Nat):Int):=by rw[AH];push_cast;rfl
  refine⟨_,_,rfl,rfl,_,rfl,nl,_,rfl,.inl (aH.of hnl6),_,_,rfl,rfl,qe,nl,_,_,.str (Ac due)[(i1 + 1 + i2) % (Ac due).length],rfl,rfl,aH.of hnl6,by rw[e2];exact B5 (by rw[ZE,hx2];rfl),gc,fun tp htp=>?_⟩;have az:=RQ (Ef ndn) jY hx2 (Ne.symm (Ui hi1 jr));have m1:=Jt jY;have m2:=Jt hx2;generalize (Ac due)[i1]=x1 at az m1 htp ⊢;generalize (Ac due)[(i1 + 1 + i2) % (Ac due).length]=x2 at az m2 htp ⊢;have st:=AC (aB.refl _) htp (o:=HO.tup [V.str x1,V.str x2]);have cw:=aA (H:=upd H4 d (HO.lst [V.int a2,V.int b2])) (a:=tp) (o:=HO.tup [V.str x1,V.str x2]);have iw:=st _ _ (aA (H:=H4) (a:=d) (o:=HO.lst [V.int a2,V.int b2]));have S7:∀b o,H4 b=some o->b≠d->(upd (upd H4 d (HO.lst [V.int a2,V.int b2])) tp (HO.tup [V.str x1,V.str x2])) b=some o:=fun b o e h=>st _ _ (by rw[AF h];exact e);generalize upd (upd H4 d (HO.lst [V.int a2,V.int b2])) tp (HO.tup [V.str x1,V.str x2])=H7 at st cw iw S7 ⊢;refine⟨_,rfl,d,a2,b2,5,rfl,iw,qc,qc,fun r3 a3 b3 r30 r31=>⟨_,_,rfl,rfl,_,rfl,?_⟩⟩;have S8:∀b o,H4 b=some o->b≠d->(upd H7 d (HO.lst [V.int a3,V.int b3])) b=some o:=fun b o e h=>by rw[AF h];exact S7 b o e h
  have ntd:tp≠d:=fun z=>by rw[z,iw]at cw;cases cw
  have d6:(upd H7 d (HO.lst [V.int a3,V.int b3])) tp=some (.tup [.str x1,.str x2]):=by rw[AF ntd];exact cw
  have hd8:=aA (H:=H7) (a:=d) (o:=HO.lst [V.int a3,V.int b3]);generalize upd H7 d (HO.lst [V.int a3,V.int b3])=H8 at S8 d6 hd8 ⊢;have tupd:∀b xs,H4 b=some (.tup xs)->H8 b=some (.tup xs):=fun b xs e=>S8 b _ e fun z=>by rw[z,hd4]at e;cases e
  obtain⟨as,hlw4,has4⟩:=id PW4;obtain⟨cs,hlf4,hcs4⟩:=id PF4;have cj:=S8 _ _ hlw4 (Ne.symm ndw);have cm:=S8 _ _ hlf4 (Ne.symm ndf);have ax:as.length=ns.length:=by have:=has4.length;unfold ig at this;rw[AH]at this;exact this
  have ag:cs.length=bs.length:=by have:=hcs4.length;unfold ig at this;rw[AH]at this;exact this
  have has8:aE H8 as (ig ns):=aE.aS tupd has4;have hcs8:aE H8 cs (ig bs):=aE.aS tupd hcs4
  have pok:∀ps:List (Str×Str),ps.length <= i->Cz due ps->Cz due (ps++[(x1,x2)]):=fun ps hl h=>⟨by rw[ZH];show ps.length + 1 <= _;omega,fun q hq=>by
   rcases mem_append.mp hq with z |z
   ·exact h.2 q z
   ·rw[ZG.mp z]
    exact⟨m1,m2,az⟩⟩
  refine By (fun _=>?_) (fun _=>?_)
  ·refine⟨_,rfl,.inl ⟨rfl,_,aH.of cj⟩,_,rfl,lw,_,_,rfl,rfl,cj,AZ (by rw[AH];omega),?_⟩;refine⟨ns++[(x1,x2)],bs,_,_,_,rfl,by rw[ZH];show ns.length + 1 <= _;omega,qe,hi6',pok ns l1 PN,PB,fun b o e h1 h2 h3=>by rw[AF h2];exact S8 b o (S4 b o e h1 h2 h3) h1,⟨_,_,by rw[AF ndw];exact hd8⟩,bY.snoc has8 d6 (fun c xs e z=>by rw[z,cj]at e;cases e),⟨cs,by rw[AF (Ne.symm nwf)];exact cm,aE.aS (fun c xs e=>by rw[AF (fun z=>by rw[z,cj]at e;cases e)];exact e) hcs8⟩⟩
  ·refine⟨_,rfl,.inl ⟨rfl,_,aH.of cm⟩,_,rfl,lf,_,_,rfl,rfl,cm,AZ (by rw[AH];omega),?_⟩;refine⟨ns,bs++[(x1,x2)],_,_,_,rfl,qe,by rw[ZH];show bs.length + 1 <= _;omega,hi6',PN,pok bs l2 PB,fun b o e h1 h2 h3=>by rw[AF h3];exact S8 b o (S4 b o e h1 h2 h3) h1,⟨_,_,by rw[AF ndf];exact hd8⟩,⟨as,by rw[AF nwf];exact cj,aE.aS (fun c xs e=>by rw[AF (fun z=>by rw[z,cm]at e;cases e)];exact e) has8⟩,bY.snoc hcs8 d6 (fun c xs e z=>by rw[z,cm]at e;cases e)⟩
 ·rintro σ H4 ⟨ns,bs,v6,v7,v8,rfl,l1,l2,hi6,PN,PB,S4,⟨x,y,hd4⟩,PW4,PF4⟩;have old:∀b o,H1 b=some o->b≠d->H4 b=some o:=fun b o e h=>S4 b o (sA _ _ e) h (AG e hlw0) (AG e hlf0);have kl:cQ H1 H4:=fun b o e hn=>old b o e fun z=>by subst z;rw[hd]at e;cases e;exact hn _ rfl
  refine⟨_,rfl,_,rfl,_,rfl,?_⟩;intro p dx hp a0 az;have sN:=Bu (D:=RC) hp a0 az;refine⟨p,dx,k,lw,lf,due,r,ns,bs,rfl,aA,(KA.fA kl).same sN,h8,ndn,(PW4.same sN).s,(PF4.same sN).s,PN,PB,fun H5 s5 RU hLL=>⟨rfl,?_⟩⟩;have sE:=Bg sN hp s5;refine⟨_,rfl,_,rfl,iE,fun qq hqq=>?_⟩;have sQ:=AC (aB.refl _) hqq (o:=HO.tup [V.ref p,V.ref lw,V.ref lf])
  exact q qq p lw lf ns bs _ ⟨fun b o e h=>sQ _ _ (sE _ _ (old b o e h)),⟨x,y,sQ _ _ (sE _ _ hd4)⟩⟩ hlw0 hlf0 aA (RU.same sQ) ((PW4.same sE).same sQ) ((PF4.same sE).same sQ) PN PB qe fun ll ⟨dx1,fs1,e1,e2⟩=>by
   obtain⟨dx2,fs2,_,_,_,_,_,h1,_⟩:=id RU;have h2:=sQ _ _ h1;rw[e1]at h2;have h3:H4 ll=none:=none_of sN (hLL ll ⟨dx2,fs2,h1,by cases h2;exact e2⟩);cases e6:H1 ll with
   |none=>rfl
   |some o =>
    by_cases z:ll=d
    ·rw[z,hd4]at h3;cases h3
    ·rw[old ll o e6 z]at h3;cases h3
end
theorem RS {tab:List Ent}:∀ms:List Str,jx tab ms\/∃x,Ik tab ms x
 | []=>.inl fun x hx=>by cases hx
 |y :: r=>by
  cases e:tab.lookup y with
  |none=>exact .inr ⟨y,0,rfl,(fun x hx=>by cases hx),e⟩
  |some q =>
   have hy:(tab.lookup y).isSome=true:=by rw[e];rfl
   rcases RS r with h |⟨x,i,h1,h2,h3⟩
   ·refine .inl fun x hx=>?_;rcases mem_cons.mp hx with z |z
    ·rw[z];exact hy
    ·exact h x z
   ·refine .inr ⟨x,i + 1,h1,fun z hz=>?_,h3⟩;rw[List.take_succ_cons]at hz;rcases mem_cons.mp hz with q |q
    ·rw[q];exact hy
    ·exact h2 z q
theorem O8 {tab:List Ent}{ms:List Str}{x:Str} (h:Ik tab ms x) (g:jx tab ms):False:=by
 obtain⟨i,h1,_,h3⟩:=h;have:=g x (ZQ h1);rw[h3]at this;cases this
theorem G1 {c':Addr}{q:Str}{dx:Option Addr}:Fe c' q≠Ey c' C dx:=fun z=>by
 have h:({ objs:=Array.replicate (c' + 1) ⟨.ref C,dx,.fields (Array.replicate 6 .none),#[]⟩ }:Heap).get? c'=some ⟨.ref C,dx,.fields (Array.replicate 6 .none),#[]⟩:=by
  unfold Heap.get?;rw[Array.getElem?_replicate,Zp (Nat.lt_succ_self _)]
 have hz:=congrFun (HO.ext.inj z) { objs:=Array.replicate (c' + 1) ⟨.ref C,dx,.fields (Array.replicate 6 .none),#[]⟩ };have hy:=hz.mpr ⟨_,_,h,rfl,rfl,rfl,qc,qc⟩;obtain⟨c1,oc,vs,t,e,ho,hd,hq⟩:=hy;cases e;rw[h]at ho;cases ho;cases hd;rw[Array.getElem?_replicate]at hq;split at hq <;> cases hq
theorem Vq {n:Nat}{x:Str} (h:x∈Am due n):x∈due.map (·.1):=by
 obtain⟨m,hm,rfl⟩:=Zr.mp h;exact Zr.mpr ⟨_,Bh (mem_filter.mp hm).1,rfl⟩
def KX (H H':Hp):Prop:=∀b o,H b=some o->(∀C dx,o≠Ey b C dx)->H' b=some o
theorem KX.trans {H1 H2:Hp} (a:KX H H1) (b:KX H1 H2):KX H H2:=fun c o e h=>b c o (a c o e h) h
theorem KX.of (s:aB H H'):KX H H':=fun b o e _=>s b o e
theorem KX.exc {H1:Hp}{e' C':Addr}{dx:Option Addr} (s1:aB H H1) (he:H1 e'=some (Ey e' C' dx)):KX H (del H1 e'):=fun b o eb hn=>by
 have eb1:=s1 _ _ eb;have jd:b≠e':=fun z=>by subst z;rw[he]at eb1;cases eb1;exact hn _ _ rfl
 unfold del;rw[Zq jd];exact eb1
def K0 (H H':Hp):Prop:=∀b o,H b=some o->(∀ps,o≠ .gA ps)->(∀g,o≠ .ext g)->H' b=some o
theorem K0.trans {H1 H2:Hp} (a:K0 H H1) (b:K0 H1 H2):K0 H H2:=fun c o e h1 h2=>b c o (a c o e h1 h2) h1 h2
theorem K0.of (s:aB H H'):K0 H H':=fun b o e _ _=>s b o e
theorem KX.k0 (s:KX H H'):K0 H H':=fun b o e _ h=>s b o e fun _ _=>h _
theorem K0.t (s:K0 H H'):aN H H':=fun b xs e=>s _ _ e (fun _ z=>nomatch z) (fun _ z=>nomatch z)
theorem K0.lst {l:Addr}{xs:List V} (s:K0 H H') (h:H l=some (.lst xs)):H' l=some (.lst xs):=s _ _ h (fun _ z=>nomatch z) (fun _ z=>nomatch z)
theorem cW.k0 {u:Addr} (s:K0 H H') (h:cW H u due):cW H' u due:=by
 obtain⟨bs,h1,h2⟩:=h;exact⟨bs,s.lst h1,aE.aS s.t h2⟩
theorem d9.k0 {t e m:Addr}{ms:List Addr} (s:K0 H H') (h:d9 H t e m ms due):d9 H' t e m ms due:=⟨s _ _ h.ht (fun _ z=>nomatch z) (fun _ z=>nomatch z),s.lst h.hm,aE.aS s.t h.g6⟩
theorem aF.k0 {p:Addr}{r:Str} (s:K0 H H') (h:aF C H p due r):aF C H' p due r:=by
 obtain⟨dx,d1,o1,d2,o2,a,b,c⟩:=h.ex;exact⟨⟨dx,d1,o1,d2,o2,s _ _ a (fun _ z=>nomatch z) (fun _ z=>nomatch z),s _ _ b (fun _ z=>nomatch z) (fun _ z=>nomatch z),s _ _ c (fun _ z=>nomatch z) (fun _ z=>nomatch z)⟩⟩
theorem eA.k0 {p k o:Addr}{kvs:LK} (s:K0 H H') (h:eA EC H p k o kvs):eA EC H' p k o kvs:=by
 obtain⟨dx,d,ob,h1,h2⟩:=h;exact⟨dx,d,ob,s _ _ h1 (fun _ z=>nomatch z) (fun _ z=>nomatch z),s _ _ h2 (fun _ z=>nomatch z) (fun _ z=>nomatch z)⟩
theorem bY.k0 {l:Addr}{ps:List (Str×Str)} (s:K0 H H') (h:bY H l ps):bY H' l ps:=by
 obtain⟨as,h1,h2⟩:=h;exact⟨as,s _ _ h1 (fun _ z=>nomatch z) (fun _ z=>nomatch z),aE.aS s.t h2⟩
theorem cV.k0 {RC:Addr}{p k:Addr}{ns bs:List (Str×Str)} (s:K0 H H') (h:cV RC H p k due ns bs):cV RC H' p k due ns bs:=by
 obtain⟨dx,fs,d,ln,lb,ob,ll,a,b,c,e,f,g,i⟩:=h;exact⟨dx,fs,d,ln,lb,ob,ll,s _ _ a (fun _ z=>nomatch z) (fun _ z=>nomatch z),b,s _ _ c (fun _ z=>nomatch z) (fun _ z=>nomatch z),e.k0 s,f.k0 s,g,s _ _ i (fun _ z=>nomatch z) (fun _ z=>nomatch z)⟩
noncomputable def Dm (tab:List Ent) (due aD:Aa) (ns bs:List (Str×Str)) (n:Nat):Bool:=(Am due n).all (fun x=>(tab.lookup x).isSome) && (Et aD ns bs (EN tab due aD n)).isNone
theorem Ju {tab:List Ent}{ns bs:List (Str×Str)}{n:Nat} (h:jx tab (Am due n)):Dm tab due aD ns bs n=(Et aD ns bs (EN tab due aD n)).isNone:=by
 unfold Dm;rw[List.all_eq_true.mpr h,Bool.true_and]
theorem G2 {tab:List Ent}{ns bs:List (Str×Str)}{n:Nat}{x:Str} (h:Ik tab (Am due n) x):Dm tab due aD ns bs n=false:=by
 unfold Dm;cases e:(Am due n).all (fun x=>(tab.lookup x).isSome)with
 |false=>rfl
 |true=>exact(O8 h (List.all_eq_true.mp e)).elim
set_option genInjectivity false
set_option genSizeOf false
structure Fr where
 p:Addr
 ru:Addr
 ro:Addr
 k:Addr
 o:Addr
 due:Aa
 aD:Aa
 r:Str
 r2:Str
 tab:List Ent
 ns:List (Str×Str)
 bs:List (Str×Str)
 il:List (Str×Str)
 gM:List (Str×Str)
structure EdR (C EC RC:Addr) (q:Fr) (H:Hp):Prop where
 ed:eA EC H q.p q.k q.o (cY q.tab)
 tn:fb q.aD H q.tab
 ka:aF C H q.k q.due q.r
 kb:aF C H q.o q.aD q.r2
 ru:cV RC H q.ro q.o q.aD q.ns q.bs
 asc:iu q.due
 f7:iu q.aD
 h8:q.due.length <= 8
 h82:q.aD.length <= 8
 lt:∀p∈q.due,p.2 < 2 ^ 20
 lt2:∀p∈q.aD,p.2 < 2 ^ 20
 nd2:(q.aD.map (·.1)).Nodup
 pn:Cz q.aD q.ns
 pb:Cz q.aD q.bs
 nm:∀x∈q.due.map (·.1),x.length <= 1000
theorem EdR.k0 {RC:Addr}{q:Fr} (s:K0 H H') (h:EdR C EC RC q H):EdR C EC RC q H' :=
 { h with ed:=h.ed.k0 s,tn:=h.tn.same s.t,ka:=h.ka.k0 s,kb:=h.kb.k0 s,ru:=h.ru.k0 s }
noncomputable abbrev Fr.ok (q:Fr) (n:Nat):Bool:=Dm q.tab q.due q.aD q.ns q.bs n
section
variable {RC cL cU:Addr}
theorem S0 {x qual:Str}{st:Stmt}{N ps:List Str}{k:Nat}{sp:Sp} (F:aW K x qual st f fd) (S:AL N ps (defScope st)) (len:∀vs H Q E,sp vs H Q E->vs.length=ps.length)
  (bi:∀(ac:Value) (A:Around) (outer:List Env) (s:Shared) (H:Hp) (vs:List V) (Q:VK) (E:XK),aG k (A.deeper (PyProof.Rows.envOfC qual (defScope st) s.heap.objs.size f ac))->sp vs H Q E ->
   ∃t,fc (Bj aO P w K mg base N qual (defScope st) f ac A outer s H E) (defBody st) t/\t { nx:=fun _ H'=>Q .aU H',rt:=Q } (Bt N vs) H):AY P w K mg base aO (k + 1) f fd ps sp:=by
 obtain⟨oc,od,kV,doc,pm,an,ac,ct,fZ,rfl,lk,fm⟩:=F.ex;exact Kr lk fm S len fun A outer s H vs Q E hr gG=>bi ac A outer s H vs Q E hr gG
inductive spILL (C VC EC RC:Addr) (vs:List V) (H:Hp) (Q:VK) (_E:XK):Prop where
 |mk (g:Fr) (v:Addr) (n:Nat) (cE:vs=[.ref g.p,.ref v,.ref g.ro]) (cD:EdR C EC RC g H) (cH:cJ VC H v g.k n) (dH:n - (n &&& Ab (AI g.due))=0) (eT:∀H',KX H H'->Q (.bl (g.ok n)) H')
theorem Vr:AL ["self", "value", "other_rule"] ["self", "value", "other_rule"] (defScope BN):=cB
theorem Uj (F:aW K "is_led_to_let" "Edition.is_led_to_let" BN f fd) (ET:Fw K EC) (RT:Gw K RC) (mL:mg "Unled" = some (.ref cL)) (xL:BJ K cL=true) (sL:(D0 K cL).contains (.ref cL)=true)
  (GL:iW P w K mg base EC "led" 7 ["self", "value"] (spLed C VC EC cL)) (GT:Mt P w K mg base RC "lets" 6 ["self", "value"] (spLets C VC RC)):AY P w K mg base aO 8 f fd ["self", "value", "other_rule"] (spILL C VC EC RC):=by
 obtain⟨fD,dD,GD,mD,bD⟩:=GL.ex;obtain⟨fT,dT,GT,mT,bT⟩:=GT.ex;refine S0 F Vr (fun vs H Q E h=>?_) (fun ac A outer s H vs Q E hr h=>?_)
 ·obtain⟨g,v,n,rfl,_⟩:=h;rfl
 ·obtain⟨g,v,n,rfl,W,hV,h0,q⟩:=h;have hr6:aG 6 _:=hr.mono qc;have own:=Rx (CX:=aO) (P:=P) (w:=w) (K:=K) (mg:=mg) (base:=base) (N:=["self", "value", "other_rule"]) (qual := "Edition.is_led_to_let") (scope:=defScope BN) (f:=f) (cd:=ac) (A:=A) (outer:=outer) (s:=s) (H:=H) (E:=E);refine⟨_,AD (P5 (tb:=fun E=>PJ (JO RC "lets" (spLets C VC RC) [] E0 (F6 2) (Ay (JO EC "led" (spLed C VC EC cL) [] E (F6 0) (Ay (F6 1) Dr)) Dr))) (th:=fun CC _ _ D _ H=>CC=cL/\D.rt (.bl false) H) own (fun P0 xe E hx=>?_) (fun CC dx=>?_)),?_⟩
  ·exact AD (AR (Bp (pv 2) RT.cl mT GT hr6 bT .nil AN (AA (Bp (pv 0) ET.cl mD GD hr bD .nil hx (AA (pv 1) AB)) AB)))
  ·rintro aa s1 σ H1 D e oe T oT c I ⟨rfl,hq⟩;refine(QK (X:=Bj aO P w K mg base ["self", "value", "other_rule"] "Edition.is_led_to_let" (defScope BN) f ac A outer s H E) (x := "Unled") (Dn:=CC) (tb:=fun _=>PJ (tC (.bl false))) xL xL rfl mL sL (fun e oe T oT c=>AD (AR NQ))) aa s1 σ H1 D e oe T oT c I hq
  ·obtain⟨dx,d,ob,hp,hd⟩:=id W.ed;obtain⟨dr,fs,d',ln,lb,ob',ll,hro,R,_⟩:=id W.ru;have h8:=W.h8;refine⟨_,rfl,g.ro,dr,_,rfl,hro,R.no _ qb,_,rfl,g.p,dx,_,rfl,hp,EM _ _ _,_,rfl,g.p,v,g.k,g.o,n,g.due,g.aD,g.r,g.r2,g.tab,rfl,W.ed,W.tn,hV,W.ka,W.asc,qe,W.kb,W.lt2,h0,?_⟩;rcases RS (tab:=g.tab) (Am g.due n)with hH |⟨x,hL⟩
   ·refine .inr ⟨hH,fun q1 H1 s1 gH=>?_⟩;refine⟨g.ro,q1,g.o,_,g.aD,g.r2,g.ns,g.bs,rfl,⟨W.ru.same s1,W.kb.same s1,W.f7,gH,W.nd2,W.pn,W.pb,W.h82⟩,fun H2 s2=>?_⟩;have:=q H2 (KX.of (s1.trans s2));rw[show g.ok n=_ from Ju hH]at this;exact this
   ·refine .inl ⟨x,hL,W.nm x (Vq (n:=n) ?_),fun e d H1 s1 he hd' az he1 hd1=>⟨cL,rfl,fun e' he'=>⟨rfl,?_⟩⟩⟩
    ·obtain⟨i,hi,_⟩:=hL;exact ZQ hi
    ·have:=q _ (KX.exc s1 he');rw[show g.ok n=_ from G2 hL]at this;exact this
inductive spRKind (RC:Addr) (vs:List V) (H:Hp) (Q:VK) (_E:XK):Prop where
 |mk (p:_) (k:_) (due:_) (ns:_) (bs:_) (cE:vs=[.ref p]) (cD:cV RC H p k due ns bs) (cH:Q (.ref k) H)
theorem S1:AL ["self"] ["self"] (defScope Gh):=cB
theorem RV (F:aW K "kind" "Rule.kind" Gh f fd) (RT:Gw K RC):AY P w K mg base aO 1 f fd ["self"] (spRKind RC):=by
 refine F.m S1 fun vs H Q E h=>?_;obtain⟨p,k,due,ns,bs,rfl,⟨dx,fs,d,ln,lb,ob,ll,hp,R,_⟩,q⟩:=h;refine⟨rfl,fun ac A outer s hr=>?_⟩;exact⟨_,AD (AR (Ak (pv 0) rfl)),_,rfl,p,RC,dx,_,_,rfl,hp,RT.cl,RT.nK,R.ok,q⟩
def HI (VC k:Addr) (H:Hp) (v:V):Option Nat->Prop
 |none=>v=.aU
 |some n=>∃q,v=.ref q/\cJ VC H q k n
inductive spFU (C VC EC RC:Addr) (vs:List V) (H:Hp) (Q:VK) (_E:XK):Prop where
 |mk (g:Fr) (cE:vs=[.ref g.p,.ref g.ru,.ref g.ro]) (cD:EdR C EC RC g H) (cH:cV RC H g.ru g.k g.due g.il g.gM) (dH:∀v H',KX H H'->HI VC g.k H' v ((BD g.due g.il g.gM).find? fun n=>!g.ok n)->Q v H')
noncomputable abbrev NFU:List Str:=["self", "rule", "other_rule", "number", "value"]
theorem scFU:AL NFU ["self", "rule", "other_rule"] (defScope BO):=cB
theorem Iy (due:Aa) (ns bs:List (Str×Str)) (h:due.length <= 8):(BD due ns bs).length <= 256:=by
 unfold BD;refine Nat.le_trans (ZS _ _) ?_;rw[HF];exact Ss (Nat.le_trans (A7 due) h)
theorem Vs (F:aW K "first_unled" "Edition.first_unled" BO f fd) (B:Bl mg) (ET:Fw K EC) (RT:Gw K RC) (jD:W.findIn K (.ref C) "__ne__" = some (some (.builtin "object.__ne__"))) (hm:W.mroIn K C (.type "object")=some true)
  (GE:Mt P w K mg base C "__eq__" 2 ["self", "other"] (spEqK C)) (jO:Mt P w K mg base RC "kind" 1 ["self"] (spRKind RC)) (GC:Mt P w K mg base RC "count" 1 ["self"] (spCount RC)) (GN:Mt P w K mg base RC "nth" 6 ["self", "number"] (spNth C VC RC)) (GI:Mt P w K mg base EC "is_led_to_let" 8 ["self", "value", "other_rule"] (spILL C VC EC RC)) :
  AY P w K mg base aO 9 f fd ["self", "rule", "other_rule"] (spFU C VC EC RC):=by
 obtain⟨fE,dE,GE,mE,bE⟩:=GE.ex;obtain⟨fK,dK,jO,mK,bK⟩:=jO.ex;obtain⟨fC,dC,GC,mC,bC⟩:=GC.ex;obtain⟨fN,dN,GN,mN,bN⟩:=GN.ex;obtain⟨fI,dI,GI,mI,bI⟩:=GI.ex;refine F.m scFU fun vs H Q E h=>?_;obtain⟨g,rfl,W,RU,q⟩:=h;refine⟨rfl,fun ac A outer s hr=>?_⟩;have cN:aG 1 _:=hr.mono qc;have iG:aG 3 _:=hr.mono qc;have hr6:aG 6 _:=hr.mono qc
 refine⟨_,AE (An (PW.pt (CH (AS (Cr GE iG bE mE jD hm) (Aj (pv 1) RT.cl mK jO cN bK .nil AN) (Ak (pv 0) rfl) (AW _)) (Bk (AS (Cr GE iG bE mE jD hm) (Aj (pv 2) RT.cl mK jO cN bK .nil AN) (Ak (pv 0) rfl) (AW _))))) (AD Ah) AT)
  (AE (BY PassesOwn.never rfl (CJ rfl B.range (AA (Aj (pv 1) RT.cl mC GC cN bC .nil AN) AB)) (AO (i:=3) scFU.nd rfl (Or.inl rfl))
   (AE (Ag (i:=4) scFU.nd rfl (Or.inl rfl) (Bp (pv 1) RT.cl mN GN hr6 bN .nil AN (AA (pv 3) AB)))
   (AD (An (A9 (A5 (Bp (pv 0) ET.cl mI GI hr bI .nil AN (AA (pv 4) (AA (pv 2) AB))))) (AD (AR (pv 4))) AT))))
  (AD (AR Jx))),?_⟩
 obtain⟨dx,d,ob,hp,hd⟩:=id W.ed;obtain⟨dr,fs,d1,ln1,lb1,ob1,ll1,hru,R,_⟩:=id RU;obtain⟨dr2,fs2,d2,ln2,lb2,ob2,ll2,hro,R2,_⟩:=id W.ru;obtain⟨dk,e1,e2,hk⟩:=W.ka.ins;obtain⟨dk2,e12,e22,ky⟩:=W.kb.ins;refine⟨_,rfl,g.ru,dr,_,rfl,hru,R.no _ qb,g.ru,g.k,g.due,g.il,g.gM,rfl,RU,_,rfl,g.p,EC,dx,_,_,rfl,hp,ET.cl,ET.nK,HE _ _ _,?_⟩;refine⟨g.k,dk,_,g.k,dk,_,rfl,rfl,hk,hk,g.k,g.k,g.due,g.r,rfl,W.ka,W.asc,.inr ⟨g.due,g.r,W.ka,W.asc,fun H1 s1=>⟨_,rfl,_,rfl,_,rfl,?_⟩⟩⟩;rw[ZL (show g.due=g.due/\g.r=g.r from⟨rfl,rfl⟩)];refine Aq ?_;refine⟨_,rfl,g.ro,dr2,_,rfl,s1 _ _ hro,R2.no _ qb,g.ro,g.o,g.aD,g.ns,g.bs,rfl,W.ru.same s1,_,rfl,g.p,EC,dx,_,_,rfl,s1 _ _ hp,ET.cl,ET.nS,EL _ _ _,?_⟩;refine⟨g.o,dk2,_,g.o,dk2,_,rfl,rfl,s1 _ _ ky,s1 _ _ ky,g.o,g.o,g.aD,g.r2,rfl,W.kb.same s1,W.f7,.inr ⟨g.aD,g.r2,W.kb.same s1,W.f7,fun H2 s2=>⟨_,rfl,_,rfl,_,rfl,?_⟩⟩⟩;rw[ZL (show g.aD=g.aD/\g.r2=g.r2 from⟨rfl,rfl⟩)];refine Aq ?_;have eK:=s1.trans s2;have bf:=Iy g.due g.il g.gM W.h8;refine⟨_,rfl,g.ru,dr,_,rfl,eK _ _ hru,R.no _ qb,g.ru,g.k,g.due,g.il,g.gM,rfl,RU.same eK,?_⟩;refine⟨_,rfl,qe,qe,?_⟩
 refine F9 (lo:=0) (n:=(((BD g.due g.il g.gM).length:Nat):Int).toNat) (fun i σ H3=>(∃v3 v4:Option V,σ=[some (.ref g.p),some (.ref g.ru),some (.ref g.ro),v3,v4])/\KX H H3/\((BD g.due g.il g.gM).take i).find? (fun n=>!g.ok n)=none)
  ⟨⟨none,none,rfl⟩,KX.of eK,rfl⟩ ?_ ?_
 ·rintro i σ H3 hi ⟨⟨v3,v4,rfl⟩,k3,hf⟩;have js:i < (BD g.due g.il g.gM).length:=by omega
  have eU:=Z7 js;generalize (BD g.due g.il g.gM)[i]=n at eU;have hu:=HH (ZQ eU);have hmk:=FN hu;have W3:=W.k0 k3.k0;have RU3:=RU.k0 k3.k0;refine⟨_,rfl,g.ru,dr,_,rfl,k3 _ _ hru (fun _ _ z=>nomatch z),R.no _ qb,_,rfl,g.ru,g.k,g.due,g.r,g.il,g.gM,i,n,?_,RU3,W3.ka,W.lt,eU,fun q4 H4 s4 hq4=>?_⟩
  ·show [V.ref g.ru,V.int (0 + (i:Int))]=_;rw[Int.zero_add]
  have k4:=k3.trans (KX.of s4);refine⟨_,rfl,g.p,dx,_,rfl,k4 _ _ hp (fun _ _ z=>nomatch z),EM _ _ _,_,rfl,_,rfl,g,q4,n,rfl,W.k0 k4.k0,hq4,qe,fun H5 k5=>?_⟩;have k05:=k4.trans k5;refine⟨_,rfl,?_⟩;cases eL:g.ok n with
  |false =>
   refine BX ⟨_,rfl,q _ _ k05 ?_⟩;rw[F1 hf eU (by rw[eL];rfl)];obtain⟨dq,hq⟩:=hq4;exact⟨q4,rfl,dq,k5 _ _ hq (fun _ _ z=>nomatch z)⟩
  |true =>
   exact Aq ⟨⟨_,_,rfl⟩,k05,Bs hf eU (by rw[eL];rfl)⟩
 ·rintro σ H3 ⟨_,k3,hf⟩;rw[show((((BD g.due g.il g.gM).length:Nat):Int).toNat)=(BD g.due g.il g.gM).length by omega,ZB]at hf;refine q _ _ k3 ?_;rw[hf];rfl
structure Fx where
 p:Addr
 ru:Addr
 ro:Addr
 k:Addr
 o:Addr
 kr:Addr
 ko:Addr
 due:Aa
 aD:Aa
 e1:Aa
 e2:Aa
 r:Str
 r2:Str
 q1:Str
 q2:Str
 kvs:LK
 ns:List (Str×Str)
 bs:List (Str×Str)
 il:List (Str×Str)
 gM:List (Str×Str)
structure FxP (C EC RC:Addr) (g:Fx) (H:Hp):Prop where
 ed:eA EC H g.p g.k g.o g.kvs
 ka:aF C H g.k g.due g.r
 asc:iu g.due
 kb:aF C H g.o g.aD g.r2
 f7:iu g.aD
 ru:cV RC H g.ru g.kr g.e1 g.il g.gM
 kr:aF C H g.kr g.e1 g.q1
 ascr:iu g.e1
 ro:cV RC H g.ro g.ko g.e2 g.ns g.bs
 ko:aF C H g.ko g.e2 g.q2
 asco:iu g.e2
 ne:¬ (g.e1=g.due/\g.q1=g.r)\/¬ (g.e2=g.aD/\g.q2=g.r2)
inductive spFUX (C EC RC cU:Addr) (vs:List V) (H:Hp) (Q:VK) (E:XK):Prop where
 |mk (g:Fx) (cE:vs=[.ref g.p,.ref g.ru,.ref g.ro]) (cD:FxP C EC RC g H) (cH:Uq H E cU)
theorem Uk (F:aW K "first_unled" "Edition.first_unled" BO f fd) (ET:Fw K EC) (RT:Gw K RC) (jD:W.findIn K (.ref C) "__ne__" = some (some (.builtin "object.__ne__"))) (hm:W.mroIn K C (.type "object")=some true) (EU:TU P w K mg base "Unlike" cU)
  (GE:Mt P w K mg base C "__eq__" 2 ["self", "other"] (spEqK C)) (jO:Mt P w K mg base RC "kind" 1 ["self"] (spRKind RC)) :
  AY P w K mg base (gk P w) 4 f fd ["self", "rule", "other_rule"] (spFUX C EC RC cU):=by
 obtain⟨fE,dE,GE,mE,bE⟩:=GE.ex;obtain⟨fK,dK,jO,mK,bK⟩:=jO.ex;obtain⟨fX,dX,MX,GX,bX⟩:=EU.make;have mX:=EU.cls;refine F.n scFU fun vs H Q E h=>?_;obtain⟨g,rfl,W,hU⟩:=h;refine⟨rfl,fun ac A outer s hr=>?_⟩;have cN:aG 1 _:=hr.mono qc;have ff:aG 2 _:=hr.mono qc;have rz:=Ni (P:=P) (w:=w) (K:=K) (mg:=mg) (base:=base) (N:=NFU) (qual := "Edition.first_unled") (scope:=defScope BO) (f:=f) (cd:=ac) (A:=A) (outer:=outer) (s:=s) (H:=H) (E:=E)
 refine⟨_,AE (An (PW.pt (CH (AS (Cr GE hr bE mE jD hm) (Aj (pv 1) RT.cl mK jO cN bK .nil AN) (Ak (pv 0) rfl) (AW _)) (Bk (AS (Cr GE hr bE mE jD hm) (Aj (pv 2) RT.cl mK jO cN bK .nil AN) (Ak (pv 0) rfl) (AW _))))) (AD (LF rz rfl MX.cls (LB MX GX ff rfl mX bX .nil AN (AA Ae AB)))) AT)
  N9,?_⟩
 obtain⟨dx,d,ob,hp,hd⟩:=id W.ed;obtain⟨dr,fs,d1,ln1,lb1,ob1,ll1,hru,R,_⟩:=id W.ru;obtain⟨dr2,fs2,d2,ln2,lb2,ob2,ll2,hro,R2,_⟩:=id W.ro;obtain⟨dk,e1,e2,hk⟩:=W.ka.ins;obtain⟨dk2,e12,e22,ky⟩:=W.kb.ins;obtain⟨dk3,e13,e23,hk3⟩:=W.kr.ins;obtain⟨dk4,e14,e24,hk4⟩:=W.ko.ins;refine⟨_,rfl,g.ru,dr,_,rfl,hru,R.no _ qb,g.ru,g.kr,g.e1,g.il,g.gM,rfl,W.ru,_,rfl,g.p,EC,dx,_,_,rfl,hp,ET.cl,ET.nK,HE _ _ _,?_⟩;refine⟨g.kr,dk3,_,g.k,dk,_,rfl,rfl,hk3,hk,g.kr,g.k,g.e1,g.q1,rfl,W.kr,W.ascr,.inr ⟨g.due,g.r,W.ka,W.asc,fun H1 s1=>⟨_,rfl,_,rfl,_,rfl,?_⟩⟩⟩;by_cases z:g.e1=g.due/\g.q1=g.r
 ·rw[ZL z];refine Aq ?_;refine⟨_,rfl,g.ro,dr2,_,rfl,s1 _ _ hro,R2.no _ qb,g.ro,g.ko,g.e2,g.ns,g.bs,rfl,W.ro.same s1,_,rfl,g.p,EC,dx,_,_,rfl,s1 _ _ hp,ET.cl,ET.nS,EL _ _ _,?_⟩;refine⟨g.ko,dk4,_,g.o,dk2,_,rfl,rfl,s1 _ _ hk4,s1 _ _ ky,g.ko,g.o,g.e2,g.q2,rfl,W.ko.same s1,W.asco,.inr ⟨g.aD,g.r2,W.kb.same s1,W.f7,fun H2 s2=>⟨_,rfl,_,rfl,_,rfl,?_⟩⟩⟩;rw[ZO (show ¬ (g.e2=g.aD/\g.q2=g.r2)from fun y=>W.ne.elim (fun h=>h z) (fun h=>h y))];exact BX (Ii (te:=fun _=>tC (.str "")) MX.cls (s1.trans s2) hU)
 ·rw[ZO z];exact BX (BX (Ii (te:=fun _=>tC (.str "")) MX.cls s1 hU))
end
structure FunC (K:FG) (x qual:Str) (st:Stmt) (f:Addr) (fd:FuncData) (c:Addr):Prop where
 ex:∃(oc:Value) (od:Option Addr) (kV doc pm:Value) (an:Option Addr) (ct:Value) (fZ:Array (Option Value)),
  fd=W.fnOf x qual (defArgs st) (defBody st) (defScope st) .none kV doc pm an (.ref c) ct/\K.lookup f=some ⟨oc,od,.func fd,fZ⟩/\W.codeIn K (.ref c) qual=true
theorem FunC.ok {x qual:Str}{st:Stmt}{c:Addr}{N ps:List Str}{k:Nat}{sp:Sp} (F:FunC K x qual st f fd c) (S:AL N ps (defScope st)) (len:∀vs H Q E,sp vs H Q E->vs.length=ps.length)
  (bi:∀(A:Around) (outer:List Env) (s:Shared) (H:Hp) (vs:List V) (Q:VK) (E:XK),aG k (A.deeper (PyProof.Rows.envOfC qual (defScope st) s.heap.objs.size f (.ref c)))->sp vs H Q E ->
   ∃t,fc (Bj aO P w K mg base N qual (defScope st) f (.ref c) A outer s H E).gO (defBody st) t/\t { nx:=fun _ H'=>Q .aU H',rt:=Q } (Bt N vs) H):AY P w K mg base aO (k + 1) f fd ps sp:=by
 obtain⟨oc,od,kV,doc,pm,an,ct,fZ,rfl,lk,fm⟩:=F.ex;refine Kr lk fm S len fun A outer s H vs Q E hr gG=>?_;obtain⟨t,h,q⟩:=bi A outer s H vs Q E hr gG;exact⟨t,h.gO,q⟩
noncomputable def S2:Stmt->List Stmt | .For _ _ b _ _=>b |_=>[]
noncomputable def Ul:Stmt->Expr | .Assign _ v _=>v |_=>.Name "" ⟨0,0,0,0⟩
noncomputable def ER (i:Nat):Expr->Expr | .Call _ es _ _=>es.getD i (.Name "" ⟨0,0,0,0⟩) |e=>e
noncomputable def Um (l:List Stmt) (i:Nat):Stmt:=l.getD i (.Pass ⟨0,0,0,0⟩)
noncomputable def Vt (i:Nat):Expr->Expr | .List es _=>es.getD i (.Name "" ⟨0,0,0,0⟩) |e=>e
noncomputable def Uo:Stmt->Expr | .Expr e _=>e |_=>.Name "" ⟨0,0,0,0⟩
noncomputable def Ta:List Stmt:=S2 (Um (defBody Do) 0)
noncomputable def Jv:Expr:=Vt 0 (Ul (Um Ta 10))
noncomputable def Jw:Expr:=ER 0 (Uo (Um Ta 11))
noncomputable def N2:Expr->Expr | .Lambda _ b _ _=>b |e=>e
noncomputable def RW:Expr->Arguments | .Lambda a _ _ _=>a |_=>defArgs Do
noncomputable def Lx:Expr->Scope | .Lambda _ _ sc _=>sc |_=>defScope Do
noncomputable def Kc:Expr->Pos | .Lambda _ _ _ p=>p |_=>⟨0,0,0,0⟩
noncomputable def LS:List Pos:=[Kc (ER 0 Jv),Kc (ER 0 Jw)]
theorem Tb (j:Nat):∀l,LS[j]?=some l->∀q∈LS,q=l\/(q.line == l.line && q.col == l.col)=false:=by
 have key:(LS.all fun l=>LS.all fun q=>decide (q=l) || !(q.line == l.line && q.col == l.col))=true:=by decide +kernel
 intro l hl q hq;have h1:=List.all_eq_true.mp (List.all_eq_true.mp key l (ZQ hl)) q hq;rw[Bool.or_eq_true]at h1;rcases h1 with z |z
 ·exact .inl (ZV z)
 ·exact .inr (by rw[Bool.not_eq_true']at z;exact z)
theorem Gx {α β:Type} [BEq α] [LawfulBEq α] {x:α}{v:β}:∀ {l:List (α×β)},l.lookup x=some v->(x,v)∈l
  | [],h=>by cases h
  | (y,u) :: r,h=>by
    rw[Zz]at h;cases e:x == y with
    |true =>
      rw[e]at h;cases h;rw[eq_of_beq e];exact ZI ..
    |false =>
      rw[e]at h;exact ZR _ (Gx h)
theorem S3 {scope:Scope}{cC:List (Str×Addr)} (h:scope.names.all (fun p=>!(p.2 == .cell ||p.2 == .free) || (cC.lookup p.1).isSome)=true):∀x,(scope.names.lookup x=some .cell\/scope.names.lookup x=some .free)->∃c,cC.lookup x=some c:=fun x hx=>by
 have g:∀k,scope.names.lookup x=some k->(k == .cell ||k == .free)=true->∃c,cC.lookup x=some c:=fun k e hk=>by
  have:=List.all_eq_true.mp h _ (Gx e);simp only[hk,Bool.not_true,Bool.false_or]at this;exact Option.isSome_iff_exists.mp this
 rcases hx with z |z
 ·exact g _ z rfl
 ·exact g _ z rfl
noncomputable def qL:Str := "law.<locals>." ++ "<lambda>"
theorem aQ.same {P0:Addr}{q:Str}{ls:List Pos} (s:aB H H') (h:aQ H P0 q ls):aQ H' P0 q ls:=by
 obtain⟨ps,h1,h2,h3⟩:=h;refine⟨ps,s _ _ h1,h2,fun x hx=>?_⟩;rcases h3 x hx with z |⟨c,z1,z2⟩
 ·exact .inl z
 ·exact .inr ⟨c,z1,s _ _ z2⟩
theorem aQ.aP {d:Addr}{P0:Addr}{q:Str}{ls:List Pos}{x y:Int} (hd:H d=some (.lst [.int x,.int y])) (s:bZ d H H') (h:aQ H P0 q ls):aQ H' P0 q ls:=by
 obtain⟨ps,h1,h2,h3⟩:=h;refine⟨ps,s.old _ _ h1 (fun z=>by subst z;rw[hd]at h1;cases h1),h2,fun x hx=>?_⟩;rcases h3 x hx with z |⟨c,z1,z2⟩
 ·exact .inl z
 ·exact .inr ⟨c,z1,s.old _ _ z2 (fun z=>by subst z;rw[hd]at z2;cases z2)⟩
theorem K0.sameB {P0:Addr} (h:aQ H P0 qL LS) (s:Nm P0 H H'):K0 H H':=fun b o e h1 _=>s b o (fun z=>by
 obtain⟨ps,hp,_⟩:=h;rw[z,hp]at e;cases e
 exact h1 _ rfl) e
theorem K0.exc {P0:Addr}{H1 H2:Hp}{e' C':Addr}{dx:Option Addr} (s1:aB H H1) (he:H1 e'=some (Ey e' C' dx)) (s2:aB (del H1 e') H2) (h:aQ H P0 qL LS):aQ H2 P0 qL LS/\K0 H H2:=by
 have old:∀b o,H b=some o->o≠Ey b C' dx->H2 b=some o:=fun b o eb hn=>by
  have eb1:=s1 _ _ eb;refine s2 _ _ ?_;have jd:b≠e':=fun z=>by subst z;rw[he]at eb1;cases eb1;exact hn rfl
  unfold del;rw[Zq jd];exact eb1
 refine⟨?_,fun b o eb _ hx=>old b o eb (hx _)⟩;obtain⟨ps,h1,h2,h3⟩:=h;refine⟨ps,old _ _ h1 (fun z=>nomatch z),h2,fun x hx=>?_⟩;rcases h3 x hx with z |⟨c,z1,z2⟩
 ·exact .inl z
 ·exact .inr ⟨c,z1,old _ _ z2 G1⟩
theorem aQ.kx {P0:Addr}{q:Str}{ls:List Pos} (s:KX H H') (h:aQ H P0 q ls):aQ H' P0 q ls:=by
 obtain⟨ps,h1,h2,h3⟩:=h;refine⟨ps,s _ _ h1 (fun _ _ z=>nomatch z),h2,fun x hx=>?_⟩;rcases h3 x hx with z |⟨c,z1,z2⟩
 ·exact .inl z
 ·exact .inr ⟨c,z1,s _ _ z2 fun _ _=>G1⟩
theorem N3 {ec:Nat->Addr}{cM cU P0:Addr}{j:Nat}{Q:VK}{H1:Hp}{e:Addr} (EP:Lj K ec cM cU j) (W:aQ H P0 qL LS) (s1:aB H H1)
  (h:∀p H',aQ H' P0 qL LS->K0 H H'->H' p=some (.tup [.str "refused", .str (wd j)])->Q (.ref p) H'):Lk K ec cM Q (.ref cU) none H1:=⟨cU,rfl,fun e' he'=>⟨j,EP,rfl,fun p H2 s2 hp=>by
 obtain⟨W2,R2⟩:=K0.exc s1 he' s2 W
 exact h p H2 W2 R2 hp⟩⟩
inductive spLaw (K:FG) (P0:Addr) (vs:List V) (H:Hp) (Q:VK) (_E:XK):Prop where
 |mk (a:Addr) (ns:List Int) (cE:vs=[.ref a]) (cD:aH K H a (ns.map V.int)) (cH:ns.length <= 63) (dH:aQ H P0 qL LS) (eT:∀H',Q (.bl true) H')
noncomputable abbrev JK:List Str:=["_law_script", "_law_dice", "_law_edition_here", "_law_table", "_law_due", "_law_next_due", "_law_own", "_law_goal_here", "_law_rule", "_law_wants", "_law_fences", "_law_other", "_law_next_wants", "_law_next_fences", "_law_some", "_law_number", "_law_there", "_law_found", "_law_strange", "_law_done"]
theorem scLaw:AL JK ["_law_script"] (defScope Do):=cB
section
variable {RC cM cU c P0:Addr}{ec:Nat->Addr}
theorem N4 {X:Cx}{Nl:List Str}{ix:List Nat}{scope:Scope}{cC:List (Str×Addr)} (h1:ix.length=Nl.length)
  (h2:(List.range Nl.length).all (fun i=>match Nl[i]?,ix[i]? with |some x,some j=>decide (X.N[j]?=some x) && decide (X.env.scope.names.lookup x=some .cell) && decide (scope.names.lookup x=some .free) |_,_=>false)=true)
  (h3:∀p∈cC,X.env.cells.lookup p.1=some p.2) (h4:scope.names.all (fun p=>!(p.2 == .cell ||p.2 == .free) || (cC.lookup p.1).isSome)=true) (h5:∀x,X.fn x=true):LamN X Nl ix scope cC:=by
 refine⟨h1,fun i x h=>?_,fun x c h=>h3 _ (Gx h),S3 h4,h5⟩;have hi:i < Nl.length:=(Z8.mp h).1;have:=List.all_eq_true.mp h2 i (mem_range.mpr hi);rw[h]at this;cases e:ix[i]? with
 |none=>rw[e]at this;cases this
 |some j =>
  rw[e]at this;simp only[Bool.and_eq_true,decide_eq_true_eq]at this;exact⟨j,rfl,this.1.1,this.1.2,this.2⟩
theorem Up {f0 kS:Addr}{kY:FuncData}{A:Around}{outer:List Env}{s:Shared}{E:XK} (FT:aW K "_law_told" "_law_told" BU kS kY) (mT0:mg "_law_told" = some (.ref kS)) (bT0:Binds K kY ["_law_deed"] []) (M:NF mg ec) (EX:O1 K mg ec cM) (GW:FnS P w K mg base "_law_word" 1 ["_law_e"] (EK K ec))
  (LC:QC (Bj aO P w K mg base JK "law" (defScope Do) f0 (.ref c) A outer s H E).gO c P0) (hr:aG 9 (Bj aO P w K mg base JK "law" (defScope Do) f0 (.ref c) A outer s H E).gO.A) {fX:Addr}{dX:FuncData} (ET:Fw K EC) (mX:HV K EC "first_unled" fX) (GX:AY P w K mg base (gk P w) 4 fX dX ["self", "rule", "other_rule"] (spFUX C EC RC cU)) (bX:Binds K dX ["self", "rule", "other_rule"] []) :
  PE (Bj aO P w K mg base JK "law" (defScope Do) f0 (.ref c) A outer s H E).gO Jv (Qt K ec cM P0 qL LS [2,18,11] (fun E=>JO EC "first_unled" (spFUX C EC RC cU) [] E (F6 0) (Ay (F6 1) (Ay (F6 2) Dr)))) :=
   Nx (X:=(Bj aO P w K mg base JK "law" (defScope Do) f0 (.ref c) A outer s H E).gO) (params:=RW (ER 0 Jv)) (body:=N2 (ER 0 Jv)) (scope:=Lx (ER 0 Jv)) (Nl:=["_law_edition_here", "_law_strange", "_law_other"]) (k:=7) (cX:=Kc (ER 0 Jv)) FT M EX GW hr rfl mT0 FT.kp bT0 LC (ZQ (i:=0) rfl) (Tb 0 _ rfl) rfl rfl (N4 rfl qd (by intro p hp;simp only[mem_cons,not_mem_nil,or_false]at hp;rcases hp with rfl |rfl |rfl <;> kernel_rfl) qd (fun _=>rfl)) (fun _ _ _=>rfl) rfl rfl rfl qb
    (fun lf c' A' outer' s' H' E hr=>Bp (pv 0) ET.cl mX GX (hr.mono qc) bX .nil TL (AA (pv 1) (AA (pv 2) AB)))
theorem Ur {f0 kS:Addr}{kY:FuncData}{A:Around}{outer:List Env}{s:Shared}{E:XK} (FT:aW K "_law_told" "_law_told" BU kS kY) (mT0:mg "_law_told" = some (.ref kS)) (bT0:Binds K kY ["_law_deed"] []) (M:NF mg ec) (EX:O1 K mg ec cM) (GW:FnS P w K mg base "_law_word" 1 ["_law_e"] (EK K ec))
  (LC:QC (Bj aO P w K mg base JK "law" (defScope Do) f0 (.ref c) A outer s H E).gO c P0) (hr:aG 9 (Bj aO P w K mg base JK "law" (defScope Do) f0 (.ref c) A outer s H E).gO.A) {fX:Addr}{dX:FuncData} (ET:Fw K EC) (mX:HV K EC "first_unled" fX) (GX:AY P w K mg base (gk P w) 4 fX dX ["self", "rule", "other_rule"] (spFUX C EC RC cU)) (bX:Binds K dX ["self", "rule", "other_rule"] []) :
  PE (Bj aO P w K mg base JK "law" (defScope Do) f0 (.ref c) A outer s H E).gO Jw (Qt K ec cM P0 qL LS [2,8,18] (fun E=>JO EC "first_unled" (spFUX C EC RC cU) [] E (F6 0) (Ay (F6 1) (Ay (F6 2) Dr)))) :=
   Nx (X:=(Bj aO P w K mg base JK "law" (defScope Do) f0 (.ref c) A outer s H E).gO) (params:=RW (ER 0 Jw)) (body:=N2 (ER 0 Jw)) (scope:=Lx (ER 0 Jw)) (Nl:=["_law_edition_here", "_law_rule", "_law_strange"]) (k:=7) (cX:=Kc (ER 0 Jw)) FT M EX GW hr rfl mT0 FT.kp bT0 LC (ZQ (i:=1) rfl) (Tb 1 _ rfl) rfl rfl (N4 rfl qd (by intro p hp;simp only[mem_cons,not_mem_nil,or_false]at hp;rcases hp with rfl |rfl |rfl <;> kernel_rfl) qd (fun _=>rfl)) (fun _ _ _=>rfl) rfl rfl rfl qb
    (fun lf c' A' outer' s' H' E hr=>Bp (pv 0) ET.cl mX GX (hr.mono qc) bX .nil TL (AA (pv 1) (AA (pv 2) AB)))
end
theorem ES {X:Cx}{st:Stmt}{rest:List Stmt}{t u:TS} (h1:PSw X st t) (h2:PSsw X rest u):PSsw X (st :: rest) (Vb t u):=⟨Ee h1.h h2.h⟩
noncomputable abbrev iA:Aa:=[("ZZ", 1)]
noncomputable def DA (due:Aa):List (Str×Th):=due.map fun p=>(p.1,Th.num p.2)
theorem Ly (a:List (Str×Th)):∀(due:Aa),Ai (a++DA due)=Ai a++due
 | []=>by unfold DA;rw[map_nil,Zt,Zt]
 |p :: r=>by
  have e:a++DA (p :: r)=(a++[(p.1,Th.num p.2)])++DA r:=by unfold DA;rw[map_cons,List.append_assoc];rfl
  rw[e,Ly _ r,Eb,List.append_assoc];rfl
theorem Iz (due:Aa):Ai (DA due)=due:=Ly [] due
theorem RX (h:Es due) (h9:due.length <= 10):DE (DA due):=fun i r hi=>by
 have jr:=hi;unfold DA at jr;rw[ZE]at jr;obtain⟨p,hp,rfl⟩:=Z6.mp jr;have hlt:=(Z8.mp hp).1
 have e:Ai ((DA due).take i)=due.take i:=by
  unfold DA;rw[←map_take];exact Iz _
 rw[e];have hm:=ZQ hp;refine⟨⟨by rw[ZA];omega,fun q hq=>h.lt q (mem_of_mem_take hq),h.nd.sublist ((take_sublist i due).map (·.1)),fun q hq=>h.nm q (mem_of_mem_take hq)⟩,by rw[ZA];omega,h.nm p hm,fun z=>?_,trivial,h.lt p hm⟩;have h7:=h.nd.sublist ((take_sublist (i + 1) due).map (·.1));rw[ZD,hp,Zu,nodup_append]at h7;exact h7.2.2 _ z _ (ZG.mpr rfl) rfl
theorem Lz:∀ {bs:List Addr}{due:Aa},aE H bs (C0 due)->Paired (dQ H) bs (DA due)
 | [],[],_=>.nil
 | [],q :: r,h=>by cases h
 |b :: bs,[],h=>by cases h
 |b :: bs,q :: r,h=>by
  cases h with
  |cons h1 h2=>exact .cons ⟨_,h1,rfl⟩ (Lz h2)
noncomputable def jh:PyData:=.tuple [.str "refused", .str "Unlike"]
theorem N5 {qs:List Addr} (h:∀q∈qs,H q=some (.tup [.str "refused", .str "Unlike"])):BW K H (List.replicate qs.length jh) (qs.map V.ref):=by
 induction qs with
 |nil=>exact KQ
 |cons q r ih =>
  show BW K H (jh :: List.replicate r.length jh) (V.ref q :: r.map V.ref);rw[BW];exact⟨_,_,rfl,Sa (h q (ZI ..)),ih fun b hb=>h b (ZR _ hb)⟩
theorem JA (n:Nat):SeqAt.shaped (.list (List.replicate n jh))=true:=EG fun d hd=>by
 rw[List.eq_of_mem_replicate hd];refine⟨?_,?_⟩
 ·unfold jh;rw[PyData.canLay0];refine M9 fun d hd=>?_;simp only[mem_cons,not_mem_nil,or_false]at hd;rcases hd with rfl |rfl
  ·rw[PyData.canLay0];exact IY qb
  ·rw[PyData.canLay0];exact IY qb
 ·unfold jh;simp only[PyData.depth,PyData.depthAll];omega
theorem Us (DO:Es due) (h7:due.length <= 7) (nZ:("ZZ" : Str)∉ due.map (·.1)):Es (due++iA):=by
 refine⟨by rw[ZH];show due.length + 1 <= 10;omega,fun p hp=>?_,?_,fun p hp=>?_⟩
 ·rcases mem_append.mp hp with z |z
  ·exact DO.lt p z
  ·rw[ZG.mp z];decide
 ·rw[Zu,nodup_append];refine⟨DO.nd,by simp,fun x hx y hy z=>?_⟩;rw[map_cons,map_nil,ZG]at hy;rw[hy]at z;have z':x = "ZZ" := z;exact nZ (z' ▸ hx)
 ·rcases mem_append.mp hp with z |z
  ·exact DO.nm p z
  ·rw[ZG.mp z];exact⟨qb,qb,qb⟩
theorem aQ.put {P0 l:Addr}{xs ys:List V}{q:Str}{ls:List Pos} (e:H l=some (.lst xs)) (h:aQ H P0 q ls):aQ (upd H l (.lst ys)) P0 q ls:=by
 have old:∀b o,H b=some o->(∀zs,o≠ .lst zs)->upd H l (.lst ys) b=some o:=fun b o eb hn=>by
  rw[AF (fun z=>by subst z;rw[e]at eb;cases eb;exact hn _ rfl)];exact eb
 obtain⟨ps,h1,h2,h3⟩:=h;refine⟨ps,old _ _ h1 (fun _ z=>nomatch z),h2,fun x hx=>?_⟩;rcases h3 x hx with z |⟨c,z1,z2⟩
 ·exact .inl z
 ·exact .inr ⟨c,z1,old _ _ z2 (fun _ z=>nomatch z)⟩
theorem RY:PyData.eqv (.list (List.replicate 2 jh)) (.list (List.replicate 2 jh))=true:=by decide +kernel
set_option genInjectivity false
set_option genSizeOf false
structure Ad where
 p:Addr
 k:Addr
 o:Addr
 t:Addr
 u:Addr
 u2:Addr
 own:Addr
 e:Addr
 m:Addr
 gl:Addr
 e2:Addr
 m2:Addr
 ru:Addr
 lw:Addr
 lf:Addr
 ro:Addr
 lw2:Addr
 lf2:Addr
 ms:List Addr
 jX:List Addr
structure Dt where
 due:Aa
 aD:Aa
 r:Str
 r2:Str
 tab:List Ent
 ns:List (Str×Str)
 bs:List (Str×Str)
 ik:List (Str×Str)
 gL:List (Str×Str)
abbrev fr (z:Ad) (y:Dt):Fr:=⟨z.p,z.ru,z.ro,z.k,z.o,y.due,y.aD,y.r,y.r2,y.tab,y.ik,y.gL,y.ns,y.bs⟩
structure Wd (C EC RC P0:Addr) (z:Ad) (y:Dt) (H:Hp):Prop where
 tb:aQ H P0 qL LS
 er:EdR C EC RC (fr z y) H
 ru:cV RC H z.ru z.k y.due y.ns y.bs
 ht:H z.t=some (.dK (cY y.tab))
 d1:cW H z.u y.due
 d2:cW H z.u2 y.aD
 l1:d9 H z.own z.e z.m z.ms y.due
 l2:d9 H z.gl z.e2 z.m2 z.jX y.aD
 pw:bY H z.lw y.ns
 pf:bY H z.lf y.bs
 pw2:bY H z.lw2 y.ik
 pf2:bY H z.lf2 y.gL
theorem Wd.k0 {RC P0:Addr}{z:Ad}{y:Dt} (s:K0 H H') (t:aQ H' P0 qL LS) (h:Wd C EC RC P0 z y H):Wd C EC RC P0 z y H' :=
 ⟨t,h.er.k0 s,h.ru.k0 s,s _ _ h.ht (fun _ z=>nomatch z) (fun _ z=>nomatch z),h.d1.k0 s,h.d2.k0 s,h.l1.k0 s,h.l2.k0 s,h.pw.k0 s,h.pf.k0 s,h.pw2.k0 s,h.pf2.k0 s⟩
theorem Wd.same {RC P0:Addr}{z:Ad}{y:Dt} (s:aB H H') (h:Wd C EC RC P0 z y H):Wd C EC RC P0 z y H':=h.k0 (K0.of s) (aQ.same s h.tb)
theorem Wd.kx {RC P0:Addr}{z:Ad}{y:Dt} (s:KX H H') (h:Wd C EC RC P0 z y H):Wd C EC RC P0 z y H':=h.k0 s.k0 (aQ.kx s h.tb)
noncomputable def iD (a d:Addr) (z:Ad) (x14 gq gp x17 x18 x19:Option V):St:=[some (.ref a),some (.ref d),some (.ref z.p),some (.ref z.t),some (.ref z.u),some (.ref z.u2),some (.ref z.own),some (.ref z.gl),some (.ref z.ru),some (.ref z.lw),some (.ref z.lf),some (.ref z.ro),some (.ref z.lw2),some (.ref z.lf2),x14,gq,gp,x17,x18,x19]
noncomputable def EV (y:Dt) (l:List Nat):List Nat:=l.filter fun n=>!Dm y.tab y.due y.aD y.ik y.gL n
theorem G3 {α:Type} (f:α->Bool):∀l:List α,l.find? f=(l.filter f).head?
 | []=>rfl
 |a :: r=>by
  rw[find?_cons,filter_cons];cases f a with
  |true=>rfl
  |false=>exact G3 f r
theorem cV.aP {RC d:Addr}{p k:Addr}{ns bs:List (Str×Str)}{x y:Int} (hd:H d=some (.lst [.int x,.int y])) (hl:∀ll,Sv RC H p ll->ll≠d) (s:bZ d H H') (h:cV RC H p k due ns bs):cV RC H' p k due ns bs:=by
 have kl:cQ H H':=cQ.aP hd s;obtain⟨dx,fs,dd,ln,lb,ob,ll,a,b,c,⟨as,e1,e2⟩,⟨cs,f1,f2⟩,g,i⟩:=h
 have nr:∀ {l:Addr}{ws:List Addr},H l=some (.lst (ws.map V.ref))->l≠d:=fun {l ws} e z=>by
  rw[z,hd]at e;exact F0 e
 have st:aN H H':=fun b xs e=>kl _ _ e (fun _ z=>nomatch z);exact⟨dx,fs,dd,ln,lb,ob,ll,kl _ _ a (fun _ z=>nomatch z),b,kl _ _ c (fun _ z=>nomatch z),⟨as,s.old _ _ e1 (nr e1),aE.aS st e2⟩,⟨cs,s.old _ _ f1 (nr f1),aE.aS st f2⟩,g,s.old _ _ i (hl ll ⟨dx,fs,a,g⟩)⟩
theorem bY.aP {d l:Addr}{ps:List (Str×Str)}{x y:Int} (hd:H d=some (.lst [.int x,.int y])) (s:bZ d H H') (h:bY H l ps):bY H' l ps:=by
 obtain⟨as,h1,h2⟩:=h;exact⟨as,s.old _ _ h1 (fun z=>by rw[z,hd]at h1;exact F0 h1),aE.aS (fun b xs e=>cQ.aP hd s _ _ e (fun _ z=>nomatch z)) h2⟩
theorem d9.aP {d t e m:Addr}{ms:List Addr}{x y:Int} (hd:H d=some (.lst [.int x,.int y])) (s:bZ d H H') (h:d9 H t e m ms due):d9 H' t e m ms due :=
 ⟨cQ.aP hd s _ _ h.ht (fun _ z=>nomatch z),s.old _ _ h.hm (fun z=>by have h1:=h.hm;rw[z,hd]at h1;exact F0 h1),aE.aS (fun b xs e=>cQ.aP hd s _ _ e (fun _ z=>nomatch z)) h.g6⟩
theorem eA.fA {p k o:Addr}{kvs:LK} (s:cQ H H') (h:eA EC H p k o kvs):eA EC H' p k o kvs:=by
 obtain⟨dx,d,ob,h1,h2⟩:=h;exact⟨dx,d,ob,s _ _ h1 (fun _ z=>nomatch z),s _ _ h2 (fun _ z=>nomatch z)⟩
theorem NP {d b:Addr}{ws:List Addr}{x y:Int} (hd:H d=some (.lst [.int x,.int y])) (e:H b=some (.lst (ws.map V.ref))):b≠d:=fun z=>by
 rw[z,hd]at e;exact F0 e
noncomputable def jR (a:Addr) (f:Nat->Option V):St:=[some (.ref a),f 1,f 2,f 3,f 4,f 5,f 6,f 7,f 8,f 9,f 10,f 11,f 12,f 13,f 14,f 15,f 16,f 17,f 18,f 19]
noncomputable def st1 (a d:Addr) (z:Ad) (f:Nat->Option V):St:=[some (.ref a),some (.ref d),some (.ref z.p),some (.ref z.t),some (.ref z.u),some (.ref z.u2),f 6,f 7,f 8,f 9,f 10,f 11,f 12,f 13,f 14,f 15,f 16,f 17,f 18,f 19]
noncomputable def i5 (a d:Addr) (z:Ad) (f:Nat->Option V):St:=[some (.ref a),some (.ref d),some (.ref z.p),some (.ref z.t),some (.ref z.u),some (.ref z.u2),some (.ref z.own),some (.ref z.gl),f 8,f 9,f 10,f 11,f 12,f 13,f 14,f 15,f 16,f 17,f 18,f 19]
noncomputable def st3 (a d:Addr) (z:Ad) (f:Nat->Option V):St:=[some (.ref a),some (.ref d),some (.ref z.p),some (.ref z.t),some (.ref z.u),some (.ref z.u2),some (.ref z.own),some (.ref z.gl),some (.ref z.ru),some (.ref z.lw),some (.ref z.lf),f 11,f 12,f 13,f 14,f 15,f 16,f 17,f 18,f 19]
theorem Vu (a d:Addr) (z:Ad) (x14 gq gp x17 x18 x19:Option V):∃f,iD a d z x14 gq gp x17 x18 x19=jR a f:=⟨fun n=>(iD a d z x14 gq gp x17 x18 x19).getD n none,rfl⟩
structure Sy (y:Dt):Prop where
 DO:Es y.due
 iQ:Es y.aD
 h7:y.due.length <= 7
 h72:y.aD.length <= 7
 nZ:("ZZ" : Str)∉ y.due.map (·.1)
 nZ2:("ZZ" : Str)∉ y.aD.map (·.1)
 rr:y.r∈cA
theorem Sy.asc {y:Dt} (h:Sy y):iu y.due:=fun p hp=>(h.DO.nm p hp).2.1
theorem Sy.f7 {y:Dt} (h:Sy y):iu y.aD:=fun p hp=>(h.iQ.nm p hp).2.1
structure E1 (C EC P0 d:Addr) (z:Ad) (y:Dt) (H:Hp):Prop where
 tb:aQ H P0 qL LS
 bS:∃a b:Int,H d=some (.lst [.int a,.int b])
 ed:eA EC H z.p z.k z.o (cY y.tab)
 ka:aF C H z.k y.due y.r
 kb:aF C H z.o y.aD y.r2
 ht:H z.t=some (.dK (cY y.tab))
 tn:fb y.aD H y.tab
 d1:cW H z.u y.due
 d2:cW H z.u2 y.aD
theorem E1.aP {P0 d:Addr}{z:Ad}{y:Dt} (s:bZ d H H') (h:E1 C EC P0 d z y H):E1 C EC P0 d z y H':=by
 obtain⟨a,b,hd⟩:=h.bS;have kl:=cQ.aP hd s
 have du:∀ {u:Addr}{due:Aa},cW H u due->cW H' u due:=fun {u due} D=>by
  obtain⟨ws,e,_⟩:=id D;exact D.aP hd (NP hd e) s
 exact⟨aQ.aP hd s h.tb,s.bS,h.ed.fA kl,h.ka.fA kl,h.kb.fA kl,kl _ _ h.ht (fun _ z=>nomatch z),h.tn.same (fun b xs e=>kl _ _ e (fun _ z=>nomatch z)),du h.d1,du h.d2⟩
theorem E1.same {P0 d:Addr}{z:Ad}{y:Dt} (s:aB H H') (h:E1 C EC P0 d z y H):E1 C EC P0 d z y H':=h.aP (by
 obtain⟨a,b,hd⟩:=h.bS
 exact⟨fun b o e _=>s b o e,⟨a,_,s _ _ hd⟩⟩)
def Kd (d:Addr) (H H':Hp):Prop:=∀b xs,H b=some (.lst xs)->b≠d->H' b=some (.lst xs)
theorem Kd.aP {d:Addr}{H1 H2:Hp} (h:Kd d H H1) (s:bZ d H1 H2):Kd d H H2:=fun b xs e hb=>s.old _ _ (h b xs e hb) hb
theorem Kd.same {d:Addr}{H1 H2:Hp} (h:Kd d H H1) (s:aB H1 H2):Kd d H H2:=fun b xs e hb=>s _ _ (h b xs e hb)
structure E3 (C EC RC P0 d:Addr) (z:Ad) (y:Dt) (H:Hp):Prop where
 E:E1 C EC P0 d z y H
 l1:d9 H z.own z.e z.m z.ms y.due
 l2:d9 H z.gl z.e2 z.m2 z.jX y.aD
 ru:cV RC H z.ru z.k y.due y.ns y.bs
 pw:bY H z.lw y.ns
 pf:bY H z.lf y.bs
 pn:Cz y.due y.ns
 pb:Cz y.due y.bs
 ll:∀l,Sv RC H z.ru l->l≠d
def RdI (a l P0:Addr) (as:List Addr) (i:Nat) (σ:St) (H:Hp):Prop:=(∃f,σ=jR a f)/\H l=some (.lst (as.map V.ref))/\aQ H P0 qL LS/\∀(j:Nat) b,i <= j->as[j]?=some b->∃x y:Int,H b=some (.lst [.int x,.int y])
theorem RdI.fin {a l d P0:Addr}{as:List Addr}{i:Nat}{σ aK:St}{He:Hp} (h:RdI a l P0 as i σ H) (nd:as.Nodup) (hla:l∉ as) (hdi:as[i]?=some d) (hK:Kd d H He) (K3:K0 He H') (hT:aQ H' P0 qL LS) (hs:∃f,aK=jR a f):RdI a l P0 as (i + 1) aK H':=by
 refine⟨hs,K3.lst (hK _ _ h.2.1 fun z=>hla (z ▸ ZQ hdi)),hT,fun j b hj e=>?_⟩
 have hbd:b≠d:=fun z=>by
  subst z;obtain⟨hj2,ej⟩:=Z8.mp e;obtain⟨jr,ei⟩:=Z8.mp hdi;exact(List.pairwise_iff_getElem.mp nd) i j jr hj2 qe (by rw[ei,ej])
 obtain⟨x5,y5,e5⟩:=h.2.2.2 j b qe e;exact⟨x5,y5,K3.lst (hK _ _ e5 hbd)⟩
def LpI (a d:Addr) (z:Ad) (y:Dt) (sm lb:Addr) (f:Nat->Option V) (He:Hp) (i:Nat) (σ:St) (H:Hp):Prop:=(∃gq gp,σ=iD a d z (some (.ref sm)) gq gp (f 17) (f 18) (f 19))/\aB He H/\H sm=some (.lst (Af (EV y ((BD y.due y.ns y.bs).take i))))/\H lb=some (.lst (Af (BD y.due y.ns y.bs)))
theorem LpI.go {a d sm lb:Addr}{z:Ad}{y:Dt}{f:Nat->Option V}{He H4:Hp}{j n:Nat}{σ:St}{gq gp:Option V} (h:LpI a d z y sm lb f He j σ H) (hn:(BD y.due y.ns y.bs)[j]?=some n) (s:aB H H4) (hL:Dm y.tab y.due y.aD y.ik y.gL n=true):LpI a d z y sm lb f He (j + 1) (iD a d z (some (.ref sm)) gq gp (f 17) (f 18) (f 19)) H4:=by
 refine⟨⟨_,_,rfl⟩,h.2.1.trans s,?_,s _ _ h.2.2.2⟩;have et:=PySem.take_succ_filter (fun n=>!Dm y.tab y.due y.aD y.ik y.gL n) _ j n hn
 have e2:EV y ((BD y.due y.ns y.bs).take (j + 1))=EV y ((BD y.due y.ns y.bs).take j):=by
  unfold EV;rw[et,hL];exact Zt _
 rw[e2];exact s _ _ h.2.2.1
theorem LpI.put {a d sm lb:Addr}{z:Ad}{y:Dt}{f:Nat->Option V}{He H4:Hp}{j n:Nat}{σ:St}{gq gp:Option V} (h:LpI a d z y sm lb f He j σ H) (hsm:He sm=none) (nlb:sm≠lb) (hn:(BD y.due y.ns y.bs)[j]?=some n) (s:aB H H4) (hL:Dm y.tab y.due y.aD y.ik y.gL n=false):LpI a d z y sm lb f He (j + 1) (iD a d z (some (.ref sm)) gq gp (f 17) (f 18) (f 19)) (upd H4 sm (.lst (Af (EV y ((BD y.due y.ns y.bs).take j))++[.int (n:Int)]))):=by
 have et:=PySem.take_succ_filter (fun n=>!Dm y.tab y.due y.aD y.ik y.gL n) _ j n hn;refine⟨⟨_,_,rfl⟩,fun b o e=>?_,?_,?_⟩
 ·rw[AF (AG e hsm)];exact s _ _ (h.2.1 _ _ e)
 ·rw[aA];unfold EV;rw[et,hL];unfold Af;rw[Zu];rfl
 ·rw[AF (Ne.symm nlb)];exact s _ _ h.2.2.2
section
variable {RC cM cU c P0:Addr}{ec:Nat->Addr}
theorem Ut {f0 kS:Addr}{kY:FuncData} (F:FunC K "law" "law" Do f0 fd c) (FT:aW K "_law_told" "_law_told" BU kS kY) (mT0:mg "_law_told" = some (.ref kS)) (bT0:Binds K kY ["_law_deed"] [])
  (hC:W.CodeHd base c P0) (hBu:base.BuiltinsAt mg P0) (B:Bl mg) (KO:NM P w K mg base C) (VO:Li P w K mg base C VC) (ET:Fw K EC) (RO:NO P w K mg base C RC) (M:NF mg ec) (EX:O1 K mg ec cM) (GW:FnS P w K mg base "_law_word" 1 ["_law_e"] (EK K ec)) (EPU:Lj K ec cM cU 7)
  (GRd:Fn P w K mg base "_law_rounds" 2 ["_law_script", "_law_most"] (spRounds K)) (GEd:Fn P w K mg base "_law_edition" 8 ["_law_dice", "_law_high"] (spEdL C EC)) (GT:Fn P w K mg base "_law_table_of" 2 ["_law_due"] spTable)
  (GRW:Fn P w K mg base "_law_rule_with" 6 ["_law_dice", "_law_kind", "_law_table"] (spRW C RC)) (GLB:Fn P w K mg base "_law_let_by" 2 ["_law_table", "_law_wants", "_law_fences"] spLetBy) (GB:Fn P w K mg base "_law_broken" 1 ["_law_table", "_law_wants", "_law_fences", "_law_number"] spBrok)
  (GLL:Fn P w K mg base "_law_led" 4 ["_law_edition_here", "_law_table", "_law_due", "_law_next_due", "_law_number"] (spLLed C EC)) (GEK:Mt P w K mg base EC "kind" 1 ["self"] (spEKind EC)) (GEO:Mt P w K mg base EC "other" 1 ["self"] (spEOther EC)) (GRs:Mt P w K mg base C "rest" 1 ["self"] (spRest C))
  (GFU:∃f fd,AY P w K mg base aO 9 f fd ["self", "rule", "other_rule"] (spFU C VC EC RC)/\AY P w K mg base (gk P w) 4 f fd ["self", "rule", "other_rule"] (spFUX C EC RC cU)/\HV K EC "first_unled" f/\Binds K fd ["self", "rule", "other_rule"] []) :
  AY P w K mg base aO 10 f0 fd ["_law_script"] (spLaw K P0):=by
 obtain⟨fRd,dRd,GRd,mRd,kRd,bRd⟩:=GRd.ex;obtain⟨fEd,dEd,GEd,mEd,kEd,bEd⟩:=GEd.ex;obtain⟨fT,dT,GT,mT,kT,bT⟩:=GT.ex;obtain⟨fRW,dRW,GRW,mRW,kRW,bRW⟩:=GRW.ex;obtain⟨fLB,dLB,GLB,mLB,kLB,bLB⟩:=GLB.ex;obtain⟨fB,dB,GB,mB,kB,bB⟩:=GB.ex;obtain⟨fLL,dLL,GLL,mLL,kLL,bLL⟩:=GLL.ex;obtain⟨fEK,dEK,GEK,mEK,bEK⟩:=GEK.ex;obtain⟨fEO,dEO,GEO,mEO,bEO⟩:=GEO.ex;obtain⟨fRs,dRs,GRs,mRs,bRs⟩:=GRs.ex;obtain⟨fFU,dFU,GFU,GFX,mFU,bFU⟩:=GFU;obtain⟨fVE,dVE,GVE,mVE,bVE⟩:=VO.eq;obtain⟨fI,dI,MI,GI,⟨gI,kbI⟩,ds,bI,vI⟩:=KO.make;obtain⟨fJ,dJ,MJ,GJ,⟨gJ,kbJ⟩,e1,e2,bJ,sJ1,sJ2⟩:=RO.make;obtain⟨fV,dV,MV,GV,bV⟩:=VO.make;have mC:=KO.cls;have mJ:=RO.cls;have mV:=VO.cls;have T:=KO.T;have VT:=VO.VT;have vne:=VO.ne;have vhm:=VO.eO.hm;clear KO RO;refine F.ok scLaw (fun vs H Q E h=>?_) (fun A outer s H vs Q E hr h=>?_)
 ·obtain⟨a,ns,rfl,_⟩:=h;rfl
 ·obtain⟨a,ns0,rfl,hS,h63,hTab,kend⟩:=h;have hu:=B6 hr;have hu64:=hr.units;have cN:aG 1 _:=hr.mono qc;have ff:aG 2 _:=hr.mono qc;have hr4:aG 4 _:=hr.mono qc;have hr5:aG 5 _:=hr.mono qc;have hr6:aG 6 _:=hr.mono qc;have hr7:aG 7 _:=hr.mono qc;have hr8:aG 8 _:=hr.mono qc;have nd:=scLaw.nd;have LC:QC (Bj aO P w K mg base JK "law" (defScope Do) f0 (.ref c) A outer s H E).gO c P0:=⟨rfl,hC,hBu⟩;have t1:=Up (H:=H) (E:=E) FT mT0 bT0 M EX GW LC hr ET mFU GFX bFU;have t2:=Ur (H:=H) (E:=E) FT mT0 bT0 M EX GW LC hr ET mFU GFX bFU
  refine⟨_,PSsw.h (Mq (TQ PassesOwn.never rfl (.mk (Ao (AM GRd ff rfl mRd kRd bRd .nil AN (AA (pv 0) (AA AJ AB))))) (AO (i:=1) nd rfl (Or.inl rfl))
    (ES (.mk (Cc (AM GEd hr8 rfl mEd kEd bEd .nil AN (AA (pv 1) (AA AJ AB))) (BG rfl (AQ (AO (i:=2) nd rfl (Or.inr rfl)) (AQ (AO (i:=3) nd rfl (Or.inl rfl)) (AQ (AO (i:=4) nd rfl (Or.inl rfl)) (AQ (AO (i:=5) nd rfl (Or.inl rfl)) Ax)))))))
    (ES (.mk (PO (i:=6) (j:=7) rfl nd rfl rfl qc rfl rfl (AA (AM GT ff rfl mT kT bT .nil AN (AA (pv 4) AB)) (AA (AM GT ff rfl mT kT bT .nil AN (AA (pv 5) AB)) AB)) qd))
    (ES (.mk (Cc (AM GRW hr6 rfl mRW kRW bRW .nil AN (AA (pv 1) (AA (Aj (pv 2) ET.cl mEK GEK cN bEK .nil AN) (AA (pv 6) AB)))) (BG rfl (AQ (AO (i:=8) nd rfl (Or.inr rfl)) (AQ (AO (i:=9) nd rfl (Or.inl rfl)) (AQ (AO (i:=10) nd rfl (Or.inl rfl)) Ax))))))
    (ES (.mk (Cc (AM GRW hr6 rfl mRW kRW bRW .nil AN (AA (pv 1) (AA (Aj (pv 2) ET.cl mEO GEO cN bEO .nil AN) (AA (pv 7) AB)))) (BG rfl (AQ (AO (i:=11) nd rfl (Or.inr rfl)) (AQ (AO (i:=12) nd rfl (Or.inl rfl)) (AQ (AO (i:=13) nd rfl (Or.inl rfl)) Ax))))))
    (Mq (.mk (Ag (i:=14) nd rfl (Or.inl rfl) (BC AB)))
    (ES (TQ PassesOwn.never rfl (.mk (Ao (AM GLB ff rfl mLB kLB bLB .nil AN (AA (pv 6) (AA (pv 9) (AA (pv 10) AB)))))) (AO (i:=15) nd rfl (Or.inl rfl))
     (Mq (.mk (Ag (i:=16) nd rfl (Or.inl rfl) (AM GLL hr4 rfl mLL kLL bLL .nil AN (AA (pv 2) (AA (pv 3) (AA (pv 4) (AA (pv 5) (AA (pv 15) AB))))))))
     (QG (.mk (An (PW.pt (CH (A5 (Bi K rfl rfl B.eO rfl B.tuple Bd (pv 16))) (Bk (CZ (NR (AM GB cN rfl mB kB bB .nil AN (AA (pv 7) (AA (pv 12) (AA (pv 13) (AA (pv 16) AB)))))))))) (AD (B3 (En PySem.F.plainAttrs_list PySem.F.slot_list_append PySem.F.type_list_append Cg (pv 14) (AA (pv 15) AB)))) AT)))))
    (ES (.mk (Ag (i:=17) nd rfl (Or.inl rfl) (Bp (pv 2) ET.cl mFU GFU hr bFU .nil AN (AA (pv 8) (AA (pv 11) AB)))))
    (ES (.mk (An (AS CI (MB (Ev (pv 17))) (CQ (Ps K rfl hu64) (pv 14) (BC AB) (AW _)) (AW _)) (AD Ah) AT))
    (ES (.mk (An (PW.pt (Ca (CZ (NR (pv 17))) (Bv (AS (Cr GVE hr4 bVE mVE vne vhm) (pv 17) (EY MV GV hr5 rfl mV bV .nil AN (AA (Aj (pv 2) ET.cl mEK GEK cN bEK .nil AN) (AA (Bc (A4 K rfl) (pv 14) AJ (fun _ _=>rfl)) AB))) (AW _))))) (AD Ah) AT))
    (ES (.mk (Ag (i:=18) nd rfl (Or.inr rfl) (EY MJ GJ hr5 rfl mJ bJ (show Vals [V.ref e1,V.ref e2] [Value.ref e1,Value.ref e2]from .cons rfl (.cons rfl .nil)) AN (AA (Fb MI GI hr7 rfl mC kbI (AA (AX Du (pv 4) (BC (AA (BB (AA Ae (AA AJ AB))) AB))) AB) (EZ (Aj (Aj (pv 2) ET.cl mEK GEK cN bEK .nil AN) T.cl mRs GRs cN bRs .nil AN) HX)) AB))))
    (ES (.mk (Ag (i:=19) nd rfl (Or.inl rfl) (BC (AA t1 AB))))
    (ES (.mk (B3 (En PySem.F.plainAttrs_list PySem.F.slot_list_append PySem.F.type_list_append Cg (pv 19) (AA t2 AB))))
    (QG (.mk (An (AS (Pt K rfl hu64) (pv 19) (AX Tu (BC (AA (BB (AA Ae (AA Ae AB))) AB)) AJ) (AW _)) (AD Ah) AT))))))))))))))))
   (QG (.mk (AR NQ)))),?_⟩
  refine⟨_,rfl,a,ns0,rfl,hS,h63,fun l as H1 s1 hl nd' hla h5 br=>?_⟩;refine⟨l,rfl,⟨_,aH.of hl⟩,BL (K:=K) (a:=l) (xs:=as.map V.ref) (RdI a l P0 as) ⟨⟨fun _=>none,rfl⟩,hl,aQ.same s1 hTab,fun j b _ e=>(br b (ZQ e)).2⟩ (fun i σ H2 _ e=>aH.of e.2.1) ?_ (fun σ H2 e=>by obtain⟨f,rfl⟩:=e.1;exact kend _)⟩;clear hS br hl s1 hTab kend h5;intro i v σ H2 hi I;rw[ZE]at hi;obtain⟨d,hdi,rfl⟩:=Z6.mp hi;obtain⟨f,rfl⟩:=I.1;refine⟨fun σ H'=>∃z y,σ=st1 a d z f/\Sy y/\E1 C EC P0 d z y H'/\Kd d H2 H',fun R hR=>?_,?_⟩
  ·obtain⟨x,y,hd⟩:=I.2.2.2 i d (Zy _) hdi;refine⟨_,rfl,d,x,y,rfl,hd,fun q p k o t u u2 rows ad r r2 tab Ha sX hq ED htab ah TN KA KB aq hrr2 D1 D2 ud u2d r0 r7 RO ar r0' r7' RO2 dj=>?_⟩;refine⟨q,_,rfl,aY.of hq,rfl,_,_,rfl,_,_,rfl,_,_,rfl,_,_,rfl,rfl,hR _ _ ⟨⟨p,k,o,t,u,u2,0,0,0,0,0,0,0,0,0,0,0,0,[],[]⟩,⟨Ai rows,Ai ad,r,r2,tab,[],[],[],[]⟩,rfl,⟨Fp RO (show rows.length <= 10 by omega),Fp RO2 (show ad.length <= 10 by omega),by show(Ai rows).length <= 7;rw[Az];omega,by show(Ai ad).length <= 7;rw[Az];omega,fun z=>absurd (ar _ (IZ rows ▸ z)) qb,fun z=>absurd (dj _ (IZ ad ▸ z)) qb,aq⟩,⟨aQ.aP hd sX I.2.2.1,sX.bS,ED,KA,KB,htab,TN,D1,D2⟩,fun b xs e hb=>sX.old _ _ e hb⟩⟩
  rintro σ Ha ⟨z,y,rfl,Y,E,Ka⟩;refine⟨fun σ H'=>∃z,σ=i5 a d z f/\E1 C EC P0 d z y H'/\Kd d H2 H'/\d9 H' z.own z.e z.m z.ms y.due/\d9 H' z.gl z.e2 z.m2 z.jX y.aD,fun R hR=>?_,?_⟩
  ·obtain⟨gM,hu1,dh⟩:=id E.d1;refine⟨_,rfl,z.u,gM,y.due,rfl,hu1,dh,Y.DO.len,Y.DO.lt,fun own e m ms Hb sb how he hm g6=>?_⟩;obtain⟨gL,hu2,di⟩:=E.d2.same sb;refine⟨_,rfl,z.u2,gL,y.aD,rfl,hu2,di,Y.iQ.len,Y.iQ.lt,fun gl e2' m2 jX Hc sc bc g7 hm2 hms2=>⟨_,_,rfl,?_⟩⟩;have E':=E.same (sb.trans sc);exact hR _ _ ⟨{ z with own:=own,e:=e,m:=m,ms:=ms,gl:=gl,e2:=e2',m2:=m2,jX:=jX },rfl,⟨E'.tb,E'.bS,E'.ed,E'.ka,E'.kb,E'.ht,E'.tn,E'.d1,E'.d2⟩,Ka.same (sb.trans sc),d9.same sc ⟨how,hm,g6⟩,⟨bc,hm2,hms2⟩⟩
  clear E Ka;rintro σ Ha ⟨z,rfl,E,Ka,L1,L2⟩;refine⟨fun σ H'=>∃z y,σ=st3 a d z f/\Sy y/\E3 C EC RC P0 d z y H'/\Kd d H2 H',fun R hR=>?_,?_⟩
  ·obtain⟨dx,dd,ob,hp,am⟩:=id E.ed;obtain⟨xa,ya,hd⟩:=E.bS;have h7:=Y.h7;refine⟨_,rfl,_,rfl,z.p,dx,_,rfl,hp,EM _ _ _,z.p,z.k,z.o,_,rfl,E.ed,_,rfl,d,z.k,z.own,z.e,z.m,xa,ya,z.ms,y.due,y.r,rfl,hd,E.ka,L1,NP hd L1.hm,qe,Y.DO.nd,fun q1 ru lw lf ns bs Hd sX1 hlw jq gH RU PW PF PN PB n6 hLL=>?_⟩;have E':=E.aP sX1;exact⟨q1,_,rfl,aY.of gH,rfl,_,_,rfl,_,_,rfl,_,_,rfl,rfl,hR _ _ ⟨{ z with ru:=ru,lw:=lw,lf:=lf },{ y with ns:=ns,bs:=bs },rfl,⟨Y.DO,Y.iQ,Y.h7,Y.h72,Y.nZ,Y.nZ2,Y.rr⟩,⟨⟨E'.tb,E'.bS,E'.ed,E'.ka,E'.kb,E'.ht,E'.tn,E'.d1,E'.d2⟩,L1.aP hd sX1,L2.aP hd sX1,RU,PW,PF,PN,PB,fun ll h=>Ne.symm (AG hd (hLL ll h))⟩,Ka.aP sX1⟩⟩
  clear E Ka L1 L2 Y;rintro σ Ha ⟨z,y,rfl,Y,E,Ka⟩;refine⟨fun σ H'=>∃z y,σ=iD a d z (f 14) (f 15) (f 16) (f 17) (f 18) (f 19)/\Sy y/\Wd C EC RC P0 z y H'/\Cz y.due y.ns/\Cz y.due y.bs/\Kd d H2 H',fun R hR=>?_,?_⟩
  ·obtain⟨dx,dd,ob,hp,am⟩:=id E.E.ed;obtain⟨xa,ya,hd⟩:=E.E.bS;have h7:=Y.h7;have h72:=Y.h72;refine⟨_,rfl,_,rfl,z.p,dx,_,rfl,hp,EM _ _ _,z.p,z.k,z.o,_,rfl,E.E.ed,_,rfl,d,z.o,z.gl,z.e2,z.m2,xa,ya,z.jX,y.aD,y.r2,rfl,hd,E.E.kb,E.l2,NP hd E.l2.hm,qe,Y.iQ.nd,fun q2 ro lw2 lf2 ik gL He sX2 hlw2 hlf2 hq2 RO PW2 PF2 PN2 PB2 n62 hLL2=>?_⟩;have E':=E.E.aP sX2;exact⟨q2,_,rfl,aY.of hq2,rfl,_,_,rfl,_,_,rfl,_,_,rfl,rfl,hR _ _ ⟨{ z with ro:=ro,lw2:=lw2,lf2:=lf2 },{ y with ik:=ik,gL:=gL },rfl,⟨Y.DO,Y.iQ,Y.h7,Y.h72,Y.nZ,Y.nZ2,Y.rr⟩,⟨E'.tb,⟨E'.ed,E'.tn,E'.ka,E'.kb,RO,Y.asc,Y.f7,by show y.due.length <= 8;omega,by show y.aD.length <= 8;omega,Y.DO.lt,Y.iQ.lt,Y.iQ.nd,PN2,PB2,fun x hx=>by obtain⟨q,hq,rfl⟩:=Zr.mp hx;exact(Y.DO.nm q hq).2.2⟩,E.ru.aP hd E.ll sX2,E'.ht,E'.d1,E'.d2,E.l1.aP hd sX2,E.l2.aP hd sX2,E.pw.aP hd sX2,E.pf.aP hd sX2,PW2,PF2⟩,E.pn,E.pb,Ka.aP sX2⟩⟩
  clear E Ka Y;rintro σ He ⟨z,y,rfl,Y,W,PN,PB,Ka⟩;have DO:=Y.DO;have iQ:=Y.iQ;have asc:=Y.asc;have f7:=Y.f7;have iw:=Y.h7;have hd7':=Y.h72;have nZ:=Y.nZ;have nZ2:=Y.nZ2;have aq:=Y.rr;have PN2:=W.er.pn;have PB2:=W.er.pb;clear Y;refine⟨(by show 0 <= sizeLine;decide),fun sm hsm=>?_⟩;have sf:=AC (aB.refl _) hsm (o:=HO.lst []);have hsf:=aA (H:=He) (a:=sm) (o:=HO.lst []);generalize upd He sm (HO.lst [])=Hf at sf hsf ⊢;refine⟨fun σ H'=>(∃gq gp,σ=iD a d z (some (.ref sm)) gq gp (f 17) (f 18) (f 19))/\aB He H'/\H' sm=some (.lst (Af (EV y (BD y.due y.ns y.bs)))),fun R hR=>?_,?_⟩
  ·have Wf:=W.same sf;refine⟨_,rfl,_,rfl,_,rfl,z.own,z.e,z.m,z.lw,z.lf,z.ms,y.due,y.ns,y.bs,rfl,Wf.l1,Wf.pw,Wf.pf,DO.nd,qe,PN,PB,fun lb Hg sg hlbn hlb=>?_⟩;have bf:=Iy y.due y.ns y.bs W.er.h8;have nlb:sm≠lb:=AG hsf hlbn;refine⟨lb,rfl,⟨_,aH.of hlb⟩,BL (K:=K) (a:=lb) (xs:=Af (BD y.due y.ns y.bs)) (LpI a d z y sm lb f He) ⟨⟨_,_,rfl⟩,sf.trans sg,sg _ _ hsf,hlb⟩ (fun i σ H3 _ e=>aH.of e.2.2.2) ?_ ?_⟩
   ·intro j v σ H3 hj I3;obtain⟨⟨gq,gp,rfl⟩,s3,b8,_⟩:=id I3;unfold Af at hj;rw[ZE]at hj;obtain⟨n,hn,rfl⟩:=Z6.mp hj;have hj8:=(Z8.mp hn).1;have hmk:=FN (HH (ZQ hn));have W3:=W.same s3
    have hul:(Af (EV y ((BD y.due y.ns y.bs).take j))).length <= 1000:=by
     rw[BE];have h1:(EV y ((BD y.due y.ns y.bs).take j)).length <= ((BD y.due y.ns y.bs).take j).length:=ZS _ _;have h2:((BD y.due y.ns y.bs).take j).length <= (BD y.due y.ns y.bs).length:=by rw[ZA];omega
     omega
    refine⟨_,rfl,_,rfl,_,rfl,_,rfl,_,rfl,z.p,z.k,z.o,z.t,z.u,z.u2,n,y.due,y.aD,y.r2,y.tab,rfl,W3.er.ed,W3.er.kb,W3.ht,W3.er.tn,W3.d1,W3.d2,qe,DO.lt,qe,iQ.lt,iQ.nd,qe,fun x q H4 hL s4 hq=>?_,fun hH H4 s4=>?_⟩
    ·exact⟨_,rfl,_,_,_,true,rfl,.tup hq,rfl,_,rfl,BX (BX ⟨_,rfl,.inl ⟨rfl,_,aH.of (s4 _ _ b8)⟩,_,rfl,sm,_,_,rfl,rfl,s4 _ _ b8,AZ hul,I3.put hsm nlb hn s4 (G2 hL)⟩)⟩
    ·refine⟨_,rfl,_,_,_,false,rfl,.int _,rfl,_,rfl,Aq ?_⟩;have W4:=W3.same s4;refine⟨_,rfl,_,rfl,_,rfl,_,rfl,z.gl,z.e2,z.m2,z.lw2,z.lf2,z.jX,y.aD,y.ik,y.gL,_,rfl,W4.l2,W4.pw2,W4.pf2,iQ.nd,qe,PN2,PB2,fun x H5 s5 hx=>?_⟩;have hb:=Ju (aD:=y.aD) (ns:=y.ik) (bs:=y.gL) hH;have s35:=s4.trans s5;refine⟨_,rfl,?_⟩;rw[Kb hx,←hb];cases eL:Dm y.tab y.due y.aD y.ik y.gL n with
     |false=>exact BX ⟨_,rfl,.inl ⟨rfl,_,aH.of (s35 _ _ b8)⟩,_,rfl,sm,_,_,rfl,rfl,s35 _ _ b8,AZ hul,I3.put hsm nlb hn s35 eL⟩
     |true=>exact Aq (I3.go hn s35 eL)
   ·rintro σ H3 ⟨⟨gq,gp,rfl⟩,s3,b8,_⟩;rw[BE,ZB]at b8;exact hR _ _ ⟨⟨_,_,rfl⟩,s3,b8⟩
  rintro σ Hg ⟨⟨gq,gp,rfl⟩,sg,jl⟩;have Wg:=W.same sg;have Kg:K0 He Hg:=K0.of sg;generalize hl0:BD y.due y.ns y.bs=ln at jl;have bf:=Iy y.due y.ns y.bs W.er.h8;rw[hl0]at bf;have hul:(EV y ln).length <= 256:=Nat.le_trans (ZS _ _) bf;clear sg W sf hsf hsm;refine⟨fun σ H'=>(∃xf,σ=iD a d z (some (.ref sm)) gq gp (some xf) (f 18) (f 19)/\HI VC z.k H' xf (EV y ln).head?)/\Wd C EC RC P0 z y H'/\K0 He H'/\H' sm=some (.lst (Af (EV y ln))),fun R hR=>?_,?_⟩
  ·obtain⟨dx,dd,ob,hp,am⟩:=id Wg.er.ed;refine⟨_,rfl,z.p,dx,_,rfl,hp,EM _ _ _,_,rfl,_,rfl,fr z y,rfl,Wg.er,Wg.ru,fun v H' kx hF=>?_⟩;have hF:HI VC z.k H' v ((BD y.due y.ns y.bs).find? fun n=>!Dm y.tab y.due y.aD y.ik y.gL n):=hF;rw[G3,hl0]at hF;exact hR _ _ ⟨⟨v,rfl,hF⟩,Wg.kx kx,Kg.trans kx.k0,kx.k0.lst jl⟩
  clear Wg Kg jl;rintro σ Hg ⟨⟨xf,rfl,hF⟩,Wg,Kg,jl⟩;refine⟨fun σ H'=>σ=iD a d z (some (.ref sm)) gq gp (some xf) (f 18) (f 19)/\aB Hg H',fun R hR=>?_,?_⟩
  ·refine⟨_,rfl,_,rfl,Nat.zero_le _,fun w hw=>?_⟩;have sw:=AC (aB.refl _) hw (o:=HO.lst []);refine⟨_,_,CW (sw _ _ jl) (Lc _),CW aA KQ,G0 _,G0 [],rfl,_,rfl,?_⟩;rw[Nv];cases gF:EV y ln with
   |nil =>
    rw[gF]at hF;have ex:xf=.aU:=hF;subst ex;exact Aq (hR _ _ ⟨rfl,sw⟩)
   |cons n r =>
    rw[gF]at hF;obtain⟨q,rfl,hV⟩:=hF;exact Aq (hR _ _ ⟨rfl,sw⟩)
  rintro σ Hh ⟨rfl,sh⟩
  have hF:HI VC z.k Hh xf (EV y ln).head?:=by
   revert hF;cases (EV y ln).head? with
   |none=>exact id
   |some n=>exact fun⟨q,e,h⟩=>⟨q,e,h.same sh⟩
  have Wg:=Wg.same sh;have Kg:=Kg.trans (K0.of sh);have jl:=sh _ _ jl;clear sh;refine⟨fun σ H'=>σ=iD a d z (some (.ref sm)) gq gp (some xf) (f 18) (f 19)/\aB Hh H',fun R hR=>?_,?_⟩
  ·cases gF:EV y ln with
   |nil =>
    rw[gF]at hF;have ex:xf=.aU:=hF;subst ex;exact⟨_,rfl,_,rfl,Aq (Aq (hR _ _ ⟨rfl,aB.refl _⟩))⟩
   |cons n r =>
    rw[gF]at hF jl;obtain⟨q,rfl,hV⟩:=hF;have hn:n∈EV y ln:=gF ▸ ZI ..;have hu:=HH (hl0 ▸ (mem_filter.mp hn).1);have hkn:=N1 hu;have h3:=Nat.and_le_right (n:=n) (m:=kn y.due);have h4:=TR DO.lt;have e40:(2:Nat) ^ 20 < 2 ^ 40:=by decide
    obtain⟨dx,dd,ob,hp,am⟩:=id Wg.er.ed;refine⟨_,rfl,_,rfl,BX ⟨_,rfl,_,rfl,z.p,dx,_,rfl,hp,EM _ _ _,z.p,z.k,z.o,_,rfl,Wg.er.ed,_,rfl,sm,_,0,.int (n:Int),rfl,rfl,aH.of jl,(show jg _ ((0:Nat):Int)=_ from B5 rfl),?_⟩⟩;intro vq dq hq jH az;have sN:=Bu (D:=VC) hq jH az;refine⟨vq,dq,z.k,y.due,y.r,n,rfl,aA,Wg.er.ka.same sN,qe,.inr qe,fun H4 s4 hV4=>⟨rfl,?_⟩⟩;have jA:=Bg sN hq s4;obtain⟨dq1,gH⟩:=id (hV.same jA);obtain⟨dq4,hq4⟩:=id hV4;refine⟨q,dq1,_,vq,dq4,_,rfl,rfl,gH,hq4,q,.ref vq,z.k,n,y.due,y.r,rfl,hV.same jA,Wg.er.ka.same jA,asc,.inr ⟨vq,z.k,n,y.due,y.r,rfl,hV4,Wg.er.ka.same jA,asc,fun H5 s5=>⟨_,rfl,_,rfl,_,rfl,?_⟩⟩⟩;rw[ZL (show(y.due=y.due/\y.r=y.r)/\n=n from⟨⟨rfl,rfl⟩,rfl⟩)];exact Aq (hR _ _ ⟨rfl,jA.trans s5⟩)
  rintro σ Hi ⟨rfl,si⟩;have Wg:=Wg.same si;have Kg:=Kg.trans (K0.of si);clear si jl hF;have DZ:=Us DO iw nZ;have ascZ:iu (y.due++iA):=fun p hp=>(DZ.nm p hp).2.1;have lnZ:(y.due++iA).length=y.due.length + 1:=ZH;refine⟨fun σ H'=>(∃sr kz,σ=iD a d z (some (.ref sm)) gq gp (some xf) (some (.ref sr)) (f 19)/\cV RC H' sr kz (y.due++iA) [] []/\aF C H' kz (y.due++iA) y.r)/\Wd C EC RC P0 z y H'/\K0 He H',fun R hR=>?_,?_⟩
  ·obtain⟨bs,ao,ap⟩:=id Wg.d1;refine⟨_,rfl,gc,fun z1 hz1=>⟨jS,fun z2 jE=>?_⟩⟩;have q1:=AC (aB.refl _) hz1 (o:=HO.tup [.str "ZZ", .int 1]);have q2:=AC (aB.refl _) jE (o:=HO.lst [.ref z1]);have g1:=q2 _ _ (aA (H:=Hi) (a:=z1) (o:=HO.tup [.str "ZZ", .int 1]));have g2:=aA (H:=upd Hi z1 (HO.tup [.str "ZZ", .int 1])) (a:=z2) (o:=HO.lst [.ref z1]);have q12:=q1.trans q2;generalize upd (upd Hi z1 (HO.tup [.str "ZZ", .int 1])) z2 (HO.lst [.ref z1])=H4 at q12 g1 g2 ⊢;have hub4:=q12 _ _ ao;have hbs4:=aE.same q12 ap;have kK:bs.length=y.due.length:=by rw[ap.length];unfold C0;rw[AH]
   refine⟨z.u,z2,_,_,rfl,rfl,hub4,g2,Nat.le_of_lt (AZ (by rw[AH];show bs.length + 1 <= 1000;omega)),fun z3 hz3=>?_⟩;have q3:=AC (aB.refl _) hz3 (o:=HO.lst (bs.map V.ref++[.ref z1]));have g3:(upd H4 z3 (HO.lst (bs.map V.ref++[.ref z1]))) z3=some (.lst ((bs++[z1]).map V.ref)):=by rw[aA,Zu];rfl
   have jF:aE (upd H4 z3 (HO.lst (bs.map V.ref++[.ref z1]))) (bs++[z1]) (C0 (y.due++iA)):=by
    have:=Gr (p:=(V.str "ZZ", V.int 1)) q3 hbs4 (q3 _ _ g1);unfold C0 at this ⊢;rw[Zu];exact this
   have q123:=q12.trans q3;generalize upd H4 z3 (HO.lst (bs.map V.ref++[.ref z1]))=H5 at g3 jF q123 ⊢;clear q1 q2 q3 q12 hub4 hbs4 g1 g2 hz1 jE hz3;have W5:=Wg.same q123;obtain⟨dx,dd,ob,hp,am⟩:=id W5.er.ed;obtain⟨dk,e1',e2',hk⟩:=W5.er.ka.ins;refine⟨_,rfl,z.p,dx,_,rfl,hp,EM _ _ _,z.p,z.k,z.o,_,rfl,W5.er.ed,z.k,dk,_,rfl,hk,(Br _ _ _),z.k,y.due,y.r,rfl,W5.er.ka,?_⟩;intro kz dz hkz hdz hnz;have sN:=Bu (D:=C) hkz hdz hnz;have gZ:(DA (y.due++iA)).length=y.due.length + 1:=by unfold DA;rw[AH,ZH];rfl
   refine⟨kz,dz,z3,DA (y.due++iA),y.r,rfl,aA,⟨bs++[z1],sN _ _ g3,Lz (aE.same sN jF)⟩,qe,qe,RX DZ DZ.len,aq,fun H6 s6 KZ=>⟨rfl,?_⟩⟩;rw[Iz]at KZ;have s56:aB H5 H6:=Bg sN hkz s6;clear sN s6 hkz hdz hnz gZ g3 jF;intro sr dr hsr hdr az;have sN:=Bu (D:=RC) hsr hdr az;refine⟨sr,dr,kz,e1,e2,y.due++iA,y.r,[],[],rfl,aA,KZ.same sN,qe,DZ.nd,⟨[],.inr (sJ1 _),.nil⟩,⟨[],.inr (sJ2 _),.nil⟩,⟨Nat.zero_le _,fun p hp=>nomatch hp⟩,⟨Nat.zero_le _,fun p hp=>nomatch hp⟩,fun H7 s7 RUz hLL=>⟨rfl,?_⟩⟩;have s67:aB H6 H7:=Bg sN hsr s7;have s07:=q123.trans (s56.trans s67);exact hR _ _ ⟨⟨sr,kz,rfl,RUz,KZ.same s67⟩,Wg.same s07,Kg.trans (K0.of s07)⟩
  clear Wg Kg;rintro σ Hg ⟨⟨sr,kz,rfl,RUz,KZ⟩,Wg,Kg⟩
  have nez:¬ (y.due++iA=y.due/\y.r=y.r):=fun z=>by
   have:=congrArg List.length z.1;omega
  have nez2:¬ (y.due++iA=y.aD/\y.r=y.r2):=fun z=>nZ2 (by
   rw[←z.1,Zu]
   exact ZT _ (ZG.mpr rfl))
  refine⟨fun σ H'=>∃dn q,σ=iD a d z (some (.ref sm)) gq gp (some xf) (some (.ref sr)) (some (.ref dn))/\H' dn=some (.lst [.ref q])/\H' q=some (.tup [.str "refused", .str "Unlike"])/\K0 Hg H'/\aQ H' P0 qL LS/\∀o,He dn=some o->¬ ((∀ps,o≠ .gA ps)/\∀g,o≠ .ext g),fun R hR=>?_,?_⟩
  ·refine⟨Wg.tb,fun H5 sB T5=>?_⟩;have K5:=K0.sameB Wg.tb sB;have W5:=Wg.k0 K5 T5;obtain⟨dx,dd,ob,hp,am⟩:=id W5.er.ed;refine⟨_,rfl,z.p,dx,_,rfl,hp,EM _ _ _,_,rfl,_,rfl,⟨z.p,sr,z.ro,z.k,z.o,kz,z.o,y.due,y.aD,y.due++iA,y.aD,y.r,y.r2,y.r,y.r2,cY y.tab,y.ik,y.gL,[],[]⟩,rfl,⟨W5.er.ed,W5.er.ka,asc,W5.er.kb,f7,RUz.k0 K5,KZ.k0 K5,ascZ,W5.er.ru,W5.er.kb,f7,.inl nez⟩,fun e0 H6 s6 he0 hE=>N3 (e:=e0) EPU T5 s6 fun q H7 T7 K7 hq=>?_⟩;refine⟨jS,fun dn fk=>hR _ _ ⟨dn,q,rfl,aA,?_,?_,?_,fun o e h=>?_⟩⟩
   ·rw[AF (AG hq fk)];exact hq
   ·exact(K5.trans K7).trans (K0.of (AC (aB.refl _) fk))
   ·exact aQ.same (AC (aB.refl _) fk) T7
   ·have:=(Kg.trans (K5.trans K7)) _ _ e h.1 h.2;rw[fk]at this;cases this
  rintro σ Hh ⟨dn,q1,rfl,fk,gH,Kh,Th,nb⟩;have Wh:=Wg.k0 Kh Th;have RUz:=RUz.k0 Kh;have KZ:=KZ.k0 Kh;have Kh:=Kg.trans Kh;clear Kg Wg Th;refine⟨fun σ H'=>∃q2,σ=iD a d z (some (.ref sm)) gq gp (some xf) (some (.ref sr)) (some (.ref dn))/\H' dn=some (.lst [.ref q1,.ref q2])/\H' q1=some (.tup [.str "refused", .str "Unlike"])/\H' q2=some (.tup [.str "refused", .str "Unlike"])/\K0 He H'/\aQ H' P0 qL LS,fun R hR=>?_,?_⟩
  ·refine⟨_,rfl,.inl ⟨rfl,_,aH.of fk⟩,Wh.tb,fun H5 sB T5=>?_⟩;have K5:=K0.sameB Wh.tb sB;have W5:=Wh.k0 K5 T5;obtain⟨dx,dd,ob,hp,am⟩:=id W5.er.ed;refine⟨_,rfl,z.p,dx,_,rfl,hp,EM _ _ _,_,rfl,_,rfl,⟨z.p,z.ru,sr,z.k,z.o,z.k,kz,y.due,y.aD,y.due,y.due++iA,y.r,y.r2,y.r,y.r,cY y.tab,[],[],y.ns,y.bs⟩,rfl,⟨W5.er.ed,W5.er.ka,asc,W5.er.kb,f7,W5.ru,W5.er.ka,asc,RUz.k0 K5,KZ.k0 K5,ascZ,.inr nez2⟩,fun e0 H6 s6 he0 hE=>N3 (e:=e0) EPU T5 s6 fun q H7 T7 K7 hq=>?_⟩;have K57:=K5.trans K7;have d7:=K57.lst fk;have hq17:=K57.t _ _ gH
   have nd7:∀ {b:Addr}{xs:List V},H7 b=some (.tup xs)->b≠dn:=fun {b xs} e z=>by
    rw[z,d7]at e;cases e
   refine⟨dn,_,_,rfl,rfl,d7,AZ (by show 1 <= 1000;decide),hR _ _ ⟨q,rfl,aA,?_,?_,fun b o e h1 h2=>?_,aQ.put d7 T7⟩⟩
   ·rw[AF (nd7 hq17)];exact hq17
   ·rw[AF (nd7 hq)];exact hq
   ·rw[AF (show b≠dn from fun z=>nb o (by rw[←z];exact e) ⟨h1,h2⟩)];exact(Kh.trans K57) _ _ e h1 h2
  clear Wh RUz KZ Kh fk gH nb;rintro σ Hn ⟨q2,rfl,fk,gH,hq2,Kn,Tn⟩;refine⟨_,rfl,gc,fun z1 hz1=>⟨jS,fun z2 jE=>?_⟩⟩;have p1:=AC (aB.refl _) hz1 (o:=HO.tup [V.str "refused", V.str "Unlike"]);have p2:=AC p1 jE (o:=HO.lst [V.ref z1]);have g1:=AC (aB.refl _) jE (o:=HO.lst [V.ref z1]) _ _ (aA (H:=Hn) (a:=z1) (o:=HO.tup [V.str "refused", V.str "Unlike"]));have g2:=aA (H:=upd Hn z1 (HO.tup [V.str "refused", V.str "Unlike"])) (a:=z2) (o:=HO.lst [V.ref z1]);generalize upd (upd Hn z1 (HO.tup [V.str "refused", V.str "Unlike"])) z2 (HO.lst [V.ref z1])=Ho at p2 g1 g2 ⊢;refine⟨z2,2,_,rfl,rfl,g2,qc,qc,(by show 1 * 2 <= sizeLine;decide),fun z3 hz3=>?_⟩;have p3:=AC (aB.refl _) hz3 (o:=HO.lst (List.replicate (2:Int).toNat [V.ref z1]).flatten);have g3:(upd Ho z3 (HO.lst (List.replicate (2:Int).toNat [V.ref z1]).flatten)) z3=some (.lst ((List.replicate 2 z1).map V.ref)):=by rw[aA];rfl
  have g13:=p3 _ _ g1;have p23:=p2.trans p3;generalize upd Ho z3 (HO.lst (List.replicate (2:Int).toNat [V.ref z1]).flatten)=Hp' at p3 g3 g13 p23 ⊢
  have d1:=N5 (K:=K) (H:=Hp') (qs:=[q1,q2]) fun q hq=>by
   simp only[mem_cons,not_mem_nil,or_false]at hq;rcases hq with rfl |rfl
   ·exact p23 _ _ gH
   ·exact p23 _ _ hq2
  have d2:=N5 (K:=K) (H:=Hp') (qs:=List.replicate 2 z1) fun q hq=>by rw[List.eq_of_mem_replicate hq];exact g13
  refine⟨_,_,CW (p23 _ _ fk) d1,CW g3 d2,JA _,JA _,_,rfl,?_⟩;rw[show PyData.eqv (.list (List.replicate ([q1,q2]:List Addr).length jh)) (.list (List.replicate (List.replicate 2 z1).length jh))=true from RY];exact Aq (I.fin nd' hla hdi Ka (Kn.trans (K0.of p23)) (aQ.same p23 Tn) (Vu ..))
end
theorem Tc {dt:Addr}{tk:Tok}{kV doc pm ac ct:Value}{an:Option Addr}{n:Nat} (hd:K.lookup dt=some ⟨.type "tuple", none,.seq #[.str "" tk] n,#[]⟩) :
  Binds K (W.fnOf "__init__" "MarkError.__init__" (defArgs BM) (defBody BM) (defScope BM) (.ref dt) kV doc pm an ac ct) ["self", "words"] []:=by
 intro s us hK hl
 have fg:us.length=2:=by
  rw[Zt]at hl;exact hl
 match us,fg with
 | [u1,u2],_ =>
  have ho:=hK _ _ hd;intro M A E Q hq;unfold bindArgs;simp only[W.fnOf]
  repeat (first |with_reducible refine wpAny_seqItems ho rfl ?_ | (with_reducible refine Zx (wpAny_seqItems ho rfl ?_)) |wp_step)
  exact Eq.mp (congrArg (fun z=>Q z s) qd) hq
theorem FO {h:Heap}{N:Addr}{n:Str}{v:Value} (X:K.In h) (G:h.Ns N mg) (e:W.nsIn K N n=some (some v)):mg n=some v:=by
 obtain⟨o,es,ep,ho,hd,_,hf⟩:=G;unfold W.nsIn at e;split at e
 ·rename_i c d es' n' sl q;have:=X _ _ q;rw[ho]at this;cases this;cases hd;split at e
  ·rename_i he;cases e;rw[←hf];unfold nsFind findBy;rw[←Array.find?_toList,he];rfl
  ·split at e <;> cases e
 ·cases e
theorem S5 {kV doc pm ac ct:Value}{an:Option Addr} :
  HY K (W.fnOf "__init__" "Kind.__init__" (defArgs Bf) (defBody Bf) (defScope Bf) .none kV doc pm an ac ct) ["self", "rows", "rest"] ["rest"] gU3 gV3:=by
 refine⟨fun s us ws _ hl=>?_,fun {vs us zs ws} r rz=>?_⟩
 ·unfold gU3 at hl ⊢;split at hl
  ·exact .of_eq qd
  ·cases hl
 ·cases r with
  |nil=>exact .nil
  |cons r1 rr =>
   cases rr with
   |nil=>exact .nil
   |cons r2 rr =>
    cases rr with
    |cons _ _=>exact .nil
    |nil =>
     cases rz with
     |nil=>exact .nil
     |cons z1 zz =>
      cases zz with
      |nil=>exact .cons r1 (.cons r2 (.cons z1 .nil))
      |cons _ _=>exact .nil
theorem Uu {kd:Addr}{v doc pm ac ct:Value}{an:Option Addr} (ok:W.nsOkIn K kd=true) (e:W.nsIn K kd "rest" = some (some v)) :
  Binds K (W.fnOf "__init__" "Kind.__init__" (defArgs Bf) (defBody Bf) (defScope Bf) .none (.ref kd) doc pm an ac ct) ["self", "rows", "rest"] [v]:=by
 intro s us hK hl
 have fg:us.length=2:=by
  rw[ZH]at hl;exact Nat.succ.inj hl
 match us,fg with
 | [u1,u2],_ =>
  have G:s.heap.Ns kd (s.heap.nsMap kd):=.of_isNs (W.isNs_of_in hK ok);have hm:s.heap.nsMap kd "rest" = some v:=FO hK G e;intro M A E Q hq;unfold bindArgs;simp only[W.fnOf]
  repeat (first | (with_reducible refine wpAny_nsGet G ?_;rw[hm]) |wp_step)
  exact Eq.mp (congrArg (fun z=>Q z s) qd) hq
end Mk
end
section
namespace Mk
open PySem L2 MK PySem.W
noncomputable abbrev fO (x q:Str) (s:Stmt):=fnOf x q (defArgs s) (defBody s) (defScope s)
theorem F5 {K:Frag}{C:Addr}{T:String} (h:isClsIn K C=true) (h2:typeIn K (.ref C)=some (.type "type")) (e:subIn K (.type T) (.ref C)=some false):kitOne K (.type T) (.ref C)=some false:=by
 unfold kitOne;rw[Zq (by simp)];unfold kitCls;show(if _ then _ else _)=_;rw[Zp (by unfold isClsIn at h;rw[h,h2];simp)];exact e
theorem S6 {K:Frag}{C M:Addr}{f:Str} (h:(clsIn K C).map (fun cd=>(cd.mro,cd.hasDict))=some (E2 C M,true)) (n:findIn K (.ref C) f=some none) (s:findIn K (.ref C) "__setattr__" = some (some (.builtin "object.__setattr__"))):QF K C M f:=by
 obtain⟨cd,e,z⟩:=Z6.mp h;exact⟨⟨cd,e,congrArg Prod.fst z,congrArg Prod.snd z⟩,n,s⟩
noncomputable def MA (K:Frag) (c P:Addr):Bool:=match K.lookup c with
 |some ⟨.type "code", _,.fields vs,_⟩=>(match (vs[11]?:Option Value),vs.getD 18 Value.none,vs.getD 7 Value.none,vs.getD 9 Value.none,vs.getD 10 Value.none with
  |some (.ref p),.str _ _,.int _ _,.bool _,.int _ _=>p == P && !(c == P)
  |_,_,_,_,_=>false)
 |_=>false
theorem codeHd_of {K:Frag}{h:Heap}{c P:Addr} (X:K.In h) (q:MA K c P=true):CodeHd h c P:=by
 unfold MA at q;split at q
 ·rename_i d vs sl ho;split at q
  ·rename_i p f tf fl tg b tx tt h11 h18 h7 h9 iN;rw[Bool.and_eq_true,beq_iff_eq]at q;obtain⟨rfl,hn⟩:=q;refine⟨_,vs,f,tf,fl,tg,b,tx,tt,X _ _ ho,rfl,rfl,h11,?_,h18,h7,h9,iN,fun z=>by simp[z]at hn⟩;rw[Array.getD_eq_getD_getElem?,h11];rfl
  ·cases q
 ·cases q
section
variable {P:Program}{w:World}{K:Frag}{mg:SV}{base:Heap}{x q:Str}{st:Stmt}{k:Nat}{ps:List Str}{sp:Sp}{f C:Addr}{fd:FuncData}{p1 p2 p3 p4 p5:Str}
theorem fnT (F:aW K x x st f fd) (ok:AY P w K mg base aO k f fd ps sp) (m:mg x=some (.ref f)) (b:Binds K fd ps []):Fn P w K mg base x k ps sp:=⟨⟨f,fd,ok,m,F.kp,b⟩⟩
theorem mtT (a:findIn K (.ref C) x=some (some (.ref f))) (i:isFn K (.ref f)=true) (F:aW K x q st f fd) (ok:AY P w K mg base aO k f fd ps sp) (b:Binds K fd ps []):Mt P w K mg base C x k ps sp:=⟨⟨f,fd,ok,⟨a,i,F.kp⟩,b⟩⟩
noncomputable abbrev fB (x q:Str) (st:Stmt) (kV doc pm:Value) (an:Option Addr) (ac ct:Value) (us:List Value):Sem (List (Str×Value)):=bindArgs (fO x q st .none kV doc pm an ac ct) ⟨us,[]⟩
theorem fv (F:aW K x q st f fd) (h:∀a b c d e g u1,fB x q st a b c d e g [u1]=pure [(p1,u1)]):Binds K fd [p1] []:=F.binds fun _ _ _ _ _ _ us hl=>match us,hl with | [_],_=>h ..
theorem fH (F:aW K x q st f fd) (h:∀a b c d e g u1 u2,fB x q st a b c d e g [u1,u2]=pure [(p1,u1),(p2,u2)]):Binds K fd [p1,p2] []:=F.binds fun _ _ _ _ _ _ us hl=>match us,hl with | [_,_],_=>h ..
theorem k6 (F:aW K x q st f fd) (h:∀a b c d e g u1 u2 u3,fB x q st a b c d e g [u1,u2,u3]=pure [(p1,u1),(p2,u2),(p3,u3)]):Binds K fd [p1,p2,p3] []:=F.binds fun _ _ _ _ _ _ us hl=>match us,hl with | [_,_,_],_=>h ..
theorem bi4 (F:aW K x q st f fd) (h:∀a b c d e g u1 u2 u3 u4,fB x q st a b c d e g [u1,u2,u3,u4]=pure [(p1,u1),(p2,u2),(p3,u3),(p4,u4)]):Binds K fd [p1,p2,p3,p4] []:=F.binds fun _ _ _ _ _ _ us hl=>match us,hl with | [_,_,_,_],_=>h ..
theorem bi5 (F:aW K x q st f fd) (h:∀a b c d e g u1 u2 u3 u4 u5,fB x q st a b c d e g [u1,u2,u3,u4,u5]=pure [(p1,u1),(p2,u2),(p3,u3),(p4,u4),(p5,u5)]):Binds K fd [p1,p2,p3,p4,p5] []:=F.binds fun _ _ _ _ _ _ us hl=>match us,hl with | [_,_,_,_,_],_=>h ..
end
def DG (K:Frag) (x:Str) (st:Stmt):Prop:=∃f fd,nsIn K mainGlobals x=some (some (.ref f))/\aW K x x st f fd
def DM (K:Frag) (C:Addr) (x q:Str) (st:Stmt):Prop:=∃f fd,findIn K (.ref C) x=some (some (.ref f))/\isFn K (.ref f)=true/\(∃o,K.lookup f=some o/\o.cls=.type "function")/\aW K x q st f fd
structure CF (K:Frag) (C:Addr):Prop where
 pg:plainGet K C Str.empty=true
 hd:hasDictIn K C=true
 po:plainOver K C=true
 sa:findIn K (.ref C) "__setattr__" = some (some (.builtin "object.__setattr__"))
 mz:makesIn K C=true
 kc:keepIn K (.ref C)=true
 qa:findIn K (.ref C) "__class__" = some (some (.builtin "object.__class__"))
 qm:mroIn K C (.type "object")=some true
 ql:isClsIn K C=true
 qy:typeIn K (.ref C)=some (.type "type")
 qs:subIn K (.type "list") (.ref C)=some false
 qi:subIn K (.type "int") (.ref C)=some false
 qt:subIn K (.type "tuple") (.ref C)=some false
 ne:findIn K (.ref C) "__ne__" = some (some (.builtin "object.__ne__"))
structure XF (K:Frag) (ec:Nat->Addr) (C:Addr) (j:Nat):Prop where
 cx:L2.BJ K C=true
 ga:findIn K (.ref C) "__getattribute__" = some (some (.builtin "BaseException.__getattribute__"))
 gr:findIn K (.ref C) "__getattr__" = some none
 gb:mroIn K C (.type "BaseException")=some true
 kc:(clsIn K C).isSome=true
 ka:findIn K (.ref C) "__class__" = some (some (.builtin "object.__class__"))
 km:mroIn K C (.type "object")=some true
 kt:((List.range 11).all fun i=>i == j ||decide (kitOne K (.ref C) (.ref (ec i))=some false))=true
 tv:kitOne K (.ref C) (.type "ValueError")=some true
 ke:keepIn K (.ref C)=true
theorem XF.at {K:Frag}{ec:Nat->Addr}{C:Addr}{j:Nat} (F:XF K ec C j) (hj:j < 11) (e:C=ec j) (qn:specialIn K (.builtin "object.__class__") "__get__" = some (some (.builtin "getset_descriptor.__get__"))) (qt:takesIn K (.builtin "object.__class__")=some true):Qr K ec C j:=by
 refine⟨hj,⟨⟨F.ga,F.gr,F.gb⟩,F.kc,F.ka,qn,qt,F.km⟩,fun i hi=>?_,F.tv⟩;have h:=List.all_eq_true.mp F.kt i (mem_range.mpr hi);rw[Bool.or_eq_true]at h;rcases h with z |z
 ·rw[eq_of_beq z,e,ZL rfl];exact Fq K _
 ·by_cases q:i=j
  ·rw[q,e,ZL rfl];exact Fq K _
  ·rw[ZO q];exact ZV z
structure XP (K:Frag) (ec:Nat->Addr) (cM C f:Addr) (j:Nat):Prop where
 F:XF K ec C j
 n:((List.range 4).all fun i=>!(D0 K C).contains (.ref (ec i)))=true
 m:(D0 K C).contains (.ref cM)=true
 i:findIn K (.ref C) "__init__" = some (some (.ref f))
theorem XP.pl {K:Frag}{ec:Nat->Addr}{cM C f:Addr}{j:Nat} (F:XP K ec cM C f j) (hj:j < 11) (e:C=ec j) (qn:specialIn K (.builtin "object.__class__") "__get__" = some (some (.builtin "getset_descriptor.__get__"))) (qt:takesIn K (.builtin "object.__class__")=some true):Lj K ec cM C j:=by
 have h:∀i,i < 4->(D0 K C).contains (.ref (ec i))=false:=fun i hi=>by
  have:=List.all_eq_true.mp F.n i (mem_range.mpr hi);rw[Bool.not_eq_true']at this;exact this
 exact⟨F.F.at hj e qn qt,F.F.cx,h 0 qc,h 1 qc,h 2 qc,h 3 qc,F.m⟩
structure XL (K:Frag) (ec:Nat->Addr) (cM C:Addr) (j:Nat) (fld:Str):Prop where
 F:XF K ec C j
 n:((List.range j).all fun i=>!(D0 K C).contains (.ref (ec i)))=true
 m:(D0 K C).contains (.ref (ec j))=true
 gh:hasDictIn K C=true
 gn:findIn K (.ref C) fld=some none
 gs:findIn K (.ref C) "__setattr__" = some (some (.builtin "object.__setattr__"))
 s:(clsIn K C).map (fun cd=>(cd.mro,cd.hasDict))=some (E2 C cM,true)
theorem S9 {K:Frag}{f:Addr}{fd:FuncData} (F:aW K "__init__" "Rule.__init__" Ci f fd):HY K fd ["self", "kind", "needs", "bars"] ["needs", "bars"] gU4 gV4:=by
 obtain⟨oc,od,kV,doc,pm,an,ac,ct,fZ,rfl,_⟩:=F.ex;refine⟨fun s us ws _ hl=>?_,fun {vs us zs ws} r rz=>?_⟩
 ·unfold gU4 at hl ⊢;split at hl
  ·exact .of_eq qd
  ·cases hl
 ·cases r with
  |nil=>exact .nil
  |cons r1 rr =>
   cases rr with
   |nil=>exact .nil
   |cons r2 rr =>
    cases rr with
    |cons _ _=>exact .nil
    |nil =>
     cases rz with
     |nil=>exact .nil
     |cons z1 zz =>
      cases zz with
      |nil=>exact .nil
      |cons z2 zz =>
       cases zz with
       |nil=>exact .cons r1 (.cons r2 (.cons z1 (.cons z2 .nil)))
       |cons _ _=>exact .nil
theorem Uv {K:Frag}{kd:Addr}{v1 v2 doc pm ac ct:Value}{an:Option Addr} (ok:nsOkIn K kd=true) (e1:nsIn K kd "needs" = some (some v1)) (e2:nsIn K kd "bars" = some (some v2)) :
  Binds K (fO "__init__" "Rule.__init__" Ci .none (.ref kd) doc pm an ac ct) ["self", "kind", "needs", "bars"] [v1,v2]:=by
 intro s us hK hl
 have fg:us.length=2:=by
  rw[ZH]at hl;exact Nat.succ.inj (Nat.succ.inj hl)
 match us,fg with
 | [u1,u2],_ =>
  have G:s.heap.Ns kd (s.heap.nsMap kd):=.of_isNs (isNs_of_in hK ok);have hm1:s.heap.nsMap kd "needs" = some v1:=FO hK G e1;have hm2:s.heap.nsMap kd "bars" = some v2:=FO hK G e2;intro M A E Q hq;unfold bindArgs;simp only[fnOf]
  repeat (first | (with_reducible refine wpAny_nsGet G ?_;first |rw[hm1] |rw[hm2]) |wp_step)
  exact Eq.mp (congrArg (fun z=>Q z s) qd) hq
theorem all_mk {l:OpenLaw}{w:World}{K:Frag}{h:Heap}{mg:SV}{fz C VC EC RC aR kd dt cM c P0 e0 e1 e2 e3 e4 e5 e6 e7 e8 e9 jw fin fei fla:Addr} (X:K.In h) (G:h.Ns mainGlobals mg) (hfa:mg "law" = some (.ref fz))
  {ocla kVla dcla pmla ctla ocin dcin pmin cdin ctin kVei dcei pmei cdei ctei ocK:Value}{odla anla odin anin odei anei odR odK:Option Addr}{slla slin slei slK slR:Array (Option Value)}{tG tM tL tLi tB t1 t2 t3 t4 tE:Tok}{nRR epK nE:Nat}{esK:Array DictEntry}{fri k2 t5 t6:Addr}{ocri dcri pmri cdri ctri ocK2:Value}{odri anri odK2 odT5 odT6:Option Addr}{slri slK2 slT5 slT6:Array (Option Value)}{epK2 nT5 nT6:Nat}{esK2:Array DictEntry}
  (aC:nsIn K mainGlobals "Kind" = some (some (.ref C)))
  (aVC:nsIn K mainGlobals "Value" = some (some (.ref VC)))
  (aEC:nsIn K mainGlobals "Edition" = some (some (.ref EC)))
  (aRC:nsIn K mainGlobals "Rule" = some (some (.ref RC)))
  (aM:nsIn K mainGlobals "MarkError" = some (some (.ref cM)))
  (aX0:nsIn K mainGlobals "BadRows" = some (some (.ref e0)))
  (aX1:nsIn K mainGlobals "BadRest" = some (some (.ref e1)))
  (aX2:nsIn K mainGlobals "BadText" = some (some (.ref e2)))
  (aX3:nsIn K mainGlobals "Unled" = some (some (.ref e3)))
  (aX4:nsIn K mainGlobals "BadRule" = some (some (.ref e4)))
  (aX5:nsIn K mainGlobals "BadName" = some (some (.ref e5)))
  (aX6:nsIn K mainGlobals "BadNumber" = some (some (.ref e6)))
  (aX7:nsIn K mainGlobals "Unlike" = some (some (.ref e7)))
  (aX8:nsIn K mainGlobals "BadPairs" = some (some (.ref e8)))
  (aX9:nsIn K mainGlobals "Never" = some (some (.ref e9)))
  (aX10:nsIn K mainGlobals "Nothing" = some (some (.ref jw)))
  (z_VE:nsIn K mainGlobals "ValueError" = some none)
  (hwh:DG K "is_whole" ID)
  (hnm:DG K "is_name" KG)
  (huo:DG K "union_of" IE)
  (hnx:DG K "next_mark" Gc)
  (hoo:DG K "is_one_of" IF)
  (hno:DG K "is_names_of" E5)
  (hth:DG K "thing_number" Dc)
  (hro:DG K "row_number" E6)
  (hnb:DG K "numbered" Gd)
  (hfi:DG K "first_names" D4)
  (him:DG K "is_mark" KH)
  (hmR:DM K C "rows" "Kind.rows" Ge)
  (hmK:DM K C "known" "Kind.known" E8)
  (hmT:DM K C "rest" "Kind.rest" Gf)
  (hmM:DM K C "marks" "Kind.marks" E7)
  (hmE:DM K C "__eq__" "Kind.__eq__" KJ)
  (hlc:DG K "_law_cell" IM)
  (hld:DG K "_law_drawn" Gj)
  (hlr:DG K "_law_roll" IN)
  (hls:DG K "_law_rounds" FE)
  (hll:DG K "_law_lines" CN)
  (hxn:DG K "is_number" Gg)
  (hxr:DG K "rest_of" KK)
  (hxi:DM K VC "__init__" "Value.__init__" E9)
  (hxN:DM K VC "number" "Value.number" Dd)
  (hxK:DM K VC "kind" "Value.kind" FA)
  (hxE:DM K VC "__eq__" "Value.__eq__" IG)
  (hmN:DM K C "number" "Kind.number" D5)
  (hmb:DG K "mark_bits" Gb)
  (huq:DG K "unions_of" Ga)
  (hlb:DG K "_law_bits_of" FF)
  (hlu:DG K "_law_rule_of" FH)
  (hlt:DG K "_law_table_of" D8)
  (hxM:DM K VC "marks" "Value.marks" D6)
  (hxR:DM K VC "rest" "Value.rest" FB)
  (hvo:DG K "value_of" IH)
  (hmd:DG K "made" QM)
  (heE:DG K "is_entry" II)
  (heT:DG K "table_of" IJ)
  (hek:DM K EC "kind" "Edition.kind" Df)
  (heo:DM K EC "other" "Edition.other" DD)
  (hrp:DG K "is_pair" KL)
  (hrq:DG K "pairs_of" IK)
  (hrf:DM K RC "first_fault" "Rule.first_fault" Cd)
  (hrk:DM K RC "kind" "Rule.kind" Gh)
  (hrc:DM K RC "count" "Rule.count" FD)
  (hrn:DM K RC "nth" "Rule.nth" IL)
  (hrO:DM K RC "own_number" "Rule.own_number" Ct)
  (hrF:DM K RC "fault" "Rule.fault" FC)
  (hrL:DM K RC "lets" "Rule.lets" Gi)
  (hlm:DG K "_law_made" IP)
  (hlg:DG K "_law_goal" IQ)
  (hlk:DG K "_law_led" KM)
  (hlB:DG K "_law_broken" FI)
  (hlY:DG K "_law_let_by" Gk)
  (heI:DM K EC "__init__" "Edition.__init__" De)
  (heN:DM K EC "names_for" "Edition.names_for" Bq)
  (heL:DM K EC "led" "Edition.led" C5)
  (heJ:DM K EC "is_led_to_let" "Edition.is_led_to_let" BN)
  (heU:DM K EC "first_unled" "Edition.first_unled" BO)
  (hui:DM K e3 "__init__" "Unled.__init__" E4)
  (hle:DG K "_law_edition" D9)
  (hlW:DG K "_law_rule_with" Dg)
  (hlw:DG K "_law_word" D7)
  (hlo:DG K "_law_told" BU)
  (ain:findIn K (.ref C) "__init__" = some (some (.ref fin)))
  (iin:isFn K (.ref fin)=true)
  (lin:K.lookup fin=some ⟨ocin,odin,.func (fO "__init__" "Kind.__init__" Bf .none (.ref kd) dcin pmin anin cdin ctin),slin⟩)
  (cin:codeIn K cdin "Kind.__init__" = true)
  (kin:keepIn K (.ref fin)=true)
  (ala:nsIn K mainGlobals "law" = some (some (.ref fla)))
  (lla:K.lookup fla=some ⟨ocla,odla,.func (fO "law" "law" Do .none kVla dcla pmla anla (.ref c) ctla),slla⟩)
  (cla:codeIn K (.ref c) "law" = true)
  (kla:keepIn K (.ref fla)=true)
  (aei:findIn K (.ref cM) "__init__" = some (some (.ref fei)))
  (iei:isFn K (.ref fei)=true)
  (lei:K.lookup fei=some ⟨(.type "function"),odei,.func (fO "__init__" "MarkError.__init__" BM (.ref dt) kVei dcei pmei anei cdei ctei),slei⟩)
  (cei:codeIn K cdei "MarkError.__init__" = true)
  (kei:keepIn K (.ref fei)=true)
  (kdl:K.lookup kd=some ⟨ocK,odK,.dict esK epK,slK⟩)
  (kde:(esK.all fun e=>match e.key with | .str _ _=>true |_=>false)=true)
  (kdr:nsIn K kd "rest" = some (some (.str "bar" tB)))
  (dtl:K.lookup dt=some ⟨.type "tuple", none,.seq #[.str "" tE] nE,#[]⟩)
  (vG:nsIn K mainGlobals "GREATEST" = some (some (.int 1048575 tG)))
  (vM:nsIn K mainGlobals "MOST_ROWS" = some (some (.int 10 tM)))
  (vL:nsIn K mainGlobals "LONGEST_NAME" = some (some (.int 6 tL)))
  (vLi:nsIn K mainGlobals "LIMIT" = some (some (.int 1099511627776 tLi)))
  (vR:nsIn K mainGlobals "RULES" = some (some (.ref aR)))
  (qn:specialIn K (.builtin "object.__class__") "__get__" = some (some (.builtin "getset_descriptor.__get__")))
  (qt:takesIn K (.builtin "object.__class__")=some true)
  (fC:CF K C)
  (fVC:CF K VC)
  (fEC:CF K EC)
  (fRC:CF K RC)
  (nC_numbers:findIn K (.ref C) "numbers" = some none)
  (nC_firsts:findIn K (.ref C) "firsts" = some none)
  (nC_rule:findIn K (.ref C) "rule" = some none)
  (nVC_own_kind:findIn K (.ref VC) "own_kind" = some none)
  (nVC_bits:findIn K (.ref VC) "bits" = some none)
  (nEC_own_kind:findIn K (.ref EC) "own_kind" = some none)
  (nEC_second_kind:findIn K (.ref EC) "second_kind" = some none)
  (nEC_table:findIn K (.ref EC) "table" = some none)
  (nRC_own_kind:findIn K (.ref RC) "own_kind" = some none)
  (nRC_numbered_marks:findIn K (.ref RC) "numbered_marks" = some none)
  (nRC_needs:findIn K (.ref RC) "needs" = some none)
  (nRC_bars:findIn K (.ref RC) "bars" = some none)
  (nRC_let_numbers:findIn K (.ref RC) "let_numbers" = some none)
  (xm:L2.BJ K cM=true)
  (xc0:L2.BJ K e0=true)
  (xc1:L2.BJ K e1=true)
  (xc2:L2.BJ K e2=true)
  (xc3:L2.BJ K e3=true)
  (y7:XP K (fun i=>([e0,e1,e2,e3,e4,e5,e6,e7,e8,e9,jw]:List Addr).getD i 0) cM e7 fei 7)
  (y3:XL K (fun i=>([e0,e1,e2,e3,e4,e5,e6,e7,e8,e9,jw]:List Addr).getD i 0) cM e3 3 "name")
  (xmg:specialIn K (.ref cM) "__getattribute__" = some (some (.builtin "type.__getattribute__")))
  (xmr:readsIn K cM (.type "type")=true)
  (xmf:findCls K (.ref cM) (.type "type") "__init__" = some (.val (.ref fei)))
  (rL:K.lookup aR=some ⟨.type "tuple", odR,.seq #[.str "bar" t1,.str "drop" t2,.str "keep" t3,.str "leave" t4] nRR,slR⟩)
  (z_len:nsIn K mainGlobals "len" = some none)
  (z_isinstance:nsIn K mainGlobals "isinstance" = some none)
  (z_max:nsIn K mainGlobals "max" = some none)
  (z_min:nsIn K mainGlobals "min" = some none)
  (z_range:nsIn K mainGlobals "range" = some none)
  (z_list:nsIn K mainGlobals "list" = some none)
  (z_tuple:nsIn K mainGlobals "tuple" = some none)
  (z_sorted:nsIn K mainGlobals "sorted" = some none)
  (z_sum:nsIn K mainGlobals "sum" = some none)
  (z_all:nsIn K mainGlobals "all" = some none)
  (z_enumerate:nsIn K mainGlobals "enumerate" = some none)
  (z_int:nsIn K mainGlobals "int" = some none)
  (z_bool:nsIn K mainGlobals "bool" = some none)
  (z_str:nsIn K mainGlobals "str" = some none)
  (z_dict:nsIn K mainGlobals "dict" = some none)
  (ari:findIn K (.ref RC) "__init__" = some (some (.ref fri)))
  (iri:isFn K (.ref fri)=true)
  (lri:K.lookup fri=some ⟨ocri,odri,.func (fO "__init__" "Rule.__init__" Ci .none (.ref k2) dcri pmri anri cdri ctri),slri⟩)
  (cri:codeIn K cdri "Rule.__init__" = true)
  (kri:keepIn K (.ref fri)=true)
  (k2l:K.lookup k2=some ⟨ocK2,odK2,.dict esK2 epK2,slK2⟩)
  (k2e:(esK2.all fun e=>match e.key with | .str _ _=>true |_=>false)=true)
  (k2n:nsIn K k2 "needs" = some (some (.ref t5)))
  (k2b:nsIn K k2 "bars" = some (some (.ref t6)))
  (t5l:K.lookup t5=some ⟨.type "tuple", odT5,.seq #[] nT5,slT5⟩)
  (t6l:K.lookup t6=some ⟨.type "tuple", odT6,.seq #[] nT6,slT6⟩)
  : ∃fd:FuncData,(∀(s:Shared) (v:Value),BindsTo s fd ⟨[v],[]⟩ [("_law_script", v)])/\∀base:Heap,K.In base->base.Ns mainGlobals mg->CodeHd base c P0->base.BuiltinsAt mg P0->AY l.prog w K mg base aO 10 fz fd ["_law_script"] (spLaw K P0):=by
 have MG:∀ {x:Str}{v:Value},nsIn K mainGlobals x=some (some v)->mg x=some v:=fun h=>mg_of X G h;have MN:∀ {x:Str},nsIn K mainGlobals x=some none->mg x=none:=fun h=>mg_none_of X G h;have T:Dj K C:=⟨⟨fC.pg,fC.hd,fC.po,fC.sa⟩,nC_numbers,nC_firsts,nC_rule⟩;have VT:G7 K VC:=⟨⟨fVC.pg,fVC.hd,fVC.po,fVC.sa⟩,nVC_own_kind,nVC_bits⟩;have ET:Fw K EC:=⟨⟨fEC.pg,fEC.hd,fEC.po,fEC.sa⟩,nEC_own_kind,nEC_second_kind,nEC_table⟩;have RT:Gw K RC:=⟨⟨fRC.pg,fRC.hd,fRC.po,fRC.sa⟩,nRC_own_kind,nRC_numbered_marks,nRC_needs,nRC_bars,nRC_let_numbers⟩;have KI:KIsi K C:=⟨⟨fC.pg,fC.hd,fC.po,fC.sa⟩,fC.qa,qn,qt,fC.qm,F5 fC.ql fC.qy fC.qs⟩;have VI:KIsi K VC:=⟨⟨fVC.pg,fVC.hd,fVC.po,fVC.sa⟩,fVC.qa,qn,qt,fVC.qm,F5 fVC.ql fVC.qy fVC.qs⟩;have mCg:=MG aC;have mVg:=MG aVC;have hLi:=MG vLi;have vI:=F5 fVC.ql fVC.qy fVC.qi;have vT:=F5 fVC.ql fVC.qy fVC.qt;have qeC:=fC.ne;have qm:=fC.qm;have B:Bl mg:=⟨MN z_len,MN z_isinstance,MN z_max,MN z_min,MN z_range,MN z_list,MN z_tuple,MN z_sorted,MN z_sum,MN z_all,MN z_enumerate,MN z_int,MN z_bool,MN z_str⟩;have rT:∀H:Hp,aY K H aR (cA.map V.str):=fun H=>.inr ⟨_,_,_,rL,rfl,rfl,sl4,.cons ⟨_,rfl⟩ (.cons ⟨_,rfl⟩ (.cons ⟨_,rfl⟩ (.cons ⟨_,rfl⟩ .nil)))⟩
 have kdo:nsOkIn K kd=true:=by
  unfold nsOkIn;rw[kdl];exact kde
 have hG:=MG vG;have hM:=MG vM;have hL:=MG vL;have hR:=MG vR;have M:NF mg (fun i=>([e0,e1,e2,e3,e4,e5,e6,e7,e8,e9,jw]:List Addr).getD i 0):=⟨MG aX0,MG aX1,MG aX2,MG aX3,MG aX4,MG aX5,MG aX6,MG aX7,MG aX8,MG aX9,MG aX10,MN z_VE⟩;have EX:O1 K mg (fun i=>([e0,e1,e2,e3,e4,e5,e6,e7,e8,e9,jw]:List Addr).getD i 0) cM:=⟨MG aM,xm,xc0,xc1,xc2,xc3⟩;have EPU:=y7.pl qc rfl qn qt;have Fin:=fun_mk (st:=Bf) lin cin kin;have e:=hfa.symm.trans (MG ala);cases e;have Fla:FunC K "law" "law" Do fz (fO "law" "law" Do .none kVla dcla pmla anla (.ref c) ctla) c:=⟨⟨_,_,_,_,_,_,_,_,rfl,lla,cla⟩⟩;have Fei:FunD K "__init__" "MarkError.__init__" BM fei _:=⟨⟨_,_,_,_,_,_,_,_,_,_,rfl,lei,cei⟩⟩;obtain⟨fwh,dwh,awh,Fwh⟩:=hwh;have bwh:=fv (p1 := "thing") Fwh fun _ _ _ _ _ _ _=>rfl;obtain⟨fnm,dnm,anm,Fnm⟩:=hnm;have bnm:=fv (p1 := "thing") Fnm fun _ _ _ _ _ _ _=>rfl;obtain⟨fuo,duo,auo,Fuo⟩:=huo;have buo:=fv (p1 := "numbers") Fuo fun _ _ _ _ _ _ _=>rfl;obtain⟨fnx,dnx,anx,Fnx⟩:=hnx;have bnx:=fv (p1 := "numbers") Fnx fun _ _ _ _ _ _ _=>rfl;obtain⟨foo,doo,aoo,Foo⟩:=hoo;have boo:=fH (p1 := "thing") (p2 := "names") Foo fun _ _ _ _ _ _ _ _=>rfl;obtain⟨fno,dno,ano,Fno⟩:=hno;have bno:=fH (p1 := "parts") (p2 := "ahead") Fno fun _ _ _ _ _ _ _ _=>rfl;obtain⟨fth,dth,ath,Fth⟩:=hth;have bth:=fH (p1 := "thing") (p2 := "ahead") Fth fun _ _ _ _ _ _ _ _=>rfl;obtain⟨fro,dro,aro,Fro⟩:=hro;have bro:=fH (p1 := "row") (p2 := "ahead") Fro fun _ _ _ _ _ _ _ _=>rfl;obtain⟨fnb,dnb,anb,Fnb⟩:=hnb;have bnb:=fv (p1 := "rows") Fnb fun _ _ _ _ _ _ _=>rfl;obtain⟨ffi,dfi,afi,Ffi⟩:=hfi;have bfi:=fv (p1 := "numbers") Ffi fun _ _ _ _ _ _ _=>rfl;obtain⟨fim,dim,aim,Fim⟩:=him;have bim:=fv (p1 := "number") Fim fun _ _ _ _ _ _ _=>rfl;obtain⟨fmR,dmR,amR,imR,omR,FmR⟩:=hmR;have bmR:=fv (p1 := "self") FmR fun _ _ _ _ _ _ _=>rfl;obtain⟨fmK,dmK,amK,imK,omK,FmK⟩:=hmK;have bmK:=fv (p1 := "self") FmK fun _ _ _ _ _ _ _=>rfl;obtain⟨fmT,dmT,amT,imT,omT,FmT⟩:=hmT;have bmT:=fv (p1 := "self") FmT fun _ _ _ _ _ _ _=>rfl;obtain⟨fmM,dmM,amM,imM,omM,FmM⟩:=hmM;have bmM:=fv (p1 := "self") FmM fun _ _ _ _ _ _ _=>rfl;obtain⟨fmE,dmE,amE,imE,omE,FmE⟩:=hmE;have bmE:=fH (p1 := "self") (p2 := "other") FmE fun _ _ _ _ _ _ _ _=>rfl;obtain⟨flc,dlc,alc,Flc⟩:=hlc;have blc:=fH (p1 := "_law_script") (p2 := "_law_k") Flc fun _ _ _ _ _ _ _ _=>rfl;obtain⟨fld,dld,ald,Fld⟩:=hld;have bld:=fH (p1 := "_law_cell_here") (p2 := "_law_k") Fld fun _ _ _ _ _ _ _ _=>rfl;obtain⟨flr,dlr,alr,Flr⟩:=hlr;have blr:=fH (p1 := "_law_dice") (p2 := "_law_many") Flr fun _ _ _ _ _ _ _ _=>rfl;obtain⟨fls,dls,als,Fls⟩:=hls;have bls:=fH (p1 := "_law_script") (p2 := "_law_most") Fls fun _ _ _ _ _ _ _ _=>rfl;obtain⟨fll,dll,all,Fll⟩:=hll;have bll:=fH (p1 := "_law_dice") (p2 := "_law_most") Fll fun _ _ _ _ _ _ _ _=>rfl;obtain⟨fxn,dxn,axn,Fxn⟩:=hxn;have bxn:=fv (p1 := "thing") Fxn fun _ _ _ _ _ _ _=>rfl;obtain⟨fxr,dxr,axr,Fxr⟩:=hxr;have bxr:=fH (p1 := "kind") (p2 := "number") Fxr fun _ _ _ _ _ _ _ _=>rfl;obtain⟨fxi,dxi,axi,ixi,oxi,Fxi⟩:=hxi;have bxi:=k6 (p1 := "self") (p2 := "kind") (p3 := "number") Fxi fun _ _ _ _ _ _ _ _ _=>rfl;obtain⟨fxN,dxN,axN,jk,oxN,FxN⟩:=hxN;have bxN:=fv (p1 := "self") FxN fun _ _ _ _ _ _ _=>rfl;obtain⟨fxK,dxK,axK,ixK,oxK,FxK⟩:=hxK;have bxK:=fv (p1 := "self") FxK fun _ _ _ _ _ _ _=>rfl;obtain⟨fxE,dxE,axE,ixE,oxE,FxE⟩:=hxE;have bxE:=fH (p1 := "self") (p2 := "other") FxE fun _ _ _ _ _ _ _ _=>rfl;obtain⟨fmN,dmN,amN,imN,omN,FmN⟩:=hmN;have bmN:=fH (p1 := "self") (p2 := "name") FmN fun _ _ _ _ _ _ _ _=>rfl;obtain⟨fmb,dmb,amb,Fmb⟩:=hmb;have bmb:=fv (p1 := "kind") Fmb fun _ _ _ _ _ _ _=>rfl;obtain⟨fuq,duq,auq,Fuq⟩:=huq;have buq:=fv (p1 := "marks") Fuq fun _ _ _ _ _ _ _=>rfl;obtain⟨flb,dlb,alb,Flb⟩:=hlb;have blb:=fv (p1 := "_law_number") Flb fun _ _ _ _ _ _ _=>rfl;obtain⟨flu,dlu,alu,Flu⟩:=hlu;have blu:=fv (p1 := "_law_dice") Flu fun _ _ _ _ _ _ _=>rfl;obtain⟨jJ,dlt,alt,Flt⟩:=hlt;have blt:=fv (p1 := "_law_due") Flt fun _ _ _ _ _ _ _=>rfl;obtain⟨fxM,dxM,axM,ixM,oxM,FxM⟩:=hxM;have bxM:=fv (p1 := "self") FxM fun _ _ _ _ _ _ _=>rfl;obtain⟨fxR,dxR,axR,ixR,oxR,FxR⟩:=hxR;have bxR:=fv (p1 := "self") FxR fun _ _ _ _ _ _ _=>rfl;obtain⟨fvo,dvo,avo,Fvo⟩:=hvo;have bvo:=fH (p1 := "kind") (p2 := "names") Fvo fun _ _ _ _ _ _ _ _=>rfl;obtain⟨fmd,dmd,amd,Fmd⟩:=hmd;have bmd:=fH (p1 := "kind") (p2 := "number") Fmd fun _ _ _ _ _ _ _ _=>rfl;obtain⟨feE,deE,aeE,FeE⟩:=heE;have beE:=k6 (p1 := "thing") (p2 := "marks") (p3 := "names") FeE fun _ _ _ _ _ _ _ _ _=>rfl;obtain⟨feT,deT,aeT,FeT⟩:=heT;have beT:=k6 (p1 := "kind") (p2 := "other") (p3 := "pairs") FeT fun _ _ _ _ _ _ _ _ _=>rfl;obtain⟨fek,dek,aek,iek,oek,Fek⟩:=hek;have bek:=fv (p1 := "self") Fek fun _ _ _ _ _ _ _=>rfl;obtain⟨feo,deo,aeo,ieo,oeo,Feo⟩:=heo;have beo:=fv (p1 := "self") Feo fun _ _ _ _ _ _ _=>rfl;obtain⟨frp,drp,arp,Frp⟩:=hrp;have brp:=fH (p1 := "thing") (p2 := "marks") Frp fun _ _ _ _ _ _ _ _=>rfl;obtain⟨frq,drq,arq,Frq⟩:=hrq;have brq:=fH (p1 := "things") (p2 := "marks") Frq fun _ _ _ _ _ _ _ _=>rfl;obtain⟨g9,drf,arf,irf,orf,Frf⟩:=hrf;have brf:=fH (p1 := "self") (p2 := "number") Frf fun _ _ _ _ _ _ _ _=>rfl;obtain⟨frk,drk,ark,irk,ork,Frk⟩:=hrk;have brk:=fv (p1 := "self") Frk fun _ _ _ _ _ _ _=>rfl;obtain⟨frc,drc,arc,irc,orc,Frc⟩:=hrc;have brc:=fv (p1 := "self") Frc fun _ _ _ _ _ _ _=>rfl;obtain⟨frn,drn,arn,irn,orn,Frn⟩:=hrn;have brn:=fH (p1 := "self") (p2 := "number") Frn fun _ _ _ _ _ _ _ _=>rfl;obtain⟨frO,drO,arO,irO,orO,FrO⟩:=hrO;have brO:=fH (p1 := "self") (p2 := "value") FrO fun _ _ _ _ _ _ _ _=>rfl;obtain⟨frF,drF,arF,irF,orF,FrF⟩:=hrF;have brF:=fH (p1 := "self") (p2 := "value") FrF fun _ _ _ _ _ _ _ _=>rfl;obtain⟨frL,drL,arL,irL,orL,FrL⟩:=hrL;have brL:=fH (p1 := "self") (p2 := "value") FrL fun _ _ _ _ _ _ _ _=>rfl;obtain⟨flm,dlm,alm,Flm⟩:=hlm;have blm:=k6 (p1 := "_law_table") (p2 := "_law_way") (p3 := "_law_number") Flm fun _ _ _ _ _ _ _ _ _=>rfl;obtain⟨hJ,dlg,alg,Flg⟩:=hlg;have blg:=bi4 (p1 := "_law_table") (p2 := "_law_due") (p3 := "_law_next_due") (p4 := "_law_number") Flg fun _ _ _ _ _ _ _ _ _ _=>rfl;obtain⟨flk,dlk,alk,Flk⟩:=hlk;have blk:=bi5 (p1 := "_law_edition_here") (p2 := "_law_table") (p3 := "_law_due") (p4 := "_law_next_due") (p5 := "_law_number") Flk fun _ _ _ _ _ _ _ _ _ _ _=>rfl;obtain⟨flB,dlB,alB,FlB⟩:=hlB;have blB:=bi4 (p1 := "_law_table") (p2 := "_law_wants") (p3 := "_law_fences") (p4 := "_law_number") FlB fun _ _ _ _ _ _ _ _ _ _=>rfl;obtain⟨flY,dlY,alY,FlY⟩:=hlY;have blY:=k6 (p1 := "_law_table") (p2 := "_law_wants") (p3 := "_law_fences") FlY fun _ _ _ _ _ _ _ _ _=>rfl;obtain⟨feI,deI,aeI,ieI,oeI,FeI⟩:=heI;have beI:=bi4 (p1 := "self") (p2 := "kind") (p3 := "other") (p4 := "pairs") FeI fun _ _ _ _ _ _ _ _ _ _=>rfl;obtain⟨feN,deN,aeN,ieN,oeN,FeN⟩:=heN;have beN:=fH (p1 := "self") (p2 := "value") FeN fun _ _ _ _ _ _ _ _=>rfl;obtain⟨feL,deL,aeL,ieL,oeL,FeL⟩:=heL;have beL:=fH (p1 := "self") (p2 := "value") FeL fun _ _ _ _ _ _ _ _=>rfl;obtain⟨feJ,deJ,aeJ,ieJ,oeJ,FeJ⟩:=heJ;have beJ:=k6 (p1 := "self") (p2 := "value") (p3 := "other_rule") FeJ fun _ _ _ _ _ _ _ _ _=>rfl;obtain⟨feU,deU,aeU,ieU,oeU,FeU⟩:=heU;have beU:=k6 (p1 := "self") (p2 := "rule") (p3 := "other_rule") FeU fun _ _ _ _ _ _ _ _ _=>rfl;obtain⟨fui,dui,aui,iui,oui,Fui⟩:=hui;have bui:=fH (p1 := "self") (p2 := "name") Fui fun _ _ _ _ _ _ _ _=>rfl;obtain⟨fle,dle,ale,Fle⟩:=hle;have ble:=fH (p1 := "_law_dice") (p2 := "_law_high") Fle fun _ _ _ _ _ _ _ _=>rfl;obtain⟨flW,dlW,alW,FlW⟩:=hlW;have blW:=k6 (p1 := "_law_dice") (p2 := "_law_kind") (p3 := "_law_table") FlW fun _ _ _ _ _ _ _ _ _=>rfl;obtain⟨flw,dlw,alw,Flw⟩:=hlw;have blw:=fv (p1 := "_law_e") Flw fun _ _ _ _ _ _ _=>rfl;obtain⟨flo,dlo,alo,Flo⟩:=hlo;have blo:=fv (p1 := "_law_deed") Flo fun _ _ _ _ _ _ _=>rfl;refine⟨fO "law" "law" Do .none kVla dcla pmla anla (.ref c) ctla,fun s v=>.of_eq rfl,fun base _ _ hC hBu=>?_⟩;have FT:=@fnT l.prog w K mg base;have MT:=@mtT l.prog w K mg base;have Gwh:=FT (sp:=spIsWhole) Fwh (M8 Fwh B) (MG awh) bwh;have Gnm:=FT (sp:=spIsName) Fnm (Oh Fnm B hL) (MG anm) bnm;have Guo:=FT (sp:=(spUnionOf K)) Fuo (My Fuo) (MG auo) buo;have Gnx:=FT (sp:=(spNextMark K)) Fnx (LV Fnx B) (MG anx) bnx;have Goo:=FT (sp:=(CO K)) Foo (M7 Foo B) (MG aoo) boo;have Gno:=FT (sp:=spIsNamesOf) Fno (KP Fno B Goo) (MG ano) bno;have Gth:=FT (sp:=spThing) Fth (QV Fth B Gnx Gno Guo Gwh) (MG ath) bth;have Gro:=FT (sp:=spRow) Fro (UF Fro B hG Gnm Gth) (MG aro) bro;have Gnb:=FT (sp:=spNumbered) Fnb (LY Fnb B hM Gro) (MG anb) bnb;have Gfi:=FT (sp:=spFirsts) Ffi (Oo Ffi) (MG afi) bfi;have Gim:=FT (sp:=spIsMark) Fim (Og Fim) (MG aim) bim;have GmR:=MT (sp:=(spRows C)) amR imR FmR (SQ FmR B T) bmR;have GmK:=MT (sp:=(spKnown C)) amK imK FmK (Qa FmK B T Guo) bmK;have GmT:=MT (sp:=(spRest C)) amT imT FmT (SZ FmT T) bmT;have GmM:=MT (sp:=(spMarks C)) amM imM FmM (Qb FmM B T Gim) bmM;have GmE:=MT (sp:=(spEqK C)) amE imE FmE (UR FmE B T KI mCg GmR) bmE;have Glc:=FT (sp:=(spCell K)) Flc (SU Flc B) (MG alc) blc;have Gld:=FT (sp:=spDrawn) Fld (Qd Fld) (MG ald) bld;have Glr:=FT (sp:=spRoll) Flr (SW Flr Gld) (MG alr) blr;have Gls:=FT (sp:=(spRounds K)) Fls (Oq Fls B Glc) (MG als) bls;have Gll:=FT (sp:=spLines) Fll (Qk Fll B Glr) (MG all) bll;have Gxn:=FT (sp:=spIsNumber) Fxn (Lg Fxn hLi Gwh) (MG axn) bxn;have Gxr:=FT (sp:=(spRestOf C)) Fxr (Oy Fxr T GmK) (MG axr) bxr;have Gxi:=MT (sp:=(spVInit C VC)) axi ixi Fxi (Lh Fxi T VT Gxn Gxr GmT) bxi;have GxN:=MT (sp:=(spVNumber VC)) axN jk FxN (NE FxN VT) bxN;have GxK:=MT (sp:=(spVKind VC)) axK ixK FxK (Qq FxK VT) bxK;have GxE:=MT (sp:=(spVEq C VC)) axE ixE FxE (UU FxE B T VT VI vI mVg GmE) bxE;obtain⟨fE0,dE0,gE0,mE0,bE0⟩:=GxE.ex;have VO:Li l.prog w K mg base C VC:=⟨VT,mVg,⟨_,_,⟨fVC.mz,axi,ixi,fVC.kc⟩,Lh Fxi T VT Gxn Gxr GmT,bxi⟩,⟨_,_,gE0,mE0,bE0⟩,VI,fVC.ne,fVC.qi⟩;have GmN:=MT (sp:=(spNumber C)) amN imN FmN (Ow FmN T Goo) bmN;have Gmb:=FT (sp:=(spMarkBits C)) Fmb (Ll Fmb T GmM Guo) (MG amb) bmb;have Guq:=FT (sp:=(spUni K)) Fuq (Uc Fuq) (MG auq) buq;have Glb:=FT (sp:=spBitsOf) Flb (Os Flb B) (MG alb) blb;have Glu:=FT (sp:=spRuleOf) Flu (Op Flu Glr) (MG alu) blu;have Glt:=FT (sp:=spTable) Flt (Qo Flt B Glb) (MG alt) blt;have GxM:=MT (sp:=(spVMarks C VC)) axM ixM FxM (O2 FxM T VT GmM) bxM;have GxR:=MT (sp:=(spVRest C VC)) axR ixR FxR (Qw FxR VT Gmb) bxR;have Gvo:=FT (sp:=(spVOf C VC)) Fvo (NH Fvo B T VO Guo GmN) (MG avo) bvo;have Gmd:=FT (sp:=(spMade C VC)) Fmd (Sk Fmd hLi T VO Gwh Gxr GmT) (MG amd) bmd;have GeE:=FT (sp:=spEnt) FeE (UY FeE B Goo) (MG aeE) beE;have GeT:=FT (sp:=(spTab C)) FeT (UZ FeT B (MN z_dict) T GmM GmR GeE) (MG aeT) beT;have Gek:=MT (sp:=(spEKind EC)) aek iek Fek (Q5 Fek ET) bek;have Geo:=MT (sp:=(spEOther EC)) aeo ieo Feo (O4 Feo ET) beo;have Grp:=FT (sp:=spIsPair) Frp (O7 Frp B Goo) (MG arp) brp;have Grq:=FT (sp:=(spPairs K)) Frq (RI Frq B Grp) (MG arq) brq;have Grf:=MT (sp:=(spFF RC)) arf irf Frf (Vm Frf RT) brf;have Grk:=MT (sp:=(spRKind RC)) ark irk Frk (RV Frk RT) brk;have Grc:=MT (sp:=(spCount RC)) arc irc Frc (RN Frc B RT) brc;have Grn:=MT (sp:=(spNth C VC RC)) arn irn Frn (Uh Frn B RT VO Gwh) brn;have GrO:=MT (sp:=(spOwn C VC RC)) arO irO FrO (Uf FrO RT VT qeC qm GmE GxK GxN) brO;have GrF:=MT (sp:=(spFault C VC RC)) arF irF FrF (RM FrF RT VT GrO GxR Grf) brF;have GrL:=MT (sp:=(spLets C VC RC)) arL irL FrL (Sw FrL RT GrF) brL;have Glm:=FT (sp:=spLMade) Flm (Qx Flm) (MG alm) blm;have Glg:=FT (sp:=spGoal) Flg (Sq Flg Glt) (MG alg) blg;have Glk:=FT (sp:=(spLLed C EC)) Flk (Sr Flk B ET T Glg Glt Glm Geo GmT) (MG alk) blk;have GlB:=FT (sp:=spBrok) FlB (Sz FlB) (MG alB) blB;have GlY:=FT (sp:=spLetBy) FlY (RP FlY B GlB) (MG alY) blY;have GW:FnS l.prog w K mg base "_law_word" 1 ["_law_e"] (EK K (fun i=>([e0,e1,e2,e3,e4,e5,e6,e7,e8,e9,jw]:List Addr).getD i 0)):=⟨⟨_,_,Sd Flw B M,MG alw,Flw.kp,blw⟩⟩;have KO:NM l.prog w K mg base C:=⟨T,mCg,⟨_,_,⟨fC.mz,ain,iin,fC.kc⟩,SO Fin B T hR rT Gnb Gfi Goo,⟨_,S5⟩,_,Uu kdo kdr,.cons ⟨_,rfl⟩ .nil⟩⟩;have ME:Ve l.prog w K mg base cM:=⟨MG aM,xmg,xmr,⟨_,_,xmf,Ih Fei (MN z_VE),kei,Tc dtl⟩⟩;have EO7:TU l.prog w K mg base "Unlike" e7:=⟨MG aX7,⟨_,_,⟨y7.F.cx,y7.i,iei,⟨_,lei,rfl⟩,y7.F.ke⟩,Ih Fei (MN z_VE),Tc dtl⟩⟩;have Fri:=fun_mk (st:=Ci) lri cri kri
 have k2o:nsOkIn K k2=true:=by
  unfold nsOkIn;rw[k2l];exact k2e
 have RuO:NO l.prog w K mg base C RC:=⟨RT,MG aRC,⟨_,_,⟨fRC.mz,ari,iri,fRC.kc⟩,RL Fri B (MN z_dict) T RT GmM Grq Guq Grf,⟨_,S9 Fri⟩,_,_,Uv k2o k2n k2b,fun _=>.inr ⟨_,_,_,t5l,rfl,rfl,Nat.zero_le _,.nil⟩,fun _=>.inr ⟨_,_,_,t6l,rfl,rfl,Nat.zero_le _,.nil⟩⟩⟩;have UO:TV l.prog w K mg base cM e3:=⟨MG aX3,⟨_,_,⟨xc3,aui,iui,oui,y3.F.ke⟩,NK Fui ME,bui⟩,S6 y3.s y3.gn y3.gs⟩;have EO:Vi l.prog w K mg base C EC:=⟨ET,MG aEC,⟨_,_,⟨fEC.mz,aeI,ieI,fEC.kc⟩,Q4 FeI ET GeT,beI⟩⟩;have GeN:iW l.prog w K mg base EC "names_for" 4 ["self", "value"] (spNf C VC EC e3):=⟨⟨_,_,Vf FeN ET VT UO GxM,⟨aeN,ieN,FeN.kp⟩,beN⟩⟩;have GeL:iW l.prog w K mg base EC "led" 7 ["self", "value"] (spLed C VC EC e3):=⟨⟨_,_,Ua FeL ET VT qeC qm GmE GxK GxN GxR GeN Gvo Gmd,⟨aeL,ieL,FeL.kp⟩,beL⟩⟩;have GeJ:=MT (sp:=spILL C VC EC RC) aeJ ieJ FeJ (Uj FeJ ET RT (MG aX3) xc3 y3.m GeL GrL) beJ;have GEd:=FT (sp:=spEdL C EC) Fle (Ub Fle B KO EO Glr Glu Gll Glt) (MG ale) ble;have GlW:=FT (sp:=spRW C RC) FlW (Vp FlW B RuO Glr) (MG alW) blW;exact Ut Fla Flo (MG alo) blo hC hBu B KO VO ET RuO M EX GW EPU Gls GEd Glt GlW GlY GlB Glk Gek Geo GmT ⟨_,_,Vs FeU B ET RT qeC qm GmE Grk Grc Grn GeJ,Uk FeU ET RT qeC qm EO7 GmE Grk,⟨aeU,ieU,FeU.kp⟩,beU⟩
theorem walk {l:OpenLaw}{q:Program}{loose:List Str}{XP:(Str->Option Value)->Heap->Prop}{YP:World->Heap->Prop}{d:DefRec}{K:Params->Frag}{c P0:Addr} (hn:l.most=some 63) (iK:d.params.defaults=[])
  (hY:∀(w:World) (h:Heap),YP w h->(K w.params).In h/\h.get? P0=some (tabObj #[])/\(K w.params).lookup P0=none/\CodeHd h c P0)
  (F:∀(w:World) (mg:SV) (fa:Addr) (h:Heap),(K w.params).In h->h.Ns mainGlobals mg->mg d.name=some (.ref fa) ->
   ∃fd:FuncData,(∀(s:Shared) (u:Value),BindsTo s fd ⟨[u],[]⟩ [("_law_script", u)])/\∀base:Heap,(K w.params).In base->base.Ns mainGlobals mg->CodeHd base c P0->base.BuiltinsAt mg P0->AY l.prog w (K w.params) mg base aO 10 fa fd ["_law_script"] (spLaw (K w.params) P0)) :
  WalkO q loose XP YP l.row.toRowW d [] (fun f vs=>PySem.call f vs) :=
 L2.QE (n:=63) (k:=10) (x := "_law_script") (CX:=fun _=>aO) (sp:=fun w=>spLaw (K w.params) P0) hn qc iK ⟨rfl,qc,qc⟩ hY F
  (fun _ _ a ns hl _ hP hS=>⟨a,ns,rfl,hS,hl,⟨#[],hP,trivial,fun _ _=>.inl rfl⟩,fun _=>rfl⟩) fun _ _ _ _ _ z=>z
end Mk
end
section
namespace Hd
open PySem PySem.W PySem.Calls PyProof.Rows
def runT (tb : String -> Option Builtin) (p : Program) (w : World) (n₀ : Nat) (ann : Option Value) : Nat -> SharedT -> Thread -> Option SharedT
  |0,_,_=>none
  |n + 1,s,t=>match through t with
    |true=>some s
    |false=>match stepOk n₀ ann t with
      |false=>none
      |true=>match stepT (denote tb) p w s t with
        |some (s',t')=>runT tb p w n₀ ann n s' t'
        |none=>none
theorem runT_of {tb : String -> Option Builtin}{p : Program}{w : World}{n₀ : Nat}{ann : Option Value} : ∀ {n : Nat}{s s' : SharedT}{t : Thread},runT tb p w n₀ ann n s t = some s' -> topRun tb p w n₀ ann n s.abs t = some s'.abs
  |0,_,_,_,h=>by cases h
  |n + 1,s,s',t,h=>by
    unfold runT at h
    unfold topRun
    cases ht : through t with
    |true=>rw[ht]at h;cases h;rfl
    |false =>
      rw[ht]at h
      cases hk : stepOk n₀ ann t with
      |false=>rw[hk]at h;cases h
      |true =>
        rw[hk]at h
        cases hs : stepT (denote tb) p w s t with
        |none=>rw[hs]at h;cases h
        |some r=>obtain⟨s₂,t₂⟩:=r;rw[hs]at h;rw[stepT_spec hs];exact runT_of h
def looksAt (p q : Program) (loose : List Str) (Xt : Shared -> Bool) (as : List Addr) (h₀ : Heap) (s : Shared) :=
  (staticsOk (importedModules p.main.body) h₀ s.heap && namesBound p s.heap && gensDone s && laidKept h₀ s.heap,openSeen q loose (importedModules p.main.body) Xt true s,as.map s.heap.get?)
theorem left_of {p q : Program}{loose : List Str}{Xt : Shared -> Bool}{as : List Addr}{K : Params -> Frag}{N M m₀ : Nat}{ann : Option Value}{T0 : Params -> BT}{life : Life}
    (open_ : ∀w : World,(fencedOpening treeTable p w N).map (fun s=>(s.heap,s.gens,s.drawn,s.toks)) = some (boot_heap w.params,#[],boot_drawn,boot_toks))
    (tree : ∀P : Params,absHeap (T0 P) m₀ life = boot_heap P)
    (size : ∀w : World,((boot_heap w.params).isNs mainGlobals,(boot_heap w.params).objs.size,(boot_heap w.params).nsMap mainGlobals "__annotations__") = (true,m₀,ann))
    (le : Nat.ble M N = true)
    (run : ∀(w : World) (os : OsState),(runT treeTable p w m₀ ann M ⟨T0 w.params,m₀,life,#[],boot_drawn,boot_toks,os⟩ (topStub p)).map (fun s=>looksAt p q loose Xt as (boot_heap w.params) s.abs) = some (true,openGood q loose,(K w.params).map fun x=>some x.2)) :
    LeftO p q loose Xt (fun s=>as.map s.heap.get?) (fun w=>(K w.params).map fun x=>some x.2) N:=fun w=>by
  obtain⟨⟨h,gs,d,k,os⟩,e,e'⟩:=Option.map_eq_some_iff.mp (open_ w)
  obtain⟨rfl,rfl,rfl,rfl⟩ : h = boot_heap w.params /\ gs = #[] /\ d = boot_drawn /\ k = boot_toks:=by simpa using e'
  obtain⟨z1,z2,z3⟩ : _ /\ _ /\ _:=by simpa only[Prod.mk.injEq]using size w
  obtain⟨sT,r1,r2⟩:=Option.map_eq_some_iff.mp (run w os)
  have r3:=runT_of r1
  have r4 : topRun treeTable p w m₀ ann M ⟨boot_heap w.params,#[],boot_drawn,boot_toks,os⟩ (topStub p) = some sT.abs:=by
    rw[←tree w.params]
    exact r3
  have r:=topRun_mono (N - M) _ _ _ _ r4
  rw[show M + (N - M) = N by have:=Nat.le_of_ble_eq_true le;omega]at r
  unfold looksAt at r2
  obtain⟨l1,l2,l3⟩ : _ /\ _ /\ _:=by simpa only[Prod.mk.injEq]using r2
  have t : topFrom treeTable p w N ⟨boot_heap w.params,#[],boot_drawn,boot_toks,os⟩ = some sT.abs:=by
    unfold topFrom
    dsimp only
    rw[z1,z2,z3,r]
    show(match staticsOk (importedModules p.main.body) (boot_heap w.params) sT.abs.heap && namesBound p sT.abs.heap && gensDone sT.abs && laidKept (boot_heap w.params) sT.abs.heap with |true=>_ |false=>_) = _
    rw[l1]
  unfold openEnds
  rw[e]
  show(topFrom treeTable p w N _).map _ = _
  rw[t]
  exact congrArg some (Prod.ext l2 l3)
end Hd
end
noncomputable section
open PySem PySem.W PySem.Calls PyProof.Rows
abbrev Mk.fS (x q : Str) (s : Stmt) (dV kV doc pm : Value) (an : Option Addr) (cd ct : Value) : FuncData:=fnOf x q (L2.defArgs s) (L2.defBody s) (L2.defScope s) dV kV doc pm an cd ct
abbrev Mk.cO (x : Str) (a : Nat) (q : Str) (b c : Nat) (d e f g h : Int) (i j l m n : Nat) (o p : Int) (r : Nat) : Obj:=⟨.type "code", none,.fields #[.str x a,.str q b,.str "/claim/cut.py" c,.int d 0,.int e 0,.int f 0,.int g 0,.int h 0,.ref i,.bool true,.int 181 0,.ref j,.none,.ref l,.ref m,.ref n,.int o 0,.int p 0,.str "/claim/cut.py" r],#[]⟩
abbrev Mk.dE (P : PySem.Params) (x : Str) (t : Nat) (v : Value) : DictEntry:=⟨PyData.keyHash P x,.str x t,v⟩
abbrev Mk.fN (x q : Str) (s : Stmt) (m : Str) (t c : Nat) : Obj:=⟨.type "function", none,.func (Mk.fS x q s .none .none .none (.str m t) none (.ref c) .none),#[]⟩
abbrev Mk.eC (x : Str) (a b c d e f : Nat) : Obj:=⟨.type "type", none,.cls ⟨x,[.ref a],[.ref b,.ref a,.type "ValueError", .type "Exception", .type "BaseException", .type "object"],c,x,true,[],[],false,none,false⟩,#[some (.ref d),none,some (.str x e),some (.str x f),some (.builtin "ValueError.__new__"),some (.bool true)]⟩
noncomputable def Mk.Kg (P : PySem.Params) : PySem.W.Frag :=
 (nat_lit 2,⟨.none,none,(.dict #[] 0),#[]⟩) ::
 (nat_lit 3,⟨(.type "dict"),none,(.dict #[Mk.dE P "__name__" 165 (.str "law_markworks_k51_whole_first_unled" 1045),Mk.dE P "__doc__" 166 .none,Mk.dE P "__package__" 167 .none,Mk.dE P "__loader__" 168 (.builtin "__main__.__loader__#opaque"),Mk.dE P "__spec__" 169 .none,Mk.dE P "__annotations__" 170 (.ref 6),Mk.dE P "__builtins__" 171 (.ref 4),Mk.dE P "__file__" 173 (.str "/claim/cut.py" 172),Mk.dE P "__cached__" 174 .none,Mk.dE P "_wall" 193 (.ref 21),Mk.dE P "MarkError" 222 (.ref 39),Mk.dE P "BadRows" 247 (.ref 59),Mk.dE P "BadRule" 263 (.ref 71),Mk.dE P "BadName" 279 (.ref 83),Mk.dE P "BadNumber" 295 (.ref 95),Mk.dE P "BadRest" 320 (.ref 114),Mk.dE P "Unlike" 336 (.ref 126),Mk.dE P "BadText" 361 (.ref 145),Mk.dE P "BadPairs" 377 (.ref 157),Mk.dE P "Never" 393 (.ref 169),Mk.dE P "Unled" 418 (.ref 188),Mk.dE P "Nothing" 434 (.ref 200),Mk.dE P "GREATEST" 442 (.int 1048575 441),Mk.dE P "MOST_ROWS" 444 (.int 10 443),Mk.dE P "LONGEST_NAME" 446 (.int 6 445),Mk.dE P "RULES" 451 (.ref 203),Mk.dE P "is_whole" 458 (.ref 210),Mk.dE P "is_name" 464 (.ref 215),Mk.dE P "is_mark" 471 (.ref 222),Mk.dE P "union_of" 480 (.ref 229),Mk.dE P "unions_of" 486 (.ref 234),Mk.dE P "is_one_of" 494 (.ref 241),Mk.dE P "mark_bits" 500 (.ref 246),Mk.dE P "next_mark" 507 (.ref 253),Mk.dE P "is_names_of" 513 (.ref 258),Mk.dE P "thing_number" 519 (.ref 263),Mk.dE P "row_number" 530 (.ref 270),Mk.dE P "numbered" 541 (.ref 277),Mk.dE P "first_names" 551 (.ref 284),Mk.dE P "Kind" 649 (.ref 361),Mk.dE P "LIMIT" 655 (.int 1099511627776 654),Mk.dE P "is_number" 662 (.ref 372),Mk.dE P "rest_of" 670 (.ref 379),Mk.dE P "Value" 744 (.ref 436),Mk.dE P "made" 754 (.ref 447),Mk.dE P "value_of" 760 (.ref 452),Mk.dE P "is_entry" 768 (.ref 457),Mk.dE P "table_of" 774 (.ref 462),Mk.dE P "Edition" 886 (.ref 542),Mk.dE P "is_pair" 894 (.ref 551),Mk.dE P "pairs_of" 900 (.ref 556),Mk.dE P "Rule" 1044 (.ref 670),Mk.dE P "_law_cell" 1054 (.ref 681),Mk.dE P "_law_drawn" 1063 (.ref 688),Mk.dE P "_law_roll" 1072 (.ref 695),Mk.dE P "_law_rounds" 1078 (.ref 700),Mk.dE P "_law_word" 1084 (.ref 705),Mk.dE P "_law_told" 1092 (.ref 712),Mk.dE P "_law_bits_of" 1098 (.ref 717),Mk.dE P "_law_rule_of" 1105 (.ref 724),Mk.dE P "_law_lines" 1111 (.ref 729),Mk.dE P "_law_table_of" 1117 (.ref 734),Mk.dE P "_law_made" 1128 (.ref 741),Mk.dE P "_law_rule_with" 1134 (.ref 746),Mk.dE P "_law_broken" 1140 (.ref 751),Mk.dE P "_law_let_by" 1146 (.ref 756),Mk.dE P "_law_edition" 1152 (.ref 761),Mk.dE P "_law_goal" 1169 (.ref 768),Mk.dE P "_law_led" 1181 (.ref 775),Mk.dE P "law" 1207 (.ref 782)] 70),#[]⟩) ::
 (nat_lit 29,⟨(.type "tuple"),none,(.seq #[(.str "" 208)] 0),#[]⟩) ::
 (nat_lit 35,Mk.cO "__init__" 209 "MarkError.__init__" 210 211 7 2 0 0 3 30 31 32 33 34 214 7 215) ::
 (nat_lit 36,⟨(.type "function"),none,(.func (Mk.fS "__init__" "MarkError.__init__" (L2.inClass (Mk.top 2) 0) (.ref 29) .none .none (.str "markworks.errors" 194) none (.ref 35) .none)),#[]⟩) ::
 (nat_lit 38,⟨(.type "dict"),none,(.dict #[Mk.dE P "__module__" 203 (.str "markworks.errors" 194),Mk.dE P "__firstlineno__" 207 (.int 5 206),Mk.dE P "__init__" 216 (.ref 36),Mk.dE P "__static_attributes__" 217 (.ref 37),Mk.dE P "__weakref__" 219 (.ref 40),Mk.dE P "__doc__" 220 .none] 3),#[]⟩) ::
 (nat_lit 39,⟨(.type "type"),none,(.cls ⟨"MarkError", [(.type "ValueError")],[(.ref 39),(.type "ValueError"),(.type "Exception"),(.type "BaseException"),(.type "object")],38, "MarkError", true,[],[(.ref 59),(.ref 71),(.ref 83),(.ref 95),(.ref 114),(.ref 126),(.ref 145),(.ref 157),(.ref 169),(.ref 188),(.ref 200)],false,none,false⟩),#[(some (.ref 22)),none,(some (.str "MarkError" 196)),(some (.str "MarkError" 204)),(some (.builtin "ValueError.__new__")),(some (.bool true))]⟩) ::
 (nat_lit 59,Mk.eC "BadRows" 39 59 58 43 223 231) ::
 (nat_lit 71,Mk.eC "BadRule" 39 71 70 62 248 256) ::
 (nat_lit 83,Mk.eC "BadName" 39 83 82 74 264 272) ::
 (nat_lit 95,Mk.eC "BadNumber" 39 95 94 86 280 288) ::
 (nat_lit 114,Mk.eC "BadRest" 39 114 113 98 296 304) ::
 (nat_lit 125,⟨(.type "dict"),none,(.dict #[Mk.dE P "__module__" 328 (.str "markworks.errors" 194),Mk.dE P "__firstlineno__" 332 (.int 25 331),Mk.dE P "__static_attributes__" 333 (.ref 124),Mk.dE P "__doc__" 334 .none] 2),#[]⟩) ::
 (nat_lit 126,Mk.eC "Unlike" 39 126 125 117 321 329) ::
 (nat_lit 145,Mk.eC "BadText" 39 145 144 129 337 345) ::
 (nat_lit 157,Mk.eC "BadPairs" 39 157 156 148 362 370) ::
 (nat_lit 169,Mk.eC "Never" 39 169 168 160 378 386) ::
 (nat_lit 184,Mk.cO "__init__" 406 "Unled.__init__" 407 408 38 2 0 0 3 179 180 181 182 183 411 38 412) ::
 (nat_lit 185,Mk.fN "__init__" "Unled.__init__" (L2.inClass (Mk.top 12) 0) "markworks.errors" 194 184) ::
 (nat_lit 187,⟨(.type "dict"),none,(.dict #[Mk.dE P "__module__" 401 (.str "markworks.errors" 194),Mk.dE P "__firstlineno__" 405 (.int 36 404),Mk.dE P "__init__" 413 (.ref 185),Mk.dE P "__static_attributes__" 415 (.ref 186),Mk.dE P "__doc__" 416 .none] 2),#[]⟩) ::
 (nat_lit 188,Mk.eC "Unled" 39 188 187 172 394 402) ::
 (nat_lit 200,Mk.eC "Nothing" 39 200 199 191 419 427) ::
 (nat_lit 203,⟨(.type "tuple"),none,(.seq #[(.str "bar" 447),(.str "drop" 448),(.str "keep" 449),(.str "leave" 450)] 0),#[]⟩) ::
 (nat_lit 209,Mk.cO "is_whole" 452 "is_whole" 453 454 48 1 0 0 3 204 205 206 207 208 456 48 457) ::
 (nat_lit 210,Mk.fN "is_whole" "is_whole" (Mk.top 19) "markworks.kinds" 435 209) ::
 (nat_lit 214,⟨(.type "code"),none,(.fields #[(.str "is_name" 459),(.str "is_name" 460),(.str "/claim/cut.py" 461),(.int 50 0),(.int 1 0),(.int 0 0),(.int 0 0),(.int 3 0),(.ref 211),(.bool true),(.int 181 0),(.ref 212),.none,.none,.none,(.ref 213),(.int 462 0),(.int 50 0),(.str "/claim/cut.py" 463)]),#[]⟩) ::
 (nat_lit 215,Mk.fN "is_name" "is_name" (Mk.top 20) "markworks.kinds" 435 214) ::
 (nat_lit 221,Mk.cO "is_mark" 465 "is_mark" 466 467 54 1 0 0 3 216 217 218 219 220 469 54 470) ::
 (nat_lit 222,Mk.fN "is_mark" "is_mark" (Mk.top 21) "markworks.kinds" 435 221) ::
 (nat_lit 228,Mk.cO "union_of" 472 "union_of" 473 474 56 1 0 0 3 223 224 225 226 227 478 56 479) ::
 (nat_lit 229,Mk.fN "union_of" "union_of" (Mk.top 22) "markworks.kinds" 435 228) ::
 (nat_lit 233,⟨(.type "code"),none,(.fields #[(.str "unions_of" 481),(.str "unions_of" 482),(.str "/claim/cut.py" 483),(.int 61 0),(.int 1 0),(.int 0 0),(.int 0 0),(.int 3 0),(.ref 230),(.bool true),(.int 181 0),(.ref 231),.none,.none,.none,(.ref 232),(.int 484 0),(.int 61 0),(.str "/claim/cut.py" 485)]),#[]⟩) ::
 (nat_lit 234,Mk.fN "unions_of" "unions_of" (Mk.top 23) "markworks.kinds" 435 233) ::
 (nat_lit 240,Mk.cO "is_one_of" 487 "is_one_of" 488 489 66 2 0 0 3 235 236 237 238 239 492 66 493) ::
 (nat_lit 241,Mk.fN "is_one_of" "is_one_of" (Mk.top 24) "markworks.kinds" 435 240) ::
 (nat_lit 245,⟨(.type "code"),none,(.fields #[(.str "mark_bits" 495),(.str "mark_bits" 496),(.str "/claim/cut.py" 497),(.int 68 0),(.int 1 0),(.int 0 0),(.int 0 0),(.int 3 0),(.ref 242),(.bool true),(.int 181 0),(.ref 243),.none,.none,.none,(.ref 244),(.int 498 0),(.int 68 0),(.str "/claim/cut.py" 499)]),#[]⟩) ::
 (nat_lit 246,Mk.fN "mark_bits" "mark_bits" (Mk.top 25) "markworks.kinds" 435 245) ::
 (nat_lit 252,Mk.cO "next_mark" 501 "next_mark" 502 503 70 1 0 0 3 247 248 249 250 251 505 70 506) ::
 (nat_lit 253,Mk.fN "next_mark" "next_mark" (Mk.top 26) "markworks.kinds" 435 252) ::
 (nat_lit 257,⟨(.type "code"),none,(.fields #[(.str "is_names_of" 508),(.str "is_names_of" 509),(.str "/claim/cut.py" 510),(.int 72 0),(.int 2 0),(.int 0 0),(.int 0 0),(.int 3 0),(.ref 254),(.bool true),(.int 181 0),(.ref 255),.none,.none,.none,(.ref 256),(.int 511 0),(.int 72 0),(.str "/claim/cut.py" 512)]),#[]⟩) ::
 (nat_lit 258,Mk.fN "is_names_of" "is_names_of" (Mk.top 27) "markworks.kinds" 435 257) ::
 (nat_lit 262,⟨(.type "code"),none,(.fields #[(.str "thing_number" 514),(.str "thing_number" 515),(.str "/claim/cut.py" 516),(.int 74 0),(.int 2 0),(.int 0 0),(.int 0 0),(.int 3 0),(.ref 259),(.bool true),(.int 181 0),(.ref 260),.none,.none,.none,(.ref 261),(.int 517 0),(.int 74 0),(.str "/claim/cut.py" 518)]),#[]⟩) ::
 (nat_lit 263,Mk.fN "thing_number" "thing_number" (Mk.top 28) "markworks.kinds" 435 262) ::
 (nat_lit 269,Mk.cO "row_number" 520 "row_number" 521 522 82 2 0 0 3 264 265 266 267 268 528 82 529) ::
 (nat_lit 270,Mk.fN "row_number" "row_number" (Mk.top 29) "markworks.kinds" 435 269) ::
 (nat_lit 276,Mk.cO "numbered" 531 "numbered" 532 533 92 1 0 0 3 271 272 273 274 275 539 92 540) ::
 (nat_lit 277,Mk.fN "numbered" "numbered" (Mk.top 30) "markworks.kinds" 435 276) ::
 (nat_lit 283,Mk.cO "first_names" 542 "first_names" 543 544 102 1 0 0 3 278 279 280 281 282 549 102 550) ::
 (nat_lit 284,Mk.fN "first_names" "first_names" (Mk.top 31) "markworks.kinds" 435 283) ::
 (nat_lit 292,⟨(.type "dict"),none,(.dict #[Mk.dE P "rest" 565 (.str "bar" 564)] 1),#[]⟩) ::
 (nat_lit 298,Mk.cO "__init__" 566 "Kind.__init__" 567 568 109 2 0 1 3 293 294 295 296 297 572 109 573) ::
 (nat_lit 299,⟨(.type "function"),none,(.func (Mk.fS "__init__" "Kind.__init__" (L2.inClass (Mk.top 32) 0) .none (.ref 292) .none (.str "markworks.kinds" 435) none (.ref 298) .none)),#[]⟩) ::
 (nat_lit 305,Mk.cO "rows" 575 "Kind.rows" 576 577 116 1 0 0 3 300 301 302 303 304 579 116 580) ::
 (nat_lit 306,Mk.fN "rows" "Kind.rows" (L2.inClass (Mk.top 32) 1) "markworks.kinds" 435 305) ::
 (nat_lit 312,Mk.cO "number" 582 "Kind.number" 583 584 119 2 0 0 3 307 308 309 310 311 587 119 588) ::
 (nat_lit 313,Mk.fN "number" "Kind.number" (L2.inClass (Mk.top 32) 2) "markworks.kinds" 435 312) ::
 (nat_lit 329,⟨(.type "code"),none,(.fields #[(.str "marks" 603),(.str "Kind.marks" 604),(.str "/claim/cut.py" 605),(.int 131 0),(.int 1 0),(.int 0 0),(.int 0 0),(.int 3 0),(.ref 326),(.bool true),(.int 181 0),(.ref 327),.none,.none,.none,(.ref 328),(.int 606 0),(.int 131 0),(.str "/claim/cut.py" 607)]),#[]⟩) ::
 (nat_lit 330,Mk.fN "marks" "Kind.marks" (L2.inClass (Mk.top 32) 5) "markworks.kinds" 435 329) ::
 (nat_lit 336,Mk.cO "known" 609 "Kind.known" 610 611 134 1 0 0 3 331 332 333 334 335 613 134 614) ::
 (nat_lit 337,Mk.fN "known" "Kind.known" (L2.inClass (Mk.top 32) 6) "markworks.kinds" 435 336) ::
 (nat_lit 343,Mk.cO "rest" 616 "Kind.rest" 617 618 137 1 0 0 3 338 339 340 341 342 620 137 621) ::
 (nat_lit 344,Mk.fN "rest" "Kind.rest" (L2.inClass (Mk.top 32) 7) "markworks.kinds" 435 343) ::
 (nat_lit 350,Mk.cO "__eq__" 623 "Kind.__eq__" 624 625 140 2 0 0 3 345 346 347 348 349 628 140 629) ::
 (nat_lit 351,Mk.fN "__eq__" "Kind.__eq__" (L2.inClass (Mk.top 32) 8) "markworks.kinds" 435 350) ::
 (nat_lit 360,⟨(.type "dict"),none,(.dict #[Mk.dE P "__module__" 559 (.str "markworks.kinds" 435),Mk.dE P "__firstlineno__" 563 (.int 107 562),Mk.dE P "__init__" 574 (.ref 299),Mk.dE P "rows" 581 (.ref 306),Mk.dE P "number" 589 (.ref 313),Mk.dE P "names" 596 (.ref 320),Mk.dE P "aliases" 602 (.ref 325),Mk.dE P "marks" 608 (.ref 330),Mk.dE P "known" 615 (.ref 337),Mk.dE P "rest" 622 (.ref 344),Mk.dE P "__eq__" 630 (.ref 351),Mk.dE P "__len__" 637 (.ref 358),Mk.dE P "__static_attributes__" 641 (.ref 359),Mk.dE P "__dict__" 643 (.ref 362),Mk.dE P "__weakref__" 645 (.ref 363),Mk.dE P "__doc__" 646 .none,Mk.dE P "__hash__" 647 .none] 5),#[]⟩) ::
 (nat_lit 361,⟨(.type "type"),none,(.cls ⟨"Kind", [(.type "object")],[(.ref 361),(.type "object")],360, "Kind", true,[],[],false,none,false⟩),#[none,none,(some (.str "Kind" 552)),(some (.str "Kind" 560)),(some (.builtin "object.__new__")),(some (.bool true))]⟩) ::
 (nat_lit 371,Mk.cO "is_number" 656 "is_number" 657 658 147 1 0 0 3 366 367 368 369 370 660 147 661) ::
 (nat_lit 372,Mk.fN "is_number" "is_number" (Mk.top 35) "markworks.values" 650 371) ::
 (nat_lit 378,Mk.cO "rest_of" 663 "rest_of" 664 665 149 2 0 0 3 373 374 375 376 377 668 149 669) ::
 (nat_lit 379,Mk.fN "rest_of" "rest_of" (Mk.top 36) "markworks.values" 650 378) ::
 (nat_lit 392,Mk.cO "__init__" 683 "Value.__init__" 684 685 153 3 0 0 3 387 388 389 390 391 689 153 690) ::
 (nat_lit 393,Mk.fN "__init__" "Value.__init__" (L2.inClass (Mk.top 37) 0) "markworks.values" 650 392) ::
 (nat_lit 399,Mk.cO "number" 692 "Value.number" 693 694 161 1 0 0 3 394 395 396 397 398 696 161 697) ::
 (nat_lit 400,Mk.fN "number" "Value.number" (L2.inClass (Mk.top 37) 1) "markworks.values" 650 399) ::
 (nat_lit 406,Mk.cO "kind" 699 "Value.kind" 700 701 164 1 0 0 3 401 402 403 404 405 703 164 704) ::
 (nat_lit 407,Mk.fN "kind" "Value.kind" (L2.inClass (Mk.top 37) 2) "markworks.values" 650 406) ::
 (nat_lit 411,⟨(.type "code"),none,(.fields #[(.str "marks" 706),(.str "Value.marks" 707),(.str "/claim/cut.py" 708),(.int 167 0),(.int 1 0),(.int 0 0),(.int 0 0),(.int 3 0),(.ref 408),(.bool true),(.int 181 0),(.ref 409),.none,.none,.none,(.ref 410),(.int 709 0),(.int 167 0),(.str "/claim/cut.py" 710)]),#[]⟩) ::
 (nat_lit 412,Mk.fN "marks" "Value.marks" (L2.inClass (Mk.top 37) 3) "markworks.values" 650 411) ::
 (nat_lit 418,Mk.cO "rest" 712 "Value.rest" 713 714 170 1 0 0 3 413 414 415 416 417 716 170 717) ::
 (nat_lit 419,Mk.fN "rest" "Value.rest" (L2.inClass (Mk.top 37) 4) "markworks.values" 650 418) ::
 (nat_lit 425,Mk.cO "__eq__" 719 "Value.__eq__" 720 721 173 2 0 0 3 420 421 422 423 424 724 173 725) ::
 (nat_lit 426,Mk.fN "__eq__" "Value.__eq__" (L2.inClass (Mk.top 37) 5) "markworks.values" 650 425) ::
 (nat_lit 435,⟨(.type "dict"),none,(.dict #[Mk.dE P "__module__" 678 (.str "markworks.values" 650),Mk.dE P "__firstlineno__" 682 (.int 151 681),Mk.dE P "__init__" 691 (.ref 393),Mk.dE P "number" 698 (.ref 400),Mk.dE P "kind" 705 (.ref 407),Mk.dE P "marks" 711 (.ref 412),Mk.dE P "rest" 718 (.ref 419),Mk.dE P "__eq__" 726 (.ref 426),Mk.dE P "__len__" 733 (.ref 433),Mk.dE P "__static_attributes__" 736 (.ref 434),Mk.dE P "__dict__" 738 (.ref 437),Mk.dE P "__weakref__" 740 (.ref 438),Mk.dE P "__doc__" 741 .none,Mk.dE P "__hash__" 742 .none] 5),#[]⟩) ::
 (nat_lit 436,⟨(.type "type"),none,(.cls ⟨"Value", [(.type "object")],[(.ref 436),(.type "object")],435, "Value", true,[],[],false,none,false⟩),#[none,none,(some (.str "Value" 671)),(some (.str "Value" 679)),(some (.builtin "object.__new__")),(some (.bool true))]⟩) ::
 (nat_lit 446,Mk.cO "made" 745 "made" 746 747 178 2 0 0 3 441 442 443 444 445 752 178 753) ::
 (nat_lit 447,Mk.fN "made" "made" (Mk.top 38) "markworks.values" 650 446) ::
 (nat_lit 451,⟨(.type "code"),none,(.fields #[(.str "value_of" 755),(.str "value_of" 756),(.str "/claim/cut.py" 757),(.int 190 0),(.int 2 0),(.int 0 0),(.int 0 0),(.int 3 0),(.ref 448),(.bool true),(.int 181 0),(.ref 449),.none,.none,.none,(.ref 450),(.int 758 0),(.int 190 0),(.str "/claim/cut.py" 759)]),#[]⟩) ::
 (nat_lit 452,Mk.fN "value_of" "value_of" (Mk.top 39) "markworks.values" 650 451) ::
 (nat_lit 456,⟨(.type "code"),none,(.fields #[(.str "is_entry" 763),(.str "is_entry" 764),(.str "/claim/cut.py" 765),(.int 195 0),(.int 3 0),(.int 0 0),(.int 0 0),(.int 3 0),(.ref 453),(.bool true),(.int 181 0),(.ref 454),.none,.none,.none,(.ref 455),(.int 766 0),(.int 195 0),(.str "/claim/cut.py" 767)]),#[]⟩) ::
 (nat_lit 457,Mk.fN "is_entry" "is_entry" (Mk.top 41) "markworks.editions" 761 456) ::
 (nat_lit 461,⟨(.type "code"),none,(.fields #[(.str "table_of" 769),(.str "table_of" 770),(.str "/claim/cut.py" 771),(.int 199 0),(.int 3 0),(.int 0 0),(.int 0 0),(.int 3 0),(.ref 458),(.bool true),(.int 181 0),(.ref 459),.none,.none,.none,(.ref 460),(.int 772 0),(.int 199 0),(.str "/claim/cut.py" 773)]),#[]⟩) ::
 (nat_lit 462,Mk.fN "table_of" "table_of" (Mk.top 42) "markworks.editions" 761 461) ::
 (nat_lit 475,Mk.cO "__init__" 787 "Edition.__init__" 788 789 210 4 0 0 3 470 471 472 473 474 794 210 795) ::
 (nat_lit 476,Mk.fN "__init__" "Edition.__init__" (L2.inClass (Mk.top 43) 0) "markworks.editions" 761 475) ::
 (nat_lit 482,Mk.cO "kind" 797 "Edition.kind" 798 799 215 1 0 0 3 477 478 479 480 481 801 215 802) ::
 (nat_lit 483,Mk.fN "kind" "Edition.kind" (L2.inClass (Mk.top 43) 1) "markworks.editions" 761 482) ::
 (nat_lit 489,Mk.cO "other" 804 "Edition.other" 805 806 218 1 0 0 3 484 485 486 487 488 808 218 809) ::
 (nat_lit 490,Mk.fN "other" "Edition.other" (L2.inClass (Mk.top 43) 2) "markworks.editions" 761 489) ::
 (nat_lit 496,Mk.cO "names_for" 811 "Edition.names_for" 812 813 221 2 0 0 3 491 492 493 494 495 818 221 819) ::
 (nat_lit 497,Mk.fN "names_for" "Edition.names_for" (L2.inClass (Mk.top 43) 3) "markworks.editions" 761 496) ::
 (nat_lit 503,Mk.cO "led" 821 "Edition.led" 822 823 229 2 0 0 3 498 499 500 501 502 827 229 828) ::
 (nat_lit 504,Mk.fN "led" "Edition.led" (L2.inClass (Mk.top 43) 4) "markworks.editions" 761 503) ::
 (nat_lit 510,Mk.cO "is_led_to_let" 830 "Edition.is_led_to_let" 831 832 235 3 0 0 3 505 506 507 508 509 836 235 837) ::
 (nat_lit 511,Mk.fN "is_led_to_let" "Edition.is_led_to_let" (L2.inClass (Mk.top 43) 5) "markworks.editions" 761 510) ::
 (nat_lit 517,Mk.cO "first_unled" 839 "Edition.first_unled" 840 841 241 3 0 0 3 512 513 514 515 516 847 241 848) ::
 (nat_lit 518,Mk.fN "first_unled" "Edition.first_unled" (L2.inClass (Mk.top 43) 6) "markworks.editions" 761 517) ::
 (nat_lit 541,⟨(.type "dict"),none,(.dict #[Mk.dE P "__module__" 782 (.str "markworks.editions" 761),Mk.dE P "__firstlineno__" 786 (.int 208 785),Mk.dE P "__init__" 796 (.ref 476),Mk.dE P "kind" 803 (.ref 483),Mk.dE P "other" 810 (.ref 490),Mk.dE P "names_for" 820 (.ref 497),Mk.dE P "led" 829 (.ref 504),Mk.dE P "is_led_to_let" 838 (.ref 511),Mk.dE P "first_unled" 849 (.ref 518),Mk.dE P "first_mixed" 856 (.ref 525),Mk.dE P "pairs" 863 (.ref 532),Mk.dE P "behind" 875 (.ref 539),Mk.dE P "__static_attributes__" 879 (.ref 540),Mk.dE P "__dict__" 881 (.ref 543),Mk.dE P "__weakref__" 883 (.ref 544),Mk.dE P "__doc__" 884 .none] 4),#[]⟩) ::
 (nat_lit 542,⟨(.type "type"),none,(.cls ⟨"Edition", [(.type "object")],[(.ref 542),(.type "object")],541, "Edition", true,[],[],false,none,false⟩),#[none,none,(some (.str "Edition" 775)),(some (.str "Edition" 783)),(some (.builtin "object.__new__")),(some (.bool true))]⟩) ::
 (nat_lit 550,⟨(.type "code"),none,(.fields #[(.str "is_pair" 889),(.str "is_pair" 890),(.str "/claim/cut.py" 891),(.int 267 0),(.int 2 0),(.int 0 0),(.int 0 0),(.int 3 0),(.ref 547),(.bool true),(.int 181 0),(.ref 548),.none,.none,.none,(.ref 549),(.int 892 0),(.int 267 0),(.str "/claim/cut.py" 893)]),#[]⟩) ::
 (nat_lit 551,Mk.fN "is_pair" "is_pair" (Mk.top 45) "markworks.rules" 887 550) ::
 (nat_lit 555,⟨(.type "code"),none,(.fields #[(.str "pairs_of" 895),(.str "pairs_of" 896),(.str "/claim/cut.py" 897),(.int 271 0),(.int 2 0),(.int 0 0),(.int 0 0),(.int 3 0),(.ref 552),(.bool true),(.int 181 0),(.ref 553),.none,.none,.none,(.ref 554),(.int 898 0),(.int 271 0),(.str "/claim/cut.py" 899)]),#[]⟩) ::
 (nat_lit 556,Mk.fN "pairs_of" "pairs_of" (Mk.top 46) "markworks.rules" 887 555) ::
 (nat_lit 564,⟨(.type "tuple"),none,(.seq #[] 0),#[]⟩) ::
 (nat_lit 565,⟨(.type "tuple"),none,(.seq #[] 0),#[]⟩) ::
 (nat_lit 566,⟨(.type "dict"),none,(.dict #[Mk.dE P "needs" 913 (.ref 564),Mk.dE P "bars" 914 (.ref 565)] 2),#[]⟩) ::
 (nat_lit 570,⟨(.type "code"),none,(.fields #[(.str "__init__" 915),(.str "Rule.__init__" 916),(.str "/claim/cut.py" 917),(.int 277 0),(.int 2 0),(.int 0 0),(.int 2 0),(.int 3 0),(.ref 567),(.bool true),(.int 181 0),(.ref 568),.none,.none,.none,(.ref 569),(.int 918 0),(.int 277 0),(.str "/claim/cut.py" 919)]),#[]⟩) ::
 (nat_lit 571,⟨(.type "function"),none,(.func (Mk.fS "__init__" "Rule.__init__" (L2.inClass (Mk.top 47) 0) .none (.ref 566) .none (.str "markworks.rules" 887) none (.ref 570) .none)),#[]⟩) ::
 (nat_lit 577,Mk.cO "kind" 921 "Rule.kind" 922 923 285 1 0 0 3 572 573 574 575 576 925 285 926) ::
 (nat_lit 578,Mk.fN "kind" "Rule.kind" (L2.inClass (Mk.top 47) 1) "markworks.rules" 887 577) ::
 (nat_lit 584,Mk.cO "first_fault" 928 "Rule.first_fault" 929 930 288 2 0 0 3 579 580 581 582 583 936 288 937) ::
 (nat_lit 585,Mk.fN "first_fault" "Rule.first_fault" (L2.inClass (Mk.top 47) 2) "markworks.rules" 887 584) ::
 (nat_lit 591,Mk.cO "own_number" 939 "Rule.own_number" 940 941 297 2 0 0 3 586 587 588 589 590 944 297 945) ::
 (nat_lit 592,Mk.fN "own_number" "Rule.own_number" (L2.inClass (Mk.top 47) 3) "markworks.rules" 887 591) ::
 (nat_lit 598,Mk.cO "lets" 947 "Rule.lets" 948 949 302 2 0 0 3 593 594 595 596 597 952 302 953) ::
 (nat_lit 599,Mk.fN "lets" "Rule.lets" (L2.inClass (Mk.top 47) 4) "markworks.rules" 887 598) ::
 (nat_lit 605,Mk.cO "fault" 955 "Rule.fault" 956 957 305 2 0 0 3 600 601 602 603 604 961 305 962) ::
 (nat_lit 606,Mk.fN "fault" "Rule.fault" (L2.inClass (Mk.top 47) 5) "markworks.rules" 887 605) ::
 (nat_lit 633,Mk.cO "count" 988 "Rule.count" 989 990 318 1 0 0 3 628 629 630 631 632 992 318 993) ::
 (nat_lit 634,Mk.fN "count" "Rule.count" (L2.inClass (Mk.top 47) 9) "markworks.rules" 887 633) ::
 (nat_lit 640,Mk.cO "nth" 995 "Rule.nth" 996 997 321 2 0 0 3 635 636 637 638 639 1000 321 1001) ::
 (nat_lit 641,Mk.fN "nth" "Rule.nth" (L2.inClass (Mk.top 47) 10) "markworks.rules" 887 640) ::
 (nat_lit 669,⟨(.type "dict"),none,(.dict #[Mk.dE P "__module__" 908 (.str "markworks.rules" 887),Mk.dE P "__firstlineno__" 912 (.int 275 911),Mk.dE P "__init__" 920 (.ref 571),Mk.dE P "kind" 927 (.ref 578),Mk.dE P "first_fault" 938 (.ref 585),Mk.dE P "own_number" 946 (.ref 592),Mk.dE P "lets" 954 (.ref 599),Mk.dE P "fault" 963 (.ref 606),Mk.dE P "grown" 971 (.ref 613),Mk.dE P "shrunk" 979 (.ref 620),Mk.dE P "mended" 987 (.ref 627),Mk.dE P "count" 994 (.ref 634),Mk.dE P "nth" 1002 (.ref 641),Mk.dE P "place" 1010 (.ref 648),Mk.dE P "names_in" 1016 (.ref 653),Mk.dE P "never" 1023 (.ref 660),Mk.dE P "always" 1031 (.ref 667),Mk.dE P "__static_attributes__" 1037 (.ref 668),Mk.dE P "__dict__" 1039 (.ref 671),Mk.dE P "__weakref__" 1041 (.ref 672),Mk.dE P "__doc__" 1042 .none] 4),#[]⟩) ::
 (nat_lit 670,⟨(.type "type"),none,(.cls ⟨"Rule", [(.type "object")],[(.ref 670),(.type "object")],669, "Rule", true,[],[],false,none,false⟩),#[none,none,(some (.str "Rule" 901)),(some (.str "Rule" 909)),(some (.builtin "object.__new__")),(some (.bool true))]⟩) ::
 (nat_lit 680,Mk.cO "_law_cell" 1047 "_law_cell" 1048 1049 340 2 0 0 3 675 676 677 678 679 1052 340 1053) ::
 (nat_lit 681,Mk.fN "_law_cell" "_law_cell" (Mk.top 49) "law_markworks_k51_whole_first_unled" 1045 680) ::
 (nat_lit 687,Mk.cO "_law_drawn" 1055 "_law_drawn" 1056 1057 344 2 0 0 3 682 683 684 685 686 1061 344 1062) ::
 (nat_lit 688,Mk.fN "_law_drawn" "_law_drawn" (Mk.top 50) "law_markworks_k51_whole_first_unled" 1045 687) ::
 (nat_lit 694,Mk.cO "_law_roll" 1064 "_law_roll" 1065 1066 349 2 0 0 3 689 690 691 692 693 1070 349 1071) ::
 (nat_lit 695,Mk.fN "_law_roll" "_law_roll" (Mk.top 51) "law_markworks_k51_whole_first_unled" 1045 694) ::
 (nat_lit 699,⟨(.type "code"),none,(.fields #[(.str "_law_rounds" 1073),(.str "_law_rounds" 1074),(.str "/claim/cut.py" 1075),(.int 356 0),(.int 2 0),(.int 0 0),(.int 0 0),(.int 3 0),(.ref 696),(.bool true),(.int 181 0),(.ref 697),.none,.none,.none,(.ref 698),(.int 1076 0),(.int 356 0),(.str "/claim/cut.py" 1077)]),#[]⟩) ::
 (nat_lit 700,Mk.fN "_law_rounds" "_law_rounds" (Mk.top 52) "law_markworks_k51_whole_first_unled" 1045 699) ::
 (nat_lit 704,⟨(.type "code"),none,(.fields #[(.str "_law_word" 1079),(.str "_law_word" 1080),(.str "/claim/cut.py" 1081),(.int 358 0),(.int 1 0),(.int 0 0),(.int 0 0),(.int 3 0),(.ref 701),(.bool true),(.int 181 0),(.ref 702),.none,.none,.none,(.ref 703),(.int 1082 0),(.int 358 0),(.str "/claim/cut.py" 1083)]),#[]⟩) ::
 (nat_lit 705,Mk.fN "_law_word" "_law_word" (Mk.top 53) "law_markworks_k51_whole_first_unled" 1045 704) ::
 (nat_lit 711,Mk.cO "_law_told" 1085 "_law_told" 1086 1087 368 1 0 0 3 706 707 708 709 710 1090 368 1091) ::
 (nat_lit 712,Mk.fN "_law_told" "_law_told" (Mk.top 54) "law_markworks_k51_whole_first_unled" 1045 711) ::
 (nat_lit 716,⟨(.type "code"),none,(.fields #[(.str "_law_bits_of" 1093),(.str "_law_bits_of" 1094),(.str "/claim/cut.py" 1095),(.int 381 0),(.int 1 0),(.int 0 0),(.int 0 0),(.int 3 0),(.ref 713),(.bool true),(.int 181 0),(.ref 714),.none,.none,.none,(.ref 715),(.int 1096 0),(.int 381 0),(.str "/claim/cut.py" 1097)]),#[]⟩) ::
 (nat_lit 717,Mk.fN "_law_bits_of" "_law_bits_of" (Mk.top 55) "law_markworks_k51_whole_first_unled" 1045 716) ::
 (nat_lit 723,Mk.cO "_law_rule_of" 1099 "_law_rule_of" 1100 1101 383 1 0 0 3 718 719 720 721 722 1103 383 1104) ::
 (nat_lit 724,Mk.fN "_law_rule_of" "_law_rule_of" (Mk.top 56) "law_markworks_k51_whole_first_unled" 1045 723) ::
 (nat_lit 728,⟨(.type "code"),none,(.fields #[(.str "_law_lines" 1106),(.str "_law_lines" 1107),(.str "/claim/cut.py" 1108),(.int 385 0),(.int 2 0),(.int 0 0),(.int 0 0),(.int 3 0),(.ref 725),(.bool true),(.int 181 0),(.ref 726),.none,.none,.none,(.ref 727),(.int 1109 0),(.int 385 0),(.str "/claim/cut.py" 1110)]),#[]⟩) ::
 (nat_lit 729,Mk.fN "_law_lines" "_law_lines" (Mk.top 57) "law_markworks_k51_whole_first_unled" 1045 728) ::
 (nat_lit 733,⟨(.type "code"),none,(.fields #[(.str "_law_table_of" 1112),(.str "_law_table_of" 1113),(.str "/claim/cut.py" 1114),(.int 404 0),(.int 1 0),(.int 0 0),(.int 0 0),(.int 3 0),(.ref 730),(.bool true),(.int 181 0),(.ref 731),.none,.none,.none,(.ref 732),(.int 1115 0),(.int 404 0),(.str "/claim/cut.py" 1116)]),#[]⟩) ::
 (nat_lit 734,Mk.fN "_law_table_of" "_law_table_of" (Mk.top 58) "law_markworks_k51_whole_first_unled" 1045 733) ::
 (nat_lit 740,Mk.cO "_law_made" 1118 "_law_made" 1119 1120 412 3 0 0 3 735 736 737 738 739 1126 412 1127) ::
 (nat_lit 741,Mk.fN "_law_made" "_law_made" (Mk.top 59) "law_markworks_k51_whole_first_unled" 1045 740) ::
 (nat_lit 745,⟨(.type "code"),none,(.fields #[(.str "_law_rule_with" 1129),(.str "_law_rule_with" 1130),(.str "/claim/cut.py" 1131),(.int 422 0),(.int 3 0),(.int 0 0),(.int 0 0),(.int 3 0),(.ref 742),(.bool true),(.int 181 0),(.ref 743),.none,.none,.none,(.ref 744),(.int 1132 0),(.int 422 0),(.str "/claim/cut.py" 1133)]),#[]⟩) ::
 (nat_lit 746,Mk.fN "_law_rule_with" "_law_rule_with" (Mk.top 60) "law_markworks_k51_whole_first_unled" 1045 745) ::
 (nat_lit 750,⟨(.type "code"),none,(.fields #[(.str "_law_broken" 1135),(.str "_law_broken" 1136),(.str "/claim/cut.py" 1137),(.int 433 0),(.int 4 0),(.int 0 0),(.int 0 0),(.int 3 0),(.ref 747),(.bool true),(.int 181 0),(.ref 748),.none,.none,.none,(.ref 749),(.int 1138 0),(.int 433 0),(.str "/claim/cut.py" 1139)]),#[]⟩) ::
 (nat_lit 751,Mk.fN "_law_broken" "_law_broken" (Mk.top 61) "law_markworks_k51_whole_first_unled" 1045 750) ::
 (nat_lit 755,⟨(.type "code"),none,(.fields #[(.str "_law_let_by" 1141),(.str "_law_let_by" 1142),(.str "/claim/cut.py" 1143),(.int 444 0),(.int 3 0),(.int 0 0),(.int 0 0),(.int 3 0),(.ref 752),(.bool true),(.int 181 0),(.ref 753),.none,.none,.none,(.ref 754),(.int 1144 0),(.int 444 0),(.str "/claim/cut.py" 1145)]),#[]⟩) ::
 (nat_lit 756,Mk.fN "_law_let_by" "_law_let_by" (Mk.top 62) "law_markworks_k51_whole_first_unled" 1045 755) ::
 (nat_lit 760,⟨(.type "code"),none,(.fields #[(.str "_law_edition" 1147),(.str "_law_edition" 1148),(.str "/claim/cut.py" 1149),(.int 449 0),(.int 2 0),(.int 0 0),(.int 0 0),(.int 3 0),(.ref 757),(.bool true),(.int 181 0),(.ref 758),.none,.none,.none,(.ref 759),(.int 1150 0),(.int 449 0),(.str "/claim/cut.py" 1151)]),#[]⟩) ::
 (nat_lit 761,Mk.fN "_law_edition" "_law_edition" (Mk.top 63) "law_markworks_k51_whole_first_unled" 1045 760) ::
 (nat_lit 767,Mk.cO "_law_goal" 1153 "_law_goal" 1154 1155 459 4 0 0 3 762 763 764 765 766 1167 459 1168) ::
 (nat_lit 768,Mk.fN "_law_goal" "_law_goal" (Mk.top 64) "law_markworks_k51_whole_first_unled" 1045 767) ::
 (nat_lit 774,Mk.cO "_law_led" 1170 "_law_led" 1171 1172 470 5 0 0 3 769 770 771 772 773 1179 470 1180) ::
 (nat_lit 775,Mk.fN "_law_led" "_law_led" (Mk.top 65) "law_markworks_k51_whole_first_unled" 1045 774) ::
 (nat_lit 781,Mk.cO "law" 1182 "law" 1183 1184 475 1 0 0 3 776 777 778 779 780 1205 475 1206) ::
 (nat_lit 782,Mk.fN "law" "law" (Mk.top 66) "law_markworks_k51_whole_first_unled" 1045 781) ::
 []
noncomputable def Mk.Kf (P : PySem.Params) : PySem.W.Frag:=(nat_lit 777,⟨.none,none,(.fields #[]),#[]⟩) :: Mk.Kg P
noncomputable def Mk.Kas : List Nat:=777 :: 2 :: 3 :: 29 :: 35 :: 36 :: 38 :: 39 :: 59 :: 71 :: 83 :: 95 :: 114 :: 125 :: 126 :: 145 :: 157 :: 169 :: 184 :: 185 :: 187 :: 188 :: 200 :: 203 :: 209 :: 210 :: 214 :: 215 :: 221 :: 222 :: 228 :: 229 :: 233 :: 234 :: 240 :: 241 :: 245 :: 246 :: 252 :: 253 :: 257 :: 258 :: 262 :: 263 :: 269 :: 270 :: 276 :: 277 :: 283 :: 284 :: 292 :: 298 :: 299 :: 305 :: 306 :: 312 :: 313 :: 329 :: 330 :: 336 :: 337 :: 343 :: 344 :: 350 :: 351 :: 360 :: 361 :: 371 :: 372 :: 378 :: 379 :: 392 :: 393 :: 399 :: 400 :: 406 :: 407 :: 411 :: 412 :: 418 :: 419 :: 425 :: 426 :: 435 :: 436 :: 446 :: 447 :: 451 :: 452 :: 456 :: 457 :: 461 :: 462 :: 475 :: 476 :: 482 :: 483 :: 489 :: 490 :: 496 :: 497 :: 503 :: 504 :: 510 :: 511 :: 517 :: 518 :: 541 :: 542 :: 550 :: 551 :: 555 :: 556 :: 564 :: 565 :: 566 :: 570 :: 571 :: 577 :: 578 :: 584 :: 585 :: 591 :: 592 :: 598 :: 599 :: 605 :: 606 :: 633 :: 634 :: 640 :: 641 :: 669 :: 670 :: 680 :: 681 :: 687 :: 688 :: 694 :: 695 :: 699 :: 700 :: 704 :: 705 :: 711 :: 712 :: 716 :: 717 :: 723 :: 724 :: 728 :: 729 :: 733 :: 734 :: 740 :: 741 :: 745 :: 746 :: 750 :: 751 :: 755 :: 756 :: 760 :: 761 :: 767 :: 768 :: 774 :: 775 :: 781 :: 782 :: []
noncomputable def Mk.loose : List PySem.Str:=Str.ofString "_wall" :: Str.ofString "MarkError" :: Str.ofString "BadRows" :: Str.ofString "BadRule" :: Str.ofString "BadName" :: Str.ofString "BadNumber" :: Str.ofString "BadRest" :: Str.ofString "Unlike" :: Str.ofString "BadText" :: Str.ofString "BadPairs" :: Str.ofString "Never" :: Str.ofString "Unled" :: Str.ofString "Nothing" :: Str.ofString "GREATEST" :: Str.ofString "MOST_ROWS" :: Str.ofString "LONGEST_NAME" :: Str.ofString "RULES" :: Str.ofString "is_whole" :: Str.ofString "is_name" :: Str.ofString "is_mark" :: Str.ofString "union_of" :: Str.ofString "unions_of" :: Str.ofString "is_one_of" :: Str.ofString "mark_bits" :: Str.ofString "next_mark" :: Str.ofString "is_names_of" :: Str.ofString "thing_number" :: Str.ofString "row_number" :: Str.ofString "numbered" :: Str.ofString "first_names" :: Str.ofString "Kind" :: Str.ofString "LIMIT" :: Str.ofString "is_number" :: Str.ofString "rest_of" :: Str.ofString "Value" :: Str.ofString "made" :: Str.ofString "value_of" :: Str.ofString "is_entry" :: Str.ofString "table_of" :: Str.ofString "Edition" :: Str.ofString "is_pair" :: Str.ofString "pairs_of" :: Str.ofString "Rule" :: Str.ofString "_law_cell" :: Str.ofString "_law_drawn" :: Str.ofString "_law_roll" :: Str.ofString "_law_rounds" :: Str.ofString "_law_word" :: Str.ofString "_law_told" :: Str.ofString "_law_bits_of" :: Str.ofString "_law_rule_of" :: Str.ofString "_law_lines" :: Str.ofString "_law_table_of" :: Str.ofString "_law_made" :: Str.ofString "_law_rule_with" :: Str.ofString "_law_broken" :: Str.ofString "_law_let_by" :: Str.ofString "_law_edition" :: Str.ofString "_law_goal" :: Str.ofString "_law_led" :: []
def Mk.T0 (P : Params) : BT:=.node (boot_o_0 P)
  (.node (boot_o_1 P) (.node (boot_o_3 P) (.node (boot_o_7 P) .nil .nil) .nil) (.node (boot_o_5 P) (.node (boot_o_9 P) .nil .nil) .nil))
  (.node (boot_o_2 P) (.node (boot_o_4 P) (.node (boot_o_8 P) .nil .nil) .nil) (.node (boot_o_6 P) (.node (boot_o_10 P) .nil .nil) .nil))
theorem Mk.tree (P : Params) : absHeap (Mk.T0 P) (nat_lit 11) {} = boot_heap P:=by kernel_rfl
theorem Mk.size (w : World) : ((boot_heap w.params).isNs mainGlobals,(boot_heap w.params).objs.size,(boot_heap w.params).nsMap mainGlobals "__annotations__") = (true,(nat_lit 11),some (.ref (nat_lit 6))):=by kernel_rfl
theorem Mk.opens (w : World) : (fencedOpening treeTable PySem.Challenge.pw_markworks_k51_whole_first_unled w (nat_lit 12334)).map (fun s=>(s.heap,s.gens,s.drawn,s.toks)) = some (boot_heap w.params,#[],boot_drawn,boot_toks):=boot_open qd qc (fun s=>qd) w
theorem Mk.twin : Function.const _ true (@Hd.runT,@Hd.looksAt,PySem.Challenge.pw_markworks_k51_whole_first_unled,Mk.Kf,Mk.loose) = true:=by k_qdec
abbrev Mk.qv : Program := view PySem.Challenge.pw_markworks_k51_whole_first_unled [nat_lit 66]
abbrev Mk.Xt (s : Shared) : Bool := xlAt Mk.qv [] s && recOk [] s
theorem Mk.run_q (w : World) (os : OsState) : (Option.map (fun s => Fast.tw8257016192812374322 Fast.tw9918834466464653625 (view Fast.tw9918834466464653625 [nat_lit 66]) Fast.tw2924075613660010442 (fun s => xlAt (view Fast.tw9918834466464653625 [nat_lit 66]) [] s && recOk [] s) Mk.Kas (boot_heap w.params) s.abs)
      (Fast.tw16599536794577742827 Fast.tw14364793385576792824 Fast.tw9918834466464653625 w (nat_lit 11) (some (Value.ref (nat_lit 6))) (nat_lit 6119) ⟨Mk.T0 w.params,nat_lit 11,{},#[],boot_drawn,boot_toks,os⟩ (topStub Fast.tw9918834466464653625))) =
    some (true,openGood (view Fast.tw9918834466464653625 [nat_lit 66]) Fast.tw2924075613660010442,(Fast.tw12104304683883722232 w.params).map fun x=>some x.2):=by kernel_rfl
theorem Mk.left : LeftO PySem.Challenge.pw_markworks_k51_whole_first_unled Mk.qv Mk.loose Mk.Xt (fun s=>Mk.Kas.map s.heap.get?) (fun w=>(Mk.Kf w.params).map fun x=>some x.2) (nat_lit 12334):=by
  refine Hd.left_of (M:=nat_lit 6119) (T0:=Mk.T0) Mk.opens Mk.tree Mk.size qc fun w os=>?_
  have h:=Mk.run_q w os
  rw[←Fast.te8257016192812374322,←Fast.te9918834466464653625,←Fast.te2924075613660010442,←Fast.te16599536794577742827,←Fast.te14364793385576792824,←Fast.te12104304683883722232]at h
  exact h
theorem Mk.kg_in {P : Params}{h : Heap} (X : (Mk.Kf P).In h) : (Mk.Kg P).In h /\ h.get? 777 = some (tabObj #[]):=by
  have e : (Mk.Kg P).lookup 777 = none:=by kernel_rfl
  refine⟨fun b o z=>X b o ?_,X _ _ (by unfold Mk.Kf;rw[List.lookup_cons];rfl)⟩
  unfold Mk.Kf
  rw[List.lookup_cons]
  have nb : (b == 777) = false:=by
    cases q : (b == 777)with
    |false=>rfl
    |true=>rw[beq_iff_eq.mp q,e]at z;cases z
  rw[nb]
  exact z
def Mk.dL : DefRec:=⟨"law", L2.defArgs (Mk.top (nat_lit 66)),L2.defBody (Mk.top (nat_lit 66)),L2.defScope (Mk.top (nat_lit 66)),match Mk.top (nat_lit 66)with | .FunctionDef _ _ _ _ _ _ _ _ _ p=>p |_=>⟨0,0,0,0⟩⟩
end
open PySem PySem.W PyProof.Rows
set_option maxRecDepth 100000 in
set_option maxHeartbeats 0 in
theorem PySem.Challenge.cw_markworks_k51_whole_first_unled_holds : PySem.Challenge.rw_markworks_k51_whole_first_unled.Holds := by
  w_on;o_law
  refine PySem.W.holds_open (r:=PySem.Challenge.rw_markworks_k51_whole_first_unled.row) (q:=Mk.qv) (loose:=Mk.loose) (Xt:=Mk.Xt) (XP:=XL Mk.qv []) (YP:=InK Mk.Kf) (d:=Mk.dL) (kwd:=[]) Mk.left
    (fun w s e=>InK.of (fun P=>qd) w s e) InK.keeps (fun s e=>xl_of s (Bool.and_eq_true_iff.mp e).1) XL.keeps qd qd qd (fun s e=>recFacts_of (Bool.and_eq_true_iff.mp e).2) (by rfl) (by assumption) qb ⟨rfl,rfl,rfl,rfl,rfl,qb⟩ ?hw ?hc
  case hw=>w_witness2
  have aux : Function.const _ True (PySem.Challenge.rw_markworks_k51_whole_first_unled,Mk.Kg):=by k_fill;trivial
  refine Mk.walk (l:=PySem.Challenge.rw_markworks_k51_whole_first_unled) (c:=781) (P0:=777) (K:=Mk.Kg) rfl rfl (fun w h Y=>⟨(Mk.kg_in Y).1,(Mk.kg_in Y).2,qd,Mk.codeHd_of (Mk.kg_in Y).1 qd⟩) ?F
  case F =>
    intro w mg fa h KX G hmg
    refine' Mk.all_mk KX G hmg ?aC ?aVC ?aEC ?aRC ?aM ?aX0 ?aX1 ?aX2 ?aX3 ?aX4 ?aX5 ?aX6 ?aX7 ?aX8 ?aX9 ?aX10 ?z_VE ?hwh ?hnm ?huo ?hnx ?hoo ?hno ?hth ?hro ?hnb ?hfi ?him ?hmR ?hmK ?hmT ?hmM ?hmE ?hlc ?hld ?hlr ?hls ?hll ?hxn ?hxr ?hxi ?hxN ?hxK ?hxE ?hmN ?hmb ?huq ?hlb ?hlu ?hlt ?hxM ?hxR ?hvo ?hmd ?heE ?heT ?hek ?heo ?hrp ?hrq ?hrf ?hrk ?hrc ?hrn ?hrO ?hrF ?hrL ?hlm ?hlg ?hlk ?hlB ?hlY ?heI ?heN ?heL ?heJ ?heU ?hui ?hle ?hlW ?hlw ?hlo ?ain ?iin ?lin ?cin ?kin ?ala ?lla ?cla ?kla ?aei ?iei ?lei ?cei ?kei ?kdl ?kde ?kdr ?dtl ?vG ?vM ?vL ?vLi ?vR ?qn ?qt ?fC ?fVC ?fEC ?fRC ?nC_numbers ?nC_firsts ?nC_rule ?nVC_own_kind ?nVC_bits ?nEC_own_kind ?nEC_second_kind ?nEC_table ?nRC_own_kind ?nRC_numbered_marks ?nRC_needs ?nRC_bars ?nRC_let_numbers ?xm ?xc0 ?xc1 ?xc2 ?xc3 ?y7 ?y3 ?xmg ?xmr ?xmf ?rL ?z_len ?z_isinstance ?z_max ?z_min ?z_range ?z_list ?z_tuple ?z_sorted ?z_sum ?z_all ?z_enumerate ?z_int ?z_bool ?z_str ?z_dict ?ari ?iri ?lri ?cri ?kri ?k2l ?k2e ?k2n ?k2b ?t5l ?t6l
    case aC |aVC |aEC |aRC |aM |aX0 |aX1 |aX2 |aX3 |aX4 |aX5 |aX6 |aX7 |aX8 |aX9 |aX10 |z_VE=>k_is
    case hwh |hnm |huo |hnx |hoo |hno |hth |hro |hnb |hfi |him =>
      refine' ⟨_,_,?a,L2.fun_mk ?b ?c ?d⟩
      case a |b |c |d=>k_is
    case hmR |hmK |hmT |hmM |hmE =>
      refine' ⟨_,_,?a,?i,⟨_,?o,?q⟩,L2.fun_mk ?b ?c ?d⟩
      case a |i |b=>k_is
      case o |q=>first |rfl |k_is
      case c |d=>k_is
    case hlc |hld |hlr |hls |hll |hxn |hxr =>
      refine' ⟨_,_,?a,L2.fun_mk ?b ?c ?d⟩
      case a |b |c |d=>k_is
    case hxi |hxN |hxK |hxE |hmN =>
      refine' ⟨_,_,?a,?i,⟨_,?o,?q⟩,L2.fun_mk ?b ?c ?d⟩
      case a |i |b=>k_is
      case o |q=>first |rfl |k_is
      case c |d=>k_is
    case hmb |huq |hlb |hlu |hlt =>
      refine' ⟨_,_,?a,L2.fun_mk ?b ?c ?d⟩
      case a |b |c |d=>k_is
    case hxM |hxR =>
      refine' ⟨_,_,?a,?i,⟨_,?o,?q⟩,L2.fun_mk ?b ?c ?d⟩
      case a |i |b=>k_is
      case o |q=>first |rfl |k_is
      case c |d=>k_is
    case hvo |hmd |heE |heT =>
      refine' ⟨_,_,?a,L2.fun_mk ?b ?c ?d⟩
      case a |b |c |d=>k_is
    case hek |heo =>
      refine' ⟨_,_,?a,?i,⟨_,?o,?q⟩,L2.fun_mk ?b ?c ?d⟩
      case a |i |b=>k_is
      case o |q=>first |rfl |k_is
      case c |d=>k_is
    case hrp |hrq =>
      refine' ⟨_,_,?a,L2.fun_mk ?b ?c ?d⟩
      case a |b |c |d=>k_is
    case hrf |hrk |hrc |hrn |hrO |hrF |hrL =>
      refine' ⟨_,_,?a,?i,⟨_,?o,?q⟩,L2.fun_mk ?b ?c ?d⟩
      case a |i |b=>k_is
      case o |q=>first |rfl |k_is
      case c |d=>k_is
    case hlm |hlg |hlk |hlB |hlY =>
      refine' ⟨_,_,?a,L2.fun_mk ?b ?c ?d⟩
      case a |b |c |d=>k_is
    case heI |heN |heL |heJ |heU |hui =>
      refine' ⟨_,_,?a,?i,⟨_,?o,?q⟩,L2.fun_mk ?b ?c ?d⟩
      case a |i |b=>k_is
      case o |q=>first |rfl |k_is
      case c |d=>k_is
    case hle |hlW |hlw |hlo =>
      refine' ⟨_,_,?a,L2.fun_mk ?b ?c ?d⟩
      case a |b |c |d=>k_is
    case ain |iin |lin |cin |kin |ala |lla |cla |kla |aei |iei |lei |cei |kei |kdl=>k_is
    case kde=>simp
    case kdr |dtl |vG |vM |vL |vLi |vR |qn |qt=>k_is
    case fC |fVC |fEC |fRC =>
      refine' ⟨?_,?_,?_,?_,?_,?_,?_,?_,?_,?_,?_,?_,?_,?_⟩ <;> k_is
    case nC_numbers |nC_firsts |nC_rule |nVC_own_kind |nVC_bits |nEC_own_kind |nEC_second_kind |nEC_table |nRC_own_kind |nRC_numbered_marks |nRC_needs |nRC_bars |nRC_let_numbers=>k_is
    case xm |xc0 |xc1 |xc2 |xc3=>kernel_rfl
    case y7 =>
      exact⟨⟨qd,qd,qd,qd,qd,qd,qd,qd,qd,qd⟩,qd,qd,qd⟩
    case y3 =>
      exact⟨⟨qd,qd,qd,qd,qd,qd,qd,qd,qd,qd⟩,qd,qd,qd,qd,qd,qd⟩
    case xmg |xmr |xmf=>kernel_rfl
    case rL |z_len |z_isinstance |z_max |z_min |z_range |z_list |z_tuple |z_sorted |z_sum |z_all |z_enumerate |z_int |z_bool |z_str |z_dict |ari |iri |lri |cri |kri |k2l=>k_is
    case k2e=>simp
    case k2n |k2b |t5l |t6l=>k_is
