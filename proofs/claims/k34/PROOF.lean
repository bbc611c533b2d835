import PyProof.Rows.All
import Wide.All
import OpenK.AllK
import PySem.Challenge.RW_markworks_k34_whole_alike
set_option genSizeOf false
set_option Elab.async false
set_option linter.all false
set_option maxRecDepth 100000
set_option maxHeartbeats 4000000
abbrev Xe:=PySem.Shared
abbrev Xd:=PySem.Addr
abbrev Xb:=List PySem.Value
abbrev Xa:=List PySem.Str
theorem Zj {α:Sort _} {a:α}:a=a:=rfl
abbrev Z9:=@Array.getElem?_eq_some_iff
abbrev Z8:=@List.getElem?_eq_some_iff
abbrev Z7:=@List.getElem?_eq_getElem
abbrev Z6:=@Option.map_eq_some_iff
abbrev Z5:=@PySem.lookup_relabel_local
abbrev Z4:=@PySem.wpAny_isSubtype_exc
abbrev Z3:=@PySem.wpAny_Call_Name_kw
abbrev Z2:=@Nat.lt_of_lt_of_le
abbrev Z1:=@Int.natCast_nonneg
abbrev Z0:=@PySem.wpAny_truthy_bool
abbrev ZY:=@PySem.wpAny_loadPart_at
abbrev ZX:=@PySem.Heap.get?_push_of_some
abbrev ZW:=@PySem.Heap.get?_update_other
abbrev ZV:=@of_decide_eq_true
abbrev ZU:=@PySem.Heap.get?_update_self
abbrev ZT:=@List.mem_append_right
abbrev ZS:=@List.length_filter_le
abbrev ZR:=@List.mem_cons_of_mem
abbrev ZQ:=@List.mem_of_getElem?
abbrev ZP:=@List.mem_append_left
abbrev ZO:=@decide_eq_false
abbrev ZN:=@PySem.Heap.get?_push_size
abbrev ZM:=@List.filterMap_cons
abbrev ZL:=@decide_eq_true
abbrev ZK:=@PySem.wpAny_holding
abbrev ZJ:=@PySem.wpAny_standAt
abbrev ZI:=@List.mem_cons_self
abbrev ZH:=@List.length_append
abbrev ZG:=@List.mem_singleton
abbrev ZF:=@Nat.lt_irrefl
abbrev ZE:=@List.getElem?_map
abbrev ZD:=@List.take_add_one
abbrev ZC:=@Nat.ne_of_lt
abbrev ZB:=@List.take_length
abbrev ZA:=@List.length_take
abbrev Zz:=@List.lookup_cons
abbrev Zy:=@Nat.le_refl
abbrev Zx:=@PySem.wpAny_bind
abbrev Zw:=@PySem.wpAny_pure
abbrev Zv:=@PySem.wpAny_mono
abbrev Zu:=@List.map_append
abbrev Zt:=@List.append_nil
abbrev Zs:=@List.nodup_cons
abbrev Zr:=@List.mem_map
abbrev Zq:=@if_neg
abbrev Zp:=@if_pos
theorem qb {p:Prop} (h:p:=by decide +kernel):p:=h
theorem qc {p:Prop} (h:p:=by decide):p:=h
theorem qe {p:Prop} (h:p:=by omega):p:=h
theorem qd {α:Sort _} {a b:α} (h:a=b:=by kernel_rfl):a=b:=h
theorem AJ {α:Type u}{β:Type v}{as:List α} (f:α->β):(as.map f).length=as.length:=List.length_map f
abbrev Aa:=List (PySem.Str×Nat)
abbrev VS:=PySem.Value->PySem.Shared->Prop
abbrev LO:=List (PySem.Addr×PySem.Obj)
abbrev SV:=PySem.Str->Option PySem.Value
open PySem in
abbrev FG:=W.Frag
open List (all_append all_map any_cons any_eq_true any_map append_nil cons_lt_cons_iff contains_cons filterMap_cons filter_cons find?_cons foldl_append foldl_cons getD_eq_getElem?_getD getElem?_append_right getElem?_map getElem_mem length_append length_cons length_filter_le length_nil length_singleton length_take lookup_cons map_append map_cons map_map map_nil mem_append mem_append_left mem_append_right mem_cons mem_cons_of_mem mem_cons_self mem_filter mem_map mem_of_getElem? mem_of_mem_take mem_range mem_singleton nil_append nodup_cons nodup_nil not_mem_nil of_mem_zip pairwise_cons pairwise_map size_toArray sum_append sum_cons take_add_one take_length take_of_length_le)
open PySem.Heap (get?_push_of_some get?_push_size get?_update_other get?_update_self lt_size)
section
namespace L2
open PySem
theorem sl1:1<=sizeLine:=by decide
theorem eO:2<=sizeLine:=by decide
theorem eX:3<=sizeLine:=by decide
theorem sl4:4<=sizeLine:=by decide
theorem sl6:6<=sizeLine:=by decide
theorem sl7:7<=sizeLine:=by decide
theorem sl9:9<=sizeLine:=by decide
end L2
end
section
namespace L2
open PySem PySem.Spec PyProof.Rows
abbrev Key:=Sum Int Str
noncomputable def Gm:Key->Value->Bool
 | .inl k,v=>Value.isInt k v
 | .inr x,v=>Value.isStrOf x v
noncomputable def WH (w:World):Key->Int
 | .inl k=>hashInt k
 | .inr x=>hashStr w x
theorem A1:∀ {k:Key}{v:Value},Gm k v=true->(∃i t,k=Sum.inl i/\v=Value.int i t)\/(∃x t,k=Sum.inr x/\v=Value.str x t)
 | .inl i,v,h=>by
  obtain⟨t,e⟩:=Value.isInt_shape (k:=i) (v:=v) h;exact .inl ⟨i,t,Zj,e⟩
 | .inr x,v,h=>by
  obtain⟨t,e⟩:=Value.isStrOf_shape (x:=x) (v:=v) h;exact .inr ⟨x,t,Zj,e⟩
theorem OM (i:Int) (t:Tok):Gm (.inl i) (.int i t)=true:=by simp[Gm,Value.isInt]
theorem ON (x:Str) (t:Tok):Gm (.inr x) (.str x t)=true:=by simp[Gm,Value.isStrOf]
theorem Tp (a b:Int):decide ((Sum.inl a:Key)=Sum.inl b)=(a==b):=by
 by_cases e:a=b
 ·subst e;simp
 ·have h:¬ (Sum.inl a:Key)=Sum.inl b:=λq=>e (Sum.inl.inj q);rw[ZO h];exact(beq_eq_false_iff_ne.mpr e).symm
theorem Tq (a b:Str):decide ((Sum.inr a:Key)=Sum.inr b)=decide (a=b):=by
 by_cases e:a=b
 ·subst e;simp
 ·have h:¬ (Sum.inr a:Key)=Sum.inr b:=λq=>e (Sum.inr.inj q);rw[ZO h,ZO e]
theorem Ts (a:Int) (b:Str):decide ((Sum.inl a:Key)=Sum.inr b)=false:=ZO (λq=>nomatch q)
theorem Tt (a:Str) (b:Int):decide ((Sum.inr a:Key)=Sum.inl b)=false:=ZO (λq=>nomatch q)
noncomputable def AU (prog:Program) (w:World):PySem.KeyKind prog w Key where
 is:=Gm
 hash:=WH w
 inj:=λv a b ha hb=>by
  rcases A1 ha with⟨i,t,rfl,rfl⟩ |⟨x,t,rfl,rfl⟩
  ·rcases A1 hb with⟨j,u,rfl,e⟩ |⟨y,u,rfl,e⟩
   ·injection e with e1 _;rw[e1]
   ·exact nomatch e
  ·rcases A1 hb with⟨j,u,rfl,e⟩ |⟨y,u,rfl,e⟩
   ·exact nomatch e
   ·injection e with e1 _;rw[e1]
 byValue:=λk v h=>by
  rcases A1 h with⟨i,t,rfl,rfl⟩ |⟨x,t,rfl,rfl⟩ <;> rfl
 pyHash:=λhv h=>by
  rcases A1 hv with⟨i,t,rfl,rfl⟩ |⟨x,t,rfl,rfl⟩
  ·exact wpAny_pyHash_int h
  ·exact wpAny_pyHash_str h
 eqBool:=λhu hv h=>by
  rcases A1 hu with⟨i,t,rfl,rfl⟩ |⟨x,t,rfl,rfl⟩
  ·rcases A1 hv with⟨j,u,rfl,rfl⟩ |⟨y,u,rfl,rfl⟩
   ·rw[Tp]at h;exact wpAny_eqBool_int h
   ·rw[Ts]at h;exact SeqAt.EqAt.int_str i t y u _ _ _ _ h
  ·rcases A1 hv with⟨j,u,rfl,rfl⟩ |⟨y,u,rfl,rfl⟩
   ·rw[Tt]at h;exact SeqAt.EqAt.str_int x t j u _ _ _ _ h
   ·rw[Tq]at h;exact wpAny_eqBool_str h
 «strs»:=λk x t v h=>by
  rcases A1 h with⟨i,u,rfl,e⟩ |⟨y,u,rfl,e⟩
  ·exact nomatch e
  ·injection e with e1 _
   subst e1;cases v <;> rfl
theorem J9 (prog:Program) (w:World) (i:Int) (t:Tok):(AU prog w).is (.inl i) (.int i t)=true:=OM i t
theorem Dm (prog:Program) (w:World) (x:Str) (t:Tok):(AU prog w).is (.inr x) (.str x t)=true:=ON x t
inductive V where
 |aP |bl (b:Bool) |int (i:Int) |str (x:Str) |iB (b:Array UInt8) |jy (b:UInt64) |ref (a:Xd) |ty (n:String)
 deriving DecidableEq
abbrev _root_.Xc:=List V
def RelV:V->Value->Prop
 | .aP,u=>u=Value.none
 | .bl b,u=>u=Value.bool b
 | .int i,u=>∃t,u=Value.int i t
 | .str x,u=>∃t,u=Value.str x t
 | .iB b,u=>∃t,u=Value.bytes b t
 | .jy b,u=>∃t,u=Value.float b t
 | .ref a,u=>u=Value.ref a
 | .ty n,u=>u=Value.type n
abbrev Vals:Xc->Xb->Prop:=Paired RelV
theorem Vals.length {xs:Xc}{us:Xb} (r:Vals xs us):xs.length=us.length:=Paired.length r
theorem Vals.get:∀ {xs:Xc}{us:Xb}{i:Nat}{x:V},Vals xs us->xs[i]?=some x->∃u,us[i]?=some u/\RelV x u
 |_,_,_,_,.nil,e=>by simp at e
 |_,_,0,_,.cons r _,e=>by simp at e;subst e;exact⟨_,Zj,r⟩
 |_,_,i+1,x,.cons _ t,e=>by
  obtain⟨u,h1,h2⟩:=Vals.get (i:=i) (x:=x) t (by simpa using e);exact⟨u,by simpa using h1,h2⟩
theorem Vals.set {x:V}{u:Value} (r:RelV x u):∀ {xs:Xc}{us:Xb} (i:Nat),Vals xs us->Vals (xs.set i x) (us.set i u)
 |_,_,_,.nil=>.nil
 |_,_,0,.cons _ t=>.cons r t
 |_,_,i+1,.cons q t=>.cons q (Vals.set r i t)
theorem Vals.append:∀ {xs ys:Xc}{us ws:Xb},Vals xs us->Vals ys ws->Vals (xs++ys) (us++ws)
 |_,_,_,_,.nil,s=>s
 |_,_,_,_,.cons r t,s=>.cons r (Vals.append t s)
def d8:Option V->Option Value->Prop
 |some v,some u=>RelV v u
 |none,none=>True
 |_,_=>False
def KV {κ:Type}:List (κ×V)->List (κ×Value)->Prop:=Paired λ(p:κ×V) (q:κ×Value)=>p.1=q.1/\RelV p.2 q.2
noncomputable def kV:Key->V
 | .inl i=>.int i
 | .inr x=>.str x
abbrev LK:=List (Key×V)
inductive HO where
 |lst (xs:Xc)
 |tup (xs:Xc)
 |dK (kvs:LK) |dT (kvs:List (List Key×V))
 |set (S:Int->Bool) (n:Nat)
 |ins (C dx:Xd) (fs:List (Str×V))
 |own (x:Xd)
 |xd (fs:List (Str×V))
 |met (f x:Xd)
 |rng (lo hi:Int)
 |cQ (o:Obj) (u:HO)
 |fk (ps:Array Value)
 |ext (φ:Heap->Prop)
set_option genInjectivity false
abbrev Hp:=Xd->Option HO
noncomputable def upd (H:Hp) (a:Xd) (o:HO):Hp:=λb=>if b=a then some o else H b
theorem AB {H:Hp}{a:Xd}{o:HO}:upd H a o a=some o:=by unfold upd;rw[Zp rfl]
theorem AH {H:Hp}{a b:Xd}{o:HO} (h:b≠a):upd H a o b=H b:=by unfold upd;rw[Zq h]
theorem Rm {H:Hp}{a:Xd}{o u:HO}:upd (upd H a o) a u=upd H a u:=by
 funext b;unfold upd;split <;> rfl
theorem NE {H:Hp}{a b:Xd}{o u:HO} (h:H a=some o) (h':H b=some u) (d:o≠u):a≠b:=by
 intro e;subst e;rw[h]at h';exact d (Option.some.inj h')
theorem AI {H:Hp}{a b:Xd}{o:HO} (h:H a=some o) (h':H b=none):a≠b:=by
 intro e;subst e;rw[h]at h';cases h'
section
variable (P:Program) (w:World)
def aS (H:Hp) (h:Heap) (a:Xd):HO->Prop
 | .lst xs=>xs.length<=sizeLine/\∃(its:Xb) (n:Nat),Vals xs its/\h.get? a=some { cls:=.type "list", data:=.seq its.toArray n }
 | .tup xs=>xs.length<=sizeLine/\∃its:Xb,Vals xs its/\IsTup h a its.toArray
 | .dK kvs=>kvs.length<=sizeLine/\(a==sysModules)=false/\∃vs,KV kvs vs/\h.DictOf (AU P w) a vs
 | .dT kvs=>kvs.length<=sizeLine/\(a==sysModules)=false/\∃xs:List (List Key×Xd×Value),
   Paired (λ(p:List Key×V) (q:List Key×Xd×Value)=>p.1=q.1/\H q.2.1=some (.tup (p.1.map kV))/\RelV p.2 q.2.2) kvs xs /\
   ∃o es ep,h.get? a=some o/\o.ExactDict/\o.data=.dict es ep/\es.toList=xs.map (entryOfKey (tupleKind (AU P w)))/\(xs.map (·.1)).Nodup
 | .set S n=>h.SetOf (intKind P w) a S n
 | .ins C dx fs=>H dx=some (.own a)/\fs.length<=1000/\dx≠a/\h.get? a=some (W.instObj C dx) /\
   ∃mA,h.Ns1 dx mA/\(∀f,d8 (fs.lookup f) (mA f))/\PySem.Within mA (fs.map (·.1))
 | .own _=>∃o,h.get? a=some o
 | .xd fs=>∃mA,h.Ns1 a mA/\∀f,d8 (fs.lookup f) (mA f)
 | .rng lo hi=>∃t u v,h.get? a=some { cls:=.type "range", data:=.fields #[.int lo t,.int hi u,.int 1 v] }
 | .cQ o u=>h.get? a=some o/\aS H h a u
 | .fk ps=>h.get? a=some { cls:=.none,data:=.fields ps }
 | .met f x=>h.get? a=some (W.methodObj (.ref f) (.ref x))
 | .ext φ=>φ h/\(∃o,h.get? a=some o)/\∀h1 h2:Heap,φ h1->(∀o,h1.get? a=some o->h2.get? a=some o)->φ h2
def dq (H:Hp) (h:Heap):Prop:=∀a o,H a=some o->aS P w H h a o
end
section
variable {P:Program}{w:World}{H H':Hp}{h h':Heap}{a:Xd}{o:HO}
theorem aS.lt (x:aS P w H h a o):a<h.objs.size:=by
 cases o with
 |lst xs=>obtain⟨_,_,_,_,e⟩:=x;exact lt_size e
 |tup xs=>obtain⟨_,_,_,p⟩:=x;exact p.lt
 |dK kvs=>obtain⟨_,_,_,_,o,_,_,e,_⟩:=x;exact lt_size e
 |dT kvs=>obtain⟨_,_,_,_,o,_,_,e,_⟩:=x;exact lt_size e
 |set S n=>obtain⟨o,_,_,_,e,_⟩:=x;exact lt_size e
 |ins C dx fs=>obtain⟨_,_,_,e,_⟩:=x;exact lt_size e
 |own y=>obtain⟨_,e⟩:=x;exact lt_size e
 |xd fs=>obtain⟨_,⟨_,_,_,e,_⟩,_⟩:=x;exact lt_size e
 |rng lo hi=>obtain⟨_,_,_,e⟩:=x;exact lt_size e
 |cQ ob u=>obtain⟨e,_⟩:=x;exact lt_size e
 |fk ps=>exact lt_size (show h.get? a=some _ from x)
 |met f y=>exact lt_size (show h.get? a=some _ from x)
 |ext φ=>obtain⟨_,⟨_,e⟩,_⟩:=x;exact lt_size e
theorem Paired.mapP {α β:Type}{F G:α->β->Prop}:∀ {l₁:List α}{l₂:List β},Paired F l₁ l₂->(∀a b,F a b->G a b)->Paired G l₁ l₂
 |_,_,.nil,_=>.nil
 |_,_,.cons r t,f=>.cons (f _ _ r) (Paired.mapP t f)
theorem aS.fc (x:aS P w H h a o) (k:∀b u,(b=a\/H b=some (.own a))->h.get? b=some u->h'.get? b=some u)
  (ho:∀b,H b=some (.own a)->H' b=some (.own a)) (ht:∀b xs,H b=some (.tup xs)->H' b=some (.tup xs)):aS P w H' h' a o:=by
 induction o with
 |lst xs=>obtain⟨z,its,n,r,e⟩:=x;exact⟨z,its,n,r,k _ _ (.inl Zj) e⟩
 |tup xs=>obtain⟨z,its,r,ob,e,c⟩:=x;exact⟨z,its,r,ob,k _ _ (.inl Zj) e,c⟩
 |dK kvs=>obtain⟨z,y,vs,r,ob,es,ep,e,c⟩:=x;exact⟨z,y,vs,r,ob,es,ep,k _ _ (.inl Zj) e,c⟩
 |dT kvs =>
  obtain⟨z,y,xs,r,ob,es,ep,e,c⟩:=x;exact⟨z,y,xs,Paired.mapP r λp q z=>⟨z.1,ht _ _ z.2.1,z.2.2⟩,ob,es,ep,k _ _ (.inl Zj) e,c⟩
 |set S n=>obtain⟨ob,es,ep,t,e,c⟩:=x;exact⟨ob,es,ep,t,k _ _ (.inl Zj) e,c⟩
 |ins C dx fs =>
  obtain⟨d,z,ne,e,mA,⟨od,es,ep,e2,c⟩,r⟩:=x;exact⟨ho _ d,z,ne,k _ _ (.inl Zj) e,mA,⟨od,es,ep,k _ _ (.inr d) e2,c⟩,r⟩
 |own y=>obtain⟨ob,e⟩:=x;exact⟨ob,k _ _ (.inl Zj) e⟩
 |xd fs=>obtain⟨mA,⟨od,es,ep,e,c⟩,r⟩:=x;exact⟨mA,⟨od,es,ep,k _ _ (.inl Zj) e,c⟩,r⟩
 |rng lo hi=>obtain⟨t,u,v,e⟩:=x;exact⟨t,u,v,k _ _ (.inl Zj) e⟩
 |cQ ob u ih=>obtain⟨e,q⟩:=x;exact⟨k _ _ (.inl Zj) e,ih q⟩
 |fk ps =>
  have e:h.get? a=some { cls:=.none,data:=.fields ps }:=x;show h'.get? a=some { cls:=.none,data:=.fields ps };exact k a _ (.inl Zj) e
 |met f y =>
  have e:h.get? a=some (W.methodObj (.ref f) (.ref y)):=x;show h'.get? a=some (W.methodObj (.ref f) (.ref y));exact k a _ (.inl Zj) e
 |ext φ=>obtain⟨p,⟨o,e⟩,st⟩:=x;exact⟨st _ _ p λo q=>k _ _ (.inl Zj) q,⟨o,k _ _ (.inl Zj) e⟩,st⟩
theorem dq.lt (x:dq P w H h) (e:H a=some o):a<h.objs.size:=(x a o e).lt
theorem dq.fresh (x:dq P w H h) (e:h.objs.size<=a):H a=none:=by
 cases q:H a with
 |none=>rfl
 |some u=>exact absurd (Z2 (x.lt q) e) (ZF _)
theorem dq.kept (x:dq P w H h) (k:∀b u,h.get? b=some u->h'.get? b=some u):dq P w H h':=λa o e =>
 (x a o e).fc (λb u _ q=>k b u q) (λ_ q=>q) λ_ _ q=>q
theorem dq.laid (x:dq P w H h) (k:∀b u,h.get? b=some u->h'.get? b=some u) (hp:h.objs.size<=a) (new:aS P w (upd H a o) h' a o):dq P w (upd H a o) h':=λb u e=>by
 have hn:=x.fresh hp;by_cases hb:b=a
 ·subst hb;rw[AB]at e;cases e;exact new
 ·rw[AH hb]at e;exact(x b u e).fc (λc v _ q=>k c v q) (λc q=>by rw[AH (AI q hn)];exact q) λc xs q=>by rw[AH (AI q hn)];exact q
end
def Rd (H:Hp) (a:Xd) (u:HO):Prop:=H a=some u\/∃o,H a=some (.cQ o u)
theorem Rd.ok {P:Program}{w:World}{H:Hp}{h:Heap}{a:Xd}{u:HO} (r:Rd H a u) (x:dq P w H h):aS P w H h a u:=by
 rcases r with r |⟨o,r⟩
 ·exact x a u r
 ·obtain⟨_,q⟩:=x a _ r;exact q
def Mut:Option HO->Prop
 |some (.lst _)=>True
 |some (.dK _)=>True
 |some (.dT _)=>True
 |some (.set _ _)=>True
 |some (.ins _ _ _)=>True
 |some (.ext _)=>True
 |_=>False
section
variable {P:Program}{w:World}{H:Hp}{h h':Heap}{x e:Xd}{o':HO}
theorem dq.write (ok:dq P w H h) (mu:Mut (H x)) (he:e=x\/H e=some (.own x)) (k:∀b u,b≠e->h.get? b=some u->h'.get? b=some u) (heo:∃u,h'.get? e=some u)
  (new:aS P w (upd H x o') h' x o'):dq P w (upd H x o') h':=λb u q=>by
 have nown:∀c y,H c=some (.own y)->c≠x:=λc y r z=>by subst z;rw[r]at mu;exact mu
 have ntup:∀c xs,H c=some (.tup xs)->c≠x:=λc xs r z=>by subst z;rw[r]at mu;exact mu
 by_cases hb:b=x
 ·subst hb;rw[AB]at q;cases q;exact new
 ·rw[AH hb]at q;by_cases jw:b=e
  ·have q':H b=some (.own x):=by
    rcases he with z |z
    ·exact absurd (jw.trans z) hb
    ·rw[jw];exact z
   rw[q]at q';cases q';obtain⟨v,hv⟩:=heo;exact⟨v,by rw[jw];exact hv⟩
  ·refine(ok b u q).fc (λc v hc r=>k c v ?_ r) (λc r=>by rw[AH (nown c b r)];exact r) λc xs r=>by rw[AH (ntup c xs r)];exact r
   rcases hc with rfl |hc
   ·exact jw
   ·rintro rfl;rcases he with z |z
    ·exact nown c b hc z
    ·rw[hc]at z;cases z;exact hb rfl
end
structure Un (fs ex:List Xd) (H H':Hp) (h h':Heap):Prop where
 keep:∀b o,h.get? b=some o->H b=none->b∉ fs->b∉ ex->h'.get? b=some o
 slot:∀b o,h.get? b=some o->H b=none->b∈fs->b∉ ex->∃sl,h'.get? b=some { o with slots:=sl }
 free:∀b o,h.get? b=some o->H b=none->b∉ ex->H' b=none
 there:∀b o,h.get? b=some o->b∉ ex->∃o',h'.get? b=some o'
 fb:∀b xs,H b=some (.tup xs)->H' b=some (.tup xs)
 eT:∀b o u,H b=some (.cQ o u)->H' b=some (.cQ o u)
 eR:∀b ps,H b=some (.fk ps)->∃more,H' b=some (.fk (ps++more))
section
variable {fs fs' ex ex':List Xd}{H H1 H2:Hp}{h h1 h2 h':Heap}{a x e:Xd}{o:HO}
theorem Un.any (u:Un fs ex H H1 h h1) {b:Xd}{ob:Obj} (q:h.get? b=some ob) (n:H b=none) (hx:b∉ ex):∃sl,h1.get? b=some { ob with slots:=sl }:=by
 by_cases hb:b∈fs
 ·exact u.slot b ob q n hb hx
 ·exact⟨ob.slots,u.keep b ob q n hb hx⟩
theorem Un.kept (k:∀b u,h.get? b=some u->h'.get? b=some u):Un fs ex H H h h' :=
 ⟨λb ob q _ _ _=>k b ob q,λb ob q _ _ _=>⟨ob.slots,k b ob q⟩,λ_ _ _ n _=>n,λb ob q _=>⟨ob,k b ob q⟩,λ_ _ q=>q,λ_ _ _ q=>q,λ_ ps q=>⟨#[],by rw[q];simp⟩⟩
theorem Un.refl:Un fs ex H H h h:=Un.kept λ_ _ q=>q
theorem Un.laid (k:∀b u,h.get? b=some u->h'.get? b=some u) (hp:h.objs.size<=a) (hn:H a=none):Un fs ex H (upd H a o) h h' where
 keep:=λb u q _ _ _=>k b u q
 slot:=λb u q _ _ _=>⟨u.slots,k b u q⟩
 free:=λb u q n _=>by rw[AH (ZC (Z2 (lt_size q) hp))];exact n
 there:=λb u q _=>⟨u,k b u q⟩
 fb:=λb xs q=>by rw[AH (AI q hn)];exact q
 eT:=λb u xs q=>by rw[AH (AI q hn)];exact q
 eR:=λb ps q=>⟨#[],by rw[AH (AI q hn),q];simp⟩
theorem Un.write (mu:Mut (H x)) (he:e=x\/H e=some (.own x)) (k:∀b u,b≠e->h.get? b=some u->h'.get? b=some u) (heo:∃u,h'.get? e=some u):Un fs ex H (upd H x o) h h':=by
 have hx:∀b,H b=none->b≠x:=λb n z=>by subst z;rw[n]at mu;exact mu
 have hb:∀b,H b=none->b≠e:=λb n z=>by
  subst z;rcases he with r |r
  ·exact hx b n r
  ·rw[n]at r;cases r
 have hm:∀b u,H b=some u->¬ Mut (some u)->b≠x:=λb u q nm z=>by subst z;rw[q]at mu;exact nm mu
 refine⟨λb u q n _ _=>k b u (hb b n) q,λb u q n _ _=>⟨u.slots,k b u (hb b n) q⟩,λb u q n _=>by rw[AH (hx b n)];exact n,λb u q _=>?_,
  λb xs q=>by rw[AH (hm b _ q λz=>z)];exact q,λb u xs q=>by rw[AH (hm b _ q λz=>z)];exact q,λb ps q=>⟨#[],by rw[AH (hm b _ q λz=>z),q];simp⟩⟩
 by_cases jw:b=e
 ·subst jw;exact heo
 ·exact⟨u,k b u jw q⟩
end
noncomputable def trk (h:Heap) (H:Hp):List Xd:=(List.range h.objs.size).filter λa=>(H a).isSome
noncomputable def Gn (h:Heap) (H:Hp):Heap:=W.hideAll h (trk h H)
theorem OO (h:Heap) (H:Hp):(Gn h H).objs.size=h.objs.size:=W.hideAll_size _ _
theorem Pd {h:Heap}{H:Hp}{b:Xd}{o:Obj} (e:h.get? b=some o) (n:H b=none):(Gn h H).get? b=some o :=
 W.hideAll_get _ e λhm=>by
  have q:(H b).isSome=true:=(mem_filter.mp hm).2;rw[n]at q;simp at q
theorem Ro {h:Heap}{H:Hp}{b:Xd}{o:Obj} (e:(Gn h H).get? b=some o):h.get? b=some o/\H b=none:=by
 have e':h.get? b=some o:=W.of_hideAll (trk h H) e;refine⟨e',?_⟩;cases q:H b with
 |none=>rfl
 |some x =>
  have hm:b∈trk h H:=mem_filter.mpr ⟨mem_range.mpr (lt_size e'),by simp[q]⟩;have z:(Gn h H).get? b=none:=W.hideAll_none (trk h H) hm;rw[z]at e;cases e
structure Mod (K:FG) (mg:SV) (base:Heap):Prop where
 kin:K.In base
 glob:base.Ns mainGlobals mg
 blt:∃mb,base.Ns builtinsNs mb/\∀x:Str,x≠ "__name__" -> mb x=bootBuiltins x
 nolimit:base.NoLimit
structure Cx where
 prog:Program
 w:World
 K:FG
 mg:Str->Option Value
 base:Heap
 A:Around
 N:Xa
 aW:Xe
 eU:Hp
 env:Env
 outer:List Env
 stack:List Env
 ex:List Xd
 fn:Str->Bool
 calm:Bool
 pn:LO
 xe:Value->Xe->Prop
noncomputable def di (l:List Env):List Xd:=l.filterMap (·.frame)
noncomputable abbrev Cx.fs (X:Cx):List Xd:=di X.outer
def Vis (sc:Scope) (x:Str):Prop:=sc.names.lookup x=some .local\/sc.names.lookup x=some .cell\/sc.names.lookup x=some .free
def Loc (sc:Scope) (x:Str):Prop:=sc.names.lookup x=some .local\/sc.names.lookup x=some .cell
def WI (env:Env) (h:Heap) (m:SV) (x:Str) (u:Value):Prop :=
 (env.kindOf x=some .local/\m x=some u)\/((env.kindOf x=some .cell\/env.kindOf x=some .free)/\∃c,env.cells.lookup x=some c/\h.IsCell c (some u))
structure Cx.Ok (X:Cx):Prop where
 mod:Mod X.K X.mg X.base
 kind:X.env.scope.kind=.function
 glob:X.env.globals=mainGlobals
 blt:X.env.builtins=builtinsNs
 above:X.aW.heap.objs.size<=X.env.locals
 inj:∀x y c,X.env.cells.lookup x=some c->X.env.cells.lookup y=some c->x=y
 has:∀x,(X.env.kindOf x=some .cell\/X.env.kindOf x=some .free)->∃c,X.env.cells.lookup x=some c
 iV:∀x c,X.fn x=true->X.env.cells.lookup x=some c->X.aW.heap.objs.size<=c
 hd:X.calm=true->X.A.handled=none
 frames:X.A.frames=some X.stack
 gm:X.stack=X.outer\/(X.stack=X.env::X.outer/\X.env.frame=some X.env.locals)
 exf:∀b∈X.ex,b≠X.env.locals/\∀x c,X.env.cells.lookup x=some c->c≠b
 bs:∀b o,X.base.get? b=some o->X.aW.heap.get? b=some o/\X.eU b=none
 gL:X.base.objs.size<=X.aW.heap.objs.size
 gc:∀b o,X.base.get? b=some o->b∉ X.ex
 fh:∀b∈X.ex,b∉ X.fs
 dn:X.aW.heap.FunFrames X.base X.outer
 ie:∀b∈X.fs,X.eU b=none
structure Inv (X:Cx) (aa:LO) (σ:List (Option V)) (H:Hp) (s:Xe):Prop where
 ok:X.Ok
 os:s.os=X.aW.os
 bare:AllBare s.gens
 base:Un X.fs X.ex X.eU H X.aW.heap s.heap
 loc:∃m,s.heap.Ns X.env.locals m/\∀(i:Nat) (x:Str) (v:V),X.N[i]?=some x->σ[i]?=some (some v)->Vis X.env.scope x->∃u,RelV v u/\WI X.env s.heap m x u
 cell:∀x c,X.env.cells.lookup x=some c->∃v,s.heap.IsCell c v
 free:H X.env.locals=none
 cG:∀x c,X.env.cells.lookup x=some c->H c=none
 pin:∀p∈X.pn++aa,s.heap.get? p.1=some p.2/\H p.1=none/\p.1≠X.env.locals/\p.1∉ X.fs/\∀v,p.2.data≠ .cell v
 aE:dq X.prog X.w H s.heap
 len:σ.length=X.N.length
section
variable {X:Cx}{aa:LO}{σ:List (Option V)}{H H':Hp}{s:Xe}{h':Heap}
theorem Cx.Ok.nofr (ok:X.Ok) {b:Xd}{o:Obj} (e:X.base.get? b=some o):b∉ X.fs:=λhb=>by
 have:=(ok.dn.mem hb).1;rw[e]at this;cases this
theorem Inv.bs (I:Inv X aa σ H s):∀b o,X.base.get? b=some o->s.heap.get? b=some o/\H b=none:=λb o e =>
 ⟨I.base.keep b o (I.ok.bs b o e).1 (I.ok.bs b o e).2 (I.ok.nofr e) (I.ok.gc b o e),I.base.free b o (I.ok.bs b o e).1 (I.ok.bs b o e).2 (I.ok.gc b o e)⟩
theorem Inv.bk (I:Inv X aa σ H s):∀b o,X.base.get? b=some o->s.heap.get? b=some o:=λb o e=>(I.bs b o e).1
theorem Inv.mod (I:Inv X aa σ H s):Mod X.K X.mg X.base:=I.ok.mod
theorem Inv.cY (I:Inv X aa σ H s):X.K.In s.heap:=I.ok.mod.kin.keeps I.bk
theorem Inv.fr (I:Inv X aa σ H s):∃m,Fr X.base X.env.locals s.heap m :=
 let ⟨m,hn,_⟩:=I.loc
 ⟨m,hn,I.bk,Nat.le_trans I.ok.gL I.ok.above⟩
theorem Inv.lt (I:Inv X aa σ H s):X.env.locals<s.heap.objs.size:=let ⟨_,hn,_⟩:=I.loc;hn.lt
theorem Inv.sz (I:Inv X aa σ H s):X.aW.heap.objs.size<=s.heap.objs.size:=Nat.le_trans I.ok.above (Nat.le_of_lt I.lt)
theorem Inv.nofs (I:Inv X aa σ H s) {a:Xd} (h:s.heap.objs.size<=a):a∉ X.fs:=λhb=>by
 obtain⟨_,o,ho,_⟩:=I.ok.dn.mem hb;exact absurd (Z2 (lt_size ho) (Nat.le_trans I.sz h)) (ZF _)
theorem Inv.jA (I:Inv X aa σ H s):∀x c,X.env.cells.lookup x=some c->c≠X.env.locals:=λx c e z=>by
 obtain⟨v,o,ho,hd⟩:=I.cell x c e;obtain⟨m,⟨o',es,ep,gR,hd',_⟩,_⟩:=I.loc;rw[z,gR]at ho;cases ho;rw[hd']at hd;cases hd
theorem Inv.dn (I:Inv X aa σ H s):s.heap.FunFrames X.base X.outer:=by
 have all:∀(l:List Env),(∀b∈di l,b∈X.fs)->X.aW.heap.FunFrames X.base l->s.heap.FunFrames X.base l:=by
  intro l;induction l with
  |nil=>intro _ _;trivial
  |cons env r ih =>
   intro hs hl;obtain⟨hk,⟨L,o,hf,hn,ho,hd⟩,hr⟩:=hl;have hL:L∈X.fs:=hs L (by unfold di;rw[ZM,hf];exact ZI);obtain⟨sl,e⟩:=I.base.slot L o ho (I.ok.ie L hL) hL λz=>I.ok.fh L z hL;exact⟨hk,⟨L,_,hf,hn,e,hd⟩,ih (λb hb=>hs b (by unfold di;rw[ZM,hf];exact ZR _ hb)) hr⟩
 exact all X.outer (λ_ hb=>hb) I.ok.dn
theorem Inv.stack (I:Inv X aa σ H s):s.heap.FunFrames X.base X.stack:=by
 rcases I.ok.gm with e |⟨e,hf⟩
 ·rw[e];exact I.dn
 ·rw[e];obtain⟨m,hn,_⟩:=I.loc;refine .cons (by rw[I.ok.kind];decide) hf hn ?_ I.dn;exact Heap.get?_none_of_le (Nat.le_trans I.ok.gL I.ok.above)
theorem Inv.dz (I:Inv X aa σ H s):∀b∈di X.stack,b∈X.env.locals::X.fs:=λb hb=>by
 rcases I.ok.gm with e |⟨e,hf⟩
 ·rw[e]at hb;exact ZR _ hb
 ·rw[e]at hb;unfold di at hb;rw[ZM,hf]at hb;exact hb
theorem Inv.stkFree (I:Inv X aa σ H s):∀b∈di X.stack,H b=none:=λb hb=>by
 rcases mem_cons.mp (I.dz b hb)with e |hb
 ·rw[e];exact I.free
 ·obtain⟨_,o,ho,_⟩:=I.ok.dn.mem hb;exact I.base.free b o ho (I.ok.ie b hb) λz=>I.ok.fh b z hb
theorem Inv.step {g':Array GenState}{t':Nat}{d':Drawn}{ch:List Xd} (I:Inv X aa σ H s)
  (i6:∀b∈ch,(b∈X.ex\/X.aW.heap.objs.size<=b)/\b≠X.env.locals/\(∀x c,X.env.cells.lookup x=some c->c≠b)/\∀p∈X.pn++aa,p.1≠b)
  (keep:∀b o,b≠X.env.locals->b∉ X.fs->b∉ ch->s.heap.get? b=some o->H b=none->h'.get? b=some o)
  (slot:∀b o,b≠X.env.locals->b∈X.fs->b∉ ch->s.heap.get? b=some o->H b=none->∃sl,h'.get? b=some { o with slots:=sl }) (free:∀b o,b∉ ch->s.heap.get? b=some o->H b=none->H' b=none)
  (there:∀b o,b∉ ch->s.heap.get? b=some o->∃o',h'.get? b=some o')
  (fb:∀b xs,H b=some (.tup xs)->H' b=some (.tup xs)) (eT:∀b o u,H b=some (.cQ o u)->H' b=some (.cQ o u)) (eR:∀b ps,H b=some (.fk ps)->∃more,H' b=some (.fk (ps++more)))
  (ns:∀m,s.heap.Ns X.env.locals m->h'.Ns X.env.locals m) (aE:dq X.prog X.w H' h') (hg:AllBare g') :
  Inv X aa σ H' { s with heap:=h',gens:=g',drawn:=d',toks:=t' }:=by
 have neL:∀b o,X.aW.heap.get? b=some o->b≠X.env.locals:=λb o e=>ZC (Z2 (lt_size e) I.ok.above)
 have neC:∀b o,X.aW.heap.get? b=some o->b∉ X.ex->b∉ ch:=λb o e hx hb=>by
  rcases (i6 b hb).1 with z |z
  ·exact hx z
  ·exact absurd (Z2 (lt_size e) z) (ZF _)
 have cellK:∀x c,X.env.cells.lookup x=some c->∀v,s.heap.IsCell c v->h'.IsCell c v:=λx c e v ⟨o,ho,hd⟩=>by
  have nch:c∉ ch:=λz=>(i6 c z).2.2.1 x c e rfl;by_cases hc:c∈X.fs
  ·obtain⟨sl,q⟩:=slot c o (I.jA x c e) hc nch ho (I.cG x c e);exact⟨_,q,hd⟩
  ·exact⟨o,keep c o (I.jA x c e) hc nch ho (I.cG x c e),hd⟩
 refine⟨I.ok,I.os,hg,⟨λb o e n hb hx=>?_,λb o e n hb hx=>?_,λb o e n hx=>?_,λb o e hx=>?_,λb xs e=>fb b xs (I.base.fb b xs e),λb o xs e=>eT b o xs (I.base.eT b o xs e),λb ps e=>?_⟩,?_,λx c e=>?_,?_,λx c e=>?_,λp hp=>?_,aE,I.len⟩
 ·exact keep b o (neL b o e) hb (neC b o e hx) (I.base.keep b o e n hb hx) (I.base.free b o e n hx)
 ·obtain⟨sl,e1⟩:=I.base.slot b o e n hb hx;obtain⟨sl',e2⟩:=slot b _ (neL b o e) hb (neC b o e hx) e1 (I.base.free b o e n hx);exact⟨sl',e2⟩
 ·obtain⟨o',e1⟩:=I.base.there b o e hx;exact free b o' (neC b o e hx) e1 (I.base.free b o e n hx)
 ·obtain⟨o',e1⟩:=I.base.there b o e hx;exact there b o' (neC b o e hx) e1
 ·obtain⟨m1,e1⟩:=I.base.eR b ps e;obtain⟨m2,e2⟩:=eR b _ e1;exact⟨m1++m2,by rw[e2,Array.append_assoc]⟩
 ·obtain⟨m,hn,hl⟩:=I.loc;refine⟨m,ns m hn,λi x v e1 e2 e3=>?_⟩;obtain⟨u,r,l⟩:=hl i x v e1 e2 e3;refine⟨u,r,?_⟩;rcases l with l |⟨k,c,e,z⟩
  ·exact .inl l
  ·exact .inr ⟨k,c,e,cellK x c e _ z⟩
 ·obtain⟨v,z⟩:=I.cell x c e;exact⟨v,cellK x c e v z⟩
 ·obtain⟨m,⟨o,_,_,ho,_⟩,_⟩:=I.loc;exact free _ o (λz=>(i6 _ z).2.1 Zj) ho I.free
 ·obtain⟨v,o,ho,hd⟩:=I.cell x c e;exact free c o (λz=>(i6 c z).2.2.1 x c e Zj) ho (I.cG x c e)
 ·obtain⟨e,n,ne,nf,d⟩:=I.pin p hp;have nch:p.1∉ ch:=λz=>(i6 p.1 z).2.2.2 p hp rfl;exact⟨keep p.1 p.2 ne nf nch e n,free p.1 p.2 nch e n,ne,nf,d⟩
theorem Inv.un {t':Nat} (I:Inv X aa σ H s) (u:Un X.fs [] H H' s.heap h') (aE:dq X.prog X.w H' h'):Inv X aa σ H' { s with heap:=h',toks:=t' }:=by
 obtain⟨m,⟨o,es,ep,ho,r⟩,_⟩:=id I.loc;obtain⟨sl,hL⟩:=u.any ho I.free (by simp)
 exact I.step (g':=s.gens) (d':=s.drawn) (ch:=[]) (λ_ z=>nomatch z) (λb o _ hb _ e n=>u.keep b o e n hb (by simp)) (λb o _ hb _ e n=>u.slot b o e n hb (by simp)) (λb o _ e n=>u.free b o e n (by simp)) (λb o _ e=>u.there b o e (by simp)) u.fb u.eT u.eR (λm' hm=>by
  obtain⟨o',i8,ep',gR,r'⟩:=hm;rw[ho]at gR;cases gR
  exact⟨_,i8,ep',hL,r'⟩) aE I.bare
theorem Inv.call {g':Array GenState}{t':Nat}{d':Drawn}{ch:List Xd} (I:Inv X aa σ H s) (u:Un (di X.stack) ch H H' s.heap h') (aE:dq X.prog X.w H' h') (hg:AllBare g')
  (i6:∀b∈ch,(b∈X.ex\/X.aW.heap.objs.size<=b)/\b≠X.env.locals/\(∀x c,X.env.cells.lookup x=some c->c≠b)/\∀p∈X.pn++aa,p.1≠b) :
  Inv X aa σ H' { s with heap:=h',gens:=g',drawn:=d',toks:=t' }:=by
 obtain⟨m,⟨o,es,ep,ho,r⟩,_⟩:=id I.loc;obtain⟨sl,hL⟩:=u.any ho I.free λz=>(i6 _ z).2.1 rfl
 exact I.step (ch:=ch) i6 (λb o hL hb hc e n=>u.keep b o e n (λz=>(mem_cons.mp (I.dz b z)).elim hL hb) hc) (λb o _ _ hc e n=>u.any e n hc) (λb o hc e n=>u.free b o e n hc) (λb o hc e=>u.there b o e hc) u.fb u.eT u.eR (λm' hm=>by
  obtain⟨o',i8,ep',gR,r'⟩:=hm;rw[ho]at gR;cases gR
  exact⟨_,i8,ep',hL,r'⟩) aE hg
theorem Inv.turned {t':Nat}{it:Xd} (I:Inv X aa σ H s) (k:∀b o,b≠it->s.heap.get? b=some o->h'.get? b=some o) (hn:H it=none) (hL:it≠X.env.locals)
  (h1:it∈X.ex\/X.aW.heap.objs.size<=it) (h2:∀x c,X.env.cells.lookup x=some c->c≠it) (h3:∀p∈X.pn++aa,p.1≠it):Inv X aa σ H { s with heap:=h',toks:=t' }:=by
 have nit:∀b u,H b=some u->b≠it:=λb u e z=>by rw[z,hn]at e;cases e
 refine I.step (g':=s.gens) (d':=s.drawn) (ch:=[it]) (λb hb=>?_) (λb o _ _ hc e _=>k b o (λz=>hc (by simp[z])) e) (λb o _ _ hc e _=>⟨o.slots,k b o (λz=>hc (by simp[z])) e⟩) (λ_ _ _ _ n=>n)
  (λb o hc e=>⟨o,k b o (λz=>hc (by simp[z])) e⟩) (λ_ _ e=>e) (λ_ _ _ e=>e) (λb ps e=>⟨#[],by rw[e];simp⟩) (λm hm=>?_) (λb u e=>?_) I.bare
 ·have e:b=it:=by simpa using hb
  subst e;exact⟨h1,hL,h2,h3⟩
 ·obtain⟨o,es,ep,ho,r⟩:=hm;exact⟨o,es,ep,k _ o (Ne.symm hL) ho,r⟩
 ·refine(I.aE b u e).fc (λc v hc q=>k c v ?_ q) (λ_ q=>q) λ_ _ q=>q;rcases hc with z |z
  ·rw[z];exact nit b u e
  ·exact nit c _ z
theorem Inv.tok (I:Inv X aa σ H s) (t:Nat):Inv X aa σ H { s with toks:=t }:=I.un (h':=s.heap) (t':=t) Un.refl I.aE
theorem Inv.kept {t':Nat} (I:Inv X aa σ H s) (k:∀b u,s.heap.get? b=some u->h'.get? b=some u):Inv X aa σ H { s with heap:=h',toks:=t' }:=I.un (Un.kept k) (I.aE.kept k)
theorem Inv.laid {a:Xd}{o:HO}{t':Nat} (I:Inv X aa σ H s) (k:∀b u,s.heap.get? b=some u->h'.get? b=some u) (hp:s.heap.objs.size<=a) (new:aS X.prog X.w (upd H a o) h' a o) :
  Inv X aa σ (upd H a o) { s with heap:=h',toks:=t' }:=I.un (Un.laid k hp (I.aE.fresh hp)) (I.aE.laid k hp new)
theorem Inv.write {x e:Xd}{o:HO}{t':Nat} (I:Inv X aa σ H s) (mu:Mut (H x)) (he:e=x\/H e=some (.own x)) (k:∀b u,b≠e->s.heap.get? b=some u->h'.get? b=some u) (heo:∃u,h'.get? e=some u)
  (new:aS X.prog X.w (upd H x o) h' x o):Inv X aa σ (upd H x o) { s with heap:=h',toks:=t' }:=I.un (Un.write mu he k heo) (I.aE.write mu he k heo new)
theorem Inv.weak {aJ:List (Option V)} (I:Inv X aa σ H s) (hl:aJ.length=σ.length) (w:∀(i:Nat) v,aJ[i]?=some (some v)->σ[i]?=some (some v)):Inv X aa aJ H s :=
 ⟨I.ok,I.os,I.bare,I.base,let ⟨m,hn,hl'⟩:=I.loc;⟨m,hn,λi x v e1 e2 e3=>hl' i x v e1 (w i v e2) e3⟩,I.cell,I.free,I.cG,I.pin,I.aE,hl.trans I.len⟩
theorem Inv.bY {pins':LO} (I:Inv X aa σ H s) (h:∀p∈pins',s.heap.get? p.1=some p.2/\H p.1=none/\p.1≠X.env.locals/\p.1∉ X.fs/\∀v,p.2.data≠ .cell v):Inv X pins' σ H s :=
 ⟨I.ok,I.os,I.bare,I.base,I.loc,I.cell,I.free,I.cG,λp hp=>(mem_append.mp hp).elim (λz=>I.pin p (ZP _ z)) (h p),I.aE,I.len⟩
theorem KB {N:Xa} (hN:N.Nodup) {i j:Nat}{x:Str} (a:N[i]?=some x) (b:N[j]?=some x):i=j:=by
 obtain⟨h1,e1⟩:=Z8.mp a;obtain⟨h2,e2⟩:=Z8.mp b;exact(List.getElem_inj hN).mp (e1.trans e2.symm)
theorem IQ {M:Model}{A:Around}{E:VS}{i:Nat}{x:Str}{v:V}{u:Value}{Q:Unit->Xe->Prop} (I:Inv X aa σ H s) (hN:X.N.Nodup) (hi:X.N[i]?=some x) (hx:Loc X.env.scope x) (r:RelV v u)
  (h:∀s',Inv X aa (σ.set i (some v)) H s'->(∃a,Heap.SameBut a s.heap s'.heap/\(a=X.env.locals\/X.env.cells.lookup x=some a))->Q () s') (hf:X.fn x=true\/X.env.scope.names.lookup x=some .local:=by first |exact .inl rfl |exact .inr rfl |assumption):wpAny M A (storeName X.env x u) Q E s:=by
 obtain⟨m,hn,hl⟩:=id I.loc;have bj:(X.env.scope.kind == .class||(X.env.scope.kind == .module&&X.env.locals != X.env.globals))=false:=by rw[I.ok.kind];rfl
 have hiσ:i<σ.length:=by rw[I.len];exact(Z8.mp hi).1
 have jA:=I.jA
 have tracked:∀ {a:Xd}{h':Heap},(∃o,s.heap.get? a=some o/\H a=none)->Heap.SameBut a s.heap h'->dq X.prog X.w H h':=λ{a h'} ha hs b ob e=>by
  obtain⟨_,_,cb⟩:=ha;refine(I.aE b ob e).fc (λc w' hc q=>(hs.2 c ?_).trans q) (λ_ q=>q) λ_ _ q=>q;rintro rfl;rcases hc with rfl |hc
  ·rw[cb]at e;cases e
  ·rw[cb]at hc;cases hc
 rcases hx with hk |hk
 ·refine wpAny_storeName_local hk hn (λh' hn' hs=>?_) bj;obtain⟨oL,_,_,gQ,_⟩:=id hn;refine h _ ⟨I.ok,I.os,I.bare,⟨λb o e n hb hx=>?_,λb o e n hb hx=>?_,I.base.free,λb o e hx=>?_,I.base.fb,I.base.eT,I.base.eR⟩,⟨_,hn',λj y v' e1 e2 e3=>?_⟩,λy c e=>?_,I.free,I.cG,λp hp=>?_,tracked ⟨oL,gQ,I.free⟩ hs,by simpa using I.len⟩ ⟨_,hs,.inl Zj⟩
  ·exact(hs.2 b (ZC (Z2 (lt_size e) I.ok.above))).trans (I.base.keep b o e n hb hx)
  ·obtain⟨sl,e1⟩:=I.base.slot b o e n hb hx;exact⟨sl,(hs.2 b (ZC (Z2 (lt_size e) I.ok.above))).trans e1⟩
  ·obtain⟨o',e1⟩:=I.base.there b o e hx;exact⟨o',(hs.2 b (ZC (Z2 (lt_size e) I.ok.above))).trans e1⟩
  ·by_cases hj:j=i
   ·subst hj;rw[hi]at e1;cases e1;rw[List.getElem?_set_self hiσ]at e2;cases e2;exact⟨u,r,.inl ⟨hk,by simp⟩⟩
   ·rw[List.getElem?_set_ne (Ne.symm hj)]at e2;obtain⟨u',r',q⟩:=hl j y v' e1 e2 e3;refine⟨u',r',?_⟩;rcases q with⟨k,e⟩ |⟨k,c,e,z⟩
    ·refine .inl ⟨k,?_⟩;have:y≠x:=λe=>hj (KB hN e1 (e ▸ hi));simp[this,e]
    ·exact .inr ⟨k,c,e,z.sameBut hs (jA y c e)⟩
  ·obtain⟨w',z⟩:=I.cell y c e;exact⟨w',z.sameBut hs (jA y c e)⟩
  ·obtain⟨e,n,ne,nf,d⟩:=I.pin p hp;exact⟨(hs.2 p.1 ne).trans e,n,ne,nf,d⟩
 ·have hfn:X.fn x=true:=by
   rcases hf with z |z
   ·exact z
   ·rw[z]at hk;cases hk
  obtain⟨c,hc⟩:=I.ok.has x (.inl hk);obtain⟨w',z⟩:=I.cell x c hc;refine wpAny_storeName_cell I.ok.kind hk hc z (λh' iz hs=>?_);obtain⟨oc,hoc,hocd⟩:=id z;refine h { s with heap:=h' } ⟨I.ok,I.os,I.bare,⟨λb o e n hb hx=>?_,λb o e n hb hx=>?_,I.base.free,λb o e hx=>?_,I.base.fb,I.base.eT,I.base.eR⟩,⟨m,hn.sameBut hs (Ne.symm (jA x c hc)),λj y v' e1 e2 e3=>?_⟩,λy c' e=>?_,I.free,I.cG,λp hp=>?_,tracked ⟨oc,hoc,I.cG x c hc⟩ hs,by simpa using I.len⟩ ⟨c,hs,.inr hc⟩
  ·exact(hs.2 b (ZC (Z2 (lt_size e) (I.ok.iV x c hfn hc)))).trans (I.base.keep b o e n hb hx)
  ·obtain⟨sl,e1⟩:=I.base.slot b o e n hb hx;exact⟨sl,(hs.2 b (ZC (Z2 (lt_size e) (I.ok.iV x c hfn hc)))).trans e1⟩
  ·obtain⟨o',e1⟩:=I.base.there b o e hx;exact⟨o',(hs.2 b (ZC (Z2 (lt_size e) (I.ok.iV x c hfn hc)))).trans e1⟩
  ·by_cases hj:j=i
   ·subst hj;rw[hi]at e1;cases e1;rw[List.getElem?_set_self hiσ]at e2;cases e2;exact⟨u,r,.inr ⟨.inl hk,c,hc,iz⟩⟩
   ·rw[List.getElem?_set_ne (Ne.symm hj)]at e2;obtain⟨u',r',q⟩:=hl j y v' e1 e2 e3;refine⟨u',r',?_⟩;rcases q with q |⟨k,c',e,z'⟩
    ·exact .inl q
    ·refine .inr ⟨k,c',e,z'.sameBut hs ?_⟩;rintro rfl;exact hj (KB hN e1 (I.ok.inj _ _ _ e hc ▸ hi))
  ·by_cases hcc:c'=c
   ·subst hcc;exact⟨_,iz⟩
   ·obtain⟨w2,z2⟩:=I.cell y c' e;exact⟨w2,z2.sameBut hs hcc⟩
  ·obtain⟨e,n,ne,nf,d⟩:=I.pin p hp;refine⟨(hs.2 p.1 ?_).trans e,n,ne,nf,d⟩;intro q;rw[q,hoc]at e;have q':oc=p.2:=Option.some.inj e;exact d w' (by rw[←q'];exact hocd)
theorem Br {M:Model}{A:Around}{E:VS}{i:Nat}{x:Str}{v:V}{u:Value}{Q:Unit->Xe->Prop} (I:Inv X aa σ H s) (hN:X.N.Nodup) (hi:X.N[i]?=some x) (hx:Loc X.env.scope x) (r:RelV v u)
  (h:∀s',Inv X aa (σ.set i (some v)) H s'->Q () s') (hf:X.fn x=true\/X.env.scope.names.lookup x=some .local:=by first |exact .inl rfl |exact .inr rfl |assumption):wpAny M A (storeName X.env x u) Q E s :=
 IQ I hN hi hx r (λs' I' _=>h s' I') hf
theorem Inv.call' {s':Xe}{ch:List Xd} (I:Inv X aa σ H s) (ho:s'.os=s.os) (u:Un (di X.stack) ch H H' s.heap s'.heap) (aE:dq X.prog X.w H' s'.heap) (hg:AllBare s'.gens)
  (i6:∀b∈ch,(b∈X.ex\/X.aW.heap.objs.size<=b)/\b≠X.env.locals/\(∀x c,X.env.cells.lookup x=some c->c≠b)/\∀p∈X.pn++aa,p.1≠b):Inv X aa σ H' s':=by
 obtain⟨h',g',d',t',o'⟩:=s';have e:o'=s.os:=ho;subst e;exact I.call (g':=g') (t':=t') (d':=d') u aE hg i6
end
abbrev XK:=Value->Option Xd->Hp->Prop
abbrev St:=List (Option V)
abbrev VK:=V->Hp->Prop
abbrev TE:=St->Hp->VK->Prop
abbrev TT:=St->Hp->(Bool->Hp->Prop)->Prop
abbrev TA:=St->Hp->(Xc->Hp->Prop)->Prop
structure Dj where
 nx:St->Hp->Prop
 rt:VK
 bk:St->Hp->Prop:=λ_ _=>False
 ct:St->Hp->Prop:=λ_ _=>False
abbrev TS:=Dj->St->Hp->Prop
inductive EP (X:Cx) (aa:LO) (σ:St) (Q:VK) (u:Value) (s':Xe):Prop where
 |mk (v:V) (H':Hp) (i:Inv X aa σ H' s') (r:RelV v u) (q:Q v H'):EP X aa σ Q u s'
def TP (X:Cx) (aa:LO) (σ:St) (Q:Bool->Hp->Prop) (b:Bool) (s':Xe):Prop:=∃H',Inv X aa σ H' s'/\Q b H'
inductive AP (X:Cx) (aa:LO) (σ:St) (Q:Xc->Hp->Prop) (us:Xb) (s':Xe):Prop where
 |mk (vs:Xc) (H':Hp) (i:Inv X aa σ H' s') (r:Vals vs us) (q:Q vs H'):AP X aa σ Q us s'
def SP (X:Cx) (aa:LO) (D:Dj) (f:Flow) (s':Xe):Prop :=
 match f with
 | .next=>∃aJ H',Inv X aa aJ H' s'/\D.nx aJ H'
 | .brk=>∃aJ H',Inv X aa aJ H' s'/\D.bk aJ H'
 | .cont=>∃aJ H',Inv X aa aJ H' s'/\D.ct aJ H'
 | .ret u=>∃v aJ H',Inv X aa aJ H' s'/\RelV v u/\D.rt v H'
def PE (X:Cx) (e:Expr) (t:TE):Prop :=
 ∀(aa:LO) (s:Xe) (σ:St) (H:Hp) (Q:VK),Inv X aa σ H s->t σ H Q->wpAny (model X.prog X.w) X.A (eval e X.env) (EP X aa σ Q) X.xe s
def PT (X:Cx) (e:Expr) (t:TT):Prop :=
 ∀(aa:LO) (s:Xe) (σ:St) (H:Hp) (Q:Bool->Hp->Prop),Inv X aa σ H s->t σ H Q->wpAny (model X.prog X.w) X.A (isTrue e X.env (eval e X.env)) (TP X aa σ Q) X.xe s
def PW (X:Cx) (e:Expr) (t:TT):Prop :=
 ∀(whole:Sem Value) (aa:LO) (s:Xe) (σ:St) (H:Hp) (Q:Bool->Hp->Prop),Inv X aa σ H s->t σ H Q->wpAny (model X.prog X.w) X.A (isTrue e X.env whole) (TP X aa σ Q) X.xe s
theorem PW.pt {X:Cx}{e:Expr}{t:TT} (h:PW X e t):PT X e t:=h _
def PA (X:Cx) (es:List Expr) (t:TA):Prop :=
 ∀(pos:Pos) (aa:LO) (s:Xe) (σ:St) (H:Hp) (Q:Xc->Hp->Prop),Inv X aa σ H s->t σ H Q->wpAny (model X.prog X.w) X.A (spliced (backTo pos (starEach es X.env))) (AP X aa σ Q) X.xe s
def PS (X:Cx) (st:Stmt) (t:TS):Prop :=
 ∀(aa:LO) (s:Xe) (σ:St) (H:Hp) (D:Dj),Inv X aa σ H s->t D σ H->wpAny (model X.prog X.w) X.A (exec st X.env) (SP X aa D) X.xe s
def eK (X:Cx) (st:List Stmt) (t:TS):Prop :=
 ∀(aa:LO) (s:Xe) (σ:St) (H:Hp) (D:Dj),Inv X aa σ H s->t D σ H->wpAny (model X.prog X.w) X.A (execs st X.env) (SP X aa D) X.xe s
theorem aF {α:Type}{t:Sem α}{Q Q':α->Xe->Prop}{M:Model}{A:Around}{E:VS}{s:Xe} (h:wpAny M A t Q E s) (hQ:∀a s,Q a s->Q' a s):wpAny M A t Q' E s:=Zv h hQ λ_ _ x=>x
end L2
variable {X:L2.Cx}{H:L2.Hp}{H':L2.Hp}{s:PySem.Shared}{pos:PySem.Pos}{σ:L2.St}{P:PySem.Program}{w:PySem.World}{A:PySem.Around}{aa:LO}{x:PySem.Str}{a:PySem.Addr}{K:FG}{C:PySem.Addr}{E:VS}{h:PySem.Heap}{us:List PySem.Value}{u:PySem.Value}{xs:List L2.V}{e:PySem.Expr}{te:L2.TE}{base:PySem.Heap}{N:List PySem.Str}{mg:SV}
namespace L2
open PySem PySem.Spec PyProof.Rows
section
inductive ExV (o:Option (Option V)) (k:V->Prop):Prop where
 |mk (v:V) (h:o=some (some v)) (q:k v):ExV o k
inductive ExB (x:V) (k:Bool->Prop):Prop where
 |mk (c:Bool) (h:x=.bl c) (q:k c):ExB x k
inductive ExI (x y:V) (k:Int->Int->Prop):Prop where
 |mk (i j:Int) (h:x=.int i) (h':y=.int j) (q:k i j):ExI x y k
def IC (i:Nat):TE:=λσ H Q=>ExV σ[i]? λv=>Q v H
def tC (v:V):TE:=λ_ H Q=>Q v H
theorem Pe {i:Nat} (hN:X.N[i]?=some x) (hv:Vis X.env.scope x) (hd:(x==("__debug__" : Str))=false:=by decide) (fg:(x==("__classdict__" : Str))=false:=by decide):PE X (.Name x pos) (IC i):=by
 intro aa s σ H Q I h;obtain⟨v,e,h⟩:=h;obtain⟨m,hn,hl⟩:=I.loc;obtain⟨u,r,l⟩:=hl i x v hN e hv;have fin:EP X aa σ Q u s:=⟨v,H,I,r,h⟩;rcases l with⟨hk,hm⟩ |⟨hk,c,hc,bi⟩
 ·exact wpAny_Name (wpAny_loadName_local I.ok.kind hk hn hm fin) hd
 ·rcases hk with hk |hk
  ·exact wpAny_Name (wpAny_loadName_cell I.ok.kind hk hc bi fin) hd
  ·exact wpAny_Name (wpAny_loadName_free I.ok.kind hk hc bi fin fg) hd
theorem AD {i j pos}:PE X (.Constant (.int i) j pos) (tC (.int i)):=λ_ _ _ H _ I h=>wpAny_Constant_int ⟨.int i,H,I.tok _,⟨_,rfl⟩,h⟩
theorem De {b j pos}:PE X (.Constant (.bool b) j pos) (tC (.bl b)):=λ_ _ _ H _ I h=>Constant_bool ⟨.bl b,H,I,rfl,h⟩
theorem Pf {j pos}:PE X (.Constant .none j pos) (tC .aP):=λ_ _ _ H _ I h=>Constant_none ⟨.aP,H,I,rfl,h⟩
theorem AK {x j pos}:PE X (.Constant (.str x) j pos) (tC (.str x)):=λ_ _ _ H _ I h=>Calls.Constant_str ⟨.str x,H,I.tok _,⟨_,rfl⟩,h⟩
def Gl (X:Cx) (x:Str):Prop:=X.env.kindOf x=some .globalImplicit
theorem CI {Q:VS} (I:Inv X aa σ H s) (hg:Gl X x) (hm:X.mg x=some u) (h:Q u s)
  (hd:(x==("__debug__" : Str))=false:=by decide):wpAny (model X.prog X.w) X.A (eval (.Name x pos) X.env) Q E s :=
 Calls.Name_function_global I.ok.kind hg (Calls.loadGlobal_global (by rw[I.ok.glob];exact I.mod.glob.keeps I.bk) hm h) hd
theorem EW {Q:VS} (I:Inv X aa σ H s) (hg:Gl X x) (hm:X.mg x=none) (hv:bootBuiltins x=some u) (h:Q u s)
  (hn:x≠ "__name__" := by decide) (hd:(x==("__debug__" : Str))=false:=by decide):wpAny (model X.prog X.w) X.A (eval (.Name x pos) X.env) Q E s:=by
 obtain⟨mb,h1,h2⟩:=I.mod.blt;exact Calls.Name_function_global I.ok.kind hg (Calls.loadGlobal_builtin (by rw[I.ok.glob];exact I.mod.glob.keeps I.bk) hm (by rw[I.ok.blt];exact h1.keeps I.bk) ((h2 x hn).trans hv) h) hd
theorem Bg {v:V} (hg:Gl X x) (hm:X.mg x=some u) (r:RelV v u) (hd:(x==("__debug__" : Str))=false:=by decide):PE X (.Name x pos) (tC v) :=
 λ_ _ _ H _ I h=>CI I hg hm ⟨v,H,I,r,h⟩ hd
theorem NF {v:V} (hg:Gl X x) (hm:X.mg x=none) (hv:bootBuiltins x=some u) (r:RelV v u) (hn:x≠ "__name__" := by decide) (hd:(x==("__debug__" : Str))=false:=by decide):PE X (.Name x pos) (tC v) :=
 λ_ _ _ H _ I h=>EW I hg hm hv ⟨v,H,I,r,h⟩ hn hd
variable {a b:Expr}{ta tb:TE}
def PC (X:Cx) (op:CmpOp) (a b:Expr) (t:TE):Prop :=
 ∀(aa:LO) (s:Xe) (σ:St) (H:Hp) (Q:VK),Inv X aa σ H s->t σ H Q ->
  wpAny (model X.prog X.w) X.A (eval a X.env) (λv aH=>wpAny (model X.prog X.w) X.A (eval b X.env) (λu s₂=>wpAny (model X.prog X.w) X.A (compareOp op v u) (EP X aa σ Q) X.xe s₂) X.xe aH) X.xe s
theorem KC (b:Expr) {op:CmpOp} (h:op≠ .In) (h2:op≠ .NotIn):behindInMarks op b=false:=by
 have e1:(op==CmpOp.In)=false:=by cases op <;> first |rfl |exact absurd rfl h
 have e2:(op==CmpOp.NotIn)=false:=by cases op <;> first |rfl |exact absurd rfl h2
 cases b <;> simp[behindInMarks,e1,e2]
def WJ (ta:TE):TE:=λσ H Q=>ta σ H λx H1=>Q (.bl (decide (x=.aP))) H1
def U4 (ta:TE):TE:=λσ H Q=>ta σ H λx H1=>Q (.bl (!decide (x=.aP))) H1
theorem RelV.none_iff {x:V}{v:Value} (r:RelV x v):(v==Value.none)=decide (x=.aP):=by
 cases x with
 |aP=>cases r;rfl
 |bl _=>cases r;rfl
 |int _=>obtain⟨t,rfl⟩:=r;rfl
 |str _=>obtain⟨t,rfl⟩:=r;rfl
 |iB _=>obtain⟨t,rfl⟩:=r;rfl
 |jy _=>obtain⟨t,rfl⟩:=r;rfl
 |ref _=>cases r;rfl
 |ty _=>cases r;rfl
theorem Fh {j pos'} (ha:PE X a ta):PC X .Is a (.Constant .none j pos') (WJ ta):=by
 intro aa s σ H Q I h;refine aF (ha aa s σ H _ I h) λv s1 ⟨x,H1,I1,r1,q1⟩=>?_;exact Constant_none (is_none_gen ⟨.bl _,H1,I1,by rw[r1.none_iff];rfl,q1⟩)
theorem NG {j pos'} (ha:PE X a ta):PC X .IsNot a (.Constant .none j pos') (U4 ta):=by
 intro aa s σ H Q I h;refine aF (ha aa s σ H _ I h) λv s1 ⟨x,H1,I1,r1,q1⟩=>?_;exact Constant_none (isnot_none_gen ⟨.bl _,H1,I1,by rw[r1.none_iff];rfl,q1⟩)
def tB (t:TE):TT:=λσ H Q=>t σ H λx H1=>ExB x λc=>Q c H1
theorem JL {op:CmpOp}{t:TE} (h:PC X op a b t) (h1:behindInMarks op b=false:=by first |exact KC _ qc qc |rfl):PE X (.Compare a [op] [b] pos) t:=λaa s σ H Q I hw=>wpAny_Compare1 (h aa s σ H Q I hw) h1
theorem EY {op:CmpOp}{t:TE} (h:PC X op a b t) (h1:behindInMarks op b=false:=by first |exact KC _ qc qc |rfl):PT X (.Compare a [op] [b] pos) (tB t):=by
 intro aa s σ H Q I hw;refine wpAny_isTrue_Compare1 (aF (h aa s σ H _ I hw) λv s1 h1=>aF h1 λu s2 h2=>aF h2 λc s3 ⟨x,H1,I1,r1,q1⟩=>?_) h1;obtain⟨d,rfl,q⟩:=q1;cases r1;exact Z0 ⟨H1,I1,q⟩
theorem BB {t:TE} (h:PE X e t) (he:∀whole,isTrue e X.env whole=(do let v ←whole;standAt e.pos;holding [v] (truthy v)):=by intro _;rfl):PT X e (tB t):=by
 intro aa s σ H Q I hw;refine isTrue_plain (aF (h aa s σ H _ I hw) λv s1 ⟨x,H1,I1,r1,q1⟩=>?_) (he _);obtain⟨d,rfl,q⟩:=q1;cases r1;exact Z0 ⟨H1,I1,q⟩
variable {tA tB':TT}{rest:List Expr}
def U5 (t u:TT):TT:=λσ H Q=>t σ H λc H1=>if c=true then u σ H1 Q else Q false H1
def tOr (t u:TT):TT:=λσ H Q=>t σ H λc H1=>if c=true then Q true H1 else u σ H1 Q
def WK (t:TT):TT:=λσ H Q=>t σ H λc H1=>Q (!c) H1
theorem Ci (ha:PT X a tA):PW X (.BoolOp .And [a] pos) tA:=by
 intro wh aa s σ H Q I h;refine isTrue_and (aF (ha aa s σ H Q I h) λc s1 e=>?_);cases c with
 |true=>exact isTrue_and_nil e
 |false=>exact e
theorem Cw (ha:PT X a tA):PW X (.BoolOp .Or [a] pos) tA:=by
 intro wh aa s σ H Q I h;refine isTrue_or (aF (ha aa s σ H Q I h) λc s1 e=>?_);cases c with
 |false=>exact isTrue_or_nil e
 |true=>exact e
theorem Do (ha:PT X a tA) (hb:PW X (.BoolOp .And (b::rest) pos) tB'):PW X (.BoolOp .And (a::b::rest) pos) (U5 tA tB'):=by
 intro wh aa s σ H Q I h;refine isTrue_and (aF (ha aa s σ H _ I h) λc s1 ⟨H1,I1,q1⟩=>?_);cases c with
 |true=>exact hb wh aa s1 σ H1 Q I1 q1
 |false=>exact⟨H1,I1,q1⟩
theorem EN (ha:PT X a tA) (hb:PW X (.BoolOp .Or (b::rest) pos) tB'):PW X (.BoolOp .Or (a::b::rest) pos) (tOr tA tB'):=by
 intro wh aa s σ H Q I h;refine isTrue_or (aF (ha aa s σ H _ I h) λc s1 ⟨H1,I1,q1⟩=>?_);cases c with
 |true=>exact⟨H1,I1,q1⟩
 |false=>exact hb wh aa s1 σ H1 Q I1 q1
theorem Bs (ha:PT X a tA):PT X (.UnaryOp .Not a pos) (WK tA):=by
 intro aa s σ H Q I h;exact isTrue_not (ha aa s σ H (λc H1=>Q (!c) H1) I h)
def U6 (ta tb:TE):TE:=λσ H Q=>ta σ H λx H1=>ExB x λc=>if c=true then tb σ H1 Q else Q (.bl false) H1
def WL (ta tb:TE):TE:=λσ H Q=>ta σ H λx H1=>ExB x λc=>if c=true then Q (.bl true) H1 else tb σ H1 Q
def U7 (ta:TE):TE:=λσ H Q=>ta σ H λx H1=>ExB x λc=>Q (.bl (!c)) H1
theorem Cy {op}{t:TE} (h:PE X a t):PE X (.BoolOp op [a] pos) t:=λaa s σ H Q I hw=>BoolOp_one (h aa s σ H Q I hw)
theorem Cz (ha:PE X a ta) (hb:PE X (.BoolOp .And (b::rest) pos) tb):PE X (.BoolOp .And (a::b::rest) pos) (U6 ta tb):=by
 intro aa s σ H Q I h;refine BoolOp_and (aF (ha aa s σ H _ I h) λv s1 ⟨x,H1,I1,r1,q1⟩=>?_);obtain⟨c,rfl,q1⟩:=q1;cases r1;refine Z0 ?_;cases c with
 |true=>exact hb aa s1 σ H1 Q I1 q1
 |false=>exact⟨.bl false,H1,I1,rfl,q1⟩
theorem TM (ha:PE X a ta) (hb:PE X (.BoolOp .Or (b::rest) pos) tb):PE X (.BoolOp .Or (a::b::rest) pos) (WL ta tb):=by
 intro aa s σ H Q I h;refine BoolOp_or (aF (ha aa s σ H _ I h) λv s1 ⟨x,H1,I1,r1,q1⟩=>?_);obtain⟨c,rfl,q1⟩:=q1;cases r1;refine Z0 ?_;cases c with
 |false=>exact hb aa s1 σ H1 Q I1 q1
 |true=>exact⟨.bl true,H1,I1,rfl,q1⟩
theorem Pg (ha:PE X a ta):PE X (.UnaryOp .Not a pos) (U7 ta):=by
 intro aa s σ H Q I h;refine UnaryOp_ (aF (ha aa s σ H _ I h) λv s1 ⟨x,H1,I1,r1,q1⟩=>?_);obtain⟨c,rfl,q1⟩:=q1;cases r1;exact not_of (Z0 ⟨.bl (!c),H1,I1,Zj,q1⟩)
def tIf (t:TT) (ta tb:TE):TE:=λσ H Q=>t σ H λc H1=>if c=true then ta σ H1 Q else tb σ H1 Q
theorem C8 {c:Expr} (hc:PT X c tA) (ha:PE X a ta) (hb:PE X b tb):PE X (.IfExp c a b pos) (tIf tA ta tb):=by
 intro aa s σ H Q I h;refine wpAny_IfExp (aF (hc aa s σ H _ I h) λd s1 ⟨H1,I1,q1⟩=>?_);cases d with
 |true=>exact ha aa s1 σ H1 Q I1 q1
 |false=>exact hb aa s1 σ H1 Q I1 q1
end
def aK (K:FG) (H:Hp) (a:Xd) (xs:Xc):Prop :=
 Rd H a (.lst xs) \/
  ∃(o:Obj) (its:Array Value) (n:Nat),K.lookup a=some o/\o.cls=.type "list" /\ o.dict=none/\o.data=.seq its n/\its.size<=sizeLine/\Vals xs its.toList
def aQ (K:FG) (H:Hp) (a:Xd) (xs:Xc):Prop :=
 Rd H a (.tup xs) \/
  ∃(o:Obj) (its:Array Value) (n:Nat),K.lookup a=some o/\o.cls=.type "tuple" /\ o.data=.seq its n/\its.size<=sizeLine/\Vals xs its.toList
noncomputable def WM:Value->Option V
 | .none=>some .aP
 | .bool b=>some (.bl b)
 | .int i _=>some (.int i)
 | .str x _=>some (.str x)
 | .bytes b _=>some (.iB b)
 | .float b _=>some (.jy b)
 | .ref a=>some (.ref a)
 | .type n=>some (.ty n)
 |_=>none
theorem RelV.abs {x:V} (r:RelV x u):WM u=some x:=by
 cases x with
 |aP=>cases r;rfl
 |bl _=>cases r;rfl
 |int _=>obtain⟨t,rfl⟩:=r;rfl
 |str _=>obtain⟨t,rfl⟩:=r;rfl
 |iB _=>obtain⟨t,rfl⟩:=r;rfl
 |jy _=>obtain⟨t,rfl⟩:=r;rfl
 |ref _=>cases r;rfl
 |ty _=>cases r;rfl
theorem RelV.inj {x y:V}{u:Value} (r:RelV x u) (q:RelV y u):x=y:=Option.some.inj (r.abs.symm.trans q.abs)
theorem Vals.inj:∀ {xs ys:Xc}{us:Xb},Vals xs us->Vals ys us->xs=ys
 |_,_,_,.nil,.nil=>rfl
 |_,_,_,.cons r t,.cons r' t'=>by rw[r.inj r',Vals.inj t t']
section
variable {ys:Xc}
theorem aK.of (h:H a=some (.lst xs)):aK K H a xs:=.inl (.inl h)
theorem aQ.of (h:H a=some (.tup xs)):aQ K H a xs:=.inl (.inl h)
theorem Inv.list (I:Inv X aa σ H s) (h:aK X.K H a xs):∃its:Xb,Vals xs its/\PlainL s.heap a its.toArray/\xs.length<=sizeLine:=by
 rcases h with h |⟨o,its,n,hk,hc,hd,hs,hz,r⟩
 ·obtain⟨z,its,n,r,e⟩:=h.ok I.aE;exact⟨its,r,⟨_,n,e,Zj,Zj,Zj⟩,z⟩
 ·refine⟨its.toList,r,⟨o,n,I.cY a o hk,hc,hd,by simpa using hs⟩,?_⟩;have e:=r.length;simp only[Array.length_toList]at e;omega
theorem Inv.tuple (I:Inv X aa σ H s) (h:aQ X.K H a xs):∃its:Xb,Vals xs its/\IsTup s.heap a its.toArray/\xs.length<=sizeLine:=by
 rcases h with h |⟨o,its,n,hk,hc,hs,hz,r⟩
 ·obtain⟨z,its,r,p⟩:=h.ok I.aE;exact⟨its,r,p,z⟩
 ·refine⟨its.toList,r,⟨o,I.cY a o hk,hc,n,by simpa using hs⟩,?_⟩;have e:=r.length;simp only[Array.length_toList]at e;omega
theorem Inv.list_inj (I:Inv X aa σ H s) (h:aK X.K H a xs) (h':aK X.K H a ys):xs=ys:=by
 obtain⟨its,r,⟨o,n,e,_,_,d⟩,_⟩:=I.list h;obtain⟨its',r',⟨o',n',e',_,_,d'⟩,_⟩:=I.list h';rw[e]at e';cases e';rw[d]at d';injection d' with d1 _
 have:its=its':=by simpa using congrArg Array.toList d1
 subst this;exact r.inj r'
theorem Inv.tuple_inj (I:Inv X aa σ H s) (h:aQ X.K H a xs) (h':aQ X.K H a ys):xs=ys:=by
 obtain⟨its,r,⟨o,e,_,n,d⟩,_⟩:=I.tuple h;obtain⟨its',r',⟨o',e',_,n',d'⟩,_⟩:=I.tuple h';rw[e]at e';cases e';rw[d]at d';injection d' with d1 _
 have:its=its':=by simpa using congrArg Array.toList d1
 subst this;exact r.inj r'
end
noncomputable abbrev Cx.f7 (X:Cx) (E:VS):Cx:={ X with xe:=E }
noncomputable abbrev Cx.gP (X:Cx):Cx:=X.f7 λ_ _=>False
theorem Cx.Ok.f7 {X:Cx} (ok:X.Ok) (E:VS):(X.f7 E).Ok :=
 ⟨ok.mod,ok.kind,ok.glob,ok.blt,ok.above,ok.inj,ok.has,ok.iV,ok.hd,ok.frames,ok.gm,ok.exf,ok.bs,ok.gL,ok.gc,ok.fh,ok.dn,ok.ie⟩
theorem Cx.Ok.d4 (ok:(X.f7 E).Ok):X.Ok :=
 ⟨ok.mod,ok.kind,ok.glob,ok.blt,ok.above,ok.inj,ok.has,ok.iV,ok.hd,ok.frames,ok.gm,ok.exf,ok.bs,ok.gL,ok.gc,ok.fh,ok.dn,ok.ie⟩
section
theorem Inv.f7 (I:Inv X aa σ H s) (E:VS):Inv (X.f7 E) aa σ H s:=⟨I.ok.f7 E,I.os,I.bare,I.base,I.loc,I.cell,I.free,I.cG,I.pin,I.aE,I.len⟩
theorem Inv.d4 (I:Inv (X.f7 E) aa σ H s):Inv X aa σ H s:=⟨I.ok.d4,I.os,I.bare,I.base,I.loc,I.cell,I.free,I.cG,I.pin,I.aE,I.len⟩
theorem SP.d4 {D:Dj}{f:Flow}{s':Xe} (h:SP (X.f7 E) aa D f s'):SP X aa D f s':=by
 cases f with
 |next=>obtain⟨aJ,H',I,q⟩:=h;exact⟨aJ,H',I.d4,q⟩
 |brk=>obtain⟨aJ,H',I,q⟩:=h;exact⟨aJ,H',I.d4,q⟩
 |cont=>obtain⟨aJ,H',I,q⟩:=h;exact⟨aJ,H',I.d4,q⟩
 |ret u=>obtain⟨v,aJ,H',I,r,q⟩:=h;exact⟨v,aJ,H',I.d4,r,q⟩
theorem eK.gP {st:List Stmt}{t:TS} (h:eK X.gP st t):eK X st t:=λaa s σ H D I hw =>
 Zv (h aa s σ H D (I.f7 _) hw) (λ_ _ q=>q.d4) λ_ _ z=>False.elim z
end
section
variable {st:Stmt}{rest:List Stmt}{t u:TS}
def TN:TS:=λD σ H=>D.nx σ H
def U8 (t u:TS):TS:=λD σ H=>t { D with nx:=u D } σ H
theorem Ae:eK X [] TN:=λ_ _ σ H _ I h=>wpAny_execs_nil ⟨σ,H,I,h⟩
theorem AF (h1:PS X st t) (h2:eK X rest u):eK X (st::rest) (U8 t u):=by
 intro aa s σ H D I h;refine wpAny_execs_cons (aF (h1 aa s σ H { D with nx:=u D } I h) λf s1 q=>?_);cases f with
 |next =>
  obtain⟨aJ,H',I',q⟩:=q;exact h2 aa s1 aJ H' D I' q
 |ret v=>exact q
 |brk=>exact q
 |cont=>exact q
theorem AG (h1:PS X st t):eK X [st] t:=by
 intro aa s σ H D I h;refine wpAny_execs_cons (aF (h1 aa s σ H D I h) λf s1 q=>?_);cases f with
 |next=>exact wpAny_execs_nil q
 |ret v=>exact q
 |brk=>exact q
 |cont=>exact q
theorem Inv.quiet (I:Inv X aa σ H s):interactive X.env=false:=by simp[interactive,I.ok.kind]
def U9 (te:TE):TS:=λD σ H=>te σ H λ_ H1=>D.nx σ H1
theorem BJ (he:PE X e te) (hs:swapsWith e none pos.line X.env=pure false:=by rfl):PS X (.Expr e pos) (U9 te):=by
 intro aa s σ H D I h;exact wpAny_Expr_any (aF (he aa s σ H _ I h) λv s1 ⟨x,H1,I1,r1,q1⟩=>⟨σ,H1,I1,q1⟩) I.quiet hs
def Ph (te:TE):TS:=λD σ H=>te σ H D.rt
theorem AO (he:PE X e te):PS X (.Return (some e) pos) (Ph te):=by
 intro aa s σ H D I h;exact wpAny_Return_some (aF (he aa s σ H _ I h) λv s1 ⟨x,H1,I1,r1,q1⟩=>⟨x,σ,H1,I1,r1,q1⟩)
def Tu (c:TT) (t u:TS):TS:=λD σ H=>c σ H λb H1=>if b=true then t D σ H1 else u D σ H1
theorem An {c:Expr}{a b:List Stmt}{tc:TT} (hc:PT X c tc) (ha:eK X a t) (hb:eK X b u):PS X (.If c a b pos) (Tu tc t u):=by
 intro aa s σ H D I h;refine wpAny_If (aF (hc aa s σ H _ I h) λd s1 ⟨H1,I1,q1⟩=>?_);cases d with
 |true=>exact ha aa s1 σ H1 D I1 q1
 |false=>exact hb aa s1 σ H1 D I1 q1
def Tv:TS:=λ_ _ _=>False
theorem Ak:PS X st Tv:=λ_ _ _ _ _ _ h=>h.elim
end
abbrev TG:=V->St->Hp->(St->Hp->Prop)->Prop
abbrev TGs:=Xc->St->Hp->(St->Hp->Prop)->Prop
def PG (X:Cx) (target:Expr) (t:TG):Prop :=
 ∀(aa:LO) (s:Xe) (σ:St) (H:Hp) (v:V) (u:Value) (Q:St->Hp->Prop),Inv X aa σ H s->RelV v u->t v σ H Q ->
  wpAny (model X.prog X.w) X.A (assign target X.env u) (λ_ s'=>∃aJ H',Inv X aa aJ H' s'/\Q aJ H') X.xe s
def PGs (X:Cx) (ts:List Expr) (t:TGs):Prop :=
 ∀(aa:LO) (s:Xe) (σ:St) (H:Hp) (vs:Xc) (us:Xb) (Q:St->Hp->Prop),Inv X aa σ H s->Vals vs us->t vs σ H Q ->
  wpAny (model X.prog X.w) X.A (assignInOrder ((assignEach ts X.env).map (·.2)) us) (λ_ s'=>∃aJ H',Inv X aa aJ H' s'/\Q aJ H') X.xe s
abbrev Tw:=V->V->V->Hp->(Hp->Prop)->Prop
def VA (X:Cx) (t:Tw):Prop :=
 ∀(aa:LO) (s:Xe) (σ:St) (H:Hp) (o i v:V) (ov iv u:Value) (Q:Hp->Prop),Inv X aa σ H s->RelV o ov->RelV i iv->RelV v u->t o i v H Q ->
  wpAny (model X.prog X.w) X.A (setItem ov iv u) (λ_ s'=>∃H',Inv X aa σ H' s'/\Q H') X.xe s
abbrev TIp:=V->V->Hp->VK->Prop
def PIp (X:Cx) (op:Operator) (t:TIp):Prop :=
 ∀(aa:LO) (s:Xe) (σ:St) (H:Hp) (x y:V) (v u:Value) (Q:VK),Inv X aa σ H s->RelV x v->RelV y u->t x y H Q ->
  wpAny (model X.prog X.w) X.A (inplaceOp op v u) (EP X aa σ Q) X.xe s
section
def Cb (i:Nat):TG:=λv σ H Q=>Q (σ.set i (some v)) H
theorem AV {i:Nat} (hN:X.N.Nodup) (hi:X.N[i]?=some x) (hx:Loc X.env.scope x) (hf:X.fn x=true\/X.env.scope.names.lookup x=some .local:=by first |exact .inl rfl |exact .inr rfl |assumption):PG X (.Name x pos) (Cb i):=by
 intro aa s σ H v u Q I r h;exact wpAny_assign_Name (Br I hN hi hx r (λs' I'=>⟨_,H,I',h⟩) hf)
def Rp:TGs:=λvs σ H Q=>vs=[]/\Q σ H
inductive ExC (vs:Xc) (k:V->Xc->Prop):Prop where
 |mk (v:V) (r:Xc) (h:vs=v::r) (q:k v r):ExC vs k
def Go (t:TG) (u:TGs):TGs:=λvs σ H Q=>ExC vs λv r=>t v σ H λaJ H'=>u r aJ H' Q
theorem BE:PGs X [] Rp:=by
 intro aa s σ H vs us Q I r h;obtain⟨e,h⟩:=h;subst e;cases r;exact assignInOrder_nil ⟨σ,H,I,h⟩
theorem AY {es:List Expr}{t:TG}{u:TGs} (h1:PG X e t) (h2:PGs X es u)
  (hs:(assignEach (e::es) X.env).map (·.2)=assign e X.env::(assignEach es X.env).map (·.2):=by rfl):PGs X (e::es) (Go t u):=by
 intro aa s σ H vs us Q I r h;obtain⟨v,vr,e1,h⟩:=h;subst e1;cases r with
 |cons r rr =>
  rw[hs];refine assignInOrder_cons (aF (h1 aa s σ H _ _ _ I r h) λ_ s1 ⟨iK,H1,I1,q1⟩=>?_);exact h2 aa s1 iK H1 _ _ Q I1 rr q1
inductive ExT (K:FG) (n:Nat) (v:V) (H:Hp) (k:Xc->Prop):Prop where
 |mk (a:Xd) (xs:Xc) (h1:v=.ref a) (h2:aQ K H a xs) (h3:xs.length=n) (q:k xs):ExT K n v H k
def Rq (K:FG) (n:Nat) (t:TGs):TG:=λv σ H Q=>ExT K n v H λxs=>t xs σ H Q
theorem Bc {es:List Expr}{k:Nat}{t:TGs}{n:Nat} (hc:X.calm=true) (h:PGs X es t)
  (hn:(assignEach es X.env).length=n:=by rfl) (hst:(assignEach es X.env).findIdx? (·.1)=none:=by rfl):PG X (.Tuple es k pos) (Rq X.K n t):=by
 intro aa s σ H v u Q I r hw;obtain⟨a,xs,e1,hq,hl,hw⟩:=hw;subst e1;cases r;obtain⟨its,rv,ht,hz⟩:=I.tuple hq;refine assign_Tuple_tuple (I.ok.hd hc) ht (by simp[hn,←hl,rv.length]) hst λh' hx=>?_;have I1:Inv X aa σ H { s with heap:=h' }:=I.kept (t':=s.toks) λb o e=>hx b o (ZC (lt_size e)) e;exact h aa _ σ H xs _ Q I1 (by simpa using rv) hw
def WN (to ti:TE) (t:Tw):TG:=λv σ H Q=>to σ H λo H1=>ti σ H1 λi H2=>t o i v H2 λH3=>Q σ H3
theorem JM {o i:Expr}{to ti:TE}{t:Tw} (ho:PE X o to) (hi:PE X i ti) (hs:VA X t)
  (ha:∀v,assign (.Subscript o i pos) X.env v=(do
   let ov ←holding [v] (eval o X.env)
   let iv ←holding [v,ov] (eval i X.env)
   standAt pos
   holding [v,ov,iv] (setItem ov iv v)
   release [v,ov,iv] []):=by intro _;rfl):PG X (.Subscript o i pos) (WN to ti t):=by
 intro aa s σ H v u Q I r h;rw[ha];refine Zx (ZK (aF (ho aa s σ H _ I h) λov s1 ⟨x,H1,I1,r1,q1⟩=>?_));refine Zx (ZK (aF (hi aa s1 σ H1 _ I1 q1) λiv s2 ⟨y,H2,I2,r2,q2⟩=>?_));refine Zx (ZJ (Zx (ZK (aF (hs aa s2 σ H2 x y v ov iv u _ I2 r1 r2 r q2) λ_ s3 ⟨H3,I3,q3⟩=>?_))));exact wpAny_release ⟨σ,H3,I3,q3⟩
def Tx (te:TE) (g:TG):TS:=λD σ H=>te σ H λx H1=>g x σ H1 D.nx
theorem B6 {tg:Expr}{g:TG} (he:PE X e te) (hg:PG X tg g) (hs:swapsWithSole [tg] e pos.line X.env=pure false:=by rfl) (hw:swappedStores [tg] e X.env=pure none:=by rfl)
  (h1:(assignEach [tg] X.env).map (·.2)=[assign tg X.env]:=by rfl):PS X (.Assign [tg] e pos) (Tx te g):=by
 intro aa s σ H D I h;refine wpAny_Assign_stores (aF (he aa s σ H _ I h) λv s1 ⟨x,H1,I1,r1,q1⟩=>?_) hs hw;rw[h1];exact aF (hg aa s1 σ H1 x v _ I1 r1 q1) λ_ s2 q=>q
theorem Ag {i:Nat}{pos':Pos} (hN:X.N.Nodup) (hi:X.N[i]?=some x) (hx:Loc X.env.scope x) (he:PE X e te) (hs:swapsWith e (some (.Name x pos')) pos.line X.env=pure false:=by rfl) (hf:X.fn x=true\/X.env.scope.names.lookup x=some .local:=by first |exact .inl rfl |exact .inr rfl |assumption) :
  PS X (.Assign [.Name x pos'] e pos) (Tx te (Cb i)):=by
 intro aa s σ H D I h;refine wpAny_Assign_Name (aF (he aa s σ H _ I h) λv s1 ⟨y,H1,I1,r1,q1⟩=>?_) hs;exact Br I1 hN hi hx r1 (λs2 I2=>⟨_,H1,I2,q1⟩) hf
def WO (i j:Nat) (ta:TA):TS:=λD σ H=>ta σ H λvs H1=>∃v w,vs=[v,w]/\D.nx ((σ.set i (some v)).set j (some w)) H1
theorem Pi {i j:Nat}{y:Str}{a b:Expr}{ta:TA}{px py pt:Pos}{kt k2 pt2} (hc:X.calm=true) (hN:X.N.Nodup) (hi:X.N[i]?=some x) (hj:X.N[j]?=some y) (hij:i≠j)
  (hx:X.env.scope.names.lookup x=some .local) (hy:X.env.scope.names.lookup y=some .local) (ha:PA X [a,b] ta)
  (hw:swappedStores [.Tuple [.Name x px,.Name y py] kt pt] (.Tuple [a,b] k2 pt2) X.env=pure (some [x,y]))
  (hs:swapsWithSole [.Tuple [.Name x px,.Name y py] kt pt] (.Tuple [a,b] k2 pt2) pos.line X.env=pure false:=by rfl) :
  PS X (.Assign [.Tuple [.Name x px,.Name y py] kt pt] (.Tuple [a,b] k2 pt2) pos) (WO i j ta):=by
 intro aa s σ H D I h;rw[exec_Assign_arm];refine Zx (ZJ ?_);rw[hs];refine Zx (Zw ?_);rw[Zq qc];refine Zx (Tuple_ (aF (ha _ aa s σ H _ I h) λus s1 ⟨vs,H1,I1,r1,q1⟩=>?_));obtain⟨v,w,e1,q1⟩:=q1;subst e1
 obtain⟨u1,u2,rfl,rv,gN⟩:∃u1 u2,us=[u1,u2]/\RelV v u1/\RelV w u2:=by
  cases r1 with
  |cons p q =>
   cases q with
   |cons p' q' =>
    cases q';exact⟨_,_,Zj,p,p'⟩
 refine wpAny_newObj_type ?_ eO;have I2:Inv X aa σ H1 { s1 with heap:=s1.heap.push { cls:=.type "tuple", data:=.seq [u1,u2].toArray } }:=I1.kept (t':=s1.toks) λb o e=>ZX _ e;rw[hw];refine Zx (Zw ?_);show wpAny (model X.prog X.w) X.A (do rule "assign.swapped-stores";let items ←unpackItems (.ref s1.heap.objs.size) 2 none;assignInOrder [λv=>bindName X.env y v,λv=>bindName X.env x v] items.reverse;pure Flow.next) _ _ _;refine Zx (wpAny_rule (Zx (unpackItems_tuple (items:=#[u1,u2]) (I.ok.hd hc) (IsTup.new s1.heap _) λh' hx'=>?_)));have I3:=I2.kept (h':=h') (t':=s1.toks) λb o e=>hx' b o (ZC (lt_size e)) e;show wpAny _ _ (assignInOrder [λv=>bindName X.env y v,λv=>bindName X.env x v] [u2,u1] >>= λ_=>pure Flow.next) _ _ _;refine Zx (assignInOrder_cons (wpAny_bindName (Br I3 hN hj (.inl hy) gN (λs2 I4=>?_) (.inr hy))));refine assignInOrder_cons (wpAny_bindName (Br I4 hN hi (.inl hx) rv (λs3 I5=>assignInOrder_nil (Zw ?_)) (.inr hx)));rw[List.set_comm _ _ (Ne.symm hij)]at I5;exact⟨_,H1,I5,q1⟩
def WP (i:Nat) (te:TE) (ti:TIp):TS:=λD σ H=>∃x,σ[i]?=some (some x)/\te σ H λy H1=>ti x y H1 λz H2=>D.nx (σ.set i (some z)) H2
theorem Lh {i:Nat}{op:Operator}{ti:TIp}{pos':Pos} (hN:X.N.Nodup) (hi:X.N[i]?=some x) (hx:Loc X.env.scope x) (he:PE X e te) (ho:PIp X op ti) (hf:X.fn x=true\/X.env.scope.names.lookup x=some .local:=by first |exact .inl rfl |exact .inr rfl |assumption) :
  PS X (.AugAssign (.Name x pos') op e pos) (WP i te ti):=by
 intro aa s σ H D I h;obtain⟨v,e1,h⟩:=h;obtain⟨m,hn,hl⟩:=I.loc;have vis:Vis X.env.scope x:=by rcases hx with k |k;exact .inl k;exact .inr (.inl k)
 obtain⟨u,r,l⟩:=hl i x v hi e1 vis;refine wpAny_AugAssign_Name ?_
 have go:wpAny (model X.prog X.w) X.A (eval e X.env) (λw s₂=>wpAny (model X.prog X.w) X.A (inplaceOp op u w) (λr s₃=>wpAny (model X.prog X.w) X.A (storeName X.env x r) (λ_=>SP X aa D .next) X.xe s₃) X.xe s₂) X.xe s:=by
  refine aF (he aa s σ H _ I h) λw s1 ⟨y,H1,I1,r1,q1⟩=>?_;refine aF (ho aa s1 σ H1 v y u w _ I1 r r1 q1) λz s2 ⟨zv,H2,I2,r2,q2⟩=>?_;exact Br I2 hN hi hx r2 (λs3 I3=>⟨_,H2,I3,q2⟩) hf
 rcases l with⟨hk,hm⟩ |⟨hk,c,hc,bi⟩
 ·exact wpAny_loadName_local I.ok.kind hk hn hm go
 ·rcases hk with hk |hk
  ·exact wpAny_loadName_cell I.ok.kind hk hc bi go
  ·rcases hx with k |k
   ·have:X.env.scope.names.lookup x=some .free:=hk;rw[k]at this;cases this
   ·have:X.env.scope.names.lookup x=some .free:=hk;rw[k]at this;cases this
end
section
def Pj (c:TT) (tb:TS):TS:=λD σ H=>∃W:Nat->St->Hp->Prop,(∃m,W m σ H)/\∀m σ H,W m σ H ->
 c σ H λb H1=>if b=true then ∃N:St->Hp->Prop,(∀aJ H',N aJ H'->∃m',m'<m/\W m' aJ H')/\tb { D with nx:=N,ct:=N,bk:=D.nx } σ H1 else D.nx σ H1
theorem E3 {c:Expr}{body:List Stmt}{tc:TT}{tb:TS} (hp:PassesOwn (model X.prog X.w) X.A X.env X.xe) (hc:PT X c tc) (hb:eK X body tb):PS X (.While c body [] pos) (Pj tc tb):=by
 intro aa s σ H D I h;obtain⟨W,⟨m0,w0⟩,turn⟩:=h;refine wpAny_While (codeAny_whileLoop (λn s'=>∃aJ H',Inv X aa aJ H' s'/\W n aJ H') ?_ m0 ⟨σ,H,I,w0⟩);rintro n s1 ⟨iK,H1,I1,w1⟩;refine wpAny_passesOwn hp (aF (hc aa s1 iK H1 _ I1 (turn n iK H1 w1)) λb s2 ⟨H2,I2,q2⟩=>?_);cases b with
 |true =>
  obtain⟨N,hN,q2⟩:=q2;rw[Zp rfl];refine wpAny_passesOwn hp (aF (hb aa s2 iK H2 _ I2 q2) λf s3 q3=>?_);cases f with
  |next =>
   obtain⟨iJ,H3,I3,n3⟩:=q3;obtain⟨m',hm,w3⟩:=hN iJ H3 n3;exact⟨m',hm,iJ,H3,I3,w3⟩
  |cont =>
   obtain⟨iJ,H3,I3,n3⟩:=q3;obtain⟨m',hm,w3⟩:=hN iJ H3 n3;exact⟨m',hm,iJ,H3,I3,w3⟩
  |brk=>exact q3
  |ret v=>exact q3
 |false =>
  rw[Zq Bool.false_ne_true];exact wpAny_execs_nil ⟨iK,H2,I2,q2⟩
end
structure It where
 go:Nat->Hp->Prop
 gE:Nat->Hp->V->Hp->Prop
 stop:Nat->Hp->Prop
def EL (X:Cx) (aa:LO) (H:Hp) (b:Xd):Prop :=
 H b=none/\b≠X.env.locals/\b∉ X.fs/\(b∈X.ex\/X.aW.heap.objs.size<=b)/\(∀x c,X.env.cells.lookup x=some c->c≠b)/\∀p∈X.pn++aa,p.1≠b
theorem Inv.gu {b:Xd} (I:Inv X aa σ H s) (hb:s.heap.objs.size<=b) (hn:H' b=none):EL X aa H' b:=by
 refine⟨hn,Nat.ne_of_gt (Z2 I.lt hb),I.nofs hb,.inr (Nat.le_trans I.sz hb),λx c e z=>?_,λp hp z=>?_⟩
 ·obtain⟨v,q⟩:=I.cell x c e;exact absurd (Z2 q.lt (by rw[z];exact hb)) (ZF _)
 ·exact absurd (Z2 (lt_size (I.pin p hp).1) (by rw[z];exact hb)) (ZF _)
structure KD (P:Program) (w:World) (K:FG) (tg:Expr) (J:It) (fp:List Xd) (it:Xd) (tn:Nat->Heap->Prop):Prop where
 mem:it∈fp
 obj:∀i h,tn i h->∀b∈fp,∃o,h.get? b=some o/\∀v,o.data≠ .cell v
 keep:∀i h h',tn i h->(∀b∈fp,∀o,h.get? b=some o->h'.get? b=some o)->tn i h'
 item:∀(X:Cx),X.prog=P->X.w=w->X.K=K->X.calm=true->∀(i:Nat) (aa:LO) (s:Xe) (σ:St) (H:Hp) (E:VS),Inv X aa σ H s->(∀b∈fp,EL X aa H b)->tn i s.heap->J.go i H ->
  wpAny (model P w) X.A (pyNext (.ref it)) (λr s1=>∃u,r=some u /\
   wpAny (model P w) X.A (letOwnedTupleGo tg (.ref it) u) (λ_ s2=>∃x H',Inv X aa σ H' s2/\RelV x u/\J.gE i H x H'/\tn (i+1) s2.heap/\∀b∈fp,H' b=none) E s1) E s
 done:∀(X:Cx),X.prog=P->X.w=w->X.K=K->X.calm=true->∀(i:Nat) (aa:LO) (s:Xe) (σ:St) (H:Hp) (E:VS),Inv X aa σ H s->(∀b∈fp,EL X aa H b)->tn i s.heap->J.stop i H ->
  wpAny (model P w) X.A (pyNext (.ref it)) (λr s1=>r=none/\Inv X aa σ H s1) E s
 self:∀(A:Around) (i:Nat) (s:Xe) (Q:VS) (E:VS),tn i s.heap->Q (.ref it) s->wpAny (model P w) A (pyIter (.ref it)) Q E s
abbrev TI:=St->Hp->(It->Hp->Prop)->Prop
def PIE (X:Cx) (aa:LO) (σ:St) (tg:Expr) (R:It->Hp->Prop) (jN:Value) (s2:Xe):Prop :=
 ∃(it:Xd) (fp:List Xd) (tn:Nat->Heap->Prop) (J:It) (H':Hp),jN=.ref it/\Inv X aa σ H' s2/\KD X.prog X.w X.K tg J fp it tn/\tn 0 s2.heap/\(∀b∈fp,EL X aa H' b)/\R J H'
def PI (X:Cx) (tg iter:Expr) (wi:TI):Prop :=
 ∀(aa:LO) (s:Xe) (σ:St) (H:Hp) (R:It->Hp->Prop),Inv X aa σ H s->wi σ H R ->
  wpAny (model X.prog X.w) X.A (eval iter X.env) (λv s1=>wpAny (model X.prog X.w) X.A (pyIter v) (PIE X aa σ tg R) X.xe s1) X.xe s
theorem KF {M:Model}{tg:Expr}{it:Xd}{o:Obj}{n:String}{vs:Array Value}{Q:Unit->Xe->Prop} (ho:s.heap.get? it=some o) (hc:o.cls=.type n) (hd:o.data=.fields vs)
    (hn:["enumerate", "zip", "dict_itemiterator", "dict_reverseitemiterator", "odict_iterator", "itertools.zip_longest", "itertools.pairwise"].contains n=false) (hQ:Q () s):wpAny M A (letOwnedTupleGo tg (.ref it) u) Q E s:=by
  unfold letOwnedTupleGo
  cases tg <;> first
    |exact Zw hQ
    | (cases u <;> first
        |exact Zw hQ
        | (refine Zx (wpAny_load ho ?_)
           rw[hc,hd];show wpAny M A (if (["enumerate", "zip", "dict_itemiterator", "dict_reverseitemiterator", "odict_iterator", "itertools.zip_longest", "itertools.pairwise"].contains n&&vs[0]?==some (rawInt _))=true then _ else _) Q E s;rw[Zq (by intro h;rw[hn,Bool.false_and]at h;cases h)]
           exact Zw hQ))
noncomputable def iH (K:FG) (a:Xd):It :=
 ⟨λi H=>∃xs x,aK K H a xs/\xs[i]?=some x,λi H x H'=>H'=H/\∀xs,aK K H a xs->xs[i]?=some x,λi H=>∃xs,aK K H a xs/\xs.length<=i⟩
noncomputable def Itt (K:FG) (a:Xd):It :=
 ⟨λi H=>∃xs x,aQ K H a xs/\xs[i]?=some x,λi H x H'=>H'=H/\∀xs,aQ K H a xs->xs[i]?=some x,λi H=>∃xs,aQ K H a xs/\xs.length<=i⟩
noncomputable def jB (lo:Int) (n:Nat):It:=⟨λi _=>i<n,λi H x H'=>H'=H/\x=.int (lo+i),λi _=>n<=i⟩
theorem IR {tg:Expr} (a it:Xd):KD P w K tg (iH K a) [it] it (λi h=>h.IsListIter it a i) where
 mem:=by simp
 obj:=λi h st b hb=>by
  have e:b=it:=by simpa using hb
  subst e;obtain⟨o,e,c,d⟩:=st;exact⟨o,e,λv z=>by rw[d]at z;cases z⟩
 keep:=λi h h' st k=>st.at λo e=>k it (by simp) o e
 item:=by
  intro X hP hw hK hc i aa s σ H E I hf st hg;subst hP hw hK;obtain⟨xs,x,hq,hx⟩:=hg;obtain⟨its,rv,p,hz⟩:=I.list hq;obtain⟨u,hu,ru⟩:=rv.get hx;obtain⟨f0,f1,f2,f3,f4,f5⟩:=hf it (by simp);refine wpAny_pyNext_list_item st p.isList (x:=u) (by simpa using hu) λh' eN sb=>?_;have I1:Inv X aa σ H { s with heap:=h' }:=I.turned (t':=s.toks) (λb o hb e=>(sb.2 b hb).trans e) f0 f1 f3 f4 f5;obtain⟨o,e,c,d⟩:=id eN;exact⟨u,Zj,KF (s:={ s with heap:=h' }) e c d qc ⟨x,H,I1,ru,⟨Zj,λys hy=>by rw[I.list_inj hy hq];exact hx⟩,eN,λb hb=>(hf b hb).1⟩⟩
 done:=by
  intro X hP hw hK hc i aa s σ H E I hf st hg;subst hP hw hK;obtain⟨xs,hq,hx⟩:=hg;obtain⟨its,rv,p,hz⟩:=I.list hq;obtain⟨f0,f1,f2,f3,f4,f5⟩:=hf it (by simp);have hl:=rv.length;exact wpAny_pyNext_list_end (I.ok.hd hc) st p.isList (by simp;omega) λh' eb=>⟨Zj,I.turned (t':=s.toks) (λb o hb e=>eb b o hb e) f0 f1 f3 f4 f5⟩
 self:=λ_ _ _ _ _ st h=>wpAny_pyIter_listiter st h
theorem Li {tg:Expr} (a it:Xd):KD P w K tg (Itt K a) [it] it (λi h=>h.IsTupleIter it a i) where
 mem:=by simp
 obj:=λi h st b hb=>by
  have e:b=it:=by simpa using hb
  subst e;obtain⟨o,e,c,d⟩:=st;exact⟨o,e,λv z=>by rw[d]at z;cases z⟩
 keep:=λi h h' st k=>st.at λo e=>k it (by simp) o e
 item:=by
  intro X hP hw hK hc i aa s σ H E I hf st hg;subst hP hw hK;obtain⟨xs,x,hq,hx⟩:=hg;obtain⟨its,rv,p,hz⟩:=I.tuple hq;obtain⟨u,hu,ru⟩:=rv.get hx;obtain⟨f0,f1,f2,f3,f4,f5⟩:=hf it (by simp);refine wpAny_pyNext_tuple_item st (show s.heap.IsTuple a its.toArray from p) (x:=u) (by simpa using hu) λh' eN sb=>?_;have I1:Inv X aa σ H { s with heap:=h' }:=I.turned (t':=s.toks) (λb o hb e=>(sb.2 b hb).trans e) f0 f1 f3 f4 f5;obtain⟨o,e,c,d⟩:=id eN;exact⟨u,Zj,KF (s:={ s with heap:=h' }) e c d qc ⟨x,H,I1,ru,⟨Zj,λys hy=>by rw[I.tuple_inj hy hq];exact hx⟩,eN,λb hb=>(hf b hb).1⟩⟩
 done:=by
  intro X hP hw hK hc i aa s σ H E I hf st hg;subst hP hw hK;obtain⟨xs,hq,hx⟩:=hg;obtain⟨its,rv,p,hz⟩:=I.tuple hq;obtain⟨f0,f1,f2,f3,f4,f5⟩:=hf it (by simp);have hl:=rv.length;exact wpAny_pyNext_tuple_end (I.ok.hd hc) st (show s.heap.IsTuple a its.toArray from p) (by simp;omega) λh' eb=>⟨Zj,I.turned (t':=s.toks) (λb o hb e=>eb b o hb e) f0 f1 f3 f4 f5⟩
 self:=λ_ _ _ _ _ st h=>wpAny_pyIter_tupleiter st h
theorem Lj {tg:Expr} (it:Xd) (lo:Int) (n:Nat):KD P w K tg (jB lo n) [it] it (λi h=>IsRangeIter h it (lo+(i:Nat)*1) ((n:Int) - (i:Nat)) 1) where
 mem:=by simp
 obj:=λi h st b hb=>by
  have e:b=it:=by simpa using hb
  subst e
  exact⟨_,st,λv z=>by
   have z':Data.fields _=Data.cell v:=z
   cases z'⟩
 keep:=λi h h' st k=>k it (by simp) _ st
 item:=by
  intro X hP hw hK hc i aa s σ H E I hf st hg;subst hP hw hK;obtain⟨f0,f1,f2,f3,f4,f5⟩:=hf it (by simp);have W:=Walks.range (prog:=X.prog) (w:=X.w) (I.ok.hd hc) it lo 1 n;refine W.item i s _ _ hg st λv h' tk hv eN kk=>?_;obtain⟨t,rfl⟩:=hv;have I1:Inv X aa σ H { s with heap:=h',toks:=tk }:=I.turned (λb o hb e=>kk b o (by simpa using hb) e) f0 f1 f3 f4 f5;refine⟨_,Zj,KF (s:={ s with heap:=h',toks:=tk }) (n := "range_iterator") eN Zj Zj qc ⟨.int (lo+i),H,I1,⟨t,?_⟩,⟨Zj,Zj⟩,eN,λb hb=>(hf b hb).1⟩⟩;rw[Int.mul_one]
 done:=by
  intro X hP hw hK hc i aa s σ H E I hf st hg;subst hP hw hK;obtain⟨f0,f1,f2,f3,f4,f5⟩:=hf it (by simp);exact wpAny_pyNext_range_end (I.ok.hd hc) st (by have:n<=i:=hg;omega) λh' eb=>⟨Zj,I.turned (t':=s.toks) (λb o hb e=>eb b o hb e) f0 f1 f3 f4 f5⟩
 self:=λ_ _ _ _ _ st h=>wpAny_pyIter_rangeiter st h
section
variable {tg:Expr}
def Pk (K:FG) (tl:TE):TI:=λσ H R=>tl σ H λx H1=>∃a,x=.ref a/\(∃xs,aK K H1 a xs)/\R (iH K a) H1
def WQ (K:FG) (tl:TE):TI:=λσ H R=>tl σ H λx H1=>∃a,x=.ref a/\(∃xs,aQ K H1 a xs)/\R (Itt K a) H1
theorem CJ {l:Expr}{tl:TE} (hl:PE X l tl):PI X tg l (Pk X.K tl):=by
 intro aa s σ H R I h;refine aF (hl aa s σ H _ I h) λv s1 ⟨x,H1,I1,r1,q1⟩=>?_;obtain⟨a,e,⟨xs,hq⟩,q⟩:=q1;subst e;cases r1;obtain⟨its,rv,p,hz⟩:=I1.list hq;refine wpAny_pyIter_list p.isList ?_;refine⟨s1.heap.objs.size,[s1.heap.objs.size],_,_,H1,Zj,I1.kept (t':=s1.toks) λb o e=>ZX _ e,IR a _,⟨_,ZN _ Zj,Zj,Zj⟩,λb hb=>?_,q⟩;have e:b=s1.heap.objs.size:=by simpa using hb
 subst e;exact I1.gu (Zy _) (I1.aE.fresh (Zy _))
theorem Pl {l:Expr}{tl:TE} (hl:PE X l tl):PI X tg l (WQ X.K tl):=by
 intro aa s σ H R I h;refine aF (hl aa s σ H _ I h) λv s1 ⟨x,H1,I1,r1,q1⟩=>?_;obtain⟨a,e,⟨xs,hq⟩,q⟩:=q1;subst e;cases r1;obtain⟨its,rv,p,hz⟩:=I1.tuple hq;refine wpAny_pyIter_tuple (show s1.heap.IsTuple a its.toArray from p) ?_;refine⟨s1.heap.objs.size,[s1.heap.objs.size],_,_,H1,Zj,I1.kept (t':=s1.toks) λb o e=>ZX _ e,Li a _,⟨_,ZN _ Zj,Zj,Zj⟩,λb hb=>?_,q⟩;have e:b=s1.heap.objs.size:=by simpa using hb
 subst e;exact I1.gu (Zy _) (I1.aE.fresh (Zy _))
theorem Pm {R:It->Hp->Prop}{lo hi:Int}{t u v:Tok}{tk:Nat} (I:Inv X aa σ H s) (h1:-(2 ^ 62)<=lo) (h2:lo<2 ^ 62) (h3:-(2 ^ 62)<=hi) (h4:hi<2 ^ 62)
  (q:R (jB lo (hi - lo).toNat) H):wpAny (model X.prog X.w) X.A (pyIter (.ref s.heap.objs.size)) (PIE X aa σ tg R) E { s with heap:=s.heap.push { cls:=.type "range", data:=.fields #[.int lo t,.int hi u,.int 1 v] },toks:=tk }:=by
 refine wpAny_pyIter_range (IsRange.new ..) (small_one h1 h2 h3 h4) ?_;have I1:Inv X aa σ H { s with heap:=s.heap.push { cls:=.type "range", data:=.fields #[.int lo t,.int hi u,.int 1 v] },toks:=tk }:=I.kept λb o e=>ZX _ e
 refine⟨(s.heap.push { cls:=.type "range", data:=.fields #[.int lo t,.int hi u,.int 1 v] }).objs.size,[(s.heap.push { cls:=.type "range", data:=.fields #[.int lo t,.int hi u,.int 1 v] }).objs.size],_,_,H,Zj,
  I1.kept (t':=tk) λb o e=>ZX _ e,Lj _ lo (hi - lo).toNat,?_,λb hb=>?_,q⟩
 ·have e1:lo+((0:Nat):Int)*1=lo:=by simp
  have e2:(((hi - lo).toNat:Nat):Int) - ((0:Nat):Int)=Builtin.Range.rangeSize lo hi 1:=by rw[rangeSize_one];split <;> omega
  show IsRangeIter _ _ (lo+((0:Nat):Int)*1) ((((hi - lo).toNat:Nat):Int) - ((0:Nat):Int)) 1;rw[e1,e2];exact ZN _ rfl
 ·have e:b=(s.heap.push { cls:=.type "range", data:=.fields #[.int lo t,.int hi u,.int 1 v] }).objs.size:=by simpa using hb
  subst e;exact I1.gu (Zy _) (I1.aE.fresh (Zy _))
def VB (ta:TA):TI:=λσ H R=>ta σ H λvs H1=>∃j:Int,vs=[.int j]/\-(2 ^ 62)<=j/\j<2 ^ 62/\R (jB 0 j.toNat) H1
theorem B7 {a:Expr}{ta:TA}{p:Pos} (hg:Gl X "range") (hm:X.mg "range" = none) (ha:PA X [a] ta) (hs:starEach [a] X.env=[(false,eval a X.env)]:=by rfl):PI X tg (.Call (.Name "range" p) [a] [] pos) (VB ta):=by
 intro aa s σ H R I h;refine Call_ (EW I hg hm boot_range (PyProof.Rows.callWith_type1 (aF (ha pos aa s σ H _ I h) λus s1 ⟨vs,H1,I1,r1,q1⟩=>?_) hs rfl));obtain⟨j,e,q1,q2,q⟩:=q1;subst e;cases r1 with
 |cons r rr =>
  cases rr;obtain⟨t,rfl⟩:=r;exact call_range_1 (Pm I1 qe qe q1 q2 (by simpa using q))
def VD (wi:TI) (g:TG) (tb:TS):TS:=λD σ H=>wi σ H λJ H1=>∃W:Nat->Nat->St->Hp->Prop,(∃m,W 0 m σ H1)/\∀i m σ H,W i m σ H ->
 (J.stop i H/\D.nx σ H)\/(J.go i H/\∃N:St->Hp->Prop,(∀aJ H',N aJ H'->∃m',m'<m/\W (i+1) m' aJ H')/\∀x H',J.gE i H x H'->g x σ H' λbM H2=>tb { D with nx:=N,ct:=N,bk:=D.nx } bM H2)
noncomputable def Bj (fp:List Xd) (h:Heap):LO:=fp.filterMap λb=>(h.get? b).map λo=>(b,o)
theorem BV {fp:List Xd}{b:Xd}{o:Obj} (hb:b∈fp) (e:h.get? b=some o):(b,o)∈Bj fp h:=List.mem_filterMap.mpr ⟨b,hb,by rw[e];rfl⟩
theorem D9 {fp:List Xd}{p:Xd×Obj} (hp:p∈Bj fp h):p.1∈fp/\h.get? p.1=some p.2:=by
 obtain⟨b,hb,e⟩:=List.mem_filterMap.mp hp;cases q:h.get? b with
 |none=>rw[q]at e;cases e
 |some o =>
  rw[q]at e;have e':(b,o)=p:=Option.some.inj e;subst e';exact⟨hb,q⟩
theorem Inv.pinned {fp:List Xd} (I:Inv X aa σ H s) (hf:∀b∈fp,EL X aa H b) (ho:∀b∈fp,∃o,s.heap.get? b=some o/\∀v,o.data≠ .cell v):Inv X (aa++Bj fp s.heap) σ H s :=
 I.bY λp hp=>(mem_append.mp hp).elim (λz=>I.pin p (ZT _ z)) λz=>by
  obtain⟨hb,e⟩:=D9 z;obtain⟨f0,f1,f2,_⟩:=hf p.1 hb;obtain⟨o,e',d⟩:=ho p.1 hb;rw[e]at e';cases e';exact⟨e,f0,f1,f2,d⟩
theorem Inv.unpinned {pl:LO} (I:Inv X (aa++pl) σ H s):Inv X aa σ H s:=I.bY λp hp=>I.pin p (ZT _ (ZP _ hp))
theorem DP {iter:Expr}{body:List Stmt}{wi:TI}{g:TG}{tb:TS} (hp:PassesOwn (model X.prog X.w) X.A X.env X.xe) (hc:X.calm=true) (hi:PI X tg iter wi) (hg:PG X tg g) (hb:eK X body tb)
  (hs:∀x,foldedSetIterable iter X.env x=pure x:=by intro _;rfl):PS X (.For tg iter body [] pos) (VD wi g tb):=by
 intro aa s σ H D I h;refine wpAny_For (aF (hi aa s σ H _ I h) λv s1 h1=>aF h1 λjN s2 h2=>?_) hs;obtain⟨it,fp,tn,J,H2,e,I2,T,ip,f2,W,⟨m0,w0⟩,turn⟩:=h2;subst e;have eE:∀ {H':Hp},(∀b∈fp,H' b=none)->∀b∈fp,EL X aa H' b:=λhn b hb=>⟨hn b hb,(f2 b hb).2⟩;refine codeAny_forLoop_any (λn s'=>∃i aJ H',Inv X aa aJ H' s'/\tn i s'.heap/\(∀b∈fp,H' b=none)/\W i n aJ H') ?_ m0 ⟨0,σ,H2,I2,ip,λb hb=>(f2 b hb).1,w0⟩;rintro n s3 ⟨i,iJ,H3,I3,st3,fr3,w3⟩;rcases turn i n iJ H3 w3 with⟨stop,qn⟩ |⟨go,N,hN,step⟩
 ·refine wpAny_passesOwn hp (aF (T.done X Zj Zj Zj hc i aa s3 iJ H3 X.xe I3 (eE fr3) st3 stop) λr s4 ⟨hr,I4⟩=>?_);subst hr;exact wpAny_execs_nil ⟨iJ,H3,I4,qn⟩
 ·refine wpAny_passesOwn hp (aF (T.item X Zj Zj Zj hc i aa s3 iJ H3 X.xe I3 (eE fr3) st3 go) λr s4 ⟨u,hr,h4⟩=>?_);subst hr;refine wpAny_passesOwn hp (aF h4 λ_ s5 ⟨x,H5,I5,r5,y5,st5,fr5⟩=>?_);have I5':=I5.pinned (eE fr5) (T.obj _ _ st5);refine wpAny_passesOwn hp (aF (hg _ s5 iJ H5 x u _ I5' r5 (step x H5 y5)) λ_ s6 ⟨σ6,H6,I6,q6⟩=>?_);refine wpAny_passesOwn hp (aF (hb _ s6 σ6 H6 _ I6 q6) λf s7 q7=>?_)
  have again:∀ {eF:St}{H7:Hp},Inv X (aa++Bj fp s5.heap) eF H7 s7->N eF H7->∃m,m<n/\∃i aJ H',Inv X aa aJ H' s7/\tn i s7.heap/\(∀b∈fp,H' b=none)/\W i m aJ H':=λ{eF H7} I7 n7=>by
   obtain⟨m',hm,w7⟩:=hN eF H7 n7;refine⟨m',hm,i+1,eF,H7,I7.unpinned,T.keep _ _ _ st5 λb hb o e=>(I7.pin (b,o) (ZT _ (ZT _ (BV hb e)))).1,λb hb=>?_,w7⟩;obtain⟨o,e,d⟩:=T.obj _ _ st5 b hb;exact(I7.pin (b,o) (ZT _ (ZT _ (BV hb e)))).2.1
  cases f with
  |next=>obtain⟨eF,H7,I7,n7⟩:=q7;exact again I7 n7
  |cont=>obtain⟨eF,H7,I7,n7⟩:=q7;exact again I7 n7
  |brk=>obtain⟨eF,H7,I7,q7⟩:=q7;exact⟨eF,H7,I7.unpinned,q7⟩
  |ret v=>obtain⟨x7,eF,H7,I7,r7,q7⟩:=q7;exact⟨x7,eF,H7,I7.unpinned,r7,q7⟩
end
theorem C9 {g:TG}{tb:TS}{D:Dj} (Pv:Nat->St->Hp->Prop) (h0:Pv 0 σ H) (hl:∀i σ H,i<=xs.length->Pv i σ H->aK K H a xs)
  (hs:∀i x σ H,xs[i]?=some x->Pv i σ H->g x σ H λbM H2=>tb { D with nx:=Pv (i+1),ct:=Pv (i+1),bk:=D.nx } bM H2) (hd:∀σ H,Pv xs.length σ H->D.nx σ H) :
  ∃W:Nat->Nat->St->Hp->Prop,(∃m,W 0 m σ H)/\∀i m σ H,W i m σ H ->
   ((iH K a).stop i H/\D.nx σ H)\/((iH K a).go i H/\∃N:St->Hp->Prop,(∀aJ H',N aJ H'->∃m',m'<m/\W (i+1) m' aJ H')/\∀x H',(iH K a).gE i H x H'->g x σ H' λbM H2=>tb { D with nx:=N,ct:=N,bk:=D.nx } bM H2):=by
 refine⟨λi m σ H=>m=xs.length - i/\i<=xs.length/\Pv i σ H,⟨xs.length,by simp,Nat.zero_le _,h0⟩,?_⟩;rintro i m σ H ⟨rfl,hi,p⟩;have q:=hl i σ H hi p;by_cases hlt:i<xs.length
 ·refine .inr ⟨⟨xs,xs[i],q,by simp[hlt]⟩,Pv (i+1),λaJ H' p'=>⟨xs.length - (i+1),qe,Zj,hlt,p'⟩,λx H' y=>?_⟩;obtain⟨e,y⟩:=y;subst e;exact hs i x σ _ (y xs q) p
 ·have e:i=xs.length:=by omega
  subst e;exact .inl ⟨⟨xs,q,Zy _⟩,hd σ H p⟩
theorem DA {lo:Int}{n:Nat}{g:TG}{tb:TS}{D:Dj} (Pv:Nat->St->Hp->Prop) (h0:Pv 0 σ H)
  (hs:∀i σ H,i<n->Pv i σ H->g (.int (lo+i)) σ H λbM H2=>tb { D with nx:=Pv (i+1),ct:=Pv (i+1),bk:=D.nx } bM H2) (hd:∀σ H,Pv n σ H->D.nx σ H) :
  ∃W:Nat->Nat->St->Hp->Prop,(∃m,W 0 m σ H)/\∀i m σ H,W i m σ H ->
   ((jB lo n).stop i H/\D.nx σ H)\/((jB lo n).go i H/\∃N:St->Hp->Prop,(∀aJ H',N aJ H'->∃m',m'<m/\W (i+1) m' aJ H')/\∀x H',(jB lo n).gE i H x H'->g x σ H' λbM H2=>tb { D with nx:=N,ct:=N,bk:=D.nx } bM H2):=by
 refine⟨λi m σ H=>m=n - i/\i<=n/\Pv i σ H,⟨n,by simp,Nat.zero_le _,h0⟩,?_⟩;rintro i m σ H ⟨rfl,hi,p⟩;by_cases hlt:i<n
 ·refine .inr ⟨hlt,Pv (i+1),λaJ H' p'=>⟨n - (i+1),qe,Zj,hlt,p'⟩,λx H' y=>?_⟩;obtain⟨e,y⟩:=y;subst e y;exact hs i σ _ hlt p
 ·have e:i=n:=by omega
  subst e;exact .inl ⟨Zy _,hd σ H p⟩
theorem Pn {c:TT}{tb:TS}{D:Dj} (Pv:St->Hp->Prop) (μ:St->Hp->Nat) (h0:Pv σ H)
  (hs:∀σ H,Pv σ H->c σ H λb H1=>if b=true then tb { D with nx:=λaJ H'=>Pv aJ H'/\μ aJ H'<μ σ H,ct:=λaJ H'=>Pv aJ H'/\μ aJ H'<μ σ H,bk:=D.nx } σ H1 else D.nx σ H1)
  (mono:∀σ H Q Q',(∀b H1,Q b H1->Q' b H1)->c σ H Q->c σ H Q'):Pj c tb D σ H:=by
 refine⟨λm σ H=>m=μ σ H/\Pv σ H,⟨_,rfl,h0⟩,?_⟩;rintro m σ H ⟨rfl,p⟩;refine mono σ H _ _ (λb H1 q=>?_) (hs σ H p);cases b with
 |true=>exact⟨_,λaJ H' ⟨p',l⟩=>⟨_,l,rfl,p'⟩,q⟩
 |false=>exact q
abbrev R2:=V->V->Hp->VK->Prop
def dc (X:Cx) (f:Value->Value->Sem Value) (r:R2):Prop :=
 ∀(aa:LO) (s:Xe) (σ:St) (H:Hp) (x y:V) (v u:Value) (Q:VK),Inv X aa σ H s->RelV x v->RelV y u->r x y H Q ->
  wpAny (model X.prog X.w) X.A (f v u) (EP X aa σ Q) X.xe s
def UnR (X:Cx) (f:Value->Sem Value) (r:V->Hp->VK->Prop):Prop :=
 ∀(aa:LO) (s:Xe) (σ:St) (H:Hp) (x:V) (v:Value) (Q:VK),Inv X aa σ H s->RelV x v->r x H Q ->
  wpAny (model X.prog X.w) X.A (f v) (EP X aa σ Q) X.xe s
def aZ (X:Cx) (f:Value) (r:Xc->Hp->VK->Prop):Prop :=
 ∀(aa:LO) (s:Xe) (σ:St) (H:Hp) (xs:Xc) (us:Xb) (Q:VK),Inv X aa σ H s->Vals xs us->r xs H Q ->
  wpAny (model X.prog X.w) X.A (call f us) (EP X aa σ Q) X.xe s
def iZ (r:R2) (ta tb:TE):TE:=λσ H Q=>ta σ H λx H1=>tb σ H1 λy H2=>r x y H2 Q
def tUn (r:V->Hp->VK->Prop) (ta:TE):TE:=λσ H Q=>ta σ H λx H1=>r x H1 Q
def rI (C:Int->Int->Prop) (g:Int->Int->V):R2:=λx y H Q=>ExI x y λi j=>C i j/\Q (g i j) H
def iq (g:Int->Int->V):R2:=λx y H Q=>ExI x y λi j=>Q (g i j) H
def rU (g:Int->V):V->Hp->VK->Prop:=λx H Q=>∃i,x=.int i/\Q (g i) H
section
variable {a b c:Expr}{ta tb tc:TE}
theorem Ty (ha:PE X a ta) (hb:PE X b tb) {R:V->V->Hp->Prop} (I:Inv X aa σ H s)
  (h:ta σ H λx H1=>tb σ H1 λy H2=>R x y H2) {Q:VS}{f:Value->Value->Sem Value}
  (hf:∀v u s2 x y H2,Inv X aa σ H2 s2->RelV x v->RelV y u->R x y H2->wpAny (model X.prog X.w) X.A (f v u) Q X.xe s2) :
  wpAny (model X.prog X.w) X.A (eval a X.env) (λv aH=>wpAny (model X.prog X.w) X.A (eval b X.env) (λu s₂=>wpAny (model X.prog X.w) X.A (f v u) Q X.xe s₂) X.xe aH) X.xe s:=by
 refine aF (ha aa s σ H _ I h) λv s1 ⟨x,H1,I1,r1,q1⟩=>?_;refine aF (hb aa s1 σ H1 _ I1 q1) λu s2 ⟨y,H2,I2,r2,q2⟩=>?_;exact hf v u s2 x y H2 I2 r1 r2 q2
theorem Ab {op:Operator}{r:R2} (ho:dc X (binaryOp op) r) (ha:PE X a ta) (hb:PE X b tb):PE X (.BinOp a op b pos) (iZ r ta tb):=by
 intro aa s σ H Q I h;exact wpAny_BinOp (Ty ha hb I h λv u s2 x y H2 I2 rx ry q=>ho aa s2 σ H2 x y v u Q I2 rx ry q)
theorem Gp {op:UnaryOp}{r:V->Hp->VK->Prop} (ho:UnR X (unaryOp op) r) (ha:PE X a ta):PE X (.UnaryOp op a pos) (tUn r ta):=by
 intro aa s σ H Q I h;exact UnaryOp_ (aF (ha aa s σ H _ I h) λv s1 ⟨x,H1,I1,r1,q1⟩=>ho aa s1 σ H1 x v Q I1 r1 q1)
theorem jK {f:Value->Value->Sem Value}{C:Int->Int->Prop}{g:Int->Int->Int}
  (rule:∀(i j:Int) (t u:Tok) (s:Xe) (Q:VS) (E:VS),C i j->Q (.int (g i j) s.toks) { s with toks:=s.toks+1 }->wpAny (model X.prog X.w) X.A (f (.int i t) (.int j u)) Q E s) :
  dc X f (rI C λi j=>.int (g i j)):=by
 intro aa s σ H x y v u Q I rx ry h;obtain⟨i,j,rfl,rfl,hc,q⟩:=h;obtain⟨t,rfl⟩:=rx;obtain⟨t',rfl⟩:=ry;exact rule i j t t' s _ _ hc ⟨.int (g i j),H,I.tok _,⟨_,Zj⟩,q⟩
theorem Lk {f:Value->Value->Sem Value}{g:Int->Int->Int}
  (rule:∀(i j:Int) (t u:Tok) (s:Xe) (Q:VS) (E:VS),Q (.int (g i j) s.toks) { s with toks:=s.toks+1 }->wpAny (model X.prog X.w) X.A (f (.int i t) (.int j u)) Q E s) :
  dc X f (iq λi j=>.int (g i j)):=by
 intro aa s σ H x y v u Q I rx ry h;obtain⟨i,j,rfl,rfl,q⟩:=h;obtain⟨t,rfl⟩:=rx;obtain⟨t',rfl⟩:=ry;exact rule i j t t' s _ _ ⟨.int (g i j),H,I.tok _,⟨_,Zj⟩,q⟩
theorem Rr {f:Value->Value->Sem Value}{g:Int->Int->Bool}
  (rule:∀(i j:Int) (t u:Tok) (s:Xe) (Q:VS) (E:VS),Q (.bool (g i j)) s->wpAny (model X.prog X.w) X.A (f (.int i t) (.int j u)) Q E s) :
  dc X f (iq λi j=>.bl (g i j)):=by
 intro aa s σ H x y v u Q I rx ry h;obtain⟨i,j,rfl,rfl,q⟩:=h;obtain⟨t,rfl⟩:=rx;obtain⟨t',rfl⟩:=ry;exact rule i j t t' s _ _ ⟨.bl (g i j),H,I,Zj,q⟩
def WR (i j:Int):Prop:=0<j/\j<1073741824
def Tz (i j:Int):Prop:=0<=j/\j<=1000000/\i.natAbs<2 ^ 64
def CMul (i j:Int):Prop:=(-(2 ^ 64)<i/\i<2 ^ 64)\/(-(2 ^ 64)<j/\j<2 ^ 64)
theorem CMul.ok {i j:Int} (h:CMul i j):IntMulOk i j:=by
 rcases h with⟨h1,h2⟩ |⟨h1,h2⟩
 ·exact .of_left (intBits_le_64 h1 h2)
 ·exact .of_right (intBits_le_64 h1 h2)
theorem Ll (k:Nat):(0:Int)<=2 ^ k:=by
 rw[two_pow_cast];exact Z1 _
theorem C0:dc X (binaryOp .Add) (iq λi j=>.int (i+j)):=Lk λ_ _ _ _ _ _ _ q=>add_int q
theorem Gq:dc X (binaryOp .Sub) (iq λi j=>.int (i - j)):=Lk λ_ _ _ _ _ _ _ q=>sub_int q
theorem Gr:dc X (binaryOp .Mult) (rI CMul λi j=>.int (i*j)):=jK λ_ _ _ _ _ _ _ hc q=>mul_int q hc.ok
theorem NH:dc X (binaryOp .FloorDiv) (rI WR λi j=>.int (i / j)):=jK λi j _ _ _ _ _ hc q=>by
 have h1:(0:Int)<j:=hc.1;have h2:j<1073741824:=hc.2;exact floordiv_int qe (by rw[Int.fdiv_eq_ediv_of_nonneg i qe];exact q) (.inl (PyProof.noPylong_small qe))
theorem EZ:dc X (binaryOp .Mod) (rI (λ_ j=>0<j) λi j=>.int (i % j)):=jK λi j _ _ _ _ _ hc q=>by
 have h1:(0:Int)<j:=hc;exact mod_int' qe (by rw[Int.fmod_eq_emod_of_nonneg i qe];exact q)
theorem Lm:dc X (binaryOp .Pow) (rI Tz λi j=>.int (i ^ j.toNat)):=jK λ_ _ _ _ _ _ _ hc q=>pow_int_small hc.1 hc.2.1 hc.2.2 q
theorem Gs:dc X (binaryOp .LShift) (rI Tz λi j=>.int (i*2 ^ j.toNat)):=jK λ_ _ _ _ _ _ _ hc q=>lshift_int_small hc.1 hc.2.1 hc.2.2 q
theorem JN:dc X (binaryOp .RShift) (rI (λ_ j=>0<=j) λi j=>.int (i / 2 ^ j.toNat)):=jK λi j _ _ _ _ _ hc q =>
 rshift_int hc (by rw[Int.fdiv_eq_ediv_of_nonneg i (Ll _)];exact q)
theorem Cc:dc X (binaryOp .BitAnd) (iq λi j=>.int (Builtin.bitAnd i j)):=Lk λ_ _ _ _ _ _ _ q=>and_int q
theorem KG:dc X (binaryOp .BitOr) (iq λi j=>.int (Builtin.bitOr i j)):=Lk λ_ _ _ _ _ _ _ q=>or_int q
theorem Gu:dc X (binaryOp .BitXor) (iq λi j=>.int (Builtin.bitXor i j)):=Lk λ_ _ _ _ _ _ _ q=>xor_int q
theorem NI:dc X (inplaceOp .Add) (iq λi j=>.int (i+j)):=Lk λ_ _ _ _ _ _ _ q=>iadd_int q
theorem T4:dc X (inplaceOp .BitOr) (iq λi j=>.int (Builtin.bitOr i j)):=Lk λ_ _ _ _ _ _ _ q=>ior_int q
theorem unI {f:Value->Sem Value}{g:Int->Int}
  (rule:∀(i:Int) (t:Tok) (s:Xe) (Q:VS) (E:VS),Q (.int (g i) s.toks) { s with toks:=s.toks+1 }->wpAny (model X.prog X.w) X.A (f (.int i t)) Q E s) :
  UnR X f (rU λi=>.int (g i)):=by
 intro aa s σ H x v Q I rx h;obtain⟨i,rfl,q⟩:=h;obtain⟨t,rfl⟩:=rx;exact rule i t s _ _ ⟨.int (g i),H,I.tok _,⟨_,Zj⟩,q⟩
theorem Dp:UnR X (unaryOp .USub) (rU λi=>.int (-i)):=unI λ_ _ _ _ _ q=>neg_int q
theorem T5:UnR X (unaryOp .Invert) (rU λi=>.int (Builtin.bitNot i)):=unI λ_ _ _ _ _ q=>invert_int q
end
noncomputable def VE:V->V->Bool
 | .aP,.aP=>true | .aP,.int _=>true | .int _,.aP=>true | .aP,.bl _=>true | .bl _,.aP=>true | .aP,.str _=>true | .str _,.aP=>true
 | .int _,.int _=>true | .bl _,.bl _=>true | .str _,.str _=>true | .iB _,.iB _=>true
 | .int _,.str _=>true | .str _,.int _=>true | .bl _,.str _=>true | .str _,.bl _=>true
 |_,_=>false
def rEq:R2:=λx y H Q=>VE x y=true/\Q (.bl (decide (x=y))) H
def rNe:R2:=λx y H Q=>VE x y=true/\Q (.bl (!decide (x=y))) H
theorem NJ {i j:Int}:decide (V.int i=V.int j)=(i==j):=by
 rw[Bool.eq_iff_iff];simp
theorem Po {i j:Bool}:decide (V.bl i=V.bl j)=(i==j):=by
 rw[Bool.eq_iff_iff];simp
theorem NK {i j:Str}:decide (V.str i=V.str j)=(i==j):=by
 rw[Bool.eq_iff_iff];simp
theorem NL {i j:Array UInt8}:decide (V.iB i=V.iB j)=(i.toList==j.toList):=by
 rw[Bool.eq_iff_iff];cases i;cases j;simp
section
variable {a b c:Expr}{ta tb tc:TE}
theorem Am {Q:VK}{k k':Bool} (I:Inv X aa σ H s) (q:Q (.bl k) H) (e:k=k'):EP X aa σ Q (.bool k') s:=by
 subst e;exact⟨.bl k,H,I,Zj,q⟩
theorem Aw:dc X (compareOp .Eq) rEq:=by
 intro aa s σ H x y v u Q I rx ry h;obtain⟨hs,q⟩:=h;cases x with
 |aP =>
  cases rx;cases y with
  |aP=>cases ry;exact PySem.EqNone.eq_none_none (Am I q (by simp))
  |bl j=>cases ry;exact PySem.EqNone.eq_none_bool (Am I q (by simp))
  |int j=>obtain⟨t',rfl⟩:=ry;exact PySem.EqNone.eq_none_int (Am I q (by simp))
  |str j=>obtain⟨t',rfl⟩:=ry;exact PySem.EqNone.eq_none_str (Am I q (by simp))
  |_=>exact absurd (show false=true from hs) Bool.false_ne_true
 |bl i =>
  cases rx;cases y with
  |aP=>cases ry;exact PySem.EqNone.eq_bool_none (Am I q (by simp))
  |bl j=>cases ry;exact eq_bool (Am I q Po)
  |str j=>obtain⟨t',rfl⟩:=ry;exact PySem.EqMixed.eq_bool_str (Am I q (by simp))
  |_=>exact absurd (show false=true from hs) Bool.false_ne_true
 |int i =>
  obtain⟨t,rfl⟩:=rx;cases y with
  |aP=>cases ry;exact PySem.EqNone.eq_int_none (Am I q (by simp))
  |int j=>obtain⟨t',rfl⟩:=ry;exact eq_int (Am I q NJ)
  |str j=>obtain⟨t',rfl⟩:=ry;exact PySem.EqMixed.eq_int_str (Am I q (by simp))
  |_=>exact absurd (show false=true from hs) Bool.false_ne_true
 |str i =>
  obtain⟨t,rfl⟩:=rx;cases y with
  |aP=>cases ry;exact PySem.EqNone.eq_str_none (Am I q (by simp))
  |bl j=>cases ry;exact PySem.EqMixed.eq_str_bool (Am I q (by simp))
  |int j=>obtain⟨t',rfl⟩:=ry;exact PySem.EqMixed.eq_str_int (Am I q (by simp))
  |str j=>obtain⟨t',rfl⟩:=ry;exact eq_str (Am I q NK)
  |_=>exact absurd (show false=true from hs) Bool.false_ne_true
 |iB i =>
  obtain⟨t,rfl⟩:=rx;cases y with
  |iB j=>obtain⟨t',rfl⟩:=ry;exact W.eq_bytes (Am I q NL)
  |_=>exact absurd (show false=true from hs) Bool.false_ne_true
 |_=>cases y <;> exact absurd (show false=true from hs) Bool.false_ne_true
theorem F9:dc X (compareOp .NotEq) rNe:=by
 intro aa s σ H x y v u Q I rx ry h;obtain⟨hs,q⟩:=h;cases x with
 |aP =>
  cases rx;cases y with
  |aP=>cases ry;exact PySem.EqNone.ne_none_none (Am I q (by simp))
  |bl j=>cases ry;exact PySem.EqNone.ne_none_bool (Am I q (by simp))
  |int j=>obtain⟨t',rfl⟩:=ry;exact PySem.EqNone.ne_none_int (Am I q (by simp))
  |str j=>obtain⟨t',rfl⟩:=ry;exact PySem.EqNone.ne_none_str (Am I q (by simp))
  |_=>exact absurd (show false=true from hs) Bool.false_ne_true
 |bl i =>
  cases rx;cases y with
  |aP=>cases ry;exact PySem.EqNone.ne_bool_none (Am I q (by simp))
  |bl j=>cases ry;exact ne_bool (Am I q (congrArg not Po))
  |str j=>obtain⟨t',rfl⟩:=ry;exact PySem.EqMixed.ne_bool_str (Am I q (by simp))
  |_=>exact absurd (show false=true from hs) Bool.false_ne_true
 |int i =>
  obtain⟨t,rfl⟩:=rx;cases y with
  |aP=>cases ry;exact PySem.EqNone.ne_int_none (Am I q (by simp))
  |int j=>obtain⟨t',rfl⟩:=ry;exact ne_int (Am I q (congrArg not NJ))
  |str j=>obtain⟨t',rfl⟩:=ry;exact PySem.EqMixed.ne_int_str (Am I q (by simp))
  |_=>exact absurd (show false=true from hs) Bool.false_ne_true
 |str i =>
  obtain⟨t,rfl⟩:=rx;cases y with
  |aP=>cases ry;exact PySem.EqNone.ne_str_none (Am I q (by simp))
  |bl j=>cases ry;exact PySem.EqMixed.ne_str_bool (Am I q (by simp))
  |int j=>obtain⟨t',rfl⟩:=ry;exact PySem.EqMixed.ne_str_int (Am I q (by simp))
  |str j=>obtain⟨t',rfl⟩:=ry;exact ne_str (Am I q (congrArg not NK))
  |_=>exact absurd (show false=true from hs) Bool.false_ne_true
 |iB i =>
  obtain⟨t,rfl⟩:=rx;cases y with
  |iB j=>obtain⟨t',rfl⟩:=ry;exact W.ne_bytes (Am I q (congrArg not NL))
  |_=>exact absurd (show false=true from hs) Bool.false_ne_true
 |_=>cases y <;> exact absurd (show false=true from hs) Bool.false_ne_true
theorem IS:dc X (compareOp .Lt) (iq λi j=>.bl (decide (i<j))):=Rr λ_ _ _ _ _ _ _ q=>lt_int q
theorem E4:dc X (compareOp .LtE) (iq λi j=>.bl (decide (i<=j))):=Rr λ_ _ _ _ _ _ _ q=>le_int q
theorem IT:dc X (compareOp .Gt) (iq λi j=>.bl (decide (j<i))):=Rr λ_ _ _ _ _ _ _ q=>gt_int q
theorem Pp:dc X (compareOp .GtE) (iq λi j=>.bl (decide (j<=i))):=Rr λ_ _ _ _ _ _ _ q=>ge_int q
theorem AS (b:Expr) {op:CmpOp} (h:op≠ .In:=by decide) (h2:op≠ .NotIn:=by decide):behindInMarks op b=false:=by
 have e1:(op==CmpOp.In)=false:=by cases op <;> first |rfl |exact absurd rfl h
 have e2:(op==CmpOp.NotIn)=false:=by cases op <;> first |rfl |exact absurd rfl h2
 cases b <;> simp[behindInMarks,e1,e2]
theorem Cj {op:CmpOp}{r:R2} (ho:dc X (compareOp op) r) (ha:PE X a ta) (hb:PE X b tb) (hm:behindInMarks op b=false):PE X (.Compare a [op] [b] pos) (iZ r ta tb):=by
 intro aa s σ H Q I h;exact wpAny_Compare1 (Ty ha hb I h λv u s2 x y H2 I2 rx ry q=>ho aa s2 σ H2 x y v u Q I2 rx ry q) hm
def Pq (t:TE):TT:=λσ H Q=>t σ H λx H'=>ExB x λk=>Q k H'
theorem AM {op:CmpOp}{r:R2} (ho:dc X (compareOp op) r) (ha:PE X a ta) (hb:PE X b tb) (hm:behindInMarks op b=false):PT X (.Compare a [op] [b] pos) (Pq (iZ r ta tb)):=by
 intro aa s σ H Q I h
 refine wpAny_isTrue_Compare1 (aF (ha aa s σ H _ I h) λv s1 ⟨x,H1,I1,r1,q1⟩=>aF (hb aa s1 σ H1 _ I1 q1) λu s2 ⟨y,H2,I2,r2,q2⟩ =>
  aF (ho aa s2 σ H2 x y v u _ I2 r1 r2 q2) λc s3 ⟨z,H3,I3,r3,k,e,q3⟩=>?_) hm
 subst e;cases r3;exact Z0 ⟨H3,I3,q3⟩
def Pr (r r':R2) (ta tb tc:TE):TE:=λσ H Q=>ta σ H λx H1=>tb σ H1 λy H2=>r x y H2 λz H3=>∃k,z=.bl k /\
 (if k=true then tc σ H3 λw' H4=>r' y w' H4 Q else Q (.bl false) H3)
theorem E5 {op op':CmpOp}{r r':R2} (ho:dc X (compareOp op) r) (gR:dc X (compareOp op') r') (ha:PE X a ta) (hb:PE X b tb) (hc:PE X c tc)
  (hm:lastMarks [op,op'] [b,c]=false:=by with_unfolding_all rfl):PE X (.Compare a [op,op'] [b,c] pos) (Pr r r' ta tb tc):=by
 intro aa s σ H Q I h
 refine Compare_chain (aF (ha aa s σ H _ I h) λv s1 ⟨x,H1,I1,r1,q1⟩=>chain_link (aF (hb aa s1 σ H1 _ I1 q1) λu s2 ⟨y,H2,I2,r2,q2⟩ =>
  aF (ho aa s2 σ H2 x y v u _ I2 r1 r2 q2) λd s3 ⟨z,H3,I3,r3,k,e,q3⟩=>?_)) hm
 subst e;cases r3;refine Z0 ?_;cases k with
 |false=>exact ite_ff ⟨.bl false,H3,I3,rfl,q3⟩
 |true=>exact ite_tt (chain_last (aF (hc aa s3 σ H3 _ I3 q3) λw' s4 ⟨z',H4,I4,r4,q4⟩=>gR aa s4 σ H4 y z' u w' Q I4 r2 r4 q4))
theorem Gv {op op':CmpOp}{r r':R2} (ho:dc X (compareOp op) r) (gR:dc X (compareOp op') r') (ha:PE X a ta) (hb:PE X b tb) (hc:PE X c tc)
  (hm:lastMarks [op,op'] [b,c]=false:=by with_unfolding_all rfl):PT X (.Compare a [op,op'] [b,c] pos) (Pq (Pr r r' ta tb tc)):=by
 intro aa s σ H Q I h
 refine isTrue_chain (aF (ha aa s σ H _ I h) λv s1 ⟨x,H1,I1,r1,q1⟩=>test_link (aF (hb aa s1 σ H1 _ I1 q1) λu s2 ⟨y,H2,I2,r2,q2⟩ =>
  aF (ho aa s2 σ H2 x y v u _ I2 r1 r2 q2) λd s3 ⟨z,H3,I3,r3,k,e,q3⟩=>?_)) hm
 subst e;cases r3;refine Z0 ?_;cases k with
 |false =>
  obtain⟨k',e',q'⟩:=q3;cases e';exact ite_ff ⟨H3,I3,q'⟩
 |true =>
  refine ite_tt (test_last (aF (hc aa s3 σ H3 _ I3 q3) λw' s4 ⟨z',H4,I4,r4,q4⟩=>aF (gR aa s4 σ H4 y z' u w' _ I4 r2 r4 q4) λd' s5 ⟨z2,H5,I5,r5,k2,e2,q5⟩=>?_));subst e2;cases r5;exact Z0 ⟨H5,I5,q5⟩
theorem Fi:(sizeLine:Nat)<2 ^ 63:=by rw[sizeLine_eq];decide
theorem BK:dc X (binaryOp .Add) (λx y H Q=>∃i j,x=.str i/\y=.str j/\i.length+j.length<=sizeLine/\Q (.str (i++j)) H):=by
 intro aa s σ H x y v u Q I rx ry h;obtain⟨i,j,rfl,rfl,hz,q⟩:=h;obtain⟨t,rfl⟩:=rx;obtain⟨t',rfl⟩:=ry;exact add_str (λt' tk=>⟨.str (i++j),H,I.tok _,⟨_,Zj⟩,q⟩) hz
theorem Bt {x:V} (r:Vals [x] us):∃u,us=[u]/\RelV x u:=by
 cases r with
 |cons r1 r2=>cases r2;exact⟨_,Zj,r1⟩
theorem KH {x y:V} (r:Vals [x,y] us):∃u w',us=[u,w']/\RelV x u/\RelV y w':=by
 cases r with
 |cons r1 r2 =>
  cases r2 with
  |cons r3 r4=>cases r4;exact⟨_,_,Zj,r1,r3⟩
theorem OP (hc:X.calm=true):aZ X (.builtin "max") (λxs H Q=>∃i j,xs=[.int i,.int j]/\Q (.int (if j>i then j else i)) H):=by
 intro aa s σ H xs us Q I r h;obtain⟨i,j,rfl,q⟩:=h;obtain⟨u,w',rfl,⟨t,rfl⟩,⟨t',rfl⟩⟩:=KH r;refine max_two_ints (I.ok.hd hc) λh' tk k=>⟨_,H,I.kept k,?_,q⟩;by_cases hj:j>i
 ·rw[Zp hj,Zp hj];exact⟨_,Zj⟩
 ·rw[Zq hj,Zq hj];exact⟨_,Zj⟩
theorem OQ (hc:X.calm=true):aZ X (.builtin "min") (λxs H Q=>∃i j,xs=[.int i,.int j]/\Q (.int (if j<i then j else i)) H):=by
 intro aa s σ H xs us Q I r h;obtain⟨i,j,rfl,q⟩:=h;obtain⟨u,w',rfl,⟨t,rfl⟩,⟨t',rfl⟩⟩:=KH r;refine min_two_ints (I.ok.hd hc) λh' tk k=>⟨_,H,I.kept k,?_,q⟩;by_cases hj:j<i
 ·rw[Zp hj,Zp hj];exact⟨_,Zj⟩
 ·rw[Zq hj,Zq hj];exact⟨_,Zj⟩
theorem IU:aZ X (.type "int") (λxs H Q=>(∃i,xs=[.int i]/\Q (.int i) H)\/∃k,xs=[.bl k]/\Q (.int (if k then 1 else 0)) H):=by
 intro aa s σ H xs us Q I r h;rcases h with⟨i,rfl,q⟩ |⟨k,rfl,q⟩
 ·obtain⟨u,rfl,t,rfl⟩:=Bt r;exact call_int_int ⟨.int i,H,I,⟨_,Zj⟩,q⟩
 ·obtain⟨u,rfl,r1⟩:=Bt r;cases r1;exact call_int_bool ⟨.int (if k then 1 else 0),H,I.tok _,⟨_,Zj⟩,q⟩
theorem JO:aZ X (.type "str") (λxs H Q=>∃i,xs=[.int i]/\i.natAbs.log2<1920/\Q (.str (toString i)) H):=by
 intro aa s σ H xs us Q I r h;obtain⟨i,rfl,hz,q⟩:=h;obtain⟨u,rfl,t,rfl⟩:=Bt r;exact PySem.P.str_of_int hz ⟨.str _,H,I.tok _,⟨_,Zj⟩,q⟩
end
structure ObjM (h:Heap) (x dx C:Xd) (mA:SV):Prop where
 obj:h.get? x=some (W.instObj C dx)
 ns:h.Ns1 dx mA
 ne:dx≠x
theorem IV {dx:Xd}{mA:SV} (n:h.Ns1 dx mA):∃od,h.get? dx=some od/\∀name,W.lookIn name od=some (mA name):=by
 obtain⟨o,es,ep,ho,hd,hk,_,hm⟩:=n;refine⟨o,ho,λname=>?_⟩;have e:=hm name;unfold nsFind findBy at e;rw[←Array.find?_toList]at e;unfold W.lookIn;rw[hd]
 dsimp only
 split
 ·rename_i y q;rw[q]at e;exact congrArg some e
 ·rename_i q;rw[q]at e
  have a:es.toList.any (·.refKey)=false:=by
   rw[List.any_eq_false];intro y hy;obtain⟨z,t,cc⟩:=hk y (Array.mem_toList_iff.mp hy);simp[DictEntry.refKey,cc]
  have a':¬ es.toList.any (·.refKey)=true:=by rw[a];exact Bool.false_ne_true
  rw[Zq a'];exact congrArg some e
theorem ObjM.look {x dx:Xd}{mA:SV} (I:ObjM h x dx C mA):∃od,W.InstAt h x (W.instObj C dx) C (some od)/\∀name,W.lookIn name od=some (mA name) :=
 let ⟨od,ho,hl⟩:=IV I.ns
 ⟨od,⟨I.obj,rfl,rfl,ho⟩,hl⟩
section
variable {prog:Program}{x dx f:Xd}{mA:SV}{name:Str}{v:Value}
theorem Rs {expr:Bool}{Q:VS} (X:K.In s.heap) (I:ObjM s.heap x dx C mA) (hg:W.plainGet K C name=true) (hh:W.hasDictIn K C=true)
  (ha:W.findIn K (.ref C) name=some none) (hv:mA name=some v) (hv':W.handedIn v=true) (h:Q v { s with toks:=s.toks+1 }) :
  wpAny (model prog w) A (getAttr (.ref x) name expr) Q E s:=by
 obtain⟨od,J,hl⟩:=I.look;exact W.get_value X J (W.plainGet_of hg).1 (W.findObj_own hh ha Zj (by rw[hl,hv])) hv' h
theorem Ps {pl:Sem Bool}{Q:Value×Xb->Xe->Prop} (X:K.In s.heap) (I:ObjM s.heap x dx C mA) (hg:W.plainGet K C name=true)
  (hf:W.findIn K (.ref C) name=some (some (.ref f))) (ht:W.isFn K (.ref f)=true) (hv:mA name=none) (h:Q (.ref f,[.ref x]) s) :
  wpAny (model prog w) A (getMethod (.ref x) name pl) Q E s:=by
 obtain⟨od,J,hl⟩:=I.look;exact W.method_fn X J (W.plainGet_of hg).1 (W.plainGet_of hg).2 hf (beq_iff_eq.mp ht) (by show(W.lookIn name od).map (·.isSome)=some false;rw[hl,hv];rfl) h
theorem Rt {ns:Xa}{Q:Unit->Xe->Prop} (X:K.In s.heap) (I:ObjM s.heap x dx C mA)
  (hs:W.findIn K (.ref C) "__setattr__" = some (some (.builtin "object.__setattr__"))) (hp:W.plainOver K C=true) (ht:W.takerIn K C name=some none) (hh:W.hasDictIn K C=true)
  (hw:PySem.Within mA ns) (hsz:ns.length<=sizeLine)
  (h:∀h',ObjM h' x dx C (λy=>if y=name then some v else mA y)->Heap.SameBut dx s.heap h'->Q () { s with heap:=h',toks:=s.toks+2 }) :
  wpAny (model prog w) A (setAttr (.ref x) name v) Q E s:=by
 obtain⟨od,J,hl⟩:=I.look;refine W.set_plain X J hs (W.osa_open (s:={ s with toks:=s.toks+1 }) (r:=none) X J hp ht λb=>?_);obtain⟨cd,hc,hd'⟩:=W.any_some hh;have hx:s.heap.get? x=some ⟨.ref C,some dx,.plain,#[]⟩:=I.obj;refine Zx (Zw (Zx (Zx (wpAny_loadPart hx (Zx (W.Looks.here (s:={ s with toks:=s.toks+1 }) (W.looks_clsIn X hc) ?_))))));rw[hd'];refine Zw (a:=some dx) (Zx (Zw (Zx ?_)));refine wpAny_nsSet1 (s:={ s with toks:=s.toks+1 }) I.ns λh' hn2 js=>?_;obtain⟨oD,esD,epD,hoD,hdD,iR⟩:=hn2.count (PySem.Within.cons name v hw);refine Zx (wpAny_lookBehind hoD (by rw[hdD];exact pastItsLine_dict (Nat.le_trans iR (by rw[length_cons];omega))) ?_);exact Zw (h _ ⟨(js.2 _ (Ne.symm I.ne)).trans I.obj,hn2,I.ne⟩ js)
theorem KJ {R:Result->Xe->Prop}{vs:Xb}{kw:List (Str×Value)} (X:K.In s.heap) (hm:W.makesIn K C=true)
  (hi:W.findIn K (.ref C) "__init__" = some (some (.ref f))) (hf:W.typeIn K (.ref f)=some (.type "function"))
  (h:codeAny (model prog w) (A.under (.builtin "type.__call__" ⟨.ref C::vs,kw⟩)) (.call (.ref f) ⟨.ref (s.heap.objs.size+1)::vs,kw⟩) (W.InitBack (s.heap.objs.size+1) R)
   { s with heap:=(s.heap.push W.emptyDict).push (W.instObj C s.heap.objs.size) }) :
  codeAny (model prog w) A (.call (.ref C) ⟨vs,kw⟩) R s:=by
 obtain⟨hh,g,d,t,os⟩:=s;exact W.make_core (W.makes_of X hm) (W.looks_findIn X hi) (λself=>W.bind_fn X self hf) (.inl Zj) h
end
noncomputable def BU (f:Str) (v:V):List (Str×V)->List (Str×V)
  | []=>[(f,v)]
  | (g,x)::r=>if g=f then (g,v)::r else (g,x)::BU f v r
theorem AZ (f g:Str) (v:V):∀fs:List (Str×V),(BU f v fs).lookup g=if g=f then some v else fs.lookup g
  | []=>by
    show List.lookup g [(f,v)]=_;by_cases h:g=f
    · have hb:(g==f)=true:=beq_iff_eq.mpr h
      simp only[List.lookup,hb,Zp h]
    · have hb:(g==f)=false:=beq_eq_false_iff_ne.mpr h
      simp only[List.lookup,hb,Zq h]
  | (k,x)::r=>by
    have ih:=AZ f g v r;rw[show BU f v ((k,x)::r)=(if k=f then (k,v)::r else (k,x)::BU f v r)from rfl];by_cases hk:k=f
    · rw[Zp hk]
      by_cases h:g=k
      · have hb:(g==k)=true:=beq_iff_eq.mpr h
        simp only[List.lookup,hb,Zp (h.trans hk)]
      · have hb:(g==k)=false:=beq_eq_false_iff_ne.mpr h
        simp only[List.lookup,hb,Zq (λe:g=f=>h (e.trans hk.symm))]
    · rw[Zq hk]
      by_cases h:g=k
      · have hb:(g==k)=true:=beq_iff_eq.mpr h
        simp only[List.lookup,hb,Zq (λe:g=f=>hk (h.symm.trans e))]
      · have hb:(g==k)=false:=beq_eq_false_iff_ne.mpr h
        simp only[List.lookup,hb];exact ih
theorem Fj (f:Str) (v:V):∀fs:List (Str×V),f∈(BU f v fs).map (·.1)/\∀g,g∈fs.map (·.1)->g∈(BU f v fs).map (·.1)
  | []=>⟨by simp[BU],λg h=>by simp at h⟩
  | (k,x)::r=>by
    obtain⟨i1,i2⟩:=Fj f v r;rw[show BU f v ((k,x)::r)=(if k=f then (k,v)::r else (k,x)::BU f v r)from rfl];by_cases hk:k=f
    · rw[Zp hk]
      subst hk;exact⟨by simp,λg h=>by simpa using h⟩
    · rw[Zq hk]
      refine⟨?_,λg h=>?_⟩
      · rw[map_cons]
        exact ZR _ i1
      · rw[map_cons]at h ⊢
        rcases mem_cons.mp h with e |e
        · exact mem_cons.mpr (.inl e)
        · exact ZR _ (i2 g e)
theorem A9 (f:Str) (v:V):∀fs:List (Str×V),(BU f v fs).length<=fs.length+1
  | []=>by simp[BU]
  | (k,x)::r=>by
    have ih:=A9 f v r;rw[show BU f v ((k,x)::r)=(if k=f then (k,v)::r else (k,x)::BU f v r)from rfl];by_cases hk:k=f
    · rw[Zp hk,length_cons,length_cons];omega
    · rw[Zq hk,length_cons,length_cons];omega
theorem d8.some_of {v:V}{o:Option Value} (r:d8 (some v) o):∃u,o=some u/\RelV v u:=by
 cases o with
 |none=>exact(show False from r).elim
 |some u=>exact⟨u,rfl,r⟩
theorem d8.none_of {o:Option Value} (r:d8 none o):o=none:=by
 cases o with
 |none=>rfl
 |some u=>exact(show False from r).elim
theorem IW {v:V} (r:RelV v u):W.handedIn u=true:=by
 cases v with
 |aP=>cases (show u=Value.none from r);rfl
 |bl b=>cases (show u=Value.bool b from r);rfl
 |int i=>obtain⟨t,e⟩:=(show ∃t,u=Value.int i t from r);cases e;rfl
 |str x=>obtain⟨t,e⟩:=(show ∃t,u=Value.str x t from r);cases e;rfl
 |iB b=>obtain⟨t,e⟩:=(show ∃t,u=Value.bytes b t from r);cases e;rfl
 |jy b=>obtain⟨t,e⟩:=(show ∃t,u=Value.float b t from r);cases e;rfl
 |ref a=>cases (show u=Value.ref a from r);rfl
 |ty n=>cases (show u=Value.type n from r);rfl
section
variable {h':Heap}{dx:Xd}{fs fs':List (Str×V)}
theorem Ge (aE:dq P w H h) (e:H a=some (.ins C dx fs)):∃mA,ObjM h a dx C mA/\(∀f,d8 (fs.lookup f) (mA f))/\PySem.Within mA (fs.map (·.1))/\fs.length<=1000/\H dx=some (.own a):=by
 obtain⟨d,z,ne,ob,mA,n,r,q⟩:=(show aS P w H h a (.ins C dx fs)from aE a _ e);exact⟨mA,⟨ob,n,ne⟩,r,q,z,d⟩
end
structure iC (K:FG) (C:Xd):Prop where
 pg:W.plainGet K C Str.empty=true
 hd:W.hasDictIn K C=true
 po:W.plainOver K C=true
 sa:W.findIn K (.ref C) "__setattr__" = some (some (.builtin "object.__setattr__"))
theorem iC.get (c:iC K C) (f:Str):W.plainGet K C f=true:=c.pg
def cW (K:FG) (C:Xd) (f:Str):Prop:=W.findIn K (.ref C) f=some none
theorem cW.taker {f:Str} (n:cW K C f):W.takerIn K C f=some none:=by
 unfold W.takerIn;rw[show W.findIn K (.ref C) f=some none from n];rfl
structure Pt (K:FG) (C:Xd) (m:Str) (f:Xd):Prop where
 at_:W.findIn K (.ref C) m=some (some (.ref f))
 fn:W.isFn K (.ref f)=true
 kp:W.keepIn K (.ref f)=true
section
variable {dx:Xd}{fs:List (Str×V)}{f:Str}{v:V}
theorem Ln {b:Bool}{Q:VS} (I:Inv X aa σ H s) (e:H a=some (.ins C dx fs)) (c:iC X.K C) (n:cW X.K C f) (l:fs.lookup f=some v)
  (h:∀u s',Inv X aa σ H s'->RelV v u->Q u s'):wpAny (model X.prog X.w) A (getAttr (.ref a) f b) Q E s:=by
 obtain⟨mA,O,r,_,_,_⟩:=Ge I.aE e;obtain⟨u,hu,ru⟩:=d8.some_of (v:=v) (o:=mA f) (by rw[←l];exact r f);exact Rs I.cY O (c.get f) c.hd n hu (IW ru) (h u _ (I.tok _) ru)
theorem Gw {m:Str}{g:Xd}{pl:Sem Bool}{Q:Value×Xb->Xe->Prop} (I:Inv X aa σ H s) (e:H a=some (.ins C dx fs)) (c:iC X.K C) (k:Pt X.K C m g) (l:fs.lookup m=none)
  (h:Q (.ref g,[.ref a]) s):wpAny (model X.prog X.w) A (getMethod (.ref a) m pl) Q E s:=by
 obtain⟨mA,O,r,_,_,_⟩:=Ge I.aE e;have hn:mA m=none:=d8.none_of (by rw[←l];exact r m);exact Ps I.cY O (c.get m) k.at_ k.fn hn h
theorem Lo {y:V}{Q:Unit->Xe->Prop} (I:Inv X aa σ H s) (e:H a=some (.ins C dx fs)) (c:iC X.K C) (n:cW X.K C f) (hl:fs.length<1000) (ry:RelV y u)
  (h:∀s',Inv X aa σ (upd H a (.ins C dx (BU f y fs))) s'->Q () s'):wpAny (model X.prog X.w) A (setAttr (.ref a) f u) Q E s:=by
 obtain⟨mA,O,r,wi,_,ho⟩:=Ge I.aE e;have hz:(fs.map (·.1)).length<=sizeLine:=by rw[AJ,sizeLine_eq];omega
 refine Rt I.cY O c.sa c.po n.taker c.hd wi hz λh' O' sb=>h _ ?_;have hd:∃o,h'.get? dx=some o:=let ⟨o,_,_,e',_⟩:=O'.ns;⟨o,e'⟩
 refine I.write (x:=a) (e:=dx) (by rw[e];exact True.intro) (.inr ho) (λb q hb z=>(sb.2 b hb).trans z) hd ?_;refine⟨by rw[AH O.ne];exact ho,?_,O.ne,O'.obj,_,O'.ns,λg=>?_,λg hg=>?_⟩
 ·have:=A9 f y fs;omega
 ·show d8 ((BU f y fs).lookup g) (if g=f then some u else mA g);rw[AZ];by_cases q:g=f
  ·rw[Zp q,Zp q];exact ry
  ·rw[Zq q,Zq q];exact r g
 ·by_cases q:g=f
  ·rw[q];exact(Fj f y fs).1
  ·refine(Fj f y fs).2 g (wi g λz=>hg ?_);show(if g=f then some u else mA g)=none;rw[Zq q];exact z
theorem Inv.made (I:Inv X aa σ H s):Inv X aa σ (upd (upd H s.heap.objs.size (.own (s.heap.objs.size+1))) (s.heap.objs.size+1) (.ins C s.heap.objs.size []))
  { s with heap:=(s.heap.push W.emptyDict).push (W.instObj C s.heap.objs.size) }:=by
 have e1:(s.heap.push W.emptyDict).get? s.heap.objs.size=some W.emptyDict:=ZN s.heap rfl
 have e2:((s.heap.push W.emptyDict).push (W.instObj C s.heap.objs.size)).get? (s.heap.objs.size+1)=some (W.instObj C s.heap.objs.size):=by
  have:=ZN (s.heap.push W.emptyDict) (o:=W.instObj C s.heap.objs.size) rfl
  rwa[Heap.size_push]at this
 have e3:(s.heap.push W.emptyDict).Ns s.heap.objs.size (λ_=>none):=⟨W.emptyDict,#[],_,e1,rfl,(λe he=>absurd he (by simp)),λ_=>rfl⟩;have I1:=I.laid (a:=s.heap.objs.size) (o:=.own (s.heap.objs.size+1)) (h':=s.heap.push W.emptyDict) (t':=s.toks) (λb u q=>ZX _ q) (Zy _) ⟨_,e1⟩;refine I1.laid (a:=s.heap.objs.size+1) (o:=.ins C s.heap.objs.size []) (t':=s.toks) (λb u q=>ZX _ q) (Nat.le_of_eq (Heap.size_push _ _)) ?_;have ne:s.heap.objs.size≠s.heap.objs.size+1:=ZC (Nat.lt_succ_self _);refine⟨by rw[AH ne,AB],Nat.zero_le _,ne,e2,λ_=>none,(Heap.Ns1.of_empty e3).at λo q=>ZX _ q,λ_=>True.intro,λy hy=>absurd Zj hy⟩
theorem NM {prog:Program}{env:Env}{f:Str}{Q:VS} (hb:attributeBase e f env (eval e env)=eval e env)
  (h:wpAny (model prog w) A (eval e env) (λo aH=>wpAny (model prog w) A (getAttr o f true) Q E aH) E s):wpAny (model prog w) A (eval (.Attribute e f pos) env) Q E s :=
 Attribute_any_ h (by rw[arm_eval_Attribute,hb])
end
inductive ExF (K:FG) (x:V) (H:Hp) (f:Str) (k:V->Prop):Prop where
 |mk (a C dx:Xd) (fs:List (Str×V)) (v:V) (h1:x=.ref a) (h2:H a=some (.ins C dx fs)) (h3:iC K C) (h4:cW K C f) (h5:fs.lookup f=some v) (q:k v):ExF K x H f k
def WS (K:FG) (ta:TE) (f:Str):TE:=λσ H Q=>ta σ H λx H1=>ExF K x H1 f λv=>Q v H1
def WT (K:FG) (ta tv:TE) (f:Str):TS:=λD σ H=>tv σ H λy H1=>ta σ H1 λx H2=>∃a C dx fs,x=.ref a/\H2 a=some (.ins C dx fs)/\iC K C/\cW K C f/\fs.length<1000 /\
 D.nx σ (upd H2 a (.ins C dx (BU f y fs)))
section
variable {o value:Expr}{f:Str}{pos' tpos:Pos}{ta tv:TE}
theorem BL (he:PE X e ta) (hb:attributeBase e f X.env (eval e X.env)=eval e X.env):PE X (.Attribute e f pos) (WS X.K ta f):=by
 intro aa s σ H Q I h;refine NM hb (aF (he aa s σ H _ I h) λu s1 ⟨x,H1,I1,rx,a,C,dx,fs,v,ex,ea,c,n,l,q⟩=>?_);subst ex;obtain rfl:u=Value.ref a:=rx;exact Ln I1 ea c n l λu' s2 I2 ru=>⟨v,H1,I2,ru,q⟩
theorem Dq (ha:PE X o ta) (hv:PE X value tv) (hs:swapsWith value (some (.Attribute o f pos')) pos.line X.env=pure false):PS X (.Assign [.Attribute o f pos'] value pos) (WT X.K ta tv f):=by
 intro aa s σ H D I h;refine plainObj_wpAny_Assign_Attribute (aF (hv aa s σ H _ I h) λu s1 ⟨y,H1,I1,ry,q⟩=>aF (ha aa s1 σ H1 _ I1 q) λov s2 ⟨x,H2,I2,rx,a,C,dx,fs,ex,ea,c,n,l,q2⟩=>?_) hs;subst ex;obtain rfl:ov=Value.ref a:=rx;exact Lo I2 ea c n l ry λs3 I3=>⟨σ,_,I3,q2⟩
end
section
variable {Q:VS}{c:Value}{b:Bool}
inductive eh (K:FG) (H:Hp):V->Value->Prop where
 |aP:eh K H .aP (.type "NoneType")
 |bl (x:Bool):eh K H (.bl x) (.type "bool")
 |int (i:Int):eh K H (.int i) (.type "int")
 |str (x:Str):eh K H (.str x) (.type "str")
 |jy (x:UInt64):eh K H (.jy x) (.type "float")
 |lst {a:Xd}{xs:Xc} (e:H a=some (.lst xs)):eh K H (.ref a) (.type "list")
 |cQ {a:Xd}{o:Obj}{xs:Xc} (e:H a=some (.cQ o (.lst xs))):eh K H (.ref a) (.type "list")
 |tup {a:Xd}{xs:Xc} (e:H a=some (.tup xs)):eh K H (.ref a) (.type "tuple")
 |dK {a:Xd}{kvs:LK} (e:H a=some (.dK kvs)):eh K H (.ref a) (.type "dict")
 |dT {a:Xd}{kvs:List (List Key×V)} (e:H a=some (.dT kvs)):eh K H (.ref a) (.type "dict")
 |ins {a C dx:Xd}{fs:List (Str×V)} (e:H a=some (.ins C dx fs)) (cl:iC K C) (ha:W.findIn K (.ref C) "__class__" = some (some (.builtin "object.__class__")))
   (hn:W.specialIn K (.builtin "object.__class__") "__get__" = some (some (.builtin "getset_descriptor.__get__"))) (htk:W.takesIn K (.builtin "object.__class__")=some true)
   (hm:W.mroIn K C (.type "object")=some true):eh K H (.ref a) (.ref C)
theorem OR {x:V}{t:Value} (I:Inv X aa σ H s) (rx:RelV x u) (ty:eh X.K H x t) (e:W.kitOne X.K t c=some b) (h:∀tk,Q (.bool b) { s with toks:=tk }) :
  wpAny (model X.prog X.w) A (call (.builtin "isinstance") [u,c]) Q E s:=by
 cases ty with
 |aP=>cases (show u=Value.none from rx);exact W.kia_one W.kitx_none I.cY True.intro e (λz=>nomatch z) h
 |bl y=>cases (show u=Value.bool y from rx);exact W.kia_one W.kitx_bool I.cY True.intro e (λz=>nomatch z) h
 |int i=>obtain⟨t,q⟩:=(show ∃t,u=Value.int i t from rx);cases q;exact W.kia_one W.kitx_int I.cY True.intro e (λz=>nomatch z) h
 |str y=>obtain⟨t,q⟩:=(show ∃t,u=Value.str y t from rx);cases q;exact W.kia_one W.kitx_str I.cY True.intro e (λz=>nomatch z) h
 |jy y=>obtain⟨t,q⟩:=(show ∃t,u=Value.float y t from rx);cases q;exact W.kia_one W.kitx_float I.cY True.intro e (λz=>nomatch z) h
 | @lst a xs ea =>
  cases (show u=Value.ref a from rx);obtain⟨_,_,n,_,h1⟩:=(show aS X.prog X.w H s.heap a (.lst xs)from I.aE a _ ea);exact W.kia_one W.kitx_list I.cY ⟨_,h1,rfl⟩ e (λz=>nomatch z) h
 | @cQ a ob xs ea =>
  cases (show u=Value.ref a from rx);obtain⟨_,_,_,n,_,h1⟩:=(show aS X.prog X.w H s.heap a (.cQ ob (.lst xs))from I.aE a _ ea);exact W.kia_one W.kitx_list I.cY ⟨_,h1,rfl⟩ e (λz=>nomatch z) h
 | @tup a xs ea =>
  cases (show u=Value.ref a from rx);obtain⟨_,_,_,p⟩:=(show aS X.prog X.w H s.heap a (.tup xs)from I.aE a _ ea);obtain⟨o,h1,h2,_⟩:=p;exact W.kia_one W.kitx_tuple I.cY ⟨o,h1,h2⟩ e (λz=>nomatch z) h
 | @dK a kvs ea =>
  cases (show u=Value.ref a from rx);obtain⟨_,_,vs,_,p⟩:=(show aS X.prog X.w H s.heap a (.dK kvs)from I.aE a _ ea);obtain⟨o,es,ep,h1,h2,_⟩:=p;exact W.kia_one W.kitx_dict I.cY ⟨o,h1,h2.1⟩ e (λz=>nomatch z) h
 | @dT a kvs ea =>
  cases (show u=Value.ref a from rx);obtain⟨_,_,xs,_,o,es,ep,h1,h2,_⟩:=(show aS X.prog X.w H s.heap a (.dT kvs)from I.aE a _ ea);exact W.kia_one W.kitx_dict I.cY ⟨o,h1,h2.1⟩ e (λz=>nomatch z) h
 | @ins a C dx fs ea cl ha hn htk hm =>
  cases (show u=Value.ref a from rx);obtain⟨mA,O,_⟩:=Ge I.aE ea;obtain⟨od,J,_⟩:=O.look;exact W.kia_one (W.kitx_own (cl.get _) cl.hd ha hn htk hm) I.cY J e (λz=>nomatch z) h
end
structure aI (k:Nat) (A:Around):Prop where
 hd:A.handled=none
 dp:A.depth+3*k+5<recursionLimit
 un:A.units+16*k+200<cLine
theorem aI.mono {j k:Nat} (r:aI k A) (h:j<=k):aI j A:=⟨r.hd,by have:=r.dp;omega,by have:=r.un;omega⟩
theorem aI.deeper {k:Nat}{A:Around} (r:aI (k+1) A) (env:Env):aI k (A.deeper env) :=
 ⟨r.hd,by have:=r.dp;show A.depth+1+3*k+5<_;omega,by have:=r.un;show A.units+3+16*k+200<_;omega⟩
theorem Lp {kw:List (Str×Value)}:(A.under (.builtin "type.__call__" ⟨.ref C::us,kw⟩)).depth=A.depth+1:=by
 first |rfl |simp[Around.under,Code.weight,Code.isCreation,Code.isGuard,Code.isCaller,Code.frames,Code.isFrame,guardIds]
theorem Lq {kw:List (Str×Value)}:(A.under (.builtin "type.__call__" ⟨.ref C::us,kw⟩)).units=A.units+1:=by
 first |rfl |simp[Around.under,Code.cUnits,Code.frames,Code.isFrame]
theorem aI.make {k:Nat} (r:aI (k+1) A) (C:Xd) (us:Xb) (kw:List (Str×Value)):aI k (A.under (.builtin "type.__call__" ⟨.ref C::us,kw⟩)) :=
 ⟨r.hd,by have:=r.dp;rw[Lp];omega,by have:=r.un;rw[Lq];omega⟩
theorem aI.depth {k:Nat}{A:Around} (r:aI k A):A.depth<recursionLimit:=by have:=r.dp;omega
theorem aI.units {k:Nat}{A:Around} (r:aI k A):A.units+64<cLine:=by have:=r.un;omega
def C1:TA:=λ_ H Q=>Q [] H
def Al (ta:TE) (tr:TA):TA:=λσ H Q=>ta σ H λx H1=>tr σ H1 λxs H2=>Q (x::xs) H2
section
variable {es:List Expr}{t:TA}
theorem AC:PA X [] C1:=λ_ _ _ _ H Q I h=>Calls.spliced_nil ⟨[],H,I,.nil,h⟩
theorem AA (ha:PE X e te) (hr:PA X es t) (hs:starEach (e::es) X.env=(false,eval e X.env)::starEach es X.env:=by rfl):PA X (e::es) (Al te t):=by
 intro pos aa s σ H Q I h;rw[hs];show wpAny _ _ (spliced ((false,eval e X.env)::backTo pos (starEach es X.env))) _ _ s;refine Calls.spliced_cons (aF (ha aa s σ H _ I h) λu s1 ⟨x,H1,I1,r1,q1⟩=>?_);exact aF (hr pos aa s1 σ H1 _ I1 q1) λus s2 ⟨xs,H2,I2,r2,q2⟩=>⟨x::xs,H2,I2,.cons r1 r2,q2⟩
def T6 (t:TA):TE:=λσ H Q=>t σ H λxs H1=>xs.length<=sizeLine/\∀p,H1 p=none->Q (.ref p) (upd H1 p (.tup xs))
def VF (t:TA):TE:=λσ H Q=>t σ H λxs H1=>xs.length<=sizeLine/\∀p,H1 p=none->Q (.ref p) (upd H1 p (.lst xs))
theorem As {x1} (h:PA X es t):PE X (.Tuple es x1 pos) (T6 t):=by
 intro aa s σ H Q I hq;refine wpAny_Tuple_spliced (aF (h pos aa s σ H _ I hq) λus s1 ⟨xs,H1,I1,r,z,q⟩=>⟨by rw[←r.length];exact z,?_⟩);have hf:H1 s1.heap.objs.size=none:=I1.aE.fresh (Zy _);refine⟨.ref s1.heap.objs.size,upd H1 s1.heap.objs.size (.tup xs),I1.laid (t':=s1.toks) (λb u e=>ZX _ e) (Zy _) ?_,Zj,q _ hf⟩;exact⟨z,us,r,⟨_,ZN _ Zj,Zj,_,Zj⟩⟩
theorem BF (h:PA X es t):PE X (.List es pos) (VF t):=by
 intro aa s σ H Q I hq;refine wpAny_List_spliced (aF (h pos aa s σ H _ I hq) λus s1 ⟨xs,H1,I1,r,z,q⟩=>⟨by rw[←r.length];exact z,?_⟩);have hf:H1 s1.heap.objs.size=none:=I1.aE.fresh (Zy _);refine⟨.ref s1.heap.objs.size,upd H1 s1.heap.objs.size (.lst xs),I1.laid (t':=s1.toks) (λb u e=>ZX _ e) (Zy _) ?_,Zj,q _ hf⟩;exact⟨z,us,0,r,ZN _ Zj⟩
end
abbrev Sp:=Xc->Hp->VK->XK->Prop
abbrev gD:=List Env->Hp->Xe->XK->Value->Xe->Prop
structure eV (P:Program) (w:World) (K:FG) (mg:SV) (base:Heap) (A:Around) (outer:List Env) (s:Xe) (H:Hp):Prop where
 frames:A.frames=some outer
 mod:Mod K mg base
 bs:∀b o,base.get? b=some o->s.heap.get? b=some o/\H b=none
 gL:base.objs.size<=s.heap.objs.size
 dn:s.heap.FunFrames base outer
 ie:∀b∈di outer,H b=none
 aE:dq P w H s.heap
 bare:AllBare s.gens
def CE (outer:List Env) (P:Program) (w:World) (H:Hp) (s:Xe) (Q:VK) (u:Value) (s':Xe):Prop :=
 ∃v H',s'.os=s.os/\AllBare s'.gens/\Un (di outer) [] H H' s.heap s'.heap/\dq P w H' s'.heap/\RelV v u/\Q v H'
def CR (CX:gD) (outer:List Env) (P:Program) (w:World) (H:Hp) (s:Xe) (Q:VK) (E:XK) (r:Result) (s':Xe):Prop :=
 match r with
 | .ok (.ret u)=>CE outer P w H s Q u s'
 | .ok _=>False
 | .error e=>CX outer H s E e s'
structure Af (P:Program) (w:World) (K:FG) (mg:SV) (base:Heap) (CX:gD) (k:Nat) (f:Xd) (fd:FuncData) (ps:Xa) (sp:Sp):Prop where
 len:∀vs H Q E,sp vs H Q E->vs.length=ps.length
 run:∀(A:Around) (outer:List Env) (s:Xe) (H:Hp) (args:Args) (us:Xb) (vs:Xc) (Q:VK) (E:XK),aI k A->eV P w K mg base A outer s H->BindsTo s fd args (ps.zip us)->Vals vs us->sp vs H Q E ->
  codeAny (model P w) A (.call (.ref f) args) (CR CX outer P w H s Q E) s
theorem eV.make {outer:List Env} (e:eV P w K mg base A outer s H) (C:Xd) (us:Xb) (kw:List (Str×Value)) :
  eV P w K mg base (A.under (.builtin "type.__call__" ⟨.ref C::us,kw⟩)) outer s H:=⟨by first |exact e.frames | (simpa[Around.under,Code.envs,Code.isFrame,pushEnvs]using e.frames),e.mod,e.bs,e.gL,e.dn,e.ie,e.aE,e.bare⟩
section
variable {s':Xe}
theorem Inv.env0 (I:Inv X aa σ H s):eV X.prog X.w X.K X.mg X.base X.A X.stack s H :=
 ⟨I.ok.frames,I.ok.mod,I.bs,Nat.le_trans I.ok.gL I.sz,I.stack,I.stkFree,I.aE,I.bare⟩
theorem Inv.after {Q:VK} (I:Inv X aa σ H s) (h:CE X.stack X.prog X.w H s Q u s'):EP X aa σ Q u s':=by
 obtain⟨v,H',os,bare,un,aE,r,q⟩:=h;obtain⟨hh,g,d,t,os'⟩:=s';obtain rfl:os'=s.os:=os;exact⟨v,H',I.call (h':=hh) (g':=g) (d':=d) (t':=t) (ch:=[]) un aE bare (λb z=>absurd z (by simp)),r,q⟩
end
def KK (sp:Sp) (d7:Xc) (E:XK) (t:TA):TE:=λσ H Q=>t σ H λvs H1=>sp (vs++d7) H1 Q E
inductive ExM (C:Xd) (m:Str) (x:V) (H:Hp) (k:Prop):Prop where
 |mk (a dx:Xd) (fs:List (Str×V)) (h1:x=.ref a) (h2:H a=some (.ins C dx fs)) (h3:fs.lookup m=none) (q:k):ExM C m x H k
def TQ (C:Xd) (m:Str) (sp:Sp) (d7:Xc) (E:XK) (ta:TE) (t:TA):TE:=λσ H Q=>ta σ H λx H1=>ExM C m x H1 (t σ H1 λvs H2=>sp (x::(vs++d7)) H2 Q E)
def VG (C:Xd) (sp:Sp) (d7:Xc) (E:XK) (t:TA):TE:=λσ H Q=>t σ H λvs H1=>∀x dx,H1 x=none->H1 dx=none->dx≠x ->
 sp (.ref x::(vs++d7)) (upd (upd H1 dx (.own x)) x (.ins C dx [])) (λv H2=>v=.aP/\Q (.ref x) H2) E
def Binds (K:FG) (fd:FuncData) (ps:Xa) (ds:Xb):Prop :=
 ∀(s:Xe) (us:Xb),K.In s.heap->(us++ds).length=ps.length->BindsTo s fd ⟨us,[]⟩ (ps.zip (us++ds))
theorem Binds.all {fd:FuncData}{ps:Xa} (h:∀us:Xb,us.length=ps.length->bindArgs fd ⟨us,[]⟩=pure (ps.zip us)):Binds K fd ps []:=λs us _ hl=>by
 rw[Zt]at hl ⊢;exact .of_eq (h us hl)
def BW (CX:gD) (X:Cx) (E:XK):Prop:=∀(aa:LO) (σ:St) (H:Hp) (s:Xe) (e:Value) (s':Xe),Inv X aa σ H s->CX X.stack H s E e s'->X.xe e s'
section
variable {CX:gD}{k:Nat}{f:Xd}{fd:FuncData}{ps:Xa}{sp:Sp}{d7:Xc}{ds:Xb}{E:XK}{m:Str}{p apos:Pos}{o:Expr}{es:List Expr}{ta:TE}{t:TA}
theorem JP {Q:VK}{vs:Xc} (F:Af X.prog X.w X.K X.mg X.base CX k f fd ps sp) (hr:aI k X.A) (hb:Binds X.K fd ps ds) (hd:Vals d7 ds) (hx:BW CX X E)
  (I:Inv X aa σ H s) (r:Vals vs us) (h:sp (vs++d7) H Q E):wpAny (model X.prog X.w) X.A (call (.ref f) us) (EP X aa σ Q) X.xe s:=by
 have r2:Vals (vs++d7) (us++ds):=r.append hd;have hl:(us++ds).length=ps.length:=by rw[←r2.length];exact F.len _ _ _ _ h
 refine wpAny_call (codeAny_mono (F.run X.A X.stack s H ⟨us,[]⟩ (us++ds) (vs++d7) Q E hr I.env0 (hb s us I.cY hl) r2 h) λr s' hq=>?_);cases r with
 |error e=>exact hx aa σ H s e s' I hq
 |ok fl =>
  cases fl with
  |ret u=>exact I.after hq
  |next=>exact False.elim hq
  |brk=>exact False.elim hq
  |cont=>exact False.elim hq
theorem AQ (F:Af X.prog X.w X.K X.mg X.base CX k f fd ps sp) (hr:aI k X.A) (hg:Gl X x) (hm:X.mg x=some (.ref f)) (hk:W.keepIn X.K (.ref f)=true) (hb:Binds X.K fd ps ds) (hd:Vals d7 ds) (hx:BW CX X E)
  (ha:PA X (e::es) t) (eI:(x==("__debug__" : Str))=false:=by decide) (he:starEach (e::es) X.env=(false,eval e X.env)::starEach es X.env:=by rfl) (eQ:(backTo pos (starEach es X.env)).any (·.1)=false:=by rfl) :
  PE X (.Call (.Name x p) (e::es) [] pos) (KK sp d7 E t):=by
 intro aa s σ H Q I h;refine Z3 (CI I hg hm ?_ eI);refine W.callWith_K (h₀:=X.base) I.ok.mod.kin hk (aF (ha pos aa s σ H _ I h) λus s1 ⟨vs,H1,I1,r,q⟩=>⟨I1.cY,?_⟩) he eQ;exact JP F hr hb hd hx I1 r q
theorem Ck {pl:Sem Bool} (he:PE X o ta) (c:iC X.K C) (hm:Pt X.K C m f) (F:Af X.prog X.w X.K X.mg X.base CX k f fd ps sp) (hr:aI k X.A) (hb:Binds X.K fd ps ds) (hd:Vals d7 ds) (hx:BW CX X E) (ha:PA X (e::es) t)
  (hst:starEach (e::es) X.env=(false,eval e X.env)::starEach es X.env:=by rfl) (eQ:(backTo pos (starEach es X.env)).any (·.1)=false:=by rfl)
  (ht:eval (.Call (.Attribute o m apos) (e::es) [] pos) X.env=(do
   let ov ←eval o X.env
   standAt apos.atName
   let (f,first) ←holding [ov] (getMethod ov m pl)
   callWith pos f first (backTo pos (starEach (e::es) X.env)) (backToKw pos (keywordEach [] X.env))):=by rfl) :
  PE X (.Call (.Attribute o m apos) (e::es) [] pos) (TQ C m sp d7 E ta t):=by
 intro aa s σ H Q I h;refine W.methodCall_KW (pl:=pl) (aF (he aa s σ H _ I h) λu s1 ⟨x,H1,I1,rx,a,dx,fs,ex,ea,l,q⟩=>?_) ht;subst ex;obtain rfl:u=Value.ref a:=rx;refine Gw I1 ea c hm l ?_;refine W.callWith_K (first:=[.ref a]) (h₀:=X.base) I.ok.mod.kin hm.kp (aF (ha pos aa s1 σ H1 _ I1 q) λus s2 ⟨vs,H2,I2,r,q2⟩=>⟨I2.cY,?_⟩) hst eQ;exact JP (us:=.ref a::us) (vs:=.ref a::vs) F hr hb hd hx I2 (.cons Zj r) q2
theorem E6 {pl:Sem Bool} (he:PE X o ta) (c:iC X.K C) (hm:Pt X.K C m f) (F:Af X.prog X.w X.K X.mg X.base CX k f fd ps sp) (hr:aI k X.A) (hb:Binds X.K fd ps ds) (hd:Vals d7 ds) (hx:BW CX X E)
  (ht:eval (.Call (.Attribute o m apos) [] [] pos) X.env=(do
   let ov ←eval o X.env
   standAt apos.atName
   let (f,first) ←holding [ov] (getMethod ov m pl)
   callWith pos f first (backTo pos (starEach [] X.env)) (backToKw pos (keywordEach [] X.env))):=by rfl) :
  PE X (.Call (.Attribute o m apos) [] [] pos) (TQ C m sp d7 E ta C1):=by
 intro aa s σ H Q I h;refine W.methodCall_KW (pl:=pl) (aF (he aa s σ H _ I h) λu s1 ⟨x,H1,I1,rx,a,dx,fs,ex,ea,l,q⟩=>?_) ht;subst ex;obtain rfl:u=Value.ref a:=rx;refine Gw I1 ea c hm l ?_;exact W.callWith_K0 (first:=[.ref a]) I1.cY hm.kp (JP (us:=[.ref a]) (vs:=[.ref a]) F hr hb hd hx I1 (.cons Zj .nil) q)
structure Mk (K:FG) (C f:Xd):Prop where
 makes:W.makesIn K C=true
 init:W.findIn K (.ref C) "__init__" = some (some (.ref f))
 fn:W.isFn K (.ref f)=true
 kp:W.keepIn K (.ref C)=true
theorem Pu {Q:VK}{vs:Xc} (M:Mk X.K C f) (F:Af X.prog X.w X.K X.mg X.base CX k f fd ps sp) (hr:aI (k+1) X.A) (hb:Binds X.K fd ps ds) (hd:Vals d7 ds)
  (hx:BW CX X E) (I:Inv X aa σ H s) (r:Vals vs us)
  (h:∀x dx,H x=none->H dx=none->dx≠x->sp (.ref x::(vs++d7)) (upd (upd H dx (.own x)) x (.ins C dx [])) (λv H2=>v=.aP/\Q (.ref x) H2) E) :
  wpAny (model X.prog X.w) X.A (call (.ref C) us) (EP X aa σ Q) X.xe s:=by
 have hq:=h (s.heap.objs.size+1) s.heap.objs.size (I.aE.fresh (Nat.le_succ _)) (I.aE.fresh (Zy _)) (ZC (Nat.lt_succ_self _));have I2:=Inv.made (C:=C) I;have r2:Vals (V.ref (s.heap.objs.size+1)::(vs++d7)) (Value.ref (s.heap.objs.size+1)::(us++ds)):=.cons rfl (r.append hd)
 have hl:(Value.ref (s.heap.objs.size+1)::us++ds).length=ps.length:=by
  have e:=r2.length;rw[F.len _ _ _ _ hq]at e;exact e.symm
 refine wpAny_call (KJ (f:=f) I.cY M.makes M.init (beq_iff_eq.mp M.fn) (codeAny_mono (F.run _ X.stack _ _ ⟨Value.ref (s.heap.objs.size+1)::us,[]⟩ (Value.ref (s.heap.objs.size+1)::(us++ds)) _ _ E (hr.make C us [])
  (I2.env0.make C us []) (hb _ (Value.ref (s.heap.objs.size+1)::us) I2.cY hl) r2 hq) λr s' ft=>?_))
 cases r with
 |error e=>exact hx aa σ _ _ e s' I2 ft
 |ok fl =>
  cases fl with
  |ret u =>
   obtain⟨v,H',I3,rv,ev,q3⟩:=I2.after ft;subst ev;exact⟨rv,⟨V.ref (s.heap.objs.size+1),H',I3,Zj,q3⟩⟩
  |next=>exact False.elim ft
  |brk=>exact False.elim ft
  |cont=>exact False.elim ft
theorem Pw (M:Mk X.K C f) (F:Af X.prog X.w X.K X.mg X.base CX k f fd ps sp) (hr:aI (k+1) X.A) (hg:Gl X x) (hm:X.mg x=some (.ref C)) (hb:Binds X.K fd ps ds) (hd:Vals d7 ds) (hx:BW CX X E)
  (eI:(x==("__debug__" : Str))=false:=by decide):PE X (.Call (.Name x p) [] [] pos) (VG C sp d7 E C1):=by
 intro aa s σ H Q I h;refine Z3 (CI I hg hm ?_ eI);exact W.callWith_K0 I.cY M.kp (Pu (us:=[]) M F hr hb hd hx I .nil h)
end
def PK (X:Cx) (iO:List Keyword) (t:TA):Prop :=
 ∀(pos:Pos) (aa:LO) (s:Xe) (σ:St) (H:Hp) (Q:Xc->Hp->Prop),Inv X aa σ H s->t σ H Q->wpAny (model X.prog X.w) X.A (evalAll ((backToKw pos (keywordEach iO X.env)).map (·.2))) (AP X aa σ Q) X.xe s
section
variable {CX:gD}{k:Nat}{f:Xd}{fd:FuncData}{ps ks:Xa}{sp:Sp}{E:XK}{m:Str}{p apos kpos:Pos}{o:Expr}{es:List Expr}{iO:List Keyword}{ta:TE}{t tk:TA}{nm:Option Str}
theorem Px:PK X [] C1:=λ_ _ _ _ H Q I h=>wpAny_evalAll_nil ⟨[],H,I,.nil,h⟩
theorem NN (ha:PE X e te) (hr:PK X iO t):PK X (⟨nm,e,kpos⟩::iO) (Al te t):=by
 intro pos aa s σ H Q I h;show wpAny _ _ (evalAll ((do let v ←eval e X.env;standAt pos;pure v)::(backToKw pos (keywordEach iO X.env)).map (·.2))) _ _ s;refine wpAny_evalAll_cons (Zx (aF (ha aa s σ H _ I h) λu s1 ⟨x,H1,I1,r1,q1⟩=>Zx (ZJ (Zw ?_))));exact aF (hr pos aa s1 σ H1 _ I1 q1) λus s2 ⟨xs,H2,I2,r2,q2⟩=>⟨x::xs,H2,I2,.cons r1 r2,q2⟩
structure Lr (K:FG) (fd:FuncData) (ps ks:Xa) (g:Xb->Xb->Xb) (gV:Xc->Xc->Xc):Prop where
 to:∀(s:Xe) (us ws:Xb),K.In s.heap->(g us ws).length=ps.length->BindsTo s fd ⟨us,ks.zip ws⟩ (ps.zip (g us ws))
 rel:∀ {vs:Xc}{us:Xb}{zs:Xc}{ws:Xb},Vals vs us->Vals zs ws->Vals (gV vs zs) (g us ws)
variable {g:Xb->Xb->Xb}{gV:Xc->Xc->Xc}
end
structure AN (N P:Xa) (sc:Scope):Prop where
 kind:sc.kind=.function
 co:sc.isCoroutine=false
 gen:sc.isGenerator=false
 nd:N.Nodup
 pre:N.take P.length=P
 par:∀x∈P,sc.names.lookup x=some .local\/sc.names.lookup x=some .cell
 nofree:∀y∈sc.names,y.2≠ .free
theorem cS {N P:Xa}{sc:Scope} (a:sc.kind=.function:=by exact rfl) (b:sc.isCoroutine=false:=by exact rfl) (c:sc.isGenerator=false:=by exact rfl) (d:N.Nodup:=by decide +kernel) (e:N.take P.length=P:=by exact rfl) (f:∀x∈P,sc.names.lookup x=some .local\/sc.names.lookup x=some .cell:=by decide +kernel) (g:∀y∈sc.names,y.2≠ .free:=by decide +kernel):AN N P sc:=⟨a,b,c,d,e,f,g⟩
theorem IY {kindOf:Str->Option NameKind}{x:Str}:∀ {binds:List (Str×Value)}{m:SV},(∀v,(x,v)∉ binds)->bindL kindOf binds m x=m x
  | [],_,_=>rfl
  | (n,v)::r,m,h=>by
    unfold bindL;rw[IY λw hw=>h w (ZR _ hw)];split
    · have:x≠n:=by rintro rfl;exact h v ZI
      simp[this]
    · rfl
theorem IZ {kindOf:Str->Option NameKind}{x:Str}:∀ {binds:List (Str×Value)}{m:SV},(∀v,(x,v)∉ binds)->bindC kindOf binds m x=m x
  | [],_,_=>rfl
  | (n,v)::r,m,h=>by
    unfold bindC;rw[IZ λw hw=>h w (ZR _ hw)];split
    · rfl
    · have:x≠n:=by rintro rfl;exact h v ZI
      simp[this]
theorem Ie {kindOf:Str->Option NameKind}{x:Str}{v:Value}:∀ {P:Xa}{vs:Xb}{i:Nat}{m:SV},P.Nodup->P[i]?=some x->vs[i]?=some v->kindOf x=some .local ->
  bindL kindOf (P.zip vs) m x=some v
 | [],_,_,_,_,h,_,_=>by simp at h
 |_::_,[],_,_,_,_,h,_=>by simp at h
 |p::P,w::vs,0,m,nd,h1,h2,hk=>by
  simp at h1 h2;subst h1;subst h2;show bindL kindOf ((p,w)::P.zip vs) m p=_;unfold bindL;rw[IY λv hv=>(Zs.mp nd).1 (of_mem_zip hv).1,Zp hk];simp
 |p::P,w::vs,i+1,m,nd,h1,h2,hk=>by
  show bindL kindOf ((p,w)::P.zip vs) m x=_;unfold bindL;exact Ie (i:=i) (Zs.mp nd).2 (by simpa using h1) (by simpa using h2) hk
theorem Ig {kindOf:Str->Option NameKind}{x:Str}{v:Value}:∀ {P:Xa}{vs:Xb}{i:Nat}{m:SV},P.Nodup->P[i]?=some x->vs[i]?=some v->kindOf x≠some .local ->
  bindC kindOf (P.zip vs) m x=some v
 | [],_,_,_,_,h,_,_=>by simp at h
 |_::_,[],_,_,_,_,h,_=>by simp at h
 |p::P,w::vs,0,m,nd,h1,h2,hk=>by
  simp at h1 h2;subst h1;subst h2;show bindC kindOf ((p,w)::P.zip vs) m p=_;unfold bindC;rw[IZ λv hv=>(Zs.mp nd).1 (of_mem_zip hv).1,Zq hk];simp
 |p::P,w::vs,i+1,m,nd,h1,h2,hk=>by
  show bindC kindOf ((p,w)::P.zip vs) m x=_;unfold bindC;exact Ig (i:=i) (Zs.mp nd).2 (by simpa using h1) (by simpa using h2) hk
noncomputable def Bo (N:Xa) (vs:Xc):St:=vs.map some++List.replicate (N.length - vs.length) none
noncomputable def BM (CX:gD) (P:Program) (w:World) (K:FG) (mg:SV) (base:Heap) (N:Xa) (qual:Str) (scope:Scope) (f:Xd) (cd:Value) (A:Around) (outer:List Env) (s:Xe) (H:Hp) (E:XK):Cx where
 prog:=P
 w:=w
 K:=K
 mg:=mg
 base:=base
 A:=A.deeper (envOfC qual scope s.heap.objs.size f cd)
 N:=N
 aW:=s
 eU:=H
 env:=envOfC qual scope s.heap.objs.size f cd
 outer:=outer
 stack:=envOfC qual scope s.heap.objs.size f cd::outer
 ex:=[]
 calm:=true
 fn:=λ_=>true
 pn:=[]
 xe:=λe s'=>wpAny (model P w) (A.deeper (envOfC qual scope s.heap.objs.size f cd)) (leaving (envOfC qual scope s.heap.objs.size f cd) e) (λ_ jk=>CX outer H s E e jk) (λe' jk=>CX outer H s E e' jk) s'
theorem KL {sc:Scope}{n:Nat} (h:sc.names.lookup x=some .cell):∃c,(cellsFrom n sc.names []).lookup x=some c:=by
 have q:=W.cellsFrom_some sc.names n [] (.inl h);exact Option.isSome_iff_exists.mp q
theorem Fk {CX:gD}{ps:Xa}{qual:Str}{scope:Scope}{f:Xd}{cd:Value}{outer:List Env}{s1:Xe}{E:XK}{vs:Xc}
  (S:AN N ps scope) (hd:A.handled=none) (e0:eV P w K mg base A outer s H) (hl:vs.length=ps.length) (r:Vals vs us)
  (x:InCallC s s.heap.objs.size (bindL (envOfC qual scope s.heap.objs.size f cd).kindOf (ps.zip us) λ_=>none) (cellsFrom (s.heap.objs.size+1) scope.names []) (bindC (envOfC qual scope s.heap.objs.size f cd).kindOf (ps.zip us) λ_=>none) s1) :
  Inv (BM CX P w K mg base N qual scope f cd A outer s H E) [] (Bo N vs) H s1:=by
 have eQ:ps.length<=N.length:=by have:=congrArg List.length S.pre;rw[ZA]at this;omega
 obtain⟨h1,tk,rfl,hk⟩:=x.done;have jq:∀b:Xd,b∉ (BM CX P w K mg base N qual scope f cd A outer s H E).ex:=λb z=>absurd (show b∈([]:List Xd)from z) (by simp)
 refine⟨⟨e0.mod,S.kind,Zj,Zj,Zy _,λy z c h1 h2=>?_,λy hy=>?_,λy c _ h=>?_,λ_=>hd,Around.frames_deeper e0.frames,.inr ⟨Zj,Zj⟩,λb z=>absurd z (jq b),e0.bs,e0.gL,λb _ _=>jq b,λb z=>absurd z (jq b),e0.dn,e0.ie⟩,
  rfl,e0.bare,Un.kept hk,⟨_,x.toInCall.ns,λi y v h1 h2 h3=>?_⟩,λy c h=>⟨_,x.cell y c h⟩,e0.aE.fresh (Zy _),λy c h=>?_,λp hp=>absurd (show p∈([]:LO)from hp) (by simp),e0.aE.kept hk,?_⟩
 ·exact name_of_addr x.apart (PySem.mem_of_lookup h1) (PySem.mem_of_lookup h2)
 ·have hy:scope.names.lookup y=some .cell\/scope.names.lookup y=some .free:=hy;rcases hy with hy |hy
  ·exact KL hy
  ·exact absurd Zj (S.nofree _ (PySem.mem_of_lookup hy))
 ·exact Nat.le_of_lt (x.above y c (PySem.mem_of_lookup h))
 ·have hi:i<vs.length:=by
   unfold Bo at h2;by_cases hi:i<vs.length
   ·exact hi
   ·rw[getElem?_append_right (by simpa using hi)]at h2;rw[List.getElem?_replicate]at h2;split at h2 <;> cases h2
  have ha:vs[i]?=some v:=by
   unfold Bo at h2;rw[List.getElem?_append_left (by simpa using hi),ZE]at h2;cases e:vs[i]? with
   |none=>rw[e]at h2;cases h2
   |some a=>rw[e]at h2;cases h2;rfl
  obtain⟨u,hu,rv⟩:=r.get ha
  have hp:ps[i]?=some y:=by
   rw[←S.pre,List.getElem?_take_of_lt qe];exact h1
  have ndP:ps.Nodup:=by rw[←S.pre];exact S.nd.sublist (List.take_sublist _ _)
  refine⟨u,rv,?_⟩;rcases S.par y (ZQ hp)with k |k
  ·exact .inl ⟨k,Ie ndP hp hu k⟩
  ·obtain⟨c,e⟩:=KL (n:=s.heap.objs.size+1) k;refine .inr ⟨.inl k,c,e,?_⟩;have q:=x.cell y c e;rw[Ig ndP hp hu (by show scope.names.lookup y≠_;rw[k];decide)]at q;exact q
 ·exact e0.aE.fresh (Nat.le_of_lt (x.above y c (PySem.mem_of_lookup h)))
 ·unfold Bo;show _=N.length;rw[ZH,AJ,List.length_replicate];omega
theorem NO {CX:gD}{k:Nat}{f:Xd}{name qual:Str}{params:Arguments}{body:List Stmt}{scope:Scope}{dV kV doc pm ad ct oc:Value}{an od:Option Xd}
  {gp:Array (Option Value)}{N ps:Xa}{sp:Sp} (lk:K.lookup f=some ⟨oc,od,.func (W.fnOf name qual params body scope dV kV doc pm an ad ct),gp⟩) (fg:W.codeIn K ad qual=true) (S:AN N ps scope)
  (len:∀vs H Q E,sp vs H Q E->vs.length=ps.length)
  (bh:∀(A:Around) (outer:List Env) (s:Xe) (H:Hp) (vs:Xc) (Q:VK) (E:XK),aI k (A.deeper (envOfC qual scope s.heap.objs.size f ad))->sp vs H Q E ->
   ∃t,eK (BM CX P w K mg base N qual scope f ad A outer s H E) body t/\t { nx:=λ_ H'=>Q .aP H',rt:=Q } (Bo N vs) H) :
  Af P w K mg base CX (k+1) f (W.fnOf name qual params body scope dV kV doc pm an ad ct) ps sp:=by
 refine⟨len,λA outer s H args us vs Q E hr e0 hb r gF=>?_⟩;have hl:=len _ _ _ _ gF;have KX:K.In s.heap:=e0.mod.kin.keeps λb o e=>(e0.bs b o e).1;have lim:s.heap.NoLimit:=e0.mod.nolimit.keeps λb o e=>(e0.bs b o e).1
 have hkind:∀y∈ps.zip us,scope.names.lookup y.1=some .local\/(scope.names.lookup y.1=some .cell/\((cellsFrom (s.heap.objs.size+1) scope.names []).lookup y.1).isSome=true):=λ⟨n,v⟩ hy=>by
  rcases S.par n (of_mem_zip hy).1 with q |q
  ·exact .inl q
  ·exact .inr ⟨q,W.cellsFrom_some _ _ _ (.inl q)⟩
 refine codeAny_call_function hr.depth (KX _ _ lk) Zj S.co S.gen Zj (W.codeRec_of KX fg) (hb _ _ _ _ ?_);refine wpAny_newFunctionEnv_cells S.kind hkind λenv he s1 x=>?_;subst he;refine⟨lim.keeps x.toInCall.keep,codeAny_func ?_⟩;obtain⟨t,ht,hq⟩:=bh A outer s H vs Q E (hr.deeper _) gF;have I:Inv (BM CX P w K mg base N qual scope f ad A outer s H E) [] (Bo N vs) H s1:=Fk S hr.hd e0 hl r x;refine Zv (ht [] s1 (Bo N vs) H _ I hq) (λfl s' hs=>?_) λe s' hs=>hs
 have fin:∀ {aJ:St}{H':Hp}{v:V}{u:Value},Inv (BM CX P w K mg base N qual scope f ad A outer s H E) [] aJ H' s'->RelV v u->Q v H'->CE outer P w H s Q u s' :=
  λ{aJ H' v u} J rv q=>⟨v,H',J.os,J.bare,J.base,J.aE,rv,q⟩
 cases fl with
 |ret u =>
  obtain⟨v,aJ,H',J,rv,q⟩:=hs;exact fin J rv q
 |next =>
  obtain⟨aJ,H',J,q⟩:=hs;exact fin (v:=V.aP) (u:=Value.none) J Zj q
 |brk =>
  obtain⟨_,_,_,q⟩:=hs;exact False.elim q
 |cont =>
  obtain⟨_,_,_,q⟩:=hs;exact False.elim q
section
variable {p:Pos}{es:List Expr}{t:TA}{id T:String}{r:Xc->Hp->VK->Prop}
def tCB (r:Xc->Hp->VK->Prop) (t:TA):TE:=λσ H Q=>t σ H λvs H1=>r vs H1 Q
theorem AW (hc:aZ X (.builtin id) r) (hg:Gl X x) (hm:X.mg x=none) (hv:bootBuiltins x=some (.builtin id)) (ha:PA X (e::es) t) (hn:x≠ "__name__" := by decide) (eI:(x==("__debug__" : Str))=false:=by decide)
  (he:starEach (e::es) X.env=(false,eval e X.env)::starEach es X.env:=by rfl) (eQ:(backTo pos (starEach es X.env)).any (·.1)=false:=by rfl):PE X (.Call (.Name x p) (e::es) [] pos) (tCB r t):=by
 intro aa s σ H Q I h;refine Z3 (EW I hg hm hv ?_ hn eI);exact PyProof.Rows.callWith_builtin1 (aF (ha pos aa s σ H _ I h) λus s1 ⟨vs,H1,I1,r1,q1⟩=>hc aa s1 σ H1 vs us Q I1 r1 q1) he eQ
theorem Bp (hc:aZ X (.type T) r) (hg:Gl X x) (hm:X.mg x=none) (hv:bootBuiltins x=some (.type T)) (ha:PA X (e::es) t) (hn:x≠ "__name__" := by decide) (eI:(x==("__debug__" : Str))=false:=by decide)
  (he:starEach (e::es) X.env=(false,eval e X.env)::starEach es X.env:=by rfl) (eQ:(backTo pos (starEach es X.env)).any (·.1)=false:=by rfl):PE X (.Call (.Name x p) (e::es) [] pos) (tCB r t):=by
 intro aa s σ H Q I h;refine Z3 (EW I hg hm hv ?_ hn eI);exact PyProof.Rows.callWith_type1 (aF (ha pos aa s σ H _ I h) λus s1 ⟨vs,H1,I1,r1,q1⟩=>hc aa s1 σ H1 vs us Q I1 r1 q1) he eQ
end
end L2
namespace HT
open PySem PyProof.Rows
section
variable {prog:Program}
theorem cat_tup {t b:Xd}{vs ws:Xb}{Q:VS} (ht:IsTup s.heap t vs.toArray) (hb:IsTup s.heap b ws.toArray) (hv:vs≠ [])
  (h1:ws=[]->Q (.ref t) s) (h2:ws≠ []->Q (.ref s.heap.objs.size) { s with heap:=s.heap.push { cls:=.type "tuple", data:=.seq (vs++ws).toArray } })
  (hsz:vs.length+ws.length<=sizeLine):wpAny (model prog w) A (binaryOp .Add (.ref t) (.ref b)) Q E s:=by
 obtain⟨⟨cls,dd,data,sl⟩,ho,hc,n,hd⟩:=id ht;obtain⟨⟨cls2,jW,data2,eO⟩,ho2,i7,n2,hd2⟩:=id hb;simp only at hc hd i7 hd2;subst hc hd i7 hd2;have e:vs.toArray++ws.toArray=(vs++ws).toArray:=by simp
 by_cases hw:ws=[]
 ·exact concat_meets ⟨_,ho,Zj⟩ ⟨_,ho2,Zj⟩ noFill_tuple_add seq_tuple_add PySem.F.slot_tuple_add PySem.F.entry_tuple_add (PySem.F.args_tuple_add_2 _ _)
   (tuple_addW1 t b vs.toArray ws.toArray n n2 dd jW sl eO (by simpa using hv) (by simp[hw])) ⟨ho,ho2,h1 hw⟩
 ·refine concat_meets ⟨_,ho,Zj⟩ ⟨_,ho2,Zj⟩ noFill_tuple_add seq_tuple_add PySem.F.slot_tuple_add PySem.F.entry_tuple_add (PySem.F.args_tuple_add_2 _ _)
   (tuple_addW2 t b vs.toArray ws.toArray n n2 dd jW sl eO (by simpa using hv) (by simpa using hw) (by rw[size_toArray,size_toArray];exact hsz)) ⟨ho,ho2,?_⟩
  rw[e];exact h2 hw
end
end HT
namespace L2
open PySem PySem.Spec PyProof.Rows
abbrev TO:=St->Hp->(Option Int->Hp->Prop)->Prop
def PO (X:Cx) (e:Option Expr) (t:TO):Prop :=
 ∀(aa:LO) (s:Xe) (σ:St) (H:Hp) (Q:Option Int->Hp->Prop),Inv X aa σ H s->t σ H Q ->
  wpAny (model X.prog X.w) X.A (evalPart e X.env) (λu s'=>∃o H',Inv X aa σ H' s'/\IsPart u o/\Q o H') X.xe s
def VH (t:TE):TO:=λσ H Q=>t σ H λx H1=>∃i,x=.int i/\Q (some i) H1
theorem DQ {ns:List Int}:∀ {us:Xb},Vals (ns.map V.int) us->IntsAre us ns:=by
 induction ns with
 |nil=>intro us r;rw[map_nil]at r;cases r;exact .nil
 |cons n ns ih =>
  intro us r;rw[map_cons]at r;cases r with
  |cons r1 r2 =>
   obtain⟨t,e⟩:=r1;subst e;exact .cons n t (ih r2)
section
variable {lo hi:Option Expr}{tl th:TO}{p2:Pos}
theorem Gf (h:PE X e te):PO X (some e) (VH te):=by
 intro aa s σ H Q I hw;rw[evalPart_some];refine aF (h aa s σ H _ I hw) λu s1 ⟨x,H1,I1,r1,q1⟩=>?_;obtain⟨i,rfl,q⟩:=q1;obtain⟨t,rfl⟩:=r1;exact⟨some i,H1,I1,.int i t,q⟩
def SlR (X:Cx) (r:V->Option Int->Option Int->Hp->VK->Prop):Prop :=
 ∀(aa:LO) (s:Xe) (σ:St) (H:Hp) (x:V) (v vl vu:Value) (lo hi:Option Int) (sl:Xd) (Q:VK),Inv X aa σ H s->RelV x v->s.heap.IsSliceOf sl vl vu .none->IsPart vl lo->IsPart vu hi->r x lo hi H Q ->
  ∃T id,typeLookup (.type T) "__getitem__" = pure (some (.builtin id))/\s.TypeIs v T/\wpAny (model X.prog X.w) X.A (getItem v (.ref sl)) (EP X aa σ Q) X.xe s
def tSl (r:V->Option Int->Option Int->Hp->VK->Prop) (te:TE) (tl th:TO):TE:=λσ H Q=>te σ H λx H1=>tl σ H1 λl H2=>th σ H2 λu H3=>r x l u H3 Q
theorem KM {r:V->Option Int->Option Int->Hp->VK->Prop} (hr:SlR X r) (he:PE X e te) (hl:PO X lo tl) (hu:PO X hi th):PE X (.Subscript e (.Slice lo hi none p2) pos) (tSl r te tl th):=by
 intro aa s σ H Q I h;refine Subscript_ (aF (he aa s σ H _ I h) λv s1 ⟨x,H1,I1,r1,q1⟩=>?_);refine wpAny_Slice (aF (hl aa s1 σ H1 _ I1 q1) λvl s2 ⟨l,H2,I2,pl,q2⟩=>aF (hu aa s2 σ H2 _ I2 q2) λvu s3 ⟨u,H3,I3,pu,q3⟩=>?_);rw[evalPart_none];refine Zw ?_;have I4:Inv X aa σ H3 { s3 with heap:=s3.heap.push { cls:=.type "slice", data:=.fields #[vl,vu,.none] } }:=I3.kept (t':=s3.toks) λb ob q=>ZX _ q;obtain⟨T,id,hT,ht,hg⟩:=hr aa { s3 with heap:=s3.heap.push { cls:=.type "slice", data:=.fields #[vl,vu,.none] } } σ H3 x v vl vu l u s3.heap.objs.size Q I4 r1 (Heap.IsSliceOf.new ..) pl pu q3;show wpAny (model X.prog X.w) X.A (subscriptTail e (.Slice lo hi none p2) v (.ref s3.heap.objs.size)) (EP X aa σ Q) X.xe { s3 with heap:=s3.heap.push { cls:=.type "slice", data:=.fields #[vl,vu,.none] } };exact tail_any (ops:=[.ref s3.heap.objs.size,v]) ht hT hg (by with_unfolding_all rfl)
def NP (K:FG):R2:=λx y H Q=>∃a b xs ys,x=.ref a/\y=.ref b/\aQ K H a xs/\aQ K H b ys/\xs≠ []/\xs.length+ys.length<=sizeLine /\
 (ys=[]->Q (.ref a) H)/\(ys≠ []->∀p,H p=none->Q (.ref p) (upd H p (.tup (xs++ys))))
theorem Vals.nil_iff (r:Vals xs us):us=[] ↔ xs=[]:=by
 cases r with
 |nil=>simp
 |cons _ _=>simp
theorem Ru:dc X (binaryOp .Add) (NP X.K):=by
 intro aa s σ H x y v u Q I rx ry h;obtain⟨a,b,xs,ys,rfl,rfl,ha,hb,hx,hz,q1,q2⟩:=h;cases rx;cases ry;obtain⟨its,r1,p1,_⟩:=I.tuple ha;obtain⟨its2,r2,p2,_⟩:=I.tuple hb;refine HT.cat_tup p1 p2 (λz=>hx (r1.nil_iff.mp z)) (λz=>⟨.ref a,H,I,Zj,q1 (r2.nil_iff.mp z)⟩) (λz=>?_) (by rw[←r1.length,←r2.length];exact hz);refine⟨.ref s.heap.objs.size,_,I.laid (t':=s.toks) (o:=.tup (xs++ys)) (λb ob q=>ZX _ q) (Zy _) ?_,Zj,q2 (λw=>z (r2.nil_iff.mpr w)) _ (I.aE.fresh (Zy _))⟩;exact⟨by rw[ZH];exact hz,_,r1.append r2,IsTup.new _ _⟩
end
noncomputable def iu (n:Nat) (i:Int):Option Nat:=if 0<=i then (if i<n then some i.toNat else none)else if -(n:Int)<=i then some (i+n).toNat else none
noncomputable def gM {α:Type} (xs:List α) (i:Int):Option α:=(iu xs.length i).bind λj=>xs[j]?
theorem NQ {n:Nat}{i:Int}{j:Nat} (h:iu n i=some j):seqIndex? i n=some j/\j<n/\-(n:Int)<=i/\i<n:=by
 unfold iu at h;by_cases h0:0<=i
 ·rw[Zp h0]at h;by_cases h1:i<n
  ·rw[Zp h1]at h;have e:i.toNat=j:=Option.some.inj h;exact⟨by rw[seqIndex_of h0 h1,e],qe,qe,h1⟩
  ·rw[Zq h1]at h;cases h
 ·rw[Zq h0]at h;by_cases h1:-(n:Int)<=i
  ·rw[Zp h1]at h;have e:(i+n).toNat=j:=Option.some.inj h;exact⟨by rw[seqIndex_neg qe h1,e],qe,h1,qe⟩
  ·rw[Zq h1]at h;cases h
theorem JQ {α:Type}{xs:List α}{i:Int}{v:α} (h:gM xs i=some v):∃j,seqIndex? i xs.length=some j/\xs[j]?=some v/\j<xs.length/\-(xs.length:Int)<=i/\i<xs.length:=by
 unfold gM at h;cases e:iu xs.length i with
 |none=>rw[e]at h;cases h
 |some j =>
  rw[e]at h;obtain⟨h1,h2,h3,h4⟩:=NQ e;exact⟨j,h1,h,h2,h3,h4⟩
theorem BN {α:Type}{xs:List α}{j:Nat}{v:α} (h:xs[j]?=some v):gM xs (j:Int)=some v:=by
 have hj:j<xs.length:=(Z8.mp h).1
 have e:iu xs.length (j:Int)=some j:=by
  unfold iu;rw[Zp qe,Zp qe];simp
 unfold gM;rw[e];exact h
def NR (b:Expr):Prop:=∀o i,subscripted b false o i=operate [o,i] (getItem o i)
def IxR (X:Cx) (r:R2):Prop :=
 ∀(value slice:Expr) (aa:LO) (s:Xe) (σ:St) (H:Hp) (x y:V) (v u:Value) (Q:VK),Inv X aa σ H s->RelV x v->RelV y u->r x y H Q ->
  subscripted slice false v u=operate [v,u] (getItem v u)->wpAny (model X.prog X.w) X.A (subscriptTail value slice v u) (EP X aa σ Q) X.xe s
def MtR (X:Cx) (id:String) (r:V->Xc->Hp->VK->Prop):Prop :=
 ∀(aa:LO) (s:Xe) (σ:St) (H:Hp) (x:V) (xs:Xc) (v:Value) (us:Xb) (Q:VK),Inv X aa σ H s->RelV x v->Vals xs us->r x xs H Q ->
  wpAny (model X.prog X.w) X.A (call (.builtin id) (v::us)) (EP X aa σ Q) X.xe s
section
variable {a b:Expr}{ta tb:TE}
theorem BG {r:R2} (hr:IxR X r) (ha:PE X a ta) (hb:PE X b tb) (hs:NR b):PE X (.Subscript a b pos) (iZ r ta tb):=by
 intro aa s σ H Q I h;exact Subscript_ (Ty ha hb I h λv u s2 x y H2 I2 rx ry q=>hr a b aa s2 σ H2 x y v u Q I2 rx ry q (hs _ _))
inductive ExrIxL (K:FG) (x y:V) (H:Hp) (k:V->Prop):Prop where
 |mk (p:Xd) (xs:Xc) (i:Int) (v:V) (h1:x=.ref p) (h2:y=.int i) (h3:aK K H p xs) (h4:gM xs i=some v) (q:k v):ExrIxL K x y H k
def VI (K:FG):R2:=λx y H Q=>ExrIxL K x y H λv=>Q v H
inductive ExrIxT (K:FG) (x y:V) (H:Hp) (k:V->Prop):Prop where
 |mk (p:Xd) (xs:Xc) (i:Int) (v:V) (h1:x=.ref p) (h2:y=.int i) (h3:aQ K H p xs) (h4:gM xs i=some v) (q:k v):ExrIxT K x y H k
def T7 (K:FG):R2:=λx y H Q=>ExrIxT K x y H λv=>Q v H
def WU:R2:=λx y H Q=>∃z i c,x=.str z/\y=.int i/\z.length<=sizeLine/\gM z.cps.toList i=some c/\Q (.str ⟨#[c]⟩) H
theorem Rv:IxR X (VI X.K):=by
 intro value slice aa s σ H x y v u Q I rx ry h hs;obtain⟨p,xs,i,z,rfl,rfl,hq,he,q⟩:=h;cases rx;obtain⟨t,rfl⟩:=ry;obtain⟨its,r,pl,hz⟩:=I.list hq;obtain⟨j,h1,h2,h3,h4,h5⟩:=JQ he;obtain⟨w,ew,gN⟩:=r.get h2;have hl:=r.length;have hn:=Fi;have fin:EP X aa σ Q w s:=⟨z,H,I,gN,q⟩;by_cases h0:0<=i
 ·have hj:i.toNat=j:=by
   rw[seqIndex_of h0 h5]at h1;exact Option.some.inj h1
  exact item_listR pl.isList h0 qe (by rw[hj];simpa using ew) fin hs
 ·have hj:(i+(its.toArray.size:Int)).toNat=j:=by
   rw[seqIndex_neg qe h4]at h1;rw[size_toArray,←hl];exact Option.some.inj h1
  exact subscriptTail_builtinR (x:=w) pl.isList.typeIs slot_list_getitem.lookup
   (wpAny_getItem_list_neg (Q:=λr s'=>r=w/\EP X aa σ Q r s') pl.isList qe (by rw[size_toArray] <;> omega) qe (by rw[hj];simpa using ew) ⟨rfl,fin⟩) hs
theorem T8:IxR X (T7 X.K):=by
 intro value slice aa s σ H x y v u Q I rx ry h hs;obtain⟨p,xs,i,z,rfl,rfl,hq,he,q⟩:=h;cases rx;obtain⟨t,rfl⟩:=ry;obtain⟨its,r,pl,hz⟩:=I.tuple hq;obtain⟨j,h1,h2,h3,h4,h5⟩:=JQ he;obtain⟨w,ew,gN⟩:=r.get h2;have hl:=r.length;have hn:=Fi;have fin:EP X aa σ Q w s:=⟨z,H,I,gN,q⟩
 exact subscriptTail_builtinR (x:=w) pl.typeIs slot_tuple_getitem.lookup
  (getItem_tuple (j:=j) (Q:=λr s'=>r=w/\EP X aa σ Q r s') pl qe qe (by rw[size_toArray,←hl];exact h1) (by simpa using ew) ⟨rfl,fin⟩) hs
theorem JR:IxR X WU:=by
 intro value slice aa s σ H x y v u Q I rx ry h hs;obtain⟨z,i,c,rfl,rfl,hz,he,q⟩:=h;obtain⟨t,rfl⟩:=rx;obtain⟨t',rfl⟩:=ry;obtain⟨j,h1,h2,h3,h4,h5⟩:=JQ he;have hl:z.cps.toList.length=z.length:=by simp[Str.length]
 rw[hl]at h1 h4 h5;have hn:=Fi
 exact tail_any (typeIs_str s z t) slot_str_getitem.lookup (getItem_str (c:=c) (by
  have e1:decide (i < -(2 ^ 63:Int))=false:=ZO qe;have e2:decide (i ≥ 2 ^ 63)=false:=ZO qe
  rw[e1,e2,Bool.or_false]) (by rw[h1];simpa using h2) ⟨.str ⟨#[c]⟩,H,I.tok _,⟨_,rfl⟩,q⟩) hs
theorem Ls (its:Xb) (n j:Nat) (u:Value):Obj.mapSeq (·.setIfInBounds j u) { cls:=.type "list", data:=.seq its.toArray n }={ cls:=.type "list", data:=.seq (its.set j u).toArray n }:=by
 simp[Obj.mapSeq]
theorem Inv.lst {aa:LO}{σ:St}{H:Hp}{s:Xe}{p:Xd}{xs:Xc} (I:Inv X aa σ H s) (h:H p=some (.lst xs)) :
  ∃(its:Xb) (n:Nat),Vals xs its/\s.heap.get? p=some { cls:=.type "list", data:=.seq its.toArray n }/\xs.length<=sizeLine:=by
 obtain⟨z,its,n,r,e⟩:=I.aE p _ h;exact⟨its,n,r,e,z⟩
theorem Inv.lstUpd {p:Xd}{ys:Xc}{its its':Xb}{n n':Nat}{f:Obj->Obj} (I:Inv X aa σ H s) (h:H p=some (.lst xs))
  (ho:s.heap.get? p=some { cls:=.type "list", data:=.seq its.toArray n }) (hf:f { cls:=.type "list", data:=.seq its.toArray n }={ cls:=.type "list", data:=.seq its'.toArray n' }) (r:Vals ys its') (hz:ys.length<=sizeLine) (t:Nat) :
  Inv X aa σ (upd H p (.lst ys)) { s with heap:=s.heap.update p f,toks:=t }:=by
 have e:(s.heap.update p f).get? p=some { cls:=.type "list", data:=.seq its'.toArray n' }:=by
  rw[ZU f ho (by rw[hf] <;> rfl),hf]
 refine I.write (x:=p) (e:=p) (by rw[h];trivial) (.inl Zj) (λb u hb q=>(ZW _ _ (Ne.symm hb)).trans q) ⟨_,e⟩ ?_;exact⟨hz,its',n',r,e⟩
def VJ:V->V->V->Hp->(Hp->Prop)->Prop:=λo i v H Q=>∃p xs k j,o=.ref p/\i=.int k/\H p=some (.lst xs)/\iu xs.length k=some j/\Q (upd H p (.lst (xs.set j v)))
theorem E7:VA X VJ:=by
 intro aa s σ H o i v ov iv u Q I ro ri rv h;obtain⟨p,xs,k,j,rfl,rfl,hp,hj,q⟩:=h;cases ro;obtain⟨t,rfl⟩:=ri;obtain⟨its,n,r,ho,hz⟩:=I.lst hp;obtain⟨h1,h2,h3,h4⟩:=NQ hj;have hl:=r.length;have hn:=Fi
 have I':Inv X aa σ (upd H p (.lst (xs.set j v))) { s with heap:=s.heap.update p (Obj.mapSeq (·.setIfInBounds j u)) } :=
  I.lstUpd hp ho (Ls its n j u) (r.set rv j) (by rw[List.length_set];exact hz) s.toks
 by_cases h0:0<=k
 ·have hk:k.toNat=j:=by
   rw[seqIndex_of h0 h4]at h1;exact Option.some.inj h1
  exact W.ki_setAt ho h0 qe (by rw[size_toArray,←hl];exact h4) (by rw[hk];exact⟨_,I',q⟩)
 ·have hk:(k+(its.toArray.size:Int)).toNat=j:=by
   rw[seqIndex_neg qe h3]at h1;rw[size_toArray,←hl];exact Option.some.inj h1
  exact W.ki_setBack ho qe (by rw[size_toArray,←hl];exact h3) qe (by rw[hk];exact⟨_,I',q⟩)
noncomputable def E8:V->Bool
 | .aP=>true
 | .bl _=>true
 | .int _=>true
 | .str _=>true
 |_=>false
noncomputable def i9:V->V->Bool
 | .aP,.aP=>true
 | .bl a,.bl b=>a==b
 | .bl a,.int b=>(if a then 1 else 0)==b
 | .int a,.bl b=>a==(if b then 1 else 0)
 | .int a,.int b=>a==b
 | .str a,.str b=>a==b
 |_,_=>false
theorem T9 {y x:V}{v:Value} (ry:RelV y u) (rx:RelV x v) (fy:E8 y=true) (fx:E8 x=true):SeqAt.EqAt A s u v (i9 y x):=by
 cases y with
 |aP =>
  cases ry;cases x with
  |aP=>cases rx;exact SeqAt.EqAt.same _
  |bl b=>cases rx;exact SeqAt.EqAt.none_bool b
  |int b=>obtain⟨t,rfl⟩:=rx;exact SeqAt.EqAt.none_int b t
  |str b=>obtain⟨t,rfl⟩:=rx;exact SeqAt.EqAt.none_str b t
  |_=>exact absurd (show false=true from fx) Bool.false_ne_true
 |bl a =>
  cases ry;cases x with
  |aP=>cases rx;exact SeqAt.EqAt.bool_none a
  |bl b=>cases rx;exact SeqAt.EqAt.bool_bool a b
  |int b=>obtain⟨t,rfl⟩:=rx;exact SeqAt.EqAt.bool_int a b t
  |str b=>obtain⟨t,rfl⟩:=rx;exact SeqAt.EqAt.bool_str a b t
  |_=>exact absurd (show false=true from fx) Bool.false_ne_true
 |int a =>
  obtain⟨t',rfl⟩:=ry;cases x with
  |aP=>cases rx;exact SeqAt.EqAt.int_none a t'
  |bl b=>cases rx;exact SeqAt.EqAt.int_bool a t' b
  |int b=>obtain⟨t,rfl⟩:=rx;exact SeqAt.EqAt.int_int a t' b t
  |str b=>obtain⟨t,rfl⟩:=rx;exact SeqAt.EqAt.int_str a t' b t
  |_=>exact absurd (show false=true from fx) Bool.false_ne_true
 |str a =>
  obtain⟨t',rfl⟩:=ry;cases x with
  |aP=>cases rx;exact SeqAt.EqAt.str_none a t'
  |bl b=>cases rx;exact SeqAt.EqAt.str_bool a t' b
  |int b=>obtain⟨t,rfl⟩:=rx;exact SeqAt.EqAt.str_int a t' b t
  |str b=>obtain⟨t,rfl⟩:=rx;exact SeqAt.EqAt.str_str a t' b t
  |_=>exact absurd (show false=true from fx) Bool.false_ne_true
 |_=>exact absurd (show false=true from fy) Bool.false_ne_true
noncomputable def g7 (x:V) (u:Value):Bool:=match u with
 | .none=>i9 .aP x
 | .bool b=>i9 (.bl b) x
 | .int i _=>i9 (.int i) x
 | .str z _=>i9 (.str z) x
 |_=>false
theorem Py {x y:V} (r:RelV y u) (f:E8 y=true):g7 x u=i9 y x:=by
 cases y with
 |aP=>cases r;rfl
 |bl b=>cases r;rfl
 |int i=>obtain⟨t,rfl⟩:=r;rfl
 |str z=>obtain⟨t,rfl⟩:=r;rfl
 |_=>exact absurd (show false=true from f) Bool.false_ne_true
theorem E9 {x:V}:∀ {xs:Xc}{us:Xb},Vals xs us->xs.all E8=true->us.any (g7 x)=xs.any λy=>i9 y x
 |_,_,.nil,_=>rfl
 |y::xs,u::us,.cons r t,f=>by
  rw[List.all_cons,Bool.and_eq_true]at f;rw[any_cons,any_cons,Py r f.1,E9 t f.2]
theorem Dr {A:Around}{s:Xe}{x:V}{v:Value} (rx:RelV x v) (fx:E8 x=true):∀ {xs:Xc}{us:Xb},Vals xs us->xs.all E8=true->∀u∈us,SeqAt.EqAt A s u v (g7 x u)
 |_,_,.nil,_=>λu hu=>by cases hu
 |y::xs,u::us,.cons r t,f=>λu' hu=>by
  rw[List.all_cons,Bool.and_eq_true]at f;rcases mem_cons.mp hu with rfl |hu
  ·rw[Py r f.1];exact T9 r rx f.1 fx
  ·exact Dr rx fx t f.2 u' hu
noncomputable def dY (x:V) (xs:Xc):Bool:=xs.any λy=>i9 y x
def rIn (K:FG) (neg:Bool):R2:=λx y H Q=>∃p xs,y=.ref p/\(aK K H p xs\/aQ K H p xs)/\E8 x=true/\xs.all E8=true/\Q (.bl (if neg then !dY x xs else dY x xs)) H
theorem DB:dc X (compareOp .In) (rIn X.K false):=by
 intro aa s σ H x y v u Q I rx ry h;obtain⟨p,xs,rfl,hq,fx,fs,q⟩:=h;cases ry;rcases hq with hq |hq
 ·obtain⟨its,r,pl,hz⟩:=I.list hq;refine SeqAt.in_listAt (g7 x) pl.isList (λw hw=>Dr rx fx r fs w (by simpa using hw)) ⟨.bl _,H,I,Zj,?_⟩;rw[show its.toArray.any (g7 x)=its.any (g7 x) by simp,E9 r fs];exact q
 ·obtain⟨its,r,pl,hz⟩:=I.tuple hq;refine SeqAt.in_tupleAt (g7 x) pl (λw hw=>Dr rx fx r fs w (by simpa using hw)) ⟨.bl _,H,I,Zj,?_⟩;rw[show its.toArray.any (g7 x)=its.any (g7 x) by simp,E9 r fs];exact q
theorem JS:dc X (compareOp .NotIn) (rIn X.K true):=by
 intro aa s σ H x y v u Q I rx ry h;obtain⟨p,xs,rfl,hq,fx,fs,q⟩:=h;cases ry;rcases hq with hq |hq
 ·obtain⟨its,r,pl,hz⟩:=I.list hq;refine SeqAt.notIn_listAt (g7 x) pl.isList (λw hw=>Dr rx fx r fs w (by simpa using hw)) ⟨.bl _,H,I,Zj,?_⟩;rw[show its.toArray.any (g7 x)=its.any (g7 x) by simp,E9 r fs];exact q
 ·obtain⟨its,r,pl,hz⟩:=I.tuple hq;refine SeqAt.notIn_tupleAt (g7 x) pl (λw hw=>Dr rx fx r fs w (by simpa using hw)) ⟨.bl _,H,I,Zj,?_⟩;rw[show its.toArray.any (g7 x)=its.any (g7 x) by simp,E9 r fs];exact q
theorem FA:aZ X (.builtin "len") (λxs H Q=>∃p ys,xs=[.ref p]/\(aK X.K H p ys\/aQ X.K H p ys)/\Q (.int ys.length) H):=by
 intro aa s σ H xs us Q I r h;obtain⟨p,ys,rfl,hq,q⟩:=h;obtain⟨u,rfl,rx⟩:=Bt r;cases rx;have hn:=Fi;rcases hq with hq |hq
 ·obtain⟨its,r',pl,hz⟩:=I.list hq;have a0:=r'.length;exact Calls.call_len_list pl.isList (by simp only[size_toArray] <;> omega) ⟨.int ys.length,H,I.tok _,⟨s.toks+1,by rw[size_toArray,a0]⟩,q⟩
 ·obtain⟨its,r',pl,hz⟩:=I.tuple hq;have a0:=r'.length;exact len_tuple pl (by simp only[size_toArray] <;> omega) ⟨.int ys.length,H,I.tok _,⟨s.toks+1,by rw[size_toArray,a0]⟩,q⟩
theorem Az:aZ X (.builtin "len") (λxs H Q=>∃z,xs=[.str z]/\z.length<=sizeLine/\Q (.int z.length) H):=by
 intro aa s σ H xs us Q I r h;obtain⟨z,rfl,hz,q⟩:=h;obtain⟨u,rfl,t,rfl⟩:=Bt r;have hn:=Fi;exact len_str qe ⟨.int z.length,H,I.tok _,⟨_,Zj⟩,q⟩
theorem aZ.or {f:Value}{r r':Xc->Hp->VK->Prop} (h:aZ X f r) (h':aZ X f r'):aZ X f (λxs H Q=>r xs H Q\/r' xs H Q):=by
 intro aa s σ H xs us Q I rs q;rcases q with q |q
 ·exact h aa s σ H xs us Q I rs q
 ·exact h' aa s σ H xs us Q I rs q
theorem ID:aZ X (.type "tuple") (λxs H Q=>∃p ys,xs=[.ref p]/\((aK X.K H p ys/\∀l,H l=none->Q (.ref l) (upd H l (.tup ys)))\/(aQ X.K H p ys/\Q (.ref p) H))):=by
 intro aa s σ H xs us Q I r h;obtain⟨p,ys,rfl,h⟩:=h;obtain⟨u,rfl,rx⟩:=Bt r;cases rx;rcases h with⟨hq,q⟩ |⟨hq,q⟩
 ·obtain⟨its,r',pl,hz⟩:=I.list hq;have a0:=r'.length;refine call_tuple_list pl.isList (λh' kp=>?_) (by simp only[size_toArray] <;> omega);have I1:Inv X aa σ H { s with heap:=h' }:=I.kept (t':=s.toks) kp
  have I2:Inv X aa σ (upd H h'.objs.size (.tup ys)) { s with heap:=h'.push { cls:=.type "tuple", data:=.seq its.toArray } } :=
   I1.laid (t':=s.toks) (λb o e=>ZX _ e) (Zy _) (show aS X.prog X.w _ _ _ (.tup ys)from⟨hz,its,r',IsTup.new _ _⟩)
  exact⟨.ref h'.objs.size,_,I2,Zj,q _ (I1.aE.fresh (Zy _))⟩
 ·obtain⟨its,r',pl,hz⟩:=I.tuple hq;exact call_tuple_same pl ⟨.ref p,H,I,Zj,q⟩
def tyV (K:FG) (T:String) (x:V) (H:Hp):Prop:=match x with
 | .str _=>T = "str"
 | .int _=>T = "int"
 | .ref p=>(T = "list" /\ ∃xs,aK K H p xs)\/(T = "tuple" /\ ∃o,K.lookup p=some o/\o.cls=.type "tuple" /\ o.dict=none) \/
   (T = "dict" /\ ((∃kvs,H p=some (.dK kvs))\/∃kvs,H p=some (.dT kvs)))\/(T = "set" /\ ∃S n,H p=some (.set S n))
 |_=>False
theorem Pz {T:String}{x:V}{v:Value} (I:Inv X aa σ H s) (r:RelV x v) (ty:tyV X.K T x H) :
  s.TypeIs v T/\∀a,v=.ref a->∃ob,s.heap.get? a=some ob/\ob.dict=none:=by
 cases x with
 |str z =>
  obtain⟨t,rfl⟩:=r;cases (show T = "str" from ty);exact⟨typeIs_str s z t,λ_ e=>nomatch e⟩
 |int i =>
  obtain⟨t,rfl⟩:=r;cases (show T = "int" from ty);exact⟨typeIs_int s i t,λ_ e=>nomatch e⟩
 |ref p =>
  cases r;rcases ty with⟨rfl,xs,hq⟩ |⟨rfl,o,hk,hc,hd⟩ |⟨rfl,hk⟩ |⟨rfl,S,n,hk⟩
  ·obtain⟨its,_,pl,_⟩:=I.list hq;refine⟨pl.isList.typeIs,λa e=>?_⟩;cases e;obtain⟨o,n,e,c,hd,_⟩:=pl;exact⟨o,e,hd⟩
  ·refine⟨⟨o,I.cY p o hk,hc⟩,λa e=>?_⟩;cases e;exact⟨o,I.cY _ o hk,hd⟩
  ·have z:∃o,s.heap.get? p=some o/\o.ExactDict:=by
    rcases hk with⟨kvs,hk⟩ |⟨kvs,hk⟩
    ·obtain⟨_,_,_,_,o,_,_,e,ex,_⟩:=I.aE p _ hk;exact⟨o,e,ex⟩
    ·obtain⟨_,_,_,_,o,_,_,e,ex,_⟩:=I.aE p _ hk;exact⟨o,e,ex⟩
   obtain⟨o,e,ex⟩:=z;refine⟨⟨o,e,ex.1⟩,λa e2=>?_⟩;cases e2;exact⟨o,e,ex.2.1⟩
  ·obtain⟨o,_,_,_,e,ex,_⟩:=I.aE p _ hk;refine⟨⟨o,e,ex.1⟩,λa e2=>?_⟩;cases e2;exact⟨o,e,ex.2.1⟩
 |_=>exact False.elim ty
def WV (K:FG) (T:String) (r:V->Xc->Hp->VK->Prop) (to:TE):TE:=λσ H Q=>to σ H λx H1=>tyV K T x H1/\r x [] H1 Q
def tBM (K:FG) (T:String) (r:V->Xc->Hp->VK->Prop) (to:TE) (t:TA):TE:=λσ H Q=>to σ H λx H1=>tyV K T x H1/\t σ H1 λxs H2=>r x xs H2 Q
variable {o:Expr}{es:List Expr}{to:TE}{t:TA}{name:Str}{apos d0:Pos}{T id:String}{r:V->Xc->Hp->VK->Prop}
theorem Gx (pa:PlainAttrs T) (slot:Slot T name id) (hty:typeOf (.builtin id)=pure (.type "method_descriptor")) (hm:MtR X id r) (ho:PE X o to)
  (bq:attributeBase o name X.env (eval o X.env)=eval o X.env:=by rfl) (bw:(apos.endLine==d0.line)=true:=by rfl):PE X (.Call (.Attribute o name apos) [] [] d0) (WV X.K T r to):=by
 intro aa s σ H Q I h;refine wpAny_Call_method0_late bq bw (aF (ho aa s σ H _ I h) λv s1 ⟨x,H1,I1,r1,ty,q1⟩=>?_);obtain⟨h1,h2⟩:=Pz I1 r1 ty;exact⟨T,id,pa,slot,hty,h1,h2,Calls.callWith_builtin Zj (PySem.evalArgs_none (hm aa s1 σ H1 x [] v [] Q I1 r1 .nil q1))⟩
theorem FB (pa:PlainAttrs T) (slot:Slot T name id) (hty:typeOf (.builtin id)=pure (.type "method_descriptor")) (hm:MtR X id r) (ho:PE X o to) (ha:PA X (e::es) t)
  (bq:attributeBase o name X.env (eval o X.env)=eval o X.env:=by rfl)
  (hfew:((backTo d0 (starEach (e::es) X.env)).all (λx=>!x.1)&&(backToKw d0 (keywordEach [] X.env)).all (λx=>x.1.isSome)
   && decide ((e::es).length+([]:List Keyword).length+(if ([]:List Keyword).isEmpty then 0 else 1)<30))=true:=by rfl)
  (bw:(apos.endLine==d0.line)=true:=by rfl) (hs:starEach (e::es) X.env=(false,eval e X.env)::starEach es X.env:=by rfl) (hplain:(backTo d0 (starEach es X.env)).any (·.1)=false:=by rfl) :
  PE X (.Call (.Attribute o name apos) (e::es) [] d0) (tBM X.K T r to t):=by
 intro aa s σ H Q I h;refine wpAny_Call_method_late bq hfew bw Zj (aF (ho aa s σ H _ I h) λv s1 ⟨x,H1,I1,r1,ty,q1⟩=>?_);obtain⟨h1,h2⟩:=Pz I1 r1 ty;refine⟨T,id,pa,slot,hty,h1,h2,?_⟩;have hA:=ha d0 aa s1 σ H1 _ I1 q1;rw[hs]at hA ⊢;refine Calls.callWith_builtin (by show(false||(backTo d0 (starEach es X.env)).any (·.1))=false;rw[hplain] <;> rfl) (Calls.evalArgs_plain ?_);exact aF hA λus s2 ⟨vs,H2,I2,r2,q2⟩=>hm aa s2 σ H2 x vs v us Q I2 r1 r2 q2
end
def MtM (X:Cx) (id:String) (r:V->Xc->Hp->VK->Prop):Prop :=
 ∀(aa:LO) (s:Xe) (σ:St) (H:Hp) (x:V) (xs:Xc) (v:Value) (us:Xb) (Q:VK),Inv X aa σ H s->RelV x v->Vals xs us->r x xs H Q ->
  wpAny (model X.prog X.w) X.A (call (.builtin id) (v::us)) (EP X aa σ Q) X.xe s
theorem Vals.one:∀ {x:V}{us:Xb},Vals [x] us->∃u,us=[u]/\RelV x u
 |_,_,.cons r .nil=>⟨_,rfl,r⟩
theorem Vals.zero:∀ {us:Xb},Vals [] us->us=[]
 |_,.nil=>rfl
theorem Vals.dropLast {xs:Xc}{us:Xb} (h:Vals xs us):Vals xs.dropLast us.dropLast:=by
 induction h with
 |nil=>exact .nil
 |cons r t ih =>
  cases t with
  |nil=>exact .nil
  |cons q t'=>exact .cons r ih
theorem Lu {α:Type} (l:List α):l.eraseIdx (l.length - 1)=l.dropLast:=by
 induction l with
 |nil=>rfl
 |cons a r ih =>
  cases r with
  |nil=>rfl
  |cons b r =>
   have e:(a::b::r).length - 1=((b::r).length - 1)+1:=by
    have h1:(a::b::r).length=r.length+2:=rfl;have h2:(b::r).length=r.length+1:=rfl;omega
   rw[e,List.eraseIdx_cons_succ,ih]
   all_goals rfl
section
variable {l b:Xd}{ys zs:Xc}
theorem Inv.lset {its its':Xb}{n:Nat}{f:Array Value->Array Value}{t':Nat} (I:Inv X aa σ H s) (hH:H l=some (.lst xs))
  (e:s.heap.get? l=some { cls:=.type "list", data:=.seq its.toArray n }) (hf:f its.toArray=its'.toArray) (hv:Vals ys its') (hz:ys.length<=sizeLine) :
  Inv X aa σ (upd H l (.lst ys)) { s with heap:=s.heap.update l (Obj.mapSeq f),toks:=t' }:=by
 have q:=PySem.IsL.update e f;rw[hf]at q;refine I.write (x:=l) (e:=l) (by rw[hH];exact trivial) (.inl Zj) (λb' u hb hu=>(ZW s.heap (Obj.mapSeq f) (Ne.symm hb)).trans hu) ⟨_,q⟩ ?_;exact⟨hz,its',_,hv,q⟩
theorem Inv.lnew {its:Xb}{t':Nat} (I:Inv X aa σ H s) (hv:Vals ys its) (hz:ys.length<=sizeLine) :
  Inv X aa σ (upd H s.heap.objs.size (.lst ys)) { s with heap:=s.heap.push { cls:=.type "list", data:=.seq its.toArray },toks:=t' } :=
 I.laid (λ_ _ q=>ZX _ q) (Zy _) ⟨hz,its,0,hv,ZN _ rfl⟩
theorem Inv.fresh (I:Inv X aa σ H s):H s.heap.objs.size=none:=I.aE.fresh (Zy _)
theorem Inv.lstM (I:Inv X aa σ H s) (hH:H l=some (.lst xs)):xs.length<=sizeLine/\∃(its:Xb) (n:Nat),Vals xs its/\xs.length=its.length/\s.heap.get? l=some { cls:=.type "list", data:=.seq its.toArray n }:=by
 obtain⟨z,its,n,r,e⟩:=I.aE l _ hH;exact⟨z,its,n,r,r.length,e⟩
end
section
def Rw:V->Xc->Hp->VK->Prop:=λx vs H Q=>∃l xs y,x=.ref l/\vs=[y]/\H l=some (.lst xs)/\xs.length<sizeLine/\Q .aP (upd H l (.lst (xs++[y])))
theorem B8:MtM X "list.append" Rw:=by
 intro aa s σ H x vs v us Q I rx rv h;obtain⟨l,xs,y,rfl,rfl,hH,hz,q⟩:=h;cases rx;obtain⟨u,rfl,ru⟩:=rv.one;obtain⟨z,its,n,r,hl,e⟩:=I.lstM hH;refine call_meets F.slot_list_append ⟨_,e,Zj⟩ F.entry_list_append (F.args_list_append_2 _ _) (PySem.list_append l its.toArray n u (by rw[size_toArray];omega)) ⟨e,?_⟩;refine⟨.aP,_,I.lset (its':=its++[u]) hH e (by simp) (r.append (.cons ru .nil)) ?_,Zj,q⟩;rw[ZH,length_singleton];omega
def WW:V->Xc->Hp->VK->Prop:=λx vs H Q=>∃l xs y,x=.ref l/\vs=[]/\H l=some (.lst xs)/\xs[xs.length - 1]?=some y/\Q y (upd H l (.lst xs.dropLast))
theorem JT:MtM X "list.pop" WW:=by
 intro aa s σ H x vs v us Q I rx rv h;obtain⟨l,xs,y,rfl,rfl,hH,hy,q⟩:=h;cases rx;have hus:=rv.zero;subst hus;obtain⟨z,its,n,r,hl,e⟩:=I.lstM hH;obtain⟨u,hu,ru⟩:=r.get hy
 have hy':its.toArray[its.toArray.size - 1]?=some u:=by
  show its.toArray[its.length - 1]?=some u;rw[←Array.getElem?_toList,←hl];exact hu
 refine call_meets F.slot_list_pop ⟨_,e,Zj⟩ F.entry_list_pop (F.args_list_pop_1 _) (MeetsSeq.list_pop_last l its.toArray n u hy' (by rw[size_toArray];omega)) ⟨e,?_⟩;refine⟨y,_,I.lset (its':=its.dropLast) hH e ?_ r.dropLast ?_,ru,q⟩
 ·show its.toArray.eraseIdxIfInBounds (its.toArray.size - 1)=its.dropLast.toArray;rw[size_toArray,List.eraseIdxIfInBounds_toArray,Lu]
 ·rw[List.length_dropLast];omega
def WX:R2:=λx y H Q=>∃l b xs zs,x=.ref l/\y=.ref b/\H l=some (.lst xs)/\H b=some (.lst zs)/\xs.length+zs.length<=sizeLine/\∀p,H p=none->Q (.ref p) (upd H p (.lst (xs++zs)))
theorem Fl:dc X (binaryOp .Add) WX:=by
 intro aa s σ H x y v u Q I rx ry h;obtain⟨l,b,xs,zs,rfl,rfl,hH,hB,hz,q⟩:=h;cases rx;cases ry;obtain⟨z,its,n,r,hl,e⟩:=I.lstM hH;obtain⟨z2,its2,n2,r2,iy,e2⟩:=I.lstM hB;refine PySem.P.add_list e e2 ?_ (by rw[size_toArray,size_toArray];omega);have ea:its.toArray++its2.toArray=(its++its2).toArray:=by simp
 rw[ea];exact⟨.ref _,_,I.lnew (t':=s.toks) (r.append r2) (by rw[ZH];omega),Zj,q _ I.fresh⟩
end
section
variable {κ:Type} [DecidableEq κ]
noncomputable def Av (kvs:List (κ×V)) (k:κ):Option V:=(kvs.find? λkv=>decide (kv.1=k)).map (·.2)
noncomputable def B4 (kvs:List (κ×V)) (k:κ) (v:V):List (κ×V) :=
 if (kvs.any λkv=>decide (kv.1=k))=true then kvs.map (λkv=>if kv.1=k then (kv.1,v)else kv)else kvs++[(k,v)]
theorem DD {p:κ×V}{r:List (κ×V)}{k:κ} (e:p.1=k):Av (p::r) k=some p.2:=by simp[Av,find?_cons,e]
theorem DE {p:κ×V}{r:List (κ×V)}{k:κ} (e:¬ p.1=k):Av (p::r) k=Av r k:=by simp[Av,find?_cons,e]
theorem Gy (k:κ):∀kvs:List (κ×V),(kvs.any λkv=>decide (kv.1=k))=(Av kvs k).isSome
 | []=>rfl
 |p::r=>by
  rw[any_cons];by_cases e:p.1=k
  ·simp only[DD e,ZL e,Bool.true_or,Option.isSome_some]
  ·rw[DE e,ZO e,Bool.false_or];exact Gy k r
theorem Cl (kvs:List (κ×V)) (k:κ) (v:V):(B4 kvs k v).length<=kvs.length+1:=by
 unfold B4;split
 ·rw[AJ];omega
 ·rw[ZH,length_cons,length_nil];omega
theorem Gz {kvs:List (κ×V)}{k:κ} (v:V) (h:Av kvs k=none):B4 kvs k v=kvs++[(k,v)]:=by
 unfold B4;rw[Gy,h];exact Zq qc
theorem d8.isSome_eq {o:Option V}{u:Option Value} (r:d8 o u):o.isSome=u.isSome:=by
 cases o with
 |none=>cases u with
  |none=>rfl
  |some _=>exact(show False from r).elim
 |some _=>cases u with
  |none=>exact(show False from r).elim
  |some _=>rfl
theorem KV.val {kvs:List (κ×V)}{vs:List (κ×Value)} (r:KV kvs vs) (k:κ):d8 (Av kvs k) (valueAt vs k):=by
 unfold KV at r;induction r with
 |nil=>exact True.intro
 | @cons p q ps qs h t ih =>
  obtain⟨h1,h2⟩:=h;by_cases e:p.1=k
  ·have e':q.1=k:=h1.symm.trans e;have b:valueAt (q::qs) k=some q.2:=by simp[valueAt,find?_cons,e']
   rw[DD e,b];exact h2
  ·have e':¬ q.1=k:=λz=>e (h1.trans z);have b:valueAt (q::qs) k=valueAt qs k:=by simp[valueAt,find?_cons,e']
   rw[DE e,b];exact ih
theorem KV.any {kvs:List (κ×V)}{vs:List (κ×Value)} (r:KV kvs vs) (k:κ):(kvs.any λkv=>decide (kv.1=k))=vs.any λkv=>decide (kv.1=k):=by
 unfold KV at r;induction r with
 |nil=>rfl
 |cons h t ih=>rw[any_cons,any_cons,ih,h.1]
theorem KV.repl {kvs:List (κ×V)}{vs:List (κ×Value)} (r:KV kvs vs) (k:κ) {y:V} (ry:RelV y u) :
  KV (kvs.map λkv=>if kv.1=k then (kv.1,y)else kv) (vs.map λkv=>if kv.1=k then (kv.1,u)else kv):=by
 unfold KV at r ⊢;induction r with
 |nil=>exact .nil
 | @cons p q ps qs h t ih =>
  rw[map_cons,map_cons];refine .cons ?_ ih;obtain⟨h1,h2⟩:=h;by_cases e:p.1=k
  ·rw[Zp e,Zp (h1.symm.trans e)];exact⟨h1,ry⟩
  ·rw[Zq e,Zq (λz=>e (h1.trans z))];exact⟨h1,h2⟩
theorem KV.put {kvs:List (κ×V)}{vs:List (κ×Value)} (r:KV kvs vs) (k:κ) {y:V} (ry:RelV y u):KV (B4 kvs k y) (stored vs k u):=by
 unfold B4 stored;rw[r.any k];by_cases e:(vs.any λkv=>decide (kv.1=k))=true
 ·rw[Zp e,Zp e];exact r.repl k ry
 ·rw[Zq e,Zq e];exact Paired.snoc r ⟨Zj,ry⟩
theorem KV.length {kvs:List (κ×V)}{vs:List (κ×Value)} (r:KV kvs vs):kvs.length=vs.length:=Paired.length r
end
theorem FC {k:Key} (r:RelV (kV k) u):(AU P w).is k u=true:=by
 cases k with
 |inl i=>obtain⟨t,e⟩:=(show ∃t,u=Value.int i t from r);subst e;exact J9 P w i t
 |inr x=>obtain⟨t,e⟩:=(show ∃t,u=Value.str x t from r);subst e;exact Dm P w x t
theorem Ih {P:Program}{w:World}:∀ {ks:List Key}{us:Xb},Vals (ks.map kV) us->ItemsAre (AU P w) ks us
 | [],_,r=>by rw[map_nil]at r;cases r;exact .nil
 |k::ks,_,r=>by
  rw[map_cons]at r;cases r with
  |cons h t=>exact .cons (FC h) (Ih t)
abbrev KT (H:Hp):List (List Key×V)->List (List Key×Xd×Value)->Prop:=Paired λp q=>p.1=q.1/\H q.2.1=some (.tup (p.1.map kV))/\RelV p.2 q.2.2
theorem KT.val {kvs:List (List Key×V)}{xs:List (List Key×Xd×Value)} (r:KT H kvs xs) (k:List Key):d8 (Av kvs k) ((atKey xs k).map (·.2)):=by
 induction r with
 |nil=>exact True.intro
 | @cons p q ps qs h t ih =>
  obtain⟨h1,_,h2⟩:=h;by_cases e:p.1=k
  ·have e':q.1=k:=h1.symm.trans e;have b:atKey (q::qs) k=some q.2:=by simp[atKey,find?_cons,e']
   rw[DD e,b];exact h2
  ·have e':¬ q.1=k:=λz=>e (h1.trans z);have b:atKey (q::qs) k=atKey qs k:=by simp[atKey,find?_cons,e']
   rw[DE e,b];exact ih
theorem KT.repl {kvs:List (List Key×V)}{xs:List (List Key×Xd×Value)} (r:KT H kvs xs) (k:List Key) {y:V} (ry:RelV y u) :
  KT H (kvs.map λkv=>if kv.1=k then (kv.1,y)else kv) (xs.map (putAt k u)):=by
 induction r with
 |nil=>exact .nil
 | @cons p q ps qs h t ih =>
  rw[map_cons,map_cons];refine .cons ?_ ih;obtain⟨h1,h2,h3⟩:=h;unfold putAt;by_cases e:p.1=k
  ·rw[Zp e,Zp (h1.symm.trans e)];exact⟨h1,h2,ry⟩
  ·rw[Zq e,Zq (λz=>e (h1.trans z))];exact⟨h1,h2,h3⟩
theorem KT.put {kvs:List (List Key×V)}{xs:List (List Key×Xd×Value)} (r:KT H kvs xs) (k:List Key) {b:Xd}{y:V} (hb:H b=some (.tup (k.map kV))) (ry:RelV y u) :
  KT H (B4 kvs k y) (storedH xs k b u):=by
 have e:(kvs.any λkv=>decide (kv.1=k))=(atKey xs k).isSome:=by
  rw[Gy,(r.val k).isSome_eq,Option.isSome_map]
 unfold B4 storedH;rw[e];by_cases q:(atKey xs k).isSome=true
 ·rw[Zp q,Zp q];exact r.repl k ry
 ·rw[Zq q,Zq q];exact Paired.snoc r ⟨Zj,hb,ry⟩
theorem KT.keeps {kvs:List (List Key×V)}{xs:List (List Key×Xd×Value)} (r:KT H kvs xs) (ht:∀b ys,H b=some (.tup ys)->H' b=some (.tup ys)):KT H' kvs xs :=
 Paired.mapP r λ_ _ z=>⟨z.1,ht _ _ z.2.1,z.2.2⟩
section
theorem TR {u:HO} (ok:dq P w H h) (e:Rd H a u):aS P w H h a u:=e.ok ok
theorem Ds {kvs:LK} (ok:dq P w H h) (e:Rd H a (.dK kvs)):kvs.length<=sizeLine/\(a==sysModules)=false/\∃vs,KV kvs vs/\h.DictOf (AU P w) a vs :=
 show aS P w H h a (.dK kvs)from TR ok e
theorem P1 {kvs:LK} (ok:dq P w H h) (e:H a=some (.dK kvs)):kvs.length<=sizeLine/\(a==sysModules)=false/\∃vs,KV kvs vs/\h.DictOf (AU P w) a vs:=Ds ok (.inl e)
theorem G3 {ks:List Key} (ok:dq P w H h) (e:H a=some (.tup (ks.map kV))):(tupleKind (AU P w)).is h ks a:=by
 obtain⟨_,its,r,o,h1,h2,n,h3⟩:=(show aS P w H h a (.tup (ks.map kV))from ok a _ e);exact⟨o,its.toArray,n,h1,h2,h3,by simpa using Ih r⟩
theorem Ii {kvs:List (List Key×V)} (ok:dq P w H h) (e:Rd H a (.dT kvs)):kvs.length<=sizeLine/\(a==sysModules)=false /\
  ∃xs,KT H kvs xs/\h.DictOfH (tupleKind (AU P w)) a xs:=by
 obtain⟨z,y,xs,r,o,es,ep,h1,h2,h3,h4,h5⟩:=(show aS P w H h a (.dT kvs)from TR ok e);refine⟨z,y,xs,r,o,es,ep,h1,h2,h3,h4,λx hx=>?_,h5⟩
 have all:∀ {l:List (List Key×V)}{m:List (List Key×Xd×Value)},KT H l m->∀x∈m,(tupleKind (AU P w)).is h x.1 x.2.1:=by
  intro l m q;induction q with
  |nil=>intro x hx;exact nomatch hx
  | @cons p q ps qs hq t ih =>
   intro x hx;rcases mem_cons.mp hx with e |hx
   ·subst e;exact G3 ok (by rw[←hq.1];exact hq.2.1)
   ·exact ih x hx
 exact all r x hx
theorem VL {kvs:List (List Key×V)} (ok:dq P w H h) (e:H a=some (.dT kvs)):kvs.length<=sizeLine/\(a==sysModules)=false /\
  ∃xs,KT H kvs xs/\h.DictOfH (tupleKind (AU P w)) a xs:=Ii ok (.inl e)
end
def Lv (H:Hp) (a:Xd) (y:V) (r:Option V):Prop :=
 (∃kvs k,Rd H a (.dK kvs)/\y=kV k/\r=Av kvs k)\/∃kvs k b,Rd H a (.dT kvs)/\y=.ref b/\H b=some (.tup (k.map kV))/\r=Av kvs k
def DPut (H:Hp) (a:Xd) (y v:V) (H':Hp):Prop :=
 (∃kvs k,H a=some (.dK kvs)/\y=kV k/\kvs.length<sizeLine/\H'=upd H a (.dK (B4 kvs k v))) \/
 ∃kvs k b,H a=some (.dT kvs)/\y=.ref b/\H b=some (.tup (k.map kV))/\kvs.length<sizeLine/\H'=upd H a (.dT (B4 kvs k v))
theorem DPut.k {H:Hp}{a:Xd}{kvs:LK}{k:Key}{v:V} (e:H a=some (.dK kvs)) (hl:kvs.length<sizeLine):DPut H a (kV k) v (upd H a (.dK (B4 kvs k v))):=.inl ⟨kvs,k,e,rfl,hl,rfl⟩
section
variable {y v:V}{r:Value}{o:Option V}
theorem Inv.big (I:Inv X aa σ H s):sysModules<s.heap.objs.size:=by
 have h:mainGlobals<s.heap.objs.size:=(I.mod.glob.keeps I.bk).lt;exact Nat.lt_trans qc h
theorem OS {Q:VS} (hu:A.units+1<cLine) (I:Inv X aa σ H s) (g:Lv H a y (some v)) (ry:RelV y u) (h:∀w' s',Inv X aa σ H s'->RelV v w'->Q w' s') :
  wpAny (model X.prog X.w) A (getItem (.ref a) u) Q E s:=by
 rcases g with⟨kvs,k,e,ey,l⟩ |⟨kvs,k,b,e,ey,eb,l⟩
 ·subst ey;obtain⟨z,hd,vs,rel,dd⟩:=Ds I.aE e;obtain⟨w',hw,gN⟩:=d8.some_of (v:=v) (o:=valueAt vs k) (by rw[l];exact rel.val k);exact wpAny_getItem_of (FC ry) dd.mapOf hw (h w' _ (I.tok _) gN)
 ·subst ey;cases (show u=Value.ref b from ry);obtain⟨z,hd,xs,rel,dd⟩:=Ii I.aE e;obtain⟨w',hw,gN⟩:=d8.some_of (v:=v) (o:=(atKey xs k).map (·.2)) (by rw[l];exact rel.val k);obtain⟨p,hp,al⟩:=Z6.mp hw;refine wpAny_getItem_heap (tupleKind_room_in1 hu) (G3 I.aE eb) dd hp ?_;rw[al];exact h w' _ (I.tok _) gN
theorem WY {Q:VS} (hu:A.units+1<cLine) (I:Inv X aa σ H s) (g:Lv H a y o) (ry:RelV y u) (h:∀s',Inv X aa σ H s'->Q (.bool o.isSome) s') :
  wpAny (model X.prog X.w) A (compareOp .In u (.ref a)) Q E s:=by
 rcases g with⟨kvs,k,e,ey,l⟩ |⟨kvs,k,b,e,ey,eb,l⟩
 ·subst ey;obtain⟨z,hd,vs,rel,dd⟩:=Ds I.aE e;refine wpAny_in_of (FC ry) hd dd.mapOf ?_;rw[←(rel.val k).isSome_eq,←l];exact h _ (I.tok _)
 ·subst ey;cases (show u=Value.ref b from ry);obtain⟨z,hd,xs,rel,dd⟩:=Ii I.aE e;refine wpAny_in_heap (tupleKind_room_in1 hu) (G3 I.aE eb) hd dd ?_;have q:=(rel.val k).isSome_eq;rw[Option.isSome_map]at q;rw[←q,←l];exact h _ (I.tok _)
theorem Rx {Q:VS} (hu:A.units+1<cLine) (I:Inv X aa σ H s) (g:Lv H a y o) (ry:RelV y u) (h:∀s',Inv X aa σ H s'->Q (.bool (!o.isSome)) s') :
  wpAny (model X.prog X.w) A (compareOp .NotIn u (.ref a)) Q E s:=by
 rcases g with⟨kvs,k,e,ey,l⟩ |⟨kvs,k,b,e,ey,eb,l⟩
 ·subst ey;obtain⟨z,hd,vs,rel,dd⟩:=Ds I.aE e;refine wpAny_notIn_of (FC ry) hd dd.mapOf ?_;rw[←(rel.val k).isSome_eq,←l];exact h _ (I.tok _)
 ·subst ey;cases (show u=Value.ref b from ry);obtain⟨z,hd,xs,rel,dd⟩:=Ii I.aE e;refine wpAny_notIn_heap (tupleKind_room_in1 hu) (G3 I.aE eb) hd dd ?_;have q:=(rel.val k).isSome_eq;rw[Option.isSome_map]at q;rw[←q,←l];exact h _ (I.tok _)
theorem Gg {h':Heap}{t':Nat}{ob:HO} (I:Inv X aa σ H s) (mu:Mut (H a)) (hs:Heap.SameBut a s.heap h') (he:∃q,h'.get? a=some q) (new:aS X.prog X.w (upd H a ob) h' a ob) :
  Inv X aa σ (upd H a ob) { s with heap:=h',toks:=t' } :=
 I.write (x:=a) (e:=a) mu (.inl rfl) (λb q hb z=>(hs.2 b hb).trans z) he new
theorem JU {h':Heap}{kvs:LK}{vs:List (Key×Value)} (z:kvs.length<=sizeLine) (hd:(a==sysModules)=false) (rel:KV kvs vs) (dd:h'.DictOf (AU P w) a vs) :
  aS P w H' h' a (.dK kvs):=⟨z,hd,vs,rel,dd⟩
theorem OT {Q:Unit->Xe->Prop} (hu:A.units+1<cLine) (I:Inv X aa σ H s) (g:DPut H a y v H') (ry:RelV y u) (rv:RelV v r) (h:∀s',Inv X aa σ H' s'->Q () s') :
  wpAny (model X.prog X.w) A (setItem (.ref a) u r) Q E s:=by
 rcases g with⟨kvs,k,e,ey,l,eH⟩ |⟨kvs,k,b,e,ey,eb,l,eH⟩
 ·subst ey eH;obtain⟨z,hd,vs,rel,dd⟩:=P1 I.aE e;have hz:vs.length<=sizeLine:=by rw[←rel.length];exact z
  have hl:(B4 kvs k v).length<=sizeLine:=by have:=Cl kvs k v;omega
  refine wpAny_setItem_pairs (hsz:=hz) (FC ry) dd λh' gB hs=>h _ ?_;have he:∃q,h'.get? a=some q:=let ⟨q,_,_,hq,_⟩:=gB;⟨q,hq⟩
  exact Gg I (by rw[e];exact True.intro) hs he (JU hl hd (rel.put k rv) gB)
 ·subst ey eH;cases (show u=Value.ref b from ry);obtain⟨z,hd,xs,rel,dd⟩:=VL I.aE e;have hz:xs.length<=sizeLine:=by rw[←Paired.length rel];exact z
  have hl:(B4 kvs k v).length<=sizeLine:=by have:=Cl kvs k v;omega
  refine wpAny_setItem_heap (hsz:=hz) (tupleKind_room_in1 hu) (G3 I.aE eb) dd λh' gB hs=>h _ ?_;obtain⟨q,es,ep,hq,h2,h3,h4,_,h5⟩:=gB;refine Gg I (by rw[e];exact True.intro) hs ⟨q,hq⟩ ⟨hl,hd,_,(rel.put k eb rv).keeps λc ys ec=>?_,q,es,ep,hq,h2,h3,h4,h5⟩;rw[AH (NE ec e (λz=>nomatch z))];exact ec
end
def VM (i:Expr):Prop:=∀ov iv,subscripted i false ov iv=operate [ov,iv] (getItem ov iv)
theorem Ry {prog:Program}{env:Env}{value slice:Expr}{T id:String}{Q:VS}
  (hl:typeLookup (.type T) "__getitem__" = pure (some (.builtin id))) (hs:VM slice)
  (h:wpAny (model prog w) A (eval value env) (λo aH=>wpAny (model prog w) A (eval slice env) (λi s₂=>s₂.TypeIs o T/\wpAny (model prog w) A (getItem o i) Q E s₂) E aH) E s) :
  wpAny (model prog w) A (eval (.Subscript value slice pos) env) Q E s:=by
 refine Subscript_ (Zv h (λo aH dG=>Zv dG (λi s₂ h₂=>?_) λ_ _ x=>x) λ_ _ x=>x);obtain⟨hT,h₂⟩:=h₂;unfold subscriptTail;refine Zx ?_;rw[getitemInPython_of_ne hT.not_modules];refine Zx (wpAny_specialOf hT hl ?_)
 have fin:wpAny (model prog w) A (subscripted slice false o i) (λr s₃=>wpAny (model prog w) A (letTemporaryGo value o r >>= λ_=>pure r) Q E s₃) E s₂:=by
  rw[hs o i];exact wpAny_operating (Zv h₂ (λr s₃ h₃=>Zx (wpAny_letTemporaryGo (Zw h₃))) λ_ _ x=>x)
 first
  |exact Zw (Zx fin)
  |exact Zx (Zw (Zx fin))
  |exact Zx fin
theorem KN {y:V}{o:Option V} (I:Inv X aa σ H s) (g:Lv H a y o):s.TypeIs (.ref a) "dict" := by
 rcases g with⟨kvs,k,e,_,_⟩ |⟨kvs,k,b,e,_,_,_⟩
 ·obtain⟨_,_,vs,_,dd⟩:=Ds I.aE e;exact dd.typeIs
 ·obtain⟨_,_,xs,_,dd⟩:=Ii I.aE e;exact dd.typeIs
inductive ExD (x:V) (H:Hp) (y:V) (k:V->Prop):Prop where
 |mk (a:Xd) (v:V) (h1:x=.ref a) (h2:Lv H a y (some v)) (q:k v):ExD x H y k
def VN (td ty:TE):TE:=λσ H Q=>td σ H λx H1=>ty σ H1 λy H2=>ExD x H2 y λv=>Q v H2
def WZ (ty td:TE):TE:=λσ H Q=>ty σ H λy H1=>td σ H1 λx H2=>∃a o,x=.ref a/\Lv H2 a y o/\Q (.bl o.isSome) H2
def Rz (ty td:TE):TE:=λσ H Q=>ty σ H λy H1=>td σ H1 λx H2=>∃a o,x=.ref a/\Lv H2 a y o/\Q (.bl (!o.isSome)) H2
def VO (td ty tv:TE):TS:=λD σ H=>tv σ H λv H1=>td σ H1 λx H2=>ty σ H2 λy H3=>∃a H4,x=.ref a/\DPut H3 a y v H4/\D.nx σ H4
section
variable {o i value:Expr}{pos' tpos:Pos}{td ty tv:TE}
theorem Bh (hu:X.A.units+1<cLine) (ho:PE X o td) (hi:PE X i ty) (hs:VM i):PE X (.Subscript o i pos) (VN td ty):=by
 intro aa s σ H Q I h;refine Ry PySem.F.slot_dict_getitem.lookup hs (aF (ho aa s σ H _ I h) λu s1 ⟨x,H1,I1,rx,q1⟩=>aF (hi aa s1 σ H1 _ I1 q1) λiv s2 ⟨y,H2,I2,ry,a,v,ex,g,q2⟩=>?_);subst ex;obtain rfl:u=Value.ref a:=rx;exact⟨KN I2 g,OS hu I2 g ry λw' s3 I3 gN=>⟨v,H2,I3,gN,q2⟩⟩
theorem P2 (hu:X.A.units+1<cLine) (hi:PE X i ty) (ho:PE X o td):PC X .In i o (WZ ty td):=by
 intro aa s σ H Q I h;refine aF (hi aa s σ H _ I h) λiv s1 ⟨y,H1,I1,ry,q1⟩=>aF (ho aa s1 σ H1 _ I1 q1) λu s2 ⟨x,H2,I2,rx,a,ov,ex,g,q2⟩=>?_;subst ex;obtain rfl:u=Value.ref a:=rx;exact WY hu I2 g ry λs3 I3=>⟨.bl ov.isSome,H2,I3,Zj,q2⟩
theorem OU (hu:X.A.units+1<cLine) (hi:PE X i ty) (ho:PE X o td):PC X .NotIn i o (Rz ty td):=by
 intro aa s σ H Q I h;refine aF (hi aa s σ H _ I h) λiv s1 ⟨y,H1,I1,ry,q1⟩=>aF (ho aa s1 σ H1 _ I1 q1) λu s2 ⟨x,H2,I2,rx,a,ov,ex,g,q2⟩=>?_;subst ex;obtain rfl:u=Value.ref a:=rx;exact Rx hu I2 g ry λs3 I3=>⟨.bl (!ov.isSome),H2,I3,Zj,q2⟩
theorem JV (hu:X.A.units+1<cLine) (ho:PE X o td) (hi:PE X i ty) (hv:PE X value tv) (hs:swapsWith value (some (.Subscript o i pos')) pos.line X.env=pure false) :
  PS X (.Assign [.Subscript o i pos'] value pos) (VO td ty tv):=by
 intro aa s σ H D I h;refine wpAny_Assign_Subscript (aF (hv aa s σ H _ I h) λr s1 ⟨v,H1,I1,rv,q1⟩=>aF (ho aa s1 σ H1 _ I1 q1) λu s2 ⟨x,H2,I2,rx,q2⟩=>aF (hi aa s2 σ H2 _ I2 q2) λiv s3 ⟨y,H3,I3,ry,a,H4,ex,g,q3⟩=>?_) hs;subst ex;obtain rfl:u=Value.ref a:=rx;exact OT hu I3 g ry rv λs4 I4=>⟨σ,H4,I4,q3⟩
end
theorem KP (h:Heap) (hb:sysModules<h.objs.size):aS P w H (h.push { cls:=.type "dict", data:=.dict #[] }) h.objs.size (.dK []) :=
 ⟨Nat.zero_le _,beq_eq_false_iff_ne.mpr (Ne.symm (ZC hb)),[],.nil,Heap.DictOf.new h⟩
def UA:TE:=λ_ H Q=>∀p,H p=none->Q (.ref p) (upd H p (.dK []))
section
theorem FD:PE X (.Dict [] [] pos) UA:=λaa s σ H Q I h =>
 wpAny_Dict_empty ⟨.ref s.heap.objs.size,_,I.laid (a:=s.heap.objs.size) (o:=.dK []) (t':=s.toks) (λ_ _ q=>ZX _ q) (Zy _) (KP s.heap I.big),rfl,h _ (I.aE.fresh (Zy _))⟩
end
def Lw:List (TE×TE)->St->Hp->(List (V×V)->Hp->Prop)->Prop
  | [],_,H,Q=>Q [] H
  | (tk,tv)::r,σ,H,Q=>tk σ H λx H1=>tv σ H1 λy H2=>Lw r σ H2 λps H3=>Q ((x,y)::ps) H3
abbrev VV:List (V×V)->List (Value×Value)->Prop:=Paired λp q=>RelV p.1 q.1/\RelV p.2 q.2
def PPs (X:Cx) (pos:Pos) (keys:List (Option Expr)) (values:List Expr) (jg:List (TE×TE)):Prop :=
 ∀(aa:LO) (s:Xe) (σ:St) (H:Hp) (Q:List (V×V)->Hp->Prop),Inv X aa σ H s->Lw jg σ H Q ->
  wpAny (model X.prog X.w) X.A (evalPairs (pairTrees keys values X.env pos)) (λvs s'=>∃ps H',Inv X aa σ H' s'/\VV ps vs/\Q ps H') X.xe s
theorem JW:PPs X pos [] [] []:=λaa s σ H Q I h=>pairTrees_nil_walk ⟨[],H,I,.nil,h⟩
theorem BX {k v:Expr}{ks:List (Option Expr)}{vs:List Expr}{tk tv:TE}{jg:List (TE×TE)} (hk:PE X k tk) (hv:PE X v tv) (hr:PPs X pos ks vs jg) :
  PPs X pos (some k::ks) (v::vs) ((tk,tv)::jg):=λaa s σ H Q I h =>
 pairTrees_cons_walk (aF (hk aa s σ H _ I h) λu s1 ⟨x,H1,I1,rx,q1⟩=>aF (hv aa s1 σ H1 _ I1 q1) λw2 s2 ⟨y,H2,I2,ry,q2⟩ =>
  aF (hr aa s2 σ H2 _ I2 q2) λws s3 ⟨ps,H3,I3,rel,q3⟩=>⟨(x,y)::ps,H3,I3,.cons ⟨rx,ry⟩ rel,q3⟩)
noncomputable def C2 (kvs more:LK):LK:=more.foldl (λacc kv=>B4 acc kv.1 kv.2) kvs
theorem KV.merge:∀ {more:LK}{rs:List (Key×Value)}{kvs:LK}{vs:List (Key×Value)},KV more rs->KV kvs vs->KV (C2 kvs more) (merged vs rs):=by
 intro more rs kvs vs r;unfold KV at r;induction r generalizing kvs vs with
 |nil=>intro q;exact q
 | @cons p q ps qs h t ih =>
  intro r0
  have e:KV (B4 kvs p.1 p.2) (stored vs q.1 q.2):=by
   have:=r0.put p.1 h.2;rw[←h.1];exact this
  exact ih e
theorem EO:∀(more kvs:LK),(C2 kvs more).length<=kvs.length+more.length
 | [],kvs=>by show kvs.length<=kvs.length+0;omega
 |p::r,kvs=>by
  have h1:=EO r (B4 kvs p.1 p.2);have h2:=Cl kvs p.1 p.2;show(C2 (B4 kvs p.1 p.2) r).length<=_;rw[length_cons];omega
theorem HA {P:Program}{w:World}:∀ {kvs:LK}{ws:List (Value×Value)},VV (kvs.map λkv=>(kV kv.1,kv.2)) ws->∃rs,Carries (AU P w) ws rs/\KV kvs rs
 | [],_,r=>by rw[map_nil]at r;cases r;exact⟨[],True.intro,.nil⟩
 |p::kvs,_,r=>by
  rw[map_cons]at r;cases r with
  | @cons a b as bs h t =>
   obtain⟨rs,c,q⟩:=HA (P:=P) (w:=w) t;obtain⟨b1,b2⟩:=b;exact⟨(p.1,b2)::rs,⟨FC h.1,Zj,c⟩,.cons ⟨Zj,h.2⟩ q⟩
def P3 (jg:List (TE×TE)):TE:=λσ H Q=>∀p,H p=none->Lw jg σ (upd H p (.dK [])) λps H2=>H2 p=some (.dK [])/\∃kvs:LK,ps=kvs.map (λkv=>(kV kv.1,kv.2))/\kvs.length<=15/\Q (.ref p) (upd H2 p (.dK (C2 [] kvs)))
theorem JX {keys:List (Option Expr)}{values:List Expr}{jg:List (TE×TE)} (h:PPs X pos keys values jg) (be:keys.all (·.isSome)=true) (hl:keys.length=values.length) (h0:keys≠ [])
  (h15:keys.length<=15):PE X (.Dict keys values pos) (P3 jg):=by
 intro aa s σ H Q I q;have hn:=I.aE.fresh (Zy s.heap.objs.size);have I1:=I.laid (a:=s.heap.objs.size) (o:=.dK []) (h':=s.heap.push { cls:=.type "dict", data:=.dict #[] }) (t':=s.toks) (λ_ _ q=>ZX _ q) (Zy _) (KP s.heap I.big);refine wpAny_Dict_walk (knd:=AU X.prog X.w) be hl h0 h15 (aF (h aa _ σ _ _ I1 (q _ hn)) λws s2 ⟨ps,H2,I2,rel,e,kvs,ep,lk,q2⟩=>?_);subst ep;obtain⟨rs,c,rk⟩:=HA (P:=X.prog) (w:=X.w) rel;obtain⟨z,hd,vs0,r0,dd⟩:=P1 I2.aE e;cases r0;refine⟨rs,c,dd,λh' gB hs=>⟨.ref s.heap.objs.size,_,?_,Zj,q2⟩⟩
 have hz:(C2 [] kvs).length<=sizeLine:=by
  have h1:=EO kvs [];rw[length_nil]at h1;rw[sizeLine_eq];omega
 have he:∃q,h'.get? s.heap.objs.size=some q:=let ⟨q,_,_,hq,_⟩:=gB;⟨q,hq⟩
 exact Gg I2 (by rw[e];exact True.intro) hs he (JU hz hd (rk.merge .nil) gB)
def IsD (H:Hp) (a:Xd):Prop:=(∃kvs,Rd H a (.dK kvs))\/∃kvs,Rd H a (.dT kvs)
theorem P4 (I:Inv X aa σ H s) (d:IsD H a) :
  s.TypeIs (.ref a) "dict" /\ (∀b,Value.ref a=.ref b->∃ob,s.heap.get? b=some ob/\ob.dict=none)/\(a==sysModules)=false:=by
 rcases d with⟨kvs,e⟩ |⟨kvs,e⟩
 ·obtain⟨_,hd,vs,_,dd⟩:=Ds I.aE e;refine⟨dd.typeIs,λb q=>?_,hd⟩;cases q;obtain⟨ob,_,_,h1,h2,_⟩:=dd;exact⟨ob,h1,h2.2.1⟩
 ·obtain⟨_,hd,xs,_,dd⟩:=Ii I.aE e;refine⟨dd.typeIs,λb q=>?_,hd⟩;cases q;obtain⟨ob,_,_,h1,h2,_⟩:=dd;exact⟨ob,h1,h2.2.1⟩
end L2
namespace Att
open PySem PySem.W PySem.Calls PyProof.Rows
theorem Ga {P:Params}:∀(ns:List Int) (vs:Xb),WellAll P h vs (ns.map WData.int)->IntsAre vs ns:=by
 intro ns;induction ns with
 |nil =>
  intro vs w;rw[map_nil]at w;cases w;exact .nil
 |cons n ns ih =>
  intro vs w;rw[map_cons]at w;cases w with
  |cons a b =>
   cases a;exact .cons _ _ (ih _ b)
theorem OV {l:OpenLaw}{n:Nat} (hn:l.most=some n) {P:Params}{args:List WData}{vals:Xb}
    (cm:l.row.toRowW.claim.pre args=true) (hwl:WellAll P h vals args) :
    ∃a vs ns,vals=[Value.ref a]/\args=[WData.list (ns.map WData.int)]/\h.get? a=some { cls:=.type "list", data:=.seq vs.toArray }/\IntsAre vs ns/\ns.length<=n:=by
  have ai:WShape.hasAll [] args [.list .int]=true:=(pre_splitW cm).1;have hc:l.pre.holds [] { args:=args }=true:=(pre_splitW cm).2;obtain⟨d,r,rfl,h1,h2⟩:=hasAllW_cons ai;obtain rfl:=hasAllW_nil h2;obtain⟨xs,rfl,h3⟩:=hasW_list h1;obtain⟨ns,rfl⟩:=items_int h3
  have a0:ns.length<=n:=by
    unfold OpenLaw.pre at hc
    have h4:(WTm.not (.lt (.lit (.int (n:Int))) (.len (.arg 0)))).holds [] { args:=[.list (ns.map .int)] }=true:=by
      have h4:=(holds_andW hc).1;rw[hn]at h4;exact h4
    have h5:=condW_of h4 (w_not (w_lt w_lit (w_len_list (w_arg rfl))));rw[AJ]at h5;refine Nat.le_of_not_lt λq=>?_;have q':(n:Int)<((ns.length:Nat):Int):=by omega
    first
      | (rw[ZL q']at h5;exact absurd h5 qc)
      | (simp at h5;omega)
  cases hwl with
  |cons w1 w2 =>
    cases w2;cases w1 with
    |list ho be=>exact⟨_,_,ns,rfl,rfl,ho,Ga ns _ be,a0⟩
theorem OW (l:OpenLaw) (args:List WData):l.row.toRowW.claim.post args (.bool true) args=true :=
 postW_of (r:=l.row.toRowW) (X:=(true==true))
  (show WShape.has [] (.bool true) .bool=true by first |rfl |decide |simp[WShape.has,WShape.arms,WShape.armsAll])
  (show(WTm.eq .res (.lit (.bool true))).value [] { args:=args,res:=some (.bool true),after:=args }=some (.bool (true==true))from w_eq_bool (w_res rfl) w_lit) rfl
theorem attach_call {l:OpenLaw}{n:Nat}{q:Program}{loose:Xa}{XP:(Str->Option Value)->Heap->Prop}{YP:World->Heap->Prop}{d:DefRec}
  (hn:l.most=some n) (hdf:d.params.defaults=[])
  (call:∀(w:World) (aW aH:Xe) (mg mb:SV) (fa:Xd) (o:Obj) (pm cd doc:Value) (a:Xd) (vs:Xb) (ns:List Int),
   Ground q loose [] XP w aW mg mb aH.heap->YP w aH.heap ->
   aH.heap.get? fa=some o->o.data=.func (docDef d.name d.params d.body d.scope pm cd doc)->aH.heap.CodeRec cd d.name->mg d.name=some (.ref fa) ->
   aH.heap.get? a=some { cls:=.type "list", data:=.seq vs.toArray }->IntsAre vs ns->ns.length<=n->aH.gens=#[] ->
   codeAny (model l.prog w) callerA (.call (.ref fa) ⟨[.ref a],[]⟩) (λr s'=>r=.ok (.ret (.bool true))/\OldK aH.heap s'.heap/\s'.os=aH.os/\AllBare s'.gens) aH) :
  WalkO q loose XP YP l.row.toRowW d [] (λf vs=>PySem.call f vs):=by
 intro w aW aH mg mb G Y fa o pm cd doc dV kV ho hd fg hD hmg hg args vals as cm hlay hrd hwl hlo;obtain rfl:dV=.none:=Dflts.none hD hdf;obtain rfl:kV=.none:=Dflts.noKw hD;obtain⟨a,vs,ns,rfl,rfl,cv,bv,a0⟩:=OV hn cm hwl;refine enter_call (codeAny_mono (call w aW aH mg mb fa o pm cd doc a vs ns G Y ho (fd_plain hd) fg hmg cv bv a0 hg) λr s' hq=>?_);obtain⟨rfl,h2,h3,h4⟩:=hq;exact⟨.inl ⟨.bool true,.bool true,[],rfl,λ_=>rfl,.bool true,OW l _,λ_=>⟨List.Pairwise.nil,λ_ hm=>(nomatch hm)⟩⟩,h2,h3,h4⟩
end Att
namespace L2
open PySem PySem.Spec PyProof.Rows
theorem ED:∀ {vs:Xb}{ns:List Int},IntsAre vs ns->Vals (ns.map V.int) vs
 |_,_,.nil=>.nil
 |_,_,.cons n t h=>.cons ⟨t,rfl⟩ (ED h)
noncomputable def inClass (s:Stmt) (j:Nat):Stmt:=match s with
 | .ClassDef _ _ _ body _ _ _ _ _ _ _=>body.getD j (.Pass ⟨0,0,0,0⟩)
 |_=>.Pass ⟨0,0,0,0⟩
noncomputable def defArgs (s:Stmt):Arguments:=match s with
 | .FunctionDef _ a _ _ _ _ _ _ _ _=>a
 |_=>{ posonlyargs:=[],args:=[],vararg:=none,kwonlyargs:=[],kw_defaults:=[],kwarg:=none,defaults:=[] }
noncomputable def defBody (s:Stmt):List Stmt:=match s with
 | .FunctionDef _ _ b _ _ _ _ _ _ _=>b
 |_=>[]
noncomputable def defScope (s:Stmt):Scope:=match s with
 | .FunctionDef _ _ _ _ _ _ sc _ _ _=>sc
 |_=>{ kind:=.function,names:=[],isGenerator:=false,isCoroutine:=false }
abbrev aT:gD:=λ_ _ _ _ _ _=>False
abbrev E0:XK:=λ_ _ _=>False
theorem AR:BW aT X E0:=λ_ _ _ _ _ _ _ h=>h.elim
structure aY (K:FG) (x qual:Str) (st:Stmt) (f:Xd) (fd:FuncData):Prop where
 ex:∃(oc:Value) (od:Option Xd) (kV doc pm:Value) (an:Option Xd) (ad ct:Value) (gp:Array (Option Value)),
  fd=W.fnOf x qual (defArgs st) (defBody st) (defScope st) .none kV doc pm an ad ct/\K.lookup f=some ⟨oc,od,.func fd,gp⟩/\W.codeIn K ad qual=true
 kp:W.keepIn K (.ref f)=true
section
theorem aY.ok {qual:Str}{st:Stmt}{f:Xd}{fd:FuncData}{ps:Xa}{k:Nat}{sp:Sp} (F:aY K x qual st f fd) (S:AN N ps (defScope st)) (len:∀vs H Q E,sp vs H Q E->vs.length=ps.length)
  (bh:∀(ad:Value) (A:Around) (outer:List Env) (s:Xe) (H:Hp) (vs:Xc) (Q:VK) (E:XK),aI k (A.deeper (envOfC qual (defScope st) s.heap.objs.size f ad))->sp vs H Q E ->
   ∃t,eK (BM aT P w K mg base N qual (defScope st) f ad A outer s H E).gP (defBody st) t/\t { nx:=λ_ H'=>Q .aP H',rt:=Q } (Bo N vs) H):Af P w K mg base aT (k+1) f fd ps sp:=by
 obtain⟨oc,od,kV,doc,pm,an,ad,ct,gp,rfl,lk,fg⟩:=F.ex;refine NO lk fg S len λA outer s H vs Q E hr gF=>?_;obtain⟨t,h,q⟩:=bh ad A outer s H vs Q E hr gF;exact⟨t,h.gP,q⟩
structure BdC (P:Program) (w:World) (K:FG) (mg:SV) (base:Heap) (f:Xd) (qual:Str) (st:Stmt) (N ps:Xa) (k:Nat) (vs:Xc) (H:Hp) (Q:VK) (E:XK):Prop where
 len:vs.length=ps.length
 ok:∀(ad:Value) (A:Around) (outer:List Env) (s:Xe),aI k (A.deeper (envOfC qual (defScope st) s.heap.objs.size f ad)) ->
  ∃t,eK (BM aT P w K mg base N qual (defScope st) f ad A outer s H E |>.gP) (defBody st) t/\t { nx:=λ_ H'=>Q .aP H',rt:=Q } (Bo N vs) H
theorem aY.m {qual:Str}{st:Stmt}{f:Xd}{fd:FuncData}{ps:Xa}{k:Nat}{sp:Sp} (F:aY K x qual st f fd) (S:AN N ps (defScope st)) (h:∀vs H Q E,sp vs H Q E->BdC P w K mg base f qual st N ps k vs H Q E) :
  Af P w K mg base aT (k+1) f fd ps sp:=F.ok S (λvs H Q E q=>(h vs H Q E q).len) λc A o s H vs Q E r q=>(h vs H Q E q).ok c A o s r
theorem aY.binds {qual:Str}{st:Stmt}{f:Xd}{fd:FuncData}{ps:Xa} (F:aY K x qual st f fd)
  (h:∀(kV doc pm:Value) (an:Option Xd) (ad ct:Value) (us:Xb),us.length=ps.length->bindArgs (W.fnOf x qual (defArgs st) (defBody st) (defScope st) .none kV doc pm an ad ct) ⟨us,[]⟩=pure (ps.zip us)):Binds K fd ps []:=by
 obtain⟨oc,od,kV,doc,pm,an,ad,ct,gp,rfl,lk,fg⟩:=F.ex;exact .all (h kV doc pm an ad ct)
theorem fun_mk {qual:Str}{st:Stmt}{f:Xd}{oc:Value}{od an:Option Xd}{gp:Array (Option Value)}{kV doc pm ad ct:Value} (l:K.lookup f=some ⟨oc,od,.func (W.fnOf x qual (defArgs st) (defBody st) (defScope st) .none kV doc pm an ad ct),gp⟩)
  (c:W.codeIn K ad qual=true) (k:W.keepIn K (.ref f)=true):aY K x qual st f (W.fnOf x qual (defArgs st) (defBody st) (defScope st) .none kV doc pm an ad ct):=⟨⟨oc,od,kV,doc,pm,an,ad,ct,gp,rfl,l,c⟩,k⟩
end
theorem Cm {k:Nat} (hr:aI k A):A.units+1<cLine:=Nat.lt_of_le_of_lt (Nat.add_le_add_left (by decide:1<=64) _) hr.units
theorem AL {n:Nat} (h:n<=1000):n<sizeLine:=Nat.lt_of_le_of_lt h qc
section
theorem pv (i:Nat) (hN:X.N[i]?=some x:=by rfl) (hv:Vis X.env.scope x:=by first |exact Or.inl rfl |exact Or.inr (Or.inl rfl) |exact Or.inr (Or.inr rfl)) (hd:(x==("__debug__" : Str))=false:=by decide)
  (fg:(x==("__classdict__" : Str))=false:=by decide):PE X (.Name x pos) (IC i):=Pe hN hv hd fg
end
theorem Ac {A B:Prop} (h:B):if false=true then A else B:=by
 rw[Zq Bool.false_ne_true];exact h
theorem Ao {A B:Prop} (h:A):if true=true then A else B:=by
 rw[Zp rfl];exact h
theorem Ba {c A B:Prop} [Decidable c] (h1:c->A) (h2:¬ c->B):if c then A else B:=by
 by_cases h:c
 ·rw[Zp h];exact h1 h
 ·rw[Zq h];exact h2 h
theorem P5 {c A B:Prop} [Decidable c] (hc:c) (h:B):if (!decide c)=true then A else B:=by
 rw[ZL hc];exact Ac h
def aA (H H':Hp):Prop:=∀b o,H b=some o->H' b=some o
theorem aA.refl (H:Hp):aA H H:=λ_ _ h=>h
theorem aA.trans {H1 H2:Hp} (a:aA H H1) (b:aA H1 H2):aA H H2:=λc o h=>b c o (a c o h)
theorem aA.seq (e:aA H H') (h:aK K H a xs):aK K H' a xs:=by
 rcases h with (h |⟨o,h⟩) |h
 ·exact .inl (.inl (e _ _ h))
 ·exact .inl (.inr ⟨o,e _ _ h⟩)
 ·exact .inr h
section
variable {κ:Type} [DecidableEq κ]
theorem NS:∀ {l:List κ}{k:κ},l.Nodup->¬ k∈l->(l++[k]).Nodup
 | [],k,_,_=>by simp
 |a::r,k,h,hk=>by
  obtain⟨h1,h2⟩:=Zs.mp h;show(a::(r++[k])).Nodup;refine Zs.mpr ⟨λm=>?_,NS h2 λm=>hk (mem_cons.mpr (Or.inr m))⟩;rcases mem_append.mp m with q |q
  ·exact h1 q
  ·exact hk (mem_cons.mpr (Or.inl (ZG.mp q).symm))
end
end L2
end
section
variable {X:L2.Cx}{H:L2.Hp}{H':L2.Hp}{s:PySem.Shared}{pos:PySem.Pos}{σ:L2.St}{P:PySem.Program}{w:PySem.World}{A:PySem.Around}{aa:LO}{x:PySem.Str}{a:PySem.Addr}{K:FG}{C:PySem.Addr}{E:VS}{h:PySem.Heap}{us:List PySem.Value}{u:PySem.Value}{xs:List L2.V}{e:PySem.Expr}{te:L2.TE}{base:PySem.Heap}{N:List PySem.Str}{mg:SV}
section
namespace L2
open PySem PySem.Spec PyProof.Rows
theorem Inv.track {o:HO} (I:Inv X aa σ H s) (hn:H a=none) (hL:a≠X.env.locals) (h1:a∈X.ex\/X.aW.heap.objs.size<=a)
  (h2:∀x c,X.env.cells.lookup x=some c->c≠a) (h3:∀p∈X.pn++aa,p.1≠a) (new:aS X.prog X.w (upd H a o) s.heap a o):Inv X aa σ (upd H a o) s:=by
 have aw:∀b u,H b=some u->b≠a:=λb u e=>AI e hn
 refine I.step (h':=s.heap) (H':=upd H a o) (g':=s.gens) (t':=s.toks) (d':=s.drawn) (ch:=[a])
  (λb hb=>by have e:b=a:=by simpa using hb
             subst e;exact⟨h1,hL,h2,h3⟩)
  (λb o _ _ _ e _=>e) (λb o _ _ _ e _=>⟨o.slots,e⟩) (λb o hc e n=>by rw[AH (by simpa using hc)];exact n)
  (λb o _ e=>⟨o,e⟩) (λb xs e=>by rw[AH (aw b _ e)];exact e) (λb o u e=>by rw[AH (aw b _ e)];exact e)
  (λb ps e=>⟨#[],by rw[AH (aw b _ e),e];simp⟩) (λm h=>h) (λb u e=>?_) I.bare
 by_cases hb:b=a
 ·subst hb;rw[AB]at e;cases e;exact new
 ·rw[AH hb]at e;exact(I.aE b u e).fc (λc v _ q=>q) (λc q=>by rw[AH (aw c _ q)];exact q) λc xs q=>by rw[AH (aw c _ q)];exact q
structure aO (jJ sc:Scope) (N N':Xa) (ix:List (Option Nat)):Prop where
 kind:sc.kind=.function
 nocell:∀y∈sc.names,y.2≠ .cell
 free:∀y∈sc.names,y.2=.free->jJ.names.lookup y.1=some .cell\/jJ.names.lookup y.1=some .free
 loc:∀y∈sc.names,y.2=.local->sc.names.lookup y.1=some .local
 len:ix.length=N'.length
 slot:∀(j:Nat) (x:Str) (i:Nat),N'[j]?=some x->ix[j]?=some (some i)->N[i]?=some x/\sc.names.lookup x=some .free
noncomputable def TU (sc:Scope) (N:Xa) (x:Str):Option Nat->Bool
 |none=>true
 |some i=>decide (N[i]?=some x)&&decide (sc.names.lookup x=some .free)
noncomputable def DR (sc:Scope) (N:Xa):Xa->List (Option Nat)->Bool
 | [],[]=>true
 |x::r,o::os=>TU sc N x o&&DR sc N r os
 |_,_=>false
noncomputable def GG (jJ sc:Scope) (N N':Xa) (ix:List (Option Nat)):Bool :=
 decide (sc.kind=.function)&&(sc.names.all λy=>decide (y.2≠ .cell)&&(decide (y.2≠ .free) ||decide (jJ.names.lookup y.1=some .cell) ||decide (jJ.names.lookup y.1=some .free)) &&
  (decide (y.2≠ .local) ||decide (sc.names.lookup y.1=some .local)))&&DR sc N N' ix
theorem HB {sc:Scope}{N:Xa}:∀ {N':Xa}{ix:List (Option Nat)},DR sc N N' ix=true->ix.length=N'.length
 | [],[],_=>rfl
 | [],_::_,h=>by simp[DR]at h
 |_::_,[],h=>by simp[DR]at h
 |x::r,o::os,h=>by
  simp only[DR,Bool.and_eq_true]at h;simp only[length_cons,HB h.2]
theorem Ij {sc:Scope}{N:Xa}:∀ {N':Xa}{ix:List (Option Nat)},DR sc N N' ix=true->∀(j:Nat) (x:Str) (i:Nat),N'[j]?=some x->ix[j]?=some (some i)->N[i]?=some x/\sc.names.lookup x=some .free
 | [],_,_,_,_,_,e,_=>by simp at e
 |_::_,[],h,_,_,_,_,_=>by simp[DR]at h
 |y::r,o::os,h,j,x,i,e1,e2=>by
  simp only[DR,Bool.and_eq_true]at h;cases j with
  |zero =>
   simp only[List.getElem?_cons_zero,Option.some.injEq]at e1 e2;subst e1 e2;have h1:=h.1;simp only[TU,Bool.and_eq_true,decide_eq_true_eq]at h1;exact h1
  |succ j =>
   simp only[List.getElem?_cons_succ]at e1 e2;exact Ij h.2 j x i e1 e2
theorem aO.of {jJ sc:Scope}{N':Xa}{ix:List (Option Nat)} (h:GG jJ sc N N' ix=true):aO jJ sc N N' ix:=by
 simp only[GG,Bool.and_eq_true,decide_eq_true_eq,List.all_eq_true,Bool.or_eq_true]at h;obtain⟨⟨h1,h2⟩,h3⟩:=h;refine⟨h1,λy hy=>(h2 y hy).1.1,λy hy e=>?_,λy hy e=>?_,HB h3,Ij h3⟩
 ·rcases (h2 y hy).1.2 with (z |z) |z
  ·exact absurd e z
  ·exact .inl z
  ·exact .inr z
 ·rcases (h2 y hy).2 with z |z
  ·exact absurd e z
  ·exact z
noncomputable abbrev Ea (env:Env):Str×NameKind->Str×NameKind:=λ(n,k)=>if (k==NameKind.free&&env.scope.kind == .function&&env.kindOf n==some .cell)then (n,NameKind.cell)else (n,k)
theorem KQ (env:Env) (y:Str×NameKind):(Ea env y).1=y.1:=by
 obtain⟨n,k⟩:=y;simp only[Ea];split <;> rfl
theorem OX (env:Env) (n:Str):(Ea env (n,.free)).2=.cell\/(Ea env (n,.free)).2=.free:=by
 simp only[Ea];split
 ·exact .inl rfl
 ·exact .inr rfl
theorem R5 (env:Env) (y:Str×NameKind) (h:y.2≠ .free):Ea env y=y:=by
 obtain⟨n,k⟩:=y;have e:(k==NameKind.free)=false:=by simpa using h
 simp only[Ea,e,Bool.false_and,Bool.false_eq_true,if_false]
theorem EQ {env:Env}:∀ {names:List (Str×NameKind)}{x:Str},names.lookup x=some .free->(names.map (Ea env)).lookup x=some .cell\/(names.map (Ea env)).lookup x=some .free
  | [],_,h=>by simp at h
  | (n,k)::r,x,h=>by
    rw[map_cons]
    have e:Ea env (n,k)=(n,(Ea env (n,k)).2):=by
      have:=KQ env (n,k);exact Prod.ext this rfl
    rw[e];cases hx:x==n with
    |true =>
      simp only[Zz,hx]at h ⊢;cases h;rcases OX env n with z |z
      · rw[z];exact .inl rfl
      · rw[z];exact .inr rfl
    |false =>
      simp only[Zz,hx]at h ⊢;exact EQ h
theorem GM {env:Env}:∀ {names:List (Str×NameKind)}{x:Str},(∀y∈names,y.2≠ .cell)->((names.map (Ea env)).lookup x=some .cell\/(names.map (Ea env)).lookup x=some .free)->(x,NameKind.free)∈names
  | [],_,_,h=>by simp at h
  | (n,k)::r,x,hc,h=>by
    rw[map_cons]at h;have e:Ea env (n,k)=(n,(Ea env (n,k)).2):=Prod.ext (KQ env (n,k)) rfl;rw[e]at h;cases hx:x==n with
    |true =>
      simp only[Zz,hx]at h;have exn:x=n:=by simpa using hx
      subst exn;by_cases hk:k=.free
      · subst hk;exact ZI
      · rw[R5 env (x,k) hk]at h
        rcases h with z |z
        · have:k=.cell:=by simpa using z
          exact absurd this (hc (x,k) ZI)
        · have:k=.free:=by simpa using z
          exact absurd this hk
    |false =>
      simp only[Zz,hx]at h;exact ZR _ (GM (λy hy=>hc y (ZR _ hy)) h)
theorem JY {env:Env}{f:Str×NameKind->List (Str×Xd)->Sem (ForInStep (List (Str×Xd)))}
  (h1:∀y acc,y.2≠ .free->f y acc=pure (.yield acc)) (h2:∀y acc c,y.2=.free->env.cells.lookup y.1=some c->f y acc=pure (.yield ((y.1,c)::acc))) :
  ∀(names:List (Str×NameKind)) (acc:List (Str×Xd)),(∀y∈names,y.2=.free->∃c,env.cells.lookup y.1=some c)->(∀x c,acc.lookup x=some c->env.cells.lookup x=some c) ->
   ∃cl,forIn names acc f=(pure cl:Sem _)/\(∀x c,cl.lookup x=some c->env.cells.lookup x=some c)/\(∀y∈names,y.2=.free->∃c,cl.lookup y.1=some c)/\∀x c,acc.lookup x=some c->∃c',cl.lookup x=some c'
 | [],acc,_,ha=>⟨acc,rfl,ha,λ_ hy=>(nomatch hy),λx c e=>⟨c,e⟩⟩
 |y::r,acc,hn,ha=>by
  have hr:∀z∈r,z.2=.free->∃c,env.cells.lookup z.1=some c:=λz hz=>hn z (ZR _ hz);by_cases hy:y.2=.free
  ·obtain⟨c,hc⟩:=hn y ZI hy
   obtain⟨cl,e,p1,p2,p3⟩:=JY h1 h2 r ((y.1,c)::acc) hr λx d e=>by
    cases hx:x==y.1 with
    |true =>
     simp only[Zz,hx,Option.some.injEq]at e;have:x=y.1:=by simpa using hx
     rw[this,←e];exact hc
    |false =>
     simp only[Zz,hx]at e;exact ha x d e
   refine⟨cl,by rw[List.forIn_cons,h2 y acc c hy hc,pure_bind];exact e,p1,λz hz hf=>?_,λx d e=>?_⟩
   ·rcases mem_cons.mp hz with rfl |hz
    ·exact p3 z.1 c (by simp[Zz])
    ·exact p2 z hz hf
   ·cases hx:x==y.1 with
    |true=>exact p3 x c (by simp[Zz,hx])
    |false=>exact p3 x d (by simp only[Zz,hx];exact e)
  ·obtain⟨cl,e,p1,p2,p3⟩:=JY h1 h2 r acc hr ha;refine⟨cl,by rw[List.forIn_cons,h1 y acc hy,pure_bind];exact e,p1,λz hz hf=>?_,p3⟩;rcases mem_cons.mp hz with rfl |hz
   ·exact absurd hf hy
   ·exact p2 z hz hf
theorem JZ {env:Env}{scope:Scope} (hn:∀y∈scope.names,y.2=.free->∃c,env.cells.lookup y.1=some c) :
  ∃cl,closureFor scope env=pure cl/\(∀x c,cl.lookup x=some c->env.cells.lookup x=some c)/\∀y∈scope.names,y.2=.free->∃c,cl.lookup y.1=some c:=by
 obtain⟨cl,e,p1,p2,_⟩:=JY (env:=env) (f:=λ(x:Str×NameKind) (r:List (Str×Xd))=>if (x.2==NameKind.free)=true then (cellOf env x.1 >>= λa=>pure (ForInStep.yield ((x.1,a)::r)))else pure (ForInStep.yield r)) (λy acc hy=>by
  have:(y.2==NameKind.free)=false:=by simpa using hy
  rw[this,Zq Bool.false_ne_true]) (λy acc c hy hc=>by
  have h0:(y.2==NameKind.free)=true:=by rw[hy];rfl
  rw[Zp h0];simp only[cellOf,hc]
  rfl) scope.names [] hn λx c e=>by simp at e
 refine⟨cl,?_,p1,p2⟩;have e0:closureFor scope env=(forIn scope.names [] (λ(x:Str×NameKind) (r:List (Str×Xd))=>if (x.2==NameKind.free)=true then (cellOf env x.1 >>= λa=>pure (ForInStep.yield ((x.1,a)::r)))else pure (ForInStep.yield r)) >>= λcs=>pure cs):=rfl;rw[e0,e];rfl
noncomputable def AX (X:Cx) (N':Xa) (scope:Scope) (cl:List (Str×Xd)) (s:Xe) (H:Hp) (C:Xd) (fp:List Xd) (pn:LO):Cx where
 prog:=X.prog
 w:=X.w
 K:=X.K
 mg:=X.mg
 base:=X.base
 A:=X.A
 N:=N'
 aW:=s
 eU:=H
 env:=compEnvC scope cl C X.env
 outer:=X.stack
 stack:=X.stack
 ex:=fp
 fn:=λ_=>false
 calm:=X.calm
 pn:=pn
 xe:=λ_ _=>False
noncomputable def Bd (ix:List (Option Nat)) (σ:St):St:=ix.map λo=>o.bind λi=>(σ[i]?).join
theorem R6 {ix:List (Option Nat)}{j:Nat}{v:V} (h:(Bd ix σ)[j]?=some (some v)):∃i,ix[j]?=some (some i)/\σ[i]?=some (some v):=by
 unfold Bd at h;rw[ZE]at h;cases e:ix[j]? with
 |none=>rw[e]at h;cases h
 |some o =>
  rw[e]at h;simp only[Option.map_some,Option.some.injEq]at h;cases o with
  |none=>cases h
  |some i =>
   refine⟨i,rfl,?_⟩;simp only[Option.bind_some]at h;cases q:σ[i]? with
   |none=>rw[q]at h;cases h
   |some u=>rw[q]at h;simp only[Option.join_some]at h;rw[h]
section
variable {N':Xa}{ix:List (Option Nat)}{scope:Scope}{cl:List (Str×Xd)}{fp:List Xd}
theorem R7 (I:Inv X aa σ H s) (hf:aO X.env.scope scope X.N N' ix) (c1:∀x c,cl.lookup x=some c->X.env.cells.lookup x=some c) (c2:∀y∈scope.names,y.2=.free->∃c,cl.lookup y.1=some c)
  (hC:s.heap.objs.size<=C) (gX:∀b∈fp,EL X aa H b) (hlt:∀b∈fp,b<s.heap.objs.size):(AX X N' scope cl s H C fp (X.pn++aa)).Ok where
 mod:=I.mod
 kind:=hf.kind
 glob:=I.ok.glob
 blt:=I.ok.blt
 above:=hC
 inj:=λx y c e1 e2=>I.ok.inj x y c (c1 x c e1) (c1 y c e2)
 has:=λx h=>by
  have hm:(x,NameKind.free)∈scope.names:=GM (env:=X.env) hf.nocell h;exact c2 (x,.free) hm rfl
 iV:=λx c h=>by cases h
 hd:=I.ok.hd
 frames:=I.ok.frames
 gm:=.inl rfl
 exf:=λb hb=>⟨ZC (Z2 (hlt b hb) hC),λx c e=>(gX b hb).2.2.2.2.1 x c (c1 x c e)⟩
 bs:=I.bs
 gL:=Nat.le_trans I.ok.gL I.sz
 gc:=λb o e hb=>by
  rcases (gX b hb).2.2.2.1 with z |z
  ·exact I.ok.gc b o e z
  ·exact absurd (Z2 (Z2 (lt_size e) I.ok.gL) z) (ZF _)
 fh:=λb hb z=>by
  rcases mem_cons.mp (I.dz b z)with e |e
  ·exact(gX b hb).2.1 e
  ·exact(gX b hb).2.2.1 e
 dn:=I.stack
 ie:=I.stkFree
theorem Eb (I:Inv X aa σ H s) (hf:aO X.env.scope scope X.N N' ix) (c1:∀x c,cl.lookup x=some c->X.env.cells.lookup x=some c) (c2:∀y∈scope.names,y.2=.free->∃c,cl.lookup y.1=some c)
  (hC:s.heap.objs.size<=C) (gX:∀b∈fp,EL X aa H b) (hlt:∀b∈fp,b<s.heap.objs.size) {dG:Heap}{tk:Nat}{m:SV} (old:∀b o,s.heap.get? b=some o->dG.get? b=some o) (jP:dG.Ns C m) :
  Inv (AX X N' scope cl s H C fp (X.pn++aa)) [] (Bd ix σ) H { s with heap:=dG,toks:=tk } where
 ok:=R7 I hf c1 c2 hC gX hlt
 os:=rfl
 bare:=I.bare
 base:=Un.kept old
 loc:=⟨m,jP,λj x v e1 e2 e3=>by
  obtain⟨i,ei,ev⟩:=R6 e2;obtain⟨hN,cb⟩:=hf.slot j x i e1 ei;obtain⟨mX,_,hl⟩:=I.loc
  have hm:(x,NameKind.free)∈scope.names:=by
   have:∀ {l:List (Str×NameKind)}{k:NameKind},l.lookup x=some k->(x,k)∈l:=λ{l k}=>by
    induction l with
    |nil=>intro e;simp at e
    |cons y r ih =>
     intro e;obtain⟨n,kk⟩:=y;cases hx:x==n with
     |true =>
      simp only[Zz,hx,Option.some.injEq]at e;have:x=n:=by simpa using hx
      subst this e;exact ZI
     |false =>
      simp only[Zz,hx]at e;exact ZR _ (ih e)
   exact this cb
  have hk:=hf.free _ hm rfl;obtain⟨u,r,q⟩:=hl i x v hN ev (.inr hk);refine⟨u,r,.inr ⟨EQ (env:=X.env) cb,?_⟩⟩;obtain⟨c,hc⟩:=c2 _ hm rfl;refine⟨c,hc,?_⟩;rcases q with⟨k,_⟩ |⟨_,c',iz,z⟩
  ·have k':X.env.scope.names.lookup x=some .local:=k;rcases hk with a |a <;> (rw[k']at a;cases a)
  ·rw[c1 x c hc]at iz;cases iz
   exact z.keeps old⟩
 cell:=λx c e=>by
  obtain⟨v,z⟩:=I.cell x c (c1 x c e);exact⟨v,z.keeps old⟩
 free:=I.aE.fresh hC
 cG:=λx c e=>I.cG x c (c1 x c e)
 pin:=λp hp=>by
  have hp':p∈X.pn++aa:=by
   have z:=hp;rw[Zt]at z;exact z
  obtain⟨e,n,ne,nf,d⟩:=I.pin p hp';refine⟨old _ _ e,n,ZC (Z2 (lt_size e) hC),λz=>?_,d⟩;rcases mem_cons.mp (I.dz p.1 z)with q |q
  ·exact ne q
  ·exact nf q
 aE:=I.aE.kept old
 len:=by
  show(Bd ix σ).length=N'.length;unfold Bd;rw[AJ];exact hf.len
theorem Fo {pins':LO}{aJ:St}{s':Xe} (I:Inv X aa σ H s) (gX:∀b∈fp,EL X aa H b) (J:Inv (AX X N' scope cl s H C fp (X.pn++aa)) pins' aJ H' s'):Inv X aa σ H' s' :=
 I.call' (ch:=fp) J.os J.base J.aE J.bare λb hb=>⟨(gX b hb).2.2.2.1,(gX b hb).2.1,(gX b hb).2.2.2.2.1,(gX b hb).2.2.2.2.2⟩
end
def gU (X:Cx) (ifs:List Expr) (t:TT):Prop :=
 ∀(aa:LO) (s:Xe) (σ:St) (H:Hp) (Q:Bool->Hp->Prop),Inv X aa σ H s->t σ H Q ->
  wpAny (model X.prog X.w) X.A (forIn ifs true λc r=>if r=true then do let ok ←isTrue c X.env (eval c X.env);pure (ForInStep.yield ok)else pure (ForInStep.yield r)) (TP X aa σ Q) X.xe s
def Wa:TT:=λ_ H Q=>Q true H
theorem Bu:gU X [] Wa:=λaa s σ H Q I h=>wpAny_tests_nil ⟨H,I,h⟩
theorem FE {c:Expr}{t:TT} (h:PT X c t):gU X [c] t:=λaa s σ H Q I q=>wpAny_tests_one (h aa s σ H Q I q)
def Dt (wi:TI) (g:TG) (tt:TT) (te:TE) (ix:List (Option Nat)) (R:Xc->Hp->Prop):St->Hp->Prop:=λσ H=>wi σ H λJ H1=>∃W:Nat->Nat->Xc->Hp->Prop,(∃m,W 0 m [] H1)/\∀i m ys H,W i m ys H ->
 (J.stop i H/\ys.length<=sizeLine/\R ys H) \/
 (J.go i H/\∃N:Xc->Hp->Prop,(∀bZ H',N bZ H'->bZ.length<=sizeLine/\∃m',m'<m/\W (i+1) m' bZ H') /\
  ∀x H',J.gE i H x H'->g x (Bd ix σ) H' λbM H2=>tt bM H2 λb H3=>if b=true then te bM H3 λy H4=>N (ys++[y]) H4 else N ys H3)
def jb (X:Cx) (tg:Expr) (ix:List (Option Nat)) (g:TG):Prop :=
 ∀(aa:LO) (s:Xe) (σ:St) (H:Hp) (v:V) (u:Value) (Q:St->Hp->Prop),Inv X aa (Bd ix σ) H s->RelV v u->g v (Bd ix σ) H Q ->
  wpAny (model X.prog X.w) X.A (assign tg X.env u) (λ_ s'=>∃aJ H',Inv X aa aJ H' s'/\(∀(j:Nat) (v:V),(Bd ix σ)[j]?=some (some v)->aJ[j]?=some (some v))/\Q aJ H') X.xe s
theorem FF {fQ:List (Option Nat)} (h:PG X (.Name x pos) (Cb 0)):jb X (.Name x pos) (none::fQ) (Cb 0):=by
 intro aa s σ H v u Q I r q;refine aF (h aa s _ H v u (λaJ H'=>(∀(j:Nat) (v:V),(Bd (none::fQ) σ)[j]?=some (some v)->aJ[j]?=some (some v))/\Q aJ H') I r ⟨λj w e=>?_,q⟩) λ_ s' ⟨aJ,H',I',k,q⟩=>⟨aJ,H',I',k,q⟩;cases j with
 |zero=>cases e
 |succ j=>exact e
theorem KR {tg:Expr}{fQ:List (Option Nat)} (h:PG X tg (Rq K 2 (Go (Cb 0) (Go (Cb 1) Rp)))):jb X tg (none::none::fQ) (Rq K 2 (Go (Cb 0) (Go (Cb 1) Rp))):=by
 intro aa s σ H v u Q I r q;obtain⟨a,xs,e1,e2,e3,v1,r1,e4,v2,r2,e5,e6,q⟩:=q;refine aF (h aa s _ H v u (λaJ H'=>(∀(j:Nat) (v:V),(Bd (none::none::fQ) σ)[j]?=some (some v)->aJ[j]?=some (some v))/\Q aJ H') I r ⟨a,xs,e1,e2,e3,v1,r1,e4,v2,r2,e5,e6,λj w e=>?_,q⟩) λ_ s' ⟨aJ,H',I',k,q⟩=>⟨aJ,H',I',k,q⟩
 match j with
 |0=>cases e
 |1=>cases e
 |j+2=>exact e
structure TV (RD:Cx->Prop) (P:Program) (w:World) (K:FG) (tg:Expr) (J:It) (fp:List Xd) (it:Xd) (tn:Nat->Heap->Prop):Prop where
 obj:∀i h,tn i h->∀b∈fp,∃o,h.get? b=some o/\∀v,o.data≠ .cell v
 keep:∀i h h',tn i h->(∀b∈fp,∀o,h.get? b=some o->h'.get? b=some o)->tn i h'
 item:∀(X:Cx),X.prog=P->X.w=w->X.K=K->RD X->∀(i:Nat) (aa:LO) (s:Xe) (σ:St) (H:Hp) (E:VS),Inv X aa σ H s->(∀b∈fp,EL X aa H b)->tn i s.heap->J.go i H ->
  wpAny (model P w) X.A (pyNext (.ref it)) (λr s1=>∃u,r=some u/\wpAny (model P w) X.A (letOwnedTupleGo tg (.ref it) u) (λ_ s2=>∃x H',Inv X aa σ H' s2/\RelV x u/\J.gE i H x H'/\tn (i+1) s2.heap/\∀b∈fp,H' b=none) E s1) E s
 done:∀(X:Cx),X.prog=P->X.w=w->X.K=K->RD X->∀(i:Nat) (aa:LO) (s:Xe) (σ:St) (H:Hp) (E:VS),Inv X aa σ H s->(∀b∈fp,EL X aa H b)->tn i s.heap->J.stop i H ->
  wpAny (model P w) X.A (pyNext (.ref it)) (λr s1=>r=none/\Inv X aa σ H s1) E s
 self:∀(A:Around) (i:Nat) (s:Xe) (Q:VS) (E:VS),tn i s.heap->Q (.ref it) s->wpAny (model P w) A (pyIter (.ref it)) Q E s
def PIg (RD:Cx->Prop) (X:Cx) (tg iter:Expr) (wi:TI):Prop:=∀(aa:LO) (s:Xe) (σ:St) (H:Hp) (R:It->Hp->Prop),Inv X aa σ H s->wi σ H R ->
 wpAny (model X.prog X.w) X.A (eval iter X.env) (λv s1=>wpAny (model X.prog X.w) X.A (pyIter v) (λjN s2=>∃(it:Xd) (fp:List Xd) (tn:Nat->Heap->Prop) (J:It) (H':Hp),jN=.ref it/\Inv X aa σ H' s2/\TV RD X.prog X.w X.K tg J fp it tn/\tn 0 s2.heap/\(∀b∈fp,EL X aa H' b)/\R J H') X.xe s1) X.xe s
theorem PI.g {tg iter:Expr}{wi:TI} (h:PI X tg iter wi):PIg (λX=>X.calm=true) X tg iter wi:=λaa s σ H R I q =>
 aF (h aa s σ H R I q) λv s1 z=>aF z λjN s2 ⟨it,fp,tn,J,H',e,I',T,r⟩=>⟨it,fp,tn,J,H',e,I',⟨T.obj,T.keep,T.item,T.done,T.self⟩,r⟩
section
variable {tg iter elt:Expr}{ifs:List Expr}{scope:Scope}{pos':Pos}{N':Xa}{ix:List (Option Nat)}{wi:TI}{g:TG}{tt:TT}
theorem B9 {α:Type}{M:Model}{t:Sem α}{Q:α->Xe->Prop} (h:wpAny M A t Q (λ_ _=>False) s):wpAny M A t Q E s :=
 Zv h (λ_ _ q=>q) λ_ _ z=>z.elim
theorem Ik {RD:Cx->Prop}{use:Option (Value->Sem Unit)}{Qv:VS} (hf:aO X.env.scope scope X.N N' ix) (hc:∀cl s H C fp aa,RD (AX X N' scope cl s H C fp (X.pn++aa))) (hi:PIg RD X tg iter wi)
  (hg:∀cl s H C fp pn,jb (AX X N' scope cl s H C fp pn) tg ix g) (ht:∀cl s H C fp pn,gU (AX X N' scope cl s H C fp pn) ifs tt) (he:∀cl s H C fp pn,PE (AX X N' scope cl s H C fp pn) elt te)
  (hs:∀x,foldedSetIterable iter X.env x=pure x) {aa:LO}{s:Xe}{σ:St}{H:Hp}{R:Xc->Hp->Prop} (I:Inv X aa σ H s) (h:Dt wi g tt te ix R σ H)
  (ce:∀s' ys H' D C m,Inv X aa σ (upd H' D (.lst ys)) s'->R ys H'->H' D=none->s'.heap.Ns C m->X.aW.heap.objs.size<=C->C≠X.env.locals->(∀x c,X.env.cells.lookup x=some c->c≠C)->(∀p∈X.pn++aa,p.1≠C) ->
   upd H' D (.lst ys) C=none->compPost (model X.prog X.w) X.A X.xe use Qv (.ref D) C (.ok .next) s') :
  wpAny (model X.prog X.w) X.A (comprehension (.ListComp elt [⟨tg,iter,ifs,0⟩] scope pos) scope X.env pos' (newList []) false (eval iter X.env) use) Qv X.xe s:=by
 obtain⟨cl,cf,c1,c2⟩:=JZ (env:=X.env) (scope:=scope) λy hy hyf=>by
  have:=hf.free y hy hyf;exact I.ok.has y.1 this
 refine wpAny_comprehension_free (use:=use) Zj hs cf hf.kind hf.loc (aF (hi aa s σ H _ I h) λv s1 h1=>aF h1 λjN s2 h2=>?_);obtain⟨it,fp,tn,J,H2,e,I2,T,ip,f2,W,⟨m0,w0⟩,turn⟩:=h2;subst e
 have hlt:∀b∈fp,b<s2.heap.objs.size:=λb hb=>by
  obtain⟨o,e,_⟩:=T.obj _ _ ip b hb;exact lt_size e
 refine wpAny_newObj_type (wpAny_newFunctionEnv hf.nocell (by intro y hy;simp at hy) (λdG cZ cH=>?_) hf.kind)
 dsimp only at cZ cH ⊢
 generalize iT:s2.heap.push { cls:=.type "list", dict:=none,data:=.seq ([]:Xb).toArray }=HP at cZ cH ⊢;have hC:HP.objs.size=s2.heap.objs.size+1:=by rw[←iT,Heap.size_push]
 have gJ:s2.heap.objs.size≠HP.objs.size:=by rw[hC];exact ZC (Nat.lt_succ_self _)
 have du:s2.heap.objs.size<=HP.objs.size:=by rw[hC];exact Nat.le_succ _
 have hCne:∀b,b<s2.heap.objs.size->b≠HP.objs.size:=λb hb=>by rw[hC];exact ZC (Nat.lt_succ_of_lt hb)
 have old:∀b o,s2.heap.get? b=some o->dG.get? b=some o:=λb o e=>cH.extBut b o (hCne b (lt_size e)) (ZX _ (iT ▸ ZX _ e));have bo:dG.get? s2.heap.objs.size=some { cls:=.type "list", dict:=none,data:=.seq ([]:Xb).toArray }:=cH.extBut _ _ gJ (ZX _ (iT ▸ ZN _ rfl));generalize hCC:HP.objs.size=C at *;generalize d6:s2.heap.objs.size=D at *;have IX:=Eb (N':=N') (fp:=fp) I2 hf c1 c2 (by rw[d6];exact du) f2 (by rw[d6];exact hlt) (tk:=s2.toks+([]:List (Str×Value)).length) old cZ;have hDn:H2 D=none:=I2.aE.fresh (by rw[d6];exact Zy _)
 have gH:D∉ di X.stack:=λz=>by
  rcases mem_cons.mp (I2.dz D z)with q |q
  ·have:=I2.lt;rw[←q,d6]at this;exact ZF _ this
  ·exact I2.nofs (by rw[d6];exact Zy _) q
 have c9:∀x c,X.env.cells.lookup x=some c->c<D:=λx c e=>by
  obtain⟨v,z⟩:=I2.cell x c e;rw[←d6];exact z.lt
 have d5:∀p∈X.pn++aa,p.1<D:=λp hp=>by rw[←d6];exact lt_size (I2.pin p hp).1
 have jI:X.aW.heap.objs.size<=D:=by rw[←d6];exact I2.sz
 have eY:X.env.locals<D:=by rw[←d6];exact I2.lt
 let X':Cx:=AX X N' scope cl s2 H2 C fp (X.pn++aa)
 have eE:∀ {H':Hp}{ob:Obj},(∀b∈fp,H' b=none)->∀b∈fp,EL X' [(D,ob)] H' b:=λ{H' ob} hn b hb=>by
  refine⟨hn b hb,ZC (Z2 (hlt b hb) du),λz=>?_,.inl hb,λx c e=>(f2 b hb).2.2.2.2.1 x c (c1 x c e),λp hp=>?_⟩
  ·exact IX.ok.fh b hb z
  ·rcases mem_append.mp hp with z |z
   ·exact(f2 b hb).2.2.2.2.2 p z
   ·have e:p=(D,ob):=by simpa using z
    subst e;exact Nat.ne_of_gt (hlt b hb)
 have pinD:∀ {aJ:St}{H':Hp}{s':Xe}{ob:Obj},Inv X' [] aJ H' s'->s'.heap.get? D=some ob->H' D=none->(∀v,ob.data≠ .cell v)->Inv X' [(D,ob)] aJ H' s':=λ{aJ H' s' ob} Ia e n d =>
  Ia.bY λp hp=>by
   have q:p=(D,ob):=by simpa using hp
   subst q;exact⟨e,n,gJ,gH,d⟩
 have loop:∀s3:Xe,s3={ s2 with heap:=dG,toks:=s2.toks+([]:List (Str×Value)).length } ->
   codeAny (model X.prog X.w) X.A (.compLoop (.ListComp elt [⟨tg,iter,ifs,0⟩] scope pos) 0 (.ref it) (.ref D) (compEnvC scope cl C X.env)) (compPost (model X.prog X.w) X.A X.xe use Qv (.ref D) C) s3:=by
  rintro s3 rfl
  refine codeAny_loop Zj (λn s'=>∃i ys its k H',Inv X' [(D,({ cls:=.type "list", data:=.seq (List.toArray its) k }:Obj))] (Bd ix σ) H' s'/\tn i s'.heap/\(∀b∈fp,H' b=none)/\W i n ys H'/\Vals ys its)
   (λn s4 hI=>?_) m0 ⟨0,[],[],_,H2,pinD IX bo hDn (λv z=>by cases z),T.keep _ _ _ ip (λb _ o e=>old b o e),λb hb=>(f2 b hb).1,w0,.nil⟩
  obtain⟨i,ys,its,k,H4,I4,jG,jV,w4,rv⟩:=hI;show wpAny _ X.A ((compTurn (.ListComp elt [⟨tg,iter,ifs,0⟩] scope pos) 0 (.ref it) (.ref D) (compEnvC scope cl C X.env)).onRaise (λx=>do noteFrame x (compEnvC scope cl C X.env);theTreesLotGoes x)) _ _ s4;refine wpAny_noted ?_;rw[compTurn_list];refine B9 ?_;rcases turn i n ys H4 w4 with⟨stop,hz,r⟩ |⟨go,N,hN,step⟩
  ·refine Zx (ZJ (Zx (aF (T.done X' Zj Zj Zj (hc _ _ _ _ _ _) i _ s4 _ H4 _ I4 (eE jV) jG stop) λr' s5 ⟨hr,I5⟩=>?_)));subst hr;have pD:=I5.pin (D,_) (ZT _ ZI);have Ib:Inv X aa σ H4 s5:=Fo I2 f2 I5;have Ic:Inv X aa σ (upd H4 D (.lst ys)) s5:=Ib.track pD.2.1 (Nat.ne_of_gt eY) (.inr jI) (λx c e=>ZC (c9 x c e)) (λp hp=>ZC (d5 p hp)) ⟨hz,its,k,rv,pD.1⟩;obtain⟨m5,n5,_⟩:=I5.loc
   refine Zw (ce s5 ys H4 D C m5 Ic r pD.2.1 n5 (Nat.le_trans jI du) (Nat.ne_of_gt (Z2 eY du)) (λx c e=>ZC (Z2 (c9 x c e) du))
    (λp hp=>ZC (Z2 (d5 p hp) du)) ?_)
   rw[AH (Ne.symm gJ)];exact I5.free
  ·refine Zx (ZJ (Zx (aF (T.item X' Zj Zj Zj (hc _ _ _ _ _ _) i _ s4 _ H4 _ I4 (eE jV) jG go) λr' s5 ⟨u,hr,h5⟩=>?_)));subst hr;refine Zx (aF h5 λ_ s6 ⟨x,H6,I6,r6,y6,iM,fr6⟩=>?_);have I6':=I6.pinned (eE fr6) (T.obj _ _ iM);refine Zx (aF (hg _ _ _ _ _ _ _ s6 _ H6 x u _ I6' r6 (step x H6 y6)) λ_ s7 ⟨eF,H7,I7,k7,q7⟩=>?_);refine Zx (aF (ht _ _ _ _ _ _ _ s7 eF H7 _ I7 q7) λb s8 ⟨H8,I8,q8⟩=>?_)
   have again:∀ {H9:Hp}{s9:Xe}{bZ:Xc}{its':Xb}{k':Nat},Inv X' ([(D,({ cls:=.type "list", data:=.seq (List.toArray its') k' }:Obj))]++Bj fp s6.heap) eF H9 s9->Vals bZ its' ->
     (∃m',m'<n/\W (i+1) m' bZ H9)->∃m,m<n/\∃i ys its k H',Inv X' [(D,({ cls:=.type "list", data:=.seq (List.toArray its) k }:Obj))] (Bd ix σ) H' s9/\tn i s9.heap/\(∀b∈fp,H' b=none)/\W i m ys H'/\Vals ys its:=by
    intro H9 s9 bZ its' k' I9 rv' ⟨m',hm,w9⟩;refine⟨m',hm,i+1,bZ,its',k',H9,I9.unpinned.weak (I4.len.trans I9.len.symm) k7,T.keep _ _ _ iM λb hb o e=>(I9.pin (b,o) (ZT _ (ZT _ (BV hb e)))).1,λb hb=>?_,w9,rv'⟩;obtain⟨o,e,d⟩:=T.obj _ _ iM b hb;exact(I9.pin (b,o) (ZT _ (ZT _ (BV hb e)))).2.1
   cases b with
   |false =>
    rw[Zq Bool.false_ne_true]at q8;exact Zw ⟨Zj,again I8 rv (hN _ _ q8).2⟩
   |true =>
    rw[Zp rfl]at q8;refine Zx (Zx (aF (he _ _ _ _ _ _ _ s8 eF H8 _ I8 q8) λy s9 ⟨z,H9,I9,r9,q9⟩=>?_))
    have hz:ys.length<sizeLine:=by
     have:=(hN _ _ q9).1;rw[ZH,length_singleton]at this;omega
    have pD:=I9.pin (D,_) (ZT _ (ZP _ ZI));have a0:=rv.length;refine Zx (call_meets F.slot_list_append ⟨_,pD.1,Zj⟩ F.entry_list_append (F.args_list_append_2 _ _) (PySem.list_append D its.toArray k y (by rw[size_toArray];omega)) ⟨pD.1,Zw (Zw ⟨Zj,?_⟩)⟩);have eq':its.toArray.push y=(its++[y]).toArray:=by simp
    obtain⟨k',q⟩:∃k',(s9.heap.update D (Obj.mapSeq (·.push y))).get? D=some { cls:=.type "list", data:=.seq (its++[y]).toArray k' }:=⟨_,by rw[←eq'];exact PySem.IsL.update pD.1 (·.push y)⟩;have Iw:Inv X' (Bj fp s6.heap) eF H9 s9:=I9.bY λp hp=>I9.pin p (ZT _ (ZT _ hp))
    have It:Inv X' (Bj fp s6.heap) eF H9 { s9 with heap:=s9.heap.update D (Obj.mapSeq (·.push y)),toks:=s9.toks }:=Iw.turned (it:=D) (λb o hb e=>(ZW s9.heap (Obj.mapSeq (·.push y)) (Ne.symm hb)).trans e) pD.2.1 gJ
     (.inr (by show s2.heap.objs.size<=D;rw[d6];exact Zy _)) (λx c e=>ZC (c9 x c (c1 x c e))) (λp hp=>by
      rcases mem_append.mp hp with z' |z'
      ·exact ZC (d5 p z')
      ·exact ZC (hlt p.1 (D9 z').1))
    refine again (its':=its++[y]) (k':=k') (It.bY λp hp=>?_) (rv.append (.cons r9 .nil)) (hN _ _ q9).2;rcases mem_append.mp hp with z' |z'
    ·have e:p=(D,({ cls:=.type "list", data:=.seq (its++[y]).toArray k' }:Obj)):=by simpa using z'
     subst e;exact⟨q,pD.2.1,gJ,gH,λv z=>by cases z⟩
    ·exact It.pin p (ZT _ z')
 exact codeAny_compStart_list (loop _ Zj) (T.self _ 0 _ _ _ (T.keep _ _ _ ip λb _ o e=>old b o e) (loop _ Zj))
theorem Il {RD:Cx->Prop} (hf:aO X.env.scope scope X.N N' ix) (hc:∀cl s H C fp aa,RD (AX X N' scope cl s H C fp (X.pn++aa))) (hi:PIg RD X tg iter wi)
  (hg:∀cl s H C fp pn,jb (AX X N' scope cl s H C fp pn) tg ix g) (ht:∀cl s H C fp pn,gU (AX X N' scope cl s H C fp pn) ifs tt) (he:∀cl s H C fp pn,PE (AX X N' scope cl s H C fp pn) elt te)
  (hs:∀x,foldedSetIterable iter X.env x=pure x:=by intro _;rfl) :
  PE X (.ListComp elt [⟨tg,iter,ifs,0⟩] scope pos) (λσ H Q=>Dt wi g tt te ix (λys H'=>∀p,H' p=none->Q (.ref p) (upd H' p (.lst ys))) σ H):=by
 intro aa s σ H Q I h;rw[eval_ListComp];refine Ik (use:=none) hf hc hi hg ht he hs I h λs' ys H' D C m I' r hD hn h1 h2 h3 h4 h5=>?_;refine⟨m,hn,λh'' hs''=>⟨.ref D,_,I'.turned (it:=C) (t':=s'.toks) (λb o hb e=>(hs''.2 b hb).trans e) h5 h2 (.inr h1) h3 h4,Zj,r D hD⟩⟩
theorem KS (hf:aO X.env.scope scope X.N N' ix) (hc:X.calm=true) (hi:PI X tg iter wi)
  (hg:∀cl s H C fp pn,jb (AX X N' scope cl s H C fp pn) tg ix g) (ht:∀cl s H C fp pn,gU (AX X N' scope cl s H C fp pn) ifs tt) (he:∀cl s H C fp pn,PE (AX X N' scope cl s H C fp pn) elt te)
  (hs:∀x,foldedSetIterable iter X.env x=pure x:=by intro _;rfl) :
  PE X (.ListComp elt [⟨tg,iter,ifs,0⟩] scope pos) (λσ H Q=>Dt wi g tt te ix (λys H'=>∀p,H' p=none->Q (.ref p) (upd H' p (.lst ys))) σ H):=Il hf (λ_ _ _ _ _ _=>hc) hi.g hg ht he hs
theorem P6 {i:Nat}{py spos:Pos} (hN:X.N.Nodup) (i0:X.N[i]?=some x) (hx:X.env.scope.names.lookup x=some .local) (hsw:swapsWith (.ListComp elt [⟨tg,iter,ifs,0⟩] scope pos) (some (.Name x py)) spos.line X.env=pure true)
  (hf:aO X.env.scope scope X.N N' ix) (hc:X.calm=true) (hi:PI X tg iter wi)
  (hg:∀cl s H C fp pn,jb (AX X N' scope cl s H C fp pn) tg ix g) (ht:∀cl s H C fp pn,gU (AX X N' scope cl s H C fp pn) ifs tt) (he:∀cl s H C fp pn,PE (AX X N' scope cl s H C fp pn) elt te)
  (hs:∀x,foldedSetIterable iter X.env x=pure x:=by intro _;rfl) :
  PS X (.Assign [.Name x py] (.ListComp elt [⟨tg,iter,ifs,0⟩] scope pos) spos) (λD σ H=>Dt wi g tt te ix (λys H'=>∀p,H' p=none->D.nx (σ.set i (some (.ref p))) (upd H' p (.lst ys))) σ H):=by
 intro aa s σ H D I h;rw[exec_Assign_Name_used _ _ _ _ hsw];refine Zx (ZJ (Zx ?_));show wpAny _ X.A (do let _ ←comprehension (.ListComp elt [⟨tg,iter,ifs,0⟩] scope pos) scope X.env _ (newList []) false (eval iter X.env) (some (assign (.Name x py) X.env))) _ _ s;refine Zx (aF (Ik (use:=some (assign (.Name x py) X.env)) (Qv:=λ_ s'=>SP X aa D .next s') hf (λ_ _ _ _ _ _=>hc) hi.g hg ht he hs I h λs' ys H' Da C m I' r hD hn h1 h2 h3 h4 h5=>?_) λ_ s' hq=>Zw (Zw hq));show wpAny _ X.A (assign (.Name x py) X.env (.ref Da)) _ _ _;refine wpAny_assign_Name (IQ (v:=.ref Da) I' hN i0 (.inl hx) Zj (λjk I'' ⟨a,hsb,ha⟩=>?_) (.inr hx))
 have hCa:C≠a:=by
  rcases ha with z |z
  ·rw[z];exact h2
  ·exact(h3 x a z).symm
 refine⟨m,hn.sameBut hsb hCa,λh'' hs''=>?_⟩;exact⟨_,_,I''.turned (it:=C) (t':=jk.toks) (λb o hb e=>(hs''.2 b hb).trans e) h5 h2 (.inr h1) h3 h4,r Da hD⟩
end
abbrev g2 (K:FG):TG:=Rq K 2 (Go (Cb 0) (Go (Cb 1) Rp))
section
variable {iter elt:Expr}{ifs:List Expr}{scope:Scope}{px py pt:Pos}{wi:TI}{tt:TT}{y:Str}{kt:Nat}
theorem Bv (Nc:Xa) (fQ:List (Option Nat)) (hf:GG X.env.scope scope X.N (x::Nc) (none::fQ)=true) (gW:(x::Nc).Nodup) (hx:scope.names.lookup x=some .local) (hc:X.calm=true) (hi:PI X (.Name x px) iter wi)
  (ht:∀cl s H C fp pn,gU (AX X (x::Nc) scope cl s H C fp pn) ifs tt) (he:∀cl s H C fp pn,PE (AX X (x::Nc) scope cl s H C fp pn) elt te) (hs:∀x,foldedSetIterable iter X.env x=pure x:=by intro _;rfl) :
  PE X (.ListComp elt [⟨.Name x px,iter,ifs,0⟩] scope pos) (λσ H Q=>Dt wi (Cb 0) tt te (none::fQ) (λys H'=>∀p,H' p=none->Q (.ref p) (upd H' p (.lst ys))) σ H) :=
 KS (aO.of hf) hc hi (λcl s H C fp pn=>FF (AV (i:=0) gW rfl (.inl (Z5 hx)) (.inr (Z5 hx)))) ht he hs
theorem HC (Nc:Xa) (fQ:List (Option Nat)) (hf:GG X.env.scope scope X.N (x::y::Nc) (none::none::fQ)=true) (gW:(x::y::Nc).Nodup) (hx:scope.names.lookup x=some .local) (hy:scope.names.lookup y=some .local) (hc:X.calm=true)
  (hi:PI X (.Tuple [.Name x px,.Name y py] kt pt) iter wi)
  (ht:∀cl s H C fp pn,gU (AX X (x::y::Nc) scope cl s H C fp pn) ifs tt) (he:∀cl s H C fp pn,PE (AX X (x::y::Nc) scope cl s H C fp pn) elt te) (hs:∀x,foldedSetIterable iter X.env x=pure x:=by intro _;rfl) :
  PE X (.ListComp elt [⟨.Tuple [.Name x px,.Name y py] kt pt,iter,ifs,0⟩] scope pos) (λσ H Q=>Dt wi (g2 X.K) tt te (none::none::fQ) (λys H'=>∀p,H' p=none->Q (.ref p) (upd H' p (.lst ys))) σ H) :=
 KS (aO.of hf) hc hi (λcl s H C fp pn=>KR (Bc (X:=AX X (x::y::Nc) scope cl s H C fp pn) hc (AY (AV (i:=0) gW rfl (.inl (Z5 hx)) (.inr (Z5 hx)))
  (AY (AV (i:=1) gW rfl (.inl (Z5 hy)) (.inr (Z5 hy))) BE)))) ht he hs
theorem P7 {i:Nat}{z:Str}{pz spos:Pos} (hN:X.N.Nodup) (i0:X.N[i]?=some z) (hz:X.env.scope.names.lookup z=some .local) (Nc:Xa) (fQ:List (Option Nat)) (hf:GG X.env.scope scope X.N (x::Nc) (none::fQ)=true) (gW:(x::Nc).Nodup)
  (hx:scope.names.lookup x=some .local) (hc:X.calm=true) (hi:PI X (.Name x px) iter wi)
  (ht:∀cl s H C fp pn,gU (AX X (x::Nc) scope cl s H C fp pn) ifs tt) (he:∀cl s H C fp pn,PE (AX X (x::Nc) scope cl s H C fp pn) elt te)
  (hsw:swapsWith (.ListComp elt [⟨.Name x px,iter,ifs,0⟩] scope pos) (some (.Name z pz)) spos.line X.env=pure true:=by rfl) (hs:∀x,foldedSetIterable iter X.env x=pure x:=by intro _;rfl) :
  PS X (.Assign [.Name z pz] (.ListComp elt [⟨.Name x px,iter,ifs,0⟩] scope pos) spos) (λD σ H=>Dt wi (Cb 0) tt te (none::fQ) (λys H'=>∀p,H' p=none->D.nx (σ.set i (some (.ref p))) (upd H' p (.lst ys))) σ H) :=
 P6 hN i0 hz hsw (aO.of hf) hc hi (λcl s H C fp pn=>FF (AV (i:=0) gW rfl (.inl (Z5 hx)) (.inr (Z5 hx)))) ht he hs
end
theorem DF {g:TG}{tt:TT}{ix:List (Option Nat)}{R:Xc->Hp->Prop}{H1:Hp} (Pv:Nat->Xc->Hp->Prop) (h0:Pv 0 [] H1) (hl:∀i ys H,i<=xs.length->Pv i ys H->aK K H a xs) (hz:∀i ys H,Pv i ys H->ys.length<=1000)
  (hs:∀i x ys H,xs[i]?=some x->Pv i ys H->g x (Bd ix σ) H λbM H2=>tt bM H2 λb H3=>if b=true then te bM H3 λy H4=>Pv (i+1) (ys++[y]) H4 else Pv (i+1) ys H3) (hd:∀ys H,Pv xs.length ys H->R ys H) :
  ∃W:Nat->Nat->Xc->Hp->Prop,(∃m,W 0 m [] H1)/\∀i m ys H,W i m ys H ->
   ((iH K a).stop i H/\ys.length<=sizeLine/\R ys H) \/
   ((iH K a).go i H/\∃N:Xc->Hp->Prop,(∀bZ H',N bZ H'->bZ.length<=sizeLine/\∃m',m'<m/\W (i+1) m' bZ H') /\
    ∀x H',(iH K a).gE i H x H'->g x (Bd ix σ) H' λbM H2=>tt bM H2 λb H3=>if b=true then te bM H3 λy H4=>N (ys++[y]) H4 else N ys H3):=by
 refine⟨λi m ys H=>m=xs.length - i/\i<=xs.length/\Pv i ys H,⟨_,Zj,Nat.zero_le _,h0⟩,?_⟩;rintro i m ys H ⟨rfl,hi,hp⟩;by_cases hlt:i<xs.length
 ·have hx:xs[i]?=some xs[i]:=Z7 hlt;refine .inr ⟨⟨xs,xs[i],hl i ys H hi hp,hx⟩,Pv (i+1),λbZ H' q=>⟨Nat.le_of_lt (AL (hz _ bZ H' q)),xs.length - (i+1),qe,Zj,hlt,q⟩,?_⟩;rintro x H' ⟨rfl,hy⟩
  have ex:x=xs[i]:=by
   have:=hy xs (hl i ys H' hi hp);rw[hx]at this;exact(Option.some.inj this).symm
  subst ex;exact hs i xs[i] ys H' hx hp
 ·have e:i=xs.length:=by omega
  subst e;exact .inl ⟨⟨xs,hl _ ys H hi hp,Zy _⟩,Nat.le_of_lt (AL (hz _ ys H hp)),hd ys H hp⟩
theorem KU {g:TG}{tt:TT}{ix:List (Option Nat)}{R:Xc->Hp->Prop}{H1:Hp} (Pv:Nat->Xc->Hp->Prop) (h0:Pv 0 [] H1) (hl:∀i ys H,i<=xs.length->Pv i ys H->aQ K H a xs) (hz:∀i ys H,Pv i ys H->ys.length<=1000)
  (hs:∀i x ys H,xs[i]?=some x->Pv i ys H->g x (Bd ix σ) H λbM H2=>tt bM H2 λb H3=>if b=true then te bM H3 λy H4=>Pv (i+1) (ys++[y]) H4 else Pv (i+1) ys H3) (hd:∀ys H,Pv xs.length ys H->R ys H) :
  ∃W:Nat->Nat->Xc->Hp->Prop,(∃m,W 0 m [] H1)/\∀i m ys H,W i m ys H ->
   ((Itt K a).stop i H/\ys.length<=sizeLine/\R ys H) \/
   ((Itt K a).go i H/\∃N:Xc->Hp->Prop,(∀bZ H',N bZ H'->bZ.length<=sizeLine/\∃m',m'<m/\W (i+1) m' bZ H') /\
    ∀x H',(Itt K a).gE i H x H'->g x (Bd ix σ) H' λbM H2=>tt bM H2 λb H3=>if b=true then te bM H3 λy H4=>N (ys++[y]) H4 else N ys H3):=by
 refine⟨λi m ys H=>m=xs.length - i/\i<=xs.length/\Pv i ys H,⟨_,Zj,Nat.zero_le _,h0⟩,?_⟩;rintro i m ys H ⟨rfl,hi,hp⟩;by_cases hlt:i<xs.length
 ·have hx:xs[i]?=some xs[i]:=Z7 hlt;refine .inr ⟨⟨xs,xs[i],hl i ys H hi hp,hx⟩,Pv (i+1),λbZ H' q=>⟨Nat.le_of_lt (AL (hz _ bZ H' q)),xs.length - (i+1),qe,Zj,hlt,q⟩,?_⟩;rintro x H' ⟨rfl,hy⟩
  have ex:x=xs[i]:=by
   have:=hy xs (hl i ys H' hi hp);rw[hx]at this;exact(Option.some.inj this).symm
  subst ex;exact hs i xs[i] ys H' hx hp
 ·have e:i=xs.length:=by omega
  subst e;exact .inl ⟨⟨xs,hl _ ys H hi hp,Zy _⟩,Nat.le_of_lt (AL (hz _ ys H hp)),hd ys H hp⟩
theorem Ec {lo:Int}{n:Nat}{g:TG}{tt:TT}{ix:List (Option Nat)}{R:Xc->Hp->Prop}{H1:Hp} (Pv:Nat->Xc->Hp->Prop) (h0:Pv 0 [] H1) (hz:∀i ys H,Pv i ys H->ys.length<=1000)
  (hs:∀(i:Nat) ys H,i<n->Pv i ys H->g (.int (lo+i)) (Bd ix σ) H λbM H2=>tt bM H2 λb H3=>if b=true then te bM H3 λy H4=>Pv (i+1) (ys++[y]) H4 else Pv (i+1) ys H3) (hd:∀ys H,Pv n ys H->R ys H) :
  ∃W:Nat->Nat->Xc->Hp->Prop,(∃m,W 0 m [] H1)/\∀i m ys H,W i m ys H ->
   ((jB lo n).stop i H/\ys.length<=sizeLine/\R ys H) \/
   ((jB lo n).go i H/\∃N:Xc->Hp->Prop,(∀bZ H',N bZ H'->bZ.length<=sizeLine/\∃m',m'<m/\W (i+1) m' bZ H') /\
    ∀x H',(jB lo n).gE i H x H'->g x (Bd ix σ) H' λbM H2=>tt bM H2 λb H3=>if b=true then te bM H3 λy H4=>N (ys++[y]) H4 else N ys H3):=by
 refine⟨λi m ys H=>m=n - i/\i<=n/\Pv i ys H,⟨_,Zj,Nat.zero_le _,h0⟩,?_⟩;rintro i m ys H ⟨rfl,hi,hp⟩;by_cases hlt:i<n
 ·refine .inr ⟨hlt,Pv (i+1),λbZ H' q=>⟨Nat.le_of_lt (AL (hz _ bZ H' q)),n - (i+1),qe,Zj,hlt,q⟩,?_⟩;rintro x H' ⟨rfl,rfl⟩;exact hs i ys H' hlt hp
 ·have e:i=n:=by omega
  subst e;exact .inl ⟨Zy _,Nat.le_of_lt (AL (hz _ ys H hp)),hd ys H hp⟩
section
variable {o:Obj}{kvs:LK}
theorem Inv.newOk (I:Inv X aa σ H s) {p:Xd} (hp:s.heap.objs.size<=p):H p=none/\p≠X.env.locals/\X.aW.heap.objs.size<=p/\(∀x c,X.env.cells.lookup x=some c->c≠p)/\∀q∈X.pn++aa,q.1≠p :=
 ⟨I.aE.fresh hp,Nat.ne_of_gt (Z2 I.lt hp),Nat.le_trans I.sz hp,λx c e=>by
  obtain⟨v,z⟩:=I.cell x c e
  exact ZC (Z2 z.lt hp),λq hq=>ZC (Z2 (lt_size (I.pin q hq).1) hp)⟩
theorem Inv.freeze (I:Inv X aa σ H s) (h:H a=some (.dK kvs)):∃o,Inv X aa σ (upd H a (.cQ o (.dK kvs))) s:=by
 obtain⟨z,y,vs,r,ob,es,ep,e,rest⟩:=I.aE a _ h;refine⟨ob,?_⟩;exact I.write (x:=a) (e:=a) (o:=.cQ ob (.dK kvs)) (h':=s.heap) (t':=s.toks) (by rw[h];exact trivial) (.inl Zj) (λb u _ q=>q) ⟨ob,e⟩ ⟨e,z,y,vs,r,ob,es,ep,e,rest⟩
theorem Ed {sts:List Stmt}{t:TS} (h:eK X sts t):eK X sts (λD σ H=>∃a kvs,H a=some (.dK kvs)/\∀o,t D σ (upd H a (.cQ o (.dK kvs)))):=by
 intro aa s σ H D I ⟨a,kvs,e,k⟩;obtain⟨o,I'⟩:=I.freeze e;exact h aa s σ _ D I' (k o)
noncomputable def OY (o:Obj):Nat:=match o.data with
 | .dict _ ep=>ep
 |_=>0
theorem DH (I:Inv X aa σ H s) (h:H a=some (.cQ o (.dK kvs))):kvs.length<=sizeLine/\(a==sysModules)=false/\∃vs,KV kvs vs/\s.heap.DictAt (AU X.prog X.w) a vs (OY o):=by
 obtain⟨e,z,y,vs,r,ob,es,ep,e2,ex,d,rest⟩:=I.aE a _ h;rw[e]at e2;cases e2;refine⟨z,y,vs,r,o,es,e,ex,?_,rest⟩;show o.data=.dict es (OY o);unfold OY;rw[d]
end
theorem KV.get {κ:Type}:∀ {kvs:List (κ×V)}{vs:List (κ×Value)}{i:Nat}{kv:κ×V},KV kvs vs->kvs[i]?=some kv->∃v,vs[i]?=some (kv.1,v)/\RelV kv.2 v
 |_,_,_,_,.nil,e=>by simp at e
 |_,_,0,_,.cons r _,e=>by
  simp only[List.getElem?_cons_zero,Option.some.injEq]at e;subst e;rename_i q _ _ _;exact⟨q.2,by rw[r.1];rfl,r.2⟩
 |_,_,i+1,kv,.cons _ t,e=>by
  obtain⟨u,h1,h2⟩:=KV.get (i:=i) (kv:=kv) (show KV _ _ from t) (by simpa using e);exact⟨u,by simpa using h1,h2⟩
theorem EE {k:Key} (h:(AU P w).is k u=true):RelV (kV k) u:=by
 rcases A1 (show Gm k u=true from h)with⟨i,t,rfl,rfl⟩ |⟨x,t,rfl,rfl⟩
 ·exact⟨t,Zj⟩
 ·exact⟨t,Zj⟩
noncomputable def Iti (a:Xd) (o:Obj) (kvs:LK):It:=⟨λi H=>H a=some (.cQ o (.dK kvs))/\i<kvs.length,λi H x H'=>∃p kv,H p=none/\x=.ref p/\kvs[i]?=some kv/\H'=upd H p (.tup [kV kv.1,kv.2]),
 λi H=>H a=some (.cQ o (.dK kvs))/\kvs.length<=i⟩
theorem Lx {elts:List Expr}{k0:Nat} (a it:Xd) (o:Obj) (kvs:LK) :
  KD P w K (.Tuple elts k0 pos) (Iti a o kvs) [it] it (λi h=>∃ok ov,IsItemIter h it a i kvs.length (OY o) ok ov) where
 mem:=by simp
 obj:=λi h st b hb=>by
  have e:b=it:=by simpa using hb
  subst e;obtain⟨ok,ov,e⟩:=st;exact⟨_,e,λv z=>by cases z⟩
 keep:=λi h h' st k=>by
  obtain⟨ok,ov,e⟩:=st;exact⟨ok,ov,k it (by simp) _ e⟩
 item:=by
  intro X hP hw hK hc i aa s σ H E I hf st hg;subst hP hw hK;obtain⟨ic,hi⟩:=hg;obtain⟨z,y,vs,rel,dd⟩:=DH I ic;obtain⟨ok,ov,st⟩:=st;have a0:=rel.length;obtain⟨kv,gz⟩:∃kv,kvs[i]?=some kv:=⟨_,Z7 hi⟩;obtain⟨v,hv,rv⟩:=KV.get rel gz;obtain⟨f0,f1,f2,f3,f4,f5⟩:=hf it (by simp);rw[a0]at st;have hlt:it<s.heap.objs.size:=lt_size st;refine wpAny_pyNext_items_item st dd hv λkey h' cc eN hp hsz keep=>?_;have I1:Inv X aa σ H { s with heap:=h' }:=I.turned (t':=s.toks) keep f0 f1 f3 f4 f5;obtain⟨n1,n2,n3,n4,n5⟩:=I.newOk (Zy s.heap.objs.size);have I2:Inv X aa σ (upd H s.heap.objs.size (.tup [kV kv.1,kv.2])) { s with heap:=h' }:=I1.track n1 n2 (.inr n3) n4 n5 ⟨by show 2<=sizeLine;decide,[key,v],.cons (EE cc) (.cons rv .nil),_,hp,rfl,_,rfl⟩;have fi:(upd H s.heap.objs.size (.tup [kV kv.1,kv.2])) it=none:=by rw[AH (ZC hlt)];exact f0
  refine⟨.ref s.heap.objs.size,Zj,wpAny_letOwnedTupleGo_items eN λh'' st'' sb=>?_⟩;refine⟨.ref s.heap.objs.size,_,I2.turned (it:=it) (t':=s.toks) (λb o hb e=>(sb.2 b hb).trans e) fi f1 f3 f4 f5,Zj,⟨_,kv,n1,Zj,gz,Zj⟩,⟨key,v,by rw[a0];exact st''⟩,λb hb=>?_⟩;have e:b=it:=by simpa using hb
  rw[e];exact fi
 done:=by
  intro X hP hw hK hc i aa s σ H E I hf st hg;subst hP hw hK;obtain⟨ic,hi⟩:=hg;obtain⟨z,y,vs,rel,dd⟩:=DH I ic;obtain⟨ok,ov,st⟩:=st;have a0:=rel.length;rw[a0]at st;obtain⟨f0,f1,f2,f3,f4,f5⟩:=hf it (by simp);exact wpAny_pyNext_items_end (I.ok.hd hc) st dd (List.getElem?_eq_none_iff.mpr qe) λh' eb=>⟨Zj,I.turned (t':=s.toks) (λb o hb e=>eb b o hb e) f0 f1 f3 f4 f5⟩
 self:=λ_ _ _ _ _ st h=>by
  obtain⟨ok,ov,e⟩:=st;exact W.kcp_self e h
def UB (to:TE):TI:=λσ H R=>to σ H λx H1=>∃a o kvs,x=.ref a/\H1 a=some (.cQ o (.dK kvs))/\R (Iti a o kvs) H1
theorem P8 {elts:List Expr}{k0:Nat}{o:Expr}{to:TE}{apos d0:Pos} (ho:PE X o to) (bq:attributeBase o "items" X.env (eval o X.env)=eval o X.env:=by rfl) (bw:(apos.endLine==d0.line)=true:=by rfl) :
  PI X (.Tuple elts k0 pos) (.Call (.Attribute o "items" apos) [] [] d0) (UB to):=by
 intro aa s σ H R I h;refine wpAny_Call_method0_late bq bw (aF (ho aa s σ H _ I h) λv s1 ⟨x,H1,I1,r1,a,ob,kvs,ex,ic,q⟩=>?_);subst ex;cases r1;obtain⟨t1,t2,_⟩:=P4 I1 (.inl ⟨kvs,.inr ⟨ob,ic⟩⟩);obtain⟨z,y,vs,rel,dd⟩:=DH I1 ic;refine⟨"dict", "dict.items", PySem.F.plainAttrs_dict,PySem.F.slot_dict_items,PySem.F.type_dict_items,t1,t2,Calls.callWith_builtin rfl (PySem.evalArgs_none (call_meetsIn PySem.F.slot_dict_items t1 PySem.F.entry_dict_items (PySem.F.args_dict_items_1 _) (meets_dict_items (AU X.prog X.w) a y) ⟨⟨vs,dd.dictOf⟩,?_⟩))⟩;have I2:Inv X aa σ H1 { s1 with heap:=s1.heap.push { cls:=.type "dict_items", data:=.fields #[.ref a] } }:=I1.kept (t':=s1.toks) λb o e=>ZX _ e;refine wpAny_pyIter_items (knd:=AU X.prog X.w) (d:=a) (kvs:=vs) (ep:=OY ob) ⟨_,ZN _ rfl,rfl,rfl⟩ (dd.push _) ?_;refine⟨_,[_],_,_,H1,rfl,I2.kept (t':=s1.toks) λb o e=>ZX _ e,Lx a _ ob kvs,⟨.none,.none,by rw[rel.length];exact ZN _ rfl⟩,λb hb=>?_,q⟩;have e:b=(s1.heap.push { cls:=.type "dict_items", data:=.fields #[.ref a] }).objs.size:=by simpa using hb
 subst e;exact I2.gu (Zy _) (I2.aE.fresh (Zy _))
noncomputable def kg (K:FG) (a:Xd):It:=⟨λi H=>∃xs x,aK K H a xs/\xs[i]?=some x,λi H x H'=>∃p y,H p=none/\x=.ref p/\(∀xs,aK K H a xs->xs[i]?=some y)/\H'=upd H p (.tup [.int i,y]),λi H=>∃xs,aK K H a xs/\xs.length<=i⟩
theorem OZ {elts:List Expr}{k0:Nat} (a e it:Xd) (aw:e≠it) :
  KD P w K (.Tuple elts k0 pos) (kg K a) [e,it] e (λi h=>∃old,IsEnum h e it i old/\h.IsListIter it a i) where
 mem:=by simp
 obj:=λi h st b hb=>by
  obtain⟨old,e1,o,e2,c,d⟩:=st;have iS:b=e\/b=it:=by simpa using hb
  rcases iS with rfl |rfl
  ·exact⟨_,e1,λv z=>by cases z⟩
  ·exact⟨o,e2,λv z=>by rw[d]at z;cases z⟩
 keep:=λi h h' st k=>by
  obtain⟨old,e1,e2⟩:=st;exact⟨old,k e (by simp) _ e1,e2.at λo q=>k it (by simp) o q⟩
 item:=by
  intro X hP hw hK hc i aa s σ H E I hf st hg;subst hP hw hK;obtain⟨xs,x,hq,hx⟩:=hg;obtain⟨its,rv,p,hz⟩:=I.list hq;obtain⟨u,hu,ru⟩:=rv.get hx;obtain⟨old,s1,s2⟩:=st;obtain⟨f0,f1,f2,f3,f4,f5⟩:=hf e (by simp);obtain⟨g0,g1,g2,g3,g4,g5⟩:=hf it (by simp);have hlt:e<s.heap.objs.size:=lt_size s1;have hlt2:it<s.heap.objs.size:=by obtain⟨o,q,_⟩:=id s2;exact lt_size q
  refine wpAny_pyNext_enum_item s1 s2 p.isList (x:=u) (by simpa using hu) aw λh' eN st2' hp hsz keep=>?_
  have I1:Inv X aa σ H { s with heap:=h',toks:=s.toks+1 }:=by
   refine I.step (H':=H) (g':=s.gens) (d':=s.drawn) (ch:=[e,it]) (λb hb=>?_) (λb o _ _ hb q _=>keep b o (by simp at hb;exact hb.1) (by simp at hb;exact hb.2) q) (λb o _ _ hb q _=>⟨o.slots,keep b o (by simp at hb;exact hb.1) (by simp at hb;exact hb.2) q⟩)
    (λ_ _ _ _ n=>n) (λb o hb q=>⟨o,keep b o (by simp at hb;exact hb.1) (by simp at hb;exact hb.2) q⟩) (λ_ _ q=>q) (λ_ _ _ q=>q) (λb ps q=>⟨#[],by rw[q];simp⟩) (λm hm=>?_) (λb u q=>?_) I.bare
   ·have iS:b=e\/b=it:=by simpa using hb
    rcases iS with rfl |rfl
    ·exact⟨f3,f1,f4,f5⟩
    ·exact⟨g3,g1,g4,g5⟩
   ·obtain⟨oL,es,ep,gQ,r⟩:=hm;exact⟨oL,es,ep,keep _ oL (Ne.symm f1) (Ne.symm g1) gQ,r⟩
   ·have ne1:∀c v,H c=some v->c≠e/\c≠it:=λc v q=>⟨AI q f0,AI q g0⟩;refine(I.aE b u q).fc (λc v hc q'=>keep c v ?_ ?_ q') (λ_ q=>q) λ_ _ q=>q
    ·rcases hc with z |z
     ·rw[z];exact(ne1 b u q).1
     ·exact(ne1 c _ z).1
    ·rcases hc with z |z
     ·rw[z];exact(ne1 b u q).2
     ·exact(ne1 c _ z).2
  obtain⟨n1,n2,n3,n4,n5⟩:=I.newOk (Zy s.heap.objs.size);have I2:Inv X aa σ (upd H s.heap.objs.size (.tup [.int i,x])) { s with heap:=h',toks:=s.toks+1 }:=I1.track n1 n2 (.inr n3) n4 n5 ⟨by show 2<=sizeLine;decide,[.int i s.toks,u],.cons ⟨_,rfl⟩ (.cons ru .nil),_,hp,rfl,_,rfl⟩;have fe:(upd H s.heap.objs.size (.tup [.int i,x])) e=none:=by rw[AH (ZC hlt)];exact f0
  have fi:(upd H s.heap.objs.size (.tup [.int i,x])) it=none:=by rw[AH (ZC hlt2)];exact g0
  refine⟨.ref s.heap.objs.size,Zj,wpAny_letOwnedTupleGo_enum eN λh'' st'' sb=>?_⟩;refine⟨.ref s.heap.objs.size,_,I2.turned (it:=e) (t':=s.toks+1) (λb o hb q=>(sb.2 b hb).trans q) fe f1 f3 f4 f5,Zj,⟨_,x,n1,Zj,λys hy=>by rw[I.list_inj hy hq];exact hx,Zj⟩,⟨_,by exact_mod_cast st'',st2'.extBut sb.extBut (Ne.symm aw)⟩,λb hb=>?_⟩;have iS:b=e\/b=it:=by simpa using hb
  rcases iS with rfl |rfl
  ·exact fe
  ·exact fi
 done:=by
  intro X hP hw hK hc i aa s σ H E I hf st hg;subst hP hw hK;obtain⟨xs,hq,hx⟩:=hg;obtain⟨its,rv,p,hz⟩:=I.list hq;obtain⟨old,s1,s2⟩:=st;obtain⟨g0,g1,g2,g3,g4,g5⟩:=hf it (by simp);have hl:=rv.length;exact wpAny_pyNext_enum_end (I.ok.hd hc) s1 s2 p.isList (by simp;omega) λh' eb=>⟨Zj,I.turned (t':=s.toks) (λb o hb e=>eb b o hb e) g0 g1 g3 g4 g5⟩
 self:=λ_ _ _ _ _ st h=>by
  obtain⟨old,e1,_⟩:=st;exact wpAny_pyIter_enum e1 h
def VP (K:FG) (tl:TA):TI:=λσ H R=>tl σ H λvs H1=>∃a,vs=[.ref a]/\(∃xs,aK K H1 a xs)/\R (kg K a) H1
theorem NT {elts:List Expr}{k0:Nat}{p d0:Pos}{l:Expr}{tl:TA} (hg:Gl X "enumerate") (hm:X.mg "enumerate" = none) (hl:PA X [l] tl) (hs:starEach [l] X.env=[(false,eval l X.env)]:=by rfl) :
  PI X (.Tuple elts k0 pos) (.Call (.Name "enumerate" p) [l] [] d0) (VP X.K tl):=by
 intro aa s σ H R I h;refine Z3 (EW (u:=.type "enumerate") I hg hm qb ?_);refine PyProof.Rows.callWith_type1 (aF (hl d0 aa s σ H _ I h) λus s1 ⟨vs,H1,I1,r1,a,ev,⟨xs,hq⟩,q⟩=>?_) hs rfl;subst ev;obtain⟨u,rfl,ru⟩:=Bt r1;cases ru;obtain⟨its,rv,pl,hz⟩:=I1.list hq;refine call_enumerate_list pl.isList λh' he hi hsz keep=>?_;refine wpAny_pyIter_enum he ?_;have I2:Inv X aa σ H1 { s1 with heap:=h' }:=I1.kept (t':=s1.toks) keep;refine⟨_,[s1.heap.objs.size+1,s1.heap.objs.size],_,_,H1,rfl,I2,OZ a _ _ (Nat.succ_ne_self _),⟨_,he,hi⟩,λb hb=>?_,q⟩;have iS:b=s1.heap.objs.size+1\/b=s1.heap.objs.size:=by simpa using hb
 rcases iS with rfl |rfl
 ·exact I1.gu (Nat.le_succ _) (I1.aE.fresh (Nat.le_succ _))
 ·exact I1.gu (Zy _) (I1.aE.fresh (Zy _))
noncomputable def Its (x:Str):It:=⟨λi _=>i<x.cps.size,λi H v H'=>H'=H/\∃c,x.cps[i]?=some c/\v=.str ⟨#[c]⟩,λi _=>x.cps.size<=i⟩
theorem P9 {n:Str} (it:Xd) (x:Str) (t:Tok) :
  KD P w K (.Name n pos) (Its x) [it] it (λi h=>h.IsStrIter it "str_ascii_iterator" x t i) where
 mem:=by simp
 obj:=λi h st b hb=>by
  have e:b=it:=by simpa using hb
  subst e;obtain⟨o,e,c,d⟩:=st;exact⟨o,e,λv z=>by rw[d]at z;cases z⟩
 keep:=λi h h' st k=>by
  obtain⟨o,e,r⟩:=st;exact⟨o,k it (by simp) o e,r⟩
 item:=by
  intro X hP hw hK hc i aa s σ H E I hf st hg;subst hP hw hK;have hi:i<x.cps.size:=hg;obtain⟨f0,f1,f2,f3,f4,f5⟩:=hf it (by simp);refine wpAny_pyNext_ascii_item st (Array.getElem?_eq_getElem hi) λh' eN sb=>?_;refine⟨_,Zj,Zw ⟨.str ⟨#[x.cps[i]]⟩,H,I.turned (t':=s.toks+1) (λb o hb e=>(sb.2 b hb).trans e) f0 f1 f3 f4 f5,⟨_,Zj⟩,⟨Zj,_,Array.getElem?_eq_getElem hi,Zj⟩,eN,λb hb=>(hf b hb).1⟩⟩
 done:=by
  intro X hP hw hK hc i aa s σ H E I hf st hg;subst hP hw hK;have hi:x.cps.size<=i:=hg;obtain⟨f0,f1,f2,f3,f4,f5⟩:=hf it (by simp);exact wpAny_pyNext_ascii_end (I.ok.hd hc) st (Array.getElem?_eq_none hi) λh' eb=>⟨Zj,I.turned (t':=s.toks) (λb o hb e=>eb b o hb e) f0 f1 f3 f4 f5⟩
 self:=λ_ _ _ _ _ st h=>wpAny_pyIter_striter_ascii st h
def Wc (ts:TE):TI:=λσ H R=>ts σ H λv H1=>∃x,v=.str x/\x.cps.all (· < 128)=true/\R (Its x) H1
theorem Ly {n:Str}{ts:TE} (he:PE X e ts):PI X (.Name n pos) e (Wc ts):=by
 intro aa s σ H R I h;refine aF (he aa s σ H _ I h) λv s1 ⟨z,H1,I1,r1,x,ez,ha,q⟩=>?_;subst ez;obtain⟨t,rfl⟩:=r1;refine wpAny_pyIter_ascii ha ?_;refine⟨s1.heap.objs.size,[s1.heap.objs.size],_,_,H1,Zj,I1.kept (t':=s1.toks) λb o e=>ZX _ e,P9 _ x t,⟨_,ZN _ Zj,Zj,Zj⟩,λb hb=>?_,q⟩;have e:b=s1.heap.objs.size:=by simpa using hb
 subst e;exact I1.gu (Zy _) (I1.aE.fresh (Zy _))
theorem IE:entryFor table "proto.unchain" = some Builtin.«proto.unchain»:=entryFor_of_tree qd
section
variable {prog:Program}
theorem R8 {α:Type}{c e:Xd}{oc oe:Obj}{vc ve:Array Value}{Q:α->Xe->Prop} (hh:A.handled=some (.ref c)) (hce:c≠e) (hc:s.heap.get? c=some oc) (jQ:oc.data=.fields vc) (h2:vc[2]?=some .none)
  (he:s.heap.get? e=some oe) (hde:oe.data=.fields ve) (hz:2<ve.size) (h:E (.ref e) { s with heap:=s.heap.update e (Obj.mapFields (·.setIfInBounds 2 (.ref c))) }):wpAny (model prog w) A (raiseNew (.ref e):Sem α) Q E s:=by
 unfold raiseNew;refine Zx (wpAny_handled ?_);rw[hh]
 dsimp only
 rw[Zp (show(Value.ref c != Value.ref e)=true by simp[hce])];refine Zx (ZK (wpAny_runValue (codeAny_builtin IE ?_)));unfold Builtin.«proto.unchain»
 dsimp only
 refine Zx (wpAny_field hc jQ h2 ?_);rw[Zp qc];refine Zw ?_;show wpAny _ _ _ _ _ _;have up:=wpAny_setField (M:=model prog w) (A:=A) (E:=E) (x:=Value.ref c) (Q:=λ_ s'=>E (.ref e) s') he hde hz h;unfold setField at up;exact Zx (Zv up (λ_ s' z=>wpAny_throw z) λ_ _ z=>z)
theorem Df {it l c:Xd}{i:Nat}{xs:Array Value}{oc:Obj}{vc:Array Value}{Q:Option Value->Xe->Prop} (hh:A.handled=some (.ref c)) (hc:s.heap.get? c=some oc) (jQ:oc.data=.fields vc) (h2:vc[2]?=some .none) (hci:c≠it)
  (hI:s.heap.IsListIter it l i) (hL:s.heap.IsList l xs) (hx:xs[i]?=none) (fin:∀h',Heap.ExtBut it s.heap h'->Q none { s with heap:=h' }):wpAny (model prog w) A (pyNext (.ref it)) Q E s:=by
 obtain⟨o,ho,oc1,hd⟩:=id hI;obtain⟨ol,hol,_,nl,hdl⟩:=hL;unfold pyNext;refine Zx (wpAny_attempt (wpAny_callSpecial?_slot (name:=Str.ofString "__next__") hI.typeIs slot_listiter_next (wpAny_call_entry slot_listiter_next hI.typeIs entry_listiter_next ?_ (args_listiter_next _))));show wpAny _ _ (field (.ref it) 0 >>= _) _ _ s;refine Zx (wpAny_field (x:=.ref l) ho hd Zj ?_);show wpAny _ _ (if (Value.ref l==Value.none)=true then _ else _) _ _ s;rw[Zq (by simp:¬ (Value.ref l==Value.none)=true)];show wpAny _ _ (field (.ref it) 1 >>= _) _ _ s;refine Zx (wpAny_field (x:=.int i 0) ho hd Zj ?_);show wpAny _ _ (seqItems? (.ref l) >>= _) _ _ s;refine Zx (wpAny_seqItems hol hdl ?_);simp only[Int.toNat_natCast,hx];refine Zx (wpAny_rule (Zx (wpAny_setField ho hd (by simp) ?_)));show wpAny _ _ (newExc (.type "StopIteration") [] >>= raiseNew) _ _ _;refine Zx ?_;simp only[newExc,newTuple];refine Zx (wpAny_newObj_type ?_ (by size_fits));refine Zx (m:=firstArgMember _ _) (wpAny_of_eq (a:=Value.none) (by first |rfl | (simp only[firstArgMember];rfl)) (wpAny_newObj_type ?_ (by size_fits)));have k1:=(ZW s.heap (Obj.mapFields (·.setIfInBounds 0 Value.none)) (Ne.symm hci)).trans hc;refine R8 (c:=c) (show A.in1.handled=_ from hh) (λz=>?_) (ZX _ (ZX _ k1)) jQ h2 (ZN _ Zj) Zj (by simp;omega) ?_
 ·have:=lt_size (ZX { cls:=.type "tuple", data:=.seq #[] } k1);rw[z]at this;exact absurd this (ZF _)
 ·refine Zx (wpAny_isInstance (T := "StopIteration") (b:=true) ⟨_,ZU _ (ZN _ Zj) Zj,Zj⟩ isSubtype_stop ?_);refine Zw (fin _ λb u hb z=>?_);have z1:=(ZW s.heap (Obj.mapFields (·.setIfInBounds 0 Value.none)) (Ne.symm hb)).trans z;have z2:=ZX { cls:=.type "tuple", data:=.seq #[] } z1;rw[ZW _ _ (Nat.ne_of_gt (lt_size z2))];exact ZX _ z2
end
def Sft (X:Cx):Prop:=∃e oe vs,X.A.handled=some (.ref e)/\(e,oe)∈X.pn/\oe.data=.fields vs/\vs[2]?=some .none
def iG (X:Cx):Prop:=X.calm=true\/Sft X
theorem iG.comp {N':Xa}{scope:Scope}{cl:List (Str×Xd)}{fp:List Xd} (h:iG X):iG (AX X N' scope cl s H C fp (X.pn++aa)):=by
 rcases h with h |⟨e,oe,vs,a,b,c,d⟩
 ·exact .inl h
 ·exact .inr ⟨e,oe,vs,a,ZP _ b,c,d⟩
section
theorem QA {it l:Xd}{i:Nat}{xs:Array Value}{Q:Option Value->Xe->Prop} (hc:iG X) (I:Inv X aa σ H s) (hf:EL X aa H it) (hI:s.heap.IsListIter it l i) (hL:s.heap.IsList l xs) (hx:xs[i]?=none)
  (fin:∀h',Heap.ExtBut it s.heap h'->Q none { s with heap:=h' }):wpAny (model X.prog X.w) X.A (pyNext (.ref it)) Q E s:=by
 rcases hc with hc |⟨e,oe,vs,a,b,c,d⟩
 ·exact wpAny_pyNext_list_end (I.ok.hd hc) hI hL hx fin
 ·exact Df a (I.pin (e,oe) (ZP _ b)).1 c d (hf.2.2.2.2.2 (e,oe) (ZP _ b)) hI hL hx fin
end
theorem Lz {tg:Expr} (a it:Xd):TV iG P w K tg (iH K a) [it] it (λi h=>h.IsListIter it a i):=by
 have T:=IR (P:=P) (w:=w) (K:=K) (tg:=tg) a it;refine⟨T.obj,T.keep,?_,?_,T.self⟩
 ·intro X hP hw hK hc i aa s σ H E I hf st hg;subst hP hw hK;obtain⟨xs,x,hq,hx⟩:=hg;obtain⟨its,rv,p,hz⟩:=I.list hq;obtain⟨u,hu,ru⟩:=rv.get hx;obtain⟨f0,f1,f2,f3,f4,f5⟩:=hf it (by simp);refine wpAny_pyNext_list_item st p.isList (x:=u) (by simpa using hu) λh' eN sb=>?_;obtain⟨o,e,c,d⟩:=id eN;exact⟨u,Zj,KF (s:={ s with heap:=h' }) e c d qc ⟨x,H,I.turned (t':=s.toks) (λb o hb e=>(sb.2 b hb).trans e) f0 f1 f3 f4 f5,ru,⟨Zj,λys hy=>by rw[I.list_inj hy hq];exact hx⟩,eN,λb hb=>(hf b hb).1⟩⟩
 ·intro X hP hw hK hc i aa s σ H E I hf st hg;subst hP hw hK;obtain⟨xs,hq,hx⟩:=hg;obtain⟨its,rv,p,hz⟩:=I.list hq;have f:=hf it (by simp);have hl:=rv.length;exact QA hc I f st p.isList (by simp;omega) λh' eb=>⟨Zj,I.turned (t':=s.toks) (λb o hb e=>eb b o hb e) f.1 f.2.1 f.2.2.2.1 f.2.2.2.2.1 f.2.2.2.2.2⟩
section
variable {iter elt:Expr}{ifs:List Expr}{scope:Scope}{px:Pos}{wi:TI}{tt:TT}
theorem QB {tg l:Expr}{tl:TE} (hl:PE X l tl):PIg iG X tg l (Pk X.K tl):=by
 intro aa s σ H R I h;refine aF (hl aa s σ H _ I h) λv s1 ⟨x,H1,I1,r1,a,e,⟨xs,hq⟩,q⟩=>?_;subst e;cases r1;obtain⟨its,rv,p,hz⟩:=I1.list hq;refine wpAny_pyIter_list p.isList ⟨s1.heap.objs.size,[s1.heap.objs.size],_,_,H1,Zj,I1.kept (t':=s1.toks) λb o e=>ZX _ e,Lz a _,⟨_,ZN _ Zj,Zj,Zj⟩,λb hb=>?_,q⟩;obtain rfl:b=s1.heap.objs.size:=by simpa using hb
 exact I1.gu (Zy _) (I1.aE.fresh (Zy _))
theorem Oa (Nc:Xa) (fQ:List (Option Nat)) (hf:GG X.env.scope scope X.N (x::Nc) (none::fQ)=true) (gW:(x::Nc).Nodup) (hx:scope.names.lookup x=some .local) (hc:iG X) (hi:PIg iG X (.Name x px) iter wi)
  (ht:∀cl s H C fp pn,gU (AX X (x::Nc) scope cl s H C fp pn) ifs tt) (he:∀cl s H C fp pn,PE (AX X (x::Nc) scope cl s H C fp pn) elt te) (hs:∀x,foldedSetIterable iter X.env x=pure x:=by intro _;rfl) :
  PE X (.ListComp elt [⟨.Name x px,iter,ifs,0⟩] scope pos) (λσ H Q=>Dt wi (Cb 0) tt te (none::fQ) (λys H'=>∀p,H' p=none->Q (.ref p) (upd H' p (.lst ys))) σ H) :=
 Il (aO.of hf) (λ_ _ _ _ _ _=>hc.comp) hi (λcl s H C fp pn=>FF (AV (i:=0) gW rfl (.inl (Z5 hx)) (.inr (Z5 hx)))) ht he hs
end
theorem MA {p:Xd}{its:Xb} (hc:iG X) (I:Inv X aa σ H s) (pl:s.heap.IsList p its.toArray):∃fp St,Walks X.prog X.w X.A.in1 s.heap.objs.size fp [s.heap.objs.size] its.toArray.size (λi v=>its.toArray[i]?=some v) St /\
  St 0 (s.heap.push { cls:=.type "list_iterator", data:=.fields #[.ref p,.int 0 0] })/\∀b∈fp,b<s.heap.objs.size+1:=by
 have hp:p<s.heap.objs.size:=by obtain⟨o,e,_⟩:=id pl;exact lt_size e
 have jH:(s.heap.push { cls:=.type "list_iterator", data:=.fields #[.ref p,.int 0 0] }).IsListIter s.heap.objs.size p 0/\(s.heap.push { cls:=.type "list_iterator", data:=.fields #[.ref p,.int 0 0] }).IsList p its.toArray :=
  ⟨⟨_,ZN _ rfl,rfl,rfl⟩,pl.at λo e=>ZX _ e⟩
 rcases hc with hc |⟨e,oe,vs,a,b,c,d⟩
 ·refine⟨_,_,Walks.list (A:=X.A.in1) (show X.A.in1.handled=none from I.ok.hd hc) _ p (ZC hp) its.toArray,jH,λb hb=>?_⟩;have z:b=s.heap.objs.size\/b=p:=by simpa using hb
  rcases z with rfl |rfl
  ·exact Nat.lt_succ_self _
  ·exact Nat.lt_succ_of_lt hp
 ·have he:=(I.pin (e,oe) (ZP _ b)).1;have hlt:=lt_size he;refine⟨[s.heap.objs.size,p,e],λi h=>(h.IsListIter s.heap.objs.size p i/\h.IsList p its.toArray)/\h.get? e=some oe,⟨λb hb=>by simp at hb;simp[hb],λi h h' st k=>⟨⟨st.1.1.at λo z=>k _ (by simp) o z,st.1.2.at λo z=>k _ (by simp) o z⟩,k e (by simp) oe st.2⟩,?_,?_,λ_ _ _ _ st hQ=>wpAny_pyIter_listiter st.1.1 hQ⟩,⟨jH,ZX _ he⟩,λb hb=>?_⟩
  ·intro i s1 Q E hi st hQ;refine wpAny_pyNext_list_item st.1.1 st.1.2 (x:=its.toArray[i]) (by simp[hi]) λh' t1 t2=>?_;exact hQ _ h' s1.toks (by simp[hi]) ⟨⟨t1,st.1.2.extBut t2.extBut (ZC hp)⟩,t2.extBut e oe (ZC hlt) st.2⟩ λb o hb z=>t2.extBut b o (λy=>hb (by simp[y])) z
  ·intro s1 Q E st hQ;exact Df (show X.A.in1.handled=_ from a) st.2 c d (ZC hlt) st.1.1 st.1.2 (by simp) λh' z=>hQ h' s1.toks λb o hb y=>z b o (λy'=>hb (by simp[y'])) y
  ·have z:b=s.heap.objs.size\/b=p\/b=e:=by simpa using hb
   rcases z with rfl |rfl |rfl
   ·exact Nat.lt_succ_self _
   ·exact Nat.lt_succ_of_lt hp
   ·exact Nat.lt_succ_of_lt hlt
noncomputable def QC (a p:Xd):HO:=.ext λh=>h.IsValuesView p a
section
variable {o:Expr}{to:TE}{name:Str}{apos d0:Pos}{id:String}{r:V->Xc->Hp->VK->Prop}
theorem UC (slot:Slot "dict" name id) (hty:typeOf (.builtin id)=pure (.type "method_descriptor")) (hm:MtR X id r) (ho:PE X o to)
  (bq:attributeBase o name X.env (eval o X.env)=eval o X.env:=by rfl) (bw:(apos.endLine==d0.line)=true:=by rfl) :
  PE X (.Call (.Attribute o name apos) [] [] d0) (λσ H Q=>to σ H λx H1=>∃a,x=.ref a/\IsD H1 a/\r x [] H1 Q):=by
 intro aa s σ H Q I h;refine wpAny_Call_method0_late bq bw (aF (ho aa s σ H _ I h) λv s1 ⟨x,H1,I1,r1,a,ex,d,q1⟩=>?_);subst ex;cases r1;obtain⟨t1,t2,_⟩:=P4 I1 d;exact⟨"dict", id,PySem.F.plainAttrs_dict,slot,hty,t1,t2,Calls.callWith_builtin Zj (PySem.evalArgs_none (hm aa s1 σ H1 (.ref a) [] (.ref a) [] Q I1 Zj .nil q1))⟩
theorem Ob:MtR X "dict.values" (λx xs H Q=>∃a kvs,x=.ref a/\xs=[]/\Rd H a (.dK kvs)/\∀p,H p=none->Q (.ref p) (upd H p (QC a p))):=by
 intro aa s σ H x xs v us Q I rx rs h;obtain⟨a,kvs,rfl,rfl,hd,q⟩:=h;cases rx;cases rs;obtain⟨z,y,vs,rel,dd⟩:=Ds I.aE hd;refine call_meetsIn PySem.F.slot_dict_values dd.typeIs PySem.F.entry_dict_values (PySem.F.args_dict_values_1 _) (meets_dict_values (AU X.prog X.w) a y) ⟨⟨vs,dd⟩,?_⟩;refine⟨.ref s.heap.objs.size,_,I.laid (t':=s.toks) (o:=QC a s.heap.objs.size) (λb o e=>ZX _ e) (Zy _) ⟨⟨_,ZN _ Zj,Zj,Zj⟩,⟨_,ZN _ Zj⟩,λh1 h2 z k=>?_⟩,Zj,q _ (I.aE.fresh (Zy _))⟩;obtain⟨ob,e,r⟩:=z;exact⟨ob,k ob e,r⟩
theorem DI {α β:Type}{F:α->β->Prop}:∀ {xs:List α}{ys:List β},xs.length=ys.length->(∀(j:Nat) x y,xs[j]?=some x->ys[j]?=some y->F x y)->Paired F xs ys
 | [],[],_,_=>.nil
 | [],_::_,h,_=>by simp at h
 |_::_,[],h,_=>by simp at h
 |x::xs,y::ys,h,k=>.cons (k 0 x y rfl rfl) (DI (by simpa using h) λj a b ea eb=>k (j+1) a b (by simpa using ea) (by simpa using eb))
theorem MB (hc:X.calm=true):aZ X (.type "list") (λxs H Q=>∃a kvs,xs=[.ref a]/\Rd H a (.dK kvs)/\∀l,H l=none->Q (.ref l) (upd H l (.lst (kvs.map λkv=>kV kv.1)))):=by
 intro aa s σ H xs us Q I r h;obtain⟨a,kvs,rfl,hd,q⟩:=h;obtain⟨u,rfl,ru⟩:=Bt r;cases ru;obtain⟨z,y,vs,rel,dd⟩:=Ds I.aE hd;obtain⟨ep,da⟩:=dd.dictAt;have hl:=rel.length;refine W.kdl_call (W.kdl_dict (knd:=AU X.prog X.w) (kvs:=vs) (ep:=ep) y) (I.ok.hd hc) da (by rw[←hl];exact z) λh' tk acc c' keep e hit=>?_;refine⟨.ref s.heap.objs.size,_,I.laid (t':=tk) keep (Zy _) (show aS X.prog X.w _ h' _ (.lst (kvs.map λkv=>kV kv.1))from⟨by rw[AJ];exact z,acc.toList,c',?_,by rw[Array.toArray_toList];exact e⟩),Zj,q _ (I.aE.fresh (Zy _))⟩
 refine DI (by have e0:acc.toList.length=acc.size:=by simp
               rw[AJ,e0,hit.1,hl]) λj v w' ev ew=>?_
 rw[Array.getElem?_toList]at ew;obtain⟨k,x,ex,hk⟩:=hit.2 j w' ew;rw[ZE]at ev;cases e2:kvs[j]? with
 |none=>rw[e2]at ev;cases ev
 |some kv =>
  rw[e2]at ev;simp only[Option.map_some,Option.some.injEq]at ev;obtain⟨v2,dZ,_⟩:=KV.get rel e2;rw[ex]at dZ;simp only[Option.some.injEq,Prod.mk.injEq]at dZ;rw[←ev,←dZ.1];exact EE hk
theorem MC (hc:X.calm=true):aZ X (.type "list") (λxs H Q=>∃p a kvs,xs=[.ref p]/\H p=some (QC a p)/\Rd H a (.dK kvs)/\∀l,H l=none->Q (.ref l) (upd H l (.lst (kvs.map (·.2))))):=by
 intro aa s σ H xs us Q I r h;obtain⟨p,a,kvs,rfl,hp,hd,q⟩:=h;obtain⟨u,rfl,ru⟩:=Bt r;cases ru;obtain⟨z,y,vs,rel,dd⟩:=Ds I.aE hd;obtain⟨ep,da⟩:=dd.dictAt;obtain⟨hv,_⟩:=I.aE p _ hp;have hl:=rel.length;refine W.kdl_call (W.kdl_values (knd:=AU X.prog X.w) (d:=a) (kvs:=vs) (ep:=ep)) (I.ok.hd hc) ⟨hv,da⟩ (by rw[←hl];exact z) λh' tk acc c' keep e hit=>?_;refine⟨.ref s.heap.objs.size,_,I.laid (t':=tk) keep (Zy _) (show aS X.prog X.w _ h' _ (.lst (kvs.map (·.2)))from⟨by rw[AJ];exact z,acc.toList,c',?_,by rw[Array.toArray_toList];exact e⟩),Zj,q _ (I.aE.fresh (Zy _))⟩
 refine DI (by have e0:acc.toList.length=acc.size:=by simp
               rw[AJ,e0,hit.1,hl]) λj v w' ev ew=>?_
 rw[Array.getElem?_toList]at ew;obtain⟨k,ex⟩:=hit.2 j w' ew;rw[ZE]at ev;cases e2:kvs[j]? with
 |none=>rw[e2]at ev;cases ev
 |some kv =>
  rw[e2]at ev;simp only[Option.map_some,Option.some.injEq]at ev;obtain⟨v2,dZ,rv2⟩:=KV.get rel e2;rw[ex]at dZ;simp only[Option.some.injEq,Prod.mk.injEq]at dZ;rw[←ev,dZ.2];exact rv2
theorem Ja (hc:X.calm=true):aZ X (.builtin "sorted") (λxs H Q=>∃a kvs,xs=[.ref a]/\Rd H a (.dK kvs)/\kvs.length<64/\(∀kv∈kvs,∃i,kv.1=Sum.inl i) /\
  ∀(l:Xd) (ns:List Int),H l=none->ns.Perm (kvs.map λkv=>match kv.1 with |Sum.inl i=>i |Sum.inr _=>0)->ns.Pairwise (· <= ·)->Q (.ref l) (upd H l (.lst (ns.map V.int)))):=by
 intro aa s σ H xs us Q I r h;obtain⟨a,kvs,rfl,hd,h64,hk,q⟩:=h;obtain⟨u,rfl,ru⟩:=Bt r;cases ru;obtain⟨z,y,vs,rel,dd⟩:=Ds I.aE hd;obtain⟨ep,da⟩:=dd.dictAt;have hl:=rel.length;refine Calls.call_function_entry kind_sorted plain_sorted entry_sorted (args_sorted1 _) ?_;unfold Builtin.«sorted»;refine Zx (m:=checkCount "sorted" 1 1 _) (Zw ?_);refine Zx (W.kdu_collect (A:=X.A.in1) (W.kdl_dict (knd:=AU X.prog X.w) (kvs:=vs) (ep:=ep) y) (I.ok.hd hc) da (by rw[←hl];exact z) λh' tk acc keep hit=>?_)
 have hal:acc.toList.length=kvs.length:=by
  have e0:acc.toList.length=acc.size:=by simp
  rw[e0,hit.1,hl]
 refine Zx (wpAny_newList ?_ (by rw[hal];exact z))
 have bv:IntsAre acc.toList (kvs.map λkv=>match kv.1 with |Sum.inl i=>i |Sum.inr _=>0):=by
  refine DQ (DI (by rw[AJ,AJ,hal]) λj v w' ev ew=>?_);rw[Array.getElem?_toList]at ew;obtain⟨k,x,ex,hkk⟩:=hit.2 j w' ew;rw[ZE,ZE]at ev;cases e2:kvs[j]? with
  |none=>rw[e2]at ev;cases ev
  |some kv =>
   rw[e2]at ev;simp only[Option.map_some,Option.some.injEq]at ev;obtain⟨v2,dZ,_⟩:=KV.get rel e2;rw[ex]at dZ;simp only[Option.some.injEq,Prod.mk.injEq]at dZ;obtain⟨i,hi⟩:=hk kv (ZQ e2);rw[dZ.1,hi]at hkk;rw[←ev,hi];exact EE hkk
 have I1:Inv X aa σ H { s with heap:=h',toks:=tk }:=I.kept keep;have gQ:(h'.push { cls:=.type "list", data:=.seq acc.toList.toArray }).get? h'.objs.size=some (seqObj "list" acc.toList.toArray 0):=ZN _ rfl;refine Zx (ZK (wpAny_call_entry slot_list_sort ⟨_,gQ,Zj⟩ entry_list_sort (list_sort_tree gQ bv (by rw[hal];exact h64) λout iN a1 a2 a3=>⟨_,Zj,?_⟩) (args_list_sort _)));refine Zw ⟨_,Zj,?_⟩;have hn:H h'.objs.size=none:=I1.aE.fresh (Zy _);have a0:iN.length=kvs.length:=by rw[a2.length_eq,AJ]
 refine⟨.ref h'.objs.size,_,I1.laid (t':=tk) (o:=.lst (iN.map V.int)) (h':=sortedHeap (h'.push { cls:=.type "list", data:=.seq acc.toList.toArray }) h'.objs.size acc.toList out) (λb o e=>?_) (Zy _) ⟨by rw[AJ,a0];exact z,out.toList,?_⟩,Zj,q _ iN hn a2 a3⟩
 ·rw[sortedHeap_old (ZC (lt_size e)) (lt_size (ZX _ e))];exact ZX _ e
 ·obtain⟨c,hcx⟩:=sortedHeap_at (out:=out) gQ;exact⟨c,ED a1,by rw[Array.toArray_toList];exact hcx⟩
end
section
theorem HD (hc:X.calm=true):aZ X (.builtin "all") (λxs H Q=>∃(p:Xd) (bs:List Bool),xs=[.ref p]/\aK X.K H p (bs.map V.bl)/\Q (.bl (bs.all id)) H):=by
 intro aa s σ H xs us Q I r h;obtain⟨p,bs,rfl,hq,q⟩:=h;obtain⟨u,rfl,ru⟩:=Bt r;cases ru;obtain⟨its,rv,pl,hz⟩:=I.list hq;have hp:p<s.heap.objs.size:=by obtain⟨o,n,e,_⟩:=id pl;exact lt_size e
 have a0:bs.length=its.length:=by have:=rv.length;rw[AJ]at this;exact this
 refine call_all_walk (wpAny_pyIter_list pl.isList ?_);refine⟨_,_,_,_,_,_,λi=>bs.getD i false,Zj,Walks.list (A:=X.A.in1) (show X.A.in1.handled=none from I.ok.hd hc) _ p (ZC hp) its.toArray,⟨⟨_,ZN _ Zj,Zj,Zj⟩,pl.isList.at λo e=>ZX _ e⟩,λi v s' Q' E' hP hQ=>?_,λh' tk keep=>?_⟩
 ·have hv:its[i]?=some v:=by simpa using hP
  have hi:i<its.length:=(Z8.mp hv).1;have hb:bs[i]?=some (bs[i]'qe):=Z7 qe;obtain⟨u',hu',ru'⟩:=rv.get (i:=i) (x:=V.bl (bs[i]'qe)) (by rw[ZE,hb];rfl);rw[hv]at hu';cases hu';cases (show v=Value.bool _ from ru');refine Z0 ?_;have hQ':Q' (bs.getD i false) s':=hQ;rw[getD_eq_getElem?_getD,hb]at hQ';exact hQ'
 ·have I1:Inv X aa σ H { s with heap:=h',toks:=tk }:=I.kept λb o e=>keep b o (by simp;exact ZC (lt_size e)) (ZX _ e);refine⟨.bl _,H,I1,Zj,?_⟩
  have e:(List.range its.toArray.size).all (λi=>bs.getD i false)=bs.all id:=by
   rw[size_toArray,←a0,Bool.eq_iff_iff,List.all_eq_true,List.all_eq_true];constructor
   ·intro h b hb;obtain⟨i,hi,rfl⟩:=List.mem_iff_getElem.mp hb;have:=h i (mem_range.mpr hi);rw[getD_eq_getElem?_getD,Z7 hi]at this;exact this
   ·intro h i hi;have i0:=mem_range.mp hi;rw[getD_eq_getElem?_getD,Z7 i0];exact h _ (getElem_mem i0)
  rw[e];exact q
theorem Du (ns:List Int):∀k,k<=ns.length->preSum (λi=>ns.getD i 0) k=(ns.take k).sum
 |0,_=>by simp[preSum]
 |k+1,h=>by
  have ih:=Du ns k qe;have hk:k<ns.length:=by omega
  simp only[preSum,ih];rw[ZD,Z7 hk,sum_append];simp[getD_eq_getElem?_getD,Z7 hk]
theorem Im (hc:iG X):aZ X (.builtin "sum") (λxs H Q=>∃(p:Xd) (ns:List Int),xs=[.ref p]/\aK X.K H p (ns.map V.int)/\(∀n∈ns,0<=n)/\ns.sum<2 ^ 62/\Q (.int ns.sum) H):=by
 intro aa s σ H xs us Q I r h;obtain⟨p,ns,rfl,hq,hnn,hsum,q⟩:=h;obtain⟨u,rfl,ru⟩:=Bt r;cases ru;obtain⟨its,rv,pl,hz⟩:=I.list hq;have hp:p<s.heap.objs.size:=by obtain⟨o,n,e,_⟩:=id pl;exact lt_size e
 have a0:ns.length=its.length:=by have:=rv.length;rw[AJ]at this;exact this
 have tk0:∀k,0<=(ns.take k).sum:=λk=>by
  have:∀l:List Int,(∀n∈l,0<=n)->0<=l.sum:=λl=>by
   induction l with
   |nil=>intro _;simp
   |cons a r ih=>intro h;rw[sum_cons];have:=h a ZI;have:=ih λn hn=>h n (ZR _ hn);omega
  exact this _ λn hn=>hnn n (mem_of_mem_take hn)
 have tkle:∀k,(ns.take k).sum<=ns.sum:=λk=>by
  have e:ns.sum=(ns.take k).sum+(ns.drop k).sum:=by rw[←sum_append,List.take_append_drop]
  have:∀l:List Int,(∀n∈l,0<=n)->0<=l.sum:=λl=>by
   induction l with
   |nil=>intro _;simp
   |cons a r ih=>intro h;rw[sum_cons];have:=h a ZI;have:=ih λn hn=>h n (ZR _ hn);omega
  have:=this _ λn hn=>hnn n (List.mem_of_mem_drop (i:=k) hn);omega
 refine call_sum_walk (wpAny_pyIter_list pl.isList ?_);obtain⟨fp,St,W,jH,gX⟩:=MA hc I pl.isList;refine⟨_,_,_,_,_,_,λi=>ns.getD i 0,Zj,W,jH,λb hb=>?_,λi v hP=>?_,λj hj=>?_,λh' tk t' keep=>?_⟩
 ·have hs:(s.heap.push { cls:=.type "list_iterator", data:=.fields #[.ref p,.int 0 0] }).objs.size=s.heap.objs.size+1:=Heap.size_push ..;show b<(s.heap.push { cls:=.type "list_iterator", data:=.fields #[.ref p,.int 0 0] }).objs.size;rw[hs];exact gX b hb
 ·have hv:its[i]?=some v:=by simpa using hP
  have hi:i<its.length:=(Z8.mp hv).1;have hb:ns[i]?=some (ns[i]'qe):=Z7 qe;obtain⟨u',hu',t,ru'⟩:=rv.get (i:=i) (x:=V.int (ns[i]'qe)) (by rw[ZE,hb];rfl);rw[hv]at hu';cases hu';refine⟨t,?_⟩;show v=Value.int (ns.getD i 0) t;rw[ru',getD_eq_getElem?_getD,hb];rfl
 ·have hj':j<ns.length:=by rw[size_toArray]at hj;omega
  rw[Du ns (j+1) qe];have h1:=tk0 (j+1);have h2:=tkle (j+1);have h3:ns.getD j 0=ns[j]:=by rw[getD_eq_getElem?_getD,Z7 hj'];rfl
  have h4:=hnn _ (getElem_mem hj');have h5:(ns.take (j+1)).sum=(ns.take j).sum+ns[j]:=by rw[ZD,Z7 hj',sum_append];simp
  have h6:=tk0 j;show InLong (ns.getD j 0)/\InLong _;unfold InLong;rw[h3];omega
 ·have I1:Inv X aa σ H { s with heap:=h',toks:=tk }:=I.kept λb o e=>keep b o (by simp;exact ZC (lt_size e)) (ZX _ e);refine⟨.int ns.sum,H,I1,⟨t',?_⟩,q⟩;rw[size_toArray,←a0,Du ns ns.length (Zy _),ZB]
theorem QD (hc:X.calm=true):aZ X (.builtin "sum") (λxs H Q=>∃(p:Xd) (ns:List Int),xs=[.ref p]/\aK X.K H p (ns.map V.int)/\(∀n∈ns,0<=n)/\ns.sum<2 ^ 62/\Q (.int ns.sum) H):=Im (.inl hc)
theorem Jb:MtR X "int.bit_length" (λx xs H Q=>∃i,x=.int i/\xs=[]/\Q (.int (Builtin.Int.intBits i)) H):=by
 intro aa s σ H x xs v us Q I rx rs h;obtain⟨i,rfl,rfl,q⟩:=h;obtain⟨t,rfl⟩:=rx;cases rs;exact call_int_bit_length ⟨.int _,H,I.tok _,⟨_,Zj⟩,q⟩
theorem CY:dc X (compareOp .LtE) (λx y H Q=>∃i j,x=.str i/\y=.str j/\Q (.bl (!decide (j.cps.toList<i.cps.toList))) H):=by
 intro aa s σ H x y v u Q I rx ry h;obtain⟨i,j,rfl,rfl,q⟩:=h;obtain⟨t,rfl⟩:=rx;obtain⟨t',rfl⟩:=ry;exact PySem.P.le_str (Am I q Zj)
theorem IF:MtR X "dict.setdefault" (λx xs H Q=>∃a kvs k v,x=.ref a/\xs=[kV k,v]/\H a=some (.dK kvs)/\kvs.length<sizeLine /\
  (∀w,Av kvs k=some w->Q w H)/\(Av kvs k=none->Q v (upd H a (.dK (B4 kvs k v))))):=by
 intro aa s σ H x xs u us Q I rx rs h;obtain⟨a,kvs,k,v,rfl,rfl,hd,hl,q1,q2⟩:=h;cases rx;obtain⟨uk,uv,rfl,rk,rv⟩:=KH rs;obtain⟨z,y,vs,rel,dd⟩:=P1 I.aE hd;refine call_meetsIn PySem.F.slot_dict_setdefault dd.typeIs PySem.F.entry_dict_setdefault (PySem.F.args_dict_setdefault_3 _ _ _) (PySem.kt_meets_setdefault (AU X.prog X.w) a (FC rk) y uv) ⟨vs,dd,by rw[←rel.length];exact z,λw' hw=>?_,λhn h' gB hs=>?_⟩
 ·have rr:=rel.val k;rw[hw]at rr;cases e:Av kvs k with
  |none=>rw[e]at rr;exact False.elim rr
  |some w=>rw[e]at rr;exact⟨w,H,I.tok _,rr,q1 w e⟩
 ·have rr:=rel.val k;rw[hn]at rr
  have e:Av kvs k=none:=by
   cases e:Av kvs k with
   |none=>rfl
   |some w=>rw[e]at rr;exact False.elim rr
  have he:∃q,h'.get? a=some q:=let ⟨q,_,_,hq,_⟩:=gB;⟨q,hq⟩
  have hl':(B4 kvs k v).length<=sizeLine:=by have:=Cl kvs k v;omega
  exact⟨v,_,Gg I (by rw[hd];exact True.intro) hs he (JU hl' y (rel.put k rv) gB),rv,q2 e⟩
theorem QE:aZ X (.builtin "isinstance") (λxs H Q=>∃v T t b,xs=[v,.ty T]/\eh X.K H v t/\W.kitOne X.K t (.type T)=some b/\Q (.bl b) H):=by
 intro aa s σ H xs us Q I r h;obtain⟨v,T,t,b,rfl,ty,hk,q⟩:=h;obtain⟨u,uT,rfl,ru,ruT⟩:=KH r;cases (show uT=Value.type T from ruT);exact OR I ru ty hk λtk=>⟨.bl b,H,I.tok tk,Zj,q⟩
end
noncomputable def KW (d:Int):List Int->Int
 | []=>d
 |n::r=>r.foldl max n
theorem Io (d:Int) (ns:List Int) (n:Int) (h:ns≠ []):KW d (ns++[n])=max (KW d ns) n:=by
 cases ns with
 |nil=>exact absurd rfl h
 |cons a r=>show(r++[n]).foldl max a=_;rw[foldl_append];rfl
theorem Oc (a v:Value):argsOk "max" ⟨[a],[(Str.ofString "default", v)]⟩:=by unfold argsOk;kernel_rfl
section
variable {prog:Program}{R:Result->Xe->Prop}{p I S:Xd}{its:Xb}{ns:List Int}{d:Value}
noncomputable def QF:Option (Int×Tok)->Array Value
 |none=>#[]
 |some (m,t)=>#[.int m t,.int m t]
theorem Od (hh:A.handled=none) (bv:IntsAre its ns) (hpI:p≠I) (hSI:S≠I) (hpS:p≠S)
  (hR:∀h' tk v,(∀b o,b≠I->b≠S->s.heap.get? b=some o->h'.get? b=some o)->(ns=[]->v=d)->(ns≠ []->∃t,v=.int (KW 0 ns) t)->R (.ok (.ret v)) { s with heap:=h',toks:=tk }) :
  ∀(k i:Nat) (h:Heap) (tk c:Nat) (b:Option (Int×Tok)),its.length - i=k->i<=its.length->h.IsListIter I p i->h.IsList p its.toArray->h.get? S=some { cls:=.type "list", data:=.seq (QF b) c } ->
   (b=none->i=0)->(∀m t,b=some (m,t)->0<i/\m=KW 0 (ns.take i))->(∀b' o,b'≠I->b'≠S->s.heap.get? b'=some o->h.get? b'=some o) ->
   codeAny (model prog w) A (.builtin "max.loop" ⟨[.ref I,.none,.ref S],[(Str.ofString "default", d)]⟩) R { s with heap:=h,toks:=tk }:=by
 have ci:(toString "max" ++ toString ".loop" : String) = "max.loop" := by decide
 have a0:=bv.length;intro k;induction k with
 |zero =>
  intro i h tk c b hk hi hit hl hS hb0 hb1 keep;have e:i=its.length:=by omega
  refine codeAny_builtin PySem.F.entry_max_loop ?_;rw[Around.under_plainId PySem.F.plain_max_loop _];show wpAny _ A.in1 (seqItems? (.ref S) >>= _) _ _ _;refine Zx (wpAny_seqItems hS rfl ?_);show wpAny _ A.in1 (tryCatch (pyNext (.ref I)) _ >>= _) _ _ _;refine Zx (wpAny_tryCatch (wpAny_pyNext_list_end (show A.in1.handled=none from hh) hit hl (by simp;omega) λh' eb=>?_));cases b with
  |none =>
   have hn:ns=[]:=by
    have:=hb0 rfl;exact List.eq_nil_of_length_eq_zero qe
   exact Zx (wpAny_rule (Zw (hR h' tk d (λb o h1 h2 q=>eb b o h1 (keep b o h1 h2 q)) (λ_=>rfl) λz=>absurd hn z)))
  |some mt =>
   obtain⟨m,t⟩:=mt;obtain⟨hpos,hm⟩:=hb1 m t rfl
   have aw:ns≠ []:=λz=>by
    have:its.length=0:=by rw[a0,z];rfl
    omega
   show wpAny _ A.in1 (updateSeq S (λ_=>#[]) >>= _) _ _ _;refine Zx (wpAny_updateSeq (eb S _ hSI hS) Zj (Zx (wpAny_letGo (Zw ?_))) eO);refine hR _ tk _ (λb o h1 h2 q=>(ZW _ _ (Ne.symm h2)).trans (eb b o h1 (keep b o h1 h2 q))) (λz=>absurd z aw) λ_=>⟨t,?_⟩;rw[hm,e,a0,ZB]
 |succ k ih =>
  intro i h tk c b hk hi hit hl hS hb0 hb1 keep;have hlt:i<its.length:=by omega
  have hv:its[i]?=some its[i]:=Z7 hlt
  obtain⟨n,t,hn,hvt⟩:∃n t,ns[i]?=some n/\its[i]=.int n t:=by
   have ju:i<ns.length:=by omega
   obtain⟨u,hu,t,ru⟩:=(ED bv).get (i:=i) (x:=V.int ns[i]) (by rw[ZE,Z7 ju];rfl);rw[hv]at hu;exact⟨ns[i],t,Z7 ju,(Option.some.inj hu).trans ru⟩
  refine codeAny_builtin PySem.F.entry_max_loop ?_;rw[Around.under_plainId PySem.F.plain_max_loop _];show wpAny _ A.in1 (seqItems? (.ref S) >>= _) _ _ _;refine Zx (wpAny_seqItems hS Zj ?_);show wpAny _ A.in1 (tryCatch (pyNext (.ref I)) _ >>= _) _ _ _;refine Zx (wpAny_tryCatch (wpAny_pyNext_list_item hit hl (x:=.int n t) (by simpa[hvt]using hv) λh' gf sb=>?_));have hS':h'.get? S=some { cls:=.type "list", data:=.seq (QF b) c }:=(sb.2 S hSI).trans hS;have hl':h'.IsList p its.toArray:=hl.at λo q=>(sb.2 p hpI).trans q;have keep':∀b' o,b'≠I->b'≠S->s.heap.get? b'=some o->h'.get? b'=some o:=λb' o h1 h2 q=>(sb.2 b' h1).trans (keep b' o h1 h2 q);have etk:ns.take (i+1)=ns.take i++[n]:=by rw[ZD,hn];rfl
  have store:∀c0,(∀v,v=Value.int n t->(h'.update S (Obj.mapSeq λ_=>#[v,v])).get? S=some { cls:=.type "list", data:=.seq (QF (some (n,t))) c0 })->n=KW 0 (ns.take (i+1)) ->
    codeAny (model prog w) A (.builtin "max.loop" ⟨[.ref I,.none,.ref S],[(Str.ofString "default", d)]⟩) R { s with heap:=h'.update S (Obj.mapSeq λ_=>#[.int n t,.int n t]),toks:=tk }:=λc0 e0 em =>
   ih (i+1) _ tk c0 (some (n,t)) qe hlt (gf.at λo q=>(ZW _ _ hSI).trans q) (hl'.at λo q=>(ZW _ _ (Ne.symm hpS)).trans q) (e0 _ rfl) (λz=>by cases z)
    (λm t' z=>by cases z;exact⟨Nat.succ_pos _,em⟩) λb' o h1 h2 q=>(ZW _ _ (Ne.symm h2)).trans (keep' b' o h1 h2 q)
  cases b with
  |none =>
   have hi0:=hb0 rfl;show wpAny _ A.in1 (updateSeq S (λ_=>#[Value.int n t,Value.int n t]) >>= _) _ _ _;refine Zx (wpAny_updateSeq hS' Zj ?_);rw[ci];refine Zw ⟨plainId_quiet PySem.F.plain_max_loop _,store _ (λv e=>by subst e;exact get?_update_seq hS' λ_=>#[_,_]) ?_⟩;rw[etk,hi0];rfl
  |some mt =>
   obtain⟨m,t0⟩:=mt;obtain⟨hpos,hm⟩:=hb1 m t0 rfl
   have aw:ns.take i≠ []:=λz=>by
    have:=congrArg List.length z;rw[ZA,length_nil]at this;omega
   show wpAny _ A.in1 (tryCatch (holding [Value.int n t,Value.int n t] (richCompare .Gt (.int n t) (.int m t0) >>= _)) _ >>= _) _ _ _
   refine Zx (wpAny_tryCatch (ZK (Zx (CmpOf.ints_gt (P:=λi v=>(i=0/\v=.int n t)\/(i=1/\v=.int m t0)) (λi=>if i=0 then n else m) (λi v h=>by
    rcases h with⟨rfl,rfl⟩ |⟨rfl,rfl⟩
    ·exact⟨t,Zj⟩
    ·exact⟨t0,Zj⟩) 0 1 _ _ _ _ _ (.inl ⟨Zj,Zj⟩) (.inr ⟨Zj,Zj⟩) ?_))))
   refine Zx (ZK (Z0 ?_));refine Zx (wpAny_letGo (Zw ?_));by_cases hgt:n>m
   ·have e1:(λ(i j:Nat)=>decide ((if i=0 then n else m)>if j=0 then n else m)) 0 1=true:=ZL hgt;rw[e1];simp only[if_true];refine Zx (wpAny_updateSeq hS' Zj (Zx (wpAny_letGo ?_)) eO);rw[ci];refine Zw ⟨plainId_quiet PySem.F.plain_max_loop _,store _ (λv e=>by subst e;exact get?_update_seq hS' λ_=>#[_,_]) ?_⟩;rw[etk,Io 0 _ n aw,←hm];omega
   ·have e1:(λ(i j:Nat)=>decide ((if i=0 then n else m)>if j=0 then n else m)) 0 1=false:=ZO hgt;rw[e1];simp only[Bool.false_eq_true,if_false];refine Zx (wpAny_letGo ?_);rw[ci]
    refine Zw ⟨plainId_quiet PySem.F.plain_max_loop _,ih (i+1) _ tk c (some (m,t0)) qe hlt gf hl' hS' (λz=>by cases z) (λm' t' z=>by
     cases z;refine⟨Nat.succ_pos _,?_⟩;rw[etk,Io 0 _ n aw,←hm]
     omega) keep'⟩
end
section
variable {c:Expr}{tc:TE}{p kp:Pos}
theorem NU (hc:X.calm=true) (hg:Gl X "max") (hm:X.mg "max" = none) (he:PE X e te) (hcc:PE X c tc) (hs:starEach [e] X.env=(false,eval e X.env)::starEach [] X.env:=by rfl)
  (js:backTo pos (starEach [e] X.env)=(false,eval e X.env)::backTo pos (starEach [] X.env):=by rfl) :
  PE X (.Call (.Name "max" p) [e] [⟨some "default", c,kp⟩] pos) (λσ H Q=>te σ H λx H1=>tc σ H1 λy H2=>∃(a:Xd) (ns:List Int) (d:Int),x=.ref a/\y=.int d/\aK X.K H2 a (ns.map V.int)/\(ns=[]->Q (.int d) H2)/\(ns≠ []->Q (.int (KW 0 ns)) H2)):=by
 intro aa s σ H Q I h;refine Z3 (EW (u:=.builtin "max") I hg hm boot_max ?_)
 let R3:V->V->Hp->Prop:=λx y H2=>∃(a:Xd) (ns:List Int) (d:Int),x=.ref a/\y=.int d/\aK X.K H2 a (ns.map V.int)/\(ns=[]->Q (.int d) H2)/\(ns≠ []->Q (.int (KW 0 ns)) H2)
 refine callWith_kw (aF ((AA he AC hs:PA X [e] (Al te C1)) pos aa s σ H (λvs H1=>match vs with | [x]=>tc σ H1 (λy H2=>R3 x y H2) |_=>False) I h) λus s1 ⟨vs,H1,I1,r1,q1⟩=>?_) js (by rw[js];rfl)
 match vs,r1,q1 with
 | [x],r1,q1 =>
  refine aF ((NN (nm:=some "default") (kpos:=kp) hcc Px:PK X [⟨some "default", c,kp⟩] (Al tc C1)) pos aa s1 σ H1 (λvs H2=>match vs with | [y]=>R3 x y H2 |_=>False) I1 q1) λus2 s2 ⟨vs2,H2,I2,r2,q2⟩=>?_
  match vs2,r2,q2 with
  | [y],r2,q2 =>
   obtain⟨a,ns,d,rfl,rfl,hq,k1,k2⟩:=q2;obtain⟨u,rfl,ru⟩:=Bt r1;cases ru;obtain⟨ud,rfl,td,rud⟩:=Bt r2;subst rud;obtain⟨its,rv,pl,hz⟩:=I2.list hq;have hp:a<s2.heap.objs.size:=by obtain⟨o,n,e,_⟩:=id pl;exact lt_size e
   show wpAny _ _ (call (.builtin "max") [.ref a] [(Str.ofString "default", .int d td)]) _ _ _;refine PyProof.Rows.kmk_tree PySem.F.kind_max PySem.F.plain_max PySem.F.entry_max (Oc _ _) ?_;show wpAny _ X.A.in1 (Builtin.Builtins.bindParams "max" ["key", "default"] 0 ⟨[],[(Str.ofString "default", .int d td)]⟩ >>= _) _ _ _;refine Zx (wpAny_of_eq (show Builtin.Builtins.bindParams "max" ["key", "default"] 0 ⟨[],[(Str.ofString "default", Value.int d td)]⟩=pure [none,some (.int d td)]from Zj) ?_);refine Zx (Zw ?_);refine Zx (wpAny_pyIter_list pl.isList ?_);refine Zx (wpAny_newList ?_ (Nat.zero_le _));have ci:(toString "max" ++ toString ".loop" : String) = "max.loop" := by decide
   rw[ci];have hS:(s2.heap.push { cls:=.type "list_iterator", data:=.fields #[.ref a,.int 0 0] }).objs.size=s2.heap.objs.size+1:=Heap.size_push ..
   refine Zw ⟨plainId_quiet PySem.F.plain_max_loop _,Od (its:=its) (ns:=ns) (s:=s2) (I.ok.hd hc) (DQ rv) (ZC hp) (by rw[hS];exact Nat.succ_ne_self _) (by rw[hS];exact ZC (Nat.lt_succ_of_lt hp))
    (λh' tk v keep e1 e2=>?_) _ 0 _ _ 0 none rfl (Nat.zero_le _) ⟨_,ZX _ (ZN _ rfl),rfl,rfl⟩ (pl.isList.at λo q=>ZX _ (ZX _ q)) (ZN _ rfl) (λ_=>rfl) (λm t z=>by cases z) λb o h1 h2 q=>ZX _ (ZX _ q)⟩
   have I3:Inv X aa σ H2 { s2 with heap:=h',toks:=tk }:=I2.kept λb o q=>keep b o (ZC (lt_size q)) (by rw[hS];exact ZC (Nat.lt_succ_of_lt (lt_size q))) q;by_cases hn:ns=[]
   ·rw[e1 hn];exact⟨.int d,H2,I3,⟨td,Zj⟩,k1 hn⟩
   ·obtain⟨t,ev⟩:=e2 hn;rw[ev];exact⟨.int _,H2,I3,⟨t,Zj⟩,k2 hn⟩
end
def aB (H:Hp):List Xd->List (V×V)->Prop:=Paired λb p=>H b=some (.tup [p.1,p.2])
theorem aB.same {as:List Xd}{ps:List (V×V)} (s:∀b o,H b=some o->H' b=some o) (h:aB H as ps):aB H' as ps:=Paired.mapP h λ_ _ e=>s _ _ e
mutual
def CA (K:FG) (H:Hp):PyData->V->Prop
 | .none,v=>v=.aP
 | .bool b,v=>v=.bl b
 | .int i,v=>v=.int i
 | .str x,v=>v=.str x
 | .list ds,v=>∃a xs,v=.ref a/\aK K H a xs/\BA K H ds xs
 | .tuple ds,v=>∃a xs,v=.ref a/\aQ K H a xs/\BA K H ds xs
 | .dict _,_=>False
def BA (K:FG) (H:Hp):List PyData->Xc->Prop
 | [],xs=>xs=[]
 |d::ds,xs=>∃x r,xs=x::r/\CA K H d x/\BA K H ds r
end
section
mutual
theorem Inv.reads (I:Inv X aa σ H s):∀(d:PyData) (v:V) (u:Value),RelV v u->CA X.K H d v->∃as,Reads s.heap u d as
 | .none,v,u,r,h=>by
  have e:v=.aP:=by simpa[CA]using h
  subst e;cases r;exact⟨_,.none⟩
 | .bool b,v,u,r,h=>by
  have e:v=.bl b:=by simpa[CA]using h
  subst e;cases r;exact⟨_,.bool b⟩
 | .int i,v,u,r,h=>by
  have e:v=.int i:=by simpa[CA]using h
  subst e;obtain⟨t,rfl⟩:=r;exact⟨_,.int i t⟩
 | .str x,v,u,r,h=>by
  have e:v=.str x:=by simpa[CA]using h
  subst e;obtain⟨t,rfl⟩:=r;exact⟨_,.str x t⟩
 | .list ds,v,u,r,h=>by
  rw[CA]at h;obtain⟨a,xs,rfl,hq,hd⟩:=h;cases r;obtain⟨its,rv,⟨o,n,e,c,_,dd⟩,_⟩:=I.list hq;obtain⟨as,hr⟩:=I.readsAll ds xs its rv hd;exact⟨_,.list e c dd (by simpa using hr)⟩
 | .tuple ds,v,u,r,h=>by
  rw[CA]at h;obtain⟨a,xs,rfl,hq,hd⟩:=h;cases r;obtain⟨its,rv,⟨o,e,c,n,dd⟩,_⟩:=I.tuple hq;obtain⟨as,hr⟩:=I.readsAll ds xs its rv hd;exact⟨_,.tuple e c dd (by simpa using hr)⟩
 | .dict kvs,v,u,r,h=>by
  rw[CA]at h;exact h.elim
theorem Inv.readsAll (I:Inv X aa σ H s):∀(ds:List PyData) (xs:Xc) (us:Xb),Vals xs us->BA X.K H ds xs->∃as,ReadsAll s.heap us ds as
 | [],xs,us,r,h=>by
  have e:xs=[]:=by simpa[BA]using h
  subst e;cases r;exact⟨_,.nil⟩
 |d::ds,xs,us,r,h=>by
  rw[BA]at h;obtain⟨x,xr,rfl,h1,h2⟩:=h;cases r with
  |cons p q =>
   obtain⟨as,h3⟩:=I.reads d x _ p h1;obtain⟨bs,h4⟩:=I.readsAll ds xr _ q h2;exact⟨_,.cons h3 h4⟩
end
end
section
theorem HE (K:FG) (hK:X.K=K) (hu:X.A.units+64<cLine):dc X (compareOp .NotEq) (λx y H Q=>∃dx dy,CA K H dx x/\CA K H dy y/\SeqAt.shaped dx=true/\SeqAt.shaped dy=true/\Q (.bl (!PyData.eqv dx dy)) H):=by
 subst hK;intro aa s σ H x y v u Q I rx ry h;obtain⟨dx,dy,h1,h2,s1,s2,q⟩:=h;obtain⟨as,r1⟩:=I.reads dx x v rx h1;obtain⟨bs,r2⟩:=I.reads dy y u ry h2;exact ne_dataH r1 r2 s1 s2 hu ⟨.bl _,H,I,Zj,q⟩
theorem UD (K:FG) (hK:X.K=K) (hu:X.A.units+64<cLine):dc X (compareOp .Eq) (λx y H Q=>∃(a b:Xd) (ns ms:List Int),x=.ref a/\y=.ref b/\aK K H a (ns.map V.int)/\aK K H b (ms.map V.int)/\Q (.bl (decide (ns=ms))) H):=by
 subst hK;intro aa s σ H x y v u Q I rx ry h;obtain⟨a,b,ns,ms,rfl,rfl,h1,h2,q⟩:=h;cases rx;cases ry;obtain⟨is1,r1,p1,_⟩:=I.list h1;obtain⟨is2,r2,p2,_⟩:=I.list h2;exact W.ke_eq_ints p1.isList p2.isList (DQ r1) (DQ r2) hu ⟨.bl _,H,I,Zj,q⟩
def UE (C:Xd) (sp:Sp) (gV:Xc->Xc->Xc) (E:XK) (t tk:TA):TE:=λσ H Q=>t σ H λvs H1=>tk σ H1 λzs H2=>∀x dx,H2 x=none->H2 dx=none->dx≠x ->
 sp (gV (.ref x::vs) zs) (upd (upd H2 dx (.own x)) x (.ins C dx [])) (λv H3=>v=.aP/\Q (.ref x) H3) E
variable {k:Nat}{f:Xd}{fd:FuncData}{ps ks:Xa}{sp:Sp}{p:Pos}{es:List Expr}{iO:List Keyword}{t tk:TA}{g:Xb->Xb->Xb}{gV:Xc->Xc->Xc}
theorem QG (M:Mk X.K C f) (F:Af X.prog X.w X.K X.mg X.base aT k f fd ps sp) (hr:aI (k+1) X.A) (hg:Gl X x) (hm:X.mg x=some (.ref C)) (hb:Lr X.K fd ps ks g gV)
  (ha:PA X (e::es) t) (hkw:PK X iO tk) (be:(backToKw pos (keywordEach iO X.env)).all (·.1.isSome)=true:=by rfl) (hks:(backToKw pos (keywordEach iO X.env)).filterMap (·.1)=ks:=by rfl)
  (eI:(x==("__debug__" : Str))=false:=by decide) (he:starEach (e::es) X.env=(false,eval e X.env)::starEach es X.env:=by rfl)
  (eQ:((backTo pos (starEach (e::es) X.env)).any (·.1)||(backToKw pos (keywordEach iO X.env)).any (·.1.isNone))=false:=by rfl) :
  PE X (.Call (.Name x p) (e::es) iO pos) (UE C sp gV E0 t tk):=by
 intro aa s σ H Q I h;refine Z3 (CI I hg hm ?_ eI);refine W.callWith_KW (h₀:=X.base) I.ok.mod.kin M.kp be (aF (ha pos aa s σ H _ I h) λus s1 ⟨vs,H1,I1,r,q⟩=>?_) eQ he;refine aF (hkw pos aa s1 σ H1 _ I1 q) λws s2 ⟨zs,H2,I2,rz,q2⟩=>⟨I2.cY,?_⟩;rw[hks];have hq:=q2 (s2.heap.objs.size+1) s2.heap.objs.size (I2.aE.fresh (Nat.le_succ _)) (I2.aE.fresh (Zy _)) (ZC (Nat.lt_succ_self _));have I3:=Inv.made (C:=C) I2;have r2:Vals (gV (V.ref (s2.heap.objs.size+1)::vs) zs) (g (Value.ref (s2.heap.objs.size+1)::us) ws):=hb.rel (.cons rfl r) rz;have hl:(g (Value.ref (s2.heap.objs.size+1)::us) ws).length=ps.length:=by rw[←r2.length];exact F.len _ _ _ _ hq
 refine wpAny_call (KJ (f:=f) I2.cY M.makes M.init (beq_iff_eq.mp M.fn) (codeAny_mono (F.run _ X.stack _ _ ⟨Value.ref (s2.heap.objs.size+1)::us,ks.zip ws⟩ _ _ _ E0 (hr.make C us (ks.zip ws)) (I3.env0.make C us (ks.zip ws)) (hb.to _ _ _ I3.cY hl) r2 hq) λr' s' ft=>?_));cases r' with
 |error e=>exact ft.elim
 |ok fl =>
  cases fl with
  |ret u =>
   obtain⟨v,H',I4,rv,ev,q3⟩:=I3.after ft;subst ev;exact⟨rv,⟨V.ref (s2.heap.objs.size+1),H',I4,Zj,q3⟩⟩
  |next=>exact False.elim ft
  |brk=>exact False.elim ft
  |cont=>exact False.elim ft
def We (i j:Int):Prop:=Builtin.Int.intBits i<=2 ^ 20/\Builtin.Int.intBits j<=2 ^ 20
theorem Jc:dc X (binaryOp .Mult) (rI We λi j=>.int (i*j)):=jK λ_ _ _ _ _ _ _ hc q=>mul_int q (IntMulOk.of_bits hc.1 hc.2)
def VQ (i j:Int):Prop:=0<j/\Builtin.divisionGoesByPylong i j=false
theorem KY:dc X (binaryOp .FloorDiv) (rI VQ λi j=>.int (i / j)):=jK λi j _ _ _ _ _ hc q=>by
 have h1:(0:Int)<j:=hc.1;exact floordiv_int qe (by rw[Int.fdiv_eq_ediv_of_nonneg i qe];exact q) (.inl hc.2)
end
structure HF (fs:List Xd) (e:Xd) (oe:Obj) (vs:Array Value) (old:Xd->Prop) (h h':Heap):Prop where
 tb:∃T oT ts,h.objs.size<=T/\h'.get? T=some oT/\oT.data=.fields ts/\ts[3]?=some .none/\h'.get? e=some { oe with data:=.fields (vs.setIfInBounds 1 (.ref T)) }
 keep:∀b o,h.get? b=some o->b≠e->¬ old b->b∉ fs->h'.get? b=some o
 slot:∀b o,h.get? b=some o->b≠e->¬ old b->b∈fs->∃sl,h'.get? b=some { o with slots:=sl }
 there:∀b o,h.get? b=some o->∃o',h'.get? b=some o'
section
variable {M:Model}
theorem Ee {o:Obj}{vs:Array Value} (hd:o.data=.fields vs) (f:Array Value->Array Value):Obj.mapFields f o={ o with data:=.fields (f vs) }:=by
 obtain⟨c,d,dt,sl⟩:=o;cases hd;rfl
theorem Oe {b:Xd}{f:Obj->Obj} (hf:∀o,h.get? a=some o->(f o).isFreed=false):∀o,h.get? b=some o->∃o',(h.update a f).get? b=some o':=λo ho=>by
 by_cases q:b=a
 ·subst q;exact⟨_,ZU f ho (hf o ho)⟩
 ·exact⟨o,(ZW _ _ (Ne.symm q)).trans ho⟩
theorem NV {env:Env}{outer:List Env}{L e:Xd}{oe:Obj}{vs:Array Value}{head:Value}{hadNext:Bool}{Q:Unit->Xe->Prop}
  (hfr:A.frames=some (env::outer)) (hl:s.heap.FunFrames base (env::outer)) (hf:env.frame=some L) (he:s.heap.get? e=some oe) (hd:oe.data=.fields vs) (hsz:1<vs.size)
  (h:∀h',HF (di (env::outer)) e oe vs (λ_=>False) s.heap h'->Q () { s with heap:=h' }) :
  wpAny M A (do let a ←frameOf env;let pl ←entryPlaceOf L hadNext;let b ←EntryCells.newEntry head a .none (rawInt L) .none pl;setField (.ref e) 1 b) (λ_ s'=>wpAny M A (setFlight (.ref e) none) Q E s') E s:=by
 have hene:e∉ di (env::outer):=λhm=>by
  obtain⟨_,o,ho,hnf⟩:=hl.mem hm;rw[he]at ho;cases ho;exact hnf vs hd
 refine Zx (wpAny_frameOf_fun hfr hl hf λh1 x1=>Zx (wpAny_entryPlaceOf λpl eQ=>?_));unfold EntryCells.newEntry newFields;refine Zx (wpAny_newObj_type ?_ (eQ.sizeOk5 _ _ _ _ _));generalize hpg:([head,Value.ref L,.none,rawInt L,.none]++(if pl.isEmpty then List.replicate 6 Value.none else pl)).toArray=pg;have iE:3<pg.size:=by rw[←hpg];simp only[size_toArray,ZH,length_cons,length_nil];omega
 have e1:h1.get? e=some oe:=(x1.2.1 e hene).trans he;have e2:=ZX (h:=h1) ⟨.type "traceback", none,.fields pg,#[]⟩ e1;refine wpAny_setField e2 hd hsz ?_;have ne:h1.objs.size≠e:=Nat.ne_of_gt (lt_size e1);have d3:=Obj.data_mapFields hd (·.setIfInBounds 1 (Value.ref h1.objs.size));have e3:=ZU (Obj.mapFields (·.setIfInBounds 1 (Value.ref h1.objs.size))) e2 (Obj.isFreed_of_fields d3);have t3:=(ZW (h1.push ⟨.type "traceback", none,.fields pg,#[]⟩) (Obj.mapFields (·.setIfInBounds 1 (Value.ref h1.objs.size))) (Ne.symm ne)).trans (ZN h1 rfl);unfold setFlight;refine Zx (wpAny_field e3 d3 (x:=.ref h1.objs.size) (by simp[hsz]) ?_);rw[Zp (show(Value.ref h1.objs.size != Value.none)=true from by simp)];refine wpAny_setField t3 Zj iE (h _ ?_)
 have other:∀b o,b≠e->h1.get? b=some o->∀(g:Obj->Obj),(((h1.push ⟨.type "traceback", none,.fields pg,#[]⟩).update e (Obj.mapFields (·.setIfInBounds 1 (Value.ref h1.objs.size)))).update h1.objs.size g).get? b=some o:=λb o hb hlt g=>by
  rw[ZW _ _ (Nat.ne_of_gt (lt_size hlt)),ZW _ _ (Ne.symm hb)];exact ZX _ hlt
 refine⟨⟨h1.objs.size,_,_,Nat.le_of_eq x1.1.symm,ZU _ t3 (Obj.isFreed_of_fields (Obj.data_mapFields Zj _)),Obj.data_mapFields Zj _,by simp[iE],?_⟩,λb o hb n1 _ n3=>?_,λb o hb n1 _ n3=>?_,λb o hb=>?_⟩
 ·rw[ZW _ _ ne,e3,Ee hd]
 ·have hb1:h1.get? b=some o:=(x1.2.1 b n3).trans hb;exact other b o n1 hb1 _
 ·obtain⟨sl,hs⟩:=x1.2.2 b o hb;exact⟨sl,other b _ n1 hs _⟩
 ·obtain⟨sl,hs⟩:=x1.2.2 b o hb;by_cases q:b=e
  ·subst q;exact⟨_,(ZW _ _ ne).trans e3⟩
  ·exact⟨_,other b _ q hs _⟩
theorem KZ {env:Env}{outer:List Env}{L e:Xd}{oe:Obj}{vs:Array Value}{Q:Unit->Xe->Prop}
  (hfr:A.frames=some (env::outer)) (hl:s.heap.FunFrames base (env::outer)) (hf:env.frame=some L) (he:s.heap.get? e=some oe) (hd:oe.data=.fields vs) (h1:vs[1]?=some .none)
  (h:∀h',HF (di (env::outer)) e oe vs (λ_=>False) s.heap h'->Q () { s with heap:=h' }):wpAny M A (leaving env (.ref e)) Q E s:=by
 unfold leaving noteFrame;simp only[hf];refine Zx (Zx (wpAny_field he hd h1 ?_));rw[Zq qc];exact NV hfr hl hf he hd (Z9.mp h1).1 h
theorem Ip {env:Env}{outer:List Env}{L e T:Xd}{oe oT:Obj}{vs ts:Array Value}{Q:Unit->Xe->Prop}
  (hfr:A.frames=some (env::outer)) (hl:s.heap.FunFrames base (env::outer)) (hf:env.frame=some L) (he:s.heap.get? e=some oe) (hd:oe.data=.fields vs) (h1:vs[1]?=some (.ref T)) (hTe:T≠e)
  (hT:s.heap.get? T=some oT) (iP:oT.data=.fields ts) (h3:ts[3]?=some .none)
  (h:∀h',HF (di (env::outer)) e oe vs (·=T) s.heap h'->Q () { s with heap:=h' }):wpAny M A (noteFrame (.ref e) env) (λ_ s2=>wpAny M A (setFlight (.ref e) none) Q E s2) E s:=by
 unfold noteFrame;simp only[hf];refine Zx (wpAny_field he hd h1 ?_);rw[Zp (show(Value.ref T != Value.none)=true from by simp)];refine Zx (wpAny_field hT iP h3 ?_);rw[Zq (show ¬ ((Value.none==rawInt L)=true)from by simp[rawInt])];refine Zx (wpAny_setField hT iP (Z9.mp h3).1 ?_);have jz:∀b,b≠T->(s.heap.update T (Obj.mapFields (·.setIfInBounds 3 Value.none))).get? b=s.heap.get? b:=λb hb=>ZW _ _ (Ne.symm hb)
 have nr:∀b o,s.heap.get? b=some o->(∀vs,o.data≠ .fields vs)->b≠T:=λb o hb hn q=>by
  subst q;rw[hT]at hb;cases hb;exact hn ts iP
 refine NV (hfr:=hfr) (hl.of_keeps λb o hb hn=>⟨o,(jz b (nr b o hb hn)).trans hb,Zj⟩) hf ((jz e (Ne.symm hTe)).trans he) hd (Z9.mp h1).1 λh' x=>h h' ?_
 have fr:∀o,s.heap.get? T=some o->(Obj.mapFields (·.setIfInBounds 3 Value.none) o).isFreed=false:=λo ho=>by
  rw[hT]at ho;cases ho;exact Obj.isFreed_of_fields (Obj.data_mapFields iP _)
 obtain⟨T',oT',ts',a1,a2⟩:=x.tb;refine⟨⟨T',oT',ts',by rw[Heap.size_update]at a1;exact a1,a2⟩,λb o hb n1 n2 n3=>x.keep b o ((jz b n2).trans hb) n1 (λz=>z) n3,λb o hb n1 n2 n3=>x.slot b o ((jz b n2).trans hb) n1 (λz=>z) n3,λb o hb=>?_⟩;obtain⟨o',gR⟩:=Oe fr o hb;exact x.there b o' gR
theorem MD {env:Env}{outer:List Env}{L e T:Xd}{oe oT:Obj}{vs ts:Array Value}{Q:Unit->Xe->Prop}
  (hfr:A.frames=some (env::outer)) (hl:s.heap.FunFrames base (env::outer)) (hf:env.frame=some L) (he:s.heap.get? e=some oe) (hd:oe.data=.fields vs) (h1:vs[1]?=some (.ref T)) (hTe:T≠e)
  (hT:s.heap.get? T=some oT) (iP:oT.data=.fields ts) (h3:ts[3]?=some .none)
  (h:∀h',HF (di (env::outer)) e oe vs (·=T) s.heap h'->Q () { s with heap:=h' }):wpAny M A (leaving env (.ref e)) Q E s:=by
 unfold leaving;exact Zx (Ip hfr hl hf he hd h1 hTe hT iP h3 h)
end
noncomputable def Fp (e C:Xd) (dx:Option Xd):HO:=.ext λh=>∃oe vs,h.get? e=some oe/\oe.cls=.ref C/\oe.dict=dx/\oe.data=.fields vs/\5<vs.size/\vs[2]?=some .none
structure QH (P:Program) (w:World) (l:List Env) (H:Hp) (s:Xe) (e C:Xd) (dx:Option Xd) (H':Hp) (s':Xe):Prop where
 os:s'.os=s.os
 bare:AllBare s'.gens
 un:Un (di l) [] H H' s.heap s'.heap
 aE:dq P w H' s'.heap
 at_:H' e=some (Fp e C dx)
def Tb0 (e:Xd) (s':Xe):Prop:=∃oe vs,s'.heap.get? e=some oe/\oe.data=.fields vs/\vs[1]?=some .none
def Tb1 (e:Xd) (H':Hp) (s s':Xe) (fl:Value):Prop:=∃oe vs T oT ts,s'.heap.get? e=some oe/\oe.data=.fields vs/\vs[1]?=some (.ref T)/\T≠e/\s'.heap.get? T=some oT/\oT.data=.fields ts/\ts[3]?=some fl/\H' T=none/\s.heap.get? T=none
def Fly (P:Program) (w:World) (l:List Env) (H:Hp) (s:Xe) (e C:Xd) (dx:Option Xd) (H':Hp) (s':Xe):Prop:=QH P w l H s e C dx H' s'/\Tb1 e H' s s' .none
def eZ (P:Program) (w:World):gD:=λouter H s E e s'=>∃ea C dx H',e=.ref ea/\Fly P w outer H s ea C dx H' s'/\E (.ref C) dx H'
theorem NX {base h h':Heap}{fs:List Xd}{H H':Hp} (u:Un fs [] H H' h h'):∀ {l:List Env},(∀b∈di l,b∈fs)->(∀b∈di l,H b=none)->h.FunFrames base l->h'.FunFrames base l
 | [],_,_,_=>trivial
 |env::r,hs,hn,⟨hk,⟨L,o,hf,hb,ho,hd⟩,hr⟩=>by
  have hL:L∈di (env::r):=by unfold di;rw[ZM,hf];exact ZI
  have sub:∀b∈di r,b∈di (env::r):=λb z=>by unfold di;rw[ZM,hf];exact ZR _ z
  obtain⟨sl,e⟩:=u.slot L o ho (hn L hL) (hs L hL) (by simp);exact⟨hk,⟨L,_,hf,hb,e,hd⟩,NX u (λb z=>hs b (sub b z)) (λb z=>hn b (sub b z)) hr⟩
section
variable {H1 H2:Hp}{s1 s2:Xe}{e:Xd}{dx:Option Xd}
structure MF (X:Cx):Prop where
 gm:X.stack=X.env::X.outer
 fr:X.env.frame=some X.env.locals
 ex:X.ex=[]
theorem Ka {fs:List Xd}{oe:Obj}{vs:Array Value}{old:Xd->Prop}{h':Heap} (ok:dq P w H2 h) (L:HF fs e oe vs old h h') (hf:∀b∈fs,H2 b=none) (ho:∀b,old b->H2 b=none)
  (he:h.get? e=some oe) (hd:oe.data=.fields vs) (at_:H2 e=some (Fp e C dx)):dq P w H2 h':=λb u q=>by
 have kp:∀c v,c≠e->(∃z,H2 c=some z)->h.get? c=some v->h'.get? c=some v:=λc v n ⟨z,hz⟩ hv=>L.keep c v hv n (λy=>by rw[ho c y]at hz;cases hz) λy=>by rw[hf c y]at hz;cases hz
 by_cases hb:b=e
 ·subst hb;rw[at_]at q;cases q;obtain⟨⟨oe',jF,a1,a2,a3,a4,a5,a6⟩,_,st⟩:=ok _ _ at_;rw[he]at a1;cases a1;rw[hd]at a4;cases a4;obtain⟨T,oT,ts,b1,b2,b3,b4,b5⟩:=L.tb;exact⟨⟨_,_,b5,a2,a3,Zj,by rw[Array.size_setIfInBounds];exact a5,by rw[Array.getElem?_setIfInBounds_ne qc];exact a6⟩,⟨_,b5⟩,st⟩
 ·refine(ok b u q).fc (λc v hc r=>?_) (λ_ z=>z) λ_ _ z=>z;rcases hc with rfl |hc
  ·exact kp c v hb ⟨u,q⟩ r
  ·refine kp c v (λz=>?_) ⟨_,hc⟩ r;subst z;rw[at_]at hc;cases hc
theorem Kb {oe:Obj}{vs:Array Value}{old:Xd->Prop}{h':Heap} (O:MF X) (I:Inv X aa σ H1 s1) (F:QH X.prog X.w X.stack H1 s1 e C dx H2 s2) (he:s2.heap.get? e=some oe) (hd:oe.data=.fields vs) (h1:1<vs.size)
  (hold:∀b,old b->H2 b=none/\s1.heap.get? b=none) (L:HF (di X.stack) e oe vs old s2.heap h'):Fly X.prog X.w X.outer X.eU X.aW e C dx H2 { s2 with heap:=h' }:=by
 have b0:Un (di X.outer) [] X.eU H1 X.aW.heap s1.heap:=by have:=I.base;rw[O.ex]at this;exact this
 have free2:∀b∈di X.stack,H2 b=none:=λb hb=>by
  obtain⟨_,o,ho,_⟩:=I.stack.mem hb;exact F.un.free b o ho (I.stkFree b hb) (by simp)
 have ne:∀b,H2 b=none->b≠e:=λb n z=>by subst z;rw[F.at_]at n;cases n
 have out:∀b o,X.aW.heap.get? b=some o->b∉ di X.outer->b∉ di X.stack:=λb o hb hn z=>by
  rw[O.gm]at z;unfold di at z;rw[ZM,O.fr]at z;rcases mem_cons.mp z with z |z
  ·exact absurd (Z2 (lt_size hb) I.ok.above) (by rw[z];exact ZF _)
  ·exact hn z
 have up:∀b,b∈di X.outer->b∈di X.stack:=λb hb=>by
  rw[O.gm];unfold di;rw[ZM,O.fr];exact ZR _ hb
 have nold:∀b o,X.aW.heap.get? b=some o->¬ old b:=λb o hb z=>by
  obtain⟨o',gR⟩:=b0.there b o hb (by simp);rw[(hold b z).2]at gR;cases gR
 have und:Un (di X.outer) [] X.eU H2 X.aW.heap h':=by
  refine⟨λb o q n hb _=>?_,λb o q n hb _=>?_,λb o q n _=>?_,λb o q _=>?_,λb xs q=>F.un.fb b xs (b0.fb b xs q),λb o xs q=>F.un.eT b o xs (b0.eT b o xs q),λb ps q=>?_⟩
  ·have q1:=b0.keep b o q n hb (by simp);have n1:=b0.free b o q n (by simp);have q2:=F.un.keep b o q1 n1 (out b o q hb) (by simp);exact L.keep b o q2 (ne b (F.un.free b o q1 n1 (by simp))) (nold b o q) (out b o q hb)
  ·obtain⟨sl,q1⟩:=b0.slot b o q n hb (by simp);have n1:=b0.free b o q n (by simp);obtain⟨eO,q2⟩:=F.un.slot b _ q1 n1 (up b hb) (by simp);obtain⟨eX,q3⟩:=L.slot b _ q2 (ne b (F.un.free b _ q1 n1 (by simp))) (nold b o q) (up b hb);exact⟨eX,q3⟩
  ·obtain⟨o1,q1⟩:=b0.there b o q (by simp);exact F.un.free b o1 q1 (b0.free b o q n (by simp)) (by simp)
  ·obtain⟨o1,q1⟩:=b0.there b o q (by simp);obtain⟨o2,q2⟩:=F.un.there b o1 q1 (by simp);exact L.there b o2 q2
  ·obtain⟨m1,e1⟩:=b0.eR b ps q;obtain⟨m2,e2⟩:=F.un.eR b _ e1;exact⟨m1++m2,by rw[e2,Array.append_assoc]⟩
 refine⟨⟨F.os.trans I.os,F.bare,und,Ka F.aE L free2 (λb z=>(hold b z).1) he hd F.at_,F.at_⟩,?_⟩;obtain⟨T,oT,ts,b1,b2,b3,b4,b5⟩:=L.tb;have hT:s2.heap.get? T=none:=Heap.get?_none_of_le b1;refine⟨_,_,T,oT,ts,b5,Zj,by simp[h1],λz=>?_,b2,b3,b4,F.aE.fresh b1,?_⟩
 ·subst z;rw[he]at hT;cases hT
 ·cases q:X.aW.heap.get? T with
  |none=>rfl
  |some o =>
   obtain⟨o1,q1⟩:=b0.there T o q (by simp);obtain⟨o2,q2⟩:=F.un.there T o1 q1 (by simp);rw[hT]at q2;cases q2
theorem Ef (I:Inv X aa σ H1 s1) (F:QH X.prog X.w X.stack H1 s1 e C dx H2 s2):s2.heap.FunFrames X.base X.stack:=NX F.un (λ_ z=>z) I.stkFree I.stack
theorem HG {E':VS} (O:MF X) (I:Inv X aa σ H1 s1) (F:Fly X.prog X.w X.stack H1 s1 e C dx H2 s2) :
  wpAny (model X.prog X.w) X.A (leaving X.env (.ref e)) (λ_ s3=>Fly X.prog X.w X.outer X.eU X.aW e C dx H2 s3) E' s2:=by
 obtain⟨B,oe,vs,T,oT,ts,a1,a2,a3,a4,a5,a6,a7,a8,a9⟩:=F;have fr:=Ef I B;have hA:=I.ok.frames;rw[O.gm]at fr hA;refine MD hA fr O.fr a1 a2 a3 a4 a5 a6 a7 λh' L=>?_;rw[←O.gm]at L;exact Kb O I B a1 a2 (Z9.mp a3).1 (λb z=>by subst z;exact⟨a8,a9⟩) L
theorem MH {E':VS} (O:MF X) (I:Inv X aa σ H1 s1) (B:QH X.prog X.w X.stack H1 s1 e C dx H2 s2) (T:Tb0 e s2) :
  wpAny (model X.prog X.w) X.A (leaving X.env (.ref e)) (λ_ s3=>Fly X.prog X.w X.outer X.eU X.aW e C dx H2 s3) E' s2:=by
 obtain⟨oe,vs,a1,a2,a3⟩:=T;have fr:=Ef I B;have hA:=I.ok.frames;rw[O.gm]at fr hA;refine KZ hA fr O.fr a1 a2 a3 λh' L=>?_;rw[←O.gm]at L;exact Kb O I B a1 a2 (Z9.mp a3).1 (λb z=>z.elim) L
end
theorem UF {CX:gD}{qual:Str}{scope:Scope}{f:Xd}{cd:Value}{outer:List Env}{E:XK} :
  MF (BM CX P w K mg base N qual scope f cd A outer s H E):=⟨rfl,rfl,rfl⟩
theorem QI {qual:Str}{scope:Scope}{f:Xd}{cd:Value}{outer:List Env}{E:XK} :
  BW (eZ P w) (BM (eZ P w) P w K mg base N qual scope f cd A outer s H E) E:=by
 rintro aa σ H1 s1 e s2 I ⟨ea,C,dx,H2,rfl,F,q⟩;exact Zv (HG (X:=BM (eZ P w) P w K mg base N qual scope f cd A outer s H E) UF I F) (λ_ s3 G=>⟨ea,C,dx,H2,Zj,G,q⟩) λ_ _ z=>z
def QJ (X:Cx) (E:XK):Prop:=∀(aa:LO) (σ:St) (H:Hp) (s:Xe) (e C:Xd) (dx:Option Xd) (H':Hp) (s':Xe),Inv X aa σ H s->QH X.prog X.w X.stack H s e C dx H' s'->Tb0 e s'->E (.ref C) dx H'->X.xe (.ref e) s'
theorem NY {qual:Str}{scope:Scope}{f:Xd}{cd:Value}{outer:List Env}{E:XK} :
  QJ (BM (eZ P w) P w K mg base N qual scope f cd A outer s H E) E:=by
 intro aa σ H1 s1 ea C dx H2 s2 I F T q;exact Zv (MH (X:=BM (eZ P w) P w K mg base N qual scope f cd A outer s H E) UF I F T) (λ_ s3 G=>⟨ea,C,dx,H2,Zj,G,q⟩) λ_ _ z=>z
structure Kc (B:String) (bm:Xb):Prop where
 b:bm.contains (.type B)=true
 base:bm.contains (.type "BaseException")=true
 na:bm.contains (.type "AttributeError")=false
 nn:bm.contains (.type "NameError")=false
section
variable {M:Model}{g:Array GenState}{d:Drawn}{t:Nat}{os:OsState}
variable {nm qn:Str}{N:Xd}{bs bm jX:Xb}{bc:Bool}{sn:Xa}{sub:Xb}{ab:Bool}{col:Option Bool}{dd:Option Xd}{k0 k1 k2 k3 k5:Option Value}{B newId dm:String}
theorem MJ (F:ExcBaseFacts B newId dm jX) (T:Kc B bm) {rest:Xb}{Q:Unit->Xe->Prop} (oC:h.get? C=some (excClassObj nm qn C N bs bm bc sn sub ab col dd k0 k1 k2 k3 k5 newId))
  (fin:Q () ⟨h,g,d,t,os⟩):wpAny M A (checkBuiltinCall newId ⟨.ref C::rest,[]⟩) Q E ⟨h,g,d,t,os⟩:=by
 have c1:(Value.ref C::bm).contains (.type B)=true:=by rw[contains_cons,T.b];simp
 have st:=F.noStar;simp only[checkBuiltinCall,F.newKind,F.newSplit,F.newRow]
 repeat (first |refine ZY oC ?_ | (refine Z4 oC ?_;rw[c1]) |refine wpAny_staticBase_exc oC ?_ |refine wpAny_madeBy_exc oC ?_ |simp only[bne_self_eq_false,Bool.false_eq_true,if_false] |wp_step)
 exact fin
end
section
variable {prog:Program}{R:Result->Xe->Prop}{g:Array GenState}{d:Drawn}{t:Nat}{os:OsState}
variable {nm qn:Str}{N:Xd}{bs bm jX:Xb}{bc:Bool}{sn:Xa}{sub:Xb}{ab:Bool}{col:Option Bool}{dd:Option Xd}{k0 k1 k2 k3 k5:Option Value}{B newId dm:String}
noncomputable abbrev ML (C:Xd) (h:Heap):Obj:={ cls:=.ref C,data:=.fields #[.ref h.objs.size,.none,.none,.none,.bool false,.none] }
noncomputable abbrev Dv (C:Xd) (rest:Xb) (h:Heap):Heap:=(h.push { cls:=.type "tuple", data:=.seq rest.toArray }).push (ML C h)
theorem QK (F:ExcBaseFacts B newId dm jX) (T:Kc B bm) {rest:Xb} (oC:h.get? C=some (excClassObj nm qn C N bs bm bc sn sub ab col dd k0 k1 k2 k3 k5 newId))
  (fin:R (.ok (.ret (.ref (h.objs.size+1)))) ⟨Dv C rest h,g,d,t,os⟩) (hz:rest.length<=sizeLine):codeAny (model prog w) A (.builtin newId ⟨.ref C::rest,[]⟩) R ⟨h,g,d,t,os⟩:=by
 have e1:=F.ends;have c1:(Value.ref C::bm).contains (.type B)=true:=by rw[contains_cons,T.b];simp
 have c2:(Value.ref C::bm).contains (.type "AttributeError")=false:=by rw[contains_cons,T.na];rfl
 have c3:(Value.ref C::bm).contains (.type "NameError")=false:=by rw[contains_cons,T.nn];rfl
 refine codeAny_builtinAt F.entry ?_;unfold Builtin.«BaseException.__new__»;refine PySem.wpAt_bind ?_;show PySem.wpAt _ _ _ (stack >>= _) _ _ _;refine PySem.wpAt_bind (PySem.wpAt_stack λp below=>PySem.wpAt_of_wpAny ?_)
 wp_walk
 refine PySem.wpAt_of_wpAny ?_;rw[F.owner]
 repeat (first |with_reducible refine wpAny_madeHere_exc F.canon oC ?_ |with_reducible refine ZY oC ?_ | (with_reducible refine Z4 oC ?_;first |rw[c1] |rw[c2] |rw[c3]) |wp_step)
 show R _ _;rw[Heap.size_push];exact fin
theorem MM (F:ExcBaseFacts B newId dm jX) (T:Kc B bm) {rest:Xb}{fI:Xd}{oI:Obj}{Q:Fin->Xe->Prop}
  (oC:h.get? C=some (excClassObj nm qn C N bs bm bc sn sub ab col dd k0 k1 k2 k3 k5 newId)) (li:W.Looks (model prog w) h (typeLookup (.ref C) "__init__") (some (.ref fI))) (oF:h.get? fI=some oI) (cF:oI.cls=.type "function") (hz:rest.length<=sizeLine)
  (fin:wpAny (model prog w) A (call (.ref fI) (.ref (h.objs.size+1)::rest)) (λr s'=>r=.none/\Q (.done (.ret (.ref (h.objs.size+1)))) s') E ⟨Dv C rest h,g,d,t,os⟩) :
  wpAny (model prog w) A (Builtin.«type.__call__» ⟨.ref C::rest,[]⟩) Q E ⟨h,g,d,t,os⟩:=by
 repeat (first |with_reducible refine ZY oC ?_ |with_reducible refine wpAny_madeBy_exc oC ?_ |wp_step)
 refine codeAny_call_builtin_code (Code.quiet_builtin _ F.quiet) (MJ F T oC (QK F T oC ?_ hz));show wpAny _ _ _ _ _ _;have kp:∀b o,h.get? b=some o->(Dv C rest h).get? b=some o:=λb o z=>ZX _ (ZX _ z);have oC1:=kp _ _ oC;have ge:(Dv C rest h).get? (h.objs.size+1)=some (ML C h):=by unfold Dv;heap_get
 have c1:(Value.ref C::bm).contains (.ref C)=true:=by simp
 unfold isInstance
 repeat (first |with_reducible refine ZY ge ?_ | (with_reducible refine Z4 oC1 ?_;rw[c1]) |wp_step)
 refine li A _ E ⟨Dv C rest h,g,d,t,os⟩ kp ?_;refine ZK (Zx ?_);unfold bindSpecial;refine Zx (wpAny_typeOf (T := "function") ⟨_,kp _ _ oF,cF⟩ ?_);rw[Zp qc];refine Zw (Zx (Zv fin (λr s' z=>?_) λ_ _ x=>x));obtain⟨rfl,hQ⟩:=z
 wp_walk
 exact hQ
theorem Of (F:ExcBaseFacts B newId dm jX) (T:Kc B bm) {rest:Xb}{fI:Xd}{oI:Obj}{Q:VS}
  (oC:h.get? C=some (excClassObj nm qn C N bs bm bc sn sub ab col dd k0 k1 k2 k3 k5 newId)) (li:W.Looks (model prog w) h (typeLookup (.ref C) "__init__") (some (.ref fI))) (oF:h.get? fI=some oI) (cF:oI.cls=.type "function") (hz:rest.length<=sizeLine)
  (fin:wpAny (model prog w) (A.under (.builtin "type.__call__" ⟨.ref C::rest,[]⟩)) (call (.ref fI) (.ref (h.objs.size+1)::rest)) (λr s'=>r=.none/\Q (.ref (h.objs.size+1)) s') E ⟨Dv C rest h,g,d,t,os⟩) :
  wpAny (model prog w) A (call (.ref C) rest) Q E ⟨h,g,d,t,os⟩:=by
 have f1:=tc_lookup;have f2:=tc_bind (.ref C);have hT:(⟨h,g,d,t,os⟩:Xe).TypeIs (.ref C) "type" := ⟨_,oC,rfl⟩;refine wpAny_call (codeAny_of_tree ?_);show wpAny _ _ (callAny (.ref C) _) _ _ _
 repeat (any_goals (first |assumption |with_reducible refine ZY oC ?_ |wp_step))
 refine⟨Zj,?_⟩;exact codeAny_call_builtin_at (Code.quiet_builtin _ qb) entry_typeCall (wpAny_check_type_call_sub oC (MM F T oC li oF cF hz fin))
end
noncomputable def FH (e C:Xd) (dx:Option Xd):HO:=.ext λh=>∃oe vs,h.get? e=some oe/\oe.cls=.ref C/\oe.dict=dx/\oe.data=.fields vs/\vs.size=6/\vs[1]?=some .none/\vs[2]?=some .none
noncomputable def A4 (K:FG) (C:Xd):Bool:=match K.lookup C with
 |some ⟨.type "type", _,.cls cd,sl⟩=>(match cd.mro,sl.toList with
  | .ref C'::bm,[_,_,_,_,some (.builtin n),_]=>C'==C && !cd.hasDel&&n == "ValueError.__new__" && bm.contains (.type "BaseException")&&bm.contains (.type "ValueError") && !bm.contains (.type "AttributeError") && !bm.contains (.type "NameError")
  |_,_=>false)
 |_=>false
theorem Gh (X:K.In h) (q:A4 K C=true):∃nm qn N bs bm bc sn sub ab col dd k0 k1 k2 k3 k5,h.get? C=some (excClassObj nm qn C N bs bm bc sn sub ab col dd k0 k1 k2 k3 k5 "ValueError.__new__")/\Kc "ValueError" bm:=by
 unfold A4 at q;split at q
 ·rename_i dd cd sl ho;split at q
  ·rename_i C' bm k0 k1 k2 k3 n k5 hm hs;simp only[Bool.and_eq_true,beq_iff_eq,Bool.not_eq_true']at q;obtain⟨⟨⟨⟨⟨⟨rfl,hdel⟩,rfl⟩,hb⟩,ht⟩,ha⟩,hn⟩:=q;obtain⟨nm,bs,mro,ns,qn,hd,sn,sub,ab,col,del⟩:=cd
   dsimp only at hm hdel
   subst hm hdel;obtain⟨l⟩:=sl;simp only at hs;subst hs;exact⟨nm,qn,ns,bs,bm,hd,sn,sub,ab,col,dd,k0,k1,k2,k3,k5,X _ _ ho,⟨ht,hb,ha,hn⟩⟩
  ·cases q
 ·cases q
structure MkX (K:FG) (C f:Xd):Prop where
 cls:A4 K C=true
 init:W.findIn K (.ref C) "__init__" = some (some (.ref f))
 fn:W.isFn K (.ref f)=true
 fo:∃o,K.lookup f=some o/\o.cls=.type "function"
 kp:W.keepIn K (.ref C)=true
section
variable {CX:gD}{k:Nat}{f:Xd}{fd:FuncData}{ps:Xa}{sp:Sp}{d7:Xc}{ds:Xb}{E:XK}{m:Str}{p apos:Pos}{o:Expr}{es:List Expr}{t:TA}
theorem Og (C:Xd) (rest:Xb) (h:Heap):(Dv C rest h).get? (h.objs.size+1)=some (ML C h):=by unfold Dv;heap_get
theorem Inv.madeX (I:Inv X aa σ H s) (rest:Xb):Inv X aa σ (upd H (s.heap.objs.size+1) (FH (s.heap.objs.size+1) C none)) { s with heap:=Dv C rest s.heap }:=by
 have kp:∀b o,s.heap.get? b=some o->(Dv C rest s.heap).get? b=some o:=λb o z=>ZX _ (ZX _ z);refine I.laid (t':=s.toks) kp (Nat.le_succ _) ?_;have ge:=Og C rest s.heap;exact⟨⟨_,_,ge,Zj,Zj,Zj,Zj,Zj,Zj⟩,⟨_,ge⟩,λh1 h2 ⟨oe,vs,a,r⟩ k=>⟨oe,vs,k _ a,r⟩⟩
theorem Oh {Q:VK}{vs:Xc} (M:MkX X.K C f) (F:Af X.prog X.w X.K X.mg X.base CX k f fd ps sp) (hr:aI (k+1) X.A) (hb:Binds X.K fd ps ds) (hd:Vals d7 ds) (hx:BW CX X E) (I:Inv X aa σ H s) (r:Vals vs us) (hz:vs.length<=1000)
  (h:∀x,H x=none->sp (.ref x::(vs++d7)) (upd H x (FH x C none)) (λv H2=>v=.aP/\Q (.ref x) H2) E):wpAny (model X.prog X.w) X.A (call (.ref C) us) (EP X aa σ Q) X.xe s:=by
 have hq:=h (s.heap.objs.size+1) (I.aE.fresh (Nat.le_succ _));have I2:=Inv.madeX (C:=C) I us;have r2:Vals (V.ref (s.heap.objs.size+1)::(vs++d7)) (Value.ref (s.heap.objs.size+1)::(us++ds)):=.cons rfl (r.append hd)
 have hl:(Value.ref (s.heap.objs.size+1)::us++ds).length=ps.length:=by
  have e:=r2.length;rw[F.len _ _ _ _ hq]at e;exact e.symm
 obtain⟨nm,qn,N,bs,bm,bc,sn,sub,ab,col,dd,k0,k1,k2,k3,k5,oC,T⟩:=Gh I.cY M.cls;obtain⟨oF,lF,cF⟩:=M.fo;obtain⟨hh,g,d,tk,os⟩:=s;refine Of PySem.F.excBase_ValueError T oC (W.looks_findIn I.cY M.init) (I.cY _ _ lF) cF (by rw[←r.length];exact Nat.le_of_lt (AL hz)) ?_;refine wpAny_call (codeAny_mono (F.run _ X.stack _ _ ⟨_,[]⟩ (Value.ref (hh.objs.size+1)::(us++ds)) _ _ E (hr.make C us []) (I2.env0.make C us []) (hb _ (Value.ref (hh.objs.size+1)::us) I2.cY hl) r2 hq) λr s' ft=>?_);cases r with
 |error e=>exact hx aa σ _ _ e s' I2 ft
 |ok fl =>
  cases fl with
  |ret u =>
   obtain⟨v,H',I3,rv,ev,q3⟩:=I2.after ft;subst ev;exact⟨rv,⟨V.ref (hh.objs.size+1),H',I3,Zj,q3⟩⟩
  |next=>exact False.elim ft
  |brk=>exact False.elim ft
  |cont=>exact False.elim ft
def MO (C:Xd) (sp:Sp) (d7:Xc) (E:XK) (t:TA):TE:=λσ H Q=>t σ H λvs H1=>vs.length<=1000/\∀x,H1 x=none->sp (.ref x::(vs++d7)) (upd H1 x (FH x C none)) (λv H2=>v=.aP/\Q (.ref x) H2) E
theorem Kd (M:MkX X.K C f) (F:Af X.prog X.w X.K X.mg X.base CX k f fd ps sp) (hr:aI (k+1) X.A) (hg:Gl X x) (hm:X.mg x=some (.ref C)) (hb:Binds X.K fd ps ds) (hd:Vals d7 ds) (hx:BW CX X E)
  (ha:PA X (e::es) t) (eI:(x==("__debug__" : Str))=false:=by decide) (he:starEach (e::es) X.env=(false,eval e X.env)::starEach es X.env:=by rfl) (eQ:(backTo pos (starEach es X.env)).any (·.1)=false:=by rfl) :
  PE X (.Call (.Name x p) (e::es) [] pos) (MO C sp d7 E t):=by
 intro aa s σ H Q I h;refine Z3 (CI I hg hm ?_ eI);refine W.callWith_K (h₀:=X.base) I.ok.mod.kin M.kp (aF (ha pos aa s σ H _ I h) λus s1 ⟨vs,H1,I1,r,q⟩=>⟨I1.cY,?_⟩) he eQ;exact Oh M F hr hb hd hx I1 r q.1 q.2
def MP (C:Xd) (te:TE) (E:XK):TS:=λ_ σ H=>te σ H λv H1=>∃e dx,v=.ref e/\H1 e=some (FH e C dx)/\E (.ref C) dx (upd H1 e (Fp e C dx))
theorem Oi {H1:Hp}{e:Xd}{dx:Option Xd} (ok:dq P w H1 h) (at_:H1 e=some (FH e C dx)):dq P w (upd H1 e (Fp e C dx)) h:=by
 obtain⟨⟨oe,vs,a1,a2,a3,a4,a5,a6,a7⟩,_,_⟩:=ok _ _ at_;refine ok.write (x:=e) (e:=e) (by rw[at_];exact True.intro) (.inl Zj) (λb u _ q=>q) ⟨_,a1⟩ ⟨⟨oe,vs,a1,a2,a3,a4,qe,a7⟩,⟨_,a1⟩,λh1 h2 ⟨oe,vs,a,r⟩ k=>⟨oe,vs,k _ a,r⟩⟩
end
section
variable {M:Model}{env:Env}
theorem Ke {x:Sem Value}{Q:Flow->Xe->Prop} (hh:A.handled=none)
  (h:wpAny M A x (λv s1=>∃e oe vs,v=.ref e/\s1.heap.get? e=some oe/\oe.cls=.ref C/\oe.data=.fields vs/\vs[1]?=some .none /\
   (∃nm qn N bs bm bc sn sub ab col dd k0 k1 k2 k3 k5 nid,s1.heap.get? C=some (excClassObj nm qn C N bs bm bc sn sub ab col dd k0 k1 k2 k3 k5 nid)/\bm.contains (.type "BaseException")=true)/\E (.ref e) s1) E s) :
  wpAny M A (raiseStmt env (some x) none) Q E s:=by
 unfold raiseStmt;refine Zx (Zv h (λv s1 z=>?_) λ_ _ y=>y);obtain⟨e,oe,vs,rfl,he,bj,hd,h1,⟨nm,qn,N,bs,bm,bc,sn,sub,ab,col,dd,k0,k1,k2,k3,k5,nid,oC,hb⟩,hE⟩:=z;have c1:(Value.ref C::bm).contains (.type "BaseException")=true:=by rw[contains_cons,hb,Bool.or_true]
 obtain⟨hp,g,d,tk,os⟩:=s1
 repeat (first | (with_reducible refine ZY he ?_;rw[bj]) |with_reducible refine ZY oC ?_ | (with_reducible refine Z4 oC ?_;rw[c1]) |wp_step)
 rw[hd];refine Zw ?_;rw[h1];refine Zw ?_;rw[Zq qc];exact Zw (wpAny_raiseNew_none hh hE)
end
section
variable {E:XK}{o:Expr}
theorem Kh (hR:QJ X E) (hc:X.calm=true) (hC:A4 X.K C=true) (he:PE X o te):PS X (.Raise (some o) none pos) (MP C te E):=by
 intro aa s σ H D I h;rw[arm_exec_Raise];refine Zx (ZJ (Ke (C:=C) (I.ok.hd hc) (Zx (Zv (he aa s σ H _ I h) (λv s1 z=>Zx (ZJ (Zw ?_))) λ_ _ y=>y))));obtain⟨u,H1,I1,ru,e,dx,rfl,at_,q⟩:=z;obtain rfl:v=.ref e:=ru;obtain⟨⟨oe,vs,a1,a2,a3,a4,a5,a6,a7⟩,_,_⟩:=I1.aE _ _ at_;obtain⟨nm,qn,N,bs,bm,bc,sn,sub,ab,col,dd,k0,k1,k2,k3,k5,oC,T⟩:=Gh I1.cY hC;refine⟨e,oe,vs,Zj,a1,a2,a4,a6,⟨nm,qn,N,bs,bm,bc,sn,sub,ab,col,dd,k0,k1,k2,k3,k5,_,oC,T.base⟩,?_⟩;refine hR aa σ H1 s1 e C dx _ s1 I1 ⟨Zj,I1.bare,Un.write (x:=e) (e:=e) (by rw[at_];exact True.intro) (.inl Zj) (λb u _ r=>r) ⟨_,a1⟩,Oi I1.aE at_,AB⟩ ⟨oe,vs,a1,a4,a6⟩ q
end
section
variable {prog:Program}{g:Array GenState}{d:Drawn}{t:Nat}{os:OsState}
variable {nm qn:Str}{N:Xd}{bs bm jX:Xb}{bc:Bool}{sn:Xa}{sub:Xb}{ab:Bool}{col:Option Bool}{dd:Option Xd}{k0 k1 k2 k3 k5:Option Value}{B newId dm:String}
theorem Ki (F:ExcBaseFacts B newId dm jX) (T:Kc B bm) {M:Model}{e:Xd}{oe:Obj}{rest:Xb}{Q:Unit->Xe->Prop}
  (oC:h.get? C=some (excClassObj nm qn C N bs bm bc sn sub ab col dd k0 k1 k2 k3 k5 newId)) (he:h.get? e=some oe) (bj:oe.cls=.ref C) (fin:Q () ⟨h,g,d,t,os⟩) :
  wpAny M A (checkBuiltinCall dm ⟨.ref e::rest,[]⟩) Q E ⟨h,g,d,t,os⟩:=by
 have c1:(Value.ref C::bm).contains (.type B)=true:=by rw[contains_cons,T.b];simp
 have st:=F.noStar;simp only[checkBuiltinCall,F.initKind,F.initSplit,F.initRow]
 repeat (first | (with_reducible refine ZY he ?_;rw[bj]) |with_reducible refine ZY oC ?_ | (with_reducible refine Z4 oC ?_;rw[c1]) |wp_step)
 refine wpAny_onRaise ?_;rw[show ∀(a b:String) (n:Nat),Bind.check ⟨.positional, "*", B,.self,[⟨"args", .varPos,false⟩]⟩ a b n (List.map (λx=>x.fst) ({ pos:=Value.ref e::rest }:Args).kw)=pure ()from λa b n=>check_star_args _ _ _ _ _ _];exact Zw fin
theorem MQ (F:ExcBaseFacts B newId dm jX) (T:Kc B bm) {e:Xd}{oe:Obj}{vs:Array Value}{v0:Value}{rest:Xb}{Q:VS}
  (oC:h.get? C=some (excClassObj nm qn C N bs bm bc sn sub ab col dd k0 k1 k2 k3 k5 newId)) (he:h.get? e=some oe) (bj:oe.cls=.ref C) (hd:oe.data=.fields vs) (h0:vs[0]?=some v0) (hz:rest.length<=sizeLine)
  (fin:Q .none ⟨(h.push { cls:=.type "tuple", data:=.seq rest.toArray }).update e (Obj.mapFields (·.setIfInBounds 0 (.ref h.objs.size))),g,d,t,os⟩) :
  wpAny (model prog w) A (call (.builtin dm) (.ref e::rest)) Q E ⟨h,g,d,t,os⟩:=by
 refine wpAny_call (codeAny_call_builtin F.init.plain F.initEntry (Ki F T oC he bj ?_));have e1:=ZX { cls:=.type "tuple", data:=.seq rest.toArray } he;unfold Builtin.«BaseException.__init__»
 wp_walk
 rw[hd];refine Zw ?_;rw[h0];refine Zw (Zx (wpAny_setField e1 hd (Z9.mp h0).1 ?_))
 have done:∀ {E':VS},wpAny (model prog w) A.in1 (match v0 with |Value.ref _=>letGo [v0] |_=>pure ()) (λ_ s'=>Q .none s') E' ⟨(h.push { cls:=.type "tuple", data:=.seq rest.toArray }).update e (Obj.mapFields (·.setIfInBounds 0 (.ref h.objs.size))),g,d,t,os⟩:=λ{E'}=>by
  cases v0 <;> first |exact Zw fin | (wp_walk;exact fin)
 exact Zv done (λ_ s' q=>Zw q) λ_ _ z=>z
end
theorem QL {o:HO} (h:H a=some o):upd H a o=H:=by
 funext b;unfold upd;split
 ·rename_i e;rw[e,h]
 ·rfl
theorem Oj {x:V}:∀ {us:Xb},Vals (x::xs) us->∃u ls,us=u::ls/\RelV x u/\Vals xs ls
 |_::_,.cons a b=>⟨_,_,rfl,a,b⟩
section
variable {es:List Expr}{t:TA}{np apos:Pos}
def UG (K:FG) (t:TA):TE:=λσ H Q=>t σ H λvs H1=>∃a C dx rest,vs=.ref a::rest/\rest.length<=1000/\A4 K C=true/\H1 a=some (FH a C dx)/\Q .aP H1
theorem R9:typeOf (.type "ValueError")=pure (.type "type"):=by kernel_rfl
theorem SA:Manifest.isStub "ValueError" = false:=by decide +kernel
theorem SB (K:FG):W.findCls K (.type "ValueError") (.type "type") "__init__" = some (.val (.builtin "ValueError.__init__")):=by kernel_rfl
theorem SC:W.handedIn (.builtin "ValueError.__init__")=true:=by decide +kernel
theorem NZ:bootBuiltins "ValueError" = some (.type "ValueError"):=by decide +kernel
theorem QM {pl:Sem Bool} (hg:Gl X "ValueError") (hm:X.mg "ValueError" = none) (ha:PA X (e::es) t) (he:starEach (e::es) X.env=(false,eval e X.env)::starEach es X.env:=by rfl) (eQ:(backTo pos (starEach es X.env)).any (·.1)=false:=by rfl)
  (ht:eval (.Call (.Attribute (.Name "ValueError" np) "__init__" apos) (e::es) [] pos) X.env=(do
   let ov ←eval (.Name "ValueError" np) X.env
   standAt apos.atName
   let (f,first) ←holding [ov] (getMethod ov "__init__" pl)
   callWith pos f first (backTo pos (starEach (e::es) X.env)) (backToKw pos (keywordEach [] X.env))):=by rfl) :
  PE X (.Call (.Attribute (.Name "ValueError" np) "__init__" apos) (e::es) [] pos) (UG X.K t):=by
 intro aa s σ H Q I h;refine W.methodCall_KW (pl:=pl) ?_ ht;refine EW (u:=.type "ValueError") I hg hm NZ ?_;obtain⟨m,Fm⟩:=I.fr;have L1:=λ(Q':Value×Xb->Xe->Prop) hq=>W.method_type (prog:=X.prog) (w:=X.w) (A:=X.A) (E:=X.xe) (K:=X.K) (T := "ValueError") (name := "__init__") (pl:=pl) (v:=.builtin "ValueError.__init__") (Q:=Q') Fm I.ok.mod.kin R9 SA (SB X.K) SC hq;refine L1 _ ?_;refine PyProof.Rows.callWith_builtin1 (aF (ha pos aa _ σ H _ (I.tok _) h) λus s1 ⟨vs,H1,I1,r1,a,C,dx,rest,ev,hz,hC,at_,q⟩=>?_) he eQ;subst ev;obtain⟨nm,qn,N,bs,bm,bc,sn,sub,ab,col,dd,k0,k1,k2,k3,k5,oC,T⟩:=Gh I1.cY hC;obtain⟨⟨oe,ws,a1,a2,a3,a4,a5,a6,a7⟩,_,st⟩:=I1.aE _ _ at_;obtain⟨u0,ls,eu,ra,rr⟩:=Oj r1;subst eu
 ·obtain rfl:=ra;obtain⟨hp,g,d,tk,os⟩:=s1;refine MQ PySem.F.excBase_ValueError T oC a1 a2 a4 (v0:=ws[0]'qe) (by rw[Array.getElem?_eq_getElem]) (by rw[←rr.length];exact Nat.le_of_lt (AL hz)) ?_;have J:=I1.kept (h':=hp.push { cls:=.type "tuple", data:=.seq ls.toArray }) (t':=tk) λb u z=>ZX _ z;have e1:=ZX { cls:=.type "tuple", data:=.seq ls.toArray } a1;have e2:=ZU (Obj.mapFields (·.setIfInBounds 0 (.ref hp.objs.size))) e1 (Obj.isFreed_of_fields (Obj.data_mapFields a4 _));rw[Ee a4]at e2
  have J2:=J.write (x:=a) (e:=a) (o:=FH a C dx) (t':=tk) (by rw[at_];exact True.intro) (.inl rfl) (λb u n z=>(ZW _ _ (Ne.symm n)).trans z) ⟨_,e2⟩
   ⟨⟨_,_,e2,a2,a3,rfl,by rw[Array.size_setIfInBounds];exact a5,by rw[Array.getElem?_setIfInBounds_ne qc];exact a6,by rw[Array.getElem?_setIfInBounds_ne qc];exact a7⟩,⟨_,e2⟩,st⟩
  rw[QL at_]at J2;exact⟨.aP,H1,J2,Zj,q⟩
end
noncomputable def HH (P:Program) (w:World) (K:FG) (mg:SV) (base:Heap) (N:Xa) (qual:Str) (scope:Scope) (f:Xd) (cd:Value) (A:Around) (outer:List Env) (s:Xe) (H:Hp) (e:Xd) (oe:Obj):Cx :=
 { BM aT P w K mg base N qual scope f cd A outer s H (λ_ _ _=>False)with calm:=false,pn:=[(e,oe)],xe:=λ_ _=>False }
structure RoomS (k:Nat) (A:Around):Prop where
 dp:A.depth+3*k+5<recursionLimit
 un:A.units+16*k+200<cLine
theorem RoomS.deeper {k:Nat}{A:Around} (r:RoomS (k+1) A) (env:Env):RoomS k (A.deeper env):=⟨by have:=r.dp;show A.depth+1+3*k+5<_;omega,by have:=r.un;show A.units+3+16*k+200<_;omega⟩
theorem MR {ps:Xa}{qual:Str}{scope:Scope}{f:Xd}{cd:Value}{outer:List Env}{s1:Xe}{vs:Xc}{e:Xd}{oe:Obj}
  (S:AN N ps scope) (e0:eV P w K mg base A outer s H) (hl:vs.length=ps.length) (r:Vals vs us) (he:s.heap.get? e=some oe) (hn:H e=none) (ho:e∉ di outer) (hd:∀v,oe.data≠ .cell v)
  (x:InCallC s s.heap.objs.size (bindL (envOfC qual scope s.heap.objs.size f cd).kindOf (ps.zip us) λ_=>none) (cellsFrom (s.heap.objs.size+1) scope.names []) (bindC (envOfC qual scope s.heap.objs.size f cd).kindOf (ps.zip us) λ_=>none) s1) :
  Inv (HH P w K mg base N qual scope f cd A outer s H e oe) [] (Bo N vs) H s1:=by
 have A0:∃A0:Around,A0.handled=none/\A0.frames=A.frames:=⟨{ A with handled:=none },rfl,rfl⟩;obtain⟨A0,h1,h2⟩:=A0;have I:=Fk (CX:=aT) (E:=λ_ _ _=>False) (A:=A0) S h1 ⟨h2.trans e0.frames,e0.mod,e0.bs,e0.gL,e0.dn,e0.ie,e0.aE,e0.bare⟩ hl r x;obtain⟨hh,tk,rfl,hk⟩:=x.done;have ok:=I.ok;refine⟨⟨ok.mod,ok.kind,ok.glob,ok.blt,ok.above,ok.inj,ok.has,ok.iV,(λz=>by cases (show false=true from z)),Around.frames_deeper e0.frames,ok.gm,ok.exf,ok.bs,ok.gL,ok.gc,ok.fh,ok.dn,ok.ie⟩,I.os,I.bare,I.base,I.loc,I.cell,I.free,I.cG,λp hp=>?_,I.aE,I.len⟩;have q:p=(e,oe):=by simpa[HH]using hp
 subst q;exact⟨hk _ _ he,hn,ZC (lt_size he),ho,hd⟩
abbrev SpS:=Xd->Obj->Xc->Hp->VK->Prop
structure Na (P:Program) (w:World) (K:FG) (mg:SV) (base:Heap) (k:Nat) (f:Xd) (fd:FuncData) (ps:Xa) (sp:SpS):Prop where
 len:∀e oe vs H Q,sp e oe vs H Q->vs.length=ps.length
 run:∀(A:Around) (outer:List Env) (s:Xe) (H:Hp) (args:Args) (us:Xb) (vs:Xc) (Q:VK) (e:Xd) (oe:Obj),RoomS k A->eV P w K mg base A outer s H->A.handled=some (.ref e)->s.heap.get? e=some oe->H e=none->e∉ di outer->(∀v,oe.data≠ .cell v) ->
  BindsTo s fd args (ps.zip us)->Vals vs us->sp e oe vs H Q->codeAny (model P w) A (.call (.ref f) args) (CR aT outer P w H s Q λ_ _ _=>False) s
section
theorem aY.okS {qual:Str}{st:Stmt}{f:Xd}{fd:FuncData}{ps:Xa}{k:Nat}{sp:SpS} (F:aY K x qual st f fd) (S:AN N ps (defScope st)) (len:∀e oe vs H Q,sp e oe vs H Q->vs.length=ps.length)
  (bh:∀(ad:Value) (A:Around) (outer:List Env) (s:Xe) (H:Hp) (vs:Xc) (Q:VK) (e:Xd) (oe:Obj),A.handled=some (.ref e)->RoomS k (A.deeper (envOfC qual (defScope st) s.heap.objs.size f ad))->sp e oe vs H Q ->
   ∃t,eK (HH P w K mg base N qual (defScope st) f ad A outer s H e oe) (defBody st) t/\t { nx:=λ_ H'=>Q .aP H',rt:=Q } (Bo N vs) H):Na P w K mg base (k+1) f fd ps sp:=by
 obtain⟨oc,od,kV,doc,pm,an,ad,ct,gp,rfl,lk,fg⟩:=F.ex;refine⟨len,λA outer s H args us vs Q e oe hr e0 hh he hn ho hd hb r gF=>?_⟩;have hl:=len _ _ _ _ _ gF;have KX:K.In s.heap:=e0.mod.kin.keeps λb o z=>(e0.bs b o z).1;have lim:s.heap.NoLimit:=e0.mod.nolimit.keeps λb o z=>(e0.bs b o z).1
 have hk:∀y∈ps.zip us,(defScope st).names.lookup y.1=some .local\/((defScope st).names.lookup y.1=some .cell/\((cellsFrom (s.heap.objs.size+1) (defScope st).names []).lookup y.1).isSome=true):=λ⟨n,v⟩ hy=>by
  rcases S.par n (of_mem_zip hy).1 with q |q
  ·exact .inl q
  ·exact .inr ⟨q,W.cellsFrom_some _ _ _ (.inl q)⟩
 refine codeAny_call_function (by have:=hr.dp;omega) (KX _ _ lk) rfl S.co S.gen rfl (W.codeRec_of KX fg) (hb _ _ _ _ (wpAny_newFunctionEnv_cells S.kind hk λenv ee s1 x=>?_));subst ee;refine⟨lim.keeps x.toInCall.keep,codeAny_func ?_⟩;obtain⟨t,ht,hq⟩:=bh ad A outer s H vs Q e oe hh (hr.deeper _) gF;have I:Inv (HH P w K mg base N qual (defScope st) f ad A outer s H e oe) [] (Bo N vs) H s1:=MR S e0 hl r he hn ho hd x;refine Zv (ht [] s1 (Bo N vs) H _ I hq) (λfl s' z=>?_) λ_ _ z=>z.elim;cases fl with
 |ret u =>
  obtain⟨v,aJ,H',J,rv,q⟩:=z;exact⟨v,H',J.os,J.bare,J.base,J.aE,rv,q⟩
 |next =>
  obtain⟨aJ,H',J,q⟩:=z;exact⟨.aP,H',J.os,J.bare,J.base,J.aE,Zj,q⟩
 |brk =>
  obtain⟨_,_,_,q⟩:=z;exact q.elim
 |cont =>
  obtain⟨_,_,_,q⟩:=z;exact q.elim
theorem SD {qual:Str}{scope:Scope}{f:Xd}{cd:Value}{outer:List Env}{e:Xd}{oe:Obj}{vs:Array Value} (hh:A.handled=some (.ref e)) (hd:oe.data=.fields vs) (h2:vs[2]?=some .none) :
  iG (HH P w K mg base N qual scope f cd A outer s H e oe):=.inr ⟨e,oe,vs,hh,ZI,hd,h2⟩
end
noncomputable def del (H:Hp) (a:Xd):Hp:=λb=>if b=a then none else H b
theorem Kj:del H a a=none:=Zp rfl
theorem Dw {b:Xd} (h:b≠a):del H a b=H b:=Zq h
section
variable {H1 H2:Hp}{s1 s2:Xe}{e:Xd}{dx:Option Xd}
theorem QN {fs:List Xd}{oe:Obj}{vs:Array Value}{old:Xd->Prop}{h2 h':Heap} (u:Un fs [] H1 H2 h h2) (L:HF fs e oe vs old h2 h') (at_:H2 e=some (Fp e C dx)) (hold:∀b,old b->H2 b=none/\h.get? b=none):Un fs [] H1 (del H2 e) h h':=by
 have ne:∀b,H2 b=none->b≠e:=λb n z=>by subst z;rw[at_]at n;cases n
 have nold:∀b o,h.get? b=some o->¬ old b:=λb o hb z=>by rw[(hold b z).2]at hb;cases hb
 have ne2:∀b v,H2 b=some v->(∀φ,v≠ .ext φ)->b≠e:=λb v hv hn z=>by subst z;rw[at_]at hv;cases hv;exact hn _ rfl
 refine⟨λb o q n hb _=>?_,λb o q n hb _=>?_,λb o q n _=>?_,λb o q _=>?_,λb xs q=>?_,λb o xs q=>?_,λb ps q=>?_⟩
 ·exact L.keep b o (u.keep b o q n hb (by simp)) (ne b (u.free b o q n (by simp))) (nold b o q) hb
 ·obtain⟨sl,q1⟩:=u.slot b o q n hb (by simp);obtain⟨eO,q2⟩:=L.slot b _ q1 (ne b (u.free b o q n (by simp))) (nold b o q) hb;exact⟨eO,q2⟩
 ·have z:=u.free b o q n (by simp);rw[Dw (ne b z)];exact z
 ·obtain⟨o1,q1⟩:=u.there b o q (by simp);exact L.there b o1 q1
 ·have z:=u.fb b xs q;rw[Dw (ne2 b _ z λ_ y=>nomatch y)];exact z
 ·have z:=u.eT b o xs q;rw[Dw (ne2 b _ z λ_ y=>nomatch y)];exact z
 ·obtain⟨m,z⟩:=u.eR b ps q;exact⟨m,by rw[Dw (ne2 b _ z λ_ y=>nomatch y)];exact z⟩
theorem SE (ok:dq P w H2 h) (at_:H2 e=some (Fp e C dx)):dq P w (del H2 e) h:=λb u q=>by
 have hb:b≠e:=λz=>by subst z;rw[Kj]at q;cases q
 rw[Dw hb]at q;have ne2:∀c v,H2 c=some v->(∀φ,v≠ .ext φ)->c≠e:=λc v hv hn z=>by subst z;rw[at_]at hv;cases hv;exact hn _ rfl
 exact(ok b u q).fc (λ_ _ _ z=>z) (λc z=>by rw[Dw (ne2 c _ z λ_ y=>nomatch y)];exact z) λc xs z=>by rw[Dw (ne2 c _ z λ_ y=>nomatch y)];exact z
structure Cgt (C:Xd) (dx:Option Xd) (e:Xd) (oe:Obj) (T:Xd) (oT:Obj):Prop where
 cls:oe.cls=.ref C
 dict:oe.dict=dx
 fld:∃vs,oe.data=.fields vs/\vs[1]?=some (.ref T)/\vs[2]?=some .none
 tb:∃ts,oT.data=.fields ts/\ts[3]?=some .none
theorem UH {E':VS}{Q:Unit->Xe->Prop} (O:MF X) (I:Inv X aa σ H1 s1) (F:Fly X.prog X.w X.stack H1 s1 e C dx H2 s2)
  (h:∀s3 oe T oT,Cgt C dx e oe T oT->Inv X ((e,oe)::(T,oT)::aa) σ (del H2 e) s3->Q () s3) :
  wpAny (model X.prog X.w) X.A (noteFrame (.ref e) X.env) (λ_ s3=>wpAny (model X.prog X.w) X.A (setFlight (.ref e) none) Q E' s3) E' s2:=by
 obtain⟨B,oe,vs,T,oT,ts,a1,a2,a3,a4,a5,a6,a7,a8,a9⟩:=F;have fr:=Ef I B;have hA:=I.ok.frames;rw[O.gm]at fr hA;refine Ip hA fr O.fr a1 a2 a3 a4 a5 a6 a7 λh' L=>?_;rw[←O.gm]at L;have hold:∀b,b=T->H2 b=none/\s1.heap.get? b=none:=λb z=>by subst z;exact⟨a8,a9⟩
 have free2:∀b∈di X.stack,H2 b=none:=λb hb=>by
  obtain⟨_,o,ho,_⟩:=I.stack.mem hb;exact B.un.free b o ho (I.stkFree b hb) (by simp)
 have ok3:=Ka B.aE L free2 (λb z=>(hold b z).1) a1 a2 B.at_;obtain⟨T',oT',ts',b1,b2,b3,b4,b5⟩:=L.tb;obtain⟨⟨oe',jF,c1,c2,c3,c4,c5,c6⟩,_,_⟩:=B.aE _ _ B.at_;rw[a1]at c1;cases c1;rw[a2]at c4;cases c4;have I3:Inv X aa σ (del H2 e) { s2 with heap:=h' }:=I.call' (ch:=[]) B.os (QN B.un L B.at_ hold) (SE ok3 B.at_) B.bare λb z=>nomatch z;have hT0:s2.heap.get? T'=none:=Heap.get?_none_of_le b1;have hTH:H2 T'=none:=B.aE.fresh b1;have hTe:T'≠e:=λz=>by subst z;rw[a1]at hT0;cases hT0
 have locs:∃o,s2.heap.get? X.env.locals=some o:=by
  obtain⟨m,⟨o,_,_,ho,_⟩,_⟩:=id I.loc;exact B.un.there _ o ho (by simp)
 have fsIn:∀b∈X.fs,∃o,s2.heap.get? b=some o:=λb hb=>by
  obtain⟨_,o,ho,_⟩:=I.dn.mem hb;exact B.un.there b o ho (by simp)
 have upfs:∀b∈X.fs,b∈di X.stack:=λb hb=>by
  rw[O.gm];unfold di;rw[ZM,O.fr];exact ZR _ hb
 refine h _ { oe with data:=.fields (vs.setIfInBounds 1 (.ref T')) } T' oT' ⟨c2,c3,⟨vs.setIfInBounds 1 (.ref T'),rfl,by simp[(Z9.mp a3).1],by rw[Array.getElem?_setIfInBounds_ne qc];exact c6⟩,⟨ts',b3,b4⟩⟩ (I3.bY λp hp=>?_);rcases mem_cons.mp hp with z |z
 ·subst z;refine⟨b5,Kj,λz=>?_,λz=>?_,λv z=>by cases z⟩
  ·obtain⟨m,⟨o,_,_,ho,_⟩,_⟩:=id I.loc;have n1:=B.un.free _ _ ho I.free (by simp);rw[←z,B.at_]at n1;cases n1
  ·have n1:=free2 e (upfs e z);rw[B.at_]at n1;cases n1
 rcases mem_cons.mp z with z |z
 ·subst z;refine⟨b2,by rw[Dw hTe];exact hTH,λz=>?_,λz=>?_,λv z=>by rw[b3]at z;cases z⟩
  ·obtain⟨o,ho⟩:=locs;rw[←z,hT0]at ho;cases ho
  ·obtain⟨o,ho⟩:=fsIn _ z;rw[hT0]at ho;cases ho
 ·exact I3.pin p (ZT _ z)
end
noncomputable def Dk (K:FG) (C:Xd):Xb:=match K.lookup C with
 |some ⟨_,_,.cls cd,_⟩=>cd.mro
 |_=>[]
theorem Kk (X:K.In h) (q:A4 K C=true):∃nm qn N bs bm bc sn sub ab col dd k0 k1 k2 k3 k5,h.get? C=some (excClassObj nm qn C N bs bm bc sn sub ab col dd k0 k1 k2 k3 k5 "ValueError.__new__")/\Kc "ValueError" bm/\Dk K C=.ref C::bm:=by
 obtain⟨nm,qn,N,bs,bm,bc,sn,sub,ab,col,dd,k0,k1,k2,k3,k5,oC,T⟩:=Gh X q;refine⟨nm,qn,N,bs,bm,bc,sn,sub,ab,col,dd,k0,k1,k2,k3,k5,oC,T,?_⟩;unfold A4 at q;unfold Dk;split at q
 ·rename_i gB cd sl ho;rw[ho];have e:=X _ _ ho;rw[oC]at e;have e1:=Option.some.inj e;have e3:=congrArg Obj.data e1;injection e3 with e2
  rw[←e2]
 ·cases q
section
variable {M:Model}{g:Array GenState}{d:Drawn}{t:Nat}{os:OsState}
variable {nm qn nm' qn':Str}{N D N':Xd}{bs bm bs' bm':Xb}{bc hdct':Bool}{sn sn':Xa}{sub sub':Xb}{ab ab':Bool}{col col':Option Bool}{dd gB:Option Xd}{k0 k1 k2 k3 k5 l0 l1 l2 l3 l5:Option Value}{newId newId':String}
theorem Jd {e:Xd}{oe:Obj}{Q:Bool->Xe->Prop} (oC:h.get? C=some (excClassObj nm qn C N bs bm bc sn sub ab col dd k0 k1 k2 k3 k5 newId)) (oD:h.get? D=some (excClassObj nm' qn' D N' bs' bm' hdct' sn' sub' ab' col' gB l0 l1 l2 l3 l5 newId'))
  (he:h.get? e=some oe) (bj:oe.cls=.ref C) (bq:bm'.contains (.type "BaseException")=true) (hq:Q ((Value.ref C::bm).contains (.ref D)) ⟨h,g,d,t,os⟩):wpAny M A (excMatches (.ref e) (.ref D)) Q E ⟨h,g,d,t,os⟩:=by
 have hcB:(Value.ref D::bm').contains (.type "BaseException")=true:=by rw[contains_cons,bq,Bool.or_true]
 have f:=tc_notTuple;unfold excMatches;generalize hb:(Value.ref C::bm).contains (.ref D)=b at hq
 repeat (first | (with_reducible refine ZY he ?_;rw[bj]) |with_reducible refine ZY oD ?_ | (with_reducible refine Z4 oD ?_;rw[hcB]) | (with_reducible refine Z4 oC ?_;rw[hb]) |wp_step)
 cases b <;> (wp_walk;exact hq)
end
noncomputable def BY (X:Cx) (e:Xd) (oe:Obj) (T:Xd) (oT:Obj):Cx:={ X with A:=X.A.mark (some (.ref e)),calm:=false,pn:=X.pn++[(e,oe),(T,oT)],xe:=λ_ _=>False }
section
variable {e T:Xd}{oe oT:Obj}
theorem Inv.mark (I:Inv X ((e,oe)::(T,oT)::aa) σ H s):Inv (BY X e oe T oT) aa σ H s :=
 ⟨⟨I.ok.mod,I.ok.kind,I.ok.glob,I.ok.blt,I.ok.above,I.ok.inj,I.ok.has,I.ok.iV,(λz=>by cases (show false=true from z)),I.ok.frames,I.ok.gm,I.ok.exf,I.ok.bs,I.ok.gL,I.ok.gc,I.ok.fh,I.ok.dn,I.ok.ie⟩,I.os,I.bare,I.base,I.loc,I.cell,I.free,I.cG,
  λp hp=>I.pin p (by simpa[BY]using hp),I.aE,I.len⟩
theorem Inv.unmark (ok:X.Ok) (I:Inv (BY X e oe T oT) aa σ H s):Inv X ((e,oe)::(T,oT)::aa) σ H s :=
 ⟨ok,I.os,I.bare,I.base,I.loc,I.cell,I.free,I.cG,λp hp=>I.pin p (by simpa[BY]using hp),I.aE,I.len⟩
theorem Inv.less {q:LO} (I:Inv X (q++aa) σ H s):Inv X aa σ H s:=I.bY λp hp=>I.pin p (ZT _ (ZT _ hp))
theorem Inv.nameless {h':Heap}{m':SV}{tk:Nat} (I:Inv X aa σ H s) (hn:h'.Ns X.env.locals m') (hs:Heap.SameBut X.env.locals s.heap h'):Inv X aa (List.replicate σ.length none) H { s with heap:=h',toks:=tk }:=by
 obtain⟨m,⟨oL,_,_,gQ,_⟩,_⟩:=id I.loc;refine⟨I.ok,I.os,I.bare,⟨λb o e n hb hx=>?_,λb o e n hb hx=>?_,I.base.free,λb o e hx=>?_,I.base.fb,I.base.eT,I.base.eR⟩,⟨_,hn,λj y v' e1 e2 e3=>?_⟩,λy c e=>?_,I.free,I.cG,λp hp=>?_,λb ob e=>?_,by simpa using I.len⟩
 ·exact(hs.2 b (ZC (Z2 (lt_size e) I.ok.above))).trans (I.base.keep b o e n hb hx)
 ·obtain⟨sl,e1⟩:=I.base.slot b o e n hb hx;exact⟨sl,(hs.2 b (ZC (Z2 (lt_size e) I.ok.above))).trans e1⟩
 ·obtain⟨o',e1⟩:=I.base.there b o e hx;exact⟨o',(hs.2 b (ZC (Z2 (lt_size e) I.ok.above))).trans e1⟩
 ·rw[List.getElem?_replicate]at e2;split at e2 <;> cases e2
 ·obtain⟨w',z⟩:=I.cell y c e;exact⟨w',z.sameBut hs (I.jA y c e)⟩
 ·obtain⟨e,n,ne,nf,d⟩:=I.pin p hp;exact⟨(hs.2 p.1 ne).trans e,n,ne,nf,d⟩
 ·refine(I.aE b ob e).fc (λc w' hc q=>(hs.2 c ?_).trans q) (λ_ q=>q) λ_ _ q=>q;intro z;subst z;rcases hc with z |hc
  ·rw[←z,I.free]at e;cases e
  ·rw[I.free]at hc;cases hc
end
def PH (X:Cx) (C:Xd) (dx:Option Xd) (hs:List ExceptHandler) (t:Xd->TS):Prop :=
 ∀(aa:LO) (s:Xe) (σ:St) (H:Hp) (D:Dj) (e:Xd) (oe:Obj) (T:Xd) (oT:Obj),Cgt C dx e oe T oT->Inv X ((e,oe)::(T,oT)::aa) σ H s->t e D σ H->wpAny (model X.prog X.w) X.A (handleBy (.ref e) X.env hs) (SP X aa D) X.xe s
section
variable {Dn:Xd}{dx:Option Xd}{hs:List ExceptHandler}{t:Xd->TS}{np:Pos}{name:Option Str}{body:List Stmt}
theorem Iq (e:Xd):Value.ref e≠byPass:=by intro q;cases q
theorem Ir {e T:Xd}{oe oT:Obj} (hC:A4 X.K C=true) (hD:A4 X.K Dn=true) (c:Cgt C dx e oe T oT) (I:Inv X ((e,oe)::(T,oT)::aa) σ H s) {Q:Bool->Xe->Prop}
  (h:Q ((Dk X.K C).contains (.ref Dn)) s):wpAny (model X.prog X.w) A (excMatches (.ref e) (.ref Dn)) Q E s:=by
 obtain⟨nm,qn,N,bs,bm,bc,sn,sub,ab,col,dd,k0,k1,k2,k3,k5,oC,T1,e1⟩:=Kk I.cY hC;obtain⟨nm',qn',N',bs',bm',hdct',sn',sub',ab',col',gB,l0,l1,l2,l3,l5,oD,T2,e2⟩:=Kk I.cY hD;have he:=(I.pin (e,oe) (by simp)).1;rw[e1]at h;obtain⟨hp,g,d,tk,os⟩:=s;exact Jd oC oD he c.cls T2.base h
theorem CK (hC:A4 X.K C=true) (hD:A4 X.K Dn=true) (hg:Gl X x) (hm:X.mg x=some (.ref Dn)) (jt:(Dk X.K C).contains (.ref Dn)=false) (hr:PH X C dx hs t) (eI:(x==("__debug__" : Str))=false:=by decide) :
  PH X C dx (.ExceptHandler (some (.Name x np)) name body pos::hs) t:=by
 intro aa s σ H D e oe T oT c I h;refine wpAny_handleBy_cons (codeAny_handlers_test ?_) (Iq e);refine CI (X:=BY X e oe T oT) I.mark hg hm ?_ eI;refine Ir hC hD c I ?_;rw[jt];exact hr aa s σ H D e oe T oT c I h
def Nb (i:Nat) (tb:TS):Xd->TS:=λe D σ H=>tb { nx:=λ_ _=>False,rt:=D.rt } (σ.set i (some (.ref e))) H
theorem Nd {n:Str}{b₀:Stmt}{i:Nat}{tb:Xd->TS} (hN:X.N.Nodup) (hi:X.N[i]?=some n) (hl:X.env.scope.names.lookup n=some .local) (hC:A4 X.K C=true) (hD:A4 X.K Dn=true) (hg:Gl X x) (hm:X.mg x=some (.ref Dn)) (jt:(Dk X.K C).contains (.ref Dn)=true)
  (hb:∀e oe T oT,Cgt C dx e oe T oT->eK (BY X e oe T oT) (b₀::body) (tb e)) (eI:(x==("__debug__" : Str))=false:=by decide) :
  PH X C dx (.ExceptHandler (some (.Name x np)) (some n) (b₀::body) pos::hs) (λe=>Nb i (tb e) e):=by
 intro aa s σ H D e oe T oT c I h;refine wpAny_handleBy_cons (codeAny_handlers_test ?_) (Iq e);refine CI (X:=BY X e oe T oT) I.mark hg hm ?_ eI;refine Ir hC hD c I ?_;rw[jt];refine codeAny_handlers_suite_as ?_;obtain⟨vs,hd,h1,h2⟩:=c.fld;obtain⟨ts,iP,h3⟩:=c.tb;have he:=(I.pin (e,oe) (by simp)).1;have hT:=(I.pin (T,oT) (by simp)).1;refine wpAny_setFlight_none he hd h1 hT iP (Z9.mp h3).1 ?_
 have I1:Inv X ((e,oe)::(T,oT)::aa) σ H { s with heap:=s.heap.update T (Obj.mapFields (·.setIfInBounds 3 .none)) }:=I.kept (t':=s.toks) λb u q=>by
  by_cases z:b=T
  ·subst z;have e1:=ZU (Obj.mapFields (·.setIfInBounds 3 Value.none)) hT (Obj.isFreed_of_fields (Obj.data_mapFields iP _));rw[Ee iP]at e1
   have e2:ts.setIfInBounds 3 Value.none=ts:=by
    obtain⟨l1,l2⟩:=Z9.mp h3;rw[Array.setIfInBounds,dif_pos l1]
    conv=>lhs;rw[←l2]
    exact Array.set_getElem_self l1
   rw[e2,←iP]at e1;rw[show s.heap.get? b=some oT from hT]at q;cases q;exact e1
  ·exact(ZW _ _ (Ne.symm z)).trans q
 refine Br (X:=BY X e oe T oT) (v:=.ref e) I1.mark hN hi (.inl hl) rfl (λs2 I2=>?_) (.inr hl);refine Zv (hb e oe T oT c aa s2 _ H _ I2 h) (λfl s3 z=>?_) λ_ _ z=>z.elim;cases fl with
 |ret u =>
  obtain⟨v,aJ,H',J,rv,q⟩:=z;have J':=J.unmark I.ok;obtain⟨m,hn,_⟩:=id J'.loc;have bj:(X.env.scope.kind == .class||(X.env.scope.kind == .module&&X.env.locals != X.env.globals))=false:=by rw[I.ok.kind];rfl
  exact wpAny_nameGoes hl hn bj λh' m' hn' jt=>⟨v,_,H',(J'.nameless hn' jt).less (q:=[(e,oe),(T,oT)]),rv,q⟩
 |next =>
  obtain⟨_,_,_,q⟩:=z;exact q.elim
 |brk =>
  obtain⟨_,_,_,q⟩:=z;exact q.elim
 |cont =>
  obtain⟨_,_,_,q⟩:=z;exact q.elim
end
noncomputable def FI (X:Cx) (P0:LO) (xe:VS):Cx:={ X with pn:=X.pn++P0,xe:=xe }
section
variable {P0:LO}{xe:VS}
theorem Cx.Ok.tr (ok:X.Ok):(FI X P0 xe).Ok:=⟨ok.mod,ok.kind,ok.glob,ok.blt,ok.above,ok.inj,ok.has,ok.iV,ok.hd,ok.frames,ok.gm,ok.exf,ok.bs,ok.gL,ok.gc,ok.fh,ok.dn,ok.ie⟩
theorem Cx.Ok.untr (ok:(FI X P0 xe).Ok):X.Ok:=⟨ok.mod,ok.kind,ok.glob,ok.blt,ok.above,ok.inj,ok.has,ok.iV,ok.hd,ok.frames,ok.gm,ok.exf,ok.bs,ok.gL,ok.gc,ok.fh,ok.dn,ok.ie⟩
theorem Inv.tr (I:Inv X P0 σ H s):Inv (FI X P0 xe) [] σ H s:=⟨I.ok.tr,I.os,I.bare,I.base,I.loc,I.cell,I.free,I.cG,λp hp=>I.pin p (by simpa[FI]using hp),I.aE,I.len⟩
theorem Inv.untr (I:Inv (FI X P0 xe) aa σ H s):Inv X P0 σ H s:=⟨I.ok.untr,I.os,I.bare,I.base,I.loc,I.cell,I.free,I.cG,λp hp=>I.pin p (by
 rcases mem_append.mp hp with z |z
 ·exact ZP _ (ZP _ z)
 ·exact ZP _ (ZT _ z)),I.aE,I.len⟩
end
def SG (n:Nat) (th:Xd->Option Xd->Xd->TS) (D:Dj):XK:=λCv dx H2=>∃C,Cv=.ref C/\∀e,H2 e=some (Fp e C dx)->th C dx e D (List.replicate n none) (del H2 e)
def Wg (n:Nat) (tb:XK->TS) (th:Xd->Option Xd->Xd->TS):TS:=λD σ H=>tb (SG n th D) { D with nx:=D.nx } σ H
section
variable {body:List Stmt}{h₀:ExceptHandler}{hs:List ExceptHandler}{tb:XK->TS}{th:Xd->Option Xd->Xd->TS}{Cs:Xd->Prop}
theorem UI (O:MF X) (hb:∀P0 xe E,BW (eZ X.prog X.w) (FI X P0 xe) E->eK (FI X P0 xe) body (tb E)) (hh:∀C dx,PH X C dx (h₀::hs) (th C dx)) :
  PS X (.Try body (h₀::hs) [] [] pos) (Wg X.N.length tb th):=by
 intro aa s σ H D I h;refine wpAny_Try_except ?_
 let E:XK:=SG X.N.length th D
 let xe:Value->Xe->Prop:=λev s2=>∃iK H1 s1 ea C dx H2,ev=.ref ea/\Inv X aa iK H1 s1/\Fly X.prog X.w X.stack H1 s1 ea C dx H2 s2/\E (.ref C) dx H2
 have hp:BW (eZ X.prog X.w) (FI X aa xe) E:=by
  rintro pins' iK H1 s1 ev s2 I1 ⟨ea,C,dx,H2,rfl,F,q⟩;exact⟨iK,H1,s1,ea,C,dx,H2,Zj,I1.untr,F,q⟩
 have ok:=I.ok;refine Zv (hb aa xe E hp [] s σ H _ I.tr h) (λfl s1 z=>?_) λev s2 z=>?_
 ·cases fl with
  |next =>
   obtain⟨aJ,H',J,q⟩:=z;exact wpAny_execs_nil ⟨aJ,H',J.untr,q⟩
  |brk=>obtain⟨aJ,H',J,q⟩:=z;exact⟨aJ,H',J.untr,q⟩
  |cont=>obtain⟨aJ,H',J,q⟩:=z;exact⟨aJ,H',J.untr,q⟩
  |ret u=>obtain⟨v,aJ,H',J,r,q⟩:=z;exact⟨v,aJ,H',J.untr,r,q⟩
 ·obtain⟨iK,H1,s1,ea,C,dx,H2,rfl,I1,F,C',eC,q⟩:=z;cases eC;refine UH O I1 F λs3 oe T oT c I3=>?_
  have I4:Inv X ((ea,oe)::(T,oT)::aa) (List.replicate X.N.length none) (del H2 ea) s3:=I3.weak (by rw[List.length_replicate,I3.len]) λi v z=>by
   rw[List.getElem?_replicate]at z;split at z <;> cases z
  exact hh C dx aa s3 _ _ D ea oe T oT c I4 (q ea F.1.at_)
end
structure Eg (K:FG) (C:Xd):Prop where
 ga:W.findIn K (.ref C) "__getattribute__" = some (some (.builtin "BaseException.__getattribute__"))
 gr:W.findIn K (.ref C) "__getattr__" = some none
 mb:W.mroIn K C (.type "BaseException")=some true
section
variable {prog:Program}{x:Xd}{ox:Obj}{od:Option Obj}{name:Str}{g:Array GenState}{d:Drawn}{t:Nat}{os:OsState}
theorem Ol {M:Model}{nameV:Value}{Q:Unit->Xe->Prop} (p:Eg K C) (X:K.In h) (I:W.InstAt h x ox C od) (hq:Q () ⟨h,g,d,t,os⟩):wpAny M A (checkBuiltinCall "BaseException.__getattribute__" ⟨[.ref x,nameV],[]⟩) Q E ⟨h,g,d,t,os⟩:=by
 have hk:builtinKind "BaseException.__getattribute__" = some .slot:=by decide +kernel
 have hsplit:splitId "BaseException.__getattribute__" = some ("BaseException", "__getattribute__"):=by decide +kernel
 have ha:=F.args_bexc_ga (.ref x) nameV;have L0:=I.type (M:=M);have L1:=W.looks_mroIn (M:=M) X p.mb;simp only[checkBuiltinCall,hk,hsplit];refine Zx ?_
 ·unfold isInstance
  repeat (first |with_reducible refine L0.at ?_ |with_reducible refine L1.at ?_ |wp_step)
  exact hq
theorem Om {v:Value}{tk:Tok}{Q:Fin->Xe->Prop} (X:K.In h) (I:W.InstAt h x ox C od) (hf:W.findObj K C od name=some (.value v)) (hq:Q (.done (.ret v)) ⟨h,g,d,t,os⟩) :
  wpAny (model prog w) A (Builtin.«object.__getattribute__» ⟨[.ref x,.str name tk],[]⟩) Q E ⟨h,g,d,t,os⟩:=by
 have L0:=I.type (M:=model prog w);have L1:=W.looks_find (M:=model prog w) X I hf
 repeat (any_goals (first |assumption |with_reducible refine L0.at ?_ |with_reducible refine L1.at ?_ |wp_step))
theorem On {tk:Tok}{Q:Fin->Xe->Prop} (X:K.In h) (I:W.InstAt h x ox C od) (hf:W.findObj K C od name=some (.bind (.builtin "getset_descriptor.__get__") (.builtin "object.__class__"))) (hm:W.mroIn K C (.type "object")=some true)
  (hq:Q (.done (.ret (.ref C))) ⟨h,g,d,t,os⟩) :
  wpAny (model prog w) A (Builtin.«object.__getattribute__» ⟨[.ref x,.str name tk],[]⟩) Q E ⟨h,g,d,t,os⟩:=by
 have L0:=I.type (M:=model prog w);have L1:=W.looks_find (M:=model prog w) X I hf
 repeat (any_goals (first |assumption |with_reducible refine L0.at ?_ |with_reducible refine L1.at ?_ |wp_step))
 exact W.class_get X I hm (Zw hq)
theorem QO {tk:Tok}{v:Value}{R:Result->Xe->Prop} (p:Eg K C) (X:K.In h) (I:W.InstAt h x ox C od)
  (hb:∀(A':Around) (E':VS) (Q:Fin->Xe->Prop),Q (.done (.ret v)) ⟨h,g,d,t,os⟩->wpAny (model prog w) A' (Builtin.«object.__getattribute__» ⟨[.ref x,.str name tk],[]⟩) Q E' ⟨h,g,d,t,os⟩) (hq:R (.ok (.ret v)) ⟨h,g,d,t,os⟩) :
  codeAny (model prog w) A (.call (.builtin "BaseException.__getattribute__") ⟨[.ref x,.str name tk],[]⟩) R ⟨h,g,d,t,os⟩ :=
 codeAny_call_builtin F.excAttr_ValueError.ga.plain F.entry_bexc_ga (Ol p X I (hb _ _ _ hq))
theorem QP {tk:Tok}{v:Value}{fill expr:Bool}{Q:VS} (p:Eg K C) (X:K.In h) (I:W.InstAt h x ox C od) (hh:W.handedIn v=true)
  (hb:∀(A':Around) (E':VS) (Q:Fin->Xe->Prop),Q (.done (.ret v)) ⟨h,g,d,t,os⟩->wpAny (model prog w) A' (Builtin.«object.__getattribute__» ⟨[.ref x,.str name tk],[]⟩) Q E' ⟨h,g,d,t,os⟩) (hq:Q v ⟨h,g,d,t,os⟩) :
  wpAny (model prog w) A (getAttrBy (.ref x) (.str name tk) fill expr) Q E ⟨h,g,d,t,os⟩:=by
 have L0:=I.type (M:=model prog w);have L1:=W.looks_findIn (M:=model prog w) X p.ga;have L2:=W.looks_findIn (M:=model prog w) X p.gr;have f3:=F.excAttr_ValueError.ga.bind (.ref x);have hx0:(expr&&onTheHeap (Value.builtin "BaseException.__getattribute__"))=false:=by cases expr <;> rfl
 have hx2:(Value.builtin "BaseException.__getattribute__" == Value.builtin "object.__getattribute__")=false:=by decide +kernel
 have hx1:(onTheHeap (Value.ref C)&&Value.builtin "BaseException.__getattribute__" == Value.builtin "object.__getattribute__")=false:=by rw[hx2];rfl
 have ho:=W.handedOut_of hh
 repeat (any_goals (first |assumption |with_reducible refine L0.at ?_ |with_reducible refine L1.at ?_ |with_reducible refine L2.at ?_ |wp_step))
 refine QO p X I hb ?_
 repeat (any_goals (first |assumption | (rw[ho];exact Zw hq) |wp_step))
theorem QQ {v:Value}{expr:Bool}{Q:VS} (p:Eg K C) (X:K.In h) (I:W.InstAt h x ox C od) (hf:W.findObj K C od name=some (.value v)) (hh:W.handedIn v=true) (hq:Q v ⟨h,g,d,t+1,os⟩) :
  wpAny (model prog w) A (getAttr (.ref x) name expr) Q E ⟨h,g,d,t,os⟩:=by
 unfold getAttr;refine Zx (wpAny_mkText ?_);exact QP p X I hh (λA' E' Q' z=>Om X I hf z) hq
theorem Kl {Q:Option Value->Xe->Prop} (p:Eg K C) (X:K.In h) (I:W.InstAt h x ox C od) (hf:W.findObj K C od "__class__" = some (.bind (.builtin "getset_descriptor.__get__") (.builtin "object.__class__"))) (hm:W.mroIn K C (.type "object")=some true)
  (hq:Q (some (.ref C)) ⟨h,g,d,t+1,os⟩):wpAny (model prog w) A (getAttr? (.ref x) "__class__") Q E ⟨h,g,d,t,os⟩:=by
 unfold getAttr? getAttrBy?;refine Zx (wpAny_mkText (Zx (wpAny_attempt ?_)));exact QP (v:=.ref C) p X I Zj (λA' E' Q' z=>On X I hf hm z) (Zw hq)
end
theorem IG {name:Str}{od:Option Obj}{a g:Value} (hc:(W.clsIn K C).isSome=true) (ha:W.findIn K (.ref C) name=some (some a)) (hg:W.specialIn K a "__get__" = some (some g)) (ht:W.takesIn K a=some true):W.findObj K C od name=some (.bind g a):=by
 obtain⟨cd,hc⟩:=Option.isSome_iff_exists.mp hc;unfold W.findObj;rw[hc,Option.bind_some,ha,Option.bind_some];simp[hg,ht]
structure SH (K:FG) (C:Xd):Prop where
 hg:Eg K C
 hc:(W.clsIn K C).isSome=true
 ha:W.findIn K (.ref C) "__class__" = some (some (.builtin "object.__class__"))
 hn:W.specialIn K (.builtin "object.__class__") "__get__" = some (some (.builtin "getset_descriptor.__get__"))
 htk:W.takesIn K (.builtin "object.__class__")=some true
 hm:W.mroIn K C (.type "object")=some true
theorem QR {x D:Xd}{ox:Obj}{od:Option Obj} (k:SH K D):W.KitX K (.ref x) (.ref D) (λh=>W.InstAt h x ox D od) where
 ty:=λ_ _ _ I=>I.type
 it:=λ_ _ X _=>by
  have iR:=k.hc;unfold W.clsIn at iR;split at iR
  ·rename_i c' d' cd' sl' ho;intro A' Q' E' s' k q;unfold isType loadHead;exact Zx (wpAny_loadPart (k _ _ (X _ _ ho)) (Zw q))
  ·cases iR
 ne:=λh tp dd its n sl X fq=>by
  have iR:=k.hc;refine Bool.eq_false_iff.mpr λq=>?_;have e:D=tp:=Value.ref.inj (beq_iff_eq.mp q);subst e;unfold W.clsIn at iR;split at iR
  ·rename_i c' d' cd' sl' ho;have z:=(X _ _ ho).symm.trans fq;cases z
  ·cases iR
 ca:=λ{prog w A E Q s} X I h=>by
  obtain⟨hh,g,d,t,os⟩:=s;exact Kl k.hg X I (IG k.hc k.ha k.hn k.htk) k.hm h
structure ExcP (X:Cx) (e:Xd) (oe:Obj) (C:Xd):Prop where
 at_:(e,oe)∈X.pn
 cls:oe.cls=.ref C
 fld:∃vs,oe.data=.fields vs
section
variable {e:Xd}{oe:Obj}
theorem ExcP.inst (p:ExcP X e oe C) (I:Inv X aa σ H s) (hd:oe.dict=none\/∃d u,oe.dict=some d/\H d=some u):∃od,W.InstAt s.heap e oe C od:=by
 have he:=(I.pin (e,oe) (ZP _ p.at_)).1;obtain⟨vs,hv⟩:=p.fld;have no:W.notCls oe=true:=by unfold W.notCls;rw[hv]
 rcases hd with z |⟨d,u,z,hu⟩
 ·exact⟨none,he,p.cls,no,by rw[z];trivial⟩
 ·have hlt:=(I.aE d u hu).lt
  have:∃o,s.heap.get? d=some o:=by
   have q:=(I.aE d u hu);cases u with
   |lst xs=>obtain⟨_,_,_,_,e⟩:=q;exact⟨_,e⟩
   |tup xs=>obtain⟨_,_,_,o,e,_⟩:=q;exact⟨o,e⟩
   |dK kvs=>obtain⟨_,_,_,_,o,_,_,e,_⟩:=q;exact⟨o,e⟩
   |dT kvs=>obtain⟨_,_,_,_,o,_,_,e,_⟩:=q;exact⟨o,e⟩
   |set S n=>obtain⟨o,_,_,_,e,_⟩:=q;exact⟨o,e⟩
   |ins C dx fs=>obtain⟨_,_,_,e,_⟩:=q;exact⟨_,e⟩
   |own y=>exact q
   |xd fs=>obtain⟨_,⟨o,_,_,e,_⟩,_⟩:=q;exact⟨o,e⟩
   |rng lo hi=>obtain⟨_,_,_,e⟩:=q;exact⟨_,e⟩
   |cQ ob u=>exact⟨_,q.1⟩
   |fk ps=>exact⟨_,(show s.heap.get? d=some _ from q)⟩
   |met f y=>exact⟨_,(show s.heap.get? d=some _ from q)⟩
   |ext φ=>exact q.2.1
  obtain⟨o,ho⟩:=this;exact⟨some o,he,p.cls,no,by rw[z];exact ho⟩
theorem Iu (p:ExcP X e oe C) (k:SH X.K C):aZ X (.builtin "isinstance") (λxs H Q=>∃v c b,xs=[.ref e,v]/\((∃D,v=.ref D/\c=.ref D)\/∃T,v=.ty T/\c=.type T)/\(oe.dict=none\/∃d u,oe.dict=some d/\H d=some u)/\W.kitOne X.K (.ref C) c=some b/\Q (.bl b) H):=by
 intro aa s σ H xs us Q I r h;obtain⟨v,c,b,rfl,hv,hd,hk,q⟩:=h;obtain⟨u,uT,rfl,ru,ruT⟩:=KH r;cases (show u=Value.ref e from ru);obtain⟨od,J⟩:=p.inst I hd
 have hc:uT=c:=by
  rcases hv with⟨D,rfl,rfl⟩ |⟨T,rfl,rfl⟩
  ·exact ruT
  ·exact ruT
 subst hc;exact W.kia_one (QR k) I.cY J hk (λz=>nomatch z) λtk=>⟨.bl b,H,I.tok tk,rfl,q⟩
end
section
variable {k:Nat}{f e:Xd}{oe:Obj}{fd:FuncData}{ps:Xa}{sp:SpS}{p:Pos}{a:Expr}{es:List Expr}{t:TA}
def Je (sp:SpS) (e:Xd) (oe:Obj) (t:TA):TE:=λσ H Q=>t σ H λvs H1=>sp e oe vs H1 Q
theorem Km (F:Na X.prog X.w X.K X.mg X.base k f fd ps sp) (hr:RoomS k X.A) (hh:X.A.handled=some (.ref e)) (at_:(e,oe)∈X.pn) (hg:Gl X x) (hm:X.mg x=some (.ref f)) (hk:W.keepIn X.K (.ref f)=true) (hb:Binds X.K fd ps [])
  (ha:PA X (a::es) t) (eI:(x==("__debug__" : Str))=false:=by decide) (he:starEach (a::es) X.env=(false,eval a X.env)::starEach es X.env:=by rfl) (eQ:(backTo pos (starEach es X.env)).any (·.1)=false:=by rfl) :
  PE X (.Call (.Name x p) (a::es) [] pos) (Je sp e oe t):=by
 intro aa s σ H Q I h;refine Z3 (CI I hg hm ?_ eI);refine W.callWith_K (h₀:=X.base) I.ok.mod.kin hk (aF (ha pos aa s σ H _ I h) λus s1 ⟨vs,H1,I1,r,q⟩=>⟨I1.cY,?_⟩) he eQ;obtain⟨e1,e2,e3,e4,e5⟩:=I1.pin (e,oe) (ZP _ at_);have hl:(us++[]).length=ps.length:=by rw[Zt,←r.length];exact F.len _ _ _ _ _ q
 have bb:=hb s1 us I1.cY hl;rw[Zt]at bb;refine wpAny_call (codeAny_mono (F.run X.A X.stack s1 H1 ⟨us,[]⟩ us vs Q e oe hr I1.env0 hh e1 e2 (λz=>(mem_cons.mp (I1.dz e z)).elim e3 e4) e5 bb r q) λr s' hq=>?_);cases r with
 |error e=>exact False.elim hq
 |ok fl =>
  cases fl with
  |ret u=>exact I1.after hq
  |next=>exact False.elim hq
  |brk=>exact False.elim hq
  |cont=>exact False.elim hq
end
theorem QS (a b:Bool):MeetsSeq.EqGives (.bool a) (.bool b) (a==b):=λprog w A E s Q h=>SeqAt.EqAt.bool_bool a b prog w E Q h
theorem Iv:∀ {bs:List Bool}{us:Xb},Vals (bs.map V.bl) us->us=bs.map Value.bool
 | [],_,.nil=>rfl
 |_::_,_,.cons r t=>by rw[map_cons,←Iv t];cases r;rfl
def SI:V->Xc->Hp->VK->Prop:=λx vs H Q=>∃(l:Xd) (bs:List Bool) (j:Nat),x=.ref l/\vs=[.bl true]/\H l=some (.lst (bs.map V.bl))/\bs[j]?=some true/\(∀m,m<j->bs[m]?=some false)/\Q (.int (j:Nat)) H
section
theorem Oo:MtM X "list.index" SI:=by
 intro aa s σ H x vs v us Q I rx rv h;obtain⟨l,bs,j,rfl,rfl,hH,hj,hno,q⟩:=h;cases rx;obtain⟨u,rfl,ru⟩:=rv.one;obtain rfl:u=Value.bool true:=ru;obtain⟨z,its,n,r,hl,e⟩:=I.lstM hH;have ei:=Iv r;subst ei;have hjs:j<bs.length:=(Z8.mp hj).1
 have hz:(j:Int)<2 ^ 63 - 1:=by
  have hs:sizeLine<2 ^ 62:=by decide
  rw[AJ]at z;omega
 refine call_meets F.slot_list_index ⟨_,e,Zj⟩ F.entry_list_index (F.args_list_index_2 _ _)
  (MeetsSeq.list_index l (bs.map Value.bool).toArray n (.bool true) (λy=>match y with | .bool a=>a==true |_=>false) (λy hy=>?_) j (by simpa using hjs) hz ?_ λm hm hlt=>?_) ⟨e,?_⟩
 ·obtain⟨a,_,rfl⟩:=Zr.mp (List.mem_toArray.mp hy);exact QS a true
 ·have:=(Z8.mp hj).2;simp[this]
 ·have:=(Z8.mp (hno m hlt)).2;simp[this]
 ·exact⟨.int (j:Nat),H,I.tok _,⟨_,Zj⟩,q⟩
end
noncomputable def jC (f:Xd) (o:Obj):HO:=.ext λh=>h.get? f=some o
noncomputable def FJ (c:Xd) (qual:Str):HO:=.ext λh=>h.CodeRec (.ref c) qual
noncomputable def ER (P:Program) (w:World) (K:FG) (mg:SV) (base:Heap) (N:Xa) (qual:Str) (scope:Scope) (f:Xd) (cd:Value) (cl:List (Str×Xd)) (A:Around) (outer:List Env) (s:Xe) (H:Hp) (E:XK):Cx where
 prog:=P
 w:=w
 K:=K
 mg:=mg
 base:=base
 A:=A.deeper (W.envX qual scope s.heap.objs.size f cd cl)
 N:=N
 aW:=s
 eU:=H
 env:=W.envX qual scope s.heap.objs.size f cd cl
 outer:=outer
 stack:=W.envX qual scope s.heap.objs.size f cd cl::outer
 ex:=[]
 calm:=true
 fn:=λ_=>false
 pn:=[]
 xe:=λe s'=>wpAny (model P w) (A.deeper (W.envX qual scope s.heap.objs.size f cd cl)) (leaving (W.envX qual scope s.heap.objs.size f cd cl) e) (λ_ jk=>eZ P w outer H s E e jk) (λe' jk=>eZ P w outer H s E e' jk) s'
structure HI (N:Xa) (scope:Scope) (cl:List (Str×Xd)) (σ:St) (H:Hp) (h:Heap):Prop where
 inj:∀x y c,cl.lookup x=some c->cl.lookup y=some c->x=y
 has:∀x,(scope.names.lookup x=some .cell\/scope.names.lookup x=some .free)->∃c,cl.lookup x=some c
 cell:∀x c,cl.lookup x=some c->(∃v,h.IsCell c v)/\H c=none
 val:∀(i:Nat) x v,N[i]?=some x->σ[i]?=some (some v)->scope.names.lookup x=some .free/\∃u c,RelV v u/\cl.lookup x=some c/\h.IsCell c (some u)
 len:σ.length=N.length
section
variable {qual name:Str}{scope:Scope}{f c':Xd}{cd:Value}{cl:List (Str×Xd)}{outer:List Env}{E:XK}
theorem Wh:MF (ER P w K mg base N qual scope f cd cl A outer s H E):=⟨rfl,rfl,rfl⟩
theorem TW:BW (eZ P w) (ER P w K mg base N qual scope f cd cl A outer s H E) E:=by
 rintro aa σ H1 s1 e s2 I ⟨ea,C,dx,H2,rfl,F,q⟩;exact Zv (HG (X:=ER P w K mg base N qual scope f cd cl A outer s H E) Wh I F) (λ_ s3 G=>⟨ea,C,dx,H2,Zj,G,q⟩) λ_ _ z=>z
theorem MS {h1:Heap}{m0:SV}{tk:Nat} (hk0:scope.kind=.function) (hd:A.handled=none) (e0:eV P w K mg base A outer s H) (C:HI N scope cl σ H s.heap) (jP:h1.Ns s.heap.objs.size m0) (hk:∀b o,s.heap.get? b=some o->h1.get? b=some o) :
  Inv (ER P w K mg base N qual scope f cd cl A outer s H E) [] σ H { s with heap:=h1,toks:=tk }:=by
 have jq:∀b:Xd,b∉ (ER P w K mg base N qual scope f cd cl A outer s H E).ex:=λb z=>absurd (show b∈([]:List Xd)from z) (by simp);have cellK:∀ {c:Xd}{v:Option Value},s.heap.IsCell c v->h1.IsCell c v:=λ{c v} ⟨o,ho,hd⟩=>⟨o,hk _ _ ho,hd⟩
 refine⟨⟨e0.mod,hk0,Zj,Zj,Zy _,C.inj,C.has,λy c z _=>(by cases (show false=true from z)),λ_=>hd,Around.frames_deeper e0.frames,.inr ⟨Zj,Zj⟩,λb z=>absurd z (jq b),e0.bs,e0.gL,λb _ _=>jq b,λb z=>absurd z (jq b),e0.dn,e0.ie⟩,
  rfl,e0.bare,Un.kept hk,⟨m0,jP,λi x v h1 h2 h3=>?_⟩,λy c h=>?_,e0.aE.fresh (Zy _),λy c h=>(C.cell y c h).2,λp hp=>absurd (show p∈([]:LO)from hp) (by simp),e0.aE.kept hk,C.len⟩
 ·obtain⟨k,u,c,r,e,z⟩:=C.val i x v h1 h2;exact⟨u,r,.inr ⟨.inr k,c,e,cellK z⟩⟩
 ·obtain⟨⟨v,z⟩,_⟩:=C.cell y c h;exact⟨v,cellK z⟩
theorem QT {k:Nat}{params:Arguments}{body:Expr}{pm ef:Value}{Q:VK}{tb:TE} (hr:aI k A) (e0:eV P w K mg base A outer s H) (C:HI N scope cl σ H s.heap)
  (ho:s.heap.get? f=some (W.kla_obj name qual params body scope cl pm c' ef)) (fg:s.heap.CodeRec (.ref c') qual) (bt:bindArgs (W.kla_fn name qual params body scope cl pm (.ref c') ef) ⟨[],[]⟩=pure [])
  (jv:scope.isCoroutine=false) (bx:scope.isGenerator=false) (hk:scope.kind=.function) (bi:∀x∈scope.names,x.2≠ .cell)
  (hb:PE (ER P w K mg base N qual scope f (.ref c') cl A outer s H E) body tb) (h:tb σ H Q):codeAny (model P w) A (.call (.ref f) ⟨[],[]⟩) (CR (eZ P w) outer P w H s Q E) s:=by
 have lim:s.heap.NoLimit:=e0.mod.nolimit.keeps λb o e=>(e0.bs b o e).1;refine W.kla_callFunE hr.depth ho rfl jv bx rfl fg ?_;rw[bt];refine Zw (wpAny_newFunctionEnv bi (λy hy=>nomatch hy) (λdG jP hsb=>⟨lim.fresh _ hsb,?_⟩) hk);show codeAny _ _ (.expr body (W.envX qual scope s.heap.objs.size f (.ref c') cl)) _ _;have hk₁:∀b o,s.heap.get? b=some o->dG.get? b=some o:=λb o e=>hsb.extBut b o (ZC (lt_size e)) (ZX _ e);have I:Inv (ER P w K mg base N qual scope f (.ref c') cl A outer s H E) [] σ H _:=MS (tk:=s.toks+([]:List (Str×Value)).length) hk hr.hd e0 C jP hk₁;exact W.kla_codeExpr (Zv (hb [] _ σ H Q I h) (λv s' ⟨x,H',J,rv,q⟩=>⟨x,H',J.os,J.bare,J.base,J.aE,rv,q⟩) λe s' z=>z)
end
section
theorem Inv.cells {scope:Scope}{cl:List (Str×Xd)}{iI:St} (I:Inv X aa σ H s) (C:HI N scope cl iI X.eU X.aW.heap) (i5:∀x c,cl.lookup x=some c->c∉ X.fs) (hex:X.ex=[]):HI N scope cl iI H s.heap:=by
 have kp:∀x c v,cl.lookup x=some c->X.aW.heap.IsCell c v->s.heap.IsCell c v:=λx c v e ⟨o,ho,hd⟩=>⟨o,I.base.keep c o ho (C.cell x c e).2 (i5 x c e) (by rw[hex];simp),hd⟩;refine⟨C.inj,C.has,λx c e=>?_,λi x v h1 h2=>?_,C.len⟩
 ·obtain⟨⟨v,z⟩,n⟩:=C.cell x c e;obtain⟨o,ho,_⟩:=id z;exact⟨⟨v,kp x c v e z⟩,I.base.free c o ho n (by rw[hex];simp)⟩
 ·obtain⟨k,u,c,r,e,z⟩:=C.val i x v h1 h2;exact⟨k,u,c,r,e,kp x c _ e z⟩
def Kn (i:Nat) (f c':Xd) (qual:Str) (o:Obj) (iI:St) (tb:TE):TE:=λσ H Q=>σ[i]?=some (some (.ref f))/\H f=some (jC f o)/\H c'=some (FJ c' qual)/\tb iI H Q
theorem MU {i k:Nat}{name qual:Str}{p:Pos}{Nl:Xa}{scope:Scope}{cl:List (Str×Xd)}{iI:St}{f c':Xd}{params:Arguments}{body:Expr}{pm ef:Value}{tb:TE}{E:XK}
  (hN:X.N[i]?=some x) (hv:Vis X.env.scope x) (hr:aI k X.A) (C:HI Nl scope cl iI X.eU X.aW.heap) (i5:∀x c,cl.lookup x=some c->c∉ X.fs) (hex:X.ex=[]) (hx:BW (eZ X.prog X.w) X E)
  (bt:bindArgs (W.kla_fn name qual params body scope cl pm (.ref c') ef) ⟨[],[]⟩=pure [])
  (jv:scope.isCoroutine=false) (bx:scope.isGenerator=false) (hk:scope.kind=.function) (bi:∀x∈scope.names,x.2≠ .cell)
  (hb:∀s H,PE (ER X.prog X.w X.K X.mg X.base Nl qual scope f (.ref c') cl X.A X.stack s H E) body tb) (hd:(x==("__debug__" : Str))=false:=by decide) (fg:(x==("__classdict__" : Str))=false:=by decide) :
  PE X (.Call (.Name x p) [] [] pos) (Kn i f c' qual (W.kla_obj name qual params body scope cl pm c' ef) iI tb):=by
 intro aa s σ H Q I h;obtain⟨h1,h2,h3,h4⟩:=h;refine Z3 (aF (Pe hN hv hd fg aa s σ H (λv H'=>v=.ref f/\H'=H) I ⟨_,h1,rfl,rfl⟩) λu s1 ⟨v,H1,I1,r,ev,eH⟩=>?_);subst ev eH;obtain rfl:u=Value.ref f:=r;obtain⟨ho,_,_⟩:=I1.aE _ _ h2;obtain⟨hc,_,_⟩:=I1.aE _ _ h3;refine callWith_meth0 rfl ho (wpAny_call (codeAny_mono (QT hr I1.env0 (I1.cells C i5 hex) ho hc bt jv bx hk bi (hb s1 H1) h4) λr s' hq=>?_));cases r with
 |error e=>exact hx aa σ H1 s1 e s' I1 hq
 |ok fl =>
  cases fl with
  |ret u=>exact I1.after hq
  |next=>exact False.elim hq
  |brk=>exact False.elim hq
  |cont=>exact False.elim hq
end
section
variable {CX:gD}
theorem aY.at {qual:Str}{st:Stmt}{f:Xd}{fd:FuncData}{ps:Xa}{k:Nat}{outer:List Env}{args:Args}{vs:Xc}{Q:VK}{E:XK} (F:aY K x qual st f fd) (S:AN N ps (defScope st)) (hl:vs.length=ps.length)
  (hr:aI (k+1) A) (e0:eV P w K mg base A outer s H) (hb:BindsTo s fd args (ps.zip us)) (r:Vals vs us)
  (bh:∀ad,aI k (A.deeper (envOfC qual (defScope st) s.heap.objs.size f ad))->∃t,eK (BM CX P w K mg base N qual (defScope st) f ad A outer s H E) (defBody st) t/\t { nx:=λ_ H'=>Q .aP H',rt:=Q } (Bo N vs) H) :
  codeAny (model P w) A (.call (.ref f) args) (CR CX outer P w H s Q E) s:=by
 obtain⟨oc,od,kV,doc,pm,an,ad,ct,gp,rfl,lk,fg⟩:=F.ex;have KX:K.In s.heap:=e0.mod.kin.keeps λb o z=>(e0.bs b o z).1;have lim:s.heap.NoLimit:=e0.mod.nolimit.keeps λb o z=>(e0.bs b o z).1
 have hk:∀y∈ps.zip us,(defScope st).names.lookup y.1=some .local\/((defScope st).names.lookup y.1=some .cell/\((cellsFrom (s.heap.objs.size+1) (defScope st).names []).lookup y.1).isSome=true):=λ⟨n,v⟩ hy=>by
  rcases S.par n (of_mem_zip hy).1 with q |q
  ·exact .inl q
  ·exact .inr ⟨q,W.cellsFrom_some _ _ _ (.inl q)⟩
 refine codeAny_call_function hr.depth (KX _ _ lk) rfl S.co S.gen rfl (W.codeRec_of KX fg) (hb _ _ _ _ (wpAny_newFunctionEnv_cells S.kind hk λenv ee s1 x=>?_));subst ee;refine⟨lim.keeps x.toInCall.keep,codeAny_func ?_⟩;obtain⟨t,ht,hq⟩:=bh ad (hr.deeper _);have I:Inv (BM CX P w K mg base N qual (defScope st) f ad A outer s H E) [] (Bo N vs) H s1:=Fk S hr.hd e0 hl r x;refine Zv (ht [] s1 (Bo N vs) H _ I hq) (λfl s' z=>?_) λ_ _ z=>z;cases fl with
 |ret u =>
  obtain⟨v,aJ,H',J,rv,q⟩:=z;exact⟨v,H',J.os,J.bare,J.base,J.aE,rv,q⟩
 |next =>
  obtain⟨aJ,H',J,q⟩:=z;exact⟨.aP,H',J.os,J.bare,J.base,J.aE,Zj,q⟩
 |brk =>
  obtain⟨_,_,_,q⟩:=z;exact q.elim
 |cont =>
  obtain⟨_,_,_,q⟩:=z;exact q.elim
end
theorem Gb {q:Pos}{c:Value} (aw:(q.line==pos.line&&q.col==pos.col)=false) (l:Xb) (h:TriplesOk l):codeAmong q (l++[rawInt pos.line,rawInt pos.col,c])=codeAmong q l:=by
 fun_induction TriplesOk l with
 |case1 =>
  have:((pos.line:Int)==(q.line:Int)&&(pos.col:Int)==(q.col:Int))=false:=by
   rw[Bool.and_eq_false_iff]at aw ⊢;rcases aw with z |z
   ·left;rw[beq_eq_false_iff_ne]at z ⊢;omega
   ·right;rw[beq_eq_false_iff_ne]at z ⊢;omega
  simp[codeAmong,rawInt,this]
 |case2 a t b u x rest ih =>
  simp only[List.cons_append,codeAmong];split
  ·rfl
  ·exact ih h
 |case3 l h1 h2=>exact h.elim
def aV (H:Hp) (P0:Xd) (qual:Str) (ls:List Pos):Prop:=∃ps,H P0=some (.fk ps)/\TriplesOk ps.toList/\∀q∈ls,codeAmong q ps.toList=none\/∃c',codeAmong q ps.toList=some (.ref c')/\H c'=some (FJ c' qual)
def Ix (P0:Xd) (H H':Hp):Prop:=∀b u,b≠P0->H b=some u->H' b=some u
structure SJ (X:Cx) (c P0:Xd):Prop where
 code:X.env.code=.ref c
 hd:W.CodeHd X.base c P0
 bu:X.base.BuiltinsAt X.mg P0
section
variable {c P0:Xd}{ls:List Pos}{cX:Pos}
def VR (P0:Xd) (qual:Str) (ls:List Pos) (o:Xd->Value->Obj):TE:=λσ H Q=>aV H P0 qual ls/\∀f c' ef H',H f=none->Ix P0 H H'->aV H' P0 qual ls->H' f=some (jC f (o c' ef))->H' c'=some (FJ c' qual)->Q (.ref f) H'
theorem SK {c':Xd}{qual:Str} (r:h.CodeRec (.ref c') qual):aS P w H h c' (FJ c' qual):=by
 obtain⟨c1,oc,vs,t,e,ho,hd,hq⟩:=id r;cases e;exact⟨r,⟨_,ho⟩,λh1 h2 ⟨c2,o2,v2,t2,e2,a,b⟩ k=>by cases e2;exact⟨_,o2,v2,t2,Zj,k _ a,b⟩⟩
theorem TY {f:Xd}{o:Obj} (r:h.get? f=some o):aS P w H h f (jC f o):=⟨r,⟨_,r⟩,λh1 h2 a k=>k _ a⟩
theorem UJ {params:Arguments}{body:Expr}{scope:Scope}{cD:List (Str×Xd)} (L:SJ X c P0) (hm:cX∈ls) (aw:∀q∈ls,q=cX\/(q.line==cX.line&&q.col==cX.col)=false)
  (af:closureFor scope X.env=pure cD) (cw:defaultsOf params X.env=([],[])) :
  PE X (.Lambda params body scope cX) (VR P0 (X.env.qual ++ "<lambda>") ls (λc' ef=>W.kla_obj "<lambda>" (X.env.qual ++ "<lambda>") params body scope cD ((X.mg "__name__").getD .none) c' ef)):=by
 intro aa s σ H Q I h;obtain⟨⟨ps,hP,ht,hls⟩,k⟩:=h;have bk:∀b o,X.base.get? b=some o->s.heap.get? b=some o:=λb o e=>(I.bs b o e).1;have hPg:s.heap.get? P0=some (W.tabObj ps):=I.aE _ _ hP;have hgs:s.heap.Ns mainGlobals X.mg:=I.ok.mod.glob.keeps bk
 have hgP:mainGlobals≠P0:=λq=>by
  obtain⟨o,es,ep,e,_⟩:=I.ok.mod.glob;have n:=(I.bs _ _ e).2;rw[q,hP]at n;cases n
 have C:=L.hd.keeps bk
 have B:s.heap.BuiltinsAt X.mg P0:=by
  obtain⟨bm,o,a1,a2,a3,a4,a5,a6⟩:=L.bu;exact⟨bm,o,a1,a2,a3,a4,bk _ _ a5,a6⟩
 refine W.kla_eval cw ?_;rcases hls cX hm with hn |⟨c',hf,iz⟩
 ·refine W.kla_makeFunction (mg:=X.mg) af I.ok.glob hgs L.code C hPg ht hn hgP B λc' ef h' tk hx hge hlt hrec au=>?_;have kp:∀b o,b≠P0->s.heap.get? b=some o->(h'.push (W.kla_obj "<lambda>" (X.env.qual ++ "<lambda>") params body scope cD ((X.mg "__name__").getD .none) c' ef)).get? b=some o:=λb o n e=>ZX _ (hx b o n e);have lt:∀b u,H b=some u->b<s.heap.objs.size:=λb u e=>I.aE.lt e;have i5:s.heap.objs.size<=h'.objs.size:=Nat.le_trans hge (Nat.le_of_lt hlt);have hPl:P0<s.heap.objs.size:=lt _ _ hP;have hcP:c'≠P0:=λz=>by rw[z]at hge;exact absurd hPl (Nat.not_lt_of_le hge)
  have hfP:h'.objs.size≠P0:=λz=>by rw[z]at i5;exact absurd hPl (Nat.not_lt_of_le i5)
  have hcf:c'≠h'.objs.size:=ZC hlt;generalize bz:upd (upd (upd H P0 (.fk (ps++#[rawInt cX.line,rawInt cX.col,.ref c']))) c' (FJ c' (X.env.qual ++ "<lambda>"))) h'.objs.size (jC h'.objs.size (W.kla_obj "<lambda>" (X.env.qual ++ "<lambda>") params body scope cD ((X.mg "__name__").getD .none) c' ef))=H'
  have gy:∀b,b<s.heap.objs.size->b≠P0->H' b=H b:=λb hb n=>by
   rw[←bz,AH (ZC (Z2 hb i5)),AH (ZC (Z2 hb hge)),AH n]
  have atP:H' P0=some (.fk (ps++#[rawInt cX.line,rawInt cX.col,.ref c'])):=by rw[←bz,AH (Ne.symm hfP),AH (Ne.symm hcP),AB]
  have atc:H' c'=some (FJ c' (X.env.qual ++ "<lambda>")):=by rw[←bz,AH hcf,AB]
  have atf:H' h'.objs.size=some (jC h'.objs.size (W.kla_obj "<lambda>" (X.env.qual ++ "<lambda>") params body scope cD ((X.mg "__name__").getD .none) c' ef)):=by rw[←bz,AB]
  have ntbl:∀b u,H b=some u->(∀qs,u≠ .fk qs)->b≠P0:=λb u e n z=>by subst z;rw[hP]at e;cases e;exact n _ rfl
  have un:Un X.fs [] H H' s.heap (h'.push (W.kla_obj "<lambda>" (X.env.qual ++ "<lambda>") params body scope cD ((X.mg "__name__").getD .none) c' ef)):=by
   have nP:∀b,H b=none->b≠P0:=λb n z=>by subst z;rw[hP]at n;cases n
   refine⟨λb o q n _ _=>kp b o (nP b n) q,λb o q n _ _=>⟨o.slots,kp b o (nP b n) q⟩,λb o q n _=>by rw[gy b (lt_size q) (nP b n)];exact n,λb o q _=>?_,λb xs e=>?_,λb o u e=>?_,λb qs e=>?_⟩
   ·by_cases z:b=P0
    ·subst z;exact⟨_,ZX _ au⟩
    ·exact⟨o,kp b o z q⟩
   ·rw[gy b (lt _ _ e) (ntbl b _ e λ_ y=>nomatch y)];exact e
   ·rw[gy b (lt _ _ e) (ntbl b _ e λ_ y=>nomatch y)];exact e
   ·by_cases z:b=P0
    ·subst z;rw[hP]at e;cases e;exact⟨_,atP⟩
    ·exact⟨#[],by rw[gy b (lt _ _ e) z,e];simp⟩
  have aE:dq X.prog X.w H' (h'.push (W.kla_obj "<lambda>" (X.env.qual ++ "<lambda>") params body scope cD ((X.mg "__name__").getD .none) c' ef)):=λb u e=>by
   by_cases z1:b=h'.objs.size
   ·subst z1;rw[atf]at e;cases e;exact TY (ZN _ Zj)
   by_cases z2:b=c'
   ·subst z2;rw[atc]at e;cases e;obtain⟨c1,oc,vs,t,ec,ho,hd⟩:=hrec;exact SK ⟨c1,oc,vs,t,ec,ZX _ ho,hd⟩
   by_cases z3:b=P0
   ·subst z3;rw[atP]at e;cases e;exact ZX _ au
   ·have e':H b=some u:=by rw[←bz,AH z1,AH z2,AH z3]at e;exact e
    refine(I.aE b u e').fc (λb2 o hb q=>kp b2 o ?_ q) (λb2 q=>?_) λb2 xs q=>?_
    ·rcases hb with z |z
     ·rw[z];exact z3
     ·exact ntbl b2 _ z λ_ y=>nomatch y
    ·rw[gy b2 (lt _ _ q) (ntbl b2 _ q λ_ y=>nomatch y)];exact q
    ·rw[gy b2 (lt _ _ q) (ntbl b2 _ q λ_ y=>nomatch y)];exact q
  have I':=I.un (t':=tk) un aE;refine⟨.ref h'.objs.size,H',I',Zj,k _ c' ef H' (I.aE.fresh i5) (λb u n e=>by rw[gy b (lt _ _ e) n];exact e) ⟨_,atP,?_,λq hq=>?_⟩ atf atc⟩
  ·rw[Array.toList_append];exact TriplesOk_snoc _ _ _ _ ht
  ·rw[Array.toList_append];rcases aw q hq with z |z
   ·subst z;exact .inr ⟨c',codeAmong_snoc _ ht hn,atc⟩
   ·show codeAmong q (ps.toList++[rawInt cX.line,rawInt cX.col,.ref c'])=none\/_;rw[Gb z _ ht];rcases hls q hq with y |⟨c2,y1,y2⟩
    ·exact .inl y
    ·exact .inr ⟨c2,y1,by rw[gy c2 (lt _ _ y2) (ntbl c2 _ y2 λ_ y=>nomatch y)];exact y2⟩
 ·refine W.kla_makeFunctionHit (mg:=X.mg) af I.ok.glob hgs L.code C hPg ht hf B λef h' tk hk hsz=>?_;have I':=I.laid (t':=tk) (a:=h'.objs.size) (o:=jC h'.objs.size (W.kla_obj "<lambda>" (X.env.qual ++ "<lambda>") params body scope cD ((X.mg "__name__").getD .none) c' ef)) (λb o e=>ZX _ (hk b o e)) hsz (TY (ZN _ rfl));have fr:H h'.objs.size=none:=I.aE.fresh hsz
  have sm:∀b u,H b=some u->upd H h'.objs.size (jC h'.objs.size (W.kla_obj "<lambda>" (X.env.qual ++ "<lambda>") params body scope cD ((X.mg "__name__").getD .none) c' ef)) b=some u:=λb u e=>by
   rw[AH (AI e fr)];exact e
  refine⟨.ref h'.objs.size,_,I',rfl,k _ c' ef _ fr (λb u _ e=>sm b u e) ⟨ps,sm _ _ hP,ht,λq hq=>?_⟩ AB (sm _ _ iz)⟩;rcases hls q hq with y |⟨c2,y1,y2⟩
  ·exact .inl y
  ·exact .inr ⟨c2,y1,sm _ _ y2⟩
end
section
theorem aY.okX {qual:Str}{st:Stmt}{f:Xd}{fd:FuncData}{ps:Xa}{k:Nat}{sp:Sp} (F:aY K x qual st f fd) (S:AN N ps (defScope st)) (len:∀vs H Q E,sp vs H Q E->vs.length=ps.length)
  (bh:∀(ad:Value) (A:Around) (outer:List Env) (s:Xe) (H:Hp) (vs:Xc) (Q:VK) (E:XK),aI k (A.deeper (envOfC qual (defScope st) s.heap.objs.size f ad))->sp vs H Q E ->
   ∃t,eK (BM (eZ P w) P w K mg base N qual (defScope st) f ad A outer s H E) (defBody st) t/\t { nx:=λ_ H'=>Q .aP H',rt:=Q } (Bo N vs) H):Af P w K mg base (eZ P w) (k+1) f fd ps sp:=by
 obtain⟨oc,od,kV,doc,pm,an,ad,ct,gp,rfl,lk,fg⟩:=F.ex;exact NO lk fg S len λA outer s H vs Q E hr gF=>bh ad A outer s H vs Q E hr gF
structure BdX (P:Program) (w:World) (K:FG) (mg:SV) (base:Heap) (f:Xd) (qual:Str) (st:Stmt) (N ps:Xa) (k:Nat) (vs:Xc) (H:Hp) (Q:VK) (E:XK):Prop where
 len:vs.length=ps.length
 ok:∀(ad:Value) (A:Around) (outer:List Env) (s:Xe),aI k (A.deeper (envOfC qual (defScope st) s.heap.objs.size f ad)) ->
  ∃t,eK (BM (eZ P w) P w K mg base N qual (defScope st) f ad A outer s H E) (defBody st) t/\t { nx:=λ_ H'=>Q .aP H',rt:=Q } (Bo N vs) H
theorem aY.n {qual:Str}{st:Stmt}{f:Xd}{fd:FuncData}{ps:Xa}{k:Nat}{sp:Sp} (F:aY K x qual st f fd) (S:AN N ps (defScope st)) (h:∀vs H Q E,sp vs H Q E->BdX P w K mg base f qual st N ps k vs H Q E) :
  Af P w K mg base (eZ P w) (k+1) f fd ps sp:=F.okX S (λvs H Q E q=>(h vs H Q E q).len) λc A o s H vs Q E r q=>(h vs H Q E q).ok c A o s r
structure FunD (K:FG) (x qual:Str) (st:Stmt) (f:Xd) (fd:FuncData):Prop where
 ex:∃(oc:Value) (od:Option Xd) (dV kV doc pm:Value) (an:Option Xd) (ad ct:Value) (gp:Array (Option Value)),
  fd=W.fnOf x qual (defArgs st) (defBody st) (defScope st) dV kV doc pm an ad ct/\K.lookup f=some ⟨oc,od,.func fd,gp⟩/\W.codeIn K ad qual=true
theorem FunD.ok {qual:Str}{st:Stmt}{f:Xd}{fd:FuncData}{ps:Xa}{k:Nat}{sp:Sp} (F:FunD K x qual st f fd) (S:AN N ps (defScope st)) (len:∀vs H Q E,sp vs H Q E->vs.length=ps.length)
  (bh:∀(ad:Value) (A:Around) (outer:List Env) (s:Xe) (H:Hp) (vs:Xc) (Q:VK) (E:XK),aI k (A.deeper (envOfC qual (defScope st) s.heap.objs.size f ad))->sp vs H Q E ->
   ∃t,eK (BM aT P w K mg base N qual (defScope st) f ad A outer s H E).gP (defBody st) t/\t { nx:=λ_ H'=>Q .aP H',rt:=Q } (Bo N vs) H):Af P w K mg base aT (k+1) f fd ps sp:=by
 obtain⟨oc,od,dV,kV,doc,pm,an,ad,ct,gp,rfl,lk,fg⟩:=F.ex;refine NO lk fg S len λA outer s H vs Q E hr gF=>?_;obtain⟨t,h,q⟩:=bh ad A outer s H vs Q E hr gF;exact⟨t,h.gP,q⟩
end
end L2
end
section
namespace L2
open PySem PySem.Spec PyProof.Rows Builtin Builtin.ObjectAttr
noncomputable def Eh (C M:Xd):Xb:=[.ref C,.ref M,.type "ValueError", .type "Exception", .type "BaseException", .type "object"]
section
variable {prog:Program}{x M:Xd}{ox:Obj}{vs:Array Value}{name:Str}{v:Value}{cd:ClassData}
theorem SL {R:Result->Xe->Prop}{tk:Tok} (X:K.In s.heap) (hx:s.heap.get? x=some ox) (af:ox.cls=.ref C) (gq:ox.dict=none) (hf:ox.data=.fields vs) (hc:W.clsIn K C=some cd) (cj:cd.mro=Eh C M) (bc:cd.hasDict=true) (hn:W.findIn K (.ref C) name=some none)
  (h:∀(h':Heap) (tk':Nat),h'.get? x=some { ox with dict:=some s.heap.objs.size }->h'.Ns1 s.heap.objs.size (λy=>if y=name then some v else none)->(∀b o,b≠x->s.heap.get? b=some o->h'.get? b=some o)->R (.ok (.ret .none)) { s with heap:=h',toks:=tk' }) :
  codeAny (model prog w) A (.call (.builtin "object.__setattr__") ⟨[.ref x,.str name tk,v],[]⟩) R s:=by
 have SF:=PySem.F.store_object;have I:W.InstAt s.heap x ox C none:=⟨hx,af,by unfold W.notCls;rw[hf],by rw[gq];trivial⟩;have ne:cd.mro.isEmpty=false:=by rw[cj];rfl
 have sub:W.Looks (model prog w) s.heap (isInstance (.ref x) (.type "object")) true:=I.type.andThen (W.looks_mroIn X (by unfold W.mroIn;rw[hc,Option.bind_some,Zq (by rw[ne];decide),cj];simp[Eh]));refine codeAny_call_builtin SF.slot.plain SF.entry (@W.check_slot (model prog w) _ _ s "object.__setattr__" "object" "__setattr__" (.ref x) [.str name tk,v] [] _ SF.kind SF.split sub (SF.args (.ref x) (.str name tk) v) ?_);have hm:W.Looks (model prog w) s.heap (mroOf (.ref C)) cd.mro:=(W.looks_clsIn X hc).andThen .now;have L3:W.Looks (model prog w) s.heap (storeTaker? none) none:=.now;rw[W.osa_eq,refuse_eq];refine Zx (Zx (I.type.here (Zx (hm.here ?_))));rw[cj];unfold Eh;rw[refuseLoop_ref,refuseLoop_ref,PySem.F.store_ValueError.passes];refine Zw (Zx (I.type.here (Zx ((W.looks_findIn X hn).here (Zx (L3.here ?_))))));obtain⟨oc,odi,oda,gp⟩:=ox
 dsimp only at af gq hf
 subst af gq hf;refine Zx (Zw (Zx (Zx (wpAny_loadPart hx (Zx ((W.looks_clsIn X hc).here ?_))))));rw[bc];have hx₁:(s.heap.push { cls:=.type "dict", data:=.dict #[] }).get? x=some _:=ZX _ hx;have hxs:x≠s.heap.objs.size:=ZC (lt_size hx);obtain⟨hp,g,d,t,os⟩:=s
 dsimp only at hx hx₁ hxs h ⊢
 rw[Zq qc,Zq (by simp[typeHasDict])];refine Zx (wpAny_alloc' ?_);refine Zx (wpAny_update' hx₁ ?_);refine Zw ?_
 have hgd:((hp.push { cls:=.type "dict", data:=.dict #[] }).update x λo=>{ cls:=o.cls,dict:=some hp.objs.size,data:=o.data,slots:=o.slots }).get? hp.objs.size=some { cls:=.type "dict", data:=.dict #[] } :=
  (Heap.get?_update_ne _ _ _ _ hxs.symm).trans (Heap.get?_push_at rfl rfl)
 have gW:((hp.push { cls:=.type "dict", data:=.dict #[] }).update x λo=>{ cls:=o.cls,dict:=some hp.objs.size,data:=o.data,slots:=o.slots }).Ns hp.objs.size (λ_=>none) :=
  ⟨_,#[],_,hgd,rfl,λe he=>absurd he (by simp),λ_=>rfl⟩
 show wpAny _ _ (storeInDict hp.objs.size (.str name tk) name v) _ _ _;unfold storeInDict newKeyGuard;refine Zx (Zw (Zx (wpAny_nsSet1 (Heap.Ns1.of_empty gW) λh' hn' hs=>?_)));obtain⟨oD,esD,epD,hoD,hdD,iR⟩:=hn'.count (Within.cons name v Within.nil);refine Zx (wpAny_lookBehind hoD (by rw[hdD];exact pastItsLine_dict (Nat.le_trans iR (by rw[length_cons,length_nil,sizeLine_eq];omega))) ?_)
 wp_walk
 have hx':h'.get? x=some { cls:=.ref C,dict:=some hp.objs.size,data:=.fields vs,slots:=gp }:=(hs.2 x hxs).trans (ZU _ hx₁ rfl);exact h h' _ hx' hn' λb ob hbx hb=>(hs.2 b (ZC (lt_size hb))).trans ((Heap.get?_update_ne _ _ _ _ hbx).trans (ZX _ hb))
theorem SM {Q:Unit->Xe->Prop} (X:K.In s.heap) (hx:s.heap.get? x=some ox) (af:ox.cls=.ref C) (gq:ox.dict=none) (hf:ox.data=.fields vs) (hc:W.clsIn K C=some cd) (cj:cd.mro=Eh C M) (bc:cd.hasDict=true) (hn:W.findIn K (.ref C) name=some none)
  (hs:W.findIn K (.ref C) "__setattr__" = some (some (.builtin "object.__setattr__")))
  (h:∀(h':Heap) (tk':Nat),h'.get? x=some { ox with dict:=some s.heap.objs.size }->h'.Ns1 s.heap.objs.size (λy=>if y=name then some v else none)->(∀b o,b≠x->s.heap.get? b=some o->h'.get? b=some o)->Q () { s with heap:=h',toks:=tk' }) :
  wpAny (model prog w) A (setAttr (.ref x) name v) Q E s:=by
 have I:W.InstAt s.heap x ox C none:=⟨hx,af,by unfold W.notCls;rw[hf],by rw[gq];trivial⟩;exact W.set_plain X I hs (SL (s:={ s with toks:=s.toks+1 }) X hx af gq hf hc cj bc hn λh' tk' a b c=>h h' tk' a b c)
end
end L2
end
section
namespace L2
open PySem PySem.Spec PyProof.Rows
structure QU (K:FG) (C M:Xd) (f:Str):Prop where
 cls:∃cd,W.clsIn K C=some cd/\cd.mro=Eh C M/\cd.hasDict=true
 nf:W.findIn K (.ref C) f=some none
 sa:W.findIn K (.ref C) "__setattr__" = some (some (.builtin "object.__setattr__"))
section
variable {o value:Expr}{ta tv:TE}{f:Str}{pos':Pos}{M:Xd}
def VT (K:FG) (M:Xd) (ta tv:TE) (f:Str):TS:=λD σ H=>tv σ H λy H1=>ta σ H1 λx H2=>∃e C,x=.ref e/\H2 e=some (FH e C none)/\QU K C M f /\
 ∀d,H2 d=none->d≠e->D.nx σ (upd (upd H2 e (FH e C (some d))) d (.xd [(f,y)]))
theorem SN (ha:PE X o ta) (hv:PE X value tv) (hs:swapsWith value (some (.Attribute o f pos')) pos.line X.env=pure false):PS X (.Assign [.Attribute o f pos'] value pos) (VT X.K M ta tv f):=by
 intro aa s σ H D I h;refine plainObj_wpAny_Assign_Attribute (aF (hv aa s σ H _ I h) λu s1 ⟨y,H1,I1,ry,q⟩=>aF (ha aa s1 σ H1 _ I1 q) λov s2 ⟨x,H2,I2,rx,e,C,ex,ea,S,q2⟩=>?_) hs;subst ex;obtain rfl:ov=Value.ref e:=rx;obtain⟨⟨oe,vs,a1,a2,a3,a4,a5,a6,a7⟩,_,_⟩:=I2.aE _ _ ea;obtain⟨cd,hc,hm,hd⟩:=S.cls;refine SM I2.cY a1 a2 a3 a4 hc hm hd S.nf S.sa λh' tk' hx hn hk=>?_;have hde:s2.heap.objs.size≠e:=Nat.ne_of_gt (lt_size a1);have gq:H2 s2.heap.objs.size=none:=I2.aE.fresh (Zy _);generalize hH':upd (upd H2 e (FH e C (some s2.heap.objs.size))) s2.heap.objs.size (.xd [(f,y)])=H';have lt:∀b u,H2 b=some u->b<s2.heap.objs.size:=λb u z=>I2.aE.lt z;have gy:∀b,b<s2.heap.objs.size->b≠e->H' b=H2 b:=λb hb n=>by rw[←hH',AH (ZC hb),AH n]
 have ate:H' e=some (FH e C (some s2.heap.objs.size)):=by rw[←hH',AH (Ne.symm hde),AB]
 have atd:H' s2.heap.objs.size=some (.xd [(f,y)]):=by rw[←hH',AB]
 have next:∀b u,H2 b=some u->(∀φ,u≠ .ext φ)->b≠e:=λb u z n w=>by subst w;rw[ea]at z;cases z;exact n _ rfl
 have nn:∀b,H2 b=none->b≠e:=λb z w=>by subst w;rw[ea]at z;cases z
 have un:Un X.fs [] H2 H' s2.heap h':=by
  refine⟨λb ob z n _ _=>hk b ob (nn b n) z,λb ob z n _ _=>⟨ob.slots,hk b ob (nn b n) z⟩,λb ob z n _=>by rw[gy b (lt_size z) (nn b n)];exact n,λb ob z _=>?_,λb xs z=>?_,λb ob w z=>?_,λb ps z=>⟨#[],?_⟩⟩
  ·by_cases w:b=e
   ·subst w;exact⟨_,hx⟩
   ·exact⟨ob,hk b ob w z⟩
  ·rw[gy b (lt _ _ z) (next b _ z λ_ w=>nomatch w)];exact z
  ·rw[gy b (lt _ _ z) (next b _ z λ_ w=>nomatch w)];exact z
  ·rw[gy b (lt _ _ z) (next b _ z λ_ w=>nomatch w),z];simp
 have aE:dq X.prog X.w H' h':=λb w z=>by
  by_cases hb:b=s2.heap.objs.size
  ·subst hb;rw[atd]at z;cases z;refine⟨_,hn,λg=>?_⟩;by_cases hg:g=f
   ·subst hg;simp only[Zp rfl,Zz,beq_self_eq_true];exact ry
   ·have e1:(g==f)=false:=beq_eq_false_iff_ne.mpr hg;simp only[Zq hg,Zz,e1,List.lookup_nil];trivial
  by_cases hb2:b=e
  ·subst hb2;rw[ate]at z;cases z;exact⟨⟨_,vs,hx,a2,Zj,a4,a5,a6,a7⟩,⟨_,hx⟩,λh1 h2 ⟨oe,vs,a,r⟩ k=>⟨oe,vs,k _ a,r⟩⟩
  ·have z':H2 b=some w:=by rw[←hH',AH hb,AH hb2]at z;exact z
   refine(I2.aE b w z').fc (λb2 ob i7 q=>hk b2 ob ?_ q) (λb2 q=>?_) λb2 xs q=>?_
   ·rcases i7 with w2 |w2
    ·rw[w2];exact hb2
    ·exact next b2 _ w2 λ_ y=>nomatch y
   ·rw[gy b2 (lt _ _ q) (next b2 _ q λ_ y=>nomatch y)];exact q
   ·rw[gy b2 (lt _ _ q) (next b2 _ q λ_ y=>nomatch y)];exact q
 have I3:=I2.un (t':=tk') un aE;have q3:=q2 s2.heap.objs.size gq hde;rw[hH']at q3;exact⟨σ,H',I3,q3⟩
end
section
variable {CX:gD}{k:Nat}{f:Xd}{fd:FuncData}{ps:Xa}{sp:Sp}{d7:Xc}{ds:Xb}{E:XK}{name:Str}{np apos:Pos}{es:List Expr}{t:TA}{mc:Value}
theorem MV {pl:Sem Bool} (hg:Gl X x) (hm:X.mg x=some (.ref C)) (ga:W.specialIn X.K (.ref C) "__getattribute__" = some (some (.builtin "type.__getattribute__"))) (hr0:W.readsIn X.K C mc=true) (hf:W.findCls X.K (.ref C) mc name=some (.val (.ref f)))
  (F:Af X.prog X.w X.K X.mg X.base CX k f fd ps sp) (hr:aI k X.A) (hk:W.keepIn X.K (.ref f)=true) (hb:Binds X.K fd ps ds) (hd:Vals d7 ds) (hx:BW CX X E) (ha:PA X (e::es) t) (eI:(x==("__debug__" : Str))=false:=by decide)
  (he:starEach (e::es) X.env=(false,eval e X.env)::starEach es X.env:=by rfl) (eQ:(backTo pos (starEach es X.env)).any (·.1)=false:=by rfl)
  (ht:eval (.Call (.Attribute (.Name x np) name apos) (e::es) [] pos) X.env=(do
   let ov ←eval (.Name x np) X.env
   standAt apos.atName
   let (f,first) ←holding [ov] (getMethod ov name pl)
   callWith pos f first (backTo pos (starEach (e::es) X.env)) (backToKw pos (keywordEach [] X.env))):=by rfl) :
  PE X (.Call (.Attribute (.Name x np) name apos) (e::es) [] pos) (KK sp d7 E t):=by
 intro aa s σ H Q I h;refine W.methodCall_KW (pl:=pl) ?_ ht;refine CI I hg hm ?_ eI;refine W.method_cls I.cY ga (W.cls_value I.cY hr0 hf Zj ?_);refine W.callWith_K (h₀:=X.base) I.ok.mod.kin hk (aF (ha pos aa _ σ H _ (I.tok _) h) λus s1 ⟨vs,H1,I1,r,q⟩=>⟨I1.cY,?_⟩) he eQ;exact JP F hr hb hd hx I1 r q
end
section
variable {c:Str}{cp fp:Pos}{ck:Nat}
def VU (c:Str) (te:TE):TE:=λσ H Q=>te σ H λx H1=>((∃i,x=.int i/\i.natAbs.log2<1920)\/(∃z,x=.str z/\z.length<=1000)\/x=.aP)/\∀z,Q (.str z) H1
theorem At (a b:Str):(a++b).length=a.length+b.length:=strLen_append a b
theorem SQ (hc:c.length<=1000) (he:PE X e te):PE X (.JoinedStr [.Constant (.str c) ck cp,.FormattedValue e (-1) none fp] pos) (VU c te):=by
 intro aa s σ H Q I h;refine JoinedStr_many (joinParts_cons (Calls.Constant_str ?_));have l0:(Str.empty++c).length<=1000:=by rw[At];show 0+c.length<=1000;omega
 have sz:(3000:Nat)<=sizeLine:=by decide
 refine⟨Nat.le_trans l0 (Nat.le_trans qc sz),joinParts_cons ?_⟩;refine wpAny_FormattedValue_plain (aF (he aa _ σ H _ (I.tok _) h) λu s1 ⟨x,H1,I1,r,q,k⟩=>?_);rcases q with⟨i,rfl,hi⟩ |⟨z,rfl,hz⟩ |rfl
 ·obtain⟨t,rfl⟩:=r;refine PySem.wpAny_formatField_int hi ?_;have l1:(Str.ofString (toString i)).length<=1921:=by rw[PySem.ofString_length];exact int_text_length_le (k:=1920) qc hi
  have l2:((Str.empty++c)++Str.ofString (toString i)).length<=sizeLine:=by
   rw[At];omega
  exact⟨l2,joinParts_nil ⟨.str _,H1,(I1.tok _).tok _,⟨_,Zj⟩,k _⟩ l2⟩
 ·obtain⟨t,rfl⟩:=r
  have l2:((Str.empty++c)++z).length<=sizeLine:=by
   rw[At];omega
  have hz2:z.length<=sizeLine:=by omega
  exact PySem.wpAny_formatField_str ⟨l2,joinParts_nil ⟨.str _,H1,I1.tok _,⟨_,Zj⟩,k _⟩ l2⟩ ⟨l2,joinParts_nil ⟨.str _,H1,(I1.tok _).tok _,⟨_,Zj⟩,k _⟩ l2⟩ hz2
 ·obtain rfl:u=Value.none:=r
  have l2:((Str.empty++c)++("None" : Str)).length<=sizeLine:=by
   have:("None" : Str).length=4:=by decide +kernel
   rw[At];omega
  exact PySem.wpAny_formatField_none ⟨l2,joinParts_nil ⟨.str _,H1,(I1.tok _).tok _,⟨_,Zj⟩,k _⟩ l2⟩
end
structure VW (K:FG) (C:Xd) (f:Str):Prop where
 hg:Eg K C
 hh:W.hasDictIn K C=true
 ha:W.findIn K (.ref C) f=some none
section
variable {e:Xd}{oe:Obj}{o:Expr}{f:Str}{ta:TE}
def QV (e:Xd) (oe:Obj) (f:Str) (ta:TE):TE:=λσ H Q=>ta σ H λx H1=>∃d fs v,x=.ref e/\oe.dict=some d/\H1 d=some (.xd fs)/\fs.lookup f=some v/\Q v H1
theorem SR (p:ExcP X e oe C) (g:VW X.K C f) (he:PE X o ta) (hb:attributeBase o f X.env (eval o X.env)=eval o X.env):PE X (.Attribute o f pos) (QV e oe f ta):=by
 intro aa s σ H Q I h;refine NM hb (aF (he aa s σ H _ I h) λu s1 ⟨x,H1,I1,rx,d,fs,v,ex,hd,hH,l,q⟩=>?_);subst ex;obtain rfl:u=Value.ref e:=rx;obtain⟨mA,hn,r⟩:=I1.aE _ _ hH;obtain⟨od,ho,hl⟩:=IV hn;obtain⟨w,hw,gN⟩:=d8.some_of (v:=v) (o:=mA f) (by rw[←l];exact r f);have hp:=(I1.pin (e,oe) (ZP _ p.at_)).1;obtain⟨vs,hv⟩:=p.fld;have J:W.InstAt s1.heap e oe C (some od):=⟨hp,p.cls,by unfold W.notCls;rw[hv],by rw[hd];exact ho⟩;exact QQ g.hg I1.cY J (W.findObj_own g.hh g.ha Zj (by rw[hl,hw])) (IW gN) ⟨v,H1,I1.tok _,gN,q⟩
end
structure cE (X:Cx) (e:Expr) (t:TE):Prop where
 h:PE X e t
structure PAw (X:Cx) (es:List Expr) (t:TA):Prop where
 h:PA X es t
section
variable {es:List Expr}{t:TA}
theorem BD:PAw X [] C1:=⟨AC⟩
end
structure PSw (X:Cx) (st:Stmt) (t:TS):Prop where
 h:PS X st t
structure eA (X:Cx) (st:List Stmt) (t:TS):Prop where
 h:eK X st t
structure PIw (X:Cx) (tg e:Expr) (t:TI):Prop where
 h:PI X tg e t
section
variable {st:Stmt}{rest:List Stmt}{t u:TS}{tg l iter:Expr}{tl:TE}
theorem BH:eA X [] TN:=⟨Ae⟩
theorem CQ (a:PSw X st t) (b:eA X rest u):eA X (st::rest) (U8 t u):=⟨AF a.h b.h⟩
theorem A5 (a:PSw X st t):eA X [st] t:=⟨AG a.h⟩
theorem QW (h:cE X l tl):PIw X tg l (Pk X.K tl):=⟨CJ h.h⟩
theorem Nf {body:List Stmt}{wi:TI}{g:TG}{tb:TS} (hp:PassesOwn (model X.prog X.w) X.A X.env X.xe) (hc:X.calm=true) (hi:PIw X tg iter wi) (hg:PG X tg g) (hb:eA X body tb)
  (hs:∀x,foldedSetIterable iter X.env x=pure x:=by intro _;rfl):PSw X (.For tg iter body [] pos) (VD wi g tb):=⟨DP hp hc hi.h hg hb.h hs⟩
end
def MW (wi:TI) (g:TG) (tt:TT) (tk te:TE) (ix:List (Option Nat)) (R:LK->Hp->Prop):St->Hp->Prop:=λσ H=>wi σ H λJ H1=>∃W:Nat->Nat->LK->Hp->Prop,(∃m,W 0 m [] H1)/\∀i m ys H,W i m ys H ->
 (J.stop i H/\ys.length<=sizeLine/\R ys H) \/
 (J.go i H/\∃N:LK->Hp->Prop,(∀bZ H',N bZ H'->bZ.length<=sizeLine/\∃m',m'<m/\W (i+1) m' bZ H') /\
  ∀x H',J.gE i H x H'->g x (Bd ix σ) H' λbM H2=>tt bM H2 λb H3=>if b=true then tk bM H3 λyk H4=>te bM H4 λy H5=>∃k,yk=kV k/\N (B4 ys k y) H5 else N ys H3)
theorem Op (kvs:LK) (k:Key) (v:V):kvs.length<=(B4 kvs k v).length:=by
 unfold B4;split
 ·rw[AJ];exact Zy _
 ·rw[ZH];omega
theorem UK {s:Heap} (h:sysModules<s.objs.size):(s.objs.size==sysModules)=false:=by
 rw[beq_eq_false_iff_ne];exact Nat.ne_of_gt h
section
variable {N':Xa}{ix:List (Option Nat)}{scope:Scope}{tg iter kx vx:Expr}{ifs:List Expr}{wi:TI}{g:TG}{tt:TT}{tk:TE}{pos':Pos}
theorem MY {RD:Cx->Prop}{use:Option (Value->Sem Unit)}{Qv:VS} (hf:aO X.env.scope scope X.N N' ix) (hc:∀cl s H C fp aa,RD (AX X N' scope cl s H C fp (X.pn++aa))) (hi:PIg RD X tg iter wi)
  (hg:∀cl s H C fp pn,jb (AX X N' scope cl s H C fp pn) tg ix g) (ht:∀cl s H C fp pn,gU (AX X N' scope cl s H C fp pn) ifs tt) (hk:∀cl s H C fp pn,PE (AX X N' scope cl s H C fp pn) kx tk) (he:∀cl s H C fp pn,PE (AX X N' scope cl s H C fp pn) vx te)
  (hs:∀x,foldedSetIterable iter X.env x=pure x) {aa:LO}{s:Xe}{σ:St}{H:Hp}{R:LK->Hp->Prop} (I:Inv X aa σ H s) (h:MW wi g tt tk te ix R σ H)
  (ce:∀s' ys H' D C m,Inv X aa σ (upd H' D (.dK ys)) s'->R ys H'->H' D=none->s'.heap.Ns C m->X.aW.heap.objs.size<=C->C≠X.env.locals->(∀x c,X.env.cells.lookup x=some c->c≠C)->(∀p∈X.pn++aa,p.1≠C) ->
   upd H' D (.dK ys) C=none->compPost (model X.prog X.w) X.A X.xe use Qv (.ref D) C (.ok .next) s') :
  wpAny (model X.prog X.w) X.A (comprehension (.DictComp kx vx [⟨tg,iter,ifs,0⟩] scope pos) scope X.env pos' newDict false (eval iter X.env) use) Qv X.xe s:=by
 obtain⟨cl,cf,c1,c2⟩:=JZ (env:=X.env) (scope:=scope) λy hy hyf=>by
  have:=hf.free y hy hyf;exact I.ok.has y.1 this
 refine wpAny_comprehension_free (use:=use) Zj hs cf hf.kind hf.loc (aF (hi aa s σ H _ I h) λv s1 h1=>aF h1 λjN s2 h2=>?_);obtain⟨it,fp,tn,J,H2,e,I2,T,ip,f2,W,⟨m0,w0⟩,turn⟩:=h2;subst e
 have hlt:∀b∈fp,b<s2.heap.objs.size:=λb hb=>by
  obtain⟨o,e,_⟩:=T.obj _ _ ip b hb;exact lt_size e
 refine wpAny_newObj_type (wpAny_newFunctionEnv hf.nocell (by intro y hy;simp at hy) (λdG cZ cH=>?_) hf.kind)
 dsimp only at cZ cH ⊢
 generalize iT:s2.heap.push { cls:=.type "dict", data:=.dict #[] }=HP at cZ cH ⊢;have hC:HP.objs.size=s2.heap.objs.size+1:=by rw[←iT,Heap.size_push]
 have gJ:s2.heap.objs.size≠HP.objs.size:=by rw[hC];exact ZC (Nat.lt_succ_self _)
 have du:s2.heap.objs.size<=HP.objs.size:=by rw[hC];exact Nat.le_succ _
 have hCne:∀b,b<s2.heap.objs.size->b≠HP.objs.size:=λb hb=>by rw[hC];exact ZC (Nat.lt_succ_of_lt hb)
 have old:∀b o,s2.heap.get? b=some o->dG.get? b=some o:=λb o e=>cH.extBut b o (hCne b (lt_size e)) (ZX _ (iT ▸ ZX _ e));have bo:dG.get? s2.heap.objs.size=some { cls:=.type "dict", data:=.dict #[] }:=cH.extBut _ _ gJ (ZX _ (iT ▸ ZN _ rfl));generalize hCC:HP.objs.size=C at *;generalize d6:s2.heap.objs.size=D at *;have IX:=Eb (N':=N') (fp:=fp) I2 hf c1 c2 (by rw[d6];exact du) f2 (by rw[d6];exact hlt) (tk:=s2.toks+([]:List (Str×Value)).length) old cZ;have hDn:H2 D=none:=I2.aE.fresh (by rw[d6];exact Zy _)
 have gH:D∉ di X.stack:=λz=>by
  rcases mem_cons.mp (I2.dz D z)with q |q
  ·have:=I2.lt;rw[←q,d6]at this;exact ZF _ this
  ·exact I2.nofs (by rw[d6];exact Zy _) q
 have c9:∀x c,X.env.cells.lookup x=some c->c<D:=λx c e=>by
  obtain⟨v,z⟩:=I2.cell x c e;rw[←d6];exact z.lt
 have d5:∀p∈X.pn++aa,p.1<D:=λp hp=>by rw[←d6];exact lt_size (I2.pin p hp).1
 have jI:X.aW.heap.objs.size<=D:=by rw[←d6];exact I2.sz
 have eY:X.env.locals<D:=by rw[←d6];exact I2.lt
 let X':Cx:=AX X N' scope cl s2 H2 C fp (X.pn++aa)
 have eE:∀ {H':Hp}{ob:Obj},(∀b∈fp,H' b=none)->∀b∈fp,EL X' [(D,ob)] H' b:=λ{H' ob} hn b hb=>by
  refine⟨hn b hb,ZC (Z2 (hlt b hb) du),λz=>?_,.inl hb,λx c e=>(f2 b hb).2.2.2.2.1 x c (c1 x c e),λp hp=>?_⟩
  ·exact IX.ok.fh b hb z
  ·rcases mem_append.mp hp with z |z
   ·exact(f2 b hb).2.2.2.2.2 p z
   ·have e:p=(D,ob):=by simpa using z
    subst e;exact Nat.ne_of_gt (hlt b hb)
 have pinD:∀ {aJ:St}{H':Hp}{s':Xe}{ob:Obj},Inv X' [] aJ H' s'->s'.heap.get? D=some ob->H' D=none->(∀v,ob.data≠ .cell v)->Inv X' [(D,ob)] aJ H' s':=λ{aJ H' s' ob} Ia e n d =>
  Ia.bY λp hp=>by
   have q:p=(D,ob):=by simpa using hp
   subst q;exact⟨e,n,gJ,gH,d⟩
 have loop:∀s3:Xe,s3={ s2 with heap:=dG,toks:=s2.toks+([]:List (Str×Value)).length } ->
   codeAny (model X.prog X.w) X.A (.compLoop (.DictComp kx vx [⟨tg,iter,ifs,0⟩] scope pos) 0 (.ref it) (.ref D) (compEnvC scope cl C X.env)) (compPost (model X.prog X.w) X.A X.xe use Qv (.ref D) C) s3:=by
  rintro s3 rfl
  refine codeAny_loop Zj (λn s'=>∃i ys vs ob H',Inv X' [(D,ob)] (Bd ix σ) H' s'/\tn i s'.heap/\(∀b∈fp,H' b=none)/\W i n ys H'/\KV ys vs/\s'.heap.DictOf (AU X.prog X.w) D vs)
   (λn s4 hI=>?_) m0 ⟨0,[],[],_,H2,pinD IX bo hDn (λv z=>by cases z),T.keep _ _ _ ip (λb _ o e=>old b o e),λb hb=>(f2 b hb).1,w0,.nil,by rw[←d6];exact Heap.DictOf.at (Heap.DictOf.new s2.heap) λo e=>by rw[ZN _ rfl]at e;cases e;rw[d6];exact bo⟩
  obtain⟨i,ys,vs,ob,H4,I4,jG,jV,w4,rv,dd4⟩:=hI;have hDsys:(D==sysModules)=false:=by rw[←d6];exact UK I2.big
  show wpAny _ X.A ((compTurn (.DictComp kx vx [⟨tg,iter,ifs,0⟩] scope pos) 0 (.ref it) (.ref D) (compEnvC scope cl C X.env)).onRaise (λx=>do noteFrame x (compEnvC scope cl C X.env);theTreesLotGoes x)) _ _ s4;refine wpAny_noted ?_;rw[compTurn_dict];refine B9 ?_;rcases turn i n ys H4 w4 with⟨stop,hz,r⟩ |⟨go,N,hN,step⟩
  ·refine Zx (ZJ (Zx (aF (T.done X' Zj Zj Zj (hc _ _ _ _ _ _) i _ s4 _ H4 _ I4 (eE jV) jG stop) λr' s5 ⟨hr,I5⟩=>?_)));subst hr;have pD:=I5.pin (D,_) (ZT _ ZI);have Ib:Inv X aa σ H4 s5:=Fo I2 f2 I5;have pD4:=I4.pin (D,_) (ZT _ ZI);have dd5:=dd4.at (h':=s5.heap) λo e=>by rw[pD4.1]at e;cases e;exact pD.1
   have Ic:Inv X aa σ (upd H4 D (.dK ys)) s5:=Ib.track pD.2.1 (Nat.ne_of_gt eY) (.inr jI) (λx c e=>ZC (c9 x c e)) (λp hp=>ZC (d5 p hp)) (JU hz hDsys rv dd5);obtain⟨m5,n5,_⟩:=I5.loc
   refine Zw (ce s5 ys H4 D C m5 Ic r pD.2.1 n5 (Nat.le_trans jI du) (Nat.ne_of_gt (Z2 eY du)) (λx c e=>ZC (Z2 (c9 x c e) du))
    (λp hp=>ZC (Z2 (d5 p hp) du)) ?_)
   rw[AH (Ne.symm gJ)];exact I5.free
  ·refine Zx (ZJ (Zx (aF (T.item X' Zj Zj Zj (hc _ _ _ _ _ _) i _ s4 _ H4 _ I4 (eE jV) jG go) λr' s5 ⟨u,hr,h5⟩=>?_)));subst hr;refine Zx (aF h5 λ_ s6 ⟨x,H6,I6,r6,y6,iM,fr6⟩=>?_);have I6':=I6.pinned (eE fr6) (T.obj _ _ iM);refine Zx (aF (hg _ _ _ _ _ _ _ s6 _ H6 x u _ I6' r6 (step x H6 y6)) λ_ s7 ⟨eF,H7,I7,k7,q7⟩=>?_);refine Zx (aF (ht _ _ _ _ _ _ _ s7 eF H7 _ I7 q7) λb s8 ⟨H8,I8,q8⟩=>?_)
   have again:∀ {H9:Hp}{s9:Xe}{bZ:LK}{jF:List (Key×Value)}{jl:Obj},Inv X' ([(D,jl)]++Bj fp s6.heap) eF H9 s9->KV bZ jF->s9.heap.DictOf (AU X.prog X.w) D jF ->
     (∃m',m'<n/\W (i+1) m' bZ H9)->∃m,m<n/\∃i ys vs ob H',Inv X' [(D,ob)] (Bd ix σ) H' s9/\tn i s9.heap/\(∀b∈fp,H' b=none)/\W i m ys H'/\KV ys vs/\s9.heap.DictOf (AU X.prog X.w) D vs:=by
    intro H9 s9 bZ jF jl I9 rv' gB ⟨m',hm,w9⟩;refine⟨m',hm,i+1,bZ,jF,jl,H9,I9.unpinned.weak (I4.len.trans I9.len.symm) k7,T.keep _ _ _ iM λb hb o e=>(I9.pin (b,o) (ZT _ (ZT _ (BV hb e)))).1,λb hb=>?_,w9,rv',gB⟩;obtain⟨o,e,d⟩:=T.obj _ _ iM b hb;exact(I9.pin (b,o) (ZT _ (ZT _ (BV hb e)))).2.1
   have pD4:=I4.pin (D,_) (ZT _ ZI)
   have dAt:∀ {σ9:St}{H9:Hp}{s9:Xe},Inv X' ([(D,ob)]++Bj fp s6.heap) σ9 H9 s9->s9.heap.DictOf (AU X.prog X.w) D vs:=λ{σ9 H9 s9} I9=>dd4.at λo e=>by
    rw[pD4.1]at e;cases e;exact(I9.pin (D,_) (ZT _ (ZP _ ZI))).1
   cases b with
   |false =>
    rw[Zq Bool.false_ne_true]at q8;exact Zw ⟨Zj,again I8 rv (dAt I8) (hN _ _ q8).2⟩
   |true =>
    rw[Zp rfl]at q8;refine Zx (Zx (aF (hk _ _ _ _ _ _ _ s8 eF H8 _ I8 q8) λyk s8' ⟨zk,H8',I8',rk,q8'⟩=>?_));refine Zx (ZK (aF (he _ _ _ _ _ _ _ s8' eF H8' _ I8' q8') λy s9 ⟨z,H9,I9,r9,kk,ek,q9⟩=>?_));subst ek;refine Zx (ZJ ?_);have hz:(B4 ys kk z).length<=sizeLine:=(hN _ _ q9).1
    have hzv:vs.length<=sizeLine:=by
     have h1:=Op ys kk z;rw[←rv.length];omega
    have pD:=I9.pin (D,_) (ZT _ (ZP _ ZI));refine ZK (wpAny_dictSet_pairs (hsz:=hzv) (FC rk) (dAt I9) λh2 jW sb2=>?_);obtain⟨ob2,es2,ep2,q,ex2,dt2,rest2⟩:=id jW;have Iw:Inv X' (Bj fp s6.heap) eF H9 s9:=I9.bY λp hp=>I9.pin p (ZT _ (ZT _ hp))
    have It:Inv X' (Bj fp s6.heap) eF H9 { s9 with heap:=h2,toks:=s9.toks+1 }:=Iw.turned (it:=D) (λb o hb e=>(sb2.2 b hb).trans e) pD.2.1 gJ
     (.inr (by show s2.heap.objs.size<=D;rw[d6];exact Zy _)) (λx c e=>ZC (c9 x c (c1 x c e))) (λp hp=>by
      rcases mem_append.mp hp with z' |z'
      ·exact ZC (d5 p z')
      ·exact ZC (hlt p.1 (D9 z').1))
    refine Zw ⟨rfl,again (jl:=ob2) (It.bY λp hp=>?_) (rv.put kk r9) jW (hN _ _ q9).2⟩;rcases mem_append.mp hp with z' |z'
    ·have e:p=(D,ob2):=by simpa using z'
     subst e;exact⟨q,pD.2.1,gJ,gH,λv z=>by rw[dt2]at z;cases z⟩
    ·exact It.pin p (ZT _ z')
 exact codeAny_compStart_dict (loop _ Zj) (T.self _ 0 _ _ _ (T.keep _ _ _ ip λb _ o e=>old b o e) (loop _ Zj))
theorem QX (hf:aO X.env.scope scope X.N N' ix) (hc:X.calm=true) (hi:PI X tg iter wi)
  (hg:∀cl s H C fp pn,jb (AX X N' scope cl s H C fp pn) tg ix g) (ht:∀cl s H C fp pn,gU (AX X N' scope cl s H C fp pn) ifs tt) (hk:∀cl s H C fp pn,PE (AX X N' scope cl s H C fp pn) kx tk) (he:∀cl s H C fp pn,PE (AX X N' scope cl s H C fp pn) vx te)
  (hs:∀x,foldedSetIterable iter X.env x=pure x:=by intro _;rfl) :
  PE X (.DictComp kx vx [⟨tg,iter,ifs,0⟩] scope pos) (λσ H Q=>MW wi g tt tk te ix (λys H'=>∀p,H' p=none->Q (.ref p) (upd H' p (.dK ys))) σ H):=by
 intro aa s σ H Q I h;rw[arm_eval_DictComp];refine MY (use:=none) hf (λ_ _ _ _ _ _=>hc) hi.g hg ht hk he hs I h λs' ys H' D C m I' r hD hn h1 h2 h3 h4 h5=>?_;refine⟨m,hn,λh'' hs''=>⟨.ref D,_,I'.turned (it:=C) (t':=s'.toks) (λb o hb e=>(hs''.2 b hb).trans e) h5 h2 (.inr h1) h3 h4,Zj,r D hD⟩⟩
variable {y:Str}{px:Pos}
end
noncomputable def Itk (a:Xd) (o:Obj) (kvs:LK):It:=⟨λi H=>H a=some (.cQ o (.dK kvs))/\i<kvs.length,λi H x H'=>H'=H/\∃kv,kvs[i]?=some kv/\x=kV kv.1,λi H=>H a=some (.cQ o (.dK kvs))/\kvs.length<=i⟩
theorem Oq {tg:Expr} (a it:Xd) (o:Obj) (kvs:LK) :
  KD P w K tg (Itk a o kvs) [it] it (λi h=>h.IsKeyIter it a i kvs.length (OY o)) where
 mem:=by simp
 obj:=λi h st b hb=>by
  have e:b=it:=by simpa using hb
  subst e;obtain⟨ob,e,c,d⟩:=st;exact⟨ob,e,λv z=>by rw[d]at z;cases z⟩
 keep:=λi h h' st k=>by
  obtain⟨ob,e,r⟩:=st;exact⟨ob,k it (by simp) _ e,r⟩
 item:=by
  intro X hP hw hK hc i aa s σ H E I hf st hg;subst hP hw hK;obtain⟨ic,hi⟩:=hg;obtain⟨z,y,vs,rel,dd⟩:=DH I ic;have a0:=rel.length;obtain⟨kv,gz⟩:∃kv,kvs[i]?=some kv:=⟨_,Z7 hi⟩;obtain⟨v,hv,rv⟩:=KV.get rel gz;obtain⟨f0,f1,f2,f3,f4,f5⟩:=hf it (by simp);rw[a0]at st;refine wpAny_pyNext_dict_item st dd hv λkey h' cc eN sb=>?_;have I1:Inv X aa σ H { s with heap:=h' }:=I.turned (t':=s.toks) (λb o hb e=>(sb.2 b hb).trans e) f0 f1 f3 f4 f5;obtain⟨o',e',c',d'⟩:=id eN;exact⟨key,Zj,KF (s:={ s with heap:=h' }) e' c' d' qc ⟨kV kv.1,H,I1,EE cc,⟨Zj,kv,gz,Zj⟩,by rw[a0];exact eN,λb hb=>(hf b hb).1⟩⟩
 done:=by
  intro X hP hw hK hc i aa s σ H E I hf st hg;subst hP hw hK;obtain⟨ic,hi⟩:=hg;obtain⟨z,y,vs,rel,dd⟩:=DH I ic;have a0:=rel.length;rw[a0]at st;obtain⟨f0,f1,f2,f3,f4,f5⟩:=hf it (by simp);exact wpAny_pyNext_dict_end (I.ok.hd hc) st dd (List.getElem?_eq_none_iff.mpr qe) λh' eb=>⟨Zj,I.turned (t':=s.toks) (λb o hb e=>eb b o hb e) f0 f1 f3 f4 f5⟩
 self:=λ_ _ _ _ _ st h=>wpAny_pyIter_keyiter st h
def VX (to:TE):TI:=λσ H R=>to σ H λx H1=>∃a o kvs,x=.ref a/\H1 a=some (.cQ o (.dK kvs))/\R (Itk a o kvs) H1
theorem SS {tg o:Expr}{to:TE} (ho:PE X o to):PI X tg o (VX to):=by
 intro aa s σ H R I h;refine aF (ho aa s σ H _ I h) λv s1 ⟨x,H1,I1,r1,a,ob,kvs,ex,ic,q⟩=>?_;subst ex;cases r1;obtain⟨z,y,vs,rel,dd⟩:=DH I1 ic;refine wpAny_pyIter_dict y dd ?_;refine⟨_,[_],_,_,H1,Zj,I1.kept (t':=s1.toks) λb o e=>ZX _ e,Oq a _ ob kvs,⟨_,ZN _ Zj,Zj,by rw[rel.length];rfl⟩,λb hb=>?_,q⟩;have e:b=s1.heap.objs.size:=by simpa using hb
 subst e;exact I1.gu (Zy _) (I1.aE.fresh (Zy _))
theorem Os {o:Obj}{kvs:LK}{g:TG}{tt:TT}{ix:List (Option Nat)}{R:Xc->Hp->Prop}{H1:Hp} (Pv:Nat->Xc->Hp->Prop) (h0:Pv 0 [] H1) (hl:∀i ys H,Pv i ys H->H a=some (.cQ o (.dK kvs))) (hz:∀i ys H,Pv i ys H->ys.length<=1000)
  (hs:∀i kv ys H,kvs[i]?=some kv->Pv i ys H->g (kV kv.1) (Bd ix σ) H λbM H2=>tt bM H2 λb H3=>if b=true then te bM H3 λy H4=>Pv (i+1) (ys++[y]) H4 else Pv (i+1) ys H3) (hd:∀ys H,Pv kvs.length ys H->R ys H) :
  ∃W:Nat->Nat->Xc->Hp->Prop,(∃m,W 0 m [] H1)/\∀i m ys H,W i m ys H ->
   ((Itk a o kvs).stop i H/\ys.length<=sizeLine/\R ys H) \/
   ((Itk a o kvs).go i H/\∃N:Xc->Hp->Prop,(∀bZ H',N bZ H'->bZ.length<=sizeLine/\∃m',m'<m/\W (i+1) m' bZ H') /\
    ∀x H',(Itk a o kvs).gE i H x H'->g x (Bd ix σ) H' λbM H2=>tt bM H2 λb H3=>if b=true then te bM H3 λy H4=>N (ys++[y]) H4 else N ys H3):=by
 refine⟨λi m ys H=>m=kvs.length - i/\i<=kvs.length/\Pv i ys H,⟨_,Zj,Nat.zero_le _,h0⟩,?_⟩;rintro i m ys H ⟨rfl,hi,hp⟩;by_cases hlt:i<kvs.length
 ·refine .inr ⟨⟨hl i ys H hp,hlt⟩,Pv (i+1),λbZ H' q=>⟨Nat.le_of_lt (AL (hz _ bZ H' q)),kvs.length - (i+1),qe,Zj,hlt,q⟩,?_⟩;rintro x H' ⟨rfl,kv,gz,rfl⟩;exact hs i kv ys _ gz hp
 ·have e:i=kvs.length:=by omega
  subst e;exact .inl ⟨⟨hl _ ys H hp,Zy _⟩,Nat.le_of_lt (AL (hz _ ys H hp)),hd ys H hp⟩
section
def VY (i j k:Nat) (ta:TA):TS:=λD σ H=>ta σ H λvs H1=>∃v w z,vs=[v,w,z]/\D.nx (((σ.set k (some z)).set j (some w)).set i (some v)) H1
theorem SU {i j k:Nat}{y z:Str}{a b c:Expr}{ta:TA}{px py pz pt:Pos}{kt k2 pt2} (hc:X.calm=true) (hN:X.N.Nodup) (hi:X.N[i]?=some x) (hj:X.N[j]?=some y) (hk:X.N[k]?=some z)
  (hx:X.env.scope.names.lookup x=some .local) (hy:X.env.scope.names.lookup y=some .local) (hz:X.env.scope.names.lookup z=some .local) (ha:PA X [a,b,c] ta)
  (hw:swappedStores [.Tuple [.Name x px,.Name y py,.Name z pz] kt pt] (.Tuple [a,b,c] k2 pt2) X.env=pure (some [x,y,z]))
  (hs:swapsWithSole [.Tuple [.Name x px,.Name y py,.Name z pz] kt pt] (.Tuple [a,b,c] k2 pt2) pos.line X.env=pure false:=by rfl) :
  PS X (.Assign [.Tuple [.Name x px,.Name y py,.Name z pz] kt pt] (.Tuple [a,b,c] k2 pt2) pos) (VY i j k ta):=by
 intro aa s σ H D I h;rw[exec_Assign_arm];refine Zx (ZJ ?_);rw[hs];refine Zx (Zw ?_);rw[Zq qc];refine Zx (Tuple_ (aF (ha _ aa s σ H _ I h) λus s1 ⟨vs,H1,I1,r1,q1⟩=>?_));obtain⟨v,w,t,e1,q1⟩:=q1;subst e1
 obtain⟨u1,u2,u3,rfl,rv,gN,rt⟩:∃u1 u2 u3,us=[u1,u2,u3]/\RelV v u1/\RelV w u2/\RelV t u3:=by
  cases r1 with
  |cons p q =>
   cases q with
   |cons p' q' =>
    cases q' with
    |cons p'' q'' =>
     cases q'';exact⟨_,_,_,Zj,p,p',p''⟩
 refine wpAny_newObj_type ?_ eX;have I2:Inv X aa σ H1 { s1 with heap:=s1.heap.push { cls:=.type "tuple", data:=.seq [u1,u2,u3].toArray } }:=I1.kept (t':=s1.toks) λb o e=>ZX _ e;rw[hw];refine Zx (Zw ?_);show wpAny (model X.prog X.w) X.A (do rule "assign.swapped-stores";let items ←unpackItems (.ref s1.heap.objs.size) 3 none;assignInOrder [λv=>bindName X.env z v,λv=>bindName X.env y v,λv=>bindName X.env x v] items.reverse;pure Flow.next) _ _ _;refine Zx (wpAny_rule (Zx (unpackItems_tuple (items:=#[u1,u2,u3]) (I.ok.hd hc) (IsTup.new s1.heap _) λh' hx'=>?_)));have I3:=I2.kept (h':=h') (t':=s1.toks) λb o e=>hx' b o (ZC (lt_size e)) e;show wpAny _ _ (assignInOrder [λv=>bindName X.env z v,λv=>bindName X.env y v,λv=>bindName X.env x v] [u3,u2,u1] >>= λ_=>pure Flow.next) _ _ _;refine Zx (assignInOrder_cons (wpAny_bindName (Br I3 hN hk (.inl hz) rt (λs2 I4=>?_) (.inr hz))));refine assignInOrder_cons (wpAny_bindName (Br I4 hN hj (.inl hy) gN (λs3 I5=>?_) (.inr hy)));refine assignInOrder_cons (wpAny_bindName (Br I5 hN hi (.inl hx) rv (λs4 I6=>assignInOrder_nil (Zw ?_)) (.inr hx)));exact⟨_,H1,I6,q1⟩
end
def Wi:V->Option Int->Option Int->Hp->VK->Prop:=λx lo hi H Q=>∃z,x=.str z/\z.length<=sizeLine/\Q (.str (Txt.slice z lo hi)) H
theorem Ng {v:Value}{o:Option Int} (h:IsPart v o):∃l:Option (Int×Tok),v=partValue l/\o=l.map (·.1):=by
 cases h with
 |none=>exact⟨none,rfl,rfl⟩
 |int i t=>exact⟨some (i,t),rfl,rfl⟩
theorem QY:SlR X Wi:=by
 intro aa s σ H x v vl vu lo hi sl Q I rx hs pl pu h;obtain⟨z,rfl,hz,q⟩:=h;obtain⟨t,rfl⟩:=rx;obtain⟨l,rfl,rfl⟩:=Ng pl;obtain⟨u,rfl,rfl⟩:=Ng pu;refine⟨"str", _,F.slot_str_getitem.lookup,typeIs_str s z t,?_⟩;exact wpAny_getItem_str_slice (l:=l) (u:=u) (st:=none) hs Zj (post_val_or_str ⟨Nat.le_trans (Txt.slice_le z _ _) hz,λt' k=>⟨.str (Txt.slice z _ _),H,I.tok k,⟨t',Zj⟩,q⟩⟩)
theorem ES:aZ X (.type "int") (λxs H Q=>∃x n,xs=[.str x]/\x.length<=640/\intText? x=some n/\Q (.int n) H):=by
 intro aa s σ H xs us Q I r h;obtain⟨x,n,rfl,hl,hn,q⟩:=h;obtain⟨u,rfl,t,rfl⟩:=Bt r;exact W.KIN.call_text hn hl ⟨.int n,H,I.tok _,⟨_,Zj⟩,q⟩
section
theorem SW:dc X (binaryOp .Mult) (λx y H Q=>∃(i:Str) (n:Int),x=.str i/\y=.int n/\((n=0/\Q (.str "") H)\/(n=1/\Q (.str i) H))):=by
 intro aa s σ H x y v u Q I rx ry h;obtain⟨i,n,rfl,rfl,h⟩:=h;obtain⟨t,rfl⟩:=rx;obtain⟨t',rfl⟩:=ry;rcases h with⟨rfl,q⟩ |⟨rfl,q⟩
 ·refine PySem.P.mul_str Zj (λz _=>absurd qc z) (λz _=>absurd qc z) ?_;rw[Zp qc];exact⟨qc,.str "", H,I.tok _,⟨_,Zj⟩,q⟩
 ·refine PySem.P.mul_str Zj (λ_ z=>by simp at z) (λ_ z=>by simp at z) ?_;rw[Zq qc,Zp (by simp)];exact⟨.str i,H,I,⟨_,Zj⟩,q⟩
theorem Jf:aZ X (.type "str") (λxs H Q=>∃x,xs=[.str x]/\Q (.str x) H):=by
 intro aa s σ H xs us Q I r h;obtain⟨x,rfl,q⟩:=h;obtain⟨u,rfl,t,rfl⟩:=Bt r;exact PySem.P.str_of_str ⟨.str x,H,I,⟨_,Zj⟩,q⟩
end
structure PTw (X:Cx) (e:Expr) (t:TT):Prop where
 h:PT X e t
section
variable {a b c:Expr}{ta tb:TE}{tc:TT}{st:Stmt}{s1 s2 rest:List Stmt}{t u:TS}{es:List Expr}{ts:TA}
theorem Cn {i:Nat}{pos':Pos} (hN:X.N.Nodup) (hi:X.N[i]?=some x) (hx:Loc X.env.scope x) (he:cE X e te) (hs:swapsWith e (some (.Name x pos')) pos.line X.env=pure false:=by rfl) (hf:X.fn x=true\/X.env.scope.names.lookup x=some .local:=by first |exact .inl rfl |exact .inr rfl) :
  PSw X (.Assign [.Name x pos'] e pos) (Tx te (Cb i)):=⟨Ag hN hi hx he.h hs hf⟩
theorem Cg {op:Operator}{r:R2} (ho:dc X (binaryOp op) r) (ha:cE X a ta) (hb:cE X b tb):cE X (.BinOp a op b pos) (iZ r ta tb):=⟨Ab ho ha.h hb.h⟩
theorem B5 {r:R2} (hr:IxR X r) (ha:cE X a ta) (hb:cE X b tb) (hs:NR b):cE X (.Subscript a b pos) (iZ r ta tb):=⟨BG hr ha.h hb.h hs⟩
theorem C3 (hc:PTw X c tc) (ha:eA X s1 t) (hb:eA X s2 u):PSw X (.If c s1 s2 pos) (Tu tc t u):=⟨An hc.h ha.h hb.h⟩
theorem QZ (hc:PTw X c tc) (ha:cE X a ta) (hb:cE X b tb):cE X (.IfExp c a b pos) (tIf tc ta tb):=⟨C8 hc.h ha.h hb.h⟩
theorem AT (he:cE X e te) (h:PAw X es ts) (hs:starEach (e::es) X.env=(false,eval e X.env)::starEach es X.env:=by rfl):PAw X (e::es) (Al te ts):=⟨AA he.h h.h hs⟩
theorem Au {CX:gD}{k:Nat}{f:Xd}{fd:FuncData}{ps:Xa}{sp:Sp}{ds:Xb}{d7:Xc}{E:XK}{p:Pos} (F:Af X.prog X.w X.K X.mg X.base CX k f fd ps sp) (hr:aI k X.A) (hg:Gl X x) (hm:X.mg x=some (.ref f)) (hk:W.keepIn X.K (.ref f)=true) (hb:Binds X.K fd ps ds) (hd:Vals d7 ds) (hx:BW CX X E)
  (ha:PAw X (e::es) ts) (eI:(x==("__debug__" : Str))=false:=by decide) (he:starEach (e::es) X.env=(false,eval e X.env)::starEach es X.env:=by rfl) (eQ:(backTo pos (starEach es X.env)).any (·.1)=false:=by rfl) :
  cE X (.Call (.Name x p) (e::es) [] pos) (KK sp d7 E ts):=⟨AQ F hr hg hm hk hb hd hx ha.h eI he eQ⟩
theorem UL {op:UnaryOp}{r:V->Hp->VK->Prop} (ho:UnR X (unaryOp op) r) (he:cE X e te):cE X (.UnaryOp op e pos) (tUn r te):=⟨Gp ho he.h⟩
end
abbrev DcE:=Str×Tok×Int×Tok
def TZ (P:Params) (e:DcE):DictEntry:=⟨PyData.keyHash P e.1,.str e.1 e.2.1,.int e.2.2.1 e.2.2.2⟩
noncomputable def dcObj (P:Params) (l:List DcE) (ep:Nat):Obj:=⟨.type "dict", none,.dict (l.map (TZ P)).toArray ep,#[]⟩
noncomputable def gK (l:List DcE):LK:=l.map λe=>(Sum.inr e.1,.int e.2.2.1)
theorem VZ {bd:Xd}{l:List DcE}{ep:Nat} (e:h.get? bd=some (dcObj w.params l ep)) (nd:(l.map (·.1)).Nodup):∃vs,KV (gK l) vs/\h.DictOf (AU P w) bd vs:=by
 refine⟨l.map λe=>(Sum.inr e.1,.int e.2.2.1 e.2.2.2),?_,_,_,_,e,⟨Zj,Zj,Zj⟩,Zj,λx hx=>?_,?_,?_⟩
 ·unfold gK;clear e nd;induction l with
  |nil=>exact .nil
  |cons a r ih=>exact .cons ⟨rfl,_,rfl⟩ ih
 ·obtain⟨a,_,rfl⟩:=Zr.mp (List.mem_toArray.mp hx);exact⟨Sum.inr a.1,Dm P w _ _,Zj⟩
 ·show Pairs _ (l.map (TZ w.params)).toArray.toList _;rw[List.toList_toArray];clear e nd;induction l with
  |nil=>exact .nil
  |cons a r ih=>exact .cons (Dm P w _ _) rfl ih
 ·rw[map_map];have:(l.map ((λx:Key×Value=>x.1) ∘ λe:DcE=>((Sum.inr e.1:Key),Value.int e.2.2.1 e.2.2.2)))=(l.map (·.1)).map (λx=>(Sum.inr x:Key)):=by rw[map_map];rfl
  rw[this];exact List.Pairwise.map _ (λa b gZ z=>gZ (Sum.inr.inj z)) nd
theorem MZ {mb:SV}{CX:gD}{k:Nat}{fa c P0 bd:Xd}{l:List DcE}{ep:Nat}{fd:FuncData}{sp:Sp}{aH:Xe}{vs:Xb}{ns:List Int}
  (KX:K.In aH.heap) (jP:aH.heap.Ns mainGlobals mg) (hb:aH.heap.Ns builtinsNs mb) (hbb:∀x:Str,x≠ "__name__" -> mb x=bootBuiltins x) (hlim:aH.heap.NoLimit) (hg:aH.gens=#[])
  (ha:aH.heap.get? a=some { cls:=.type "list", data:=.seq vs.toArray }) (hi:IntsAre vs ns) (hl:ns.length<=sizeLine) (hr:aI k callerA)
  (hP:aH.heap.get? P0=some (W.tabObj #[])) (hKP:K.lookup P0=none) (hC:W.CodeHd aH.heap c P0) (hB:aH.heap.BuiltinsAt mg P0)
  (hD:aH.heap.get? bd=some (dcObj w.params l ep)) (hKD:K.lookup bd=none) (hb5:5<=bd) (hdl:l.length<=1000) (gq:(l.map (·.1)).Nodup)
  (F:∀base:Heap,K.In base->base.Ns mainGlobals mg->W.CodeHd base c P0->base.BuiltinsAt mg P0->Af P w K mg base CX k fa fd [x] sp) (bt:∀(s:Xe) (u:Value),BindsTo s fd ⟨[u],[]⟩ [(x,u)])
  (gF:∀H:Hp,H P0=some (.fk #[])->Rd H bd (.dK (gK l))->aK K H a (ns.map V.int)->sp [.ref a] H (λv _=>v=.bl true) λ_ _ _=>False)
  (hCX:∀H e s',CX [] H aH (λ_ _ _=>False) e s'->False) :
  codeAny (model P w) callerA (.call (.ref fa) ⟨[.ref a],[]⟩) (λr s'=>r=.ok (.ret (.bool true))/\OldK aH.heap s'.heap/\s'.os=aH.os/\AllBare s'.gens) aH:=by
 have rv:=ED hi;have lenV:=hi.length;have haP:a≠P0:=λz=>by subst z;rw[ha]at hP;cases hP
 have gZ:a≠bd:=λz=>by subst z;rw[ha]at hD;cases congrArg Obj.data (Option.some.inj hD)
 have hPb:P0≠bd:=λz=>by subst z;rw[hP]at hD;cases congrArg Obj.data (Option.some.inj hD)
 have okD:∀H:Hp,aS P w H aH.heap bd (.cQ (dcObj w.params l ep) (.dK (gK l))):=λH=>⟨hD,by unfold gK;rw[AJ];exact Nat.le_of_lt (AL hdl),by
  cases q:(bd==sysModules)with
  |false=>rfl
  |true =>
   rw[beq_iff_eq.mp q]at hb5
   exact absurd hb5 qc,VZ hD gq⟩
 have core:∀H:Hp,(∀b,H b=none\/(∃o u,H b=some (.cQ o u))\/b=P0)->H P0=some (.fk #[])->H bd=some (.cQ (dcObj w.params l ep) (.dK (gK l)))->aK K H a (ns.map V.int)->dq P w H aH.heap->(∀b,H b≠none->b=a\/b=P0\/b=bd)->(H a≠none->K.lookup a=none)->(∀b o u,H b=some (.cQ o u)->aH.heap.get? b=some o) ->
   (∀(H':Hp) (s':Xe) (b:Xd) (o:Obj) (u:HO),H b=some (.cQ o u)->dq P w H' s'.heap->H' b=some (.cQ o u)->s'.heap.get? b=some o) ->
   codeAny (model P w) callerA (.call (.ref fa) ⟨[.ref a],[]⟩) (λr s'=>r=.ok (.ret (.bool true))/\OldK aH.heap s'.heap/\s'.os=aH.os/\AllBare s'.gens) aH:=by
  intro H hO hHP hHD hS aE hA hK ic hfz';have base_of:∀ {b:Xd}{o:Obj},aH.heap.get? b=some o->H b=none->(Gn aH.heap H).get? b=some o:=λe n=>Pd e n
  have noS:∀ {b:Xd}{o:Obj},aH.heap.get? b=some o->(∀xs n,o.data≠ .seq xs n)->(∀es n,o.data≠ .dict es n)->o.cls≠ .none->H b=none:=λ{b o} e d1 d3 d2=>by
   cases q:H b with
   |none=>rfl
   |some u =>
    rcases hA b (by rw[q];simp)with e' |e' |e'
    ·subst e';rw[ha]at e;cases e;exact absurd Zj (d1 _ _)
    ·subst e';rw[hP]at e;cases e;exact absurd Zj d2
    ·subst e';rw[hD]at e;cases e;exact absurd Zj (d3 _ _)
  have jq:∀ {b:Xd}{o:Obj}{es:Array DictEntry}{ep:Nat},b<5->aH.heap.get? b=some o->o.data=.dict es ep->H b=none:=λ{b o es ep} hb e d=>by
   cases q:H b with
   |none=>rfl
   |some u =>
    rcases hA b (by rw[q];simp)with e' |e' |e'
    ·subst e';rw[ha]at e;cases e;cases (show Data.seq vs.toArray _=Data.dict es ep from d)
    ·subst e';rw[hP]at e;cases e;cases (show Data.fields #[]=Data.dict es ep from d)
    ·subst e';exact absurd hb (Nat.not_lt.mpr hb5)
  have nsK:∀ {b:Xd}{m:SV},b<5->aH.heap.Ns b m->(Gn aH.heap H).Ns b m:=λ{b m} hb ⟨o,es,ep,e,d,r⟩=>⟨o,es,ep,base_of e (jq hb e d),d,r⟩
  have hKb:K.In (Gn aH.heap H):=λb o e=>base_of (KX b o e) (by
   cases q:H b with
   |none=>rfl
   |some u =>
    rcases hA b (by rw[q];simp)with e' |e' |e'
    ·subst e';rw[hK (by rw[q];simp)]at e;cases e
    ·subst e';rw[hKP]at e;cases e
    ·subst e'
     rw[hKD]at e;cases e)
  have hM:Mod K mg (Gn aH.heap H):=⟨hKb,nsK qc jP,⟨mb,nsK qc hb,hbb⟩,let ⟨mc,h1,h2⟩:=hlim;⟨mc,nsK qc h1,h2⟩⟩
  have hCb:W.CodeHd (Gn aH.heap H) c P0:=by
   obtain⟨o,jF,file,tf,flags,tg,inF,text,tt,e,af,hda,r⟩:=id hC;exact⟨o,jF,file,tf,flags,tg,inF,text,tt,base_of e (noS e (λxs n z=>by rw[hda]at z;cases z) (λxs n z=>by rw[hda]at z;cases z) (by rw[af];exact λz=>nomatch z)),af,hda,r⟩
  have hBb:(Gn aH.heap H).BuiltinsAt mg P0:=by
   obtain⟨bm,o,a1,a2,a3,a4,a5,a6,a7,a8⟩:=id hB;exact⟨bm,o,a1,a2,a3,a4,base_of a5 (noS a5 (λxs n z=>by rw[a8]at z;cases z) (λxs n z=>by rw[a8]at z;cases z) (by rw[a6];exact λz=>nomatch z)),a6,a7,a8⟩
  have e0:eV P w K mg (Gn aH.heap H) callerA [] aH H:=⟨rfl,hM,λb o e=>Ro e,Nat.le_of_eq (OO _ _),trivial,λb hb=>absurd (show b∈([]:List Xd)from hb) (by simp),aE,.of_eq hg⟩;refine codeAny_mono ((F _ hKb (nsK qc jP) hCb hBb).run callerA [] aH H ⟨[.ref a],[]⟩ [.ref a] [.ref a] _ _ hr e0 (bt aH (.ref a)) (.cons rfl .nil) (gF H hHP (.inr ⟨_,hHD⟩) hS)) λr s' h=>?_;cases r with
  |error e=>exact(hCX H e s' h).elim
  |ok fl =>
   cases fl with
   |next=>exact False.elim h
   |brk=>exact False.elim h
   |cont=>exact False.elim h
   |ret u =>
    obtain⟨v,H',os,bare,un,fY,r',q⟩:=h;have q':v=.bl true:=q;subst q';obtain rfl:u=Value.bool true:=r'
    have tabNow:∃more,s'.heap.get? P0=some (W.tabObj (#[]++more)):=by
     obtain⟨more,e⟩:=un.eR P0 #[] hHP;exact⟨more,fY _ _ e⟩
    have rest:∀b o,b≠P0->aH.heap.get? b=some o->s'.heap.get? b=some o:=λb o hb e=>by
     cases q:H b with
     |none=>exact un.keep b o e q (by intro z;exact absurd (show b∈([]:List Xd)from z) (by simp)) (by simp)
     |some u =>
      rcases hO b with z |⟨ob,xs,z⟩ |z
      ·rw[q]at z;cases z
      ·have z2:=un.eT b ob _ z;have e1:=ic b ob _ z;rw[e]at e1;cases e1;exact hfz' H' s' b o xs z fY z2
      ·exact absurd z hb
    refine⟨Zj,⟨λb o e=>?_,λb o e=>?_⟩,os,bare⟩
    ·by_cases hb:b=P0
     ·subst hb;rw[hP]at e;cases e;obtain⟨more,e2⟩:=tabNow;exact .inr (.inl ⟨(hC.tab hP).isCodeTable,Zj,#[],more,Zj,e2⟩)
     ·exact .inl (rest b o hb e)
    ·by_cases hb:b=P0
     ·subst hb;obtain⟨more,e2⟩:=tabNow;exact⟨_,e2⟩
     ·exact⟨o,rest b o hb e⟩
 have fzD:∀(H':Hp) (s':Xe),dq P w H' s'.heap->H' bd=some (.cQ (dcObj w.params l ep) (.dK (gK l)))->s'.heap.get? bd=some (dcObj w.params l ep):=λH' s' fY z=>by
  obtain⟨e1,_⟩:=fY bd _ z;exact e1
 have fzL:∀(H':Hp) (s':Xe),dq P w H' s'.heap->H' a=some (.cQ { cls:=.type "list", data:=.seq vs.toArray } (.lst (ns.map V.int)))->s'.heap.get? a=some { cls:=.type "list", data:=.seq vs.toArray }:=λH' s' fY z=>by
  obtain⟨e1,_⟩:=fY a _ z;exact e1
 cases hk:K.lookup a with
 |some o =>
  have e:=KX a o hk;rw[ha]at e;cases e
  have cs:∀b u,(if b=P0 then some (HO.fk #[])else if b=bd then some (.cQ (dcObj w.params l ep) (.dK (gK l)))else none)=some u->(b=P0/\u=.fk #[])\/(b=bd/\u=.cQ (dcObj w.params l ep) (.dK (gK l))):=λb u z=>by
   by_cases h1:b=P0
   ·rw[Zp h1]at z;exact .inl ⟨h1,(Option.some.inj z).symm⟩
   ·rw[Zq h1]at z;by_cases h2:b=bd
    ·rw[Zp h2]at z;exact .inr ⟨h2,(Option.some.inj z).symm⟩
    ·rw[Zq h2]at z;cases z
  refine core (λb=>if b=P0 then some (.fk #[])else if b=bd then some (.cQ (dcObj w.params l ep) (.dK (gK l)))else none) (λb=>?_) (Zp Zj) ((Zq (Ne.symm hPb)).trans (Zp Zj)) (.inr ⟨_,vs.toArray,_,hk,Zj,Zj,Zj,by rw[size_toArray,lenV];exact hl,by simpa using rv⟩) (λb u z=>?_) (λb z=>?_) (λz=>absurd ((Zq haP).trans (Zq gZ)) z) (λb o u z=>?_) (λH' s' b o u z fY z'=>?_)
  ·by_cases h1:b=P0
   ·exact .inr (.inr h1)
   ·by_cases h2:b=bd
    ·exact .inr (.inl ⟨_,_,(Zq h1).trans (Zp h2)⟩)
    ·exact .inl ((Zq h1).trans (Zq h2))
  ·rcases cs b u z with⟨rfl,rfl⟩ |⟨rfl,rfl⟩
   ·exact hP
   ·exact okD _
  ·cases q:(if b=P0 then some (HO.fk #[])else if b=bd then some (.cQ (dcObj w.params l ep) (.dK (gK l)))else none)with
   |none=>exact absurd q z
   |some u =>
    rcases cs b u q with⟨h,_⟩ |⟨h,_⟩
    ·exact .inr (.inl h)
    ·exact .inr (.inr h)
  ·rcases cs b _ z with⟨rfl,h⟩ |⟨rfl,h⟩
   ·cases h
   ·cases h;exact hD
  ·rcases cs b _ z with⟨rfl,h⟩ |⟨rfl,h⟩
   ·cases h
   ·cases h;exact fzD H' s' fY z'
 |none =>
  have cs:∀b u,(if b=P0 then some (HO.fk #[])else if b=bd then some (.cQ (dcObj w.params l ep) (.dK (gK l)))else if b=a then some (.cQ { cls:=.type "list", data:=.seq vs.toArray } (.lst (ns.map V.int)))else none)=some u->(b=P0/\u=.fk #[])\/(b=bd/\u=.cQ (dcObj w.params l ep) (.dK (gK l)))\/(b=a/\u=.cQ { cls:=.type "list", data:=.seq vs.toArray } (.lst (ns.map V.int))):=λb u z=>by
   by_cases h1:b=P0
   ·rw[Zp h1]at z;exact .inl ⟨h1,(Option.some.inj z).symm⟩
   ·rw[Zq h1]at z;by_cases h2:b=bd
    ·rw[Zp h2]at z;exact .inr (.inl ⟨h2,(Option.some.inj z).symm⟩)
    ·rw[Zq h2]at z;by_cases h3:b=a
     ·rw[Zp h3]at z;exact .inr (.inr ⟨h3,(Option.some.inj z).symm⟩)
     ·rw[Zq h3]at z;cases z
  refine core (λb=>if b=P0 then some (.fk #[])else if b=bd then some (.cQ (dcObj w.params l ep) (.dK (gK l)))else if b=a then some (.cQ { cls:=.type "list", data:=.seq vs.toArray } (.lst (ns.map V.int)))else none) (λb=>?_) (Zp Zj) ((Zq (Ne.symm hPb)).trans (Zp Zj)) (.inl (.inr ⟨{ cls:=.type "list", data:=.seq vs.toArray },(Zq haP).trans ((Zq gZ).trans (Zp Zj))⟩)) (λb u z=>?_) (λb z=>?_) (λ_=>hk) (λb o u z=>?_) (λH' s' b o u z fY z'=>?_)
  ·by_cases h1:b=P0
   ·exact .inr (.inr h1)
   ·by_cases h2:b=bd
    ·exact .inr (.inl ⟨_,_,(Zq h1).trans (Zp h2)⟩)
    ·by_cases h3:b=a
     ·exact .inr (.inl ⟨_,_,(Zq h1).trans ((Zq h2).trans (Zp h3))⟩)
     ·exact .inl ((Zq h1).trans ((Zq h2).trans (Zq h3)))
  ·rcases cs b u z with⟨rfl,rfl⟩ |⟨rfl,rfl⟩ |⟨rfl,rfl⟩
   ·exact hP
   ·exact okD _
   ·exact⟨ha,by rw[AJ];exact hl,vs,_,rv,ha⟩
  ·cases q:(if b=P0 then some (HO.fk #[])else if b=bd then some (.cQ (dcObj w.params l ep) (.dK (gK l)))else if b=a then some (.cQ { cls:=.type "list", data:=.seq vs.toArray } (.lst (ns.map V.int)))else none)with
   |none=>exact absurd q z
   |some u =>
    rcases cs b u q with⟨h,_⟩ |⟨h,_⟩ |⟨h,_⟩
    ·exact .inr (.inl h)
    ·exact .inr (.inr h)
    ·exact .inl h
  ·rcases cs b _ z with⟨rfl,h⟩ |⟨rfl,h⟩ |⟨rfl,h⟩
   ·cases h
   ·cases h;exact hD
   ·cases h;exact ha
  ·rcases cs b _ z with⟨rfl,h⟩ |⟨rfl,h⟩ |⟨rfl,h⟩
   ·cases h
   ·cases h;exact fzD H' s' fY z'
   ·cases h;exact fzL H' s' fY z'
theorem Ot {l:W.OpenLaw}{n k:Nat}{q:Program}{loose:Xa}{XP:(Str->Option Value)->Heap->Prop}{YP:World->Heap->Prop}{d:DefRec}{K:Params->FG}{CX:World->gD}{sp:World->Sp}{c P0 bd:Xd}{dl:List DcE}{ep:Nat}
  (hn:l.most=some n) (hn2:n<=sizeLine) (hdf:d.params.defaults=[]) (hr:aI k callerA) (hb5:5<=bd) (hdl:dl.length<=1000) (gq:(dl.map (·.1)).Nodup)
  (hY:∀(w:World) (h:Heap),YP w h->(K w.params).In h/\h.get? P0=some (W.tabObj #[])/\(K w.params).lookup P0=none/\W.CodeHd h c P0/\h.get? bd=some (dcObj w.params dl ep)/\(K w.params).lookup bd=none)
  (F:∀(w:World) (mg:SV) (fa:Xd) (h:Heap),(K w.params).In h->h.Ns mainGlobals mg->mg d.name=some (.ref fa) ->
   ∃fd:FuncData,(∀(s:Xe) (u:Value),BindsTo s fd ⟨[u],[]⟩ [(x,u)]) /\
    ∀base:Heap,(K w.params).In base->base.Ns mainGlobals mg->W.CodeHd base c P0->base.BuiltinsAt mg P0->Af l.prog w (K w.params) mg base (CX w) k fa fd [x] (sp w))
  (gF:∀(w:World) (H:Hp) (a:Xd) (ns:List Int),ns.length<=n->H P0=some (.fk #[])->Rd H bd (.dK (gK dl))->aK (K w.params) H a (ns.map V.int)->sp w [.ref a] H (λv _=>v=.bl true) λ_ _ _=>False)
  (hCX:∀(w:World) (H:Hp) (s:Xe) (e:Value) (s':Xe),CX w [] H s (λ_ _ _=>False) e s'->False) :
  W.WalkO q loose XP YP l.row.toRowW d [] (λf vs=>PySem.call f vs):=by
 refine Att.attach_call hn hdf λw aW aH mg mb fa o pm cd doc a vs ns G Y ho hd fg hmg cv bv a0 hg=>?_;obtain⟨KX,hP,hKP,hC,hD,hKD⟩:=hY w _ Y;obtain⟨fd,hb,hF⟩:=F w mg fa _ KX G.T.g hmg
 have hB:aH.heap.BuiltinsAt mg P0:=by
  obtain⟨bm,ob,b1,b2,b3,b4,b5,b6⟩:=G.T.bmain;refine⟨bm,ob,b1,b2,λz=>?_,λz=>?_,b3,b4,b5,b6⟩
  ·obtain⟨o',es,ep,e,hd',_⟩:=G.T.g;rw[z,e]at b3;cases b3;rw[hd']at b6;cases b6
  ·rw[z,hP]at b3;cases b3;cases b4
 exact MZ KX G.T.g G.T.b G.T.builtins G.T.nolimit hg cv bv (Nat.le_trans a0 hn2) hr hP hKP hC hB hD hKD hb5 hdl gq hF hb (λH hH hR hS=>gF w H a ns a0 hH hR hS) λH e s'=>hCX w H aH e s'
section
theorem Ma:dc X (compareOp .In) (λx y H Q=>∃(c:Nat) (j:Str),x=.str ⟨#[c]⟩/\y=.str j/\Q (.bl (decide (c∈j.cps.toList))) H):=by
 intro aa s σ H x y v u Q I rx ry h;obtain⟨c,j,rfl,rfl,q⟩:=h;obtain⟨t,rfl⟩:=rx;obtain⟨t',rfl⟩:=ry;refine PyProof.Rows.in_str ?_;rw[StrLaws.found_one];exact⟨.bl _,H,I,Zj,q⟩
end
def FK (xs:Array Nat):Prop:=∀i j (hi:i<xs.size) (hj:j<xs.size),i<j->xs[i]<xs[j]
structure BlS (xs:Array Nat) (j k:Nat):Prop where
 le:k<=xs.size
 lo:∀i (h:i<xs.size),i<k->xs[i]<j
 hi:∀i (h:i<xs.size),k<=i->j<=xs[i]
theorem HJ {xs:Array Nat} (hs:FK xs) (j:Nat):∀(fuel lo hi:Nat),lo<=hi->hi<=xs.size->hi - lo<=fuel->(∀i (h:i<xs.size),i<lo->xs[i]<j)->(∀i (h:i<xs.size),hi<=i->j<=xs[i])->BlS xs j (SetTable.below.go xs j fuel lo hi)
 |0,lo,hi,h1,h2,h3,h4,h5=>by
  rw[SetTable.below.go];have e:lo=hi:=by omega
  subst e;exact⟨h2,h4,h5⟩
 |fuel+1,lo,hi,h1,h2,h3,h4,h5=>by
  rw[SetTable.below.go];by_cases hlt:lo<hi
  ·rw[Zp hlt];have hm:(lo+hi) / 2<xs.size:=by omega
   have eg:xs.getD ((lo+hi) / 2) j=xs[(lo+hi) / 2]:=by
    rw[Array.getD_eq_getD_getElem?,Array.getElem?_eq_getElem hm];rfl
   show BlS xs j (if xs.getD ((lo+hi) / 2) j<j then _ else _);rw[eg];by_cases hc:xs[(lo+hi) / 2]<j
   ·rw[Zp hc];refine HJ hs j fuel _ _ qe h2 qe (λi i0 hl=>?_) h5;by_cases e:i=(lo+hi) / 2
    ·subst e;exact hc
    ·exact Nat.lt_trans (hs i ((lo+hi) / 2) i0 hm qe) hc
   ·rw[Zq hc];refine HJ hs j fuel _ _ qe qe qe h4 (λi i0 hl=>?_);by_cases e:i=(lo+hi) / 2
    ·subst e;omega
    ·have:=hs ((lo+hi) / 2) i hm i0 qe;omega
  ·rw[Zq hlt];have e:lo=hi:=by omega
   subst e;exact⟨h2,h4,h5⟩
theorem FL {xs:Array Nat} (hs:FK xs) (j:Nat):BlS xs j (SetTable.below xs j):=by
 unfold SetTable.below;exact HJ hs j xs.size 0 xs.size (Nat.zero_le _) (Zy _) qe (λi _ h=>absurd h (Nat.not_lt_zero _)) (λi h h'=>absurd h qe)
theorem UM {xs:Array Nat} (hs:FK xs) {j:Nat} (h:SetTable.has xs j=false):∀i (h:i<xs.size),xs[i]≠j:=by
 intro i hi e;have B:=FL hs j;unfold SetTable.has at h
 have hk:SetTable.below xs j=i:=by
  rcases Nat.lt_trichotomy (SetTable.below xs j) i with z |z |z
  ·have h1:=B.hi _ qe (Zy (SetTable.below xs j));have h2:=hs (SetTable.below xs j) i qe hi z;omega
  ·exact z
  ·have:=B.lo i hi z;omega
 rw[hk,Array.getElem?_eq_getElem hi,e]at h;simp at h
theorem IH {α:Type} (xs:Array α) (p:Nat) (x:α):(SetTable.insertAt xs p x).toList=xs.toList.take p++x::xs.toList.drop p:=by
 unfold SetTable.insertAt;rw[Array.toList_append,Array.toList_push,Array.toList_extract,Array.toList_extract];simp[List.extract_eq_drop_take];exact take_of_length_le (by simp)
def Qa (l:List Nat):Prop:=l.Pairwise (· < ·)
theorem Ko {xs:Array Nat}:FK xs ↔ Qa xs.toList:=by
 unfold Qa;rw[List.pairwise_iff_getElem];constructor
 ·intro h i j hi hj hij;exact h i j (by simpa using hi) (by simpa using hj) hij
 ·intro h i j hi hj hij;exact h i j (by simpa using hi) (by simpa using hj) hij
theorem Kp {xs:Array Nat} (hs:FK xs) {j:Nat} (hn:∀i (h:i<xs.size),xs[i]≠j):FK (SetTable.insertAt xs (SetTable.below xs j) j):=by
 have B:=FL hs j;rw[Ko]at hs ⊢;rw[IH];generalize SetTable.below xs j=k at B;unfold Qa at hs ⊢;have hd:=hs;rw[←List.take_append_drop k xs.toList,List.pairwise_append]at hd;obtain⟨h1,h2,h3⟩:=hd;rw[List.pairwise_append,pairwise_cons];refine⟨h1,⟨λy hy=>?_,h2⟩,λa ha b hb=>?_⟩
 ·obtain⟨i,hi,rfl⟩:=List.getElem_of_mem hy;rw[List.length_drop]at hi;have hsz:k+i<xs.size:=by have:xs.toList.length=xs.size:=Array.length_toList;omega
  rw[List.getElem_drop];have:=B.hi (k+i) hsz qe;have ne:=hn (k+i) hsz;simp only[Array.getElem_toList];omega
 ·have haj:a<j:=by
   obtain⟨i,hi,rfl⟩:=List.getElem_of_mem ha;rw[ZA]at hi;have hsz:i<xs.size:=by have:xs.toList.length=xs.size:=Array.length_toList;omega
   rw[List.getElem_take];have:=B.lo i hsz qe;simpa using this
  rcases mem_cons.mp hb with rfl |hb
  ·exact haj
  ·exact h3 a ha b hb
theorem Mb (n:Nat):FK (Array.range n):=λi j hi hj h=>by simpa using h
structure FM (t:SetTable) (n:Nat):Prop where
 fits:t.fits n=true
 rise:FK t.place
 nod:t.dummies=#[]
theorem SY {t:SetTable}{j:Nat} (h:t.slot j=.empty) (hs:FK t.place):∀i (h:i<t.place.size),t.place[i]≠j:=by
 refine UM hs ?_;unfold SetTable.slot at h;unfold SetTable.has;cases e:(t.place[SetTable.below t.place j]?==some j)with
 |false=>rfl
 |true =>
  simp only[e,if_true]at h;cases h
theorem Kq (j:Nat):SetTable.has #[] j=false:=by
 unfold SetTable.has;simp
theorem Mc {t:SetTable}{j:Nat} (hd:t.dummies=#[]):t.slot j≠ .dummy:=by
 unfold SetTable.slot;rw[hd,Kq];intro h;simp only[Bool.false_eq_true,if_false]at h;split at h <;> cases h
theorem Ou (t:SetTable) (p:SetTable.Probe):(t.advance p).dummy=p.dummy:=by
 unfold SetTable.advance;split <;> rfl
theorem Kr {t:SetTable}{hashAt:Nat->Int}{h:Int} (hd:t.dummies=#[]):∀(fuel:Nat) (p:SetTable.Probe) {j:Nat}{d:Option Nat},p.dummy=none->SetTable.probe.go t hashAt h fuel p=some (.empty j d)->d=none/\t.slot j=.empty
 |0,p,j,d,hp,e=>by rw[SetTable.probe.go]at e;cases e
 |fuel+1,p,j,d,hp,e=>by
  rw[SetTable.probe.go]at e;cases hs:t.slot p.j with
  |empty =>
   rw[hs]at e;cases e;exact⟨hp,hs⟩
  |dummy=>exact absurd hs (Mc hd)
  |live i =>
   rw[hs]at e;simp only at e;split at e
   ·cases e
   ·exact Kr hd fuel _ (by rw[Ou];exact hp) e
theorem SZ {t:SetTable}{h:Int}{j:Nat}{wd:Bool} (hs:FK t.place) (hd:t.dummies=#[]) (e:t.freeSlot h=some (j,wd)):(∀i (h:i<t.place.size),t.place[i]≠j)/\wd=false:=by
 unfold SetTable.freeSlot at e;cases q:t.probe (λ_=>h+1) h (t.probeStart h)with
 |none=>rw[q]at e;cases e
 |some m =>
  rw[q]at e;cases m with
  |candidate a b c=>cases e
  |empty a b =>
   unfold SetTable.probe at q;obtain⟨rfl,h2⟩:=Kr hd _ _ rfl q;cases e;exact⟨SY h2 hs,Zj⟩
theorem FN (t:SetTable) (n:Nat):FM (t.standIn n) n/\(t.standIn n).led=t.led:=⟨⟨SetTable.standIn_fits t n,Mb n,rfl⟩,rfl⟩
theorem Md {t:SetTable} (n:Nat) (hs:FK t.place) (hd:t.dummies=#[]):FM (t.orStandIn n) n/\(t.orStandIn n).led=t.led:=by
 unfold SetTable.orStandIn;split
 ·rename_i h;exact⟨⟨h,hs,hd⟩,Zj⟩
 ·exact FN t n
theorem Ov {t:SetTable}{es:Array (Int×Value)} (h:Int) (x:Value) (T:FM t es.size):FM (layNew t es h x).2.1 (layNew t es h x).1.size/\(layNew t es h x).2.1.led=t.led:=by
 unfold layNew;cases e:t.freeSlot h with
 |none =>
  have:=FN t (es.size+1);simpa using this
 |some q =>
  obtain⟨j,wd⟩:=q;obtain⟨h1,_⟩:=SZ T.rise T.nod e;have hr:=Kp T.rise h1
  exact Md (t:=(t.put j).1) _ hr (by
   show(if SetTable.has t.dummies j=true then _ else t.dummies)=#[];rw[T.nod,Kq]
   rfl)
theorem Ow (f:Nat->Option Nat) (n:Nat):FK (((List.range n).filterMap λj=>(f j).map λx=>(j,x)).map (·.1)).toArray:=by
 rw[Ko];show List.Pairwise _ _;rw[List.toList_toArray,pairwise_map,List.pairwise_filterMap];refine List.Pairwise.imp ?_ (List.pairwise_lt_range (n:=n));intro a b gZ p hp q hq;obtain⟨x,_,rfl⟩:=Z6.mp hp;obtain⟨y,_,rfl⟩:=Z6.mp hq;exact gZ
theorem Ks {t:SetTable}{es:Array (Int×Value)} (n:Nat) (T:FM t es.size):FM (relayAll t es n).2.1 (relayAll t es n).1.size/\(relayAll t es n).2.1.led=t.led:=by
 unfold relayAll;cases e:t.relaid (es.map (·.1)) n with
 |none=>exact FN t es.size
 |some q =>
  obtain⟨t',order⟩:=q;simp only;split
  ·rename_i h;rw[Bool.and_eq_true]at h;unfold SetTable.relaid SetTable.laid at e;obtain⟨owner,_,e2⟩:=Option.bind_eq_some_iff.mp e;cases e2;exact⟨⟨h.2,Ow (λj=>owner.getD j none) _,Zj⟩,Zj⟩
  ·exact FN t es.size
theorem Qb {t:SetTable}{n:Nat} (b:Bool) (T:FM t n):FM { t with plain:=b } n:=⟨T.fits,T.rise,T.nod⟩
theorem Qc (a b:Nat) (led:Bool):FM (SetTable.fresh a b led) 0:=⟨by rfl,λi j hi _ _=>absurd hi (Nat.not_lt_zero _),rfl⟩
section
variable {prog:Program}{K:Type} [DecidableEq K]
structure jD (knd:KeyKind prog w K) (k:K) (e:Int×Value):Prop where
 is:knd.is k e.2=true
 hs:e.1=knd.hash k
 sc:e.2.scannable=true
def df (knd:KeyKind prog w K) (h:Heap) (a:Xd) (ks:List K) (led:Bool):Prop :=
 ∃(o:Obj) (ar:Array (Int×Value)) (ep:Nat) (t:SetTable) (fm:List K),h.get? a=some o/\o.ExactSet/\o.data=.set ar ep t/\FM t ar.size/\t.led=led/\fm.Perm ks/\Paired (jD knd) fm ar.toList/\ar.size<scanBound
theorem Ox {knd:KeyKind prog w K}{ks:List K}{es:List (Int×Value)} (h:Paired (jD knd) ks es):ElemsOf knd es:=by
 induction h with
 |nil=>intro e he;cases he
 |cons r t ih =>
  intro e he;rcases mem_cons.mp he with rfl |he
  ·exact⟨⟨_,r.is,r.hs⟩,r.sc⟩
  ·exact ih e he
theorem Kt {knd:KeyKind prog w K}{k:K}:∀ {ks:List K}{es:List (Int×Value)},Paired (jD knd) ks es->(es.findIdx? (λe=>knd.is k e.2)).isSome=decide (k∈ks)
 |_,_,.nil=>rfl
 |k'::ks,e::es,.cons r t=>by
  rw[List.findIdx?_cons]
  have hk:knd.is k e.2=decide (k=k'):=by
   cases q:knd.is k e.2 with
   |true=>rw[knd.inj _ _ _ q r.is,ZL rfl]
   |false =>
    symm
    refine ZO λz=>?_;rw[z,r.is]at q;cases q
  rw[hk];by_cases z:k=k'
  ·rw[ZL z,Zp rfl,z];simp
  ·rw[ZO z,Zq qc];have:=Kt (knd:=knd) (k:=k) t;simp only[Option.isSome_map,this,mem_cons,z,false_or]
theorem Ku {knd:KeyKind prog w K}{es i8:List (Int×Value)} (p:i8.Perm es):∀ {ks:List K},Paired (jD knd) ks es->∃fm,fm.Perm ks/\Paired (jD knd) fm i8:=by
 induction p with
 |nil=>intro ks h;exact⟨ks,List.Perm.refl _,h⟩
 |cons x p ih =>
  intro ks h;cases h with
  |cons r t =>
   obtain⟨fm,p',h'⟩:=ih t;exact⟨_::fm,p'.cons _,.cons r h'⟩
 |swap x y l =>
  intro ks h;cases h with
  |cons r t =>
   cases t with
   |cons r2 t=>exact⟨_::_::_,List.Perm.swap ..,.cons r2 (.cons r t)⟩
 |trans p1 p2 ih1 ih2 =>
  intro ks h;obtain⟨k1,q1,h1⟩:=ih2 h;obtain⟨k2,q2,h2⟩:=ih1 h1;exact⟨k2,q2.trans q1,h2⟩
theorem df.put {knd:KeyKind prog w K}{o:Obj}{ar:Array (Int×Value)}{ep:Nat}{t:SetTable} (e:h.get? a=some o) (x:o.ExactSet) (d:o.data=.set ar ep t) {jZ:Array (Int×Value)}{t':SetTable}{ks fm:List K}{led:Bool}
  (T:FM t' jZ.size) (hl:t'.led=led) (p:fm.Perm ks) (pr:Paired (jD knd) fm jZ.toList) (hs:jZ.size<scanBound):df knd (h.update a (Obj.putSet jZ t')) a ks led:=by
 refine⟨_,jZ,ep+1,t',fm,ZU _ e (by rw[putSet_of jZ t' d];rfl),?_,?_,T,hl,p,pr,hs⟩
 ·rw[putSet_of jZ t' d];exact⟨x.1,x.2.1,x.2.2⟩
 ·rw[putSet_of jZ t' d]
theorem Wj {knd:KeyKind prog w K}{ks:List K}{led:Bool}{k:K}{x:Value}{Q:Bool->Xe->Prop} (hx:knd.is k x=true) (hsc:x.scannable=true) (hS:df knd s.heap a ks led) (hn:ks.length+1<scanBound)
  (h1:k∈ks->Q false s) (h2:k∉ ks->∀h',Heap.SameBut a s.heap h'->df knd h' a (k::ks) led->Q true { s with heap:=h' }):wpAny (model prog w) A (setAddHashed a x (knd.hash k)) Q E s:=by
 obtain⟨o,ar,ep,t,fm,e,xs,d,T,hl,p,pr,hs⟩:=hS;have el:=Ox pr
 have a0:ar.size=ks.length:=by
  have:=pr.length;rw[←p.length_eq,this];simp
 unfold setAddHashed;refine ZK ?_;rw[setAddHashedIn.eq_def];refine Zx (wpAny_setState_of e d T.fits ?_);show wpAny _ _ (if byScan x ar=true then _ else _) _ _ _;rw[Zp (byScan_of hsc hs el)];refine Zx ?_;unfold setAddByScan;refine Zx ?_
 wp_step
 refine Zx (wpAny_setScan_of hx e d T.fits el ?_);have hf:=Kt (knd:=knd) (k:=k) pr;cases q:ar.toList.findIdx? (λe=>knd.is k e.2)with
 |some j =>
  rw[q]at hf;have hm:k∈ks:=p.mem_iff.mp (ZV hf.symm);exact Zw (Zw (h1 hm))
 |none =>
  rw[q]at hf;have hm:k∉ ks:=λz=>absurd (p.mem_iff.mpr z) (of_decide_eq_false hf.symm);obtain⟨T1,l1⟩:=Ov (knd.hash k) x T;have p1:=layNew_perm t ar (knd.hash k) x
  have hq:∃ksn,ksn.Perm (k::ks)/\Paired (jD knd) ksn (layNew t ar (knd.hash k) x).1.toList:=by
   have pr2:Paired (jD knd) (fm++[k]) (ar.push (knd.hash k,x)).toList:=by
    rw[Array.toList_push];exact Paired.snoc pr ⟨hx,Zj,hsc⟩
   obtain⟨k2,q2,jU⟩:=Ku p1 pr2;refine⟨k2,q2.trans ?_,jU⟩;exact(List.perm_append_comm).trans (p.cons k)
  have hsz:(layNew t ar (knd.hash k) x).1.size<scanBound:=by
   have:=p1.length_eq;rw[Array.length_toList,Array.length_toList,Array.size_push]at this;omega
  rw[hl]at l1
  dsimp only
  generalize layNew t ar (knd.hash k) x=L at T1 l1 hq hsz ⊢;obtain⟨eJ,t1,wd,gv⟩:=L;obtain⟨kn1,pk1,pr1⟩:=hq;have hsz:eJ.size<scanBound:=hsz
  have fin:∀t2:SetTable,FM t2 eJ.size->t2.led=led->∀g:Bool->Sem Unit,(∀b aH (Q':Unit->Xe->Prop),Q' () aH->wpAny (model prog w) A (g b) Q' E aH) ->
    wpAny (model prog w) A (do storeSet a eJ t2;if (!wd&&t2.tooFull)=true then (do g (relayAll t2 eJ (SetTable.grown eJ.size)).2.2;storeSet a (relayAll t2 eJ (SetTable.grown eJ.size)).1 (relayAll t2 eJ (SetTable.grown eJ.size)).2.1;pure (some true))else pure (some true)) (λb s'=>b=some true/\∃h',Heap.SameBut a s.heap h'/\df knd h' a (k::ks) led/\s'={ s with heap:=h' }) E s:=λt2 T2 iy g hg=>by
   refine Zx (wpAny_storeSet_of e d ?_ (fits_of_scanBound hsz));have S1:=df.put (knd:=knd) e xs d T2 iy pk1 pr1 hsz;have B1:Heap.SameBut a s.heap (s.heap.update a (Obj.putSet eJ t2)):=Heap.SameBut.update _ _ _;split
   ·refine Zx (hg _ _ _ ?_);have e1:(s.heap.update a (Obj.putSet eJ t2)).get? a=some (Obj.putSet eJ t2 o):=ZU _ e (by rw[putSet_of eJ t2 d];rfl);have d1:(Obj.putSet eJ t2 o).data=.set eJ (ep+1) t2:=by rw[putSet_of eJ t2 d]
    have x1:(Obj.putSet eJ t2 o).ExactSet:=by rw[putSet_of eJ t2 d];exact⟨xs.1,xs.2.1,xs.2.2⟩
    obtain⟨T3,l3⟩:=Ks (SetTable.grown eJ.size) T2;have p3:=relayAll_perm t2 eJ (SetTable.grown eJ.size)
    have hs3:(relayAll t2 eJ (SetTable.grown eJ.size)).1.size<scanBound:=by
     have:=p3.length_eq;rw[Array.length_toList,Array.length_toList]at this;omega
    obtain⟨k3,q3,pr3⟩:=Ku p3 pr1;refine Zx (wpAny_storeSet_of e1 d1 ?_ (fits_of_scanBound hs3));exact Zw ⟨Zj,_,B1.trans (Heap.SameBut.update _ _ _),df.put e1 x1 d1 T3 (l3.trans iy) (q3.trans pk1) pr3 hs3,Zj⟩
   ·exact Zw ⟨Zj,_,B1,S1,Zj⟩
  have out:∀ {b:Option Bool}{s':Xe},(b=some true/\∃h',Heap.SameBut a s.heap h'/\df knd h' a (k::ks) led/\s'={ s with heap:=h' })->wpAny (model prog w) A (match b with |some added=>pure added |none=>setAddHashedIn a x (knd.hash k) 99999) Q E s':=λ{b s'} hb=>by
   obtain⟨rfl,h',B,S,rfl⟩:=hb;exact Zw (h2 hm h' B S)
  refine Zv (Q:=λb s'=>b=some true/\∃h',Heap.SameBut a s.heap h'/\df knd h' a (k::ks) led/\s'={ s with heap:=h' }) ?_ (λb s' hb=>out hb) (λ_ _ z=>z)
  have gw:∀(b:Bool) (aH:Xe) (Q':Unit->Xe->Prop),Q' () aH->wpAny (model prog w) A (match b with |true=>rule "set.scan.the-table-gave-way" |false=>pure ()) Q' E aH:=λb aH Q' ft=>by
   cases b
   ·exact Zw ft
   ·show wpAny _ _ (rule _) _ _ _
    wp_step
    exact ft
  refine Zx (gw gv s _ ?_)
  have go:∀byv:Bool,wpAny (model prog w) A (do storeSet a eJ (if byv=true then t1 else { t1 with plain:=false });if (!wd&&(if byv=true then t1 else { t1 with plain:=false }).tooFull)=true then (do (match (relayAll (if byv=true then t1 else { t1 with plain:=false }) eJ (SetTable.grown eJ.size)).2.2 with |true=>rule "set.scan.the-table-gave-way" |false=>pure ());storeSet a (relayAll (if byv=true then t1 else { t1 with plain:=false }) eJ (SetTable.grown eJ.size)).1 (relayAll (if byv=true then t1 else { t1 with plain:=false }) eJ (SetTable.grown eJ.size)).2.1;pure (some true))else pure (some true)) (λb s'=>b=some true/\∃h',Heap.SameBut a s.heap h'/\df knd h' a (k::ks) led/\s'={ s with heap:=h' }) E s:=λbyv=>by
   cases byv
   ·exact fin _ (Qb false T1) l1 _ gw
   ·exact fin _ T1 l1 _ gw
  split
  ·rw[hashByValue_scannable 8 hsc];refine Zx (Zw ?_);exact go _
  ·exact go true
end
noncomputable abbrev FO (w:World):Bool:=!w.params.followText "set-order"
noncomputable def Jg (P:Program) (w:World) (a:Xd) (ks:List Key):HO:=.ext λh=>df (AU P w) h a ks (FO w)
theorem UN {ks:List Key} (hs:df (AU P w) h a ks (FO w)):aS P w H h a (Jg P w a ks):=by
 refine⟨hs,?_,λh1 h2 s1 hk=>?_⟩
 ·obtain⟨o,_,_,_,_,e,_⟩:=hs;exact⟨o,e⟩
 ·obtain⟨o,ar,ep,t,fm,e,r⟩:=s1;exact⟨o,ar,ep,t,fm,hk _ e,r⟩
theorem UO {ks:List Key} (aE:dq P w H h) (e:H a=some (Jg P w a ks)):df (AU P w) h a ks (FO w):=(aE a _ e).1
open Classical in
noncomputable def HK (acc:List Key) (k:Key):List Key:=if k∈acc then acc else k::acc
theorem Qd {k:Key}{v:Value} (h:(AU P w).is k v=true):v.scannable=true:=by
 cases v <;> first |rfl | (cases k <;> cases h)
section
theorem Oy {d:Xd} (e:h.get? d=some { cls:=.type "set", data:=.set #[] 0 (SetTable.fresh 0 0 (FO w)) }):df (AU P w) h d [] (FO w) :=
 ⟨_,#[],0,_,[],e,⟨rfl,rfl,rfl⟩,rfl,Qc _ _ _,rfl,List.Perm.refl _,.nil,qc⟩
end
theorem aD:Slot "set_iterator" "__next__" "set_iterator.__next__" :=
 .of (owner := "set_iterator") (n := "__next__") (by rw[typeLookup_type,builtinLookup_eq_fast];kernel_rfl) qb qb qb
  (by first |exact .inl qb |exact .inr qb) (by rw[isSubtype_type];kernel_rfl)
theorem Bb:entryFor table "set_iterator.__next__" = some Builtin.«set_iterator.__next__»:=entryFor_of_tree qd
theorem Bi (a:Value):argsOk "set_iterator.__next__" ⟨[a],[]⟩:=by unfold argsOk;kernel_rfl
theorem HL:entryFor table "set.__iter__" = some Builtin.«frozenset.__iter__»:=entryFor_alias (id' := "frozenset.__iter__") qd (by first |rfl |decide +kernel) qb qd
theorem Ei {α:Type}:∀(xs:List α) (i:Nat) (h:i<xs.length),(xs[i]::xs.eraseIdx i).Perm xs
 | [],i,h=>absurd h (Nat.not_lt_zero _)
 |x::r,0,h=>List.Perm.refl _
 |x::r,i+1,h=>(List.Perm.swap ..).trans ((Ei r i (Nat.lt_of_succ_lt_succ h)).cons x)
def gT (h:Heap) (I a:Xd) (first:Value) (i n ep:Nat):Prop:=∃o,h.get? I=some o/\o.cls=.type "set_iterator" /\ o.data=.fields #[first,.int i 0,.ref a,.int n 0,.int ep 0]
theorem gT.typeIs {I a first i n ep} (x:gT s.heap I a first i n ep):s.TypeIs (.ref I) "set_iterator" := let ⟨o,ho,hc,_⟩:=x;⟨o,ho,hc⟩
section
variable {prog:Program}
theorem Jh {src:Source}{n:Nat}{Q:Nat->Xe->Prop} (hn:n≠0) (h:∀i d,i<n->Q i { s with drawn:=d }):wpAny (model prog w) A (choose src n) Q E s:=λΓ p hΓ=>⟨hn,h _ _ (Nat.mod_lt _ (Nat.pos_of_ne_zero hn))⟩
theorem Dg {α:Type}:∀(n:Nat) (xs:List α) (s:Xe) {Q:List α->Xe->Prop},xs.length<=n->(∀ys d,List.Perm ys xs->Q ys { s with drawn:=d })->wpAny (model prog w) A (drawOrder n xs) Q E s
 |0,xs,s,Q,hl,h=>by
  have e:xs=[]:=List.length_eq_zero_iff.mp (Nat.le_zero.mp hl);subst e;unfold drawOrder;exact Zw (h _ s.drawn (List.Perm.refl _))
 |n+1,[],s,Q,hl,h=>by
  unfold drawOrder;exact Zw (h _ s.drawn (List.Perm.refl _))
 |n+1,x::r,s,Q,hl,h=>by
  unfold drawOrder;refine Zx (Jh (by simp) λi d hi=>?_);rw[Z7 hi]
  have a0:((x::r).eraseIdx i).length<=n:=by
   rw[List.length_eraseIdx,Zp hi];simp at hl ⊢;omega
  refine Zx (Dg n _ _ a0 λys d' hp=>Zw (h _ d' ?_));exact(hp.cons _).trans (Ei _ _ hi)
theorem Nh {α:Type} (next:Nat->Nat):∀(fuel k:Nat) (left:List α) (out:Array α),left.length<=fuel->(pickOrder.go next fuel k left out).toList.Perm (out.toList++left)
 |0,k,left,out,h=>by
  have e:left=[]:=List.length_eq_zero_iff.mp (Nat.le_zero.mp h);subst e;unfold pickOrder.go;simp
 |fuel+1,k,[],out,h=>by
  unfold pickOrder.go;simp
 |fuel+1,k,x::r,out,h=>by
  unfold pickOrder.go;have hi:next k % (x::r).length<(x::r).length:=Nat.mod_lt _ (by simp)
  rw[Z7 hi]
  have a0:((x::r).eraseIdx (next k % (x::r).length)).length<=fuel:=by
   rw[List.length_eraseIdx,Zp hi];simp at h ⊢;omega
  refine(Nh next fuel (k+1) _ _ a0).trans ?_;rw[Array.toList_push,List.append_assoc];exact(Ei _ _ hi).append_left _
theorem Iy {α:Type} (next:Nat->Nat) (xs:Array α):(pickOrder next xs).toList.Perm xs.toList:=by
 unfold pickOrder;exact(Nh next xs.size 0 xs.toList #[] (by simp)).trans (by simp)
section
variable {I:Xd}{slot nx i n ep:Nat}{o:Obj}{ar:Array (Int×Value)}{t:SetTable}{x:Value}{Q:Option Value->Xe->Prop}
theorem FP (hit:gT s.heap I a (.int slot 0) i n ep) (ho:s.heap.get? a=some o) (hd:o.data=.set ar ep t) (hf:t.fits ar.size=true) (hn:ar.size=n)
  (hN:∀ {A:Around}{E:VS}{Q:Option (Value×Nat)->Xe->Prop},Q (some (x,nx)) s->wpAny (model prog w) A (setNext a slot i ep) Q E s)
  (hQ:∀h',gT h' I a (.int nx 0) (i+1) n ep->Heap.SameBut I s.heap h'->Q (some x) { s with heap:=h' }):wpAny (model prog w) A (pyNext (.ref I)) Q E s:=by
 obtain⟨oi,ia,hci,fG⟩:=id hit;unfold pyNext
 refine Zx (wpAny_attempt (wpAny_callSpecial?_slot (name:=Str.ofString "__next__") hit.typeIs aD
  (wpAny_call_entry aD hit.typeIs Bb ?_ (Bi _))))
 unfold Builtin.«set_iterator.__next__»;refine Zx (Zw ?_);refine Zx (wpAny_fieldsOf ia fG ?_);show wpAny _ _ (setEntries a >>= _) _ _ _;refine Zx (wpAny_setEntries_of ho hd hf ?_);rw[Zq (by rw[hn];simp)];show wpAny _ _ (setNext a slot i ep >>= _) _ _ _;refine Zx (hN ?_);show wpAny _ _ (setField (.ref I) 0 (rawInt nx) >>= _) _ _ _;refine Zx (wpAny_setField ia fG (by simp) ?_);have cn:=ZU (Obj.mapFields (·.setIfInBounds 0 (rawInt nx))) ia (Obj.isFreed_of_fields (Obj.data_mapFields fG _));have eS:=Obj.data_mapFields fG (·.setIfInBounds 0 (rawInt nx));show wpAny _ _ (setField (.ref I) 1 (rawInt ((i:Int)+1)) >>= _) _ _ _;refine Zx (wpAny_setField cn eS (by simp) ?_);refine Zw ⟨_,Zj,Zw (hQ _ ?_ ((Heap.SameBut.update ..).trans (Heap.SameBut.update ..)))⟩;exact⟨_,ZU _ cn (Obj.isFreed_of_fields (Obj.data_mapFields eS _)),(Obj.cls_mapFields ..).trans ((Obj.cls_mapFields ..).trans hci),by rw[Obj.data_mapFields eS];simp[rawInt]⟩
theorem GQ (hh:A.handled=none) (hit:gT s.heap I a (.int slot 0) i n ep) (ho:s.heap.get? a=some o) (hd:o.data=.set ar ep t) (hf:t.fits ar.size=true) (hn:ar.size=n)
  (hN:∀ {A:Around}{E:VS}{Q:Option (Value×Nat)->Xe->Prop},Q none s->wpAny (model prog w) A (setNext a slot i ep) Q E s)
  (hQ:∀h',Heap.ExtBut I s.heap h'->Q none { s with heap:=h' }):wpAny (model prog w) A (pyNext (.ref I)) Q E s:=by
 obtain⟨oi,ia,hci,fG⟩:=id hit;unfold pyNext
 refine Zx (wpAny_attempt (wpAny_callSpecial?_slot (name:=Str.ofString "__next__") hit.typeIs aD
  (wpAny_call_entry aD hit.typeIs Bb ?_ (Bi _))))
 unfold Builtin.«set_iterator.__next__»;refine Zx (Zw ?_);refine Zx (wpAny_fieldsOf ia fG ?_);show wpAny _ _ (setEntries a >>= _) _ _ _;refine Zx (wpAny_setEntries_of ho hd hf ?_);rw[Zq (by rw[hn];simp)];show wpAny _ _ (setNext a slot i ep >>= _) _ _ _;refine Zx (hN ?_);show wpAny _ _ (setField (.ref I) 2 .none >>= _) _ _ _;refine Zx (wpAny_setField ia fG (by simp) ?_);show wpAny _ _ (newExc (.type "StopIteration") [] >>= _) _ _ _;refine Zx ?_;simp only[newExc,newTuple];refine Zx (wpAny_newObj_type ?_ (by size_fits));refine Zx (m:=firstArgMember _ _) (wpAny_of_eq (a:=Value.none) (by first |rfl | (simp only[firstArgMember];rfl)) ?_);refine wpAny_newObj_type ?_ (by size_fits);simp only[raiseNew];refine Zx (wpAny_handled ?_);rw[show A.in1.handled=none from hh];refine Zx (Zw (wpAny_throw ?_));refine Zx (wpAny_isInstance (T := "StopIteration") (b:=true) ⟨_,ZN _ Zj,Zj⟩ isSubtype_stop ?_);exact Zw (hQ _ (((Heap.SameBut.update ..).extBut.push _).push _))
theorem Ji {T:Xd}{ot:Obj}{tp:Array Value}{m pl:Nat}{hx:Int} (hit:gT s.heap I a (.ref T) i n ep) (ho:s.heap.get? a=some o) (hd:o.data=.set ar ep t) (hf:t.fits ar.size=true) (hn:ar.size=n)
  (hT:s.heap.get? T=some ot) (htd:ot.data=.seq tp m) (hi:tp[i]?=some (.int pl 0)) (he:ar[pl]?=some (hx,x))
  (hQ:∀h',gT h' I a (.ref T) (i+1) n ep->Heap.SameBut I s.heap h'->Q (some x) { s with heap:=h' }):wpAny (model prog w) A (pyNext (.ref I)) Q E s:=by
 obtain⟨oi,ia,hci,fG⟩:=id hit;unfold pyNext
 refine Zx (wpAny_attempt (wpAny_callSpecial?_slot (name:=Str.ofString "__next__") hit.typeIs aD
  (wpAny_call_entry aD hit.typeIs Bb ?_ (Bi _))))
 unfold Builtin.«set_iterator.__next__»;refine Zx (Zw ?_);refine Zx (wpAny_fieldsOf ia fG ?_);show wpAny _ _ (setEntries a >>= _) _ _ _;refine Zx (wpAny_setEntries_of ho hd hf ?_);rw[Zq (by rw[hn];simp)];show wpAny _ _ (seqItems? (.ref T) >>= _) _ _ _;refine Zx ?_;unfold seqItems?;refine Zx (wpAny_load hT ?_);rw[htd];refine Zw ?_
 dsimp only
 rw[Int.toNat_natCast,hi]
 dsimp only
 unfold setNextDrawn;refine Zx (Zx (wpAny_setState_of ho hd hf ?_))
 dsimp only
 rw[Zq (by simp),Int.toNat_natCast,he];refine Zw ?_;show wpAny _ _ (setField (.ref I) 1 (rawInt ((i:Int)+1)) >>= _) _ _ _;refine Zx (wpAny_setField ia fG (by simp) ?_);refine Zw ⟨_,Zj,Zw (hQ _ ?_ (Heap.SameBut.update ..))⟩;exact⟨_,ZU _ ia (Obj.isFreed_of_fields (Obj.data_mapFields fG _)),(Obj.cls_mapFields ..).trans hci,by rw[Obj.data_mapFields fG];simp[rawInt]⟩
theorem Kv {T:Xd}{ot:Obj}{tp:Array Value}{m:Nat} (hh:A.handled=none) (hit:gT s.heap I a (.ref T) i n ep) (ho:s.heap.get? a=some o) (hd:o.data=.set ar ep t) (hf:t.fits ar.size=true) (hn:ar.size=n)
  (hT:s.heap.get? T=some ot) (htd:ot.data=.seq tp m) (hi:tp[i]?=none)
  (hQ:∀h',Heap.ExtBut I s.heap h'->Q none { s with heap:=h' }):wpAny (model prog w) A (pyNext (.ref I)) Q E s:=by
 obtain⟨oi,ia,hci,fG⟩:=id hit;unfold pyNext
 refine Zx (wpAny_attempt (wpAny_callSpecial?_slot (name:=Str.ofString "__next__") hit.typeIs aD
  (wpAny_call_entry aD hit.typeIs Bb ?_ (Bi _))))
 unfold Builtin.«set_iterator.__next__»;refine Zx (Zw ?_);refine Zx (wpAny_fieldsOf ia fG ?_);show wpAny _ _ (setEntries a >>= _) _ _ _;refine Zx (wpAny_setEntries_of ho hd hf ?_);rw[Zq (by rw[hn];simp)];show wpAny _ _ (seqItems? (.ref T) >>= _) _ _ _;refine Zx ?_;unfold seqItems?;refine Zx (wpAny_load hT ?_);rw[htd];refine Zw ?_
 dsimp only
 rw[Int.toNat_natCast,hi]
 dsimp only
 refine Zx (wpAny_setField ia fG (by simp) ?_);have cn:=ZU (Obj.mapFields (·.setIfInBounds 0 (rawInt 0))) ia (Obj.isFreed_of_fields (Obj.data_mapFields fG _));have eS:=Obj.data_mapFields fG (·.setIfInBounds 0 (rawInt 0));refine Zx (wpAny_setField cn eS (by simp) ?_);show wpAny _ _ (newExc (.type "StopIteration") [] >>= _) _ _ _;refine Zx ?_;simp only[newExc,newTuple];refine Zx (wpAny_newObj_type ?_ (by size_fits));refine Zx (m:=firstArgMember _ _) (wpAny_of_eq (a:=Value.none) (by first |rfl | (simp only[firstArgMember];rfl)) ?_);refine wpAny_newObj_type ?_ (by size_fits);simp only[raiseNew];refine Zx (wpAny_handled ?_);rw[show A.in1.handled=none from hh];refine Zx (Zw (wpAny_throw ?_));refine Zx (wpAny_isInstance (T := "StopIteration") (b:=true) ⟨_,ZN _ Zj,Zj⟩ isSubtype_stop ?_);exact Zw (hQ _ ((((Heap.SameBut.update ..).trans (Heap.SameBut.update ..)).extBut.push _).push _))
end
end
theorem Dh:Slot "set_iterator" "__iter__" "set_iterator.__iter__" :=
 .of (owner := "set_iterator") (n := "__iter__") (by rw[typeLookup_type,builtinLookup_eq_fast];kernel_rfl) qb qb qb
  (by first |exact .inl qb |exact .inr qb) (by rw[isSubtype_type];kernel_rfl)
theorem Fq:entryFor table "set_iterator.__iter__" = some Builtin.«dict_keyiterator.__iter__»:=entryFor_alias (id' := "dict_keyiterator.__iter__") qd (by first |rfl |decide +kernel) qb qd
theorem Gc (a:Value):argsOk "set_iterator.__iter__" ⟨[a],[]⟩:=by unfold argsOk;kernel_rfl
theorem gT.at {h':Heap}{I a first i n ep} (x:gT h I a first i n ep) (e:∀o,h.get? I=some o->h'.get? I=some o):gT h' I a first i n ep:=let ⟨o,ho,r⟩:=x;⟨o,e _ ho,r⟩
section
variable {prog:Program}{I T:Xd}{n ep:Nat}{o ot:Obj}{ar:Array (Int×Value)}{t:SetTable}
theorem Me {first:Value}{i:Nat}{Q:VS} (hit:gT s.heap I a first i n ep) (h:Q (.ref I) s):wpAny (model prog w) A (pyIter (.ref I)) Q E s:=by
 refine wpAny_pyIter_slot hit.typeIs Dh (wpAny_call_entry Dh hit.typeIs Fq ?_ (Gc _));show wpAny _ _ (ret (.ref I)) _ _ s;exact Zw ⟨_,Zj, "set_iterator", _,hit.typeIs,aD.lookup,h⟩
theorem Fs {G:Nat->Value->Prop}{vs:Xb} (jx:a≠I) (hTI:T≠I)
  (hIt:∀i (s:Xe) first,i<n->s.heap.get? a=some o->s.heap.get? T=some ot->gT s.heap I a first i n ep->G i first->∀(Q:Option Value->Xe->Prop) (E:VS),(∀first' h' v,vs[i]?=some v->gT h' I a first' (i+1) n ep->G (i+1) first'->Heap.SameBut I s.heap h'->Q (some v) { s with heap:=h' })->wpAny (model prog w) A (pyNext (.ref I)) Q E s)
  (hEn:∀(s:Xe) first,s.heap.get? a=some o->s.heap.get? T=some ot->gT s.heap I a first n n ep->G n first->∀(Q:Option Value->Xe->Prop) (E:VS),(∀h',Heap.ExtBut I s.heap h'->Q none { s with heap:=h' })->wpAny (model prog w) A (pyNext (.ref I)) Q E s) :
  WalksS prog w A I [I,a,T] [I] (λa b=>b=a) n (λi v=>vs[i]?=some v) (λi s=>s.heap.get? a=some o/\s.heap.get? T=some ot/\∃first,gT s.heap I a first i n ep/\G i first) where
 sub:=λb hb=>by simp at hb;simp[hb]
 grefl:=λ_=>rfl
 gtrans:=λ_ _ _ h1 h2=>h2.trans h1
 frame:=λi s h' tk st _ hk=>⟨hk a (by simp) _ st.1,hk T (by simp) _ st.2.1,let ⟨f,x,g⟩:=st.2.2;⟨f,x.at λo e=>hk I (by simp) o e,g⟩⟩
 item:=λi s Q E hi st hQ=>by
  obtain⟨ha,hT,first,hit,g⟩:=st;refine hIt i s first hi ha hT hit g Q E λfirst' h' v hv gf g' sb=>?_
  exact hQ v _ hv ⟨(sb.2 a jx).trans ha,(sb.2 T hTI).trans hT,first',gf,g'⟩ ⟨λb ob hb e=>(sb.2 b (λz=>hb (by simp[z]))).trans e,Zj,Zj,Zj,Zy _⟩
 done:=λs Q E st hQ=>by
  obtain⟨ha,hT,first,hit,g⟩:=st;exact hEn s first ha hT hit g Q E λh' eb=>hQ _ ⟨λb ob hb e=>eb b ob (λz=>hb (by simp[z])) e,Zj,Zj,Zj,Zy _⟩
 self:=λi s Q E st hQ=>let ⟨_,_,f,x,_⟩:=st;Me x hQ
theorem Mf {xs:Array Nat} (hs:FK xs):SetTable.below xs 0=0:=by
 have B:=FL hs 0;rcases Nat.eq_zero_or_pos (SetTable.below xs 0)with h |h
 ·exact h
 ·exact absurd (B.lo 0 (Z2 h B.le) h) (Nat.not_lt_zero _)
theorem Mg {xs:Array Nat} (hs:FK xs) {i:Nat} (hi:i<xs.size):SetTable.below xs (xs[i]+1)=i+1:=by
 have B:=FL hs (xs[i]+1)
 have h1:i<SetTable.below xs (xs[i]+1):=by
  rcases Nat.lt_or_ge i (SetTable.below xs (xs[i]+1))with h |h
  ·exact h
  ·exact absurd (B.hi i hi h) qe
 have h2:SetTable.below xs (xs[i]+1)<=i+1:=by
  rcases Nat.lt_or_ge (i+1) (SetTable.below xs (xs[i]+1))with h |h
  ·have hlt:=Z2 h B.le;have h3:=B.lo (i+1) hlt h;have h4:=hs i (i+1) hi hlt (Nat.lt_succ_self _);omega
  ·exact h
 omega
theorem Iz {slot i:Nat}{Q:Option (Value×Nat)->Xe->Prop} (ho:s.heap.get? a=some o) (hd:o.data=.set ar ep t) (hf:t.fits ar.size=true) (hw:w.params.followText "set-order" = true)
  (h:Q ((pickOrder (w.params.setOrder a ep) ar)[i]?.map λe=>(e.2,slot)) s):wpAny (model prog w) A (setNext a slot i ep) Q E s:=by
 unfold setNext;refine Zx (wpAny_setState_of ho hd hf ?_);unfold setsByText;refine Zx (Zx (wpAny_askSetting (Zw ?_)));show wpAny _ _ (if w.params.followText "set-order" = true then _ else _) _ _ _;rw[Zp hw];show wpAny _ _ (if (ep != ep)=true then _ else _) _ _ _;rw[Zq (by simp)];unfold setWalk;refine Zx (Zx (wpAny_setState_of ho hd hf ?_));unfold setsByText;refine Zx (Zx (wpAny_askSetting (Zw ?_)));show wpAny _ _ (if w.params.followText "set-order" = true then _ else _) _ _ _;rw[Zp hw];refine Zx (wpAny_askSetting (Zw ?_));exact Zw h
theorem I0 {slot i:Nat}{Q:Option (Value×Nat)->Xe->Prop} (ho:s.heap.get? a=some o) (hd:o.data=.set ar ep t) (hf:t.fits ar.size=true) (hw:w.params.followText "set-order" = false) (hl:t.led=true) (hp:(!t.plain&&decide (ar.size>1))=false)
  (h:Q (match ar[SetTable.below t.place slot]?,t.place[SetTable.below t.place slot]? with |some (_,x),some j=>some (x,j+1) |_,_=>none) s):wpAny (model prog w) A (setNext a slot i ep) Q E s:=by
 unfold setNext;refine Zx (wpAny_setState_of ho hd hf ?_);unfold setsByText;refine Zx (Zx (wpAny_askSetting (Zw ?_)));show wpAny _ _ (if w.params.followText "set-order" = true then _ else _) _ _ _;rw[Zq (by rw[hw];decide)];show wpAny _ _ (if (!t.plain&&decide (ar.size>1))=true then _ else _) _ _ _;rw[Zq (by rw[hp];decide)];show wpAny _ _ ((if (!t.led && !ar.isEmpty)=true then unsupported _ else pure ()) >>= _) _ _ _;rw[Zq (by rw[hl];simp)];exact Zx (Zw (Zw h))
end
section
variable {prog:Program}{ep:Nat}{o:Obj}{ar:Array (Int×Value)}{t:SetTable}
theorem Mh {α β:Type} (ar:Array α) (f:α->β) (z:β) {ys:List Nat} (hp:ys.Perm (List.range ar.size)):(ys.map λi=>(ar[i]?.map f).getD z).Perm (ar.toList.map f):=by
 refine(hp.map _).trans (List.Perm.of_eq ?_);refine List.ext_getElem (by simp) λi h1 h2=>?_;simp at h1 h2;simp[h2]
theorem Mi {Q:VS} (hx:o.ExactSet) (ho:s.heap.get? a=some o) (hd:o.data=.set ar ep t) (K:FM t ar.size) (hl:t.led=FO w) (hb:ar.size<scanBound)
  (hQ:∀(h':Heap) (d:Drawn) (I:Xd) (fp:List Xd) (vs:Xb) (St:Nat->Xe->Prop),vs.Perm (ar.toList.map (·.2))->(∀A:Around,A.handled=none->WalksS prog w A I fp [I] (λa b=>b=a) ar.size (λi v=>vs[i]?=some v) St)->St 0 { s with heap:=h',drawn:=d } ->
   (∀b o,s.heap.get? b=some o->h'.get? b=some o)->s.heap.objs.size<=I->(∀b∈fp,b=a\/s.heap.objs.size<=b)->Q (.ref I) { s with heap:=h',drawn:=d }) :
  wpAny (model prog w) A (pyIter (.ref a)) Q E s:=by
 have hT:s.TypeIs (.ref a) "set" := ⟨o,ho,hx.1⟩;have hal:a<s.heap.objs.size:=lt_size ho
 have hps:t.place.size=ar.size:=by
  have:=K.fits;unfold SetTable.fits at this;simp at this;exact this.1
 refine wpAny_pyIter_slot hT PySem.F.slot_set_iter (wpAny_call_entry PySem.F.slot_set_iter hT HL ?_ (PySem.F.args_set_iter_1 _));unfold Builtin.«frozenset.__iter__»;refine Zx (m:=Builtin.Frozenset.slot0 _ _) (Zw ?_);unfold Builtin.Frozenset.sizeOf;refine Zx (Zx (wpAny_setEntries_of ho hd K.fits (Zw ?_)));unfold setDrawn;refine Zx (Zx (wpAny_setState_of ho hd K.fits ?_));unfold setsByText;refine Zx (Zx (wpAny_askSetting (Zw (Zw ?_))));show wpAny _ _ (if (!w.params.followText "set-order" && (!t.plain&&decide (ar.size>1)))=true then _ else _) _ _ _;cases hw:w.params.followText "set-order" with
 |true =>
  rw[Zq (by simp)];refine Zx (Zw ?_);refine Zx (wpAny_setEpoch_of ho hd K.fits ?_);refine Zx (wpAny_newObj_type (Zw ⟨_,Zj, "set_iterator", _,⟨_,ZN _ Zj,Zj⟩,aD.lookup,?_⟩));have jx:a≠s.heap.objs.size:=ZC hal
  have hsz:(pickOrder (w.params.setOrder a ep) ar).size=ar.size:=by
   have:=(Iy (w.params.setOrder a ep) ar).length_eq;simpa using this
  refine hQ _ s.drawn _ [s.heap.objs.size,a,a] ((pickOrder (w.params.setOrder a ep) ar).toList.map (·.2)) _ ((Iy _ ar).map _) (λA' hA'=>Fs (I:=s.heap.objs.size) (T:=a) (o:=o) (ot:=o) (n:=ar.size) (ep:=ep) (G:=λi f=>f=.int 0 0) jx jx ?_ ?_) ⟨ZX _ ho,ZX _ ho,_,⟨_,ZN _ Zj,Zj,Zj⟩,Zj⟩ (λb o e=>ZX _ e) (Zy _) ?_
  ·rintro i s1 first hi ha _ hit rfl Q1 E1 h1
   have hg:(pickOrder (w.params.setOrder a ep) ar)[i]?=some (pickOrder (w.params.setOrder a ep) ar)[i]:=Array.getElem?_eq_getElem qe;refine FP (slot:=0) (nx:=0) (x:=(pickOrder (w.params.setOrder a ep) ar)[i].2) hit ha hd K.fits Zj (λ{A2 E2 Q2} h2=>Iz ha hd K.fits hw ?_) (λh' gf sb=>h1 _ h' _ ?_ gf Zj sb)
   ·rw[hg];exact h2
   ·rw[ZE,Array.getElem?_toList,hg];rfl
  ·rintro s1 first ha _ hit rfl Q1 E1 h1
   have hg:(pickOrder (w.params.setOrder a ep) ar)[ar.size]?=none:=Array.getElem?_eq_none qe;refine GQ (slot:=0) hA' hit ha hd K.fits Zj (λ{A2 E2 Q2} h2=>Iz ha hd K.fits hw ?_) h1;rw[hg];exact h2
  ·intro b hb;simp at hb;rcases hb with h |h
   ·exact .inr (Nat.le_of_eq h.symm)
   ·exact .inl h
 |false =>
  have hled:t.led=true:=by rw[hl];show(!w.params.followText "set-order")=true;rw[hw];rfl
  cases hp:(!t.plain&&decide (ar.size>1))with
  |false =>
   rw[Zq (by simp)];refine Zx (Zw ?_);refine Zx (wpAny_setEpoch_of ho hd K.fits ?_);refine Zx (wpAny_newObj_type (Zw ⟨_,Zj, "set_iterator", _,⟨_,ZN _ Zj,Zj⟩,aD.lookup,?_⟩));have jx:a≠s.heap.objs.size:=ZC hal;refine hQ _ s.drawn _ [s.heap.objs.size,a,a] (ar.toList.map (·.2)) _ (List.Perm.refl _) (λA' hA'=>Fs (I:=s.heap.objs.size) (T:=a) (o:=o) (ot:=o) (n:=ar.size) (ep:=ep) (G:=λi f=>∃slot:Nat,f=.int slot 0/\SetTable.below t.place slot=i) jx jx ?_ ?_) ⟨ZX _ ho,ZX _ ho,_,⟨_,ZN _ Zj,Zj,Zj⟩,0,Zj,Mf K.rise⟩ (λb o e=>ZX _ e) (Zy _) ?_
   ·rintro i s1 first hi ha _ hit ⟨slot,rfl,hsl⟩ Q1 E1 h1
    have hg:ar[i]?=some ar[i]:=Array.getElem?_eq_getElem hi;have ju:i<t.place.size:=by omega
    have hg2:t.place[i]?=some t.place[i]:=Array.getElem?_eq_getElem ju;refine FP (slot:=slot) (nx:=t.place[i]+1) (x:=ar[i].2) hit ha hd K.fits Zj (λ{A2 E2 Q2} h2=>I0 ha hd K.fits hw hled hp ?_) (λh' gf sb=>h1 _ h' _ ?_ gf ⟨_,Zj,Mg K.rise ju⟩ sb)
    ·rw[hsl,hg,hg2];exact h2
    ·rw[ZE,Array.getElem?_toList,hg];rfl
   ·rintro s1 first ha _ hit ⟨slot,rfl,hsl⟩ Q1 E1 h1
    refine GQ (slot:=slot) hA' hit ha hd K.fits Zj (λ{A2 E2 Q2} h2=>I0 ha hd K.fits hw hled hp ?_) h1;rw[hsl,Array.getElem?_eq_none (Zy _)];exact h2
   ·intro b hb;simp at hb;rcases hb with h |h
    ·exact .inr (Nat.le_of_eq h.symm)
    ·exact .inl h
  |true =>
   rw[Zp (by simp)];refine Zx (Dg _ _ _ (by simp) λys d bf=>?_);have hyl:ys.length=ar.size:=by rw[bf.length_eq];simp
   have h4:scanBound=4096:=rfl
   have a0:(ys.map λ(i:Nat)=>rawInt i).toArray.size<=sizeLine:=by
    have:sizeLine=2 ^ 24:=rfl;simp;omega
   refine Zx (wpAny_newObj_type ?_ (by size_fits));have ho1:(s.heap.push { cls:=.type "tuple", data:=.seq (ys.map λ(i:Nat)=>rawInt i).toArray }).get? a=some o:=ZX _ ho;refine Zx (wpAny_setEpoch_of ho1 hd K.fits ?_);refine Zx (wpAny_newObj_type (Zw ⟨_,Zj, "set_iterator", _,⟨_,ZN _ Zj,Zj⟩,aD.lookup,?_⟩));have hs1:(s.heap.push { cls:=.type "tuple", data:=.seq (ys.map λ(i:Nat)=>rawInt i).toArray }).objs.size=s.heap.objs.size+1:=Heap.size_push _ _;have jx:a≠(s.heap.push { cls:=.type "tuple", data:=.seq (ys.map λ(i:Nat)=>rawInt i).toArray }).objs.size:=by rw[hs1];exact ZC (Nat.lt_succ_of_lt hal)
   have hTI:s.heap.objs.size≠(s.heap.push { cls:=.type "tuple", data:=.seq (ys.map λ(i:Nat)=>rawInt i).toArray }).objs.size:=by rw[hs1];exact ZC (Nat.lt_succ_self _)
   refine hQ _ d _ [(s.heap.push { cls:=.type "tuple", data:=.seq (ys.map λ(i:Nat)=>rawInt i).toArray }).objs.size,a,s.heap.objs.size] (ys.map λi=>(ar[i]?.map (·.2)).getD .none) _ (Mh ar _ _ bf) (λA' hA'=>Fs (I:=(s.heap.push { cls:=.type "tuple", data:=.seq (ys.map λ(i:Nat)=>rawInt i).toArray }).objs.size) (T:=s.heap.objs.size) (o:=o) (ot:={ cls:=.type "tuple", data:=.seq (ys.map λ(i:Nat)=>rawInt i).toArray }) (n:=ar.size) (ep:=ep) (G:=λi f=>f=.ref s.heap.objs.size) jx hTI ?_ ?_) ⟨ZX _ ho1,ZX _ (ZN _ Zj),_,⟨_,ZN _ Zj,Zj,Zj⟩,Zj⟩ (λb o e=>ZX _ (ZX _ e)) (Nat.le_trans (Nat.le_succ _) (Nat.le_of_eq hs1.symm)) ?_
   ·rintro i s1 first hi ha hT1 hit rfl Q1 E1 h1
    have hyi:ys[i]?=some (ys[i]'qe):=Z7 qe
    have hyr:ys[i]'qe<ar.size:=by
     have:=bf.mem_iff.mp (getElem_mem (l:=ys) (n:=i) qe);simpa using this
    have hg:ar[ys[i]'qe]?=some (ar[ys[i]'qe]):=Array.getElem?_eq_getElem hyr;refine Ji (pl:=ys[i]'qe) (hx:=(ar[ys[i]'qe]).1) (x:=(ar[ys[i]'qe]).2) hit ha hd K.fits Zj hT1 Zj ?_ hg (λh' gf sb=>h1 _ h' _ ?_ gf Zj sb)
    ·rw[List.getElem?_toArray,ZE,hyi];rfl
    ·rw[ZE,hyi];simp[hyr]
   ·rintro s1 first ha hT1 hit rfl Q1 E1 h1
    refine Kv hA' hit ha hd K.fits Zj hT1 Zj ?_ h1;rw[List.getElem?_toArray,List.getElem?_eq_none (by simp[hyl])]
   ·intro b hb;simp at hb;rcases hb with h |h |h
    ·exact .inr (by rw[h];exact Nat.le_succ _)
    ·exact .inl h
    ·exact .inr (Nat.le_of_eq h.symm)
end
theorem Kw {α β:Type}{F:α->β->Prop}{es i8:List β} (p:i8.Perm es):∀ {ks:List α},Paired F ks es->∃fm,fm.Perm ks/\Paired F fm i8:=by
 induction p with
 |nil=>intro ks h;exact⟨ks,List.Perm.refl _,h⟩
 |cons x p ih =>
  intro ks h;cases h with
  |cons r t =>
   obtain⟨fm,p',h'⟩:=ih t;exact⟨_::fm,p'.cons _,.cons r h'⟩
 |swap x y l =>
  intro ks h;cases h with
  |cons r t =>
   cases t with
   |cons r2 t=>exact⟨_::_::_,List.Perm.swap ..,.cons r2 (.cons r t)⟩
 |trans p1 p2 ih1 ih2 =>
  intro ks h;obtain⟨k2,q2,h2⟩:=ih2 h;obtain⟨k1,q1,h1⟩:=ih1 h2;exact⟨k1,q1.trans q2,h1⟩
theorem HM {P:Program}{w:World}:∀ {ks:List Key}{es:List (Int×Value)},Paired (jD (AU P w)) ks es->Paired (λk v=>RelV (kV k) v) ks (es.map (·.2))
 |_,_,.nil=>.nil
 |_,_,.cons r t=>.cons (EE r.is) (HM t)
section
variable {prog:Program}{ep:Nat}{o:Obj}{ar:Array (Int×Value)}{t:SetTable}
theorem Sa:typeLookup (.type "set") "__len__" = pure (some (.builtin "set.__len__")):=by rw[typeLookup_type,builtinLookup_eq_fast];kernel_rfl
theorem Kx {Q:Xb->Xe->Prop} (hh:A.handled=none) (hx:o.ExactSet) (ho:s.heap.get? a=some o) (hd:o.data=.set ar ep t) (K:FM t ar.size) (hl:t.led=FO w) (hb:ar.size<scanBound)
  (hQ:∀s' acc,(∀b o,s.heap.get? b=some o->s'.heap.get? b=some o)->s'.gens=s.gens->s'.os=s.os->acc.Perm (ar.toList.map (·.2))->Q acc s') :
  wpAny (model prog w) A (collect (.ref a)) Q E s:=by
 have hal:a<s.heap.objs.size:=lt_size ho;have aw:a≠s.heap.objs.size:=ZC hal
 have hn:ar.size<=sizeLine:=by
  have h4:scanBound=4096:=rfl;have:sizeLine=2 ^ 24:=rfl;omega
 unfold collect;refine Zx (wpAny_runValue (codeAny_builtin PySem.F.entry_proto_collect ?_));rw[Around.under_plainId PySem.F.plain_proto_collect _];show wpAny _ A.in1 (newList [] >>= λl=>again (.builtin "list.__iadd__" ⟨[l,.ref a],[]⟩)) _ _ s;refine Zx (wpAny_newObj_type ?_);refine Zw ⟨plainId_quiet PySem.F.plain_list_iadd _,codeAny_builtin PySem.F.entry_list_iadd ?_⟩;rw[Around.under_plainId PySem.F.plain_list_iadd _];show wpAny _ A.in1 (Builtin.List.listExtendWith (.ref s.heap.objs.size) (.ref a) (.ref s.heap.objs.size)) _ _ _;unfold Builtin.List.listExtendWith;have ho1:(s.heap.push { cls:=.type "list", data:=.seq ([]:Xb).toArray }).get? a=some o:=ZX _ ho;have hT1:Shared.TypeIs { s with heap:=s.heap.push { cls:=.type "list", data:=.seq ([]:Xb).toArray } } (.ref a) "set" := ⟨o,ho1,hx.1⟩;refine Zx (wpAny_typeOf hT1 ?_);have h1:Builtin.List.listSameRef (.ref s.heap.objs.size) (.ref a)=false:=by simp[Builtin.List.listSameRef,Ne.symm aw]
 have h2:(Value.type "set" == Value.type "list")=false:=by decide
 have h3:(Value.type "set" == Value.type "tuple")=false:=by decide
 simp only[h1,h2,h3,Bool.or_false,Bool.false_eq_true,if_false];refine Zx (Mi hx ho1 hd K hl hb λh' d I fp vs St bf W hst keep hI gX=>?_);have hT2:Shared.TypeIs { s with heap:=h',drawn:=d } (.ref a) "set" := ⟨o,keep _ _ ho1,hx.1⟩;refine Zx (ZK ?_);unfold Builtin.List.listLengthHint;refine Zx (wpAny_specialOf hT2 Sa ?_)
 wp_delta
 refine Zx (wpAny_isInstance (b:=true) hT2 (by rw[isSubtype_type];kernel_rfl) ?_);show wpAny _ A.in1 (typeOf (Value.ref a) >>= _) _ _ _;refine Zx (wpAny_typeOf hT2 ?_);refine Zw ?_;rw[Zp qc];have hHs:(s.heap.push { cls:=.type "list", data:=.seq ([]:Xb).toArray }).objs.size=s.heap.objs.size+1:=Heap.size_push _ _
 have hSf:s.heap.objs.size∉ fp:=λhm=>by
  rcases gX _ hm with z |z
  ·exact aw z.symm
  ·exact absurd z (by show ¬ ((s.heap.push { cls:=.type "list", data:=.seq ([]:Xb).toArray }).objs.size<=s.heap.objs.size);rw[hHs];exact Nat.not_succ_le_self _)
 have hS:h'.get? s.heap.objs.size=some { cls:=.type "list", data:=.seq ([]:Xb).toArray }:=keep _ _ (ZN _ rfl);refine Zx (wpAny_rule ?_);refine Zx ?_;show wpAny _ A.in1 (updateSeq s.heap.objs.size (·.push .none) >>= λ_=>updateSeq s.heap.objs.size (·.pop)) _ _ _;refine Zx (wpAny_updateSeq hS Zj ?_);have hS₂:=ZU (Obj.mapSeq (·.push Value.none)) hS rfl;refine wpAny_updateSeq (hz:=by seq_fits) hS₂ Zj ?_;have hS₃:=ZU (Obj.mapSeq (·.pop)) hS₂ rfl
 have gy:∀b o,b≠s.heap.objs.size->h'.get? b=some o->((h'.update s.heap.objs.size (Obj.mapSeq (·.push Value.none))).update s.heap.objs.size (Obj.mapSeq (·.pop))).get? b=some o :=
  λb o hb e=>(ZW _ _ (Ne.symm hb)).trans ((ZW _ _ (Ne.symm hb)).trans e)
 refine Zw ⟨plainId_quiet PySem.F.plain_extend_loop _,codeAny_extend_loopS (W A.in1 hh) hn _ hSf _ ar.size 0 _ _ _ Zj (Nat.zero_le _) ((W A.in1 hh).frame 0 { s with heap:=h',drawn:=d } _ s.toks hst (Zy _) λb hb o e=>gy b o (λh=>hSf (h ▸ hb)) e) hS₃ (ItemsOf.nil _) λs' acc' c' hm hS' bo=>?_⟩;show wpAny _ A (load s.heap.objs.size >>= _) _ _ s';refine Zx (wpAny_load hS' ?_);refine Zw (hQ s' acc'.toList (λb ob e=>hm.heap b ob (λhb=>?_) (gy _ _ (ZC (lt_size e)) (keep _ _ (ZX _ e)))) hm.gens hm.os ?_)
 ·have hlt:=lt_size e;rcases mem_cons.mp hb with h |h
  ·exact absurd hlt (h ▸ ZF _)
  ·rw[ZG.mp h]at hlt;have hI':s.heap.objs.size+1<=I:=by rw[←hHs];exact hI
   exact absurd (Z2 hlt (Nat.le_of_succ_le hI')) (ZF _)
 ·have e:acc'.toList=vs:=by
   refine List.ext_getElem? λi=>?_;rw[Array.getElem?_toList];cases q:acc'[i]? with
   |none =>
    have hv:vs.length=ar.size:=by rw[bf.length_eq];simp
    rw[Array.getElem?_eq_none_iff,bo.1]at q;rw[List.getElem?_eq_none qe]
   |some v=>exact(bo.2 i v q).symm
  rw[e];exact bf
end
section
theorem Inv.went {s':Xe} (I:Inv X aa σ H s) (k:∀b u,s.heap.get? b=some u->s'.heap.get? b=some u) (hg:s'.gens=s.gens) (ho:s'.os=s.os):Inv X aa σ H s':=by
 have I1:=I.kept (t':=s'.toks) k;exact⟨I1.ok,ho.trans I.os,hg ▸ I.bare,I1.base,I1.loc,I1.cell,I1.free,I1.cG,I1.pin,I1.aE,I1.len⟩
end
theorem Ni {h':Heap}{ks:List Key}{led:Bool} (e:∀o,h.get? a=some o->h'.get? a=some o) (x:df (AU P w) h a ks led):df (AU P w) h' a ks led :=
 let ⟨o,ar,ep,t,fm,q,r⟩:=x;⟨o,ar,ep,t,fm,e _ q,r⟩
theorem Sb (acc:List Key) (k:Key):acc.length<=(HK acc k).length:=by
 unfold HK;split
 ·exact Zy _
 ·exact Nat.le_succ _
theorem Jj (elt target iter:Expr) (ifs:List Expr) (scope:Scope) (pos:Pos) (it:Value) (D:Xd) (env:Env) :
  compTurn (.SetComp elt [⟨target,iter,ifs,0⟩] scope pos) 0 it (.ref D) env=(do
   standAt iter.pos
   match ←pyNext it with
   |none=>pure (.done .next)
   |some v =>
    letOwnedTupleGo target it v
    assign target env v
    let mut ok:=true
    for c in ifs do
     if ok then ok ←isTrue c env (eval c env)
    if ok then
     (do
      let v ←eval elt env
      standAt elt.pos
      let _ ←call (.builtin "set.add") [.ref D,v])
    again (.compLoop (.SetComp elt [⟨target,iter,ifs,0⟩] scope pos) 0 it (.ref D) env)):=by rfl
section
variable {prog:Program}{R:Result->Xe->Prop}
theorem Dl {elt target iter ifs rest scope pos it acc env}
    (h0:codeAny (model prog w) A (.compLoop (.SetComp elt (⟨target,iter,ifs,0⟩::rest) scope pos) 0 it acc env) R s)
    (h:wpAny (model prog w) A (pyIter it) (λit' s'=>codeAny (model prog w) A (.compLoop (.SetComp elt (⟨target,iter,ifs,0⟩::rest) scope pos) 0 it' acc env) R s')
      (notedBy (model prog w) A env λx s'=>R (.error x) s') s) :
    codeAny (model prog w) A (.compStart (.SetComp elt (⟨target,iter,ifs,0⟩::rest) scope pos) 0 it acc env) R s:=by
  refine codeAny_of_tree ?_;show wpAny _ A ((compStart (.SetComp elt (⟨target,iter,ifs,0⟩::rest) scope pos) 0 it acc env).onRaise (λx=>do noteFrame x env;standAt theWindowsPlace)) _ _ s;refine wpAny_notedAt ?_;unfold compStart;show wpAny _ A (ask >>= _) _ _ s;refine Zx (wpAny_askSetting (wpAny_ite ?_));split
  · first
      |exact Zx (Zw (Zw (And.intro rfl h0)))
      |exact Zw (And.intro rfl h0)
  · first
      |exact Zx (wpAny_rule (Zx (ZJ (Zx (Zv h (λit' s' h'=>Zw (And.intro rfl h')) λ_ _ x=>x)))))
      | (refine Zx (wpAny_rule ?_);show wpAny _ _ (standAt iter.pos >>= _) _ _ s;exact Zx (ZJ (Zx (Zv h (λit' s' h'=>Zw (And.intro rfl h')) λ_ _ x=>x))))
theorem Ky {ks:List Key}{k:Key}{x:Value}{led:Bool}{Q:VS} (hx:(AU prog w).is k x=true) (hS:df (AU prog w) s.heap a ks led) (hn:ks.length+1<scanBound)
  (h1:k∈ks->Q .none { s with toks:=s.toks+1 }) (h2:k∉ ks->∀h',Heap.SameBut a s.heap h'->df (AU prog w) h' a (k::ks) led->Q .none { s with heap:=h',toks:=s.toks+1 }) :
  wpAny (model prog w) A (call (.builtin "set.add") [.ref a,x]) Q E s:=by
 have hT:s.TypeIs (.ref a) "set" := by
  obtain⟨o,ar,ep,t,fm,e,ex,_⟩:=id hS;exact⟨o,e,ex.1⟩
 refine wpAny_call_entry PySem.F.slot_set_add hT PySem.F.entry_set_add ?_ (PySem.F.args_set_add_2 _ _);unfold Builtin.«set.add» Builtin.Frozenset.oneOther;simp only[List.isEmpty_nil,bind_assoc];unfold Builtin.Frozenset.addrOf setAdd;refine Zx (Zw ?_)
 try dsimp only
 refine Zx (Zw ?_)
 try dsimp only
 refine Zx ?_;refine ZK (Zx ((AU prog w).pyHash hx ?_));refine Wj hx (Qd hx) hS hn (λhm=>?_) (λhm h' sb SX=>?_)
 ·exact Zw ⟨_,Zj,h1 hm⟩
 ·exact Zw ⟨_,Zj,h2 hm h' sb SX⟩
end
def Mj (wi:TI) (g:TG) (tt:TT) (te:TE) (ix:List (Option Nat)) (R:List Key->Hp->Prop):St->Hp->Prop:=λσ H=>wi σ H λJ H1=>∃W:Nat->Nat->List Key->Hp->Prop,(∃m,W 0 m [] H1)/\∀i m ys H,W i m ys H ->
 (J.stop i H/\ys.length<=1000/\R ys H) \/
 (J.go i H/\∃N:List Key->Hp->Prop,(∀bZ H',N bZ H'->bZ.length<=1000/\∃m',m'<m/\W (i+1) m' bZ H') /\
  ∀x H',J.gE i H x H'->g x (Bd ix σ) H' λbM H2=>tt bM H2 λb H3=>if b=true then te bM H3 λy H4=>∃k,y=kV k/\N (HK ys k) H4 else N ys H3)
section
variable {N':Xa}{ix:List (Option Nat)}{scope:Scope}{tg iter elt:Expr}{ifs:List Expr}{wi:TI}{g:TG}{tt:TT}{pos':Pos}
theorem Ml {RD:Cx->Prop}{use:Option (Value->Sem Unit)}{Qv:VS} (hf:aO X.env.scope scope X.N N' ix) (hc:∀cl s H C fp aa,RD (AX X N' scope cl s H C fp (X.pn++aa))) (hi:PIg RD X tg iter wi)
  (hg:∀cl s H C fp pn,jb (AX X N' scope cl s H C fp pn) tg ix g) (ht:∀cl s H C fp pn,gU (AX X N' scope cl s H C fp pn) ifs tt) (he:∀cl s H C fp pn,PE (AX X N' scope cl s H C fp pn) elt te)
  (hs:∀x,foldedSetIterable iter X.env x=pure x) {aa:LO}{s:Xe}{σ:St}{H:Hp}{R:List Key->Hp->Prop} (I:Inv X aa σ H s) (h:Mj wi g tt te ix R σ H)
  (ce:∀s' ys H' D C m,Inv X aa σ (upd H' D (Jg X.prog X.w D ys)) s'->R ys H'->H' D=none->s'.heap.Ns C m->X.aW.heap.objs.size<=C->C≠X.env.locals->(∀x c,X.env.cells.lookup x=some c->c≠C)->(∀p∈X.pn++aa,p.1≠C) ->
   upd H' D (Jg X.prog X.w D ys) C=none->compPost (model X.prog X.w) X.A X.xe use Qv (.ref D) C (.ok .next) s') :
  wpAny (model X.prog X.w) X.A (comprehension (.SetComp elt [⟨tg,iter,ifs,0⟩] scope pos) scope X.env pos' (newSet (.type "set")) false (eval iter X.env) use) Qv X.xe s:=by
 obtain⟨cl,cf,c1,c2⟩:=JZ (env:=X.env) (scope:=scope) λy hy hyf=>by
  have:=hf.free y hy hyf;exact I.ok.has y.1 this
 refine wpAny_comprehension_free (use:=use) Zj hs cf hf.kind hf.loc (aF (hi aa s σ H _ I h) λv s1 h1=>aF h1 λjN s2 h2=>?_);obtain⟨it,fp,tn,J,H2,e,I2,T,ip,f2,W,⟨m0,w0⟩,turn⟩:=h2;subst e
 have hlt:∀b∈fp,b<s2.heap.objs.size:=λb hb=>by
  obtain⟨o,e,_⟩:=T.obj _ _ ip b hb;exact lt_size e
 unfold newSet setsByText;refine Zx (Zx (wpAny_askSetting (Zw ?_)));show wpAny _ _ (newObj (.type "set") (.set #[] 0 (SetTable.fresh 0 0 (FO X.w)))) _ _ _;refine wpAny_newObj_type (wpAny_newFunctionEnv hf.nocell (by intro y hy;simp at hy) (λdG cZ cH=>?_) hf.kind)
 dsimp only at cZ cH ⊢
 generalize iT:s2.heap.push { cls:=.type "set", data:=.set #[] 0 (SetTable.fresh 0 0 (FO X.w)) }=HP at cZ cH ⊢;have hC:HP.objs.size=s2.heap.objs.size+1:=by rw[←iT,Heap.size_push]
 have gJ:s2.heap.objs.size≠HP.objs.size:=by rw[hC];exact ZC (Nat.lt_succ_self _)
 have du:s2.heap.objs.size<=HP.objs.size:=by rw[hC];exact Nat.le_succ _
 have hCne:∀b,b<s2.heap.objs.size->b≠HP.objs.size:=λb hb=>by rw[hC];exact ZC (Nat.lt_succ_of_lt hb)
 have old:∀b o,s2.heap.get? b=some o->dG.get? b=some o:=λb o e=>cH.extBut b o (hCne b (lt_size e)) (ZX _ (iT ▸ ZX _ e));have bo:dG.get? s2.heap.objs.size=some { cls:=.type "set", data:=.set #[] 0 (SetTable.fresh 0 0 (FO X.w)) }:=cH.extBut _ _ gJ (ZX _ (iT ▸ ZN _ rfl));generalize hCC:HP.objs.size=C at *;generalize d6:s2.heap.objs.size=D at *;have IX:=Eb (N':=N') (fp:=fp) I2 hf c1 c2 (by rw[d6];exact du) f2 (by rw[d6];exact hlt) (tk:=s2.toks+([]:List (Str×Value)).length) old cZ;have hDn:H2 D=none:=I2.aE.fresh (by rw[d6];exact Zy _)
 have gH:D∉ di X.stack:=λz=>by
  rcases mem_cons.mp (I2.dz D z)with q |q
  ·have:=I2.lt;rw[←q,d6]at this;exact ZF _ this
  ·exact I2.nofs (by rw[d6];exact Zy _) q
 have c9:∀x c,X.env.cells.lookup x=some c->c<D:=λx c e=>by
  obtain⟨v,z⟩:=I2.cell x c e;rw[←d6];exact z.lt
 have d5:∀p∈X.pn++aa,p.1<D:=λp hp=>by rw[←d6];exact lt_size (I2.pin p hp).1
 have jI:X.aW.heap.objs.size<=D:=by rw[←d6];exact I2.sz
 have eY:X.env.locals<D:=by rw[←d6];exact I2.lt
 let X':Cx:=AX X N' scope cl s2 H2 C fp (X.pn++aa)
 have eE:∀ {H':Hp}{ob:Obj},(∀b∈fp,H' b=none)->∀b∈fp,EL X' [(D,ob)] H' b:=λ{H' ob} hn b hb=>by
  refine⟨hn b hb,ZC (Z2 (hlt b hb) du),λz=>?_,.inl hb,λx c e=>(f2 b hb).2.2.2.2.1 x c (c1 x c e),λp hp=>?_⟩
  ·exact IX.ok.fh b hb z
  ·rcases mem_append.mp hp with z |z
   ·exact(f2 b hb).2.2.2.2.2 p z
   ·have e:p=(D,ob):=by simpa using z
    subst e;exact Nat.ne_of_gt (hlt b hb)
 have pinD:∀ {aJ:St}{H':Hp}{s':Xe}{ob:Obj},Inv X' [] aJ H' s'->s'.heap.get? D=some ob->H' D=none->(∀v,ob.data≠ .cell v)->Inv X' [(D,ob)] aJ H' s':=λ{aJ H' s' ob} Ia e n d =>
  Ia.bY λp hp=>by
   have q:p=(D,ob):=by simpa using hp
   subst q;exact⟨e,n,gJ,gH,d⟩
 have loop:∀s3:Xe,s3={ s2 with heap:=dG,toks:=s2.toks+([]:List (Str×Value)).length } ->
   codeAny (model X.prog X.w) X.A (.compLoop (.SetComp elt [⟨tg,iter,ifs,0⟩] scope pos) 0 (.ref it) (.ref D) (compEnvC scope cl C X.env)) (compPost (model X.prog X.w) X.A X.xe use Qv (.ref D) C) s3:=by
  rintro s3 rfl
  refine codeAny_loop Zj (λn s'=>∃i ys ob H',Inv X' [(D,ob)] (Bd ix σ) H' s'/\tn i s'.heap/\(∀b∈fp,H' b=none)/\W i n ys H'/\df (AU X.prog X.w) s'.heap D ys (FO X.w))
   (λn s4 hI=>?_) m0 ⟨0,[],_,H2,pinD IX bo hDn (λv z=>by cases z),T.keep _ _ _ ip (λb _ o e=>old b o e),λb hb=>(f2 b hb).1,w0,Oy bo⟩
  obtain⟨i,ys,ob,H4,I4,jG,jV,w4,dd4⟩:=hI;show wpAny _ X.A ((compTurn (.SetComp elt [⟨tg,iter,ifs,0⟩] scope pos) 0 (.ref it) (.ref D) (compEnvC scope cl C X.env)).onRaise (λx=>do noteFrame x (compEnvC scope cl C X.env);theTreesLotGoes x)) _ _ s4;refine wpAny_noted ?_;rw[Jj];refine B9 ?_;rcases turn i n ys H4 w4 with⟨stop,hz,r⟩ |⟨go,N,hN,step⟩
  ·refine Zx (ZJ (Zx (aF (T.done X' Zj Zj Zj (hc _ _ _ _ _ _) i _ s4 _ H4 _ I4 (eE jV) jG stop) λr' s5 ⟨hr,I5⟩=>?_)));subst hr;have pD:=I5.pin (D,_) (ZT _ ZI);have Ib:Inv X aa σ H4 s5:=Fo I2 f2 I5;have pD4:=I4.pin (D,_) (ZT _ ZI);have dd5:=Ni (h':=s5.heap) (λo e=>by rw[pD4.1]at e;cases e;exact pD.1) dd4;have Ic:Inv X aa σ (upd H4 D (Jg X.prog X.w D ys)) s5:=Ib.track pD.2.1 (Nat.ne_of_gt eY) (.inr jI) (λx c e=>ZC (c9 x c e)) (λp hp=>ZC (d5 p hp)) (UN dd5);obtain⟨m5,n5,_⟩:=I5.loc
   refine Zw (ce s5 ys H4 D C m5 Ic r pD.2.1 n5 (Nat.le_trans jI du) (Nat.ne_of_gt (Z2 eY du)) (λx c e=>ZC (Z2 (c9 x c e) du))
    (λp hp=>ZC (Z2 (d5 p hp) du)) ?_)
   rw[AH (Ne.symm gJ)];exact I5.free
  ·refine Zx (ZJ (Zx (aF (T.item X' Zj Zj Zj (hc _ _ _ _ _ _) i _ s4 _ H4 _ I4 (eE jV) jG go) λr' s5 ⟨u,hr,h5⟩=>?_)));subst hr;refine Zx (aF h5 λ_ s6 ⟨x,H6,I6,r6,y6,iM,fr6⟩=>?_);have I6':=I6.pinned (eE fr6) (T.obj _ _ iM);refine Zx (aF (hg _ _ _ _ _ _ _ s6 _ H6 x u _ I6' r6 (step x H6 y6)) λ_ s7 ⟨eF,H7,I7,k7,q7⟩=>?_);refine Zx (aF (ht _ _ _ _ _ _ _ s7 eF H7 _ I7 q7) λb s8 ⟨H8,I8,q8⟩=>?_)
   have again:∀ {H9:Hp}{s9:Xe}{bZ:List Key}{jl:Obj},Inv X' ([(D,jl)]++Bj fp s6.heap) eF H9 s9->df (AU X.prog X.w) s9.heap D bZ (FO X.w) ->
     (∃m',m'<n/\W (i+1) m' bZ H9)->∃m,m<n/\∃i ys ob H',Inv X' [(D,ob)] (Bd ix σ) H' s9/\tn i s9.heap/\(∀b∈fp,H' b=none)/\W i m ys H'/\df (AU X.prog X.w) s9.heap D ys (FO X.w):=by
    intro H9 s9 bZ jl I9 gB ⟨m',hm,w9⟩;refine⟨m',hm,i+1,bZ,jl,H9,I9.unpinned.weak (I4.len.trans I9.len.symm) k7,T.keep _ _ _ iM λb hb o e=>(I9.pin (b,o) (ZT _ (ZT _ (BV hb e)))).1,λb hb=>?_,w9,gB⟩;obtain⟨o,e,d⟩:=T.obj _ _ iM b hb;exact(I9.pin (b,o) (ZT _ (ZT _ (BV hb e)))).2.1
   have pD4:=I4.pin (D,_) (ZT _ ZI)
   have dAt:∀ {σ9:St}{H9:Hp}{s9:Xe},Inv X' ([(D,ob)]++Bj fp s6.heap) σ9 H9 s9->df (AU X.prog X.w) s9.heap D ys (FO X.w):=λ{σ9 H9 s9} I9=>Ni (λo e=>by
    rw[pD4.1]at e;cases e
    exact(I9.pin (D,_) (ZT _ (ZP _ ZI))).1) dd4
   cases b with
   |false =>
    rw[Zq Bool.false_ne_true]at q8;exact Zw ⟨Zj,again I8 (dAt I8) (hN _ _ q8).2⟩
   |true =>
    rw[Zp rfl]at q8;refine Zx (Zx (aF (he _ _ _ _ _ _ _ s8 eF H8 _ I8 q8) λy s9 ⟨z,H9,I9,r9,kk,ek,q9⟩=>?_));subst ek;refine Zx (ZJ ?_);have hz:(HK ys kk).length<=1000:=(hN _ _ q9).1
    have hb:ys.length+1<scanBound:=by
     have h1:=Sb ys kk;have:(4096:Nat)=scanBound:=rfl;omega
    have pD:=I9.pin (D,_) (ZT _ (ZP _ ZI));refine Zx (Ky (FC r9) (dAt I9) hb (λhm=>?_) (λhm h2 sb2 jW=>?_))
    ·have ea:HK ys kk=ys:=by unfold HK;rw[Zp hm]
     rw[ea]at q9;have I9':=I9.tok (s9.toks+1);exact Zw (Zw ⟨Zj,again I9' (dAt I9') (hN _ _ q9).2⟩)
    ·have ea:HK ys kk=kk::ys:=by unfold HK;rw[Zq hm]
     rw[ea]at q9;obtain⟨ob2,ar2,ep2,t2,ks2,q,ex2,dt2,rest2⟩:=id jW;have Iw:Inv X' (Bj fp s6.heap) eF H9 s9:=I9.bY λp hp=>I9.pin p (ZT _ (ZT _ hp))
     have It:Inv X' (Bj fp s6.heap) eF H9 { s9 with heap:=h2,toks:=s9.toks+1 }:=Iw.turned (it:=D) (λb o hb e=>(sb2.2 b hb).trans e) pD.2.1 gJ
      (.inr (by show s2.heap.objs.size<=D;rw[d6];exact Zy _)) (λx c e=>ZC (c9 x c (c1 x c e))) (λp hp=>by
       rcases mem_append.mp hp with z' |z'
       ·exact ZC (d5 p z')
       ·exact ZC (hlt p.1 (D9 z').1))
     refine Zw (Zw ⟨rfl,again (jl:=ob2) (It.bY λp hp=>?_) jW (hN _ _ q9).2⟩);rcases mem_append.mp hp with z' |z'
     ·have e:p=(D,ob2):=by simpa using z'
      subst e;exact⟨q,pD.2.1,gJ,gH,λv z=>by rw[dt2]at z;cases z⟩
     ·exact It.pin p (ZT _ z')
 exact Dl (loop _ Zj) (T.self _ 0 _ _ _ (T.keep _ _ _ ip λb _ o e=>old b o e) (loop _ Zj))
theorem Qe (hf:aO X.env.scope scope X.N N' ix) (hc:X.calm=true) (hi:PI X tg iter wi)
  (hg:∀cl s H C fp pn,jb (AX X N' scope cl s H C fp pn) tg ix g) (ht:∀cl s H C fp pn,gU (AX X N' scope cl s H C fp pn) ifs tt) (he:∀cl s H C fp pn,PE (AX X N' scope cl s H C fp pn) elt te)
  (hs:∀x,foldedSetIterable iter X.env x=pure x:=by intro _;rfl) :
  PE X (.SetComp elt [⟨tg,iter,ifs,0⟩] scope pos) (λσ H Q=>Mj wi g tt te ix (λys H'=>∀p,H' p=none->Q (.ref p) (upd H' p (Jg X.prog X.w p ys))) σ H):=by
 intro aa s σ H Q I h;rw[arm_eval_SetComp];refine Ml (use:=none) hf (λ_ _ _ _ _ _=>hc) hi.g hg ht he hs I h λs' ys H' D C m I' r hD hn h1 h2 h3 h4 h5=>?_;refine⟨m,hn,λh'' hs''=>⟨.ref D,_,I'.turned (it:=C) (t':=s'.toks) (λb o hb e=>(hs''.2 b hb).trans e) h5 h2 (.inr h1) h3 h4,Zj,r D hD⟩⟩
variable {px:Pos}
theorem Oz (Nc:Xa) (fQ:List (Option Nat)) (hf:GG X.env.scope scope X.N (x::Nc) (none::fQ)=true) (gW:(x::Nc).Nodup) (hx:scope.names.lookup x=some .local) (hc:X.calm=true) (hi:PI X (.Name x px) iter wi)
  (ht:∀cl s H C fp pn,gU (AX X (x::Nc) scope cl s H C fp pn) ifs tt) (he:∀cl s H C fp pn,PE (AX X (x::Nc) scope cl s H C fp pn) elt te)
  (hs:∀x,foldedSetIterable iter X.env x=pure x:=by intro _;rfl) :
  PE X (.SetComp elt [⟨.Name x px,iter,ifs,0⟩] scope pos) (λσ H Q=>Mj wi (Cb 0) tt te (none::fQ) (λys H'=>∀p,H' p=none->Q (.ref p) (upd H' p (Jg X.prog X.w p ys))) σ H) :=
 Qe (aO.of hf) hc hi (λcl s H C fp pn=>FF (AV (i:=0) gW rfl (.inl (Z5 hx)) (.inr (Z5 hx)))) ht he hs
end
theorem HN {ss:Xa}:∀ {us:Xb},Vals (ss.map V.str) us->StrsAre us ss:=by
 induction ss with
 |nil=>intro us r;rw[map_nil]at r;cases r;exact .nil
 |cons x ss ih =>
  intro us r;cases r with
  |cons h t =>
   obtain⟨tk,rfl⟩:=(show ∃t,_=Value.str x t from h);exact .cons x tk (ih t)
theorem Ej:∀ {vs:Xb}{ss:Xa},StrsAre vs ss->Vals (ss.map V.str) vs
 |_,_,.nil=>.nil
 |_,_,.cons x t h=>.cons ⟨t,rfl⟩ (Ej h)
section
theorem Jk (hc:X.calm=true):aZ X (.builtin "sorted") (λxs H Q=>∃(a:Xd) (ms:Xa),xs=[.ref a]/\H a=some (Jg X.prog X.w a (ms.map Sum.inr))/\ms.length<64 /\
  ∀(l:Xd) (ns:Xa),H l=none->ns.Perm ms->sortedS ns=true->Q (.ref l) (upd H l (.lst (ns.map V.str)))):=by
 intro aa s σ H xs us Q I r h;obtain⟨a,ms,rfl,hS,h64,q⟩:=h;obtain⟨u,rfl,ru⟩:=Bt r;cases ru;obtain⟨o,ar,ep,t,fm,ho,hx,hd,K,hl,hp,hpr,hb⟩:=UO I.aE hS;have hA:X.A.handled=none:=I.ok.hd hc;refine Calls.call_function_entry kind_sorted plain_sorted entry_sorted (args_sorted1 _) ?_;unfold Builtin.«sorted»;refine Zx (m:=checkCount "sorted" 1 1 _) (Zw ?_);refine Zx (Kx (A:=X.A.in1) hA hx ho hd K hl hb λs' acc keep hg hos bf=>?_);obtain⟨k2,p2,h2⟩:=Kw bf (HM hpr);have hk2:k2.Perm (ms.map Sum.inr):=p2.trans hp
 obtain⟨m2,e2⟩:∃m2:Xa,k2=m2.map Sum.inr:=by
  refine⟨k2.map λk=>match k with |Sum.inl i => "" |Sum.inr x=>x,?_⟩;rw[map_map];refine(List.map_id k2).symm.trans (List.map_congr_left λk hk=>?_);obtain⟨i,_,e⟩:=Zr.mp (hk2.mem_iff.mp hk);subst e;rfl
 subst e2
 have hm2:m2.Perm ms:=by
  have:=hk2.map (λk:Key=>match k with |Sum.inl i=>("" : Str) |Sum.inr x=>x);simpa[map_map,Function.comp_def]using this
 have bp:StrsAre acc m2:=by
  refine HN (show Vals (m2.map V.str) acc from ?_)
  have:∀ {ms:Xa}{vs:Xb},Paired (λk v=>RelV (kV k) v) (ms.map Sum.inr) vs->Vals (ms.map V.str) vs:=by
   intro ms;induction ms with
   |nil=>intro vs h;cases h;exact .nil
   |cons x r ih=>intro vs h;cases h with |cons r t=>exact .cons r (ih t)
  exact this h2
 have hal:acc.length=ms.length:=by
  rw[←hm2.length_eq,←bp.strs,AJ]
 have hz:acc.length<=sizeLine:=by
  have:sizeLine=2 ^ 24:=rfl;omega
 refine Zx (wpAny_newList ?_ hz);have I1:Inv X aa σ H s':=I.went keep hg hos;have gQ:(s'.heap.push { cls:=.type "list", data:=.seq acc.toArray }).get? s'.heap.objs.size=some (seqObj "list" acc.toArray 0):=ZN _ rfl;refine Zx (ZK (wpAny_call_entry slot_list_sort ⟨_,gQ,Zj⟩ entry_list_sort (list_sort_treeK strKind_oneLt gQ bp.keysOf (λv₁ v₂ rest e=>keyKind_strs (by rw[←e];exact bp)) (by rw[hal];exact h64) λeN hp' jt=>⟨_,Zj,?_⟩) (args_list_sort _)));refine Zw ⟨_,Zj,?_⟩;obtain⟨iN,a1,a2,a3⟩:=sorted_out_str bp hp' jt;have hn:H s'.heap.objs.size=none:=I1.aE.fresh (Zy _);have a0:iN.length=acc.length:=by rw[a2.length_eq,←bp.strs,AJ]
 refine⟨.ref s'.heap.objs.size,_,I1.laid (t':=s'.toks) (o:=.lst (iN.map V.str)) (h':=sortedHeap (s'.heap.push { cls:=.type "list", data:=.seq acc.toArray }) s'.heap.objs.size acc ((arrOf eN).map (·.2))) (λb o e=>?_) (Zy _) ⟨by rw[AJ,a0];exact hz,((arrOf eN).map (·.2)).toList,?_⟩,Zj,q _ iN hn (a2.trans hm2) a3⟩
 ·rw[sortedHeap_old (ZC (lt_size e)) (lt_size (ZX _ e))];exact ZX _ e
 ·obtain⟨c,hcx⟩:=sortedHeap_at (out:=(arrOf eN).map (·.2)) gQ;exact⟨c,Ej a1,by rw[Array.toArray_toList];exact hcx⟩
end
section
theorem II (hc:X.calm=true):aZ X (.builtin "sorted") (λxs H Q=>∃(a:Xd) (kvs:LK) (ms:Xa),xs=[.ref a]/\Rd H a (.dK kvs)/\kvs.map (·.1)=ms.map Sum.inr/\ms.length<64 /\
  ∀(l:Xd) (ns:Xa),H l=none->ns.Perm ms->sortedS ns=true->Q (.ref l) (upd H l (.lst (ns.map V.str)))):=by
 intro aa s σ H xs us Q I r h;obtain⟨a,kvs,ms,rfl,hd,hk,h64,q⟩:=h;obtain⟨u,rfl,ru⟩:=Bt r;cases ru
 have hkl:kvs.length=ms.length:=by
  have:=congrArg List.length hk
  rwa[AJ,AJ]at this
 obtain⟨z,y,vs,rel,dd⟩:=Ds I.aE hd;obtain⟨ep,da⟩:=dd.dictAt;have hl:=rel.length;refine Calls.call_function_entry kind_sorted plain_sorted entry_sorted (args_sorted1 _) ?_;unfold Builtin.«sorted»;refine Zx (m:=checkCount "sorted" 1 1 _) (Zw ?_);refine Zx (W.kdu_collect (A:=X.A.in1) (W.kdl_dict (knd:=AU X.prog X.w) (kvs:=vs) (ep:=ep) y) (I.ok.hd hc) da (by rw[←hl];exact z) λh' tk acc keep hit=>?_)
 have hal:acc.toList.length=ms.length:=by
  have e0:acc.toList.length=acc.size:=by simp
  rw[e0,hit.1,←hl,hkl]
 have hz:acc.toList.length<=sizeLine:=by rw[hal,←hkl];exact z
 refine Zx (wpAny_newList ?_ hz)
 have bp:StrsAre acc.toList ms:=by
  refine HN (DI (by rw[AJ,hal]) λj v w' ev ew=>?_);rw[Array.getElem?_toList]at ew;obtain⟨k,x,ex,hkk⟩:=hit.2 j w' ew;rw[ZE]at ev;cases e2:kvs[j]? with
  |none =>
   exfalso;have h1:kvs.length<=j:=List.getElem?_eq_none_iff.mp e2;have h2:ms[j]?=none:=List.getElem?_eq_none_iff.mpr qe;rw[h2]at ev;cases ev
  |some kv =>
   have e3:(ms.map Sum.inr:List Key)[j]?=some kv.1:=by rw[←hk,ZE,e2];rfl
   rw[ZE]at e3;obtain⟨x',hx',ex'⟩:=Z6.mp e3;rw[hx']at ev;simp only[Option.map_some,Option.some.injEq]at ev;obtain⟨v2,dZ,_⟩:=KV.get rel e2;rw[ex]at dZ;simp only[Option.some.injEq,Prod.mk.injEq]at dZ;rw[dZ.1,←ex']at hkk;rw[←ev];exact EE hkk
 have I1:Inv X aa σ H { s with heap:=h',toks:=tk }:=I.kept keep;have gQ:(h'.push { cls:=.type "list", data:=.seq acc.toList.toArray }).get? h'.objs.size=some (seqObj "list" acc.toList.toArray 0):=ZN _ rfl;refine Zx (ZK (wpAny_call_entry slot_list_sort ⟨_,gQ,Zj⟩ entry_list_sort (list_sort_treeK strKind_oneLt gQ bp.keysOf (λv₁ v₂ rest e=>keyKind_strs (by rw[←e];exact bp)) (by rw[hal];exact h64) λeN hp' jt=>⟨_,Zj,?_⟩) (args_list_sort _)));refine Zw ⟨_,Zj,?_⟩;obtain⟨iN,a1,a2,a3⟩:=sorted_out_str bp hp' jt;have hn:H h'.objs.size=none:=I1.aE.fresh (Zy _);have a0:iN.length=acc.toList.length:=by rw[a2.length_eq,←bp.strs,AJ]
 refine⟨.ref h'.objs.size,_,I1.laid (t':=tk) (o:=.lst (iN.map V.str)) (h':=sortedHeap (h'.push { cls:=.type "list", data:=.seq acc.toList.toArray }) h'.objs.size acc.toList ((arrOf eN).map (·.2))) (λb o e=>?_) (Zy _) ⟨by rw[AJ,a0];exact hz,((arrOf eN).map (·.2)).toList,?_⟩,Zj,q _ iN hn a2 a3⟩
 ·rw[sortedHeap_old (ZC (lt_size e)) (lt_size (ZX _ e))];exact ZX _ e
 ·obtain⟨c,hcx⟩:=sortedHeap_at (out:=(arrOf eN).map (·.2)) gQ;exact⟨c,Ej a1,by rw[Array.toArray_toList];exact hcx⟩
end
end L2
end
section
namespace MK
open PySem
theorem DS (a b:Nat):Builtin.bitAnd (a:Int) (b:Int)=((a&&&b:Nat):Int):=by
 rw[PyProof.Rows.bitAnd_pp (Z1 _) (Z1 _)];simp
theorem Dx (a b:Nat):Builtin.bitOr (a:Int) (b:Int)=((a |||b:Nat):Int):=by
 have ha:¬ (0:Int)<=Builtin.bitNot (a:Int):=by unfold Builtin.bitNot;omega
 have hb:¬ (0:Int)<=Builtin.bitNot (b:Int):=by unfold Builtin.bitNot;omega
 unfold Builtin.bitOr;rw[PyProof.Rows.bitAnd_nn ha hb];have e:∀n:Nat,(Builtin.bitNot (Builtin.bitNot (n:Int))).toNat=n:=λn=>by unfold Builtin.bitNot;omega
 rw[e a,e b];unfold Builtin.bitNot;omega
theorem Mm (a b:Nat):Builtin.bitAnd (a:Int) (Builtin.bitNot (b:Int))=((a - (a&&&b):Nat):Int):=by
 rw[PyProof.Rows.bitAnd_not,DS];have:a&&&b<=a:=Nat.and_le_left;omega
noncomputable def A6 (l:List Nat):Nat:=l.foldl (· ||| ·) 0
theorem FQ (k:Nat):∀(l:List Nat) (a:Nat),(l.foldl (· ||| ·) a).testBit k=(a.testBit k ||l.any (·.testBit k))
 | [],a=>by simp
 |x::r,a=>by rw[foldl_cons,FQ k r,Nat.testBit_or,any_cons,Bool.or_assoc]
theorem EG (l:List Nat) (k:Nat):(A6 l).testBit k=l.any (·.testBit k):=by
 unfold A6;rw[FQ];simp
theorem Kz {l:List Nat}{m:Nat} (h:∀n∈l,n<2 ^ m):A6 l<2 ^ m:=by
 have:∀(l:List Nat) (a:Nat),a<2 ^ m->(∀n∈l,n<2 ^ m)->l.foldl (· ||| ·) a<2 ^ m:=by
  intro l;induction l with
  |nil=>intro a ha _;exact ha
  |cons x r ih=>intro a ha hl;exact ih _ (Nat.or_lt_two_pow ha (hl x ZI)) λn hn=>hl n (ZR _ hn)
 exact this l 0 (Nat.two_pow_pos m) h
theorem Ek (l:List Nat) (n:Nat):A6 (l++[n])=A6 l |||n:=by unfold A6;rw[foldl_append];rfl
noncomputable def Bm (n:Nat):Bool:=decide (0<n)&&decide (n&&&(n - 1)=0)
theorem Mn (k:Nat):Bm (2 ^ k)=true:=by
 unfold Bm;have h0:0<2 ^ k:=Nat.two_pow_pos k
 have h1:2 ^ k&&&(2 ^ k - 1)=0:=by
  apply Nat.eq_of_testBit_eq;intro i;rw[Nat.testBit_and,Nat.testBit_two_pow,Nat.testBit_two_pow_sub_one,Nat.zero_testBit];by_cases e:k=i
  ·subst e;simp
  ·simp[e]
 simp[h0,h1]
theorem C4 {n:Nat} (h:Bm n=true):∃k,n=2 ^ k:=by
 unfold Bm at h;simp only[Bool.and_eq_true,decide_eq_true_eq]at h;obtain⟨h0,h1⟩:=h;refine⟨n.log2,?_⟩;have hlo:2 ^ n.log2<=n:=Nat.log2_self_le qe;have hhi:n<2 ^ (n.log2+1):=Nat.lt_log2_self;rcases Nat.eq_or_lt_of_le hlo with e |hlt
 ·exact e.symm
 ·exfalso
  have b1:n.testBit n.log2=true:=by
   rw[Nat.testBit_eq_decide_div_mod_eq];simp
   have:n / 2 ^ n.log2=1:=by
    apply Nat.div_eq_of_lt_le <;> (try rw[Nat.pow_succ]at hhi) <;> omega
   rw[this]
  have b2:(n - 1).testBit n.log2=true:=by
   rw[Nat.testBit_eq_decide_div_mod_eq];simp
   have:(n - 1) / 2 ^ n.log2=1:=by
    apply Nat.div_eq_of_lt_le <;> (try rw[Nat.pow_succ]at hhi) <;> omega
   rw[this]
  have:(n&&&(n - 1)).testBit n.log2=true:=by rw[Nat.testBit_and,b1,b2];rfl
  rw[h1,Nat.zero_testBit]at this;cases this
noncomputable def DU (n:Nat):List Nat:=(List.range 42).filter λk=>n.testBit k
theorem HQ {α:Type} [DecidableEq α] {p:α->Bool}:∀ {l:List α}{a:α},l.Nodup->a∈l->(∀b∈l,p b=true ↔ b=a)->l.filter p=[a]
 | [],_,_,h,_=>by cases h
 |b::r,a,hn,ha,hp=>by
  obtain⟨n1,n2⟩:=Zs.mp hn;by_cases e:b=a
  ·subst e;have hb:p b=true:=(hp b ZI).mpr rfl;rw[filter_cons,Zp hb];congr 1;apply List.filter_eq_nil_iff.mpr;intro c hc hpc;have:=(hp c (ZR _ hc)).mp hpc;exact n1 (this ▸ hc)
  ·have hb:¬ p b=true:=λz=>e ((hp b ZI).mp z);rw[filter_cons,Zq hb];rcases mem_cons.mp ha with z |z
   ·exact absurd z.symm e
   ·exact HQ n2 z λc hc=>hp c (ZR _ hc)
theorem IJ {n:Nat} (hn:n<2 ^ 42):decide ((DU n).length=1)=Bm n:=by
 rw[Bool.eq_iff_iff,decide_eq_true_eq];constructor
 ·intro h;obtain⟨k,hk⟩:∃k,DU n=[k]:=List.length_eq_one_iff.mp h
  have mem:∀i,i<42->(n.testBit i=true ↔ i=k):=λi hi=>by
   have:i∈DU n ↔ i=k:=by rw[hk];simp
   unfold DU at this;rw[mem_filter]at this;constructor
   ·intro hb;exact this.mp ⟨mem_range.mpr hi,hb⟩
   ·intro e;exact(this.mpr e).2
  have hk42:k<42:=by
   have:k∈DU n:=by rw[hk];simp
   unfold DU at this;exact mem_range.mp (mem_filter.mp this).1
  have e:n=2 ^ k:=by
   apply Nat.eq_of_testBit_eq;intro i;rw[Nat.testBit_two_pow];by_cases hi:i<42
   ·rw[Bool.eq_iff_iff,mem i hi,decide_eq_true_eq];exact eq_comm
   ·have h1:n.testBit i=false:=Nat.testBit_lt_two_pow (Z2 hn (Nat.pow_le_pow_right qc qe));rw[h1];symm;rw[decide_eq_false_iff_not];omega
  rw[e];exact Mn k
 ·intro h;obtain⟨k,rfl⟩:=C4 h;have hk:k<42:=(Nat.pow_lt_pow_iff_right qc).mp hn
  have:DU (2 ^ k)=[k]:=by
   unfold DU;refine HQ List.nodup_range (mem_range.mpr hk) λb _=>?_;rw[Nat.testBit_two_pow,decide_eq_true_eq];exact eq_comm
  rw[this];rfl
noncomputable def BZ (m:Nat):Nat:=2 ^ (Builtin.Int.intBits (m:Int))
theorem Dy {m:Nat} (h:0<m):Builtin.Int.intBits (m:Int)=m.log2+1:=by
 unfold Builtin.Int.intBits;have:((m:Int)==0)=false:=by rw[beq_eq_false_iff_ne];omega
 rw[this];simp
theorem K0 {m k:Nat} (h1:m<2 ^ k) (h2:k=0\/2 ^ (k - 1)<=m):2 ^ k=BZ m:=by
 unfold BZ;congr 1;rcases Nat.eq_zero_or_pos m with e |hm
 ·subst e
  have:k=0:=by
   rcases h2 with z |z
   ·exact z
   ·have:=Nat.two_pow_pos (k - 1);omega
  rw[this];rfl
 ·rw[Dy hm];rcases h2 with z |z
  ·subst z;simp at h1;omega
  ·have hk:0<k:=by rcases Nat.eq_zero_or_pos k with e |e
                   ·subst e;simp at h1;omega
                   ·exact e
   have e:m.log2=k - 1:=by
    apply Nat.le_antisymm
    ·have:m.log2<k:=(Nat.log2_lt qe).mpr h1;omega
    ·exact(Nat.le_log2 qe).mpr z
   omega
theorem Qf:∀ {l:List Nat}{a:Nat},(∀n∈l,Bm n=true)->l.Pairwise (· < ·)->(∀n∈l,a&&&n=0)->a+l.sum=l.foldl (· ||| ·) a
 | [],a,_,_,_=>by simp
 |n::r,a,hm,hp,ha=>by
  obtain⟨p1,p2⟩:=pairwise_cons.mp hp;have han:=ha n ZI
  have e:a |||n=a+n:=by
   have h:=PyProof.Rows.bitOr_and (a:Int) (n:Int);rw[Dx,DS,han]at h;omega
  rw[sum_cons,foldl_cons,←Qf (a:=a |||n) (λm hm'=>hm m (ZR _ hm')) p2 (λm hm'=>?_),e]
  ·omega
  ·obtain⟨i,rfl⟩:=C4 (hm n ZI);obtain⟨j,rfl⟩:=C4 (hm m (ZR _ hm'));have hlt:=p1 _ hm';have haj:=ha _ (ZR _ hm');apply Nat.eq_of_testBit_eq;intro t;rw[Nat.testBit_and,Nat.testBit_or,Nat.zero_testBit];have h1:(a&&&2 ^ j).testBit t=false:=by rw[haj];exact Nat.zero_testBit t
   rw[Nat.testBit_and]at h1;rw[Bool.and_or_distrib_right,h1,Nat.testBit_two_pow,Nat.testBit_two_pow];have:i≠j:=λe=>by subst e;omega
   by_cases e1:i=t
   ·have:¬ j=t:=by omega
    simp[this]
   ·simp[e1]
theorem O0 {l:List Nat} (hm:∀n∈l,Bm n=true) (hp:l.Pairwise (· < ·)):l.sum=A6 l:=by
 have:=Qf (a:=0) hm hp (λn _=>by simp);unfold A6;omega
end MK
end
end
variable {P:PySem.Program}{w:PySem.World}{K:FG}{mg:SV}{base:PySem.Heap}{fd:PySem.FuncData}{H:L2.Hp}{H':L2.Hp}{due:Aa}{ac:Aa}{C:PySem.Addr}{VC:PySem.Addr}{EC:PySem.Addr}
section
namespace Mk
open PySem L2 MK
noncomputable def top (i:Nat):Stmt:=PySem.Challenge.pw_markworks_k34_whole_alike.main.body.getD i (.Pass ⟨0,0,0,0⟩)
noncomputable abbrev A7:Stmt:=inClass (top 1) 0
noncomputable abbrev DV:Stmt:=inClass (top 8) 0
noncomputable abbrev FR:Stmt:=top 18
noncomputable abbrev Jl:Stmt:=top 19
noncomputable abbrev HR:Stmt:=top 21
noncomputable abbrev HS:Stmt:=top 22
noncomputable abbrev Ft:Stmt:=top 23
noncomputable abbrev El:Stmt:=top 24
noncomputable abbrev DW:Stmt:=top 25
noncomputable abbrev Em:Stmt:=top 26
noncomputable abbrev Fu:Stmt:=top 27
noncomputable abbrev Dz:Stmt:=top 28
noncomputable abbrev BQ:Stmt:=inClass (top 29) 0
noncomputable abbrev Co:Stmt:=inClass (top 29) 2
noncomputable abbrev En:Stmt:=inClass (top 29) 6
noncomputable abbrev Fv:Stmt:=inClass (top 29) 7
noncomputable abbrev EH:Stmt:=top 32
noncomputable abbrev Fw:Stmt:=top 37
noncomputable abbrev Eo:Stmt:=top 38
noncomputable abbrev Jm:Stmt:=top 39
noncomputable abbrev HU:Stmt:=top 40
noncomputable abbrev DX:Stmt:=inClass (top 41) 0
noncomputable abbrev CB:Stmt:=inClass (top 41) 1
noncomputable abbrev CD:Stmt:=inClass (top 41) 2
noncomputable abbrev Bw:Stmt:=inClass (top 41) 3
noncomputable abbrev Be:Stmt:=inClass (top 41) 4
noncomputable abbrev Bx:Stmt:=inClass (top 41) 5
noncomputable abbrev Cd:Stmt:=inClass (top 41) 6
noncomputable abbrev DY:Stmt:=inClass (top 41) 7
noncomputable abbrev CN:Stmt:=top 42
noncomputable abbrev Ep:Stmt:=top 43
noncomputable abbrev Jn:Stmt:=top 44
noncomputable abbrev Cp:Stmt:=top 45
noncomputable abbrev EI:Stmt:=top 46
noncomputable abbrev C5:Stmt:=top 48
noncomputable abbrev Jo:Stmt:=top 49
noncomputable abbrev HV:Stmt:=top 51
noncomputable abbrev Fx:Stmt:=top 52
noncomputable abbrev FS:Stmt:=top 53
noncomputable abbrev Er:Stmt:=top 54
noncomputable abbrev D0:Stmt:=top 55
noncomputable abbrev Aq:Stmt:=top 56
noncomputable abbrev Es:Stmt:=top 57
noncomputable abbrev Et:Stmt:=top 58
noncomputable abbrev CG:Stmt:=top 59
noncomputable abbrev D1:Stmt:=top 60
noncomputable abbrev FU:Stmt:=top 61
noncomputable abbrev Cq:Stmt:=top 62
noncomputable abbrev FV:Stmt:=top 63
noncomputable abbrev D3:Stmt:=top 64
noncomputable abbrev Fy:Stmt:=top 65
noncomputable abbrev HW:Stmt:=top 66
noncomputable abbrev EM:Stmt:=top 67
structure Fn (P:Program) (w:World) (K:FG) (mg:SV) (base:Heap) (x:Str) (k:Nat) (ps:Xa) (sp:Sp):Prop where
 ex:∃f fd,Af P w K mg base aT k f fd ps sp/\mg x=some (.ref f)/\W.keepIn K (.ref f)=true/\Binds K fd ps []
structure Bl (mg:SV):Prop where
 len:mg "len" = none
 f6:mg "isinstance" = none
 max:mg "max" = none
 min:mg "min" = none
 range:mg "range" = none
 list:mg "list" = none
 tuple:mg "tuple" = none
 sorted:mg "sorted" = none
 sum:mg "sum" = none
 all:mg "all" = none
 enum:mg "enumerate" = none
 int:mg "int" = none
 bool:mg "bool" = none
 str:mg "str" = none
noncomputable def Ay (ns:List Nat):Xc:=ns.map λ(n:Nat)=>V.int (n:Int)
section
inductive spUnionOf (K:FG) (vs:Xc) (H:Hp) (Q:VK) (_E:XK):Prop where
 |mk (a:Xd) (ns:List Nat) (cJ:vs=[.ref a]) (cP:aK K H a (Ay ns)) (cV:Q (.int (A6 ns:Nat)) H)
theorem scUnionOf:AN ["numbers", "bits", "number"] ["numbers"] (defScope HR):=cS
theorem Nj {ns:List Nat}{i:Nat}{x:V} (h:(Ay ns)[i]?=some x):∃n,ns[i]?=some n/\x=V.int (n:Int):=by
 unfold Ay at h;rw[ZE]at h;cases e:ns[i]? with
 |none=>rw[e]at h;cases h
 |some n=>rw[e]at h;exact⟨n,Zj,(Option.some.inj h).symm⟩
theorem Mo {f:Xd} (F:aY K "union_of" "union_of" HR f fd):Af P w K mg base aT 1 f fd ["numbers"] (spUnionOf K):=by
 refine F.m scUnionOf λvs H Q E h=>?_;obtain⟨a,ns,rfl,hS,k⟩:=h;refine⟨Zj,λad A outer s hr=>?_⟩
 refine⟨_,AF (Ag (i:=1) scUnionOf.nd Zj (Or.inl Zj) AD)
  (AF (DP PassesOwn.never rfl (CJ (pv 0)) (AV (i:=2) scUnionOf.nd rfl (Or.inl rfl))
   (AG (Lh (i:=1) scUnionOf.nd rfl (Or.inl rfl) (pv 2) (T4:dc _ _ _))))
  (AG (AO (pv 1)))),?_⟩
 refine⟨_,Zj,a,Zj,⟨_,hS⟩,C9 (K:=K) (a:=a) (xs:=Ay ns) (λi σ H2=>∃v:Option V,σ=[some (.ref a),some (.int (A6 (ns.take i):Nat)),v]/\H2=H) ⟨none,Zj,Zj⟩ (λi σ H2 _ ⟨_,_,e⟩=>e ▸ hS) ?_ ?_⟩
 ·rintro i x σ H2 hi ⟨v,rfl,rfl⟩;obtain⟨n,hn,rfl⟩:=Nj hi;refine⟨_,Zj,_,Zj,_,_,Zj,Zj,?_⟩;refine⟨some (V.int (n:Int)),?_,Zj⟩;rw[ZD,hn,Option.toList_some,Ek];show [some (V.ref a),some (V.int (Builtin.bitOr (A6 (ns.take i):Nat) (n:Nat))),some (V.int (n:Int))]=_;rw[Dx]
 ·rintro σ H2 ⟨v,rfl,rfl⟩;refine⟨_,Zj,?_⟩;have e:(Ay ns).length=ns.length:=by unfold Ay;rw[AJ]
  rw[e,ZB];exact k
end
end Mk
end
section
namespace L2
open PySem
theorem HX {x:Str}{g:TG}{tt:TT}{te:TE}{ix:List (Option Nat)}{R:Xc->Hp->Prop}{σ:St}{H1:Hp} (Pv:Nat->Xc->Hp->Prop) (h0:Pv 0 [] H1) (hz:∀i ys H,Pv i ys H->ys.length<=1000)
  (hs:∀(i c:Nat) ys H,x.cps[i]?=some c->Pv i ys H->g (.str ⟨#[c]⟩) (Bd ix σ) H λbM H2=>tt bM H2 λb H3=>if b=true then te bM H3 λy H4=>Pv (i+1) (ys++[y]) H4 else Pv (i+1) ys H3) (hd:∀ys H,Pv x.cps.size ys H->R ys H) :
  ∃W:Nat->Nat->Xc->Hp->Prop,(∃m,W 0 m [] H1)/\∀i m ys H,W i m ys H ->
   ((Its x).stop i H/\ys.length<=sizeLine/\R ys H) \/
   ((Its x).go i H/\∃N:Xc->Hp->Prop,(∀bZ H',N bZ H'->bZ.length<=sizeLine/\∃m',m'<m/\W (i+1) m' bZ H') /\
    ∀v H',(Its x).gE i H v H'->g v (Bd ix σ) H' λbM H2=>tt bM H2 λb H3=>if b=true then te bM H3 λy H4=>N (ys++[y]) H4 else N ys H3):=by
 refine⟨λi m ys H=>m=x.cps.size - i/\i<=x.cps.size/\Pv i ys H,⟨_,Zj,Nat.zero_le _,h0⟩,?_⟩;rintro i m ys H ⟨rfl,hi,hp⟩;by_cases hlt:i<x.cps.size
 ·refine .inr ⟨hlt,Pv (i+1),λbZ H' q=>⟨Nat.le_of_lt (AL (hz _ bZ H' q)),x.cps.size - (i+1),qe,Zj,hlt,q⟩,?_⟩;rintro v H' ⟨rfl,c,hc,rfl⟩;exact hs i c ys H' hc hp
 ·have e:i=x.cps.size:=by omega
  subst e;exact .inl ⟨Zy _,Nat.le_of_lt (AL (hz _ ys H hp)),hd ys H hp⟩
end L2
namespace Mk
open PySem L2 MK
theorem Mp:bootBuiltins "all" = some (.builtin "all"):=by decide +kernel
theorem Mq:bootBuiltins "isinstance" = some (.builtin "isinstance"):=by decide +kernel
theorem Fz:bootBuiltins "sorted" = some (.builtin "sorted"):=by decide +kernel
theorem Qg:bootBuiltins "sum" = some (.builtin "sum"):=by decide +kernel
theorem UP:bootBuiltins "min" = some (.builtin "min"):=by decide +kernel
theorem UQ:bootBuiltins "max" = some (.builtin "max"):=by decide +kernel
theorem F0:bootBuiltins "str" = some (.type "str"):=by decide +kernel
theorem HY:bootBuiltins "int" = some (.type "int"):=by decide +kernel
theorem Sc:bootBuiltins "bool" = some (.type "bool"):=by decide +kernel
theorem HZ:bootBuiltins "tuple" = some (.type "tuple"):=by decide +kernel
theorem Jp:bootBuiltins "list" = some (.type "list"):=by decide +kernel
theorem AE {H1:Hp}{p:Xd}{o:HO} (s:aA H H1) (hp:H1 p=none):aA H (upd H1 p o):=λb u e=>by
 have e':=s b u e;rw[AH (AI e' hp)];exact e'
noncomputable def Ch (c:Nat):Bool:=decide (65<=c)&&decide (c<=90)
noncomputable def By (x:Str):Bool:=(decide (1<=x.length)&&decide (x.length<=6))&&x.cps.toList.all Ch
section
theorem CL {X:Cx}{e:Expr}{te:TE}{T:String}{x:Str}{p p2 pos:Pos} (K:FG) (hK:X.K=K) (hg:Gl X "isinstance") (hm:X.mg "isinstance" = none) (hgT:Gl X x) (hmT:X.mg x=none) (hvT:bootBuiltins x=some (.type T)) (he:PE X e te)
  (hn:x≠ "__name__" := by decide) (eI:(x==("__debug__" : Str))=false:=by decide)
  (hs:starEach [e,.Name x p2] X.env=(false,eval e X.env)::starEach [.Name x p2] X.env:=by rfl) (eQ:(backTo pos (starEach [.Name x p2] X.env)).any (·.1)=false:=by rfl) (js:starEach [.Name x p2] X.env=(false,eval (.Name x p2) X.env)::starEach [] X.env:=by rfl) :
  PE X (.Call (.Name "isinstance" p) [e,.Name x p2] [] pos) (tCB (λxs H Q=>∃v T t b,xs=[v,.ty T]/\eh K H v t/\W.kitOne K t (.type T)=some b/\Q (.bl b) H) (Al te (Al (tC (.ty T)) C1))):=by
 subst hK;exact AW QE hg hm Mq (AA he (AA (NF hgT hmT hvT Zj hn eI) AC js) hs) qc qc hs eQ
theorem Ar {X:Cx} (K:FG) (hK:X.K=K):IxR X (VI K):=hK ▸ Rv
theorem Ai {X:Cx} (K:FG) (hK:X.K=K):IxR X (T7 K):=hK ▸ T8
theorem A8 {X:Cx} (K:FG) (hK:X.K=K):aZ X (.builtin "len") (λxs H Q=>∃p ys,xs=[.ref p]/\(aK K H p ys\/aQ K H p ys)/\Q (.int ys.length) H):=hK ▸ FA
inductive spIsName (vs:Xc) (H:Hp) (Q:VK) (_E:XK):Prop where
 |mk (x:Str) (cJ:vs=[.str x]) (cP:x.cps.all (· < 128)=true) (cV:x.length<=1000) (dr:∀H',aA H H'->Q (.bl (By x)) H')
theorem Qh:AN ["thing"] ["thing"] (defScope Jl):=cS
theorem Qi (c:Nat):(if (!decide ((⟨#[c]⟩:Str).cps.toList<("A" : Str).cps.toList))=true then (!decide (("Z" : Str).cps.toList<(⟨#[c]⟩:Str).cps.toList))else false)=Ch c:=by
 have hA:("A" : Str).cps.toList=[65]:=by decide +kernel
 have hZ:("Z" : Str).cps.toList=[90]:=by decide +kernel
 rw[hA,hZ];show(if (!decide ([c]<[65]))=true then !decide ([90]<[c])else false)=Ch c;unfold Ch
 have e1:decide ([c]<[65])=decide (c<65):=by
  rw[Bool.eq_iff_iff,decide_eq_true_eq,decide_eq_true_eq,cons_lt_cons_iff];simp
 have e2:decide ([90]<[c])=decide (90<c):=by
  rw[Bool.eq_iff_iff,decide_eq_true_eq,decide_eq_true_eq,cons_lt_cons_iff];simp
 rw[e1,e2];by_cases h1:c<65 <;> by_cases h2:90<c <;> simp[h1,h2] <;> omega
theorem O1 {f:Xd}{t6:Tok} (F:aY K "is_name" "is_name" Jl f fd) (B:Bl mg) (hL:mg "LONGEST_NAME" = some (.int 6 t6)):Af P w K mg base aT 1 f fd ["thing"] spIsName:=by
 refine F.m Qh λvs H Q E h=>?_;obtain⟨x,rfl,ha,hz,k⟩:=h;refine⟨Zj,λad A outer s hr=>?_⟩
 refine⟨_,AF (An (PW.pt (EN (Bs (BB (CL K Zj Zj B.f6 Zj B.str F0 (pv 0)))) (Cw (Bs (Gv E4 E4 AD (AW Az Zj B.len PySem.boot_len (AA (pv 0) AC)) (Bg (v:=.int 6) Zj hL ⟨t6,Zj⟩))))))
   (AG (AO De)) Ae)
  (AG (AO (AW (HD rfl) rfl B.all Mp (AA (Bv [] [] qd qb qd rfl (Ly (pv 0)) (λ_ _ _ _ _ _=>Bu) (λ_ _ _ _ _ _=>E5 CY CY AK (pv 0) AK)) AC)))),?_⟩
 refine⟨_,Zj,_,_,_,true,Zj,.str x,Zj,_,Zj,?_⟩;refine Ac ?_;refine⟨_,Zj,x,Zj,Nat.le_of_lt (AL hz),_,_,Zj,Zj,_,Zj,?_⟩;refine Ba (λh1=>?_) (λh1=>?_)
 ·have h1':1<=x.length:=by have:=ZV h1;omega
  refine⟨_,_,Zj,Zj,_,Zj,?_⟩;refine Ba (λh2=>?_) (λh2=>?_)
  ·have jU:¬ x.length<=6:=by
    intro z;rw[ZL (show(x.length:Int)<=6 by omega)]at h2;cases h2
   have e:By x=false:=by unfold By;simp[jU]
   have:=k H (aA.refl H);rw[e]at this;exact this
  ·have jU:x.length<=6:=Decidable.byContradiction λz=>h2 (by rw[ZO (show ¬ (x.length:Int)<=6 by omega)];rfl);refine⟨_,Zj,x,Zj,ha,HX (x:=x) (λi ys H2=>H2=H/\ys=(x.cps.toList.take i).map λc=>V.bl (Ch c)) ⟨Zj,Zj⟩ (λi ys H2 ⟨_,e⟩=>?_) ?_ ?_⟩
   ·rw[e,AJ,ZA];have:x.cps.toList.length=x.length:=by rw[Array.length_toList];rfl
    omega
   ·rintro i c ys H2 hc ⟨rfl,rfl⟩;refine⟨_,Zj,_,_,Zj,Zj,_,Zj,?_⟩
    have fin:∀b,b=Ch c->(H2=H2/\(x.cps.toList.take i).map (λc=>V.bl (Ch c))++[V.bl b]=(x.cps.toList.take (i+1)).map λc=>V.bl (Ch c)):=λb hb=>by
     refine⟨Zj,?_⟩;have iz:x.cps.toList[i]?=some c:=by rw[Array.getElem?_toList];exact hc
     rw[ZD,iz,Zu,hb];rfl
    have hu:=Qi c;refine Ba (λh3=>?_) (λh3=>?_)
    ·rw[Zp h3]at hu;exact⟨_,_,Zj,Zj,fin _ hu⟩
    ·rw[Zq h3]at hu;exact fin _ hu
   ·rintro ys H2 ⟨rfl,rfl⟩ p hp;have el:x.cps.toList.take x.cps.size=x.cps.toList:=take_of_length_le (by rw[Array.length_toList];exact Zy _);refine⟨p,x.cps.toList.map Ch,Zj,aK.of (by rw[AB,el,map_map];rfl),?_⟩
    have e:By x=((x.cps.toList.map Ch).all id):=by
     unfold By;rw[ZL h1',ZL jU,all_map];rfl
    rw[←e];exact k _ (AE (aA.refl _) hp)
 ·have h1':¬ 1<=x.length:=λz=>h1 (ZL qe);refine⟨_,Zj,?_⟩;refine Ao ?_;have e:By x=false:=by unfold By;simp[h1']
  have:=k H (aA.refl H);rw[e]at this;exact this
end
inductive Th where
 |aP |num (n:Nat) |jM (ns:Xa)
def gg (H:Hp) (v:V):Th->Prop
 | .aP=>v=.aP
 | .num n=>v=.int (n:Int)
 | .jM ns=>∃a,v=.ref a/\H a=some (.tup (ns.map V.str))
noncomputable def Di (ns:List Nat):Nat:=ns.foldl max 0
noncomputable def look (due:Aa) (x:Str):Nat:=((due.find? λp=>decide (p.1=x)).map (·.2)).getD 0
noncomputable def Ax (due:Aa):LK:=due.map λp=>(Sum.inr p.1,V.int (p.2:Int))
noncomputable def Cr (due:Aa):Th->Nat
 | .aP=>BZ (Di (due.map (·.2)))
 | .num n=>n
 | .jM ns=>A6 (ns.map (look due))
theorem Eu (x:Str):∀due:Aa,Av (Ax due) (Sum.inr x)=(due.find? λp=>decide (p.1=x)).map λp=>V.int (p.2:Int)
 | []=>rfl
 |p::r=>by
  show Av ((Sum.inr p.1,V.int (p.2:Int))::Ax r) (Sum.inr x)=_;by_cases e:p.1=x
  ·rw[DD (p:=(Sum.inr p.1,V.int (p.2:Int))) (by rw[←e]),List.find?_cons_of_pos (by simpa using e)];rfl
  ·rw[DE (p:=(Sum.inr p.1,V.int (p.2:Int))) (λz=>e (Sum.inr.inj z)),List.find?_cons_of_neg (by simpa using e)];exact Eu x r
theorem O2 {x:Str} (h:x∈due.map (·.1)):(due.find? λp=>decide (p.1=x)).isSome=true:=by
 obtain⟨p,hp,e⟩:=Zr.mp h;rw[List.find?_isSome];exact⟨p,hp,by simpa using e⟩
theorem CO {x:Str} (h:x∈due.map (·.1)):Av (Ax due) (Sum.inr x)=some (V.int (look due x:Int)):=by
 rw[Eu];unfold look;obtain⟨p,hp⟩:=Option.isSome_iff_exists.mp (O2 h);rw[hp];rfl
theorem DZ {x:Str} (h:x∉ due.map (·.1)):Av (Ax due) (Sum.inr x)=none:=by
 rw[Eu]
 have:(due.find? λp=>decide (p.1=x))=none:=by
  rw[List.find?_eq_none];intro p hp e;exact h (Zr.mpr ⟨p,hp,by simpa using e⟩)
 rw[this];rfl
theorem FW {m:Nat}:∀(l:List Nat) (a:Nat),a<m->(∀n∈l,n<m)->l.foldl max a<m
 | [],a,h,_=>h
 |x::r,a,h,k=>FW r (max a x) (by have:=k x ZI;omega) λn hn=>k n (ZR _ hn)
theorem K1 {ns:List Nat}{m:Nat} (h0:0<m) (h:∀n∈ns,n<m):Di ns<m:=FW ns 0 h0 h
theorem Qj (a b:Nat):max (a:Int) (b:Int)=((max a b:Nat):Int):=by omega
theorem Hf:∀(r:List Nat) (a:Nat),(r.map λn:Nat=>(n:Int)).foldl max (a:Int)=((r.foldl max a:Nat):Int)
 | [],_=>rfl
 |x::r,a=>by rw[map_cons,foldl_cons,Qj,Hf r];rfl
theorem K2 {ns:List Nat} (h:ns≠ []):KW 0 (ns.map λn:Nat=>(n:Int))=(Di ns:Nat):=by
 cases ns with
 |nil=>exact absurd rfl h
 |cons a r =>
  show(r.map λn:Nat=>(n:Int)).foldl max (a:Int)=_;rw[Hf];unfold Di;rw[foldl_cons];have:max 0 a=a:=by omega
  rw[this]
theorem Mr {m:Nat} (h:m<2 ^ 20):Builtin.Int.intBits (m:Int)<=20:=by
 rcases Nat.eq_zero_or_pos m with e |hm
 ·subst e;decide
 ·rw[Dy hm];have:m.log2<20:=(Nat.log2_lt qe).mpr h;omega
section
inductive spNextMark (K:FG) (vs:Xc) (H:Hp) (Q:VK) (_E:XK):Prop where
 |mk (a:Xd) (ns:List Nat) (cJ:vs=[.ref a]) (cP:aK K H a (Ay ns)) (cV:(∀n∈ns,n<2 ^ 20)) (dr:Q (.int (BZ (Di ns):Nat)) H)
theorem Ms:AN ["numbers"] ["numbers"] (defScope Ft):=cS
theorem Gi (ns:List Nat):Ay ns=(ns.map λn:Nat=>(n:Int)).map V.int:=by unfold Ay;rw[map_map];rfl
theorem K3 {f:Xd} (F:aY K "next_mark" "next_mark" Ft f fd) (B:Bl mg):Af P w K mg base aT 1 f fd ["numbers"] (spNextMark K):=by
 refine F.m Ms λvs H Q E h=>?_;obtain⟨a,ns,rfl,hS,hlt,k⟩:=h;refine⟨Zj,λad A outer s hr=>?_⟩;refine⟨_,AG (AO (Ab Gs AD (Gx PySem.F.plainAttrs_int PySem.F.slot_int_bit_length PySem.F.type_int_bit_length Jb (NU Zj Zj B.max (pv 0) AD)))),?_⟩;have hm:=K1 (m:=2 ^ 20) qc hlt
 have fin:∀m:Int,m=(Di ns:Nat)->tyV K "int" (.int m) H/\∃i,V.int m=.int i/\([]:Xc)=[]/\rI Tz (λi j=>V.int (i*2 ^ j.toNat)) (V.int 1) (V.int (Builtin.Int.intBits i:Nat)) H Q:=λm e=>by
  subst e;refine⟨Zj,_,Zj,Zj,1,_,Zj,Zj,⟨Z1 _,?_,qc⟩,?_⟩
  ·have:=Mr hm;omega
  ·have e:(1:Int)*2 ^ ((Builtin.Int.intBits (Di ns:Nat):Nat):Int).toNat=((BZ (Di ns):Nat):Int):=by
    unfold BZ;rw[Int.one_mul,Int.toNat_natCast];simp
   show Q (V.int (1*2 ^ ((Builtin.Int.intBits (Di ns:Nat):Nat):Int).toNat)) H;rw[e];exact k
 refine⟨_,Zj,a,ns.map (λn:Nat=>(n:Int)),0,Zj,Zj,by rw[←Gi];exact hS,λe=>?_,λe=>?_⟩
 ·have e':ns=[]:=List.map_eq_nil_iff.mp e;exact fin 0 (by rw[e'];rfl)
 ·have e':ns≠ []:=λz=>e (by rw[z];rfl);exact fin _ (K2 e')
def DJ (K:FG):Sp:=λvs H Q _=>(∃(x:Str) (d:Xd) (kvs:LK),vs=[.str x,.ref d]/\Rd H d (.dK kvs)/\Q (.bl (Av kvs (Sum.inr x:Key)).isSome) H) \/
 (∃(x:Str) (t:Xd) (xs:Xa),vs=[.str x,.ref t]/\aQ K H t (xs.map V.str)/\Q (.bl (dY (.str x) (xs.map V.str))) H)
theorem O3:AN ["thing", "names"] ["thing", "names"] (defScope HS):=cS
theorem JA:∀xs:Xa,(xs.map V.str).all E8=true
 | []=>rfl
 |_::r=>JA r
theorem Mu {f:Xd} (F:aY K "is_one_of" "is_one_of" HS f fd) (B:Bl mg):Af P w K mg base aT 1 f fd ["thing", "names"] (DJ K):=by
 refine F.ok O3 (λvs H Q E h=>?_) (λad A outer s H vs Q E hr h=>?_)
 ·rcases h with⟨x,d,kvs,rfl,_⟩ |⟨x,t,xs,rfl,_⟩ <;> rfl
 ·have hu:=Cm hr;rcases h with⟨x,d,kvs,rfl,hd,k⟩ |⟨x,t,xs,rfl,ht,k⟩
  ·refine⟨_,AG (AO (Cz (CL K Zj Zj B.f6 Zj B.str F0 (pv 0)) (Cy (JL (P2 hu (pv 0) (pv 1)))))),?_⟩;refine⟨_,Zj,_,_,_,true,Zj,.str x,Zj,_,Zj,?_⟩;exact⟨_,Zj,_,Zj,d,_,Zj,.inl ⟨kvs,Sum.inr x,hd,Zj,Zj⟩,k⟩
  ·refine⟨_,AG (AO (Cz (CL K Zj Zj B.f6 Zj B.str F0 (pv 0)) (Cy (Cj DB (pv 0) (pv 1) (by with_unfolding_all rfl))))),?_⟩;refine⟨_,Zj,_,_,_,true,Zj,.str x,Zj,_,Zj,?_⟩;exact⟨_,Zj,_,Zj,t,_,Zj,.inr ht,Zj,JA xs,k⟩
inductive spIsNamesOf (vs:Xc) (H:Hp) (Q:VK) (_E:XK):Prop where
 |mk (a d:Xd) (ns:Xa) (kvs:LK) (cJ:vs=[.ref a,.ref d]) (cP:H a=some (.tup (ns.map V.str))) (cV:ns.length<=1000) (dr:Rd H d (.dK kvs)) (d9:∀H',aA H H'->Q (.bl (decide (0<ns.length)&&ns.all λx=>(Av kvs (Sum.inr x:Key)).isSome)) H')
theorem K4:AN ["parts", "ahead"] ["parts", "ahead"] (defScope El):=cS
theorem aA.rd {a:Xd}{u:HO} (s:aA H H') (h:Rd H a u):Rd H' a u:=by
 rcases h with h |⟨o,h⟩
 ·exact .inl (s _ _ h)
 ·exact .inr ⟨o,s _ _ h⟩
theorem Jq {f:Xd} (F:aY K "is_names_of" "is_names_of" El f fd) (B:Bl mg) (GO:Fn P w K mg base "is_one_of" 1 ["thing", "names"] (DJ K)):Af P w K mg base aT 2 f fd ["parts", "ahead"] spIsNamesOf:=by
 obtain⟨fO,dO,GO,mO,kO,bO⟩:=GO.ex;refine F.m K4 λvs H Q E h=>?_;obtain⟨a,d,ns,kvs,rfl,ha,hz,hd,k⟩:=h;refine⟨Zj,λad A outer s hr=>?_⟩;have hu:=Cm hr
 refine⟨_,AG (AO (Cz (Cj IT (AW FA Zj B.len PySem.boot_len (AA (pv 0) AC)) AD (AS _))
  (Cy (AW (HD rfl) rfl B.all Mp (AA (Bv ["ahead"] [some 1] qd qb qd rfl (Pl (pv 0)) (λ_ _ _ _ _ _=>Bu)
   (λ_ _ _ _ _ _=>AQ GO hr rfl mO kO bO .nil AR (AA (pv 0) (AA (pv 1) AC)))) AC))))),?_⟩
 have hl:(ns.map V.str).length=ns.length:=AJ _;refine⟨_,Zj,a,_,Zj,.inr (aQ.of ha),_,_,Zj,Zj,_,Zj,?_⟩;refine Ba (λh1=>?_) (λh1=>?_)
 ·have h1':0<ns.length:=by have:=ZV h1;rw[hl]at this;omega
  refine⟨_,Zj,a,Zj,⟨_,aQ.of ha⟩,KU (K:=K) (a:=a) (xs:=ns.map V.str) (λi ys H2=>H2=H/\ys=(ns.take i).map λx=>V.bl (Av kvs (Sum.inr x:Key)).isSome) ⟨Zj,Zj⟩ (λi ys H2 _ ⟨e,_⟩=>e ▸ aQ.of ha) (λi ys H2 ⟨_,e⟩=>?_) ?_ ?_⟩
  ·rw[e,AJ,ZA];omega
  ·rintro i v ys H2 hi ⟨rfl,rfl⟩;rw[ZE]at hi
   obtain⟨x,hx,rfl⟩:∃x,ns[i]?=some x/\v=V.str x:=by
    cases e:ns[i]? with
    |none=>rw[e]at hi;cases hi
    |some x=>rw[e]at hi;exact⟨x,Zj,(Option.some.inj hi).symm⟩
   refine⟨_,Zj,_,Zj,.inl ⟨x,d,kvs,Zj,hd,Zj,?_⟩⟩;rw[ZD,hx,Zu];rfl
  ·rintro ys H2 ⟨rfl,rfl⟩ p hp;have el:ns.take (ns.map V.str).length=ns:=by rw[hl];exact ZB
   refine⟨p,ns.map λx=>(Av kvs (Sum.inr x:Key)).isSome,Zj,aK.of (by rw[AB,el,map_map];rfl),?_⟩
   have e:(decide (0<ns.length)&&ns.all λx=>(Av kvs (Sum.inr x:Key)).isSome)=(ns.map λx=>(Av kvs (Sum.inr x:Key)).isSome).all id:=by
    rw[ZL h1',Bool.true_and,all_map];rfl
   rw[←e];exact k _ (AE (aA.refl _) hp)
 ·have h1':¬ 0<ns.length:=λz=>h1 (ZL (by rw[hl];omega));have:=k H (aA.refl H);rw[ZO h1',Bool.false_and]at this;exact this
inductive spIsWhole (vs:Xc) (H:Hp) (Q:VK) (_E:XK):Prop where
 |mk (n:Int) (cJ:vs=[.int n]) (cP:Q (.bl true) H)
theorem O4:AN ["thing"] ["thing"] (defScope FR):=cS
structure CT (due:Aa):Prop where
 len:due.length<=10
 lt:∀p∈due,p.2<2 ^ 20
 nd:(due.map (·.1)).Nodup
 nm:∀p∈due,By p.1=true/\p.1.cps.all (· < 128)=true/\p.1.length<=1000
def Sd (due:Aa):Th->Prop
 | .aP=>True
 | .num _=>True
 | .jM ns=>ns≠ []/\ns.length<=10/\∀x∈ns,x∈due.map (·.1)
inductive spThing (vs:Xc) (H:Hp) (Q:VK) (_E:XK):Prop where
 |mk (tv:V) (th:Th) (d:Xd) (due:Aa) (cJ:vs=[tv,.ref d]) (cP:gg H tv th) (cV:Rd H d (.dK (Ax due))) (dr:CT due) (d9:Sd due th) (gi:∀H',aA H H'->Q (.int (Cr due th:Nat)) H')
theorem Se:AN ["thing", "ahead"] ["thing", "ahead"] (defScope DW):=cS
theorem Qk (due:Aa):(Ax due).map (·.2)=Ay (due.map (·.2)):=by unfold Ax Ay;rw[map_map,map_map];rfl
theorem Ql {f:Xd} (F:aY K "thing_number" "thing_number" DW f fd) (B:Bl mg) (GN:Fn P w K mg base "next_mark" 1 ["numbers"] (spNextMark K)) (GI:Fn P w K mg base "is_names_of" 2 ["parts", "ahead"] spIsNamesOf)
  (GU:Fn P w K mg base "union_of" 1 ["numbers"] (spUnionOf K)) (GW:Fn P w K mg base "is_whole" 1 ["thing"] spIsWhole):Af P w K mg base aT 3 f fd ["thing", "ahead"] spThing:=by
 obtain⟨fN,dN,GN,mN,kN,bN⟩:=GN.ex;obtain⟨fI,dI,GI,mI,kI,bI⟩:=GI.ex;obtain⟨fU,dU,GU,mU,kU,bU⟩:=GU.ex;obtain⟨fW,dW,GW,mW,kW,bW⟩:=GW.ex;refine F.m Se λvs H Q E h=>?_;obtain⟨tv,th,d,due,rfl,hT,hd,DO,TO,k⟩:=h;refine⟨Zj,λad A outer s hr=>?_⟩;have hu:=Cm hr;have eP:aI 1 _:=hr.mono qc
 refine⟨_,AF (An (EY (Fh (pv 0))) (AG (AO (AQ GN eP Zj mN kN bN .nil AR (AA (Bp (MC Zj) Zj B.list Jp (AA (UC PySem.F.slot_dict_values PySem.F.type_dict_values Ob (pv 1)) AC)) AC)))) Ae)
  (AF (An (PW.pt (Do (BB (CL K rfl rfl B.f6 rfl B.tuple HZ (pv 0))) (Ci (BB (AQ GI hr rfl mI kI bI .nil AR (AA (pv 0) (AA (pv 1) AC)))))))
   (AG (AO (AQ GU eP rfl mU kU bU .nil AR (AA (Bv ["ahead"] [some 1] qd qb qd rfl (Pl (pv 0)) (λ_ _ _ _ _ _=>Bu) (λ_ _ _ _ _ _=>Bh hu (pv 1) (pv 0) (λ_ _=>rfl))) AC)))) Ae)
  (AF (An (BB (AQ GW eP rfl mW kW bW .nil AR (AA (pv 0) AC))) (AG (AO (pv 0))) Ae)
  (AG Ak))),?_⟩
 refine⟨_,rfl,_,rfl,?_⟩;cases th with
 |aP =>
  have e:tv=.aP:=hT;subst e;refine Ba (λ_=>?_) (λz=>absurd Zj z);refine⟨_,Zj,d,Zj,.inl ⟨_,hd⟩,d,_,Zj,Zj,hd,λp hp=>?_⟩;refine⟨p,d,_,Zj,AB,aA.rd (AE (aA.refl _) hp) hd,λl hl=>?_⟩;refine⟨l,due.map (·.2),Zj,aK.of (by rw[AB,Qk]),λn hn=>?_,?_⟩
  ·obtain⟨q,hq,rfl⟩:=Zr.mp hn;exact DO.lt q hq
  ·exact k _ (AE (AE (aA.refl _) hp) hl)
 |num n =>
  have e:tv=.int (n:Int):=hT;subst e;refine Ba (λz=>absurd (ZV z) (by intro q;cases q)) (λ_=>?_);refine⟨_,Zj,_,_,_,false,Zj,.int _,qd,_,Zj,?_⟩;refine Ac ?_;refine⟨_,Zj,n,Zj,_,Zj,?_⟩;refine Ao ?_;exact⟨_,Zj,k H (aA.refl H)⟩
 |jM ns =>
  obtain⟨a,rfl,ha⟩:=hT;obtain⟨aw,hln,ff⟩:=TO;refine Ba (λz=>absurd (ZV z) (by intro q;cases q)) (λ_=>?_);refine⟨_,Zj,_,_,_,true,Zj,.tup ha,Zj,_,Zj,?_⟩;have hl:(ns.map V.str).length=ns.length:=AJ _;refine⟨_,Zj,_,Zj,a,d,ns,Ax due,Zj,ha,qe,hd,λH1 s1=>⟨_,Zj,?_⟩⟩
  have e1:(decide (0<ns.length)&&ns.all λx=>(Av (Ax due) (Sum.inr x:Key)).isSome)=true:=by
   rw[Bool.and_eq_true,decide_eq_true_eq,List.all_eq_true];refine⟨List.length_pos_iff.mpr aw,λx hx=>?_⟩;rw[CO (ff x hx)];rfl
  rw[e1];refine Ao ?_;refine⟨_,Zj,a,Zj,⟨_,aQ.of (s1 _ _ ha)⟩,KU (K:=K) (a:=a) (xs:=ns.map V.str) (λi ys H2=>H2=H1/\ys=Ay ((ns.take i).map (look due))) ⟨Zj,Zj⟩ (λi ys H2 _ ⟨e,_⟩=>e ▸ aQ.of (s1 _ _ ha)) (λi ys H2 ⟨_,e⟩=>?_) ?_ ?_⟩
  ·rw[e];unfold Ay;rw[AJ,AJ,ZA];omega
  ·rintro i v ys H2 hi ⟨rfl,rfl⟩;rw[ZE]at hi
   obtain⟨x,hx,rfl⟩:∃x,ns[i]?=some x/\v=V.str x:=by
    cases e:ns[i]? with
    |none=>rw[e]at hi;cases hi
    |some x=>rw[e]at hi;exact⟨x,Zj,(Option.some.inj hi).symm⟩
   refine⟨_,Zj,_,Zj,d,_,Zj,.inl ⟨Ax due,Sum.inr x,aA.rd s1 hd,Zj,(CO (ff x (ZQ hx))).symm⟩,Zj,?_⟩;rw[ZD,hx,Zu];unfold Ay;rw[Zu];rfl
  ·rintro ys H2 ⟨rfl,rfl⟩ p hp;have el:ns.take (ns.map V.str).length=ns:=by rw[hl];exact ZB
   refine⟨p,ns.map (look due),Zj,aK.of (by rw[AB,el]),?_⟩;exact k _ (AE s1 hp)
end
end Mk
end
section
namespace L2
open PySem
theorem Qm {a:Xd}{xs:Xc}{g:TG}{tb:TS}{D:Dj}{σ:St} (Pv:Nat->St->Hp->Prop) (h0:Pv 0 σ H) (hl:∀i σ H,i<=xs.length->Pv i σ H->aK K H a xs)
  (hs:∀i x σ H p,xs[i]?=some x->Pv i σ H->H p=none->g (.ref p) σ (upd H p (.tup [.int i,x])) λbM H2=>tb { D with nx:=Pv (i+1),ct:=Pv (i+1),bk:=D.nx } bM H2) (hd:∀σ H,Pv xs.length σ H->D.nx σ H) :
  ∃W:Nat->Nat->St->Hp->Prop,(∃m,W 0 m σ H)/\∀i m σ H,W i m σ H ->
   ((kg K a).stop i H/\D.nx σ H)\/((kg K a).go i H/\∃N:St->Hp->Prop,(∀aJ H',N aJ H'->∃m',m'<m/\W (i+1) m' aJ H')/\∀x H',(kg K a).gE i H x H'->g x σ H' λbM H2=>tb { D with nx:=N,ct:=N,bk:=D.nx } bM H2):=by
 refine⟨λi m σ H=>m=xs.length - i/\i<=xs.length/\Pv i σ H,⟨_,Zj,Nat.zero_le _,h0⟩,?_⟩;rintro i m σ H ⟨rfl,hi,hp⟩;by_cases hlt:i<xs.length
 ·have hx:xs[i]?=some xs[i]:=Z7 hlt;refine .inr ⟨⟨xs,xs[i],hl i σ H hi hp,hx⟩,Pv (i+1),λaJ H' q=>⟨xs.length - (i+1),qe,Zj,hlt,q⟩,?_⟩;rintro x H' ⟨p,y,hn,rfl,hy,rfl⟩
  have ex:y=xs[i]:=by
   have:=hy xs (hl i σ H hi hp);rw[hx]at this;exact(Option.some.inj this).symm
  subst ex;exact hs i xs[i] σ H p hx hp hn
 ·have e:i=xs.length:=by omega
  subst e;exact .inl ⟨⟨xs,hl _ σ H hi hp,Zy _⟩,hd σ H hp⟩
theorem O5 {a:Xd}{o:Obj}{kvs:LK}{g:TG}{tb:TS}{D:Dj}{σ:St} (Pv:Nat->St->Hp->Prop) (h0:Pv 0 σ H) (hl:∀i σ H,Pv i σ H->H a=some (.cQ o (.dK kvs)))
  (hs:∀i kv σ H p,kvs[i]?=some kv->Pv i σ H->H p=none->g (.ref p) σ (upd H p (.tup [kV kv.1,kv.2])) λbM H2=>tb { D with nx:=Pv (i+1),ct:=Pv (i+1),bk:=D.nx } bM H2) (hd:∀σ H,Pv kvs.length σ H->D.nx σ H) :
  ∃W:Nat->Nat->St->Hp->Prop,(∃m,W 0 m σ H)/\∀i m σ H,W i m σ H ->
   ((Iti a o kvs).stop i H/\D.nx σ H)\/((Iti a o kvs).go i H/\∃N:St->Hp->Prop,(∀aJ H',N aJ H'->∃m',m'<m/\W (i+1) m' aJ H')/\∀x H',(Iti a o kvs).gE i H x H'->g x σ H' λbM H2=>tb { D with nx:=N,ct:=N,bk:=D.nx } bM H2):=by
 refine⟨λi m σ H=>m=kvs.length - i/\i<=kvs.length/\Pv i σ H,⟨_,Zj,Nat.zero_le _,h0⟩,?_⟩;rintro i m σ H ⟨rfl,hi,hp⟩;by_cases hlt:i<kvs.length
 ·refine .inr ⟨⟨hl i σ H hp,hlt⟩,Pv (i+1),λaJ H' q=>⟨kvs.length - (i+1),qe,Zj,hlt,q⟩,?_⟩;rintro x H' ⟨p,kv,hn,rfl,gz,rfl⟩;exact hs i kv σ H p gz hp hn
 ·have e:i=kvs.length:=by omega
  subst e;exact .inl ⟨⟨hl _ σ H hp,Zy _⟩,hd σ H hp⟩
end L2
namespace Mk
open PySem L2 MK
def Va (x:Str):Prop:=By x=true/\x.cps.all (· < 128)=true/\x.length<=1000
structure Nk (due:Aa) (r:Str×Th):Prop where
 ahead:CT due
 few:due.length<10
 nm:Va r.1
 new:r.1∉ due.map (·.1)
 th:Sd due r.2
 lt:Cr due r.2<2 ^ 20
noncomputable def Aj (rows:List (Str×Th)):Aa:=rows.foldl (λdue r=>due++[(r.1,Cr due r.2)]) []
theorem F1 (rows:List (Str×Th)) (r:Str×Th):Aj (rows++[r])=Aj rows++[(r.1,Cr (Aj rows) r.2)]:=by unfold Aj;rw[foldl_append];rfl
def Ew (rows:List (Str×Th)):Prop:=∀(i:Nat) r,rows[i]?=some r->Nk (Aj (rows.take i)) r
inductive dv (H:Hp) (b:Xd) (r:Str×Th):Prop where
 |mk (tv:_) (cJ:H b=some (.tup [.str r.1,tv])) (cP:gg H tv r.2)
inductive RowsAt (H:Hp) (l:Xd) (rows:List (Str×Th)):Prop where
 |mk (as:List Xd) (cJ:H l=some (.lst (as.map V.ref))) (cP:Paired (dv H) as rows)
theorem gg.same {v:V}{th:Th} (s:aA H H') (h:gg H v th):gg H' v th:=by
 cases th with
 |aP=>exact h
 |num n=>exact h
 |jM ns=>obtain⟨a,e,h⟩:=h;exact⟨a,e,s _ _ h⟩
theorem dv.same {b:Xd}{r:Str×Th} (s:aA H H') (h:dv H b r):dv H' b r:=by
 obtain⟨tv,e,t⟩:=h;exact⟨tv,s _ _ e,t.same s⟩
theorem Ex {α β:Type}{F:α->β->Prop}:∀ {xs:List α}{ys:List β}{i:Nat}{x:α},Paired F xs ys->xs[i]?=some x->∃y,ys[i]?=some y/\F x y
 |_,_,_,_,.nil,e=>by simp at e
 |_,_,0,_,.cons r _,e=>by simp at e;subst e;exact⟨_,Zj,r⟩
 |_,_,i+1,x,.cons _ t,e=>by
  obtain⟨u,h1,h2⟩:=Ex (i:=i) (x:=x) t (by simpa using e);exact⟨u,by simpa using h1,h2⟩
theorem Hg {H1:Hp}{d:Xd}{o:HO} (s:aA H H1) (hd:H d=none):aA H (upd H1 d o):=λb u e=>by
 rw[AH (AI e hd)];exact s b u e
section
inductive spRow (vs:Xc) (H:Hp) (Q:VK) (_E:XK):Prop where
 |mk (b d:Xd) (r:Str×Th) (due:Aa) (cJ:vs=[.ref b,.ref d]) (cP:dv H b r) (cV:Rd H d (.dK (Ax due))) (dr:Nk due r) (d9:∀H',aA H H'->Q (.int (Cr due r.2:Nat)) H')
theorem scRow:AN ["row", "ahead", "name", "thing", "number"] ["row", "ahead"] (defScope Em):=cS
theorem UR {f:Xd}{tg:Tok} (F:aY K "row_number" "row_number" Em f fd) (B:Bl mg) (hG:mg "GREATEST" = some (.int 1048575 tg)) (GN:Fn P w K mg base "is_name" 1 ["thing"] spIsName) (GT:Fn P w K mg base "thing_number" 3 ["thing", "ahead"] spThing) :
  Af P w K mg base aT 4 f fd ["row", "ahead"] spRow:=by
 obtain⟨fN,dN,GN,mN,kN,bN⟩:=GN.ex;obtain⟨fT,dT,GT,mT,kT,bT⟩:=GT.ex;refine F.m scRow λvs H Q E h=>?_;obtain⟨b,d,r,due,rfl,⟨tv,hb,hT⟩,hd,RO,k⟩:=h;refine⟨Zj,λad A outer s hr=>?_⟩;have hu:=Cm hr;have eP:aI 1 _:=hr.mono qc
 refine⟨_,AF (An (PW.pt (EN (Bs (BB (CL K Zj Zj B.f6 Zj B.tuple HZ (pv 0)))) (Cw (AM F9 (AW (A8 K Zj) Zj B.len PySem.boot_len (AA (pv 0) AC)) AD (AS _))))) (AG Ak) Ae)
  (AF (B6 (pv 0) (Bc rfl (AY (AV (i:=2) scRow.nd rfl (Or.inl rfl)) (AY (AV (i:=3) scRow.nd rfl (Or.inl rfl)) BE))))
  (AF (An (PW.pt (EN (Bs (BB (AQ GN eP rfl mN kN bN .nil AR (AA (pv 2) AC)))) (Cw (EY (P2 hu (pv 2) (pv 1)))))) (AG Ak) Ae)
  (AF (Ag (i:=4) scRow.nd rfl (Or.inl rfl) (AQ GT hr rfl mT kT bT .nil AR (AA (pv 3) (AA (pv 1) AC))))
  (AF (An (PW.pt (EN (EY (Fh (pv 4))) (Cw (Bs (Gv E4 E4 AD (pv 4) (Bg (v:=.int 1048575) rfl hG ⟨tg,rfl⟩)))))) (AG Ak) Ae)
  (AG (AO (pv 4))))))),?_⟩
 refine⟨_,Zj,_,_,_,true,Zj,.tup hb,Zj,_,Zj,?_⟩;refine Ac ?_;refine⟨_,Zj,b,_,Zj,.inr (aQ.of hb),Zj,_,Zj,?_⟩;refine P5 Zj ?_;refine⟨_,Zj,b,_,Zj,aQ.of hb,Zj,_,_,Zj,_,_,Zj,Zj,?_⟩;refine⟨_,Zj,r.1,Zj,RO.nm.2.1,RO.nm.2.2,λH1 s1=>⟨_,Zj,?_⟩⟩;rw[RO.nm.1];refine Ac ?_;refine⟨_,Zj,_,Zj,d,_,Zj,.inl ⟨Ax due,Sum.inr r.1,aA.rd s1 hd,Zj,(DZ RO.new).symm⟩,_,Zj,?_⟩;refine Ac ?_;refine⟨_,Zj,_,Zj,tv,r.2,d,due,Zj,hT.same s1,aA.rd s1 hd,RO.ahead,RO.th,λH2 s2=>?_⟩;refine⟨_,Zj,_,Zj,?_⟩;refine Ba (λz=>absurd (ZV z) (by intro q;cases q)) (λ_=>?_);refine⟨_,Zj,_,_,Zj,Zj,_,Zj,?_⟩;refine Ba (λ_=>?_) (λz=>absurd (ZL (Z1 _)) z);refine⟨_,_,Zj,Zj,_,Zj,?_⟩;have hlt:=RO.lt;refine P5 (show((Cr due r.2:Nat):Int)<=1048575 by omega) ?_;exact⟨_,Zj,k _ (s1.trans s2)⟩
inductive spNumbered (vs:Xc) (H:Hp) (Q:VK) (_E:XK):Prop where
 |mk (l:Xd) (rows:List (Str×Th)) (cJ:vs=[.ref l]) (cP:RowsAt H l rows) (cV:0<rows.length) (dr:rows.length<=10) (d9:Ew rows) (gi:∀d H',aA H H'->H d=none->H' d=some (.dK (Ax (Aj rows)))->Q (.ref d) H')
theorem scNumbered:AN ["rows", "numbers", "at", "row", "number"] ["rows"] (defScope Fu):=cS
theorem Nm {x:Str}{n:Nat} (h:x∉ due.map (·.1)):B4 (Ax due) (Sum.inr x:Key) (V.int (n:Int))=Ax (due++[(x,n)]):=by
 rw[Gz _ (DZ h)];unfold Ax;rw[Zu];rfl
theorem JB (due:Aa):(Ax due).length=due.length:=AJ _
theorem Bf:∀rows:List (Str×Th),(Aj rows).length=rows.length:=λrows=>by
 have:∀(l:List (Str×Th)) (a:Aa),(l.foldl (λdue r=>due++[(r.1,Cr due r.2)]) a).length=a.length+l.length:=by
  intro l;induction l with
  |nil=>intro a;rfl
  |cons x r ih=>intro a;rw[foldl_cons,ih,ZH,length_cons,length_cons,length_nil];omega
 have e:=this rows [];rw[length_nil]at e;unfold Aj;omega
theorem K5 {f:Xd}{tm:Tok} (F:aY K "numbered" "numbered" Fu f fd) (B:Bl mg) (hM:mg "MOST_ROWS" = some (.int 10 tm)) (GR:Fn P w K mg base "row_number" 4 ["row", "ahead"] spRow):Af P w K mg base aT 5 f fd ["rows"] spNumbered:=by
 obtain⟨fR,dR,GR,mR,kR,bR⟩:=GR.ex;refine F.m scNumbered λvs H Q E h=>?_;obtain⟨l,rows,rfl,⟨as,hl,hP⟩,h0,iA,RO,k⟩:=h;refine⟨Zj,λad A outer s hr=>?_⟩;have hu:=Cm hr;have a0:as.length=rows.length:=hP.length
 refine⟨_,AF (An (PW.pt (EN (Bs (BB (CL K Zj Zj B.f6 Zj B.list Jp (pv 0)))) (Cw (Bs (Gv E4 E4 AD (AW (A8 K Zj) Zj B.len PySem.boot_len (AA (pv 0) AC)) (Bg (v:=.int 10) Zj hM ⟨tm,Zj⟩)))))) (AG Ak) Ae)
  (AF (Ag (i:=1) scNumbered.nd rfl (Or.inl rfl) FD)
  (AF (DP PassesOwn.never rfl (NT rfl B.enum (AA (pv 0) AC)) (Bc rfl (AY (AV (i:=2) scNumbered.nd rfl (Or.inl rfl)) (AY (AV (i:=3) scNumbered.nd rfl (Or.inl rfl)) BE)))
   (AF (Ag (i:=4) scNumbered.nd rfl (Or.inl rfl) (AQ GR hr rfl mR kR bR .nil AR (AA (pv 3) (AA (pv 1) AC))))
   (AF (An (EY (Fh (pv 4))) (AG Ak) Ae)
   (AG (JV hu (pv 1) (BG (Ai K rfl) (pv 3) AD (λ_ _=>rfl)) (pv 4) rfl)))))
  (AG (AO (pv 1))))),?_⟩
 refine⟨_,Zj,_,_,_,true,Zj,.lst hl,Zj,_,Zj,?_⟩;refine Ac ?_;have hll:(as.map V.ref).length=rows.length:=by rw[AJ,a0]
 refine⟨_,Zj,l,_,Zj,.inl (aK.of hl),_,_,Zj,Zj,_,Zj,?_⟩;refine Ba (λ_=>?_) (λz=>absurd (ZL (by rw[hll];omega)) z);refine⟨_,_,Zj,Zj,_,Zj,?_⟩;refine P5 (show(((as.map V.ref).length:Nat):Int)<=10 by rw[hll];omega) ?_;intro d gq
 refine⟨_,Zj,l,Zj,⟨_,aK.of (AE (aA.refl _) gq _ _ hl)⟩,Qm (K:=K) (a:=l) (xs:=as.map V.ref) (λi σ H2=>∃v1 v2 v3:Option V,σ=[some (.ref l),some (.ref d),v1,v2,v3]/\aA H H2/\H2 d=some (.dK (Ax (Aj (rows.take i)))))
  ⟨none,none,none,rfl,AE (aA.refl _) gq,AB⟩ (λi σ H2 _ ⟨_,_,_,_,s2,_⟩=>aK.of (s2 _ _ hl)) ?_ ?_⟩
 ·rintro i y σ H2 p hi ⟨v1,v2,v3,rfl,s2,hd2⟩ hp;rw[ZE]at hi
  obtain⟨b,hb,rfl⟩:∃b,as[i]?=some b/\y=V.ref b:=by
   cases e:as[i]? with
   |none=>rw[e]at hi;cases hi
   |some x=>rw[e]at hi;exact⟨x,Zj,(Option.some.inj hi).symm⟩
  obtain⟨r,jO,hra⟩:=Ex hP hb;have R1:=RO i r jO;have s3:aA H (upd H2 p (.tup [.int i,.ref b])):=AE s2 hp;have iQ:(upd H2 p (.tup [.int i,.ref b])) d=some (.dK (Ax (Aj (rows.take i)))):=by rw[AH (AI hd2 hp)];exact hd2
  refine⟨p,_,Zj,aQ.of AB,Zj,_,_,Zj,_,_,Zj,Zj,?_⟩;refine⟨_,Zj,_,Zj,b,d,r,Aj (rows.take i),Zj,hra.same s3,.inl iQ,R1,λH4 s4=>?_⟩;refine⟨_,Zj,_,Zj,?_⟩;refine Ba (λz=>absurd (ZV z) (by intro q;cases q)) (λ_=>?_);obtain⟨tv,aj,_⟩:=hra.same (s3.trans s4);refine⟨_,Zj,_,Zj,_,Zj,b,_,0,.str r.1,Zj,Zj,aQ.of aj,Zj,d,_,Zj,DPut.k (k:=Sum.inr r.1) (s4 _ _ iQ) (AL (by rw[JB,Bf,ZA];omega)),?_⟩;refine⟨_,_,_,Zj,Hg (s3.trans s4) gq,?_⟩;rw[AB,Nm R1.new,ZD,jO,Option.toList_some,F1]
 ·rintro σ H2 ⟨v1,v2,v3,rfl,s2,hd2⟩;rw[hll,ZB]at hd2;exact⟨_,Zj,k d H2 s2 gq hd2⟩
end
noncomputable def Ah (due:Aa):List (Nat×Str):=due.foldl (λfs p=>if (fs.map (·.1)).contains p.2 then fs else fs++[(p.2,p.1)]) []
noncomputable def CS (fs:List (Nat×Str)):LK:=fs.map λq=>(Sum.inl (q.1:Int),V.str q.2)
noncomputable def K6 (fs:List (Nat×Str)) (n:Nat):Str:=((fs.find? λq=>decide (q.1=n)).map (·.2)).getD (Str.ofString "")
theorem Ct (due:Aa) (p:Str×Nat):Ah (due++[p])=if ((Ah due).map (·.1)).contains p.2 then Ah due else Ah due++[(p.2,p.1)]:=by unfold Ah;rw[foldl_append];rfl
theorem F2 (n:Nat):∀fs:List (Nat×Str),Av (CS fs) (Sum.inl (n:Int):Key)=(fs.find? λq=>decide (q.1=n)).map λq=>V.str q.2
 | []=>rfl
 |q::r=>by
  show Av ((Sum.inl (q.1:Int),V.str q.2)::CS r) (Sum.inl (n:Int))=_;by_cases e:q.1=n
  ·rw[DD (p:=(Sum.inl (q.1:Int),V.str q.2)) (by rw[←e]),List.find?_cons_of_pos (by simpa using e)];rfl
  ·rw[DE (p:=(Sum.inl (q.1:Int),V.str q.2)) (λz=>e (by have:=Sum.inl.inj z;omega)),List.find?_cons_of_neg (by simpa using e)];exact F2 n r
theorem Mv {fs:List (Nat×Str)}{n:Nat} (h:n∈fs.map (·.1)):(fs.find? λq=>decide (q.1=n)).isSome=true:=by
 obtain⟨q,hq,e⟩:=Zr.mp h;rw[List.find?_isSome];exact⟨q,hq,by simpa using e⟩
theorem Hh {fs:List (Nat×Str)}{n:Nat} (h:n∈fs.map (·.1)):Av (CS fs) (Sum.inl (n:Int):Key)=some (V.str (K6 fs n)):=by
 rw[F2];unfold K6;obtain⟨q,hq⟩:=Option.isSome_iff_exists.mp (Mv h);rw[hq];rfl
theorem F3 {fs:List (Nat×Str)}{n:Nat} (h:n∉ fs.map (·.1)):Av (CS fs) (Sum.inl (n:Int):Key)=none:=by
 rw[F2]
 have:(fs.find? λq=>decide (q.1=n))=none:=by
  rw[List.find?_eq_none];intro q hq e;exact h (Zr.mpr ⟨q,hq,by simpa using e⟩)
 rw[this];rfl
theorem K7 {fs:List (Nat×Str)}{n:Nat}{x:Str} (h:n∉ fs.map (·.1)):B4 (CS fs) (Sum.inl (n:Int):Key) (V.str x)=CS (fs++[(n,x)]):=by
 rw[Gz _ (F3 h)];unfold CS;rw[Zu];rfl
theorem Db (due:Aa):(Ah due).length<=due.length:=by
 have:∀(l:Aa) (a:List (Nat×Str)),(l.foldl (λfs p=>if (fs.map (·.1)).contains p.2 then fs else fs++[(p.2,p.1)]) a).length<=a.length+l.length:=by
  intro l;induction l with
  |nil=>intro a;exact Zy _
  |cons x r ih =>
   intro a;rw[foldl_cons];refine Nat.le_trans (ih _) ?_;split
   ·rw[length_cons];omega
   ·rw[ZH,length_cons,length_cons,length_nil];omega
 have e:=this due [];rw[length_nil]at e;unfold Ah;omega
theorem D4 (due:Aa):∀(a:List (Nat×Str)),(a.map (·.1)).Nodup->(∀n∈a.map (·.1),n∈(due.foldl (λfs p=>if (fs.map (·.1)).contains p.2 then fs else fs++[(p.2,p.1)]) a).map (·.1)) /\
  ((due.foldl (λfs p=>if (fs.map (·.1)).contains p.2 then fs else fs++[(p.2,p.1)]) a).map (·.1)).Nodup/\(∀p∈due,p.2∈(due.foldl (λfs p=>if (fs.map (·.1)).contains p.2 then fs else fs++[(p.2,p.1)]) a).map (·.1)) /\
  (∀q∈due.foldl (λfs p=>if (fs.map (·.1)).contains p.2 then fs else fs++[(p.2,p.1)]) a,q∈a\/(q.2,q.1)∈due):=by
 induction due with
 |nil=>intro a ha;exact⟨λn hn=>hn,ha,λp hp=>(nomatch hp),λq hq=>.inl hq⟩
 |cons p r ih =>
  intro a ha;rw[foldl_cons];by_cases hc:(a.map (·.1)).contains p.2=true
  ·rw[Zp hc];obtain⟨i1,i2,i3,i4⟩:=ih a ha;refine⟨i1,i2,λq hq=>?_,λq hq=>?_⟩
   ·rcases mem_cons.mp hq with rfl |hq
    ·exact i1 _ (by simpa using hc)
    ·exact i3 q hq
   ·rcases i4 q hq with z |z
    ·exact .inl z
    ·exact .inr (ZR _ z)
  ·rw[Zq hc];have hnot:p.2∉ a.map (·.1):=λz=>hc (by simpa using z);obtain⟨i1,i2,i3,i4⟩:=ih (a++[(p.2,p.1)]) (by rw[Zu];exact NS ha hnot);refine⟨λn hn=>i1 n (by rw[Zu];exact ZP _ hn),i2,λq hq=>?_,λq hq=>?_⟩
   ·rcases mem_cons.mp hq with rfl |hq
    ·exact i1 _ (by rw[Zu];exact ZT _ (by simp))
    ·exact i3 q hq
   ·rcases i4 q hq with z |z
    ·rcases mem_append.mp z with z |z
     ·exact .inl z
     ·have:q=(p.2,p.1):=by simpa using z
      subst this;exact .inr ZI
    ·exact .inr (ZR _ z)
theorem O6 (due:Aa):((Ah due).map (·.1)).Nodup:=(D4 due [] nodup_nil).2.1
theorem O7 {p:Str×Nat} (h:p∈due):p.2∈(Ah due).map (·.1):=(D4 due [] nodup_nil).2.2.1 p h
theorem JC {q:Nat×Str} (h:q∈Ah due):(q.2,q.1)∈due:=by
 rcases (D4 due [] nodup_nil).2.2.2 q h with z |z
 ·cases z
 ·exact z
section
inductive spFirsts (vs:Xc) (H:Hp) (Q:VK) (_E:XK):Prop where
 |mk (d:Xd) (o:Obj) (due:Aa) (cJ:vs=[.ref d]) (cP:H d=some (.cQ o (.dK (Ax due)))) (cV:due.length<=100) (dr:∀e H',aA H H'->H e=none->H' e=some (.dK (CS (Ah due)))->Q (.ref e) H')
theorem scFirsts:AN ["numbers", "firsts", "name", "number"] ["numbers"] (defScope Dz):=cS
theorem Qn {i:Nat}{kv:Key×V} (h:(Ax due)[i]?=some kv):∃p,due[i]?=some p/\kv=(Sum.inr p.1,V.int (p.2:Int)):=by
 unfold Ax at h;rw[ZE]at h;cases e:due[i]? with
 |none=>rw[e]at h;cases h
 |some p=>rw[e]at h;exact⟨p,Zj,(Option.some.inj h).symm⟩
theorem O8 {f:Xd} (F:aY K "first_names" "first_names" Dz f fd):Af P w K mg base aT 1 f fd ["numbers"] spFirsts:=by
 refine F.m scFirsts λvs H Q E h=>?_;obtain⟨d,o,due,rfl,hd,hz,k⟩:=h;refine⟨Zj,λad A outer s hr=>?_⟩
 refine⟨_,AF (Ag (i:=1) scFirsts.nd Zj (Or.inl Zj) FD)
  (AF (DP PassesOwn.never rfl (P8 (pv 0)) (Bc rfl (AY (AV (i:=2) scFirsts.nd rfl (Or.inl rfl)) (AY (AV (i:=3) scFirsts.nd rfl (Or.inl rfl)) BE)))
   (AG (BJ (FB PySem.F.plainAttrs_dict PySem.F.slot_dict_setdefault PySem.F.type_dict_setdefault IF (pv 1) (AA (pv 3) (AA (pv 2) AC))))))
  (AG (AO (pv 1)))),?_⟩
 intro e he
 refine⟨_,Zj,d,o,Ax due,Zj,AE (aA.refl _) he _ _ hd,O5 (a:=d) (o:=o) (kvs:=Ax due) (λi σ H2=>∃v1 v2:Option V,σ=[some (.ref d),some (.ref e),v1,v2]/\aA H H2/\H2 e=some (.dK (CS (Ah (due.take i)))))
  ⟨none,none,rfl,AE (aA.refl _) he,AB⟩ (λi σ H2 ⟨_,_,_,s2,_⟩=>s2 _ _ hd) ?_ ?_⟩
 ·rintro i kv σ H2 p gz ⟨v1,v2,rfl,s2,gY⟩ hp;obtain⟨pr,hpr,rfl⟩:=Qn gz;have s3:aA H (upd H2 p (.tup [.str pr.1,.int (pr.2:Int)])):=AE s2 hp;have he3:(upd H2 p (.tup [.str pr.1,.int (pr.2:Int)])) e=some (.dK (CS (Ah (due.take i)))):=by rw[AH (AI gY hp)];exact gY
  have et:due.take (i+1)=due.take i++[pr]:=by rw[ZD,hpr];rfl
  have hle:(CS (Ah (due.take i))).length<=100:=by
   unfold CS;rw[AJ];have:=Db (due.take i);rw[ZA]at this;omega
  refine⟨p,_,Zj,aQ.of AB,Zj,_,_,Zj,_,_,Zj,Zj,?_⟩;refine⟨_,Zj,.inr (.inr (.inl ⟨Zj,.inl ⟨_,he3⟩⟩)),_,Zj,_,Zj,e,_,Sum.inl (pr.2:Int),.str pr.1,Zj,Zj,he3,AL qe,λw' hw=>?_,λhn=>?_⟩
  ·refine⟨_,_,Zj,s3,?_⟩;have z:pr.2∈(Ah (due.take i)).map (·.1):=Decidable.byContradiction λz=>by rw[F3 z]at hw;cases hw
   rw[et,Ct,Zp (by simpa using z)];exact he3
  ·have z:pr.2∉ (Ah (due.take i)).map (·.1):=λz=>by rw[Hh z]at hn;cases hn
   refine⟨_,_,Zj,Hg s3 he,?_⟩;rw[AB,et,Ct,Zq (by simpa using z),K7 z]
 ·rintro σ H2 ⟨v1,v2,rfl,s2,gY⟩;rw[JB,ZB]at gY;exact⟨_,Zj,k e H2 s2 he gY⟩
end
theorem n12:¬ (("numbers" : Str) = "firsts"):=by decide +kernel
theorem n13:¬ (("numbers" : Str) = "rule"):=by decide +kernel
theorem n23:¬ (("firsts" : Str) = "rule"):=by decide +kernel
noncomputable def IK (d1 d2:Xd) (r:Str):List (Str×V):=BU "rule" (.str r) (BU "firsts" (.ref d2) (BU "numbers" (.ref d1) []))
theorem Hi (d1 d2:Xd) (r:Str):(IK d1 d2 r).lookup ("numbers" : Str)=some (.ref d1):=by
 unfold IK;rw[AZ,Zq n13,AZ,Zq n12,AZ,Zp rfl]
theorem Qo (d1 d2:Xd) (r:Str):(IK d1 d2 r).lookup ("firsts" : Str)=some (.ref d2):=by
 unfold IK;rw[AZ,Zq n23,AZ,Zp rfl]
theorem O9 (d1 d2:Xd) (r:Str):(IK d1 d2 r).lookup ("rule" : Str)=some (.str r):=by
 unfold IK;rw[AZ,Zp rfl]
theorem FX (d1 d2:Xd) (r:Str) {m:Str} (h1:¬ m = "rule" := by decide +kernel) (h2:¬ m = "firsts" := by decide +kernel) (h3:¬ m = "numbers" := by decide +kernel):(IK d1 d2 r).lookup m=none:=by
 unfold IK;rw[AZ,Zq h1,AZ,Zq h2,AZ,Zq h3];rfl
theorem Sf (d1:Xd):(BU "numbers" (V.ref d1) []).lookup ("numbers" : Str)=some (.ref d1):=by rw[AZ,Zp rfl]
structure aX (C:Xd) (H:Hp) (p:Xd) (due:Aa) (r:Str):Prop where
 ex:∃dx d1 o1 d2 o2,H p=some (.ins C dx (IK d1 d2 r))/\H d1=some (.cQ o1 (.dK (Ax due)))/\H d2=some (.cQ o2 (.dK (CS (Ah due))))
theorem aX.same {p:Xd}{r:Str} (s:aA H H') (h:aX C H p due r):aX C H' p due r:=by
 obtain⟨dx,d1,o1,d2,o2,a,b,c⟩:=h.ex;exact⟨⟨dx,d1,o1,d2,o2,s _ _ a,s _ _ b,s _ _ c⟩⟩
structure Jr (K:FG) (C:Xd):Prop where
 cl:iC K C
 nN:cW K C "numbers"
 nF:cW K C "firsts"
 nR:cW K C "rule"
noncomputable def ruleNames:Xa:=["bar", "drop", "keep", "leave"]
section
inductive spInit (C:Xd) (vs:Xc) (H:Hp) (Q:VK) (_E:XK):Prop where
 |mk (p dx l:Xd) (rows:List (Str×Th)) (r:Str) (cJ:vs=[.ref p,.ref l,.str r]) (cP:H p=some (.ins C dx [])) (cV:RowsAt H l rows) (dr:0<rows.length) (d9:rows.length<=10) (gi:Ew rows) (jE:r∈ruleNames) (z_7:∀H',(∀b o,H b=some o->b≠p->H' b=some o)->aX C H' p (Aj rows) r->Q .aP H')
theorem US:AN ["self", "rows", "rest"] ["self", "rows", "rest"] (defScope BQ):=cS
theorem Qp {r:Str} (h:r∈ruleNames):dY (.str r) (ruleNames.map V.str)=true:=by
 unfold dY;rw[any_map,any_eq_true];exact⟨r,h,by show(r==r)=true;simp⟩
theorem Sh {f aR:Xd} (F:aY K "__init__" "Kind.__init__" BQ f fd) (B:Bl mg) (T:Jr K C) (hR:mg "RULES" = some (.ref aR)) (hRT:∀H:Hp,aQ K H aR (ruleNames.map V.str))
  (GN:Fn P w K mg base "numbered" 5 ["rows"] spNumbered) (GF:Fn P w K mg base "first_names" 1 ["numbers"] spFirsts) (GO:Fn P w K mg base "is_one_of" 1 ["thing", "names"] (DJ K)):Af P w K mg base aT 6 f fd ["self", "rows", "rest"] (spInit C):=by
 obtain⟨fN,dN,GN,mN,kN,bN⟩:=GN.ex;obtain⟨fF,dF,GF,mF,kF,bF⟩:=GF.ex;obtain⟨fO,dO,GO,mO,kO,bO⟩:=GO.ex;refine F.m US λvs H Q E h=>?_;obtain⟨p,dx,l,rows,r,rfl,hp,RA,h0,iA,RO,ao,k⟩:=h;refine⟨Zj,λad A outer s hr=>?_⟩;have eP:aI 1 _:=hr.mono qc
 refine⟨_,AF (Dq (pv 0) (AQ GN hr Zj mN kN bN .nil AR (AA (pv 1) AC)) Zj)
  (Ed (AF (An (Bs (BB (AQ GO eP rfl mO kO bO .nil AR (AA (pv 2) (AA (Bg (v:=.ref aR) rfl hR rfl) AC))))) (AG Ak) Ae)
  (AF (Dq (pv 0) (AQ GF eP rfl mF kF bF .nil AR (AA (BL (pv 0) rfl) AC)) rfl)
  (Ed (AG (Dq (pv 0) (pv 2) rfl)))))),?_⟩
 refine⟨_,Zj,l,rows,Zj,RA,h0,iA,RO,λd1 H1 s1 hd1n eS=>?_⟩;have jm:p≠d1:=AI hp hd1n;refine⟨_,Zj,p,C,dx,[],Zj,s1 _ _ hp,T.cl,T.nN,(by show 0<1000;decide),?_⟩;refine⟨d1,Ax (Aj rows),by rw[AH (Ne.symm jm)];exact eS,λo1=>?_⟩;refine⟨_,Zj,.inr ⟨r,aR,ruleNames,Zj,hRT _,_,Zj,?_⟩⟩;rw[Qp ao];refine Ac ?_;have al:∀o,(upd (upd H1 p (.ins C dx (BU "numbers" (.ref d1) []))) d1 o) p=some (.ins C dx (BU "numbers" (.ref d1) [])):=λo=>by rw[AH jm,AB]
 refine⟨_,Zj,p,C,dx,_,_,Zj,al _,T.cl,T.nN,Sf d1,d1,o1,Aj rows,Zj,AB,by rw[Bf];omega,λd2 H2 s2 hd2n hd2=>?_⟩;have npd2:p≠d2:=AI (al _) hd2n;have iE:=s2 _ _ (al _);refine⟨_,Zj,p,C,dx,_,Zj,iE,T.cl,T.nF,(by show 1<1000;decide),?_⟩;refine⟨d2,CS (Ah (Aj rows)),by rw[AH (Ne.symm npd2)];exact hd2,λo2=>?_⟩;have hp4:∀o,(upd (upd H2 p (.ins C dx (BU "firsts" (.ref d2) (BU "numbers" (.ref d1) [])))) d2 o) p=some (.ins C dx (BU "firsts" (.ref d2) (BU "numbers" (.ref d1) []))):=λo=>by rw[AH npd2,AB]
 refine⟨_,Zj,_,Zj,p,C,dx,_,Zj,hp4 _,T.cl,T.nR,Nat.lt_of_le_of_lt (A9 _ _ _) (by show 2<1000;decide),?_⟩;have nd12:d1≠d2:=AI (AB (H:=upd H1 p (.ins C dx (BU "numbers" (.ref d1) []))) (o:=.cQ o1 (.dK (Ax (Aj rows))))) hd2n;refine k _ (λb o e hb=>?_) ⟨⟨dx,d1,o1,d2,o2,AB,?_,?_⟩⟩
 ·rw[AH hb,AH,AH hb]
  ·refine s2 _ _ ?_;rw[AH (AI e hd1n),AH hb];exact s1 _ _ e
  ·intro z;subst z
   have:(upd (upd H1 p (.ins C dx (BU "numbers" (.ref d1) []))) d1 (.cQ o1 (.dK (Ax (Aj rows))))) b=some o:=by
    rw[AH (AI e hd1n),AH hb];exact s1 _ _ e
   rw[hd2n]at this;cases this
 ·rw[AH (Ne.symm jm),AH nd12,AH (Ne.symm jm)];exact s2 _ _ AB
 ·rw[AH (Ne.symm npd2),AB]
end
structure Mt (P:Program) (w:World) (K:FG) (mg:SV) (base:Heap) (C:Xd) (m:Str) (k:Nat) (ps:Xa) (sp:Sp):Prop where
 ex:∃f fd,Af P w K mg base aT k f fd ps sp/\Pt K C m f/\Binds K fd ps []
noncomputable def FY (due:Aa):List (V×V):=due.map λp=>(V.str p.1,V.int (p.2:Int))
noncomputable def BR (due:Aa):List Nat:=((Ah due).map (·.1)).mergeSort λa b=>decide (a<=b)
noncomputable def BC (due:Aa):List Nat:=(BR due).filter Bm
noncomputable def Nn (due:Aa):List (V×V):=(BC due).map λn=>(V.str (K6 (Ah due) n),V.int (n:Int))
theorem Dc (due:Aa):(BR due).Perm ((Ah due).map (·.1)):=List.mergeSort_perm _ _
theorem FZ (due:Aa):(BR due).Pairwise (· <= ·):=by
 have:=List.pairwise_mergeSort (le:=λa b:Nat=>decide (a<=b)) (λa b c h1 h2=>by simp at h1 h2 ⊢;omega) (λa b=>by simp;omega) ((Ah due).map (·.1));exact this.imp λh=>by simpa using h
theorem Qq {ns:List Int} (hp:ns.Perm ((CS (Ah due)).map λkv=>match kv.1 with |Sum.inl i=>i |Sum.inr _=>0)) (hs:ns.Pairwise (· <= ·)):ns=(BR due).map λn:Nat=>(n:Int):=by
 refine List.Perm.eq_of_pairwise (le:=(· <= ·)) (λa b _ _ h1 h2=>Int.le_antisymm h1 h2) hs ?_ ?_
 ·rw[pairwise_map];exact(FZ due).imp λh=>by omega
 ·have e:((CS (Ah due)).map λkv=>match kv.1 with |Sum.inl i=>i |Sum.inr _=>0)=((Ah due).map (·.1)).map λn:Nat=>(n:Int):=by
   unfold CS;rw[map_map,map_map];rfl
  rw[e]at hp;exact hp.trans ((Dc due).symm.map _)
theorem mem_keysS {n:Nat}:n∈BR due ↔ n∈(Ah due).map (·.1):=(Dc due).mem_iff
theorem JD (due:Aa):(BR due).length<=due.length:=by
 rw[(Dc due).length_eq,AJ];exact Db due
section
inductive spKnown (C:Xd) (vs:Xc) (H:Hp) (Q:VK) (_E:XK):Prop where
 |mk (p:Xd) (due:Aa) (r:Str) (cJ:vs=[.ref p]) (cP:aX C H p due r) (cV:∀H',aA H H'->Q (.int (A6 ((Ah due).map (·.1)):Nat)) H')
theorem Si:AN ["self"] ["self"] (defScope En):=cS
theorem Qr {f:Xd} (F:aY K "known" "Kind.known" En f fd) (B:Bl mg) (T:Jr K C) (GU:Fn P w K mg base "union_of" 1 ["numbers"] (spUnionOf K)):Af P w K mg base aT 2 f fd ["self"] (spKnown C):=by
 obtain⟨fU,dU,GU,mU,kU,bU⟩:=GU.ex;refine F.m Si λvs H Q E h=>?_;obtain⟨p,due,r,rfl,KA,k⟩:=h;refine⟨Zj,λad A outer s hr=>?_⟩;obtain⟨dx,d1,o1,d2,o2,hp,h1,h2⟩:=KA.ex;refine⟨_,AG (AO (AQ GU hr Zj mU kU bU .nil AR (AA (Bp (MB Zj) Zj B.list Jp (AA (BL (pv 0) Zj) AC)) AC))),?_⟩;refine⟨_,Zj,p,C,dx,_,_,Zj,hp,T.cl,T.nF,Qo _ _ _,d2,_,Zj,.inr ⟨o2,h2⟩,λl hl=>?_⟩;refine⟨l,(Ah due).map (·.1),Zj,aK.of (by rw[AB];unfold CS Ay;rw[map_map,map_map];rfl),k _ (AE (aA.refl _) hl)⟩
theorem PB {as:List Xd}{ps:List (V×V)}{b:Xd}{p:V×V} (s:aA H H') (h:aB H as ps) (hb:H' b=some (.tup [p.1,p.2])):aB H' (as++[b]) (ps++[p]):=Paired.snoc (aB.same s h) hb
end
theorem K8 {as:List Xd}{ps:List (V×V)}{i:Nat}{b:Xd} (h:aB H as ps) (e:as[i]?=some b):∃p,ps[i]?=some p/\H b=some (.tup [p.1,p.2]):=Ex h e
section
theorem aX.ins {p:Xd}{r:Str} (h:aX C H p due r):∃dx d1 d2,H p=some (.ins C dx (IK d1 d2 r)):=by
 obtain⟨dx,d1,o1,d2,o2,a,_⟩:=h.ex;exact⟨dx,d1,d2,a⟩
theorem PD (due:Aa):(Nn due).length=(BC due).length:=AJ _
end
theorem No (h:∀p∈due,p.2<2 ^ 20):∀n∈(Ah due).map (·.1),n<2 ^ 20:=λn hn=>by
 obtain⟨q,hq,rfl⟩:=Zr.mp hn;exact h _ (JC hq)
theorem Qs (h:∀p∈due,p.2<2 ^ 20):∀n∈BC due,n<2 ^ 20:=λn hn=>No h n (mem_keysS.mp (mem_filter.mp hn).1)
theorem Fa {x:Int}{n:Nat} (h0:0<=x) (h:x<2 ^ n):Builtin.Int.intBits x<=n:=by
 obtain⟨m,rfl⟩:=Int.eq_ofNat_of_zero_le h0;have hm:m<2 ^ n:=by exact_mod_cast h
 rcases Nat.eq_zero_or_pos m with e |hp
 ·subst e;exact Nat.zero_le _
 ·rw[Dy hp];exact(Nat.log2_lt qe).mpr hm
theorem F4 {xs:Xc}{i:Int} (h0:0<=i) (h1:i<xs.length):∃v,gM xs i=some v/\xs[i.toNat]?=some v:=by
 have hlt:i.toNat<xs.length:=by omega
 refine⟨xs[i.toNat],?_,Z7 hlt⟩;unfold gM iu;rw[Zp h0,Zp h1];exact Z7 hlt
structure aG (d:Xd) (H H':Hp):Prop where
 old:∀b o,H b=some o->b≠d->H' b=some o
 bQ:∃a b:Int,H' d=some (.lst [.int a,.int b])
theorem aG.step {d:Xd}{H1 H2:Hp} (x:aG d H H1) (s:aA H1 H2):aG d H H2 :=
 ⟨λb o e hb=>s _ _ (x.old b o e hb),by obtain⟨a,b,e⟩:=x.bQ;exact⟨a,b,s _ _ e⟩⟩
theorem aG.trans {d:Xd}{H1 H2:Hp} (x:aG d H H1) (y:aG d H1 H2):aG d H H2:=⟨λb o e hb=>y.old _ _ (x.old b o e hb) hb,y.bQ⟩
section
inductive spCell (K:FG) (vs:Xc) (H:Hp) (Q:VK) (_E:XK):Prop where
 |mk (a:Xd) (ns:List Int) (k:Int) (cJ:vs=[.ref a,.int k]) (cP:aK K H a (ns.map V.int)) (cV:ns.length<=63) (dr:0<=k) (d9:∀(v:Int) H',aA H H'->Q (.int v) H')
theorem UT:AN ["_law_script", "_law_k"] ["_law_script", "_law_k"] (defScope HV):=cS
theorem Sj {f:Xd} (F:aY K "_law_cell" "_law_cell" HV f fd) (B:Bl mg):Af P w K mg base aT 1 f fd ["_law_script", "_law_k"] (spCell K):=by
 refine F.m UT λvs H Q E h=>?_;obtain⟨a,ns,kk,rfl,hS,h63,hk,k⟩:=h;refine⟨Zj,λad A outer s hr=>?_⟩;have hu:=hr.units
 refine⟨_,AF (An (AM (UD K Zj hu) (pv 0) (BF AC) (AS _)) (AG (AO (Ab Gr (pv 1) AD))) Ae)
  (AG (AO (Ab C0 (BG (Ar K rfl) (pv 0) (Ab EZ (pv 1) (AW (A8 K rfl) rfl B.len PySem.boot_len (AA (pv 0) AC))) (λ_ _=>rfl))
   (Ab Gr (Ab NH (pv 1) (AW (A8 K rfl) rfl B.len PySem.boot_len (AA (pv 0) AC))) AD)))),?_⟩
 refine⟨_,Zj,Nat.zero_le _,λp hp=>?_⟩;have s1:aA H (upd H p (.lst [])):=AE (aA.refl _) hp;refine⟨a,p,ns,[],Zj,Zj,s1.seq hS,aK.of AB,_,Zj,?_⟩;refine Ba (λh0=>?_) (λh0=>?_)
 ·exact⟨_,Zj,_,_,Zj,Zj,.inr ⟨qc,qc⟩,k _ _ s1⟩
 ·have aw:ns≠ []:=λz=>h0 (ZL z);have hpos:0<ns.length:=List.length_pos_iff.mpr aw;have hl:(ns.map V.int).length=ns.length:=AJ _;have hm0:0<=kk % ((ns.map V.int).length:Int):=Int.emod_nonneg _ (by rw[hl];omega);have hm1:kk % ((ns.map V.int).length:Int)<((ns.map V.int).length:Nat):=Int.emod_lt_of_pos _ (by rw[hl];omega);obtain⟨v,hv,dZ⟩:=F4 (xs:=ns.map V.int) hm0 hm1
  obtain⟨n,rfl⟩:∃n,v=V.int n:=by
   rw[ZE]at dZ;cases e:ns[(kk % ((ns.map V.int).length:Int)).toNat]? with
   |none=>rw[e]at dZ;cases dZ
   |some n=>rw[e]at dZ;exact⟨n,(Option.some.inj dZ).symm⟩
  refine⟨_,Zj,_,Zj,_,Zj,a,_,Zj,.inl (s1.seq hS),_,_,Zj,Zj,(by rw[hl];omega),a,_,_,_,Zj,Zj,s1.seq hS,hv,?_⟩;exact⟨_,Zj,_,Zj,a,_,Zj,.inl (s1.seq hS),_,_,Zj,Zj,⟨by rw[hl];omega,by rw[hl];omega⟩,_,_,Zj,Zj,.inr ⟨qc,qc⟩,_,_,Zj,Zj,k _ _ s1⟩
inductive spDrawn (vs:Xc) (H:Hp) (Q:VK) (_E:XK):Prop where
 |mk (c k:Int) (cJ:vs=[.int c,.int k]) (cP:∀r:Int,0<=r->Q (.int r) H)
theorem scDrawn:AN ["_law_cell_here", "_law_k", "_law_more"] ["_law_cell_here", "_law_k"] (defScope Fx):=cS
theorem Qt {f:Xd} (F:aY K "_law_drawn" "_law_drawn" Fx f fd):Af P w K mg base aT 1 f fd ["_law_cell_here", "_law_k"] spDrawn:=by
 refine F.m scDrawn λvs H Q E h=>?_;obtain⟨c,kk,rfl,k⟩:=h;refine⟨Zj,λad A outer s hr=>?_⟩
 refine⟨_,AF (Ag (i:=2) scDrawn.nd Zj (Or.inl Zj) (Ab EZ (Ab C0 (Ab Gr (pv 0) AD) (Ab Gr (Ab C0 (pv 1) AD) AD)) AD))
  (AF (Ag (i:=2) scDrawn.nd rfl (Or.inl rfl) (Ab EZ (Ab Jc (pv 2) (pv 2)) AD))
  (AF (Ag (i:=2) scDrawn.nd rfl (Or.inl rfl) (Ab Jc (Ab Jc (Ab C0 (Ab EZ (pv 2) AD) AD) (Ab C0 (Ab KY (pv 2) AD) AD)) (pv 2)))
  (AG (AO (Ab EZ (pv 2) AD))))),?_⟩
 refine⟨_,Zj,_,_,Zj,Zj,.inr ⟨qc,qc⟩,_,Zj,_,_,Zj,Zj,_,_,Zj,Zj,.inr ⟨qc,qc⟩,_,_,Zj,Zj,_,_,Zj,Zj,(by show(0:Int)<_;decide),?_⟩;generalize ha:(c*6364136223846793005+(kk+1)*1442695040888963407) % 340282366920938463463374607431768211507=m1
 have h1:0<=m1/\m1<2 ^ 130:=by
  rw[←ha];exact⟨Int.emod_nonneg _ qc,Int.lt_trans (Int.emod_lt_of_pos _ qc) qc⟩
 have b1:Builtin.Int.intBits m1<=2 ^ 20:=Nat.le_trans (Fa h1.1 h1.2) qc;subst ha;refine⟨_,Zj,_,Zj,_,_,Zj,Zj,⟨b1,b1⟩,_,_,Zj,Zj,(by show(0:Int)<_;decide),?_⟩;generalize hb:(c*6364136223846793005+(kk+1)*1442695040888963407) % 340282366920938463463374607431768211507*((c*6364136223846793005+(kk+1)*1442695040888963407) % 340282366920938463463374607431768211507) % 340282366920938463463374607431768211297=m2
 have h2:0<=m2/\m2<2 ^ 130:=by
  rw[←hb];exact⟨Int.emod_nonneg _ qc,Int.lt_trans (Int.emod_lt_of_pos _ qc) qc⟩
 have b2:Builtin.Int.intBits m2<=2 ^ 20:=Nat.le_trans (Fa h2.1 h2.2) qc
 have p1:0<=m2 % 18446744073709551557+1/\m2 % 18446744073709551557+1<2 ^ 65:=by
  have:=Int.emod_nonneg m2 (show(18446744073709551557:Int)≠0 by decide);have:=Int.emod_lt_of_pos m2 (show(0:Int)<18446744073709551557 by decide);omega
 have p2:0<=m2 / 18446744073709551557+1/\m2 / 18446744073709551557+1<2 ^ 131:=by
  have h3:=Int.ediv_nonneg h2.1 (show(0:Int)<=18446744073709551557 by decide);have h4:=Int.ediv_le_self (18446744073709551557) h2.1;omega
 have p3:0<=(m2 % 18446744073709551557+1)*(m2 / 18446744073709551557+1):=Int.mul_nonneg p1.1 p2.1
 have p4:(m2 % 18446744073709551557+1)*(m2 / 18446744073709551557+1)<2 ^ 196:=by
  have:=Int.mul_lt_mul' (Int.le_of_lt p1.2) p2.2 p2.1 (show(0:Int)<2 ^ 65 by decide);exact Int.lt_of_lt_of_le this qc
 have c1:Builtin.Int.intBits (m2 % 18446744073709551557+1)<=2 ^ 20:=Nat.le_trans (Fa p1.1 p1.2) qc;have c2:Builtin.Int.intBits (m2 / 18446744073709551557+1)<=2 ^ 20:=Nat.le_trans (Fa p2.1 p2.2) qc;have c3:Builtin.Int.intBits ((m2 % 18446744073709551557+1)*(m2 / 18446744073709551557+1))<=2 ^ 20:=Nat.le_trans (Fa p3 p4) qc;subst hb;refine⟨_,Zj,_,_,Zj,Zj,(by show(0:Int)<_;decide),_,_,Zj,Zj,_,Zj,_,_,Zj,Zj,⟨qc,PyProof.noPylong_of_log2 qb⟩,_,_,Zj,Zj,_,_,Zj,Zj,⟨c1,c2⟩,?_⟩;refine⟨_,Zj,_,_,Zj,Zj,⟨c3,b2⟩,?_⟩;exact⟨_,Zj,_,_,Zj,Zj,(by show(0:Int)<_;decide),k _ (Int.emod_nonneg _ qc)⟩
inductive dj (vs:Xc) (H:Hp) (Q:VK) (_E:XK):Prop where
 |mk (d:Xd) (a b m:Int) (cJ:vs=[.ref d,.int m]) (cP:H d=some (.lst [.int a,.int b])) (cV:0<m) (dr:m<1073741824) (d9:∀r a' b':Int,0<=r->r<m->Q (.int r) (upd H d (.lst [.int a',.int b'])))
theorem scRoll:AN ["_law_dice", "_law_many", "_law_told_here"] ["_law_dice", "_law_many"] (defScope FS):=cS
inductive spRollB (vs:Xc) (H:Hp) (Q:VK) (_E:XK):Prop where
 |mk (d:Xd) (a b m:Int) (cJ:vs=[.ref d,.int m]) (cP:H d=some (.lst [.int a,.int b])) (cV:0<m) (dr:m.natAbs.log2<9000) (d9:∀r a' b':Int,0<=r->r<m->Q (.int r) (upd H d (.lst [.int a',.int b'])))
theorem Qu {f:Xd} (F:aY K "_law_roll" "_law_roll" FS f fd) (GD:Fn P w K mg base "_law_drawn" 1 ["_law_cell_here", "_law_k"] spDrawn):Af P w K mg base aT 2 f fd ["_law_dice", "_law_many"] spRollB:=by
 obtain⟨fD,dD,GD,mD,kD,bD⟩:=GD.ex;refine F.m scRoll λvs H Q E h=>?_;obtain⟨d,a,b,m,rfl,hd,m0,m1,k⟩:=h;refine⟨Zj,λad A outer s hr=>?_⟩
 refine⟨_,AF (An (AM Pp (BG (Ar K Zj) (pv 0) AD (λ_ _=>rfl)) (Ab Lm AD AD) (AS _))
   (AF (Ag (i:=2) scRoll.nd rfl (Or.inl rfl) (Ab EZ (BG (Ar K rfl) (pv 0) AD (λ_ _=>rfl)) (pv 1)))
   (AF (B6 (Ab KY (BG (Ar K rfl) (pv 0) AD (λ_ _=>rfl)) (pv 1)) (JM (pv 0) AD E7))
   (AG (AO (pv 2))))) Ae)
  (AF (B6 (Ab C0 (BG (Ar K rfl) (pv 0) AD (λ_ _=>rfl)) AD) (JM (pv 0) AD E7))
  (AG (AO (Ab EZ (Ab NH (AQ GD hr rfl mD kD bD .nil AR (AA (BG (Ar K rfl) (pv 0) AD (λ_ _=>rfl)) (AA (BG (Ar K rfl) (pv 0) AD (λ_ _=>rfl)) AC))) AD) (pv 1))))),?_⟩
 refine⟨_,Zj,d,_,0,.int a,Zj,Zj,aK.of hd,BN (j:=0) Zj,_,_,Zj,Zj,⟨qc,qc,qc⟩,_,_,Zj,Zj,_,Zj,?_⟩;refine Ba (λ_=>?_) (λ_=>?_)
 ·refine⟨_,Zj,d,_,0,.int a,Zj,Zj,aK.of hd,BN (j:=0) Zj,_,Zj,_,_,Zj,Zj,m0,?_⟩;refine⟨_,Zj,d,_,0,.int a,Zj,Zj,aK.of hd,BN (j:=0) Zj,_,Zj,_,_,Zj,Zj,⟨m0,PyProof.noPylong_of_log2 m1⟩,_,Zj,d,_,0,0,Zj,Zj,hd,Zj,?_⟩;exact⟨_,Zj,k _ (a / m) b (Int.emod_nonneg _ qe) (Int.emod_lt_of_pos _ m0)⟩
 ·refine⟨_,Zj,d,_,1,.int b,Zj,Zj,aK.of hd,BN (j:=1) Zj,_,_,Zj,Zj,_,Zj,d,_,1,1,Zj,Zj,hd,Zj,?_⟩;have hd2:(upd H d (.lst ([V.int a,V.int b].set 1 (V.int (b+1))))) d=some (.lst [.int a,.int (b+1)]):=AB;refine⟨_,Zj,d,_,0,.int a,Zj,Zj,aK.of hd2,BN (j:=0) Zj,_,Zj,d,_,1,.int (b+1),Zj,Zj,aK.of hd2,BN (j:=1) Zj,_,_,Zj,λr hr0=>?_⟩;refine⟨_,_,Zj,Zj,⟨qc,qc⟩,_,Zj,_,_,Zj,Zj,m0,?_⟩;exact k _ a (b+1) (Int.emod_nonneg _ qe) (Int.emod_lt_of_pos _ m0)
theorem Qw {CX:gD}{k:Nat}{f:Xd}{ps:Xa}{sp sp':Sp} (F:Af P w K mg base CX k f fd ps sp) (h:∀vs H Q E,sp' vs H Q E->sp vs H Q E):Af P w K mg base CX k f fd ps sp' :=
 ⟨λvs H Q E q=>F.len _ _ _ _ (h _ _ _ _ q),λA outer s H args us vs Q E hr he hb hv q=>F.run A outer s H args us vs Q E hr he hb hv (h _ _ _ _ q)⟩
theorem Sk {f:Xd} (F:aY K "_law_roll" "_law_roll" FS f fd) (GD:Fn P w K mg base "_law_drawn" 1 ["_law_cell_here", "_law_k"] spDrawn):Af P w K mg base aT 2 f fd ["_law_dice", "_law_many"] dj:=Qw (Qu F GD) λvs H Q E h=>by
 obtain⟨d,a,b,m,e,hd,h0,h1,q⟩:=h;refine⟨d,a,b,m,e,hd,h0,?_,q⟩
 have:m.natAbs<2 ^ 30:=by
  have:(2:Nat) ^ 30=1073741824:=by decide
  omega
 have:=(Nat.log2_lt (n:=m.natAbs) (k:=30) qe).mpr this;omega
inductive spRuleOf (vs:Xc) (H:Hp) (Q:VK) (_E:XK):Prop where
 |mk (d:Xd) (a b:Int) (cJ:vs=[.ref d]) (cP:H d=some (.lst [.int a,.int b])) (cV:∀(r:Str) H',r∈(["bar", "drop", "keep", "leave"]:Xa)->aG d H H'->Q (.str r) H')
theorem Qx:AN ["_law_dice"] ["_law_dice"] (defScope Et):=cS
theorem PF {f:Xd} (F:aY K "_law_rule_of" "_law_rule_of" Et f fd) (GR:Fn P w K mg base "_law_roll" 2 ["_law_dice", "_law_many"] dj):Af P w K mg base aT 3 f fd ["_law_dice"] spRuleOf:=by
 obtain⟨fR,dR,GR,mR,kR,bR⟩:=GR.ex;refine F.m Qx λvs H Q E h=>?_;obtain⟨d,a,b,rfl,hd,k⟩:=h;refine⟨Zj,λad A outer s hr=>?_⟩;refine⟨_,AG (AO (BG (Ar K Zj) (BF (AA AK (AA AK (AA AK (AA AK AC))))) (AQ GR hr Zj mR kR bR .nil AR (AA (pv 0) (AA AD AC))) (λ_ _=>rfl))),?_⟩;refine⟨sl4,λp hp=>?_⟩;have jm:d≠p:=AI hd hp;refine⟨_,Zj,d,a,b,4,Zj,by rw[AH jm];exact hd,qc,qc,λr a' b' h0 h1=>?_⟩;have hl:(upd (upd H p (.lst [.str "bar", .str "drop", .str "keep", .str "leave"])) d (.lst [.int a',.int b'])) p=some (.lst [.str "bar", .str "drop", .str "keep", .str "leave"]):=by rw[AH (Ne.symm jm),AB]
 obtain⟨v,hv,dZ⟩:=F4 (xs:=[V.str "bar", V.str "drop", V.str "keep", V.str "leave"]) h0 (by show r<4;exact h1)
 have ff:∃x,v=.str x/\x∈(["bar", "drop", "keep", "leave"]:Xa):=by
  have:=ZQ dZ;simp only[mem_cons,not_mem_nil,or_false]at this;rcases this with z |z |z |z
  ·exact⟨_,z,by simp⟩
  ·exact⟨_,z,by simp⟩
  ·exact⟨_,z,by simp⟩
  ·exact⟨_,z,by simp⟩
 obtain⟨x,rfl,hx⟩:=ff;refine⟨p,_,r,_,Zj,Zj,aK.of hl,hv,k x _ hx ⟨λc o e hc=>?_,⟨a',b',AB⟩⟩⟩;rw[AH hc,AH (AI e hp)];exact e
end
theorem Js (n k:Nat):decide (V.int (Builtin.bitAnd ((n:Int) / 2 ^ ((0:Int)+(k:Int)).toNat) 1)=V.int 1)=n.testBit k:=by
 have e0:((0:Int)+(k:Int)).toNat=k:=by omega
 have e1:(n:Int) / 2 ^ k=((n / 2 ^ k:Nat):Int):=by push_cast;rfl
 have e2:Builtin.bitAnd ((n / 2 ^ k:Nat):Int) 1=((n / 2 ^ k % 2:Nat):Int):=by
  have:=DS (n / 2 ^ k) 1;rw[Nat.and_one_is_mod]at this;exact this
 rw[e0,e1,e2,Nat.testBit_eq_decide_div_mod_eq];refine decide_eq_decide.mpr ⟨λh=>?_,λh=>?_⟩
 ·have:=V.int.inj h;omega
 ·rw[h];rfl
section
inductive spRounds (K:FG) (vs:Xc) (H:Hp) (Q:VK) (_E:XK):Prop where
 |mk (a:Xd) (ns:List Int) (cJ:vs=[.ref a,.int 3]) (cP:aK K H a (ns.map V.int)) (cV:ns.length<=63) (dr:∀(l:Xd) (as:List Xd) H',aA H H'->H' l=some (.lst (as.map V.ref))->as.Nodup->l∉ as->as.length<=4->(∀b∈as,H b=none/\∃x y:Int,H' b=some (.lst [.int x,.int y]))->Q (.ref l) H')
theorem Qy:AN ["_law_script", "_law_most"] ["_law_script", "_law_most"] (defScope Er):=cS
theorem PJ {f:Xd} (F:aY K "_law_rounds" "_law_rounds" Er f fd) (B:Bl mg) (GC:Fn P w K mg base "_law_cell" 1 ["_law_script", "_law_k"] (spCell K)):Af P w K mg base aT 2 f fd ["_law_script", "_law_most"] (spRounds K):=by
 obtain⟨fC,dC,GC,mC,kC,bC⟩:=GC.ex;refine F.m Qy λvs H Q E h=>?_;obtain⟨a,ns,rfl,hS,h63,k⟩:=h;refine⟨Zj,λad A outer s hr=>?_⟩
 refine⟨_,AG (AO (Bv ["_law_script"] [some 0] qd qb qd rfl
  (B7 rfl B.range (AA (AW (OP rfl) rfl B.max UQ (AA AD (AA (AW (OQ rfl) rfl B.min UP (AA (pv 1) (AA (AW (A8 K rfl) rfl B.len PySem.boot_len (AA (pv 0) AC)) AC))) AC))) AC))
  (λ_ _ _ _ _ _=>Bu)
  (λ_ _ _ _ _ _=>BF (AA (AQ GC hr rfl mC kC bC .nil AR (AA (pv 1) (AA (pv 0) AC))) (AA AD AC))))),?_⟩
 have hl:(ns.map V.int).length=ns.length:=AJ _;refine⟨_,Zj,_,Zj,a,_,Zj,.inl hS,_,_,Zj,_,_,Zj,_,Zj,?_,?_,?_⟩
 ·split <;> split <;> omega
 ·split <;> split <;> omega
 ·generalize hn:(if (if (((ns.map V.int).length:Nat):Int)<3 then (((ns.map V.int).length:Nat):Int)else 3)>1 then (if (((ns.map V.int).length:Nat):Int)<3 then (((ns.map V.int).length:Nat):Int)else 3)else 1).toNat=n
  have n5:n<=4:=by
   rw[←hn];split <;> split <;> omega
  refine Ec (lo:=0) (n:=n) (λi ys H2=>∃as:List Xd,ys=as.map V.ref/\as.length=i/\i<=4/\aA H H2/\as.Nodup/\∀b∈as,H b=none/\∃x y:Int,H2 b=some (.lst [.int x,.int y])) ⟨[],rfl,rfl,qc,aA.refl _,nodup_nil,λb hb=>nomatch hb⟩ ?_ ?_ ?_
  ·rintro i ys H2 ⟨as,rfl,e,h5,_⟩;rw[AJ];omega
  ·rintro i ys H2 hi ⟨as,rfl,e,h5,s2,nd,hb⟩;refine⟨_,Zj,_,Zj,a,ns,_,Zj,s2.seq hS,h63,qe,λv H3 s3=>⟨eO,λp hp=>?_⟩⟩;refine⟨as++[p],by rw[Zu];rfl,by rw[ZH,e];rfl,qe,AE (s2.trans s3) hp,?_,λb iS=>?_⟩
   ·refine List.nodup_append.mpr ⟨nd,Zs.mpr ⟨not_mem_nil,nodup_nil⟩,?_⟩;intro x hx y hy;rw[ZG]at hy;subst hy;obtain⟨_,x1,y1,e1⟩:=hb x hx;exact AI (s3 _ _ e1) hp
   ·rcases mem_append.mp iS with z |z
    ·obtain⟨h0,x1,y1,e1⟩:=hb b z;exact⟨h0,x1,y1,AE s3 hp _ _ e1⟩
    ·rw[ZG]at z;subst z;refine⟨?_,v,0,AB⟩;cases e:H b with
     |none=>rfl
     |some o =>
      have:=s3 _ _ (s2 _ _ e);rw[this]at hp;cases hp
  ·rintro ys H2 ⟨as,rfl,e,h5,s2,nd,hb⟩ l hl;refine k l as _ (AE s2 hl) AB nd ?_ qe λb iS=>?_
   ·intro z;obtain⟨_,x,y,e1⟩:=hb l z;rw[e1]at hl;cases hl
   ·obtain⟨h0,x,y,e1⟩:=hb b iS;exact⟨h0,x,y,AE (aA.refl _) hl _ _ e1⟩
inductive spBitsOf (vs:Xc) (H:Hp) (Q:VK) (_E:XK):Prop where
 |mk (n:Nat) (cJ:vs=[.int (n:Int)]) (cP:∀l ys H',aA H H'->H' l=some (.lst ys)->ys.length=(DU n).length->Q (.ref l) H')
theorem Qz:AN ["_law_number"] ["_law_number"] (defScope Es):=cS
theorem PL {f:Xd} (F:aY K "_law_bits_of" "_law_bits_of" Es f fd) (B:Bl mg):Af P w K mg base aT 1 f fd ["_law_number"] spBitsOf:=by
 refine F.m Qz λvs H Q E h=>?_;obtain⟨n,rfl,k⟩:=h;refine⟨Zj,λad A outer s hr=>?_⟩
 refine⟨_,AG (AO (Bv ["_law_number"] [some 0] qd qb qd Zj (B7 Zj B.range (AA AD AC))
  (λ_ _ _ _ _ _=>FE (AM Aw (Ab Cc (Ab JN (pv 1) (pv 0)) AD) AD (AS _)))
  (λ_ _ _ _ _ _=>Ab Gs AD (pv 0)))),?_⟩
 refine⟨42,Zj,qc,qc,?_⟩;refine Ec (lo:=0) (n:=42) (λi ys H2=>ys.length=((List.range i).filter λk=>n.testBit k).length/\i<=42/\H2=H) ⟨Zj,qc,Zj⟩ ?_ ?_ ?_
 ·rintro i ys H2 ⟨e,hi,_⟩;rw[e];have:=ZS (λk=>n.testBit k) (List.range i);rw[List.length_range]at this;omega
 ·rintro i ys H2 hi ⟨e,_,rfl⟩;refine⟨_,Zj,_,Zj,_,_,Zj,Zj,qe,_,_,Zj,Zj,?_⟩;refine⟨Zj,_,Zj,?_⟩
  have er:((List.range (i+1)).filter λk=>n.testBit k).length=((List.range i).filter λk=>n.testBit k).length+(if n.testBit i then 1 else 0):=by
   rw[List.range_succ,List.filter_append,ZH,filter_cons,List.filter_nil];split <;> rfl
  refine Ba (λh=>?_) (λh=>?_)
  ·have hb:n.testBit i=true:=by rw[←Js];exact h
   refine⟨_,Zj,_,_,Zj,Zj,⟨qe,by first |decide |omega,by first |decide |omega⟩,?_,qe,Zj⟩;rw[er,hb,ZH,e];rfl
  ·have hb:n.testBit i=false:=by rw[←Js];exact Bool.eq_false_iff.mpr h
   refine⟨?_,qe,Zj⟩;rw[er,hb,e];rfl
 ·rintro ys H2 ⟨e,_,rfl⟩ l hl;exact k l ys _ (AE (aA.refl _) hl) AB e
end
end Mk
end
section
namespace L2
open PySem
def Vb (t u:TS):TS:=λD σ H=>∃G:St->Hp->Prop,(∀R:St->Hp->Prop,(∀σ H,G σ H->R σ H)->t { D with nx:=R } σ H)/\∀σ H,G σ H->u D σ H
theorem CM {X:Cx}{st:Stmt}{rest:List Stmt}{t u:TS} (h1:PS X st t) (h2:eK X rest u):eK X (st::rest) (Vb t u):=λaa s σ H D I ⟨_,a,b⟩=>AF h1 h2 aa s σ H D I (a (u D) b)
end L2
namespace Mk
open PySem L2 MK
def aN (H H':Hp):Prop:=∀b xs,H b=some (.tup xs)->H' b=some (.tup xs)
theorem aN.of (s:aA H H'):aN H H':=λb xs e=>s _ _ e
theorem aN.upd {d:Xd}{xs ys:Xc} (h:H d=some (.lst xs)):aN H (upd H d (.lst ys)):=λb zs e=>by
 rw[AH (λz=>by subst z;rw[h]at e;cases e)];exact e
theorem aN.trans {H1 H2:Hp} (x:aN H H1) (y:aN H1 H2):aN H H2:=λb xs e=>y _ _ (x _ _ e)
theorem aB.aL {as:List Xd}{ps:List (V×V)} (s:aN H H') (h:aB H as ps):aB H' as ps:=Paired.mapP h λ_ _ e=>s _ _ e
theorem gg.aL {v:V}{th:Th} (s:aN H H') (h:gg H v th):gg H' v th:=by
 cases th with
 |aP=>exact h
 |num n=>exact h
 |jM ns=>obtain⟨a,e,h⟩:=h;exact⟨a,e,s _ _ h⟩
theorem dv.aL {b:Xd}{r:Str×Th} (s:aN H H') (h:dv H b r):dv H' b r:=by
 obtain⟨tv,e,t⟩:=h;exact⟨tv,s _ _ e,t.aL s⟩
theorem Bn {as:List Xd}{rows:List (Str×Th)} (s:aN H H') (h:Paired (dv H) as rows):Paired (dv H') as rows:=Paired.mapP h λ_ _ e=>e.aL s
noncomputable def Q0 (due:Aa):List PyData:=due.map λp=>.tuple [.str p.1,.int (p.2:Int)]
theorem Q3 {b:Xd}{x:Str}{n:Int} (h:H b=some (.tup [.str x,.int n])):CA K H (.tuple [.str x,.int n]) (.ref b):=by
 rw[CA];refine⟨b,_,Zj,aQ.of h,?_⟩;rw[BA];refine⟨_,_,Zj,by rw[CA],?_⟩;rw[BA];refine⟨_,_,Zj,by rw[CA],?_⟩;rw[BA]
theorem K9:∀ {due:Aa}{bs:List Xd},aB H bs (FY due)->BA K H (Q0 due) (bs.map V.ref)
 | [],bs,h=>by
  have:bs=[]:=List.eq_nil_of_length_eq_zero (by rw[h.length];rfl);subst this;show BA K H [] [];rw[BA]
 |p::r,[],h=>by have:=h.length;simp[FY]at this
 |p::r,b::bs,h=>by
  have hh:H b=some (.tup [.str p.1,.int (p.2:Int)])/\aB H bs (FY r):=by
   cases h with
   |cons h1 h2=>exact⟨h1,h2⟩
  show BA K H (.tuple [.str p.1,.int (p.2:Int)]::Q0 r) (V.ref b::bs.map V.ref);rw[BA];exact⟨_,_,Zj,Q3 hh.1,K9 hh.2⟩
theorem Hj:∀xs:Xa,BA K H (xs.map PyData.str) (xs.map V.str)
 | []=>by show BA K H [] [];rw[BA]
 |x::r=>by
  show BA K H (.str x::r.map PyData.str) (V.str x::r.map V.str);rw[BA];exact⟨_,_,Zj,by rw[CA],Hj r⟩
theorem DK {l:Xd}{ds:List PyData}{xs:Xc} (h:H l=some (.lst xs)) (d:BA K H ds xs):CA K H (.list ds) (.ref l):=by
 rw[CA];exact⟨l,xs,Zj,aK.of h,d⟩
theorem Jt:BA K H [] []:=by rw[BA]
theorem Np (ds:List PyData):PyData.eqv (.list ds) (.list [])=ds.isEmpty:=by
 cases ds with
 |nil=>rfl
 |cons a r=>simp[PyData.eqv,PyData.eqvAll]
theorem DL {x:Str} (h:x.cps.all (· < 128)=true):PyData.strOk x=true:=by
 unfold PyData.strOk;simp only[Array.all_eq_true,decide_eq_true_eq]at h ⊢;intro i hi;have:=h i hi;simp;omega
theorem Ju {ds:List PyData} (h:∀d∈ds,d.canLay0=true):PyData.canLayAll0 ds=true:=by
 induction ds with
 |nil=>rfl
 |cons a r ih=>rw[PyData.canLayAll0,h a ZI,ih λd hd=>h d (ZR _ hd)];rfl
theorem UU {ds:List PyData}{k:Nat} (h:∀d∈ds,d.depth<=k):PyData.depthAll ds<=k:=by
 induction ds with
 |nil=>rw[PyData.depthAll];exact Nat.zero_le _
 |cons a r ih=>rw[PyData.depthAll];exact Nat.max_le.mpr ⟨h a ZI,ih λd hd=>h d (ZR _ hd)⟩
theorem GV {ds:List PyData} (h:∀d∈ds,d.canLay0=true/\d.depth<=60):SeqAt.shaped (.list ds)=true:=by
 unfold SeqAt.shaped;rw[Bool.and_eq_true,decide_eq_true_eq];refine⟨by rw[PyData.canLay0];exact Ju λd hd=>(h d hd).1,?_⟩;rw[PyData.depth];have:=UU (k:=60) λd hd=>(h d hd).2;omega
theorem Q4 {x:Str}{n:Int} (h:x.cps.all (· < 128)=true):(PyData.tuple [.str x,.int n]).canLay0=true/\(PyData.tuple [.str x,.int n]).depth<=60:=by
 refine⟨?_,?_⟩
 ·rw[PyData.canLay0];refine Ju λd hd=>?_;simp only[mem_cons,not_mem_nil,or_false]at hd;rcases hd with rfl |rfl
  ·rw[PyData.canLay0];exact DL h
  ·rw[PyData.canLay0]
 ·simp only[PyData.depth,PyData.depthAll];omega
theorem LA (h:∀p∈due,p.1.cps.all (· < 128)=true):SeqAt.shaped (.list (Q0 due))=true:=GV λd hd=>by
 obtain⟨p,hp,rfl⟩:=Zr.mp hd;exact Q4 (h p hp)
theorem GY {xs:Xa} (h:∀x∈xs,x.cps.all (· < 128)=true):SeqAt.shaped (.list (xs.map PyData.str))=true:=GV λd hd=>by
 obtain⟨x,hx,rfl⟩:=Zr.mp hd;exact⟨by rw[PyData.canLay0];exact DL (h x hx),by simp[PyData.depth]⟩
theorem Ey:SeqAt.shaped (.list [])=true:=by decide +kernel
noncomputable def uni (due:Aa) (ns:Xa):Nat:=A6 (due.map λp=>if dY (.str p.1) (ns.map V.str)then p.2 else 0)
theorem Nq (x:Str) (ns:Xa):dY (.str x) (ns.map V.str)=ns.any (· == x):=by
 unfold dY;rw[any_map];rfl
theorem D5 {p:Str×Nat} (nd:(due.map (·.1)).Nodup) (h:p∈due):look due p.1=p.2:=by
 induction due with
 |nil=>cases h
 |cons q r ih =>
  rw[map_cons,Zs]at nd;unfold look;by_cases e:q.1=p.1
  ·rw[List.find?_cons_of_pos (by simpa using e)];rcases mem_cons.mp h with z |z
   ·subst z;rfl
   ·exact absurd (Zr.mpr ⟨p,z,e.symm⟩) nd.1
  ·rw[List.find?_cons_of_neg (by simpa using e)];rcases mem_cons.mp h with z |z
   ·subst z;exact absurd Zj e
   ·exact ih nd.2 z
theorem UV {ns:Xa} (nd:(due.map (·.1)).Nodup) (hs:∀x∈ns,x∈due.map (·.1)):uni due ns=A6 (ns.map (look due)):=by
 refine Nat.eq_of_testBit_eq λk=>?_;unfold uni;rw[EG,EG,any_map,any_map,Bool.eq_iff_iff,any_eq_true,any_eq_true];constructor
 ·rintro⟨p,hp,hb⟩;simp only[Function.comp]at hb;by_cases hi:dY (.str p.1) (ns.map V.str)=true
  ·rw[Zp hi]at hb;rw[Nq,any_eq_true]at hi;obtain⟨x,hx,e⟩:=hi;have e':x=p.1:=by simpa using e
   subst e';exact⟨p.1,hx,by simp only[Function.comp];rw[D5 nd hp];exact hb⟩
  ·rw[Zq hi,Nat.zero_testBit]at hb;cases hb
 ·rintro⟨x,hx,hb⟩;obtain⟨p,hp,rfl⟩:=Zr.mp (hs x hx);refine⟨p,hp,?_⟩;simp only[Function.comp]at hb ⊢;rw[D5 nd hp]at hb;rw[Zp (by rw[Nq,any_eq_true];exact⟨p.1,hx,by simp⟩)];exact hb
theorem LB {rows:List (Str×Th)}{r:Str×Th} (h:Ew rows) (hr:Nk (Aj rows) r):Ew (rows++[r]):=by
 intro i q e;rcases Nat.lt_trichotomy i rows.length with z |z |z
 ·rw[List.getElem?_append_left z]at e;rw[List.take_append_of_le_length (Nat.le_of_lt z)];exact h i q e
 ·subst z;rw[getElem?_append_right (Zy _),Nat.sub_self]at e;have:r=q:=by simpa using e
  subst this;rw[List.take_append_of_le_length (Zy _),ZB];exact hr
 ·rw[List.getElem?_eq_none (by rw[ZH,length_singleton];omega)]at e;cases e
theorem LD {rows:List (Str×Th)} (h:Ew rows) (iA:rows.length<=10):CT (Aj rows):=by
 have key:∀n,n<=rows.length->CT (Aj (rows.take n)):=by
  intro n;induction n with
  |zero=>intro _;rw[List.take_zero];exact⟨qc,(λp hp=>nomatch hp),nodup_nil,(λp hp=>nomatch hp)⟩
  |succ n ih =>
   intro hn;have D:=ih qe;have hq:rows[n]?=some rows[n]:=Z7 qe;have R:=h n _ hq;rw[ZD,hq,Option.toList_some,F1];refine⟨?_,λp hp=>?_,?_,λp hp=>?_⟩
   ·rw[ZH,length_singleton];have:=R.few;omega
   ·rcases mem_append.mp hp with z |z
    ·exact D.lt p z
    ·rw[ZG]at z;subst z;exact R.lt
   ·rw[Zu];refine List.nodup_append.mpr ⟨D.nd,Zs.mpr ⟨not_mem_nil,nodup_nil⟩,?_⟩;intro x hx y hy;have ey:y=(rows[n]).1:=by simpa using hy
    subst ey;exact λz=>R.new (z ▸ hx)
   ·rcases mem_append.mp hp with z |z
    ·exact D.nm p z
    ·rw[ZG]at z;subst z;exact R.nm
 have:=key rows.length (Zy _);rw[ZB]at this;exact this
theorem UW {A B:TT}{σ:St}{Q:Bool->Hp->Prop} (p q:Bool) (hA:∀Q':Bool->Hp->Prop,Q' p H->A σ H Q') (hB:∀Q':Bool->Hp->Prop,Q' q H->B σ H Q') (h:Q (p ||q) H):tOr A B σ H Q:=by
 refine hA _ ?_;cases p with
 |true=>exact Ao h
 |false=>exact Ac (hB _ h)
theorem Sl {A B:TT}{σ:St}{Q:Bool->Hp->Prop} (p q:Bool) (hA:∀Q':Bool->Hp->Prop,Q' p H->A σ H Q') (hB:∀Q':Bool->Hp->Prop,(∀H',aA H H'->Q' q H')->B σ H Q') (h:∀H',aA H H'->Q (p&&q) H'):U5 A B σ H Q:=by
 refine hA _ ?_;cases p with
 |true=>exact Ao (hB _ h)
 |false=>exact Ac (h _ (aA.refl _))
theorem JE {p:Xd} (s:aA H H') (h:H' p=none):H p=none:=by
 cases e:H p with
 |none=>rfl
 |some o=>rw[s _ _ e]at h;cases h
theorem C6 {X:Cx}{x:Str}{j}{p:Pos}{es:List Expr}{t:TA} (h:PA X es t):PA X (.Constant (.str x) j p::es) (Al (tC (.str x)) t):=AA AK h
theorem PM {X:Cx}{x0 x1 x2 x3 x4 x5 x6 x7 x8 x9:Str}{j0}{j1}{j2}{j3}{j4}{j5}{j6}{j7}{j8}{j9}{p0 p1 p2 p3 p4 p5 p6 p7 p8 p9:Pos}:PA X [.Constant (.str x0) j0 p0,.Constant (.str x1) j1 p1,.Constant (.str x2) j2 p2,.Constant (.str x3) j3 p3,.Constant (.str x4) j4 p4,.Constant (.str x5) j5 p5,.Constant (.str x6) j6 p6,.Constant (.str x7) j7 p7,.Constant (.str x8) j8 p8,.Constant (.str x9) j9 p9] (Al (tC (.str x0)) (Al (tC (.str x1)) (Al (tC (.str x2)) (Al (tC (.str x3)) (Al (tC (.str x4)) (Al (tC (.str x5)) (Al (tC (.str x6)) (Al (tC (.str x7)) (Al (tC (.str x8)) (Al (tC (.str x9)) (C1))))))))))):=C6 (C6 (C6 (C6 (C6 (C6 (C6 (C6 (C6 (C6 (AC))))))))))
theorem CZ {bs:List Xd}{i:Nat}{v:V} (h:aB H bs (FY due)) (e:(bs.map V.ref)[i]?=some v):∃b p,v=.ref b/\bs[i]?=some b/\due[i]?=some p/\H b=some (.tup [.str p.1,.int (p.2:Int)]):=by
 rw[ZE]at e
 obtain⟨b,hb,rfl⟩:∃b,bs[i]?=some b/\v=V.ref b:=by
  cases q:bs[i]? with
  |none=>rw[q]at e;cases e
  |some x=>rw[q]at e;exact⟨x,Zj,(Option.some.inj e).symm⟩
 obtain⟨pq,iw,aj⟩:=K8 h hb;unfold FY at iw;rw[ZE]at iw
 obtain⟨pr,hpr,rfl⟩:∃q,due[i]?=some q/\pq=(V.str q.1,V.int (q.2:Int)):=by
  cases q:due[i]? with
  |none=>rw[q]at iw;cases iw
  |some x=>rw[q]at iw;exact⟨x,Zj,(Option.some.inj iw).symm⟩
 exact⟨b,pr,Zj,hb,hpr,aj⟩
noncomputable def bV:Xa:=["A", "B", "CD", "EFG", "H", "IJKLMN", "O", "P", "Q", "R"]
theorem Q5:∀x∈bV,Va x:=by
 have:∀x∈bV,(By x&&x.cps.all (· < 128)&&decide (x.length<=1000))=true:=by decide +kernel
 intro x hx;have:=this x hx;simp only[Bool.and_eq_true,decide_eq_true_eq]at this;exact⟨this.1.1,this.1.2,this.2⟩
theorem PN:∀i:Fin 10,(bV[i.1]?.map λx=>decide (x∈bV.take i.1))=some false:=by decide +kernel
structure LW (d w f u:Xd) (H0 H:Hp) (rows:List (Str×Th)):Prop where
 old:∀b o,H0 b=some o->b≠d->H b=some o
 bQ:∃a b:Int,H d=some (.lst [.int a,.int b])
 words:H w=some (.lst (bV.map V.str))
 found:∃as:List Xd,H f=some (.lst (as.map V.ref))/\Paired (dv H) as rows
 due:∃bs:List Xd,H u=some (.lst (bs.map V.ref))/\aB H bs (FY (Aj rows))
structure Ap (d w f u:Xd) (H0:Hp):Prop where
 wd:w≠d
 fd:f≠d
 ud:u≠d
 wf:w≠f
 wu:w≠u
 fu:f≠u
 nf:H0 f=none
 nu:H0 u=none
section
variable {d w f u:Xd}{H0:Hp}{rows:List (Str×Th)}
theorem LW.same (h:LW d w f u H0 H rows) (s:aA H H'):LW d w f u H0 H' rows:=by
 obtain⟨a,b,e⟩:=h.bQ;obtain⟨as,e1,p1⟩:=h.found;obtain⟨bs,e2,p2⟩:=h.due;exact⟨λc o ec hc=>s _ _ (h.old c o ec hc),⟨a,b,s _ _ e⟩,s _ _ h.words,⟨as,s _ _ e1,Bn (aN.of s) p1⟩,⟨bs,s _ _ e2,aB.aL (aN.of s) p2⟩⟩
theorem LW.roll (A:Ap d w f u H0) (h:LW d w f u H0 H rows) (a' b':Int):LW d w f u H0 (upd H d (.lst [.int a',.int b'])) rows:=by
 obtain⟨a,b,e⟩:=h.bQ;obtain⟨as,e1,p1⟩:=h.found;obtain⟨bs,e2,p2⟩:=h.due;have t:aN H (upd H d (.lst [.int a',.int b'])):=aN.upd e;exact⟨λc o ec hc=>by rw[AH hc];exact h.old c o ec hc,⟨a',b',AB⟩,by rw[AH A.wd];exact h.words,⟨as,by rw[AH A.fd];exact e1,Bn t p1⟩,⟨bs,by rw[AH A.ud];exact e2,aB.aL t p2⟩⟩
end
theorem Ca {rows:List (Str×Th)}{bs:List Xd} (h:aB H bs (FY (Aj rows))):bs.length=rows.length:=by
 rw[h.length];unfold FY;rw[AJ,Bf]
theorem LF (rows:List (Str×Th)):(Aj rows).map (·.1)=rows.map (·.1):=by
 have:∀(l:List (Str×Th)) (a:Aa),((l.foldl (λdue r=>due++[(r.1,Cr due r.2)]) a).map (·.1))=a.map (·.1)++l.map (·.1):=by
  intro l;induction l with
  |nil=>intro a;simp
  |cons x r ih=>intro a;rw[foldl_cons,ih,Zu];simp
 have e:=this rows [];unfold Aj;rw[e];rfl
noncomputable def Wk:St->Nat
 | [_,_,_,_,_,_,_,_,_,some (.int i),_,_]=>(2 ^ 22 - i).toNat
 |_=>0
section
inductive spLines (vs:Xc) (H:Hp) (Q:VK) (_E:XK):Prop where
 |mk (d:Xd) (a b M:Int) (cJ:vs=[.ref d,.int M]) (cP:1<=M) (cV:M<=10) (dr:H d=some (.lst [.int a,.int b])) (d9:∀(q f u:Xd) (as bs:List Xd) (rows:List (Str×Th)) H',aG d H H'->H' q=some (.tup [.ref f,.ref u])->H f=none->H u=none->H' f=some (.lst (as.map V.ref))->Paired (dv H') as rows->H' u=some (.lst (bs.map V.ref))->aB H' bs (FY (Aj rows)) ->     0<rows.length->(rows.length:Int)<=M->Ew rows->(∀x∈rows.map (·.1),x∈bV)->Q (.ref q) H')
noncomputable abbrev UX:Xa:=["_law_dice", "_law_most", "_law_words", "_law_found", "_law_due", "_law_at", "_law_high", "_law_kind", "_law_thing", "_law_number", "_law_name", "_law_more"]
@[irreducible] noncomputable def Mw:Expr:=match defBody CG with | .Assign _ (.Tuple (e::_) _ _) _::_=>e |_=>.Constant .none 0 ⟨0,0,0,0⟩
noncomputable abbrev Sm:Stmt:=match defBody CG with | .Assign t (.Tuple (_::r) k p) q::_=>.Assign t (.Tuple (Mw::r) k p) q |_=>.Pass ⟨0,0,0,0⟩
noncomputable abbrev UY:List Stmt:=(defBody CG).drop 1
theorem UZ:defBody CG=Sm::UY:=by kernel_rfl
theorem PP {X:Cx}:PE X Mw (VF (Al (tC (.str "A")) (Al (tC (.str "B")) (Al (tC (.str "CD")) (Al (tC (.str "EFG")) (Al (tC (.str "H")) (Al (tC (.str "IJKLMN")) (Al (tC (.str "O")) (Al (tC (.str "P")) (Al (tC (.str "Q")) (Al (tC (.str "R")) (C1)))))))))))):=by
 unfold Mw;exact BF PM
theorem aU:AN UX ["_law_dice", "_law_most"] (defScope CG):=cS
theorem Q6 {f0:Xd} (F:aY K "_law_lines" "_law_lines" CG f0 fd) (B:Bl mg) (GR:Fn P w K mg base "_law_roll" 2 ["_law_dice", "_law_many"] dj):Af P w K mg base aT 3 f0 fd ["_law_dice", "_law_most"] spLines:=by
 obtain⟨fR,dR,GR,mR,kR,bR⟩:=GR.ex;refine F.m aU λvs H Q E h=>?_;obtain⟨d,a,b,M,rfl,M1,M10,hd,k⟩:=h;refine⟨Zj,λad A outer s hr=>?_⟩;have hu64:=hr.units;have nd:=aU.nd;rw[UZ]
 refine⟨_,AF (B6 (hs:=by kernel_rfl) (hw:=by kernel_rfl) (As (AA (hs:=by kernel_rfl) PP (AA (BF AC) (AA (BF AC) AC))))
   (Bc rfl (AY (AV (i:=2) aU.nd rfl (Or.inl rfl)) (AY (AV (i:=3) aU.nd rfl (Or.inl rfl)) (AY (AV (i:=4) aU.nd rfl (Or.inr rfl)) BE)))))
  (AF (DP PassesOwn.never rfl (B7 rfl B.range (AA (Ab C0 AD (AQ GR hr rfl mR kR bR .nil AR (AA (pv 0) (AA (pv 1) AC)))) AC)) (AV (i:=5) aU.nd rfl (Or.inl rfl))
   (CM (Ag (i:=6) aU.nd rfl (Or.inl rfl) (NU rfl rfl B.max (HC [] [] qd qb qd qd rfl (CJ (pv 4)) (λ_ _ _ _ _ _=>Bu) (λ_ _ _ _ _ _=>pv 1)) AD))
   (AF (Ag (i:=7) aU.nd rfl (Or.inl rfl) (AQ GR hr rfl mR kR bR .nil AR (AA (pv 0) (AA AD AC))))
   (AF (B6 (hs:=by kernel_rfl) (hw:=by kernel_rfl) (As (AA Pf (AA AD AC))) (Bc rfl (AY (AV (i:=8) aU.nd rfl (Or.inl rfl)) (AY (AV (i:=9) aU.nd rfl (Or.inl rfl)) BE))))
   (CM (E3 PassesOwn.never (AM E4 (pv 9) (pv 6) (AS _)) (AG (Ag (i:=9) aU.nd rfl (Or.inl rfl) (Ab Gr (pv 9) AD))))
   (CM (An (PW.pt (EN (AM Aw (pv 7) AD (AS _)) (Cw (AM Pp (pv 9) (Ab Lm AD AD) (AS _)))))
     (AF (Ag (i:=8) aU.nd rfl (Or.inl rfl) (BG (Ar K rfl) (BF (AA (Ab Gs AD (AQ GR hr rfl mR kR bR .nil AR (AA (pv 0) (AA AD AC)))) (AA (AQ GR hr rfl mR kR bR .nil AR (AA (pv 0) (AA AD AC)))
      (AA (Ab Gs AD (AQ GR hr rfl mR kR bR .nil AR (AA (pv 0) (AA AD AC)))) (AA AD AC))))) (AQ GR hr rfl mR kR bR .nil AR (AA (pv 0) (AA AD AC))) (λ_ _=>rfl)))
     (AG (Ag (i:=9) aU.nd rfl (Or.inl rfl) (pv 8)))) Ae)
   (CM (An (PW.pt (Do (AM IT (pv 7) AD (AS _)) (Ci (AM (HE K rfl hu64) (pv 4) (BF AC) (AS _)))))
     (AF (Ag (i:=8) aU.nd rfl (Or.inl rfl) (Bp ID rfl B.tuple HZ (AA (Bv ["_law_due", "_law_dice"] [some 4,some 0] qd qb qd rfl (B7 rfl B.range (AA (Ab C0 AD (AQ GR hr rfl mR kR bR .nil AR (AA (pv 0) (AA AD AC)))) AC)) (λ_ _ _ _ _ _=>Bu)
      (λ_ _ _ _ _ _=>BG (Ai K rfl) (BG (Ar K rfl) (pv 1) (AQ GR hr rfl mR kR bR .nil AR (AA (pv 2) (AA (AW (A8 K rfl) rfl B.len PySem.boot_len (AA (pv 1) AC)) AC))) (λ_ _=>rfl)) AD (λ_ _=>rfl))) AC)))
     (AF (Ag (i:=9) aU.nd rfl (Or.inl rfl) AD)
     (AG (DP PassesOwn.never rfl (CJ (pv 4)) (Bc rfl (AY (AV (i:=10) aU.nd rfl (Or.inl rfl)) (AY (AV (i:=11) aU.nd rfl (Or.inl rfl)) BE)))
      (AG (Ag (i:=9) aU.nd rfl (Or.inl rfl) (Ab KG (pv 9) (C8 (AM DB (pv 10) (pv 8) rfl) (pv 11) AD)))))))) Ae)
   (AF (BJ (FB PySem.F.plainAttrs_list PySem.F.slot_list_append PySem.F.type_list_append B8 (pv 3) (AA (As (AA (BG (Ar K rfl) (pv 2) (pv 5) (λ_ _=>rfl)) (AA (pv 8) AC))) AC)))
   (AG (BJ (FB PySem.F.plainAttrs_list PySem.F.slot_list_append PySem.F.type_list_append B8 (pv 4) (AA (As (AA (BG (Ar K rfl) (pv 2) (pv 5) (λ_ _=>rfl)) (AA (pv 9) AC))) AC))))))))))))
  (AG (AO (As (AA (pv 3) (AA (pv 4) AC)))))),?_⟩
 refine⟨(by show 10<=sizeLine;decide),λpw hpw=>⟨Nat.zero_le _,λpf hpf=>⟨Nat.zero_le _,λpu hpu=>⟨eX,λq0 hq0=>?_⟩⟩⟩⟩;refine⟨q0,_,Zj,aQ.of AB,Zj,_,_,Zj,_,_,Zj,_,_,Zj,Zj,?_⟩;have dw:pw≠d:=Ne.symm (AI hd hpw);have s1:aA H (upd H pw (.lst (bV.map V.str))):=AE (aA.refl _) hpw;have s2:aA (upd H pw (.lst (bV.map V.str))) (upd (upd H pw (.lst (bV.map V.str))) pf (.lst [])):=AE (aA.refl _) hpf;have s3:aA (upd (upd H pw (.lst (bV.map V.str))) pf (.lst [])) (upd (upd (upd H pw (.lst (bV.map V.str))) pf (.lst [])) pu (.lst [])):=AE (aA.refl _) hpu;have s4:=AE (aA.refl _) hq0 (o:=HO.tup [.ref pw,.ref pf,.ref pu]);have nf0:H pf=none:=JE s1 hpf;have nu0:H pu=none:=JE (s1.trans s2) hpu;have AP:Ap d pw pf pu H:=⟨dw,Ne.symm (AI hd nf0),Ne.symm (AI hd nu0),AI AB hpf,AI (s2 _ _ AB) hpu,AI AB hpu,nf0,nu0⟩;have L0:LW d pw pf pu H _ []:=⟨λb o e _=>s4 _ _ (s3 _ _ (s2 _ _ (s1 _ _ e))),⟨a,b,s4 _ _ (s3 _ _ (s2 _ _ (s1 _ _ hd)))⟩,s4 _ _ (s3 _ _ (s2 _ _ AB)),⟨[],s4 _ _ (s3 _ _ AB),.nil⟩,⟨[],s4 _ _ AB,.nil⟩⟩;obtain⟨a1,b1,eS⟩:=L0.bQ;refine⟨_,Zj,_,Zj,d,a1,b1,M,Zj,eS,qe,qe,λr a' b' h0 h1=>?_⟩;refine⟨_,_,Zj,Zj,_,Zj,qe,qe,?_⟩
 refine DA (lo:=0) (n:=(1+r).toNat) (λi σ H2=>∃(v5 v6 v7 v8 v9 v10 v11:Option V) (rows:List (Str×Th)),σ=[some (.ref d),some (.int M),some (.ref pw),some (.ref pf),some (.ref pu),v5,v6,v7,v8,v9,v10,v11]/\rows.length=i/\Ew rows/\rows.map (·.1)=bV.take i/\LW d pw pf pu H H2 rows)
  ⟨none,none,none,none,none,none,none,[],rfl,rfl,(λi r e=>by simp at e),rfl,L0.roll AP a' b'⟩ ?_ ?_
 ·rintro i σ H2 hi ⟨v5,v6,v7,v8,v9,v10,v11,rows,rfl,a0,RO,cq,L⟩;have hi10:i<10:=by omega
  have DO:CT (Aj rows):=LD RO qe;generalize b8:Di ((Aj rows).map (·.2))=bg
  have hh20:bg<2 ^ 20:=by
   rw[←b8];exact K1 qc λn hn=>by obtain⟨p,hp,rfl⟩:=Zr.mp hn;exact DO.lt p hp
  refine⟨λσ H3=>σ=[some (.ref d),some (.int M),some (.ref pw),some (.ref pf),some (.ref pu),some (.int (0+(i:Int))),some (.int (bg:Int)),v7,v8,v9,v10,v11]/\LW d pw pf pu H H3 rows,λR hR=>?_,?_⟩
  ·obtain⟨bs,hu,gG⟩:=L.due;have gj:=Ca gG;refine⟨_,Zj,pu,Zj,⟨_,aK.of hu⟩,DF (K:=K) (a:=pu) (xs:=bs.map V.ref) (λj ys H3=>ys=Ay (((Aj rows).take j).map (·.2))/\H3=H2) ⟨by rfl,Zj⟩ (λj ys H3 _ ⟨_,e⟩=>e ▸ aK.of hu) (λj ys H3 ⟨e,_⟩=>?_) ?_ ?_⟩
   ·rw[e];unfold Ay;rw[AJ,AJ,ZA,Bf];omega
   ·rintro j v ys H3 hj ⟨rfl,rfl⟩;obtain⟨bb,p,rfl,hb1,ak,aj⟩:=CZ gG hj;refine⟨bb,_,Zj,aQ.of aj,Zj,_,_,Zj,_,_,Zj,Zj,?_⟩;refine⟨_,Zj,?_,Zj⟩;rw[ZD,ak,Option.toList_some,Zu];unfold Ay;rw[Zu];rfl
   ·rintro ys H3 ⟨rfl,rfl⟩ p hp;have sp:=AE (aA.refl _) hp (o:=HO.lst (Ay (((Aj rows).take (bs.map V.ref).length).map (·.2))));have el:(Aj rows).take (bs.map V.ref).length=Aj rows:=by rw[AJ,gj,←Bf,ZB]
    refine⟨p,((Aj rows).map (·.2)).map (λn:Nat=>(n:Int)),0,Zj,Zj,aK.of (by rw[AB,el,Gi]),λe=>?_,λe=>?_⟩
    ·refine hR _ _ ⟨?_,L.same sp⟩;have:(Aj rows).map (·.2)=[]:=List.map_eq_nil_iff.mp e;rw[this]at b8;subst b8;rfl
    ·refine hR _ _ ⟨?_,L.same sp⟩;have aw:(Aj rows).map (·.2)≠ []:=λz=>e (by rw[z];rfl);rw[K2 aw,b8];rfl
  ·rintro σ H3 ⟨rfl,L3⟩;obtain⟨a3,b3,iQ⟩:=L3.bQ;refine⟨_,Zj,d,a3,b3,8,Zj,iQ,qc,qc,λkd a4 b4 kd0 kd1=>?_⟩;have L4:=L3.roll AP a4 b4;refine⟨eO,λq hq=>⟨q,_,Zj,aQ.of AB,Zj,_,_,Zj,_,_,Zj,Zj,?_⟩⟩;have L5:=L4.same (AE (aA.refl _) hq (o:=HO.tup [V.aP,V.int 1]));refine⟨λσ H6=>σ=[some (.ref d),some (.int M),some (.ref pw),some (.ref pf),some (.ref pu),some (.int (0+(i:Int))),some (.int (bg:Int)),some (.int kd),some .aP,some (.int (BZ bg:Nat)),v10,v11]/\LW d pw pf pu H H6 rows,λR hR=>?_,?_⟩
   ·refine Pn (λσ H6=>LW d pw pf pu H H6 rows/\∃j:Nat,j<=20/\σ=[some (.ref d),some (.int M),some (.ref pw),some (.ref pf),some (.ref pu),some (.int (0+(i:Int))),some (.int (bg:Int)),some (.int kd),some .aP,some (.int ((2 ^ j:Nat):Int)),v10,v11]/\(j=0\/2 ^ (j - 1)<=bg)) (λσ _=>Wk σ) ⟨L5,0,qe,Zj,.inl Zj⟩ ?_ ?_
    ·rintro σ H6 ⟨L6,j,hj,rfl,hjj⟩;refine⟨_,Zj,_,Zj,_,_,Zj,Zj,_,Zj,?_⟩;refine Ba (λhle=>?_) (λhle=>?_)
     ·have hle':2 ^ j<=bg:=by have:=ZV hle;exact_mod_cast this
      have hj20:j<20:=(Nat.pow_lt_pow_iff_right qc).mp (Nat.lt_of_le_of_lt hle' hh20);refine⟨_,Zj,_,_,Zj,Zj,.inr ⟨qc,qc⟩,?_⟩;have e2:(((2 ^ j:Nat):Int)*2)=((2 ^ (j+1):Nat):Int):=by rw[Nat.pow_succ];omega
      refine⟨⟨L6,j+1,qe,?_,.inr hle'⟩,?_⟩
      ·show [some (V.ref d),some (V.int M),some (V.ref pw),some (V.ref pf),some (V.ref pu),some (V.int (0+(i:Int))),some (V.int (bg:Int)),some (V.int kd),some V.aP,some (V.int (((2 ^ j:Nat):Int)*2)),v10,v11]=_;rw[e2]
      ·show(2 ^ 22 - (((2 ^ j:Nat):Int)*2)).toNat<(2 ^ 22 - ((2 ^ j:Nat):Int)).toNat;have h1:0<2 ^ j:=Nat.two_pow_pos j;have h2:2 ^ j<=2 ^ 20:=Nat.pow_le_pow_right qc hj;omega
     ·have hgt:bg<2 ^ j:=by
       have:¬ ((2 ^ j:Nat):Int)<=(bg:Int):=λz=>hle (ZL z);omega
      refine hR _ _ ⟨?_,L6⟩;rw[K0 hgt hjj]
    ·rintro σ H6 Q1 Q2 hQ ⟨v,e1,v2,e2,i,j,a,b,c,ec,q⟩;exact⟨v,e1,v2,e2,i,j,a,b,c,ec,hQ _ _ q⟩
   ·rintro σ H6 ⟨rfl,L6⟩;have hsig:∀(tv nv il ik:V),True:=λ_ _ _ _=>trivial;refine⟨λσ H7=>∃(tv:V) (th:Th) (il ik:Option V),σ=[some (.ref d),some (.int M),some (.ref pw),some (.ref pf),some (.ref pu),some (.int (0+(i:Int))),some (.int (bg:Int)),some (.int kd),some tv,some (.int (Cr (Aj rows) th:Nat)),il,ik]/\LW d pw pf pu H H7 rows/\gg H7 tv th/\Sd (Aj rows) th/\Cr (Aj rows) th<2 ^ 20,λR hR=>?_,?_⟩
    ·refine UW (decide (V.int kd=V.int 5)) (decide ((2:Int) ^ (20:Int).toNat<=(BZ bg:Nat))) (λQ' h=>⟨_,Zj,Zj,_,Zj,h⟩) (λQ' h=>⟨_,Zj,_,_,Zj,Zj,⟨qc,qc,qc⟩,_,_,Zj,Zj,_,Zj,h⟩) ?_;refine Ba (λ_=>?_) (λhc=>?_)
     ·obtain⟨x1,y1,e1⟩:=L6.bQ;refine⟨_,Zj,d,x1,y1,8,Zj,e1,qc,qc,λr1 a1 b1 r10 r11=>?_⟩;have M1:=L6.roll AP a1 b1;refine⟨_,_,Zj,Zj,⟨r10,qe,qc⟩,?_⟩;obtain⟨x2,y2,e2⟩:=M1.bQ;refine⟨_,Zj,d,x2,y2,64,Zj,e2,qc,qc,λr2 a2 b2 r20 r21=>?_⟩;have M2:=M1.roll AP a2 b2;obtain⟨x3,y3,e3⟩:=M2.bQ;refine⟨_,Zj,d,x3,y3,20,Zj,e3,qc,qc,λr3 a3 b3 r30 r31=>?_⟩;have M3:=M2.roll AP a3 b3;refine⟨_,_,Zj,Zj,⟨r30,qe,qc⟩,?_⟩;refine⟨sl4,λp hp=>?_⟩;have M4:=M3.same (AE (aA.refl _) hp (o:=HO.lst [V.int (1*2 ^ r1.toNat),V.int r2,V.int (1*2 ^ r3.toNat),V.int 0]));obtain⟨x4,y4,e4⟩:=M4.bQ;have jm:p≠d:=Ne.symm (AI AB hp);refine⟨_,Zj,d,x4,y4,4,Zj,e4,qc,qc,λr4 a4 b4 r40 r41=>?_⟩;have M5:=M4.roll AP a4 b4;obtain⟨v,hv,dZ⟩:=F4 (xs:=[V.int (1*2 ^ r1.toNat),V.int r2,V.int (1*2 ^ r3.toNat),V.int 0]) r40 (by show r4<4;exact r41)
      have ff:∃n:Nat,v=.int (n:Int)/\n<2 ^ 20:=by
       have:=ZQ dZ;simp only[mem_cons,not_mem_nil,or_false]at this;rcases this with z |z |z |z
       ·refine⟨2 ^ r1.toNat,by rw[z];simp,?_⟩;exact(Nat.pow_lt_pow_iff_right qc).mpr qe
       ·exact⟨r2.toNat,by rw[z,Int.toNat_of_nonneg r20],qe⟩
       ·refine⟨2 ^ r3.toNat,by rw[z];simp,?_⟩;exact(Nat.pow_lt_pow_iff_right qc).mpr qe
       ·exact⟨0,z,qc⟩
      obtain⟨n,rfl,hn⟩:=ff;refine⟨p,_,r4,_,Zj,Zj,aK.of (by rw[AH jm];exact AB),hv,?_⟩;exact⟨_,Zj,hR _ _ ⟨.int (n:Int),.num n,v10,v11,Zj,M5,Zj,trivial,hn⟩⟩
     ·refine hR _ _ ⟨.aP,.aP,v10,v11,?_,L6,Zj,trivial,?_⟩
      ·show _=[some (V.ref d),some (V.int M),some (V.ref pw),some (V.ref pf),some (V.ref pu),some (V.int (0+(i:Int))),some (V.int (bg:Int)),some (V.int kd),some V.aP,some (V.int ((BZ (Di ((Aj rows).map (·.2))):Nat):Int)),v10,v11];rw[b8]
      ·show BZ (Di ((Aj rows).map (·.2)))<2 ^ 20;rw[b8];have h2:¬ ((2:Int) ^ (20:Int).toNat<=(BZ bg:Nat)):=λz=>hc (by rw[ZL z,Bool.or_true]);have h3:((2:Int) ^ (20:Int).toNat)=1048576:=by decide
       omega
    ·rintro σ H7 ⟨tv,th,il,ik,rfl,L7,hT,hTO,hlt⟩;obtain⟨bs,hu,gG⟩:=L7.due;have gj:=Ca gG;refine⟨λσ H8=>∃(tv:V) (th:Th) (il ik:Option V),σ=[some (.ref d),some (.int M),some (.ref pw),some (.ref pf),some (.ref pu),some (.int (0+(i:Int))),some (.int (bg:Int)),some (.int kd),some tv,some (.int (Cr (Aj rows) th:Nat)),il,ik]/\LW d pw pf pu H H8 rows/\gg H8 tv th/\Sd (Aj rows) th/\Cr (Aj rows) th<2 ^ 20,λR hR=>?_,?_⟩
     ·refine Sl (decide ((5:Int)<kd)) (!(Q0 (Aj rows)).isEmpty) (λQ' h=>⟨_,Zj,_,_,Zj,Zj,_,Zj,h⟩) (λQ' h=>⟨_,Zj,Nat.zero_le _,λp hp=>?_⟩) (λH8 s8=>?_)
      ·have sp:=AE (aA.refl _) hp (o:=HO.lst []);refine⟨.list (Q0 (Aj rows)),.list [],DK (sp _ _ hu) (K9 (aB.aL (aN.of sp) gG)),DK AB Jt,LA λp hp=>(DO.nm p hp).2.1,Ey,_,Zj,?_⟩;rw[Np];exact h _ sp
      ·refine Ba (λhc=>?_) (λhc=>?_)
       ·have aw:0<bs.length:=by
         rw[Bool.and_eq_true]at hc;have h2:=hc.2;rw[gj,←Bf];cases hz:Aj rows with
         |nil=>rw[hz]at h2;cases h2
         |cons x r=>simp
        have L8:=L7.same s8;obtain⟨x1,y1,e1⟩:=L8.bQ;refine⟨_,rfl,d,x1,y1,3,rfl,e1,qc,qc,λr1 a1 b1 r10 r11=>?_⟩;have M1:=L8.roll AP a1 b1;refine⟨_,_,rfl,rfl,_,rfl,qe,qe,?_⟩;refine Ec (lo:=0) (n:=(1+r1).toNat) (λj ys H9=>∃ns:Xa,ys=ns.map V.str/\ns.length=j/\j<=3/\(∀x∈ns,x∈(Aj rows).map (·.1))/\LW d pw pf pu H H9 rows) ⟨[],rfl,rfl,qc,(λx hx=>nomatch hx),M1⟩ ?_ ?_ ?_
        ·rintro j ys H9 ⟨ns,rfl,e,h3,_⟩;rw[AJ];omega
        ·rintro j ys H9 hj ⟨ns,rfl,e,h3,ff,L9⟩;obtain⟨x2,y2,e2⟩:=L9.bQ;obtain⟨cs,hu9,ay⟩:=L9.due;have af:=Ca ay;have aq:(cs.map V.ref).length=bs.length:=by rw[AJ,af,gj]
         refine⟨_,Zj,_,Zj,_,Zj,pu,_,Zj,.inl (aK.of hu9),d,x2,y2,_,Zj,e2,by rw[aq];omega,by rw[aq];omega,λr2 a2 b2 r20 r21=>?_⟩;have M2:=L9.roll AP a2 b2;have hu10:(upd H9 d (.lst [.int a2,.int b2])) pu=some (.lst (cs.map V.ref)):=by rw[AH AP.ud];exact hu9
         have hcs2:aB (upd H9 d (.lst [.int a2,.int b2])) cs (FY (Aj rows)):=aB.aL (aN.upd e2) ay;obtain⟨v,hv,dZ⟩:=F4 (xs:=cs.map V.ref) r20 (by exact r21);obtain⟨bb,p,rfl,_,ak,aj⟩:=CZ hcs2 dZ;refine⟨pu,_,r2,_,rfl,rfl,aK.of hu10,hv,bb,_,0,.str p.1,rfl,rfl,aQ.of aj,rfl,?_⟩;refine⟨ns++[p.1],by rw[Zu];rfl,by rw[ZH,e];rfl,qe,λx hx=>?_,M2⟩;rcases mem_append.mp hx with z |z
         ·exact ff x z
         ·rw[ZG]at z;subst z;exact Zr.mpr ⟨p,ZQ ak,Zj⟩
        ·rintro ys H9 ⟨ns,rfl,e,h3,ff,L9⟩ l hl;have L10:=L9.same (AE (aA.refl _) hl (o:=HO.lst (ns.map V.str)));refine⟨l,_,Zj,.inl ⟨aK.of AB,λt ht=>?_⟩⟩;have L11:=L10.same (AE (aA.refl _) ht (o:=HO.tup (ns.map V.str)));obtain⟨cs,hu11,ay⟩:=L11.due;have af:=Ca ay;refine⟨_,Zj,pu,Zj,⟨_,aK.of hu11⟩,C9 (K:=K) (a:=pu) (xs:=cs.map V.ref) (λj σ H12=>H12=upd (upd H9 l (.lst (ns.map V.str))) t (.tup (ns.map V.str))/\∃il ik:Option V,σ=[some (.ref d),some (.int M),some (.ref pw),some (.ref pf),some (.ref pu),some (.int (0+(i:Int))),some (.int (bg:Int)),some (.int kd),some (.ref t),some (.int (uni ((Aj rows).take j) ns:Nat)),il,ik]) ⟨Zj,il,ik,Zj⟩ (λj σ H12 _ ⟨e,_⟩=>e ▸ aK.of hu11) ?_ ?_⟩
         ·rintro j v σ H12 hj ⟨rfl,il,ik,rfl⟩;obtain⟨bb,p,rfl,_,ak,aj⟩:=CZ ay hj;refine⟨bb,_,Zj,aQ.of aj,Zj,_,_,Zj,_,_,Zj,Zj,?_⟩;refine⟨_,Zj,_,Zj,_,Zj,t,_,Zj,.inr (aQ.of AB),Zj,?_,_,Zj,?_⟩
          ·rw[all_map];exact List.all_eq_true.mpr λ_ _=>rfl
          ·have eu:uni ((Aj rows).take (j+1)) ns=uni ((Aj rows).take j) ns|||(if dY (.str p.1) (ns.map V.str)then p.2 else 0):=by
            unfold uni;rw[ZD,ak,Option.toList_some,Zu];exact Ek _ _
           refine Ba (λi7=>?_) (λi7=>?_)
           ·refine⟨_,Zj,_,_,Zj,Zj,Zj,some (.str p.1),some (.int (p.2:Int)),?_⟩;have hc3:dY (.str p.1) (ns.map V.str)=true:=i7;rw[hc3,Zp rfl]at eu;rw[eu,←Dx];rfl
           ·refine⟨_,_,Zj,Zj,Zj,some (.str p.1),some (.int (p.2:Int)),?_⟩;have hc3:dY (.str p.1) (ns.map V.str)=false:=Bool.eq_false_iff.mpr i7;rw[hc3,Zq Bool.false_ne_true]at eu;rw[eu,←Dx];rfl
         ·rintro σ H12 ⟨rfl,il,ik,rfl⟩;have el:(Aj rows).take (cs.map V.ref).length=Aj rows:=by rw[AJ,af,←Bf,ZB]
          have en:Cr (Aj rows) (.jM ns)=uni (Aj rows) ns:=(UV DO.nd ff).symm;have eL:ns.length=(1+r1).toNat:=e;refine hR _ _ ⟨.ref t,.jM ns,il,ik,by rw[el,en],L11,⟨t,Zj,AB⟩,⟨?_,qe,ff⟩,?_⟩
          ·intro z;subst z;simp at eL;omega
          ·show A6 (ns.map (look (Aj rows)))<2 ^ 20;refine Kz λn hn=>?_;obtain⟨x,hx,rfl⟩:=Zr.mp hn;obtain⟨p,hp,rfl⟩:=Zr.mp (ff x hx);rw[D5 DO.nd hp];exact DO.lt p hp
       ·exact hR _ _ ⟨tv,th,il,ik,Zj,L7.same s8,hT.same s8,hTO,hlt⟩
     ·rintro σ H8 ⟨tv,th,il,ik,rfl,L8,hT,hTO,hlt⟩;obtain⟨as,hf,hP⟩:=L8.found;have hal:as.length=rows.length:=hP.length;have hw:bV[i]?=some bV[i]:=Z7 hi10;generalize ap:bV[i]=wd at hw
      have hat:gM (bV.map V.str) (0+(i:Int))=some (.str wd):=by
       have:(0:Int)+(i:Int)=((i:Nat):Int):=by omega
       rw[this];exact BN (by rw[ZE,hw];rfl)
      refine⟨_,Zj,.inl ⟨Zj,_,aK.of hf⟩,_,Zj,_,Zj,pw,_,_,.str wd,Zj,Zj,aK.of L8.words,hat,_,Zj,eO,λp hp=>?_⟩;have sp:=AE (aA.refl _) hp (o:=HO.tup [V.str wd,tv]);have hz1:(as.map V.ref).length<sizeLine:=AL (by rw[AJ];omega);refine⟨pf,_,.ref p,Zj,Zj,sp _ _ hf,hz1,?_⟩;have t1:aN (upd H8 p (.tup [V.str wd,tv])) (upd (upd H8 p (.tup [V.str wd,tv])) pf (.lst (as.map V.ref++[.ref p]))):=aN.upd (sp _ _ hf);obtain⟨bs,hu,gG⟩:=L8.due;have gj:=Ca gG;have hu1:(upd (upd H8 p (.tup [V.str wd,tv])) pf (.lst (as.map V.ref++[.ref p]))) pu=some (.lst (bs.map V.ref)):=by rw[AH (Ne.symm AP.fu)];exact sp _ _ hu
      have jr:(upd (upd H8 p (.tup [V.str wd,tv])) pf (.lst (as.map V.ref++[.ref p]))) pw=some (.lst (bV.map V.str)):=by rw[AH AP.wf];exact sp _ _ L8.words
      refine⟨_,Zj,.inl ⟨Zj,_,aK.of hu1⟩,_,Zj,_,Zj,pw,_,_,.str wd,Zj,Zj,aK.of jr,hat,_,Zj,eO,λq hq=>?_⟩;have sq:=AE (aA.refl _) hq (o:=HO.tup [V.str wd,V.int ((Cr (Aj rows) th:Nat):Int)]);have hz2:(bs.map V.ref).length<sizeLine:=AL (by rw[AJ];omega);refine⟨pu,_,.ref q,Zj,Zj,sq _ _ hu1,hz2,?_⟩;have t2:=aN.upd (sq _ _ hu1) (ys:=bs.map V.ref++[.ref q]);have tall:=((aN.of sp).trans t1).trans ((aN.of sq).trans t2);obtain⟨x,y,ed⟩:=L8.bQ;have RR:Nk (Aj rows) (wd,th):=⟨DO,by rw[Bf];omega,Q5 wd (ZQ hw),?_,hTO,hlt⟩;refine⟨_,_,_,_,_,_,_,rows++[(wd,th)],Zj,by rw[ZH,a0];rfl,LB RO RR,?_,?_⟩
      ·rw[Zu,cq,ZD,hw,Option.toList_some];rfl
      ·refine⟨λc o ec hc=>?_,⟨x,y,?_⟩,?_,⟨as++[p],?_,?_⟩,⟨bs++[q],?_,?_⟩⟩
       ·have n1:c≠pu:=AI ec AP.nu;have n2:c≠pf:=AI ec AP.nf;rw[AH n1];refine sq _ _ ?_;rw[AH n2];exact sp _ _ (L8.old c o ec hc)
       ·rw[AH (Ne.symm AP.ud)];refine sq _ _ ?_;rw[AH (Ne.symm AP.fd)];exact sp _ _ ed
       ·rw[AH AP.wu];exact sq _ _ jr
       ·rw[AH AP.fu];refine sq _ _ ?_;rw[AB,Zu];rfl
       ·refine Paired.snoc (Bn tall hP) ?_;exact⟨tv,t2 _ _ (sq _ _ (t1 _ _ AB)),hT.aL tall⟩
       ·rw[AB,Zu];rfl
       ·rw[F1];unfold FY;rw[Zu];exact Paired.snoc (aB.aL tall gG) (t2 _ _ AB)
      ·rw[LF,cq];intro z;have key:=PN ⟨i,hi10⟩;rw[hw]at key;have:=Option.some.inj key;exact of_decide_eq_false this z
 ·rintro σ H2 ⟨v5,v6,v7,v8,v9,v10,v11,rows,rfl,a0,RO,cq,L⟩;obtain⟨as,hf,hP⟩:=L.found;obtain⟨bs,hu,gG⟩:=L.due;refine⟨_,Zj,_,Zj,eO,λq hq=>?_⟩;have sq:=AE (aA.refl _) hq (o:=HO.tup [V.ref pf,V.ref pu]);refine k q pf pu as bs rows _ ⟨λc o e hc=>sq _ _ (L.old c o e hc),?_⟩ AB nf0 nu0 (sq _ _ hf) (Bn (aN.of sq) hP) (sq _ _ hu) (aB.aL (aN.of sq) gG) qe qe RO (λx hx=>mem_of_mem_take (cq ▸ hx));obtain⟨x,y,e⟩:=L.bQ;exact⟨x,y,sq _ _ e⟩
end
structure Wl (K:FG) (C:Xd):Prop where
 cl:iC K C
 ha:W.findIn K (.ref C) "__class__" = some (some (.builtin "object.__class__"))
 hn:W.specialIn K (.builtin "object.__class__") "__get__" = some (some (.builtin "getset_descriptor.__get__"))
 ht:W.takesIn K (.builtin "object.__class__")=some true
 hm:W.mroIn K C (.type "object")=some true
 nl:W.kitOne K (.type "list") (.ref C)=some false
theorem LG (K:FG) (C:Xd):W.kitOne K (.ref C) (.ref C)=some true:=by
 unfold W.kitOne;rw[Zp (by simp)]
section
theorem Q7:AN ["self", "name"] ["self", "name"] (defScope Co):=cS
inductive spRest (C:Xd) (vs:Xc) (H:Hp) (Q:VK) (_E:XK):Prop where
 |mk (p:Xd) (due:Aa) (r:Str) (cJ:vs=[.ref p]) (cP:aX C H p due r) (cV:Q (.str r) H)
theorem Ua:AN ["self"] ["self"] (defScope Fv):=cS
theorem Sn {f:Xd} (F:aY K "rest" "Kind.rest" Fv f fd) (T:Jr K C):Af P w K mg base aT 1 f fd ["self"] (spRest C):=by
 refine F.m Ua λvs H Q E h=>?_;obtain⟨p,due,r,rfl,KA,k⟩:=h;refine⟨Zj,λad A outer s hr=>?_⟩;obtain⟨dx,d1,o1,d2,o2,hp,h1,h2⟩:=KA.ex;refine⟨_,AG (AO (BL (pv 0) Zj)),?_⟩;exact⟨_,Zj,p,C,dx,_,_,Zj,hp,T.cl,T.nR,O9 _ _ _,k⟩
end
noncomputable def Mx (due:Aa) (e m:Xd):LK:=[(Sum.inr "known", V.int (A6 (due.map (·.2)):Nat)),(Sum.inr "firsts", V.ref e),(Sum.inr "marks", V.ref m),(Sum.inr "bits", V.int (A6 (BC due):Nat))]
theorem Ub (a b c d:V):C2 [] [((Sum.inr "known" : Key),a),(Sum.inr "firsts", b),(Sum.inr "marks", c),(Sum.inr "bits", d)]=[((Sum.inr "known" : Key),a),(Sum.inr "firsts", b),(Sum.inr "marks", c),(Sum.inr "bits", d)]:=by kernel_rfl
theorem PQ (due:Aa) (e m:Xd):Av (Mx due e m) (Sum.inr "known")=some (V.int (A6 (due.map (·.2)):Nat)):=by kernel_rfl
theorem PR (due:Aa):(BC due).Pairwise (· < ·):=by
 have h1:=FZ due;have h2:(BR due).Nodup:=(Dc due).nodup_iff.mpr (O6 due);have h3:(BR due).Pairwise (· < ·):=List.Pairwise.imp₂ (λa b h n=>Nat.lt_of_le_of_ne h n) h1 h2;exact h3.filter _
theorem JF (due:Aa):((BC due).map λn:Nat=>(n:Int)).sum=((A6 (BC due):Nat):Int):=by
 have hs:(BC due).sum=A6 (BC due):=O0 (λn hn=>(mem_filter.mp hn).2) (PR due);rw[←hs];clear hs;generalize BC due=l;induction l with
 |nil=>rfl
 |cons a r ih=>rw[map_cons,sum_cons,sum_cons,ih];push_cast;rfl
theorem Hl (due:Aa):A6 ((Ah due).map (·.1))=A6 (due.map (·.2)):=by
 refine Nat.eq_of_testBit_eq λk=>?_;rw[EG,EG,Bool.eq_iff_iff,any_eq_true,any_eq_true];constructor
 ·rintro⟨n,hn,hb⟩;obtain⟨q,hq,rfl⟩:=Zr.mp hn;exact⟨q.1,Zr.mpr ⟨_,JC hq,Zj⟩,hb⟩
 ·rintro⟨n,hn,hb⟩;obtain⟨p,hp,rfl⟩:=Zr.mp hn;exact⟨p.2,O7 hp,hb⟩
section
inductive spTable (vs:Xc) (H:Hp) (Q:VK) (_E:XK):Prop where
 |mk (u:Xd) (bs:List Xd) (due:Aa) (cJ:vs=[.ref u]) (cP:H u=some (.lst (bs.map V.ref))) (cV:aB H bs (FY due)) (dr:due.length<=10) (d9:(∀p∈due,p.2<2 ^ 20)) (gi:∀t e m ms H',aA H H'->H' t=some (.dK (Mx due e m))->H' e=some (.dK (CS (Ah due)))->H' m=some (.lst (ms.map V.ref))->aB H' ms (Nn due)->Q (.ref t) H')
noncomputable abbrev Uc:Xa:=["_law_due", "_law_known", "_law_firsts", "_law_name", "_law_number", "_law_marks"]
theorem scTable:AN Uc ["_law_due"] (defScope D1):=cS
theorem Q8 {f:Xd} (F:aY K "_law_table_of" "_law_table_of" D1 f fd) (B:Bl mg) (GB:Fn P w K mg base "_law_bits_of" 1 ["_law_number"] spBitsOf):Af P w K mg base aT 2 f fd ["_law_due"] spTable:=by
 obtain⟨fB,dB,GB,mB,kB,bB⟩:=GB.ex;refine F.m scTable λvs H Q E h=>?_;obtain⟨u,bs,due,rfl,hu0,gG,iA,hlt,k⟩:=h;refine⟨Zj,λad A outer s hr=>?_⟩;have hu:=Cm hr
 refine⟨_,AF (B6 (hs:=by kernel_rfl) (hw:=by kernel_rfl) (As (AA AD (AA FD AC))) (Bc Zj (AY (AV (i:=1) scTable.nd Zj (Or.inl Zj)) (AY (AV (i:=2) scTable.nd Zj (Or.inr Zj)) BE))))
  (AF (DP PassesOwn.never rfl (CJ (pv 0)) (Bc rfl (AY (AV (i:=3) scTable.nd rfl (Or.inl rfl)) (AY (AV (i:=4) scTable.nd rfl (Or.inl rfl)) BE)))
   (AF (Ag (i:=1) scTable.nd rfl (Or.inl rfl) (Ab KG (pv 1) (pv 4)))
   (AG (An (EY (OU hu (pv 4) (pv 2))) (AG (JV hu (pv 2) (pv 4) (pv 3) rfl)) Ae))))
  (AF (P7 (i:=5) scTable.nd rfl qd ["_law_firsts"] [some 2] qd qb qd rfl (CJ (AW (Ja rfl) rfl B.sorted Fz (AA (pv 2) AC)))
   (λ_ _ _ _ _ _=>FE (AM Aw (AW (A8 K rfl) rfl B.len PySem.boot_len (AA (AQ GB hr rfl mB kB bB .nil AR (AA (pv 0) AC)) AC)) AD (AS _)))
   (λ_ _ _ _ _ _=>As (AA (Bh hu (pv 1) (pv 0) (λ_ _=>rfl)) (AA (pv 0) AC))))
  (AG (AO (JX (BX AK (pv 1) (BX AK (pv 2) (BX AK (pv 5) (BX AK (AW (QD rfl) rfl B.sum Qg (AA (HC [] [] qd qb qd qd rfl (CJ (pv 5)) (λ_ _ _ _ _ _=>Bu) (λ_ _ _ _ _ _=>pv 1)) AC)) JW)))) rfl rfl (by simp) qc))))),?_⟩
 refine λe he=>⟨eO,λq hq=>⟨q,_,Zj,aQ.of AB,Zj,_,_,Zj,_,_,Zj,Zj,?_⟩⟩;have s1:=AE (AE (aA.refl _) he (o:=HO.dK [])) hq (o:=HO.tup [V.int 0,V.ref e]);have gj:bs.length=due.length:=by rw[gG.length];unfold FY;rw[AJ]
 refine⟨_,Zj,u,Zj,⟨_,aK.of (s1 _ _ hu0)⟩,C9 (K:=K) (a:=u) (xs:=bs.map V.ref) (λi σ H2=>∃v3 v4:Option V,σ=[some (.ref u),some (.int (A6 ((due.take i).map (·.2)):Nat)),some (.ref e),v3,v4,none]/\aA H H2/\H2 e=some (.dK (CS (Ah (due.take i)))))
  ⟨none,none,rfl,s1,AE (aA.refl _) hq _ _ AB⟩ (λi σ H2 _ ⟨_,_,_,s2,_⟩=>aK.of (s2 _ _ hu0)) ?_ ?_⟩
 ·rintro i v σ H2 hi ⟨v3,v4,rfl,s2,gY⟩;obtain⟨bb,p,rfl,_,ak,aj⟩:=CZ (aB.same s2 gG) hi;have et:due.take (i+1)=due.take i++[p]:=by rw[ZD,ak];rfl
  have ek:(((A6 ((due.take (i+1)).map (·.2)):Nat)):Int)=Builtin.bitOr ((A6 ((due.take i).map (·.2)):Nat):Int) (p.2:Int):=by
   rw[et,Zu,Dx];exact congrArg _ (Ek _ _)
  have hle:(CS (Ah (due.take i))).length<=100:=by
   unfold CS;rw[AJ];have:=Db (due.take i);rw[ZA]at this;omega
  refine⟨bb,_,Zj,aQ.of aj,Zj,_,_,Zj,_,_,Zj,Zj,?_⟩;refine⟨_,Zj,_,Zj,_,_,Zj,Zj,?_⟩;by_cases z:p.2∈(Ah (due.take i)).map (·.1)
  ·refine⟨_,Zj,_,Zj,e,_,Zj,.inl ⟨_,Sum.inl (p.2:Int),.inl gY,Zj,(Hh z).symm⟩,_,Zj,?_⟩;refine Ac ⟨_,_,by rw[ek];rfl,s2,?_⟩;rw[et,Ct,Zp (by simpa using z)];exact gY
  ·refine⟨_,Zj,_,Zj,e,_,Zj,.inl ⟨_,Sum.inl (p.2:Int),.inl gY,Zj,(F3 z).symm⟩,_,Zj,?_⟩;refine Ao ⟨_,Zj,_,Zj,_,Zj,e,_,Zj,DPut.k (k:=Sum.inl (p.2:Int)) gY (AL qe),?_⟩;refine⟨_,_,by rw[ek];rfl,Hg s2 he,?_⟩;rw[AB,et,Ct,Zq (by simpa using z),K7 z]
 ·rintro σ H2 ⟨v3,v4,rfl,s2,gY⟩;have e1:due.take (bs.map V.ref).length=due:=by rw[AJ,gj,ZB]
  rw[e1]at gY ⊢;have hle:(CS (Ah due)).length<=due.length:=by unfold CS;rw[AJ];exact Db due
  refine⟨_,Zj,e,_,Zj,.inl gY,qe,λkv gz=>?_,λl ns hl bf hsort=>?_⟩
  ·unfold CS at gz;obtain⟨q,_,rfl⟩:=Zr.mp gz;exact⟨_,Zj⟩
  ·have en:=Qq bf hsort;subst en;have s3:=AE (aA.refl _) hl (o:=HO.lst (((BR due).map λn:Nat=>(n:Int)).map V.int));have exs:((BR due).map λn:Nat=>(n:Int)).map V.int=Ay (BR due):=(Gi _).symm
   refine⟨l,Zj,⟨_,aK.of AB⟩,DF (K:=K) (a:=l) (xs:=Ay (BR due))
    (λi ys H3=>∃as,ys=as.map V.ref/\aA H2 H3/\H3 l=some (.lst (Ay (BR due)))/\aB H3 as ((((BR due).take i).filter Bm).map λn=>(V.str (K6 (Ah due) n),V.int (n:Int)))) ⟨[],rfl,s3,by rw[AB,exs],.nil⟩
    (λi ys H3 _ ⟨_,_,_,e,_⟩=>aK.of e) (λi ys H3 ⟨as,e,_,_,t⟩=>?_) ?_ ?_⟩
   ·have:=t.length;rw[e,AJ,this,AJ];have h3:(((BR due).take i).filter Bm).length<=((BR due).take i).length:=ZS _ _;rw[ZA]at h3;have:=JD due;omega
   ·rintro i v ys H3 hi ⟨as,rfl,s4,hl3,ht⟩;obtain⟨n,hn,rfl⟩:=Nj hi;have hmem:n∈(Ah due).map (·.1):=mem_keysS.mp (ZQ hn);have hn42:n<2 ^ 42:=Nat.lt_trans (No hlt n hmem) qc;have et:((BR due).take (i+1)).filter Bm=((BR due).take i).filter Bm++(if Bm n then [n]else []):=PySem.take_succ_filter Bm _ i n hn;refine⟨_,Zj,n,Zj,λl2 zs H4 s5 hl4 hz=>⟨l2,_,Zj,.inl (aK.of hl4),Zj,_,Zj,?_⟩⟩
    have eb:decide (V.int ((zs.length:Nat):Int)=V.int 1)=Bm n:=by
     rw[←IJ hn42,hz];refine decide_eq_decide.mpr ⟨λh=>?_,λh=>by rw[h];rfl⟩;have:=V.int.inj h;omega
    rw[eb];have hl5:=s5 _ _ hl3;refine Ba (λhm=>?_) (λhm=>?_)
    ·refine⟨_,Zj,_,Zj,e,_,Zj,.inl ⟨_,Sum.inl (n:Int),.inl (s5 _ _ (s4 _ _ gY)),Zj,(Hh hmem).symm⟩,_,Zj,eO,λb hb=>?_⟩;refine⟨as++[b],by rw[Zu];rfl,AE (s4.trans s5) hb,by rw[AH (AI hl5 hb)];exact hl5,?_⟩;rw[et,hm,Zp rfl,Zu];exact PB (AE s5 hb) ht AB
    ·refine⟨as,Zj,s4.trans s5,hl5,?_⟩;rw[et,Zq hm,Zt];exact aB.same s5 ht
   ·rintro ys H3 ⟨as,rfl,s4,_,ht⟩ m hm
    have el:(BR due).take (Ay (BR due)).length=BR due:=by
     have:(Ay (BR due)).length=(BR due).length:=by unfold Ay;rw[AJ]
     rw[this];exact ZB
    rw[el]at ht;have ht':aB H3 as (Nn due):=ht;have s5:=AE (aA.refl _) hm (o:=HO.lst (as.map V.ref));have hal:as.length=(BC due).length:=by rw[ht'.length];exact PD due
    refine λt ht0=>⟨_,Zj,_,Zj,_,Zj,?_⟩;have s6:=AE (aA.refl _) ht0 (o:=HO.dK []);have htm:=aB.same (s5.trans s6) ht';have hm6:=s6 _ _ (AB (H:=H3) (a:=m) (o:=HO.lst (as.map V.ref)));refine⟨_,Zj,m,Zj,⟨_,aK.of hm6⟩,DF (K:=K) (a:=m) (xs:=as.map V.ref) (λj ys H7=>ys=Ay ((BC due).take j)/\H7=upd (upd H3 m (.lst (as.map V.ref))) t (.dK [])) ⟨by rfl,Zj⟩ (λj ys H7 _ ⟨_,e⟩=>e ▸ aK.of hm6) (λj ys H7 ⟨e,_⟩=>?_) ?_ ?_⟩
    ·rw[e];unfold Ay;rw[AJ,ZA];have h3:(BC due).length<=(BR due).length:=ZS _ _;have:=JD due;omega
    ·rintro j v ys H7 hj ⟨rfl,rfl⟩;rw[ZE]at hj
     obtain⟨b,hb,rfl⟩:∃b,as[j]?=some b/\v=V.ref b:=by
      cases q:as[j]? with
      |none=>rw[q]at hj;cases hj
      |some x=>rw[q]at hj;exact⟨x,Zj,(Option.some.inj hj).symm⟩
     obtain⟨pq,iw,aj⟩:=K8 htm hb;unfold Nn at iw;rw[ZE]at iw
     obtain⟨n,hn,rfl⟩:∃n,(BC due)[j]?=some n/\pq=(V.str (K6 (Ah due) n),V.int (n:Int)):=by
      cases q:(BC due)[j]? with
      |none=>rw[q]at iw;cases iw
      |some x=>rw[q]at iw;exact⟨x,Zj,(Option.some.inj iw).symm⟩
     refine⟨b,_,Zj,aQ.of aj,Zj,_,_,Zj,_,_,Zj,Zj,?_⟩;refine⟨_,Zj,?_,Zj⟩;rw[ZD,hn,Option.toList_some];unfold Ay;rw[Zu];rfl
    ·rintro ys H7 ⟨rfl,rfl⟩ l2 iy;have el2:(BC due).take (as.map V.ref).length=BC due:=by rw[AJ,hal,ZB]
     rw[el2];have s7:=AE (aA.refl _) iy (o:=HO.lst (Ay (BC due)));refine⟨l2,(BC due).map λn:Nat=>(n:Int),Zj,aK.of (by rw[AB,Gi]),λn hn=>?_,?_,?_⟩
     ·obtain⟨x,_,rfl⟩:=Zr.mp hn;exact Z1 _
     ·rw[JF];have:=Kz (Qs hlt);omega
     ·rw[JF];refine⟨s7 _ _ AB,[((Sum.inr "known" : Key),V.int (A6 (due.map (·.2)):Nat)),(Sum.inr "firsts", .ref e),(Sum.inr "marks", .ref m),(Sum.inr "bits", V.int (A6 (BC due):Nat))],Zj,(by show 4<=15;decide),?_⟩;rw[Ub];have nt:∀b o,H3 b=some o->b≠t:=λb o ebo=>AI (s5 _ _ ebo) ht0
      have sAll:aA (upd H3 m (.lst (as.map V.ref))) (upd (upd (upd (upd H3 m (.lst (as.map V.ref))) t (.dK [])) l2 (.lst (Ay (BC due)))) t (.dK (Mx due e m))):=λb o ebo=>by
       rw[AH (AI ebo ht0)];exact s7 _ _ (s6 _ _ ebo)
      refine k t e m as _ ?_ AB ?_ (sAll _ _ AB) (aB.same (s5.trans sAll) ht')
      ·intro b o ebo;exact sAll _ _ (s5 _ _ (s4 _ _ (s2 _ _ ebo)))
      ·exact sAll _ _ (s5 _ _ (s4 _ _ gY))
end
theorem D6:∀ {ds:List PyData},(∀d∈ds,PyData.eqv d d=true)->PyData.eqvAll ds ds=true
 | [],_=>by rw[PyData.eqvAll]
 |d::r,h=>by
  rw[PyData.eqvAll,h d ZI,D6 λx hx=>h x (ZR _ hx)];rfl
theorem IL {ds:List PyData} (h:∀d∈ds,PyData.eqv d d=true):PyData.eqv (.list ds) (.list ds)=true:=by
 rw[PyData.eqv];exact D6 h
theorem Fb {ds:List PyData} (h:∀d∈ds,PyData.eqv d d=true):PyData.eqv (.tuple ds) (.tuple ds)=true:=by
 rw[PyData.eqv];exact D6 h
theorem Bz (x:Str):PyData.eqv (.str x) (.str x)=true:=by simp[PyData.eqv]
theorem Jv (n:Int):PyData.eqv (.int n) (.int n)=true:=by simp[PyData.eqv]
theorem Nr {b:Xd}{x y:Str} (h:H b=some (.tup [.str x,.str y])):CA K H (.tuple [.str x,.str y]) (.ref b):=by
 rw[CA];refine⟨b,_,Zj,aQ.of h,?_⟩;rw[BA];refine⟨_,_,Zj,by rw[CA],?_⟩;rw[BA];refine⟨_,_,Zj,by rw[CA],?_⟩;rw[BA]
noncomputable def kn (due:Aa):Nat:=A6 (due.map (·.2))
section
inductive spIsNumber (vs:Xc) (H:Hp) (Q:VK) (_E:XK):Prop where
 |mk (n:Nat) (cJ:vs=[.int (n:Int)]) (cP:n<2 ^ 40) (cV:Q (.bl true) H)
theorem My:AN ["thing"] ["thing"] (defScope EH):=cS
theorem LH {D kp dx:Xd} (hkp:H kp=none) (ax:H dx=none) (aw:dx≠kp):aA H (upd (upd H dx (.own kp)) kp (.ins D dx [])):=by
 refine AE (AE (aA.refl _) ax) ?_;rw[AH (Ne.symm aw)];exact hkp
theorem PU {Hc:Hp}{kp:Xd} (sN:aA H H') (hkp:H kp=none) (sc:∀b o,H' b=some o->b≠kp->Hc b=some o):aA H Hc:=λb o e=>sc b o (sN _ _ e) (AI e hkp)
theorem Q9 (x y:Nat):(x |||y)+(x&&&y)=x+y:=by
 have h:=PyProof.Rows.bitOr_and (x:Int) (y:Int);rw[Dx,DS]at h;omega
theorem LI (a b:Nat):a - (a&&&b)=a ^^^ (a&&&b):=by
 have h1:(a ^^^ (a&&&b))|||(a&&&b)=a:=by
  refine Nat.eq_of_testBit_eq λk=>?_;simp only[Nat.testBit_and,Nat.testBit_xor,Nat.testBit_or];cases a.testBit k <;> cases b.testBit k <;> rfl
 have h2:(a ^^^ (a&&&b))&&&(a&&&b)=0:=by
  refine Nat.eq_of_testBit_eq λk=>?_;simp only[Nat.testBit_and,Nat.testBit_xor,Nat.zero_testBit];cases a.testBit k <;> cases b.testBit k <;> rfl
 have h3:=Q9 (a ^^^ (a&&&b)) (a&&&b);rw[h1,h2]at h3;omega
theorem Gj (a b k:Nat):(a - (a&&&b)).testBit k=(a.testBit k && !b.testBit k):=by
 rw[LI];simp only[Nat.testBit_and,Nat.testBit_xor];cases a.testBit k <;> cases b.testBit k <;> rfl
end
section
variable {CU:Xd}
inductive spErrInit (K:FG) (vs:Xc) (H:Hp) (Q:VK) (_E:XK):Prop where
 |mk (e C:Xd) (dx:Option Xd) (x:Str) (cJ:vs=[.ref e,.str x]) (cP:A4 K C=true) (cV:H e=some (FH e C dx)) (dr:Q .aP H)
theorem PV:AN ["self", "words"] ["self", "words"] (defScope A7):=cS
theorem Hm {f:Xd} (F:FunD K "__init__" "MarkError.__init__" A7 f fd) (hV:mg "ValueError" = none):Af P w K mg base aT 1 f fd ["self", "words"] (spErrInit K):=by
 refine F.ok PV (λvs H Q E h=>?_) (λad A outer s H vs Q E hr h=>?_)
 ·obtain⟨e,C,dx,x,rfl,_⟩:=h;rfl
 ·obtain⟨e,C,dx,x,rfl,hC,he,k⟩:=h;refine⟨_,AG (BJ (QM Zj hV (AA (pv 0) (AA (pv 1) AC)))),?_⟩;exact⟨_,Zj,_,Zj,e,C,dx,[.str x],Zj,(by show 1<=1000;decide),hC,he,k⟩
structure Ta (P:Program) (w:World) (K:FG) (mg:SV) (base:Heap) (x:Str) (CU:Xd):Prop where
 cls:mg x=some (.ref CU)
 make:∃f fd,MkX K CU f/\Af P w K mg base aT 1 f fd ["self", "words"] (spErrInit K)/\Binds K fd ["self", "words"] []
def Uq (H:Hp) (E:XK) (CU:Xd):Prop:=∀e H',aA H H'->H e=none->H' e=some (Fp e CU none)->E (.ref CU) none H'
theorem none_of {x:Xd} (s:aA H H') (h:H' x=none):H x=none:=by
 cases e:H x with
 |none=>rfl
 |some u=>rw[s _ _ e]at h;cases h
theorem Uq.of {E:XK}{CU:Xd} (s:aA H H') (h:Uq H E CU):Uq H' E CU:=λe H2 s2 h1 h2=>h e H2 (s.trans s2) (none_of s h1) h2
theorem Mz {te:XK->TE}{σ:St}{H1:Hp}{E:XK}{D:Dj}{x:Str} (hC:A4 K CU=true) (s1:aA H H1) (h:Uq H E CU):MP CU (MO CU (spErrInit K) [] E0 (Al (tC (.str x)) C1)) E D σ H1:=by
 refine⟨(by show 1<=1000;decide),λa ha=>?_⟩;refine⟨a,CU,none,x,Zj,hC,AB,Zj,a,none,Zj,AB,?_⟩;refine h a _ (s1.trans ?_) (none_of s1 ha) AB;rw[Rm];exact AE (aA.refl _) ha
end
noncomputable def wds:Xa:=["BadRows", "BadRest", "BadText", "Unled", "BadRule", "BadName", "BadNumber", "Unlike", "BadPairs", "Never", "Nothing"]
noncomputable def wd (j:Nat):Str:=wds.getD j ""
noncomputable def g6 (j:Nat):List Bool:=(List.range 11).map λi=>decide (i=j)
noncomputable def b1 (b:Bool):Int:=if b then 1 else 0
noncomputable abbrev zA (j:Nat):Xc:=[V.bl (decide (0=j)),V.bl (decide (1=j)),V.bl (decide (2=j)),V.bl (decide (3=j))]
noncomputable abbrev zB (j:Nat):Xc:=[V.bl (decide (4=j)),V.bl (decide (5=j)),V.bl (decide (6=j))]
noncomputable abbrev zC (j:Nat):Xc:=[V.bl (decide (7=j))]
noncomputable abbrev zD (j:Nat):Xc:=[V.bl (decide (8=j)),V.bl (decide (9=j)),V.bl (decide (10=j))]
noncomputable abbrev yA:Xc:=[V.str "BadRows", V.str "BadRest", V.str "BadText", V.str "Unled", V.str "BadRule", V.str "BadName", V.str "BadNumber"]
noncomputable abbrev yB:Xc:=[V.str "Unlike", V.str "BadPairs"]
theorem Nt:∀j,j<11->((g6 j).map b1).sum=1:=by decide +kernel
theorem Ud:∀j,j<11->(g6 j)[j]?=some true/\∀m,m<j->(g6 j)[m]?=some false:=by decide +kernel
theorem Ue:∀j:Nat,j<11->gM (wds.map V.str) (j:Int)=some (V.str (wd j)):=by decide +kernel
structure PX (mg:SV) (ec:Nat->Xd):Prop where
 e0:mg "BadRows" = some (.ref (ec 0))
 e1:mg "BadRest" = some (.ref (ec 1))
 e2:mg "BadText" = some (.ref (ec 2))
 e3:mg "Unled" = some (.ref (ec 3))
 e4:mg "BadRule" = some (.ref (ec 4))
 e5:mg "BadName" = some (.ref (ec 5))
 e6:mg "BadNumber" = some (.ref (ec 6))
 e7:mg "Unlike" = some (.ref (ec 7))
 e8:mg "BadPairs" = some (.ref (ec 8))
 e9:mg "Never" = some (.ref (ec 9))
 ig:mg "Nothing" = some (.ref (ec 10))
 ev:mg "ValueError" = none
structure Nu (K:FG) (ec:Nat->Xd) (C:Xd) (j:Nat):Prop where
 hj:j<11
 kx:SH K C
 kit:∀i,i<11->W.kitOne K (.ref C) (.ref (ec i))=some (decide (i=j))
 val:W.kitOne K (.ref C) (.type "ValueError")=some true
section
variable {ec:Nat->Xd}
theorem B0 {X:Cx}{a:Expr}{te:TE}{e c:Xd}{oe:Obj}{x:Str}{p p2 pos:Pos} (K:FG) (hK:X.K=K) (pX:ExcP X e oe C) (k:SH K C) (hg:Gl X "isinstance") (hm:X.mg "isinstance" = none) (hgT:Gl X x) (hmT:X.mg x=some (.ref c)) (he:PE X a te)
  (eI:(x==("__debug__" : Str))=false:=by decide)
  (hs:starEach [a,.Name x p2] X.env=(false,eval a X.env)::starEach [.Name x p2] X.env:=by rfl) (eQ:(backTo pos (starEach [.Name x p2] X.env)).any (·.1)=false:=by rfl) (js:starEach [.Name x p2] X.env=(false,eval (.Name x p2) X.env)::starEach [] X.env:=by rfl) :
  PE X (.Call (.Name "isinstance" p) [a,.Name x p2] [] pos) (tCB (λxs H Q=>∃v c b,xs=[.ref e,v]/\((∃D,v=.ref D/\c=.ref D)\/∃T,v=.ty T/\c=.type T)/\(oe.dict=none\/∃d u,oe.dict=some d/\H d=some u)/\W.kitOne K (.ref C) c=some b/\Q (.bl b) H) (Al te (Al (tC (.ref c)) C1))):=by
 subst hK;exact AW (Iu pX k) hg hm Mq (AA he (AA (Bg (v:=.ref c) hgT hmT Zj eI) AC js) hs) qc qc hs eQ
def Dd (K:FG) (ec:Nat->Xd):SpS:=λe oe vs H Q=>vs=[.ref e]/\∃(C:Xd) (j:Nat) (fs:Array Value),oe.cls=.ref C/\oe.data=.fields fs/\fs[2]?=some .none/\(oe.dict=none\/∃d u,oe.dict=some d/\H d=some u)/\Nu K ec C j /\
 ∀p H',aA H H'->H' p=some (.tup [.str "refused", .str (wd j)])->Q (.ref p) H'
theorem scWord:AN ["_law_e", "_law_flags", "_law_words"] ["_law_e"] (defScope D0):=cS
theorem So {f:Xd} (F:aY K "_law_word" "_law_word" D0 f fd) (B:Bl mg) (M:PX mg ec):Na P w K mg base 1 f fd ["_law_e"] (Dd K ec):=by
 refine F.okS scWord (λe oe vs H Q h=>?_) (λad A outer s H vs Q e oe hh hr h=>?_)
 ·obtain⟨rfl,_⟩:=h;rfl
 ·obtain⟨rfl,C,j,fs,hc,hf,h2,hd,EA,k⟩:=h;have hj:=EA.hj
  have hdS:∀H',aA H H'->(oe.dict=none\/∃d u,oe.dict=some d/\H' d=some u):=λH' s=>by
   rcases hd with z |⟨d,u,z,y⟩
   ·exact .inl z
   ·exact .inr ⟨d,u,z,s _ _ y⟩
  have kt:=EA.kit;have pX:ExcP (HH P w K mg base ["_law_e", "_law_flags", "_law_words"] "_law_word" (defScope D0) f ad A outer s H e oe) e oe C:=⟨ZI,hc,⟨fs,hf⟩⟩;have rd:iG (HH P w K mg base ["_law_e", "_law_flags", "_law_words"] "_law_word" (defScope D0) f ad A outer s H e oe):=SD hh hf h2
  refine⟨_,AF (Ag (i:=1) scWord.nd Zj (Or.inl Zj) (BF (AA (B0 K Zj pX EA.kx Zj B.f6 Zj M.e0 (pv 0)) (AA (B0 K Zj pX EA.kx Zj B.f6 Zj M.e1 (pv 0)) (AA (B0 K Zj pX EA.kx Zj B.f6 Zj M.e2 (pv 0)) (AA (B0 K Zj pX EA.kx Zj B.f6 Zj M.e3 (pv 0)) AC))))))
   (AF (Ag (i:=1) scWord.nd rfl (Or.inl rfl) (Ab Fl (pv 1) (BF (AA (B0 K rfl pX EA.kx rfl B.f6 rfl M.e4 (pv 0)) (AA (B0 K rfl pX EA.kx rfl B.f6 rfl M.e5 (pv 0)) (AA (B0 K rfl pX EA.kx rfl B.f6 rfl M.e6 (pv 0)) AC))))))
   (AF (Ag (i:=1) scWord.nd rfl (Or.inl rfl) (Ab Fl (pv 1) (BF (AA (B0 K rfl pX EA.kx rfl B.f6 rfl M.e7 (pv 0)) AC))))
   (AF (Ag (i:=1) scWord.nd rfl (Or.inl rfl) (Ab Fl (pv 1) (BF (AA (B0 K rfl pX EA.kx rfl B.f6 rfl M.e8 (pv 0)) (AA (B0 K rfl pX EA.kx rfl B.f6 rfl M.e9 (pv 0)) (AA (B0 K rfl pX EA.kx rfl B.f6 rfl M.ig (pv 0)) AC))))))
   (AF (Ag (i:=2) scWord.nd rfl (Or.inl rfl) (BF (AA AK (AA AK (AA AK (AA AK (AA AK (AA AK (AA AK AC)))))))))
   (AF (Ag (i:=2) scWord.nd rfl (Or.inl rfl) (Ab Fl (pv 2) (BF (AA AK (AA AK AC)))))
   (AF (An (PW.pt (EN (AM F9 (AW (Im rd) rfl B.sum Qg (AA (Oa [] [] qd qb qd rd (QB (pv 1)) (λ_ _ _ _ _ _=>Bu) (λ_ _ _ _ _ _=>Bp IU rfl B.int HY (AA (pv 0) AC))) AC)) AD (AS _))
     (Cw (Bs (BB (AW (Iu pX EA.kx) rfl B.f6 Mq (AA (pv 0) (AA (NF (v:=.ty "ValueError") rfl M.ev NZ rfl) AC)))))))) (AG Ak) Ae)
   (AG (AO (As (AA AK (AA (BG (Ar K rfl) (Ab Fl (pv 2) (BF (AA AK (AA AK AC)))) (FB PySem.F.plainAttrs_list PySem.F.slot_list_index PySem.F.type_list_index Oo (pv 1) (AA De AC)) (λ_ _=>rfl)) AC))))))))))),?_⟩
  refine⟨_,Zj,_,_,_,Zj,.inl ⟨_,Zj,Zj⟩,hdS _ (aA.refl _),kt 0 qc,_,Zj,_,_,_,Zj,.inl ⟨_,Zj,Zj⟩,hdS _ (aA.refl _),kt 1 qc,_,Zj,_,_,_,Zj,.inl ⟨_,Zj,Zj⟩,hdS _ (aA.refl _),kt 2 qc,_,Zj,_,_,_,Zj,.inl ⟨_,Zj,Zj⟩,hdS _ (aA.refl _),kt 3 qc,sl4,λl1 h1=>?_⟩;have s1:=AE (aA.refl H) h1 (o:=.lst (zA j));have a1:=AB (H:=H) (a:=l1) (o:=.lst (zA j));generalize upd H l1 (.lst (zA j))=H1 at s1 a1 ⊢;refine⟨_,Zj,_,Zj,_,_,_,Zj,.inl ⟨_,Zj,Zj⟩,hdS _ s1,kt 4 qc,_,Zj,_,_,_,Zj,.inl ⟨_,Zj,Zj⟩,hdS _ s1,kt 5 qc,_,Zj,_,_,_,Zj,.inl ⟨_,Zj,Zj⟩,hdS _ s1,kt 6 qc,eX,λl2 jU=>?_⟩;refine⟨l1,l2,_,_,Zj,Zj,(AE (aA.refl H1) jU) _ _ a1,AB,(by show 4+3<=sizeLine;decide),λl3 h3=>?_⟩;have s3:=s1.trans (AE (AE (aA.refl H1) jU (o:=.lst (zB j))) h3 (o:=.lst (zA j++zB j)));generalize e3:upd (upd H1 l2 (.lst (zB j))) l3 (.lst (zA j++zB j))=H3 at s3 ⊢;have a3:H3 l3=some (.lst (zA j++zB j)):=by rw[←e3,AB]
  refine⟨_,Zj,_,Zj,_,_,_,Zj,.inl ⟨_,Zj,Zj⟩,hdS _ s3,kt 7 qc,sl1,λl4 h4=>?_⟩;refine⟨l3,l4,_,_,Zj,Zj,(AE (aA.refl H3) h4) _ _ a3,AB,(by show 7+1<=sizeLine;decide),λl5 h5=>?_⟩;have s5:=s3.trans (AE (AE (aA.refl H3) h4 (o:=.lst (zC j))) h5 (o:=.lst ((zA j++zB j)++(zC j))));generalize e5:upd (upd H3 l4 (.lst (zC j))) l5 (.lst ((zA j++zB j)++(zC j)))=H5 at s5 ⊢;have a5:H5 l5=some (.lst ((zA j++zB j)++(zC j))):=by rw[←e5,AB]
  refine⟨_,Zj,_,Zj,_,_,_,Zj,.inl ⟨_,Zj,Zj⟩,hdS _ s5,kt 8 qc,_,Zj,_,_,_,Zj,.inl ⟨_,Zj,Zj⟩,hdS _ s5,kt 9 qc,_,Zj,_,_,_,Zj,.inl ⟨_,Zj,Zj⟩,hdS _ s5,kt 10 qc,eX,λl6 h6=>?_⟩;refine⟨l5,l6,_,_,Zj,Zj,(AE (aA.refl H5) h6) _ _ a5,AB,(by show 8+3<=sizeLine;decide),λl7 h7=>?_⟩;have s7:=s5.trans (AE (AE (aA.refl H5) h6 (o:=.lst (zD j))) h7 (o:=.lst (((zA j++zB j)++(zC j))++(zD j))));generalize e7:upd (upd H5 l6 (.lst (zD j))) l7 (.lst (((zA j++zB j)++(zC j))++(zD j)))=H7 at s7 ⊢;have a7:H7 l7=some (.lst ((g6 j).map V.bl)):=by rw[←e7];exact AB
  refine⟨sl7,λl8 h8=>?_⟩;refine⟨_,Zj,eO,λl9 h9=>?_⟩;refine⟨l8,l9,_,_,Zj,Zj,(AE (aA.refl _) h9) _ _ AB,AB,(by show 7+2<=sizeLine;decide),λl10 iA=>?_⟩;have s10:=AE (AE (AE (aA.refl H7) h8 (o:=.lst yA)) h9 (o:=.lst yB)) iA (o:=.lst (yA++yB));generalize ig:upd (upd (upd H7 l8 (.lst yA)) l9 (.lst yB)) l10 (.lst (yA++yB))=H10 at s10 ⊢;have a10:H10 l10=some (.lst (yA++yB)):=by rw[←ig];exact AB
  have b7:=s10 _ _ a7;refine⟨_,Zj,l7,Zj,⟨_,aK.of b7⟩,DF (K:=K) (a:=l7) (xs:=(g6 j).map V.bl) (λi ys H2=>ys=((g6 j).take i).map (λb=>V.int (b1 b))/\H2=H10) ⟨Zj,Zj⟩ (λi ys H2 _ ⟨_,e⟩=>e ▸ aK.of b7) (λi ys H2 ⟨e,_⟩=>?_) ?_ ?_⟩
  ·rw[e,AJ,ZA];have:(g6 j).length=11:=rfl;omega
  ·rintro i v ys H2 hi ⟨rfl,rfl⟩;rw[ZE]at hi;obtain⟨b,hb,rfl⟩:=Z6.mp hi;refine⟨_,Zj,.inr ⟨b,Zj,?_,Zj⟩⟩;rw[ZD,hb,Option.toList_some,Zu];rfl
  ·rintro ys H2 ⟨rfl,rfl⟩ p hp;have el:(g6 j).take ((g6 j).map V.bl).length=g6 j:=by rw[AJ];exact ZB
   rw[el];have em:(g6 j).map (λb=>V.int (b1 b))=((g6 j).map b1).map V.int:=by rw[map_map];rfl
   rw[em];have s11:=AE (aA.refl H2) hp (o:=.lst (((g6 j).map b1).map V.int));refine⟨p,(g6 j).map b1,Zj,aK.of AB,λn hn=>?_,(by rw[Nt j hj];decide),Zj,_,Zj,?_⟩
   ·obtain⟨b,_,rfl⟩:=Zr.mp hn;unfold b1;split <;> decide
   rw[Nt j hj];refine Ac ?_;refine⟨_,Zj,_,_,true,Zj,.inr ⟨_,Zj,Zj⟩,hdS _ (s7.trans (s10.trans s11)),EA.val,_,Zj,?_⟩;refine Ac ?_;refine⟨_,Zj,eO,λl11 h11=>?_⟩;have iD:=AE s11 h11 (o:=.lst [V.str "Never", V.str "Nothing"]);refine⟨l10,l11,_,_,Zj,Zj,iD _ _ a10,AB,(by show 9+2<=sizeLine;decide),λl12 h12=>?_⟩;have s13:=AE iD h12 (o:=.lst ((yA++yB)++[V.str "Never", V.str "Nothing"]));have c7:=s13 _ _ b7;obtain⟨f1,f2⟩:=Ud j hj;refine⟨_,Zj,.inl ⟨Zj,_,aK.of c7⟩,l7,g6 j,j,Zj,Zj,c7,f1,f2,l12,_,(j:Int),_,Zj,Zj,aK.of AB,Ue j hj,eO,λq hq=>?_⟩;exact k q _ (s7.trans (s10.trans (AE s13 hq))) AB
end
structure LJ (K:FG) (ec:Nat->Xd) (cM C:Xd) (j:Nat):Prop where
 ea:Nu K ec C j
 cx:A4 K C=true
 n0:(Dk K C).contains (.ref (ec 0))=false
 n1:(Dk K C).contains (.ref (ec 1))=false
 n2:(Dk K C).contains (.ref (ec 2))=false
 n3:(Dk K C).contains (.ref (ec 3))=false
 m:(Dk K C).contains (.ref cM)=true
noncomputable def IM (j:Nat):Str:=(["at", "bits", "at", "name"]:Xa).getD j ""
structure LL (K:FG) (ec:Nat->Xd) (C:Xd) (j:Nat):Prop where
 ea:Nu K ec C j
 cx:A4 K C=true
 j4:j<4
 no:∀i,i<j->(Dk K C).contains (.ref (ec i))=false
 m:(Dk K C).contains (.ref (ec j))=true
 g:VW K C (IM j)
structure RB (K:FG) (mg:SV) (ec:Nat->Xd) (cM:Xd):Prop where
 m:mg "MarkError" = some (.ref cM)
 xm:A4 K cM=true
 x0:A4 K (ec 0)=true
 x1:A4 K (ec 1)=true
 x2:A4 K (ec 2)=true
 x3:A4 K (ec 3)=true
structure FnS (P:Program) (w:World) (K:FG) (mg:SV) (base:Heap) (x:Str) (k:Nat) (ps:Xa) (sp:SpS):Prop where
 ex:∃f fd,Na P w K mg base k f fd ps sp/\mg x=some (.ref f)/\W.keepIn K (.ref f)=true/\Binds K fd ps []
def RC (K:FG) (ec:Nat->Xd) (cM C:Xd) (dx:Option Xd) (e:Xd):TS:=λD σ H=>σ.length=2 /\
 ((∃j,LJ K ec cM C j/\dx=none/\∀p H',aA H H'->H' p=some (.tup [.str "refused", .str (wd j)])->D.rt (.ref p) H') \/
  ∃j d v,LL K ec C j/\dx=some d/\H d=some (.xd [(IM j,v)])/\∀p H',aA H H'->H' p=some (.tup [.str "refused", .str (wd j),v])->D.rt (.ref p) H')
def JG (K:FG) (ec:Nat->Xd) (cM:Xd) (Q:VK):XK:=λCv dx H2=>∃C,Cv=.ref C/\∀e,H2 e=some (Fp e C dx) ->
 ((∃j,LJ K ec cM C j/\dx=none/\∀p H',aA (del H2 e) H'->H' p=some (.tup [.str "refused", .str (wd j)])->Q (.ref p) H') \/
  ∃j d v,LL K ec C j/\dx=some d/\(del H2 e) d=some (.xd [(IM j,v)])/\∀p H',aA (del H2 e) H'->H' p=some (.tup [.str "refused", .str (wd j),v])->Q (.ref p) H')
theorem scTold:AN ["_law_deed", "_law_e"] ["_law_deed"] (defScope Aq):=cS
section
variable {ec:Nat->Xd}{cM:Xd}
theorem RE {X:Cx} (K:FG) (hK:X.K=K):dc X (binaryOp .Add) (NP K):=hK ▸ Ru
theorem Sq {k:Nat}{f lf c':Xd} (F:aY K "_law_told" "_law_told" Aq f fd) (M:PX mg ec) (EX:RB K mg ec cM) (GW:FnS P w K mg base "_law_word" 1 ["_law_e"] (Dd K ec))
  {A:Around}{outer:List Env}{s:Xe}{H:Hp}{args:Args}{Nl:Xa}{scope:Scope}{cl:List (Str×Xd)}{iI:St}{name qual:Str}{params:Arguments}{body:Expr}{pm ef:Value}{tl:XK->TE}{Q:VK}
  (hr:aI (k+2) A) (e0:eV P w K mg base A outer s H) (hb:BindsTo s fd args ((["_law_deed"]:Xa).zip [Value.ref lf])) (C:HI Nl scope cl iI H s.heap) (i5:∀x c,cl.lookup x=some c->c∉ di outer)
  (h1:H lf=some (jC lf (W.kla_obj name qual params body scope cl pm c' ef))) (h2:H c'=some (FJ c' qual))
  (bt:bindArgs (W.kla_fn name qual params body scope cl pm (.ref c') ef) ⟨[],[]⟩=pure [])
  (jv:scope.isCoroutine=false) (bx:scope.isGenerator=false) (hk:scope.kind=.function) (bi:∀x∈scope.names,x.2≠ .cell)
  (cy:∀(A':Around) (outer':List Env) (s':Xe) (H':Hp) (E:XK),aI k (A'.deeper (W.envX qual scope s'.heap.objs.size lf (.ref c') cl))->PE (ER P w K mg base Nl qual scope lf (.ref c') cl A' outer' s' H' E) body (tl E))
  (h:tl (JG K ec cM Q) iI H Q):codeAny (model P w) A (.call (.ref f) args) (CR aT outer P w H s Q E0) s:=by
 obtain⟨fW,dW,GW,mW,kW,bW⟩:=GW.ex;refine F.at (N:=["_law_deed", "_law_e"]) scTold (vs:=[.ref lf]) Zj (k:=k+1) hr e0 hb (.cons Zj .nil) λad eP=>?_;have own:=UF (CX:=aT) (P:=P) (w:=w) (K:=K) (mg:=mg) (base:=base) (N:=["_law_deed", "_law_e"]) (qual := "_law_told") (scope:=defScope Aq) (f:=f) (cd:=ad) (A:=A) (outer:=outer) (s:=s) (H:=H) (E:=E0)
 have hrm:∀e:Xd,RoomS 1 ((A.deeper (PyProof.Rows.envOfC "_law_told" (defScope Aq) s.heap.objs.size f ad)).mark (some (.ref e))):=λe=>by
  have q:=eP.mono (show 1<=k+1 by omega);exact⟨q.dp,q.un⟩
 refine⟨_,AG (UI (tb:=λE=>Ph (Kn 0 lf c' qual (W.kla_obj name qual params body scope cl pm c' ef) iI (tl E))) (th:=RC K ec cM) own (λP0 xe E hx=>?_) (λCC dx=>?_)),?_⟩
 ·exact AG (AO (MU (X:=FI (BM aT P w K mg base ["_law_deed", "_law_e"] "_law_told" (defScope Aq) f ad A outer s H E0) P0 xe) (i:=0) (k:=k+1) Zj (Or.inl Zj) eP C i5 Zj hx bt jv bx hk bi (λs' H'=>cy _ _ s' H' E (eP.deeper _))))
 ·intro aa s1 σ H1 D e oe T oT c I h;obtain⟨hl,⟨j,EP,rfl,kq⟩ |⟨j,d,v,EF,rfl,hxd,kq⟩⟩:=h
  ·refine(?hp:PH (BM aT P w K mg base ["_law_deed", "_law_e"] "_law_told" (defScope Aq) f ad A outer s H E0) CC none _ (λe=>Nb 1 (λD σ H=>σ[1]?=some (some (.ref e))/\∀p H',aA H H'->H' p=some (.tup [.str "refused", .str (wd j)])->D.rt (.ref p) H') e)) aa s1 σ H1 D e oe T oT c I ?_
   ·refine CK (Dn:=ec 0) EP.cx EX.x0 Zj M.e0 EP.n0 ?_;refine CK (Dn:=ec 1) EP.cx EX.x1 Zj M.e1 EP.n1 ?_;refine CK (Dn:=ec 2) EP.cx EX.x2 Zj M.e2 EP.n2 ?_;refine CK (Dn:=ec 3) EP.cx EX.x3 Zj M.e3 EP.n3 ?_;refine Nd (Dn:=cM) (i:=1) (tb:=λ(e:Xd) (D:Dj) (σ:St) (H:Hp)=>σ[1]?=some (some (V.ref e))/\∀p H',aA H H'->H' p=some (.tup [.str "refused", .str (wd j)])->D.rt (.ref p) H') scTold.nd Zj Zj EP.cx EX.xm Zj EX.m EP.m (λe oe T oT c=>?_);refine λaa s2 bM H2 D2 I2 h2=>?_;obtain⟨fs,hd,hf1,hf2⟩:=c.fld;refine(?hb2:eK (BY (BM aT P w K mg base ["_law_deed", "_law_e"] "_law_told" (defScope Aq) f ad A outer s H E0) e oe T oT) _ (Ph (Je (Dd K ec) e oe (Al (IC 1) C1)))) aa s2 bM H2 D2 I2 ⟨_,h2.1,Zj,CC,j,fs,c.cls,hd,hf2,.inl c.dict,EP.ea,h2.2⟩;exact AG (AO (Km (X:=BY (BM aT P w K mg base ["_law_deed", "_law_e"] "_law_told" (defScope Aq) f ad A outer s H E0) e oe T oT) (e:=e) (oe:=oe) GW (hrm e) Zj (by simp[BY]) Zj mW kW bW (AA (pv 1) AC)))
   ·exact⟨by rw[List.getElem?_set_self qe],kq⟩
  ·have hj4:=EF.j4;refine(?hq:PH (BM aT P w K mg base ["_law_deed", "_law_e"] "_law_told" (defScope Aq) f ad A outer s H E0) CC (some d) _ (λe=>Nb 1 (λD σ H=>σ[1]?=some (some (.ref e))/\H d=some (.xd [(IM j,v)])/\∀p H',aA H H'->H' p=some (.tup [.str "refused", .str (wd j),v])->D.rt (.ref p) H') e)) aa s1 σ H1 D e oe T oT c I ?_
   ·have take:∀ {x:Str}{b₀:Stmt}{np pos:Pos}{hs:List ExceptHandler} (Dn:Xd),A4 K Dn=true->(hg:Gl (BM aT P w K mg base ["_law_deed", "_law_e"] "_law_told" (defScope Aq) f ad A outer s H E0) x)->mg x=some (.ref Dn)->(Dk K CC).contains (.ref Dn)=true->(x==("__debug__" : Str))=false ->
      (∀e oe T oT,Cgt CC (some d) e oe T oT->eK (BY (BM aT P w K mg base ["_law_deed", "_law_e"] "_law_told" (defScope Aq) f ad A outer s H E0) e oe T oT) [b₀] (Ph (iZ (NP K) (Je (Dd K ec) e oe (Al (IC 1) C1)) (T6 (Al (QV e oe (IM j) (IC 1)) C1))))) ->
      PH (BM aT P w K mg base ["_law_deed", "_law_e"] "_law_told" (defScope Aq) f ad A outer s H E0) CC (some d) (.ExceptHandler (some (.Name x np)) (some "_law_e") [b₀] pos::hs) (λe=>Nb 1 (λD σ H=>σ[1]?=some (some (.ref e))/\H d=some (.xd [(IM j,v)])/\∀p H',aA H H'->H' p=some (.tup [.str "refused", .str (wd j),v])->D.rt (.ref p) H') e):=λ{x b₀ np pos hs} Dn hD hg hm hc eI hbod =>
     Nd (Dn:=Dn) (i:=1) (tb:=λ(e:Xd) (D:Dj) (σ:St) (H:Hp)=>σ[1]?=some (some (V.ref e))/\H d=some (.xd [(IM j,v)])/\∀p H',aA H H'->H' p=some (.tup [.str "refused", .str (wd j),v])->D.rt (.ref p) H') scTold.nd rfl rfl EF.cx hD hg hm hc (λe oe T oT c=>by
      refine λaa s2 bM H2 D2 I2 h2=>?_;obtain⟨fs,hd,hf1,hf2⟩:=c.fld;obtain⟨g1,g2,g3⟩:=h2;refine hbod e oe T oT c aa s2 bM H2 D2 I2 ⟨_,g1,rfl,CC,j,fs,c.cls,hd,hf2,.inr ⟨d,_,c.dict,g2⟩,EF.ea,λp H' sp hp=>?_⟩;refine⟨_,g1,d,_,v,rfl,c.dict,sp _ _ g2,(by simp),sl1,λq hq=>?_⟩;have sq:=AE (aA.refl H') hq (o:=.tup [v]);refine⟨p,q,_,_,rfl,rfl,aQ.of (sq _ _ hp),aQ.of AB,(by simp),(by show 2+1<=sizeLine;decide),(λz=>nomatch z),λ_ r hr=>?_⟩
      exact g3 r _ (sp.trans (AE sq hr)) AB) eI
    have pX:∀e oe T oT,Cgt CC (some d) e oe T oT->ExcP (BY (BM aT P w K mg base ["_law_deed", "_law_e"] "_law_told" (defScope Aq) f ad A outer s H E0) e oe T oT) e oe CC:=λe oe T oT c=>by
     obtain⟨fs,hd,_⟩:=c.fld;exact⟨by simp[BY],c.cls,⟨fs,hd⟩⟩
    have bod:∀ {fl:Str}{p1 p2 p3 p4 p5 p6 p7:Pos}{kt:Nat},IM j=fl->∀e oe T oT,Cgt CC (some d) e oe T oT->eK (BY (BM aT P w K mg base ["_law_deed", "_law_e"] "_law_told" (defScope Aq) f ad A outer s H E0) e oe T oT) [.Return (some (.BinOp (.Call (.Name "_law_word" p1) [.Name "_law_e" p2] [] p3) .Add (.Tuple [.Attribute (.Name "_law_e" p4) fl p5] kt p6) p7)) p7] (Ph (iZ (NP K) (Je (Dd K ec) e oe (Al (IC 1) C1)) (T6 (Al (QV e oe (IM j) (IC 1)) C1)))):=λae e oe T oT c=>by
     subst ae;exact AG (AO (Ab (RE K Zj) (Km (X:=BY (BM aT P w K mg base ["_law_deed", "_law_e"] "_law_told" (defScope Aq) f ad A outer s H E0) e oe T oT) (e:=e) (oe:=oe) GW (hrm e) Zj (by simp[BY]) Zj mW kW bW (AA (pv 1) AC)) (As (AA (SR (pX e oe T oT c) EF.g (pv 1) Zj) AC))))
    rcases (show j=0\/j=1\/j=2\/j=3 by omega)with z |z |z |z
    ·subst z;exact take (ec 0) EX.x0 Zj M.e0 EF.m qc (bod Zj)
    ·subst z;refine CK (Dn:=ec 0) EF.cx EX.x0 Zj M.e0 (EF.no 0 qc) ?_;exact take (ec 1) EX.x1 Zj M.e1 EF.m qc (bod Zj)
    ·subst z;refine CK (Dn:=ec 0) EF.cx EX.x0 Zj M.e0 (EF.no 0 qc) ?_;refine CK (Dn:=ec 1) EF.cx EX.x1 Zj M.e1 (EF.no 1 qc) ?_;exact take (ec 2) EX.x2 Zj M.e2 EF.m qc (bod Zj)
    ·subst z;refine CK (Dn:=ec 0) EF.cx EX.x0 Zj M.e0 (EF.no 0 qc) ?_;refine CK (Dn:=ec 1) EF.cx EX.x1 Zj M.e1 (EF.no 1 qc) ?_;refine CK (Dn:=ec 2) EF.cx EX.x2 Zj M.e2 (EF.no 2 qc) ?_;exact take (ec 3) EX.x3 Zj M.e3 EF.m qc (bod Zj)
   ·exact⟨by rw[List.getElem?_set_self qe],hxd,kq⟩
 ·refine⟨Zj,h1,h2,?_⟩
  have e:SG (BM aT P w K mg base ["_law_deed", "_law_e"] "_law_told" (defScope Aq) f ad A outer s H E0).N.length (RC K ec cM) { nx:=λ_ H'=>Q .aP H',rt:=Q }=JG K ec cM Q:=by
   funext Cv dx H2;unfold SG JG RC;simp[BM]
  rw[←e]at h;exact h
end
end Mk
end
section
namespace L2
open PySem PySem.Spec PyProof.Rows
noncomputable def Sr (ix:List Nat) (σ:St):St:=ix.map λj=>(σ[j]?).getD none
structure LamN (X:Cx) (Nl:Xa) (ix:List Nat) (scope:Scope) (cD:List (Str×Xd)):Prop where
 len:ix.length=Nl.length
 nm:∀(i:Nat) (x:Str),Nl[i]?=some x->∃j:Nat,ix[i]?=some j/\X.N[j]?=some x/\X.env.scope.names.lookup x=some .cell/\scope.names.lookup x=some .free
 cl:∀x c,cD.lookup x=some c->X.env.cells.lookup x=some c
 has:∀x,(scope.names.lookup x=some .cell\/scope.names.lookup x=some .free)->∃c,cD.lookup x=some c
 fn:∀x,X.fn x=true
section
variable {X:Cx}{aa:LO}{σ:St}{s:Xe}{Nl:Xa}{ix:List Nat}{scope:Scope}{cD:List (Str×Xd)}
theorem LamN.cells (L:LamN X Nl ix scope cD) (I:Inv X aa σ H s):HI Nl scope cD (Sr ix σ) H s.heap:=by
 refine⟨λx y c h1 h2=>I.ok.inj x y c (L.cl x c h1) (L.cl y c h2),L.has,λx c h=>⟨I.cell x c (L.cl x c h),I.cG x c (L.cl x c h)⟩,λi x v h1 h2=>?_,?_⟩
 ·obtain⟨j,hj,hN,hk,hf⟩:=L.nm i x h1;refine⟨hf,?_⟩;unfold Sr at h2;rw[ZE,hj]at h2
  have hv:σ[j]?=some (some v):=by
   simp only[Option.map_some,Option.some.injEq]at h2;cases e:σ[j]? with
   |none=>rw[e]at h2;cases h2
   |some o=>rw[e]at h2;simp only[Option.getD_some]at h2;rw[h2]
  obtain⟨m,_,hl⟩:=I.loc;obtain⟨u,r,l⟩:=hl j x v hN hv (.inr (.inl hk));rcases l with⟨l,_⟩ |⟨_,c,e,z⟩
  ·rw[show X.env.kindOf x=X.env.scope.names.lookup x from rfl,hk]at l;cases l
  ·obtain⟨c2,e2⟩:=L.has x (.inr hf);have e3:=L.cl x c2 e2;rw[e]at e3;cases e3;exact⟨u,c,r,e2,z⟩
 ·unfold Sr;rw[AJ];exact L.len
theorem LamN.jz (L:LamN X Nl ix scope cD) (I:Inv X aa σ H s):∀x c,cD.lookup x=some c->c∉ di X.stack:=λx c h z=>by
 have hc:=L.cl x c h;rcases mem_cons.mp (I.dz c z)with z |z
 ·exact I.jA x c hc z
 ·obtain⟨_,o,ho,_⟩:=I.ok.dn.mem z;exact absurd (Z2 (lt_size ho) (I.ok.iV x c (L.fn x) hc)) (ZF _)
end
end L2
namespace Mk
open PySem L2 MK
section
variable {X:Cx}{ec:Nat->Xd}{cM c P0:Xd}{ls:List Pos}{cX:Pos}
def RF (K:FG) (ec:Nat->Xd) (cM P0:Xd) (qual:Str) (ls:List Pos) (ix:List Nat) (tl:XK->TE):TE:=λσ H Q=>aV H P0 qual ls/\∀H',Ix P0 H H'->aV H' P0 qual ls->tl (JG K ec cM Q) (Sr ix σ) H' Q
theorem Nw {k:Nat}{f:Xd} (F:aY X.K "_law_told" "_law_told" Aq f fd) (M:PX X.mg ec) (EX:RB X.K X.mg ec cM) (GW:FnS X.prog X.w X.K X.mg X.base "_law_word" 1 ["_law_e"] (Dd X.K ec))
  (hr:aI (k+2) X.A) (hg:Gl X "_law_told") (hm:X.mg "_law_told" = some (.ref f)) (hkp:W.keepIn X.K (.ref f)=true) (hB:Binds X.K fd ["_law_deed"] [])
  {Nl:Xa}{ix:List Nat}{scope:Scope}{cD:List (Str×Xd)}{params:Arguments}{body:Expr}{tl:XK->TE}{p pos:Pos}
  (L:SJ X c P0) (hls:cX∈ls) (aw:∀q∈ls,q=cX\/(q.line==cX.line&&q.col==cX.col)=false) (af:closureFor scope X.env=pure cD) (cw:defaultsOf params X.env=([],[])) (LN:LamN X Nl ix scope cD)
  (bt:∀pm c' ef,bindArgs (W.kla_fn "<lambda>" (X.env.qual ++ "<lambda>") params body scope cD pm (.ref c') ef) ⟨[],[]⟩=pure [])
  (jv:scope.isCoroutine=false) (bx:scope.isGenerator=false) (hk:scope.kind=.function) (bi:∀x∈scope.names,x.2≠ .cell)
  (cy:∀(lf c':Xd) (A':Around) (outer':List Env) (s':Xe) (H':Hp) (E:XK),aI k (A'.deeper (W.envX (X.env.qual ++ "<lambda>") scope s'.heap.objs.size lf (.ref c') cD))->PE (ER X.prog X.w X.K X.mg X.base Nl (X.env.qual ++ "<lambda>") scope lf (.ref c') cD A' outer' s' H' E) body (tl E))
  (he:starEach [.Lambda params body scope cX] X.env=(false,eval (.Lambda params body scope cX) X.env)::starEach [] X.env:=by rfl) (eQ:(backTo pos (starEach [] X.env)).any (·.1)=false:=by rfl) :
  PE X (.Call (.Name "_law_told" p) [.Lambda params body scope cX] [] pos) (RF X.K ec cM P0 (X.env.qual ++ "<lambda>") ls ix tl):=by
 intro aa s σ H Q I ⟨hT,h⟩;refine Z3 (CI I hg hm ?_ qc);have ha:PA X [.Lambda params body scope cX] (Al (VR P0 (X.env.qual ++ "<lambda>") ls (λc' ef=>W.kla_obj "<lambda>" (X.env.qual ++ "<lambda>") params body scope cD ((X.mg "__name__").getD .none) c' ef)) C1):=AA (UJ L hls aw af cw) AC he;refine W.callWith_K (h₀:=X.base) I.ok.mod.kin hkp (aF (ha pos aa s σ H (λvs H1=>∃lf c' ef,vs=[.ref lf]/\Ix P0 H H1/\aV H1 P0 (X.env.qual ++ "<lambda>") ls/\H1 lf=some (jC lf (W.kla_obj "<lambda>" (X.env.qual ++ "<lambda>") params body scope cD ((X.mg "__name__").getD .none) c' ef))/\H1 c'=some (FJ c' (X.env.qual ++ "<lambda>"))) I ⟨hT,λlf c' ef H' _ hs ht h1 h2=>⟨lf,c',ef,rfl,hs,ht,h1,h2⟩⟩) λus s1 ⟨vs,H1,I1,r,lf,c',ef,ev,hs,ht,h1,h2⟩=>⟨I1.cY,?_⟩) he eQ;subst ev;obtain⟨u,eu,ru⟩:=Bt r;subst eu;obtain rfl:u=Value.ref lf:=ru;have bb:=hB s1 [.ref lf] I1.cY rfl;rw[Zt]at bb;refine wpAny_call (codeAny_mono (Sq (k:=k) F M EX GW hr I1.env0 bb (LN.cells I1) (LN.jz I1) h1 h2 (bt _ _ _) jv bx hk bi (cy lf c') (h H1 hs ht)) λr s' hq=>?_);cases r with
 |error e=>exact False.elim hq
 |ok fl =>
  cases fl with
  |ret u=>exact I1.after hq
  |next=>exact False.elim hq
  |brk=>exact False.elim hq
  |cont=>exact False.elim hq
end
section
variable {cM cR:Xd}
structure Vc (P:Program) (w:World) (K:FG) (mg:SV) (base:Heap) (cM:Xd):Prop where
 cls:mg "MarkError" = some (.ref cM)
 ga:W.specialIn K (.ref cM) "__getattribute__" = some (some (.builtin "type.__getattribute__"))
 rd:W.readsIn K cM (.type "type")=true
 fn:∃f fd,W.findCls K (.ref cM) (.type "type") "__init__" = some (.val (.ref f))/\Af P w K mg base aT 1 f fd ["self", "words"] (spErrInit K)/\W.keepIn K (.ref f)=true/\Binds K fd ["self", "words"] []
end
theorem JH {n:Nat} (h:n<2 ^ 40):((n:Int)).natAbs.log2<1920:=by
 rw[Int.natAbs_natCast];rcases Nat.eq_zero_or_pos n with z |z
 ·subst z;decide
 ·have:=(Nat.log2_lt qe).mpr h;omega
section
theorem A3 {d:Xd}{x y x' y':Int} (h:H d=some (.lst [.int x,.int y])):aG d H (upd H d (.lst [.int x',.int y'])):=⟨λb o e hb=>by rw[AH hb];exact e,⟨x',y',AB⟩⟩
end
def AtV (v:V):Prop:=v=.aP\/∃n:Int,v=.int n/\n.natAbs.log2<1920
def NoIs (K:FG) (T:String) (H:Hp) (v:V):Prop:=(∃t,(∀H,eh K H v t)/\W.kitOne K t (.type T)=some false)\/(∃a xs,v=.ref a/\H a=some (.tup xs)/\W.kitOne K (.type "tuple") (.type T)=some false) \/
 ∃a xs,v=.ref a/\H a=some (.lst xs)/\(∀x y:Int,xs≠ [.int x,.int y])/\W.kitOne K (.type "list") (.type T)=some false
theorem NoIs.ty {T:String}{v:V} (h:NoIs K T H v):∃t,eh K H v t/\W.kitOne K t (.type T)=some false:=by
 rcases h with⟨t,h,k⟩ |⟨a,xs,rfl,h,k⟩ |⟨a,xs,rfl,h,_,k⟩
 ·exact⟨t,h H,k⟩
 ·exact⟨_,.tup h,k⟩
 ·exact⟨_,.lst h,k⟩
section
variable {cM cR:Xd}
inductive spTextInit (K:FG) (cM:Xd) (vs:Xc) (H:Hp) (Q:VK) (_E:XK):Prop where
 |mk (e C:Xd) (v:V) (cJ:vs=[.ref e,v]) (cP:AtV v) (cV:A4 K C=true) (dr:H e=some (FH e C none)) (d9:QU K C cM "at") (gi:∀d,H d=none->d≠e->Q .aP (upd (upd H e (FH e C (some d))) d (.xd [("at", v)])))
theorem M0:AN ["self", "at"] ["self", "at"] (defScope DV):=cS
theorem LM {f:Xd} (F:aY K "__init__" "BadText.__init__" DV f fd) (ME:Vc P w K mg base cM):Af P w K mg base aT 2 f fd ["self", "at"] (spTextInit K cM):=by
 obtain⟨fI,dI,hf,GI,kI,bI⟩:=ME.fn;have mM:=ME.cls;refine F.m M0 λvs H Q E h=>?_;obtain⟨e,C,v,rfl,hn,hC,he,S,k⟩:=h;refine⟨Zj,λad A outer s hr=>?_⟩;refine⟨_,AF (BJ (MV Zj mM ME.ga ME.rd hf GI hr kI bI .nil AR (AA (pv 0) (AA (SQ qb (pv 1)) AC)))) (AG (SN (M:=cM) (pv 0) (pv 1) Zj)),?_⟩;refine⟨_,Zj,_,Zj,hn.elim (λz=>.inr (.inr z)) .inl,λz=>⟨e,C,none,z,Zj,hC,he,?_⟩⟩;exact⟨_,Zj,_,Zj,e,C,Zj,he,S,k⟩
def kb (H:Hp) (E:XK) (cR:Xd) (v:V):Prop:=∀e d H',aA H H'->H e=none->H d=none->d≠e->H' e=some (Fp e cR (some d))->H' d=some (.xd [("at", v)])->E (.ref cR) (some d) H'
theorem kb.of {E:XK}{v:V} (s:aA H H') (h:kb H E cR v):kb H' E cR v:=λe d H2 s2 he hd aw h1 h2=>h e d H2 (s.trans s2) (none_of s he) (none_of s hd) aw h1 h2
structure Nx (P:Program) (w:World) (K:FG) (mg:SV) (base:Heap) (cM cR:Xd):Prop where
 cls:mg "BadText" = some (.ref cR)
 make:∃f fd,MkX K cR f/\Af P w K mg base aT 2 f fd ["self", "at"] (spTextInit K cM)/\Binds K fd ["self", "at"] []
 st:QU K cR cM "at"
theorem PY {σ:St}{H1:Hp}{E:XK}{D:Dj}{v:V}{te:TE} (hC:A4 K cR=true) (S:QU K cR cM "at") (hn:AtV v) (s1:aA H H1) (h:kb H E cR v) (ht:∀Q:VK,Q v H1->te σ H1 Q) :
  MP cR (MO cR (spTextInit K cM) [] E0 (Al te C1)) E D σ H1:=by
 refine ht _ ?_;refine⟨(by show 1<=1000;decide),λa ha=>?_⟩;refine⟨a,cR,v,Zj,hn,hC,AB,S,λd hd aw=>⟨Zj,a,some d,Zj,?_,?_⟩⟩
 ·rw[AH (Ne.symm aw),AB]
 ·have eS:H1 d=none:=by rw[AH aw]at hd;exact hd
  refine h a d _ (λb u e=>?_) (none_of s1 ha) (none_of s1 eS) aw AB ?_
  ·have e1:=s1 _ _ e;have nb:b≠a:=AI e1 ha;have nd:b≠d:=AI e1 eS;rw[AH nb,AH nd,AH nb,AH nb];exact e1
  ·rw[AH aw,AB]
def Vd (K:FG) (H:Hp) (v:V):Prop:=v=.bl true\/NoIs K "int" H v
def D7 (K:FG):Sp:=λvs H Q _=>(∃i:Int,vs=[.int i]/\Q (.bl true) H)\/∃v,vs=[v]/\Vd K H v/\Q (.bl false) H
theorem F5 {f:Xd} (F:aY K "is_whole" "is_whole" FR f fd) (B:Bl mg):Af P w K mg base aT 1 f fd ["thing"] (D7 K):=by
 refine F.ok O4 (λvs H Q E h=>?_) (λad A outer s H vs Q E hr h=>?_)
 ·rcases h with⟨i,rfl,_⟩ |⟨v,rfl,_⟩ <;> rfl
 ·refine⟨_,AG (AO (Cz (CL K rfl rfl B.f6 rfl B.int HY (pv 0)) (Cy (Pg (CL K rfl rfl B.f6 rfl B.bool Sc (pv 0)))))),?_⟩;rcases h with⟨n,rfl,k⟩ |⟨v,rfl,hv,k⟩
  ·refine⟨_,Zj,_,_,_,true,Zj,.int n,Zj,_,Zj,?_⟩;exact⟨_,Zj,_,_,_,false,Zj,.int n,qd,_,Zj,k⟩
  ·rcases hv with rfl |hv
   ·refine⟨_,Zj,_,_,_,true,Zj,.bl true,qd,_,Zj,?_⟩;exact⟨_,Zj,_,_,_,true,Zj,.bl true,Zj,_,Zj,k⟩
   ·obtain⟨t,ht,hk⟩:=hv.ty;exact⟨_,Zj,_,_,_,false,Zj,ht,hk,_,Zj,Ac k⟩
noncomputable def okN (i:Int):Bool:=decide (0<=i)&&decide (i<1099511627776)
def M6 (K:FG):Sp:=λvs H Q _=>(∃i:Int,vs=[.int i]/\Q (.bl (okN i)) H)\/∃v,vs=[v]/\Vd K H v/\Q (.bl false) H
theorem Ny {f:Xd}{tL:Tok} (F:aY K "is_number" "is_number" EH f fd) (hL:mg "LIMIT" = some (.int 1099511627776 tL)) (GW:Fn P w K mg base "is_whole" 1 ["thing"] (D7 K)):Af P w K mg base aT 2 f fd ["thing"] (M6 K):=by
 obtain⟨fW,dW,GW,mW,kW,bW⟩:=GW.ex;refine F.ok My (λvs H Q E h=>?_) (λad A outer s H vs Q E hr h=>?_)
 ·rcases h with⟨i,rfl,_⟩ |⟨v,rfl,_⟩ <;> rfl
 ·refine⟨_,AG (AO (Cz (AQ GW hr rfl mW kW bW .nil AR (AA (pv 0) AC)) (Cy (E5 E4 IS AD (pv 0) (Bg (v:=.int 1099511627776) rfl hL ⟨tL,rfl⟩))))),?_⟩;rcases h with⟨i,rfl,k⟩ |⟨v,rfl,hv,k⟩
  ·refine⟨_,Zj,.inl ⟨i,Zj,_,Zj,Ao ⟨_,Zj,_,_,Zj,Zj,_,Zj,?_⟩⟩⟩;unfold okN at k;by_cases h0:0<=i
   ·rw[ZL h0]at k ⊢;exact Ao ⟨_,_,Zj,Zj,k⟩
   ·rw[ZO h0]at k ⊢;exact Ac k
  ·exact⟨_,Zj,.inr ⟨v,Zj,hv,_,Zj,Ac k⟩⟩
theorem LP {f:Xd} (F:aY K "is_whole" "is_whole" FR f fd) (B:Bl mg):Af P w K mg base aT 1 f fd ["thing"] spIsWhole:=Qw (F5 F B) λvs H Q E h=>by obtain⟨i,e,q⟩:=h;exact .inl ⟨i,e,q⟩
theorem Jw {f:Xd}{tL:Tok} (F:aY K "is_number" "is_number" EH f fd) (hL:mg "LIMIT" = some (.int 1099511627776 tL)) (GW:Fn P w K mg base "is_whole" 1 ["thing"] (D7 K)):Af P w K mg base aT 2 f fd ["thing"] spIsNumber:=Qw (Ny F hL GW) λvs H Q E h=>by
 obtain⟨n,e,hn,q⟩:=h;refine .inl ⟨(n:Int),e,?_⟩;have e40:(2:Nat) ^ 40=1099511627776:=by decide
 unfold okN;rw[ZL (show(0:Int)<=(n:Int) by omega),ZL (show(n:Int)<1099511627776 by omega)];exact q
end
end Mk
end
section
namespace Mk
open PySem L2 MK PySem.NumText
noncomputable def CV (c:Nat):Bool:=decide (48<=c)&&decide (c<=57)
noncomputable def CH (c:Nat):Bool:=decide (97<=c)&&decide (c<=122)
theorem JI (lo hi:Nat) (x y:Str) (hx:x.cps.toList=[lo]) (hy:y.cps.toList=[hi]) (c:Nat):(if (!decide ((⟨#[c]⟩:Str).cps.toList<x.cps.toList))=true then (!decide (y.cps.toList<(⟨#[c]⟩:Str).cps.toList))else false)=(decide (lo<=c)&&decide (c<=hi)):=by
 rw[hx,hy];show(if (!decide ([c]<[lo]))=true then !decide ([hi]<[c])else false)=_
 have e1:decide ([c]<[lo])=decide (c<lo):=by
  rw[Bool.eq_iff_iff,decide_eq_true_eq,decide_eq_true_eq,cons_lt_cons_iff];simp
 have e2:decide ([hi]<[c])=decide (hi<c):=by
  rw[Bool.eq_iff_iff,decide_eq_true_eq,decide_eq_true_eq,cons_lt_cons_iff];simp
 rw[e1,e2];by_cases h1:c<lo <;> by_cases h2:hi<c <;> simp[h1,h2] <;> omega
noncomputable def Jx (x:Str):Bool:=x.cps.toList.all CV&&(decide (x = "0")||(!decide (x.cps.toList.head?=some 48)&&decide (digitsVal x.cps.toList<1099511627776)))
noncomputable def BP (x:Str):Bool:=match x.cps.toList with | [c]=>CH c |_=>false
section
inductive spFig (vs:Xc) (H:Hp) (Q:VK) (_E:XK):Prop where
 |mk (x:Str) (cJ:vs=[.str x]) (cP:x.cps.all (· < 128)=true) (cV:0<x.length) (dr:x.length<=200) (d9:∀H',aA H H'->Q (.bl (Jx x)) H')
theorem Ve:AN ["text"] ["text"] (defScope Eo):=cS
theorem Uf {f:Xd} (F:aY K "is_figures" "is_figures" Eo f fd) (B:Bl mg) (GN:Fn P w K mg base "is_number" 2 ["thing"] (M6 K)):Af P w K mg base aT 3 f fd ["text"] spFig:=by
 obtain⟨fN,dN,GN,mN,kN,bN⟩:=GN.ex;refine F.m Ve λvs H Q E h=>?_;obtain⟨x,rfl,ha,h0,h60,k⟩:=h;refine⟨Zj,λad A outer s hr=>?_⟩
 refine⟨_,AF (An (PW.pt (EN (AM Aw (AW Az Zj B.len PySem.boot_len (AA (pv 0) AC)) AD (AS _)) (Cw (Bs (BB (AW (HD Zj) Zj B.all Mp (AA (Bv [] [] qd qb qd Zj (Ly (pv 0)) (λ_ _ _ _ _ _=>Bu) (λ_ _ _ _ _ _=>E5 CY CY AK (pv 0) AK)) AC))))))) (AG (AO De)) Ae)
  (AF (An (AM Aw (BG JR (pv 0) AD (λ_ _=>rfl)) AK (AS _)) (AG (AO (Cj Aw (pv 0) AK (AS _)))) Ae)
  (AG (AO (AQ GN hr rfl mN kN bN .nil AR (AA (Bp ES rfl B.int HY (AA (pv 0) AC)) AC))))),?_⟩
 refine⟨_,Zj,x,Zj,Nat.le_of_lt (AL qe),Zj,_,Zj,?_⟩;rw[ZO (show ¬ V.int (x.length:Int)=V.int 0 from λz=>by have:=V.int.inj z;omega)];refine Ac ?_;have hlx:x.cps.toList.length=x.length:=by rw[Array.length_toList];rfl
 refine⟨_,Zj,x,Zj,ha,HX (x:=x) (λi ys H2=>H2=H/\ys=(x.cps.toList.take i).map λc=>V.bl (CV c)) ⟨Zj,Zj⟩ (λi ys H2 ⟨_,e⟩=>?_) ?_ ?_⟩
 ·rw[e,AJ,ZA];omega
 ·rintro i c ys H2 hc ⟨rfl,rfl⟩;refine⟨_,Zj,_,_,Zj,Zj,_,Zj,?_⟩
  have fin:∀b,b=CV c->(H2=H2/\(x.cps.toList.take i).map (λc=>V.bl (CV c))++[V.bl b]=(x.cps.toList.take (i+1)).map λc=>V.bl (CV c)):=λb hb=>by
   refine⟨Zj,?_⟩;have iz:x.cps.toList[i]?=some c:=by rw[Array.getElem?_toList];exact hc
   rw[ZD,iz,Zu,hb];rfl
  have hu:=JI 48 57 "0" "9" qb qb c;refine Ba (λh3=>?_) (λh3=>?_)
  ·rw[Zp h3]at hu;exact⟨_,_,Zj,Zj,fin _ hu⟩
  ·rw[Zq h3]at hu;exact fin _ hu
 rintro ys H2 ⟨rfl,rfl⟩ p hp;have el:x.cps.toList.take x.cps.size=x.cps.toList:=take_of_length_le (by rw[Array.length_toList];exact Zy _);have sp:=AE (aA.refl _) hp (o:=HO.lst ((x.cps.toList.take x.cps.size).map λc=>V.bl (CV c)));refine⟨p,x.cps.toList.map CV,Zj,aK.of (by rw[AB,el,map_map];rfl),_,Zj,?_⟩;rw[show(x.cps.toList.map CV).all id=x.cps.toList.all CV by rw[all_map];rfl];have kk:=k _ sp;unfold Jx at kk;by_cases be:x.cps.toList.all CV=true
 ·rw[be]at kk ⊢;rw[Bool.true_and]at kk;refine Ac ?_
  obtain⟨c,cs,ec⟩:∃c cs,x.cps.toList=c::cs:=by
   cases e:x.cps.toList with
   |nil=>rw[e]at hlx;simp at hlx;omega
   |cons c cs=>exact⟨c,cs,rfl⟩
  refine⟨_,Zj,x,0,c,Zj,Zj,Nat.le_of_lt (AL qe),(show gM _ ((0:Nat):Int)=_ from BN (by rw[ec];rfl)),Zj,_,Zj,?_⟩;have e0:("0" : Str).cps.toList=[48]:=by decide +kernel
  by_cases h48:c=48
  ·subst h48;rw[ZL (show V.str ⟨#[48]⟩=V.str "0" by decide +kernel)];rw[ZL (show x.cps.toList.head?=some 48 by rw[ec];rfl),Bool.not_true,Bool.false_and,Bool.or_false]at kk;refine Ao ⟨_,Zj,Zj,?_⟩;have e1:decide (V.str x=V.str "0")=decide (x = "0"):=decide_eq_decide.mpr ⟨λz=>V.str.inj z,λz=>by rw[z]⟩;rw[e1];exact kk
  ·have aw:¬ x = "0" := λz=>h48 (by rw[z,e0]at ec;injection ec with a b;exact a.symm)
   rw[ZO (show ¬ V.str ⟨#[c]⟩=V.str "0" from λz=>h48 (by
    have:=V.str.inj z;have e1:=congrArg (λz:Str=>z.cps.toList) this;rw[e0]at e1
    injection e1))]
   rw[ZO aw,Bool.false_or,ZO (show ¬ x.cps.toList.head?=some 48 by rw[ec];exact λz=>h48 (Option.some.inj z)),Bool.not_false,Bool.true_and]at kk;refine Ac ?_
   have hd:AllDigits x.cps.toList:=λc hc=>by
    have:=List.all_eq_true.mp be c hc;unfold CV at this;rw[Bool.and_eq_true,decide_eq_true_eq,decide_eq_true_eq]at this;exact this
   refine⟨_,Zj,x,_,Zj,qe,intText_digits hd (by rw[ec];simp) qe,.inl ⟨(digitsVal x.cps.toList:Nat),Zj,?_⟩⟩
   have eo:okN ((digitsVal x.cps.toList:Nat):Int)=decide (digitsVal x.cps.toList<1099511627776):=by
    unfold okN;rw[ZL (show(0:Int)<=((digitsVal x.cps.toList:Nat):Int) by omega),Bool.true_and];exact decide_eq_decide.mpr qe
   rw[eo];exact kk
 ·have hno:x.cps.toList.all CV=false:=by
   cases e:x.cps.toList.all CV with
   |true=>exact absurd e be
   |false=>rfl
  rw[hno]at kk ⊢;exact Ao kk
inductive spLet (K:FG) (vs:Xc) (H:Hp) (Q:VK) (_E:XK):Prop where
 |txt (x:Str) (cJ:vs=[.str x]) (cP:x.length<=200) (cV:Q (.bl (BP x)) H)
 |aP (v:V) (cJ:vs=[v]) (cP:NoIs K "str" H v) (cV:Q (.bl false) H)
theorem Vf:AN ["thing"] ["thing"] (defScope Fw):=cS
theorem Ug {f:Xd} (F:aY K "is_letter" "is_letter" Fw f fd) (B:Bl mg):Af P w K mg base aT 1 f fd ["thing"] (spLet K):=by
 refine F.ok Vf (λvs H Q E h=>?_) (λad A outer s H vs Q E hr h=>?_)
 ·cases h with
  |txt x e _ _=>subst e;rfl
  |aP v e _ _=>subst e;rfl
 ·refine⟨_,AG (AO (Cz (CL K rfl rfl B.f6 rfl B.str F0 (pv 0)) (Cz (Cj Aw (AW Az rfl B.len PySem.boot_len (AA (pv 0) AC)) AD (AS _)) (Cy (E5 CY CY AK (pv 0) AK))))),?_⟩;cases h with
  |aP v e hv k =>
   subst e;obtain⟨t,ht,hk⟩:=hv.ty;exact⟨_,Zj,_,_,_,false,Zj,ht,hk,_,Zj,Ac k⟩
  |txt x e h60 k =>
   subst e;refine⟨_,Zj,_,_,_,true,Zj,.str x,Zj,_,Zj,Ao ?_⟩;refine⟨_,Zj,x,Zj,Nat.le_of_lt (AL qe),Zj,_,Zj,?_⟩;have hlx:x.cps.toList.length=x.length:=by rw[Array.length_toList];rfl
   unfold BP at k;refine Ba (λh1=>?_) (λh1=>?_)
   ·obtain⟨c,ec⟩:∃c,x.cps.toList=[c]:=by
     have e1:x.length=1:=by have:=V.int.inj (ZV h1);omega
     rw[e1]at hlx;exact List.length_eq_one_iff.mp hlx
    rw[ec]at k;refine⟨_,Zj,_,_,Zj,Zj,_,Zj,?_⟩;have hu:=JI 97 122 "a" "z" qb qb c;have ex:(⟨#[c]⟩:Str).cps.toList=x.cps.toList:=by rw[ec]
    rw[ex]at hu;change _=CH c at hu;change Q (V.bl (CH c)) H at k;rw[←hu]at k;refine Ba (λh3=>?_) (λh3=>?_)
    ·rw[Zp h3]at k;exact⟨_,_,Zj,Zj,k⟩
    ·rw[Zq h3]at k;exact k
   ·have hn:x.length≠1:=λz=>h1 (ZL (by rw[z];rfl))
    have e2:(match x.cps.toList with | [c]=>CH c |_=>false)=false:=by
     cases e:x.cps.toList with
     |nil=>rfl
     |cons a r =>
      cases r with
      |nil=>rw[e]at hlx;exact absurd hlx.symm hn
      |cons b r=>rfl
    rw[e2]at k;exact k
end
theorem At (x:Str):x.cps.toList.length=x.length:=by rw[Array.length_toList];rfl
theorem Fc (z:Str) {a b:Nat} (gZ:a<=b) (hb:b<=z.length):(Txt.slice z (some (a:Int)) (some (b:Int))).cps.toList=(z.cps.toList.drop a).take (b - a):=by
 unfold Txt.slice;split
 ·rename_i h;rw[StrLaws.strSliceIndices_plain gZ hb,AJ,List.length_range]at h
  have e:b - a=z.length:=by
   simp only[beq_self_eq_true,Bool.true_and,beq_iff_eq]at h;exact h
  have ea:a=0:=by omega
  subst ea;rw[List.drop_zero,take_of_length_le (by rw[At];omega)]
 ·show(List.filterMap _ _).toArray.toList=_;rw[List.toList_toArray,StrLaws.sliced_plain z gZ hb]
noncomputable def IN (lt:Bool) (x:Str):Bool:=By x||(Jx x||(lt&&BP x))
section
inductive spPart (vs:Xc) (H:Hp) (Q:VK) (_E:XK):Prop where
 |mk (x:Str) (lt:Bool) (cJ:vs=[.str x,.bl lt]) (cP:x.cps.all (· < 128)=true) (cV:0<x.length) (dr:x.length<=200) (d9:∀H',aA H H'->Q (.bl (IN lt x)) H')
theorem Uh:AN ["text", "lettered"] ["text", "lettered"] (defScope Jm):=cS
theorem Ss {f:Xd} (F:aY K "is_part" "is_part" Jm f fd) (GN:Fn P w K mg base "is_name" 1 ["thing"] spIsName) (GF:Fn P w K mg base "is_figures" 3 ["text"] spFig) (GL:Fn P w K mg base "is_letter" 1 ["thing"] (spLet K)):Af P w K mg base aT 4 f fd ["text", "lettered"] spPart:=by
 obtain⟨fN,dN,GN,mN,kN,bN⟩:=GN.ex;obtain⟨fF,dF,GF,mF,kF,bF⟩:=GF.ex;obtain⟨fL,dL,GL,mL,kL,bL⟩:=GL.ex;refine F.m Uh λvs H Q E h=>?_;obtain⟨x,lt,rfl,ha,h0,h60,k⟩:=h;refine⟨rfl,λad A outer s hr=>?_⟩;have eP:aI 1 _:=hr.mono qc;refine⟨_,AG (AO (TM (AQ GN eP rfl mN kN bN .nil AR (AA (pv 0) AC)) (TM (AQ GF hr rfl mF kF bF .nil AR (AA (pv 0) AC)) (Cy (Cz (pv 1) (Cy (AQ GL eP rfl mL kL bL .nil AR (AA (pv 0) AC)))))))),?_⟩;refine⟨_,rfl,x,rfl,ha,qe,λH1 s1=>⟨_,rfl,?_⟩⟩;unfold IN at k;cases hn:By x with
 |true =>
  rw[hn,Bool.true_or]at k;exact Ao (k _ s1)
 |false =>
  rw[hn,Bool.false_or]at k;refine Ac ⟨_,rfl,x,rfl,ha,h0,h60,λH2 s2=>⟨_,rfl,?_⟩⟩;cases hf:Jx x with
  |true =>
   rw[hf,Bool.true_or]at k;exact Ao (k _ (s1.trans s2))
  |false =>
   rw[hf,Bool.false_or]at k;refine Ac ⟨_,rfl,_,rfl,?_⟩;cases lt with
   |true=>exact Ao ⟨_,rfl,.txt x rfl h60 (k _ (s1.trans s2))⟩
   |false=>exact Ac (k _ (s1.trans s2))
structure PZ (lt:Bool) (z:Str) (a n:Nat):Prop where
 le:a+n<=z.length
 ok:∀k,0<k->k<=n->IN lt (Txt.slice z (some (a:Int)) (some ((a+k:Nat):Int)))=true
 no:a+n<z.length->IN lt (Txt.slice z (some (a:Int)) (some ((a+n+1:Nat):Int)))=false
theorem Pa {z:Str}{a b:Nat} (gZ:a<=b) (hb:b<=z.length) (h:z.cps.all (· < 128)=true):(Txt.slice z (some (a:Int)) (some (b:Int))).cps.all (· < 128)=true:=by
 rw[←Array.all_toList]at h ⊢;rw[Fc z gZ hb];exact List.all_eq_true.mpr λc hc=>List.all_eq_true.mp h c (List.mem_of_mem_drop (mem_of_mem_take hc))
theorem Pb {z:Str}{a b:Nat} (gZ:a<=b) (hb:b<=z.length):(Txt.slice z (some (a:Int)) (some (b:Int))).length=b - a:=by
 rw[←At,Fc z gZ hb,ZA,List.length_drop,At];omega
inductive spPE (vs:Xc) (H:Hp) (Q:VK) (_E:XK):Prop where
 |mk (z:Str) (a n:Nat) (lt:Bool) (cJ:vs=[.str z,.int (a:Int),.bl lt]) (cP:z.cps.all (· < 128)=true) (cV:z.length<=200) (dr:PZ lt z a n) (d9:∀H',aA H H'->Q (.int ((a+n:Nat):Int)) H')
theorem scPE:AN ["text", "at", "lettered", "end"] ["text", "at", "lettered"] (defScope HU):=cS
theorem Su {f:Xd} (F:aY K "part_end" "part_end" HU f fd) (B:Bl mg) (GP:Fn P w K mg base "is_part" 4 ["text", "lettered"] spPart):Af P w K mg base aT 5 f fd ["text", "at", "lettered"] spPE:=by
 obtain⟨fP,dP,GP,mP,kP,bP⟩:=GP.ex;refine F.m scPE λvs H Q E h=>?_;obtain⟨z,a,n,lt,rfl,ha,h60,PA,q⟩:=h;refine⟨Zj,λad A outer s hr=>?_⟩
 refine⟨_,AF (Ag (i:=3) scPE.nd Zj (Or.inl Zj) (pv 1))
  (AF (E3 PassesOwn.never (PW.pt (Do (AM IS (pv 3) (AW Az rfl B.len PySem.boot_len (AA (pv 0) AC)) (AS _)) (Ci (BB (AQ GP hr rfl mP kP bP .nil AR (AA (KM QY (pv 0) (Gf (pv 1)) (Gf (Ab C0 (pv 3) AD))) (AA (pv 2) AC))))))) (AG (Lh (i:=3) scPE.nd rfl (Or.inl rfl) AD (NI:dc _ _ _))))
  (AG (AO (pv 3)))),?_⟩
 refine⟨_,Zj,λm σ H2=>∃k:Nat,σ=[some (.str z),some (.int (a:Int)),some (.bl lt),some (.int ((a+k:Nat):Int))]/\aA H H2/\k<=n/\m=n - k,⟨n,0,Zj,aA.refl _,Nat.zero_le _,Zj⟩,?_⟩;rintro m σ H2 ⟨k,rfl,s2,hk,rfl⟩;have hle:=PA.le;refine⟨_,Zj,_,Zj,z,Zj,Nat.le_of_lt (AL qe),_,_,Zj,Zj,_,Zj,?_⟩;by_cases hz:a+k<z.length
 ·rw[ZL (show((a+k:Nat):Int)<(z.length:Int) by omega)];refine Ao ?_;have e1:((a+k:Nat):Int)+1=((a+k+1:Nat):Int):=by omega
  refine⟨_,Zj,_,Zj,(a:Int),Zj,_,Zj,_,_,Zj,Zj,((a+k+1:Nat):Int),congrArg V.int e1,z,Zj,Nat.le_of_lt (AL qe),_,Zj,?_⟩;have hl:=Pb (z:=z) (a:=a) (b:=a+k+1) qe qe;have hs:=Pa (z:=z) (a:=a) (b:=a+k+1) qe qe ha;refine⟨_,lt,Zj,hs,qe,qe,λH3 s3=>⟨_,Zj,?_⟩⟩;by_cases hkn:k<n
  ·have ok:=PA.ok (k+1) qe qe;rw[show a+(k+1)=a+k+1 by omega]at ok;rw[ok];refine Ao ⟨λσ H4=>σ=[some (.str z),some (.int (a:Int)),some (.bl lt),some (.int ((a+(k+1):Nat):Int))]/\aA H H4,λaJ H' ⟨e,s'⟩=>⟨n - (k+1),qe,k+1,e,s',qe,Zj⟩,?_⟩;refine⟨_,Zj,_,_,Zj,Zj,?_,s2.trans s3⟩;show [some (V.str z),some (V.int (a:Int)),some (V.bl lt),some (V.int (((a+k:Nat):Int)+1))]=_;rw[e1];rfl
  ·have e:k=n:=by omega
   subst e;rw[PA.no hz];exact Ac ⟨_,Zj,q _ (s2.trans s3)⟩
 ·rw[ZO (show ¬ ((a+k:Nat):Int)<(z.length:Int) by omega)];have e:k=n:=by omega
  subst e;exact Ac (Ac ⟨_,Zj,q _ s2⟩)
end
structure IP (K:FG) (DC:Xd):Prop where
 cl:iC K DC
 nS:cW K DC "steps"
 nW:cW K DC "waiting"
 nP:cW K DC "wants_part"
theorem Tb:¬ (("steps" : Str) = "wants_part"):=by decide +kernel
theorem Tc:¬ (("waiting" : Str) = "wants_part"):=by decide +kernel
theorem Td:¬ (("waiting" : Str) = "steps"):=by decide +kernel
noncomputable def gO (ls lw:Xd) (wp:Bool):List (Str×V):=BU "wants_part" (.bl wp) (BU "waiting" (.ref lw) (BU "steps" (.ref ls) []))
theorem RG (ls lw:Xd) (wp:Bool):(gO ls lw wp).lookup ("steps" : Str)=some (.ref ls):=by
 unfold gO;rw[AZ,Zq Tb,AZ,Zq (Ne.symm Td),AZ,Zp rfl]
theorem EU (ls lw:Xd) (wp:Bool):(gO ls lw wp).lookup ("waiting" : Str)=some (.ref lw):=by
 unfold gO;rw[AZ,Zq Tc,AZ,Zp rfl]
theorem Hn (ls lw:Xd) (wp:Bool):(gO ls lw wp).lookup ("wants_part" : Str)=some (.bl wp):=by
 unfold gO;rw[AZ,Zp rfl]
theorem Ce (ls lw:Xd) (wp:Bool) {m:Str} (h1:¬ m = "steps" := by decide +kernel) (h2:¬ m = "waiting" := by decide +kernel) (h3:¬ m = "wants_part" := by decide +kernel):(gO ls lw wp).lookup m=none:=by
 unfold gO;rw[AZ,Zq h3,AZ,Zq h2,AZ,Zq h1];rfl
theorem Nz (ls lw:Xd) (wp b:Bool):BU "wants_part" (.bl b) (gO ls lw wp)=gO ls lw b:=by
 unfold gO;simp[BU,Tb,Tc,Ne.symm Td]
structure bG (DC:Xd) (H:Hp) (p ls lw:Xd) (ss ws:Xa) (wp:Bool):Prop where
 ex:∃dx,H p=some (.ins DC dx (gO ls lw wp))
 hs:H ls=some (.lst (ss.map V.str))
 hw:H lw=some (.lst (ws.map V.str))
 ne:ls≠lw
def gS (p ls lw:Xd) (H H':Hp):Prop:=∀b o,H b=some o->b≠p->b≠ls->b≠lw->H' b=some o
theorem gS.refl (p ls lw:Xd) (H:Hp):gS p ls lw H H:=λ_ _ e _ _ _=>e
theorem bG.np {DC:Xd}{p ls lw:Xd}{ss ws:Xa}{wp:Bool} (h:bG DC H p ls lw ss ws wp):ls≠p/\lw≠p:=by
 obtain⟨dx,hp⟩:=h.ex;have h1:=h.hs;have h2:=h.hw;exact⟨λz=>(by rw[z,hp]at h1;cases h1),λz=>(by rw[z,hp]at h2;cases h2)⟩
theorem bG.steps {DC:Xd}{p ls lw:Xd}{ss ws:Xa}{wp:Bool} (ss':Xa) (h:bG DC H p ls lw ss ws wp):bG DC (upd H ls (.lst (ss'.map V.str))) p ls lw ss' ws wp:=by
 obtain⟨dx,hp⟩:=h.ex;exact⟨⟨dx,by rw[AH (Ne.symm h.np.1)];exact hp⟩,AB,by rw[AH (Ne.symm h.ne)];exact h.hw,h.ne⟩
theorem bG.waits {DC:Xd}{p ls lw:Xd}{ss ws:Xa}{wp:Bool} (ws':Xa) (h:bG DC H p ls lw ss ws wp):bG DC (upd H lw (.lst (ws'.map V.str))) p ls lw ss ws' wp:=by
 obtain⟨dx,hp⟩:=h.ex;exact⟨⟨dx,by rw[AH (Ne.symm h.np.2)];exact hp⟩,by rw[AH h.ne];exact h.hs,AB,h.ne⟩
theorem bG.wants {DC:Xd}{p ls lw dx:Xd}{ss ws:Xa}{wp:Bool} (b:Bool) (h:bG DC H p ls lw ss ws wp):bG DC (upd H p (.ins DC dx (gO ls lw b))) p ls lw ss ws b :=
 ⟨⟨dx,AB⟩,by rw[AH h.np.1];exact h.hs,by rw[AH h.np.2];exact h.hw,h.ne⟩
theorem N0 (ls lw:Xd) (wp:Bool):(gO ls lw wp).length<1000:=by
 have h1:=A9 "wants_part" (.bl wp) (BU "waiting" (.ref lw) (BU "steps" (.ref ls) []));have h2:=A9 "waiting" (.ref lw) (BU "steps" (.ref ls) []);have h3:=A9 "steps" (.ref ls) [];have h4:([]:List (Str×V)).length=0:=rfl;unfold gO;omega
section
variable {DC bd:Xd}
inductive spTP (DC:Xd) (vs:Xc) (H:Hp) (Q:VK) (_E:XK):Prop where
 |mk (p ls lw:Xd) (ss ws:Xa) (wp:Bool) (x:Str) (cJ:vs=[.ref p,.str x]) (cP:bG DC H p ls lw ss ws wp) (cV:ss.length<=400) (dr:∀H',gS p ls lw H H'->bG DC H' p ls lw (ss++[x]) ws false->Q .aP H')
theorem Wm:AN ["self", "part"] ["self", "part"] (defScope CB):=cS
theorem Vg {f:Xd} (F:aY K "take_part" "Reading.take_part" CB f fd) (DT:IP K DC):Af P w K mg base aT 1 f fd ["self", "part"] (spTP DC):=by
 refine F.m Wm λvs H Q E h=>?_;obtain⟨p,ls,lw,ss,ws,wp,x,rfl,R,h100,q⟩:=h;refine⟨Zj,λad A outer s hr=>?_⟩;obtain⟨dx,hp⟩:=id R.ex;refine⟨_,AF (BJ (FB PySem.F.plainAttrs_list PySem.F.slot_list_append PySem.F.type_list_append B8 (BL (pv 0) Zj) (AA (pv 1) AC))) (AG (Dq (pv 0) De Zj)),?_⟩;refine⟨_,Zj,p,DC,dx,_,_,Zj,hp,DT.cl,DT.nS,RG _ _ _,.inl ⟨Zj,_,aK.of R.hs⟩,_,Zj,ls,_,_,Zj,Zj,R.hs,AL (by rw[AJ];omega),?_⟩;have R1:=R.steps (ss++[x]);rw[Zu]at R1;have e1:(upd H ls (.lst (ss.map V.str++[x].map V.str))) p=some (.ins DC dx (gO ls lw wp)):=by rw[AH (Ne.symm R.np.1)];exact hp
 refine⟨_,Zj,p,DC,dx,_,Zj,e1,DT.cl,DT.nP,N0 _ _ _,?_⟩;rw[Nz];exact q _ (λb o e n1 n2 n3=>by rw[AH n1,AH n2];exact e) (R1.wants false)
inductive spRd0 (DC:Xd) (vs:Xc) (H:Hp) (Q:VK) (_E:XK):Prop where
 |mk (p dx:Xd) (cJ:vs=[.ref p]) (cP:H p=some (.ins DC dx [])) (cV:∀ls lw H',(∀b o,H b=some o->b≠p->H' b=some o)->H ls=none->H lw=none->bG DC H' p ls lw [] [] true->Q .aP H')
theorem Vh:AN ["self"] ["self"] (defScope DX):=cS
theorem Ui {f:Xd} (F:aY K "__init__" "Reading.__init__" DX f fd) (DT:IP K DC):Af P w K mg base aT 1 f fd ["self"] (spRd0 DC):=by
 refine F.m Vh λvs H Q E h=>?_;obtain⟨p,dx,rfl,hp,q⟩:=h;refine⟨Zj,λad A outer s hr=>?_⟩;refine⟨_,AF (Dq (pv 0) (BF AC) Zj) (AF (Dq (pv 0) (BF AC) Zj) (AG (Dq (pv 0) De Zj))),?_⟩;refine⟨(by show 0<=sizeLine;decide),λls hls=>?_⟩;have nls:p≠ls:=AI hp hls;refine⟨_,Zj,p,DC,dx,_,Zj,by rw[AH nls];exact hp,DT.cl,DT.nS,(by show 0<1000;decide),?_⟩;refine⟨(by show 0<=sizeLine;decide),λlw hlw=>?_⟩;have nlp:p≠lw:=λz=>by rw[←z,AB]at hlw;cases hlw
 have cr:(upd H ls (.lst [])) lw=none:=by rw[AH (Ne.symm nlp)]at hlw;exact hlw
 have nll:ls≠lw:=λz=>by rw[←z,AB]at cr;cases cr
 have cu:H lw=none:=by rw[AH (Ne.symm nll)]at cr;exact cr
 refine⟨_,Zj,p,DC,dx,_,Zj,by rw[AH nlp,AB],DT.cl,DT.nW,Nat.lt_of_le_of_lt (A9 _ _ _) (by show 0+1<1000;decide),?_⟩;refine⟨_,Zj,p,DC,dx,_,Zj,AB,DT.cl,DT.nP,Nat.lt_of_le_of_lt (Nat.le_trans (A9 _ _ _) (Nat.succ_le_succ (A9 _ _ _))) (by show 0+1+1<1000;decide),?_⟩;refine q ls lw _ (λb o e hb=>?_) hls cu ⟨⟨dx,AB⟩,?_,?_,nll⟩
 ·rw[AH hb,AH hb,AH (AI e cu),AH hb,AH (AI e hls)];exact e
 ·rw[AH (Ne.symm nls),AH (Ne.symm nls),AH nll,AH (Ne.symm nls),AB];rfl
 ·rw[AH (Ne.symm nlp),AH (Ne.symm nlp),AB];rfl
end
noncomputable abbrev sl (z:Str) (a b:Nat):Str:=Txt.slice z (some (a:Int)) (some (b:Int))
inductive Sg |br |or |xo |an |no
deriving DecidableEq
noncomputable def Sg.s:Sg->Str | .br => "(" | .or => "|" | .xo => "^" | .an => "&" | .no => "~"
noncomputable def Sg.b:Sg->Nat | .br=>0 | .or=>1 | .xo=>2 | .an=>3 | .no=>4
noncomputable def Sg.c:Sg->Nat | .br=>40 | .or=>124 | .xo=>94 | .an=>38 | .no=>126
def Sg.dQ:Sg->Prop | .or=>True | .xo=>True | .an=>True |_=>False
noncomputable abbrev cC (W:List Sg):Xa:=W.map Sg.s
noncomputable def LQ (W:List Sg):Nat:=match W.getLast? with |some s=>s.b |none=>0
inductive Out
 |ok (T:Xa)
 |bad (e:Nat)
inductive Rn (lt:Bool) (z:Str) (o:Out):Nat->Xa->List Sg->Bool->Prop
 |done (S:Xa) (Q:List Sg) (h:∀q∈Q,1<=q.b) (e:o=.ok (S++(cC Q).reverse)):Rn lt z o z.length S Q false
 |blank (a:Nat) (S:Xa) (W:List Sg) (wp:Bool) (h:z.cps.toList[a]?=some 32) (r:Rn lt z o (a+1) S W wp):Rn lt z o a S W wp
 |part (a n:Nat) (S:Xa) (W:List Sg) (h:PZ lt z a n) (hn:0<n) (r:Rn lt z o (a+n) (S++[sl z a (a+n)]) W false):Rn lt z o a S W true
 |ahead (a:Nat) (S:Xa) (W:List Sg) (g:Sg) (hg:g=.no\/g=.br) (h:z.cps.toList[a]?=some g.c) (r:Rn lt z o (a+1) S (W++[g]) true):Rn lt z o a S W true
 |join (a:Nat) (S:Xa) (W Q:List Sg) (g:Sg) (hg:g.dQ) (h:z.cps.toList[a]?=some g.c) (hq:∀q∈Q,g.b<=q.b) (hw:LQ W<g.b) (r:Rn lt z o (a+1) (S++(cC Q).reverse) (W++[g]) true):Rn lt z o a S (W++Q) false
 |close (a:Nat) (S:Xa) (W Q:List Sg) (h:z.cps.toList[a]?=some 41) (hq:∀q∈Q,1<=q.b) (r:Rn lt z o (a+1) (S++(cC Q).reverse) W false):Rn lt z o a S ((W++[.br])++Q) false
 |ends (S:Xa) (W:List Sg) (wp:Bool) (hw:wp=true\/∃W1 W2,W=(W1++[.br])++W2/\∀q∈W2,1<=q.b) (e:o=.bad z.length):Rn lt z o z.length S W wp
inductive Tr
 |wd (x:Str)
 |ng (t:Tr)
 |bn (g:Sg) (a b:Tr)
noncomputable def Tr.post:Tr->Xa
 | .wd x=>[x]
 | .ng t=>t.post++[("~" : Str)]
 | .bn g a b=>a.post++b.post++[g.s]
abbrev Bk (u:List Nat):Prop:=u=[]\/u=[32]
structure ja (lt:Bool) (w:List Nat):Prop where
 ne:0<w.length
 ok:∀k,0<k->k<=w.length->∀x:Str,x.cps.toList=w.take k->IN lt x=true
inductive Wr (lt:Bool):Tr->Nat->List Nat->Prop
 |wd (x:Str) (r:Nat) (bl:List Nat) (hb:Bk bl) (h:ja lt x.cps.toList):Wr lt (.wd x) r (bl++x.cps.toList)
 |ng (t:Tr) (r:Nat) (u:List Nat) (hr:r<=3) (h:Wr lt t 3 u):Wr lt (.ng t) r (126::u)
 |bn (g:Sg) (a b:Tr) (r:Nat) (u v bl:List Nat) (hg:g.dQ) (hr:r+1<=g.b) (hb:Bk bl) (ha:Wr lt a (g.b - 1) u) (hv:Wr lt b g.b v):Wr lt (.bn g a b) r (u++(bl++(g.c::v)))
 |br (t:Tr) (r:Nat) (u bl:List Nat) (hb:Bk bl) (h:Wr lt t 0 u):Wr lt t r (bl++(40::(u++[41])))
def Sep (u:List Nat):Prop:=∀c,u.head?=some c->Ch c=false/\CV c=false
theorem RH {lt:Bool}{w:List Nat}{c:Nat}{x:Str} (hc:Ch c=false/\CV c=false) (h:x.cps.toList=w++[c]) (hw:w≠ []\/CH c=false):IN lt x=false:=by
 have h1:By x=false:=by
  unfold By
  have:x.cps.toList.all Ch=false:=by
   rw[h,all_append];simp[hc.1]
  rw[this,Bool.and_false]
 have h2:Jx x=false:=by
  unfold Jx
  have:x.cps.toList.all CV=false:=by
   rw[h,all_append];simp[hc.2]
  rw[this,Bool.false_and]
 have h3:BP x=false:=by
  unfold BP;rw[h];cases w with
  |nil=>rcases hw with z |z
        ·exact absurd Zj z
        ·exact z
  |cons a r=>cases r <;> rfl
 unfold IN;rw[h1,h2,h3];cases lt <;> rfl
theorem Jy {x y:Str} (h:x.cps.toList=y.cps.toList):x=y:=by
 cases x with
 |mk a=>cases y with
  |mk b =>
   have:a=b:=by
    have:=congrArg List.toArray h;simpa using this
   rw[this]
theorem Vi {lt:Bool}{z:Str}{pre w post:List Nat} (hz:z.cps.toList=pre++(w++post)) (hw:ja lt w) (hp:Sep post):PZ lt z pre.length w.length/\sl z pre.length (pre.length+w.length)=⟨w.toArray⟩:=by
 have a0:z.length=pre.length+(w.length+post.length):=by rw[←At,hz,ZH,ZH]
 have hs:∀k,k<=w.length+post.length->(sl z pre.length (pre.length+k)).cps.toList=(w++post).take k:=λk hk=>by
  rw[Fc z qe qe,hz,List.drop_left,Nat.add_sub_cancel_left]
 refine⟨⟨qe,λk h0 hk=>?_,λhlt=>?_⟩,?_⟩
 ·refine hw.ok k h0 hk _ ?_;rw[hs k qe,List.take_append_of_le_length hk]
 ·cases post with
  |nil=>simp at a0;omega
  |cons c r =>
   refine RH (w:=w) (c:=c) (hp c Zj) ?_ (.inl λz=>by have:=hw.ne;rw[z]at this;exact absurd this qc);have:=hs (w.length+1) (by simp);rw[show pre.length+w.length+1=pre.length+(w.length+1) by omega,this,List.take_append];simp;exact take_of_length_le qe
 ·refine Jy ?_;rw[hs w.length qe,List.take_left]
theorem F6 {z:Str}{pre post:List Nat}{c:Nat} (hz:z.cps.toList=pre++c::post):z.cps.toList[pre.length]?=some c:=by
 rw[hz,getElem?_append_right (Zy _),Nat.sub_self];rfl
theorem DN (W:List Sg) (g:Sg):LQ (W++[g])=g.b:=by
 unfold LQ;rw[List.getLast?_append];rfl
theorem RJ {lt:Bool}{z:Str}{o:Out}{bl pre post:List Nat}{S:Xa}{W:List Sg}{wp:Bool} (hb:Bk bl) (hz:z.cps.toList=pre++(bl++post)) (r:Rn lt z o (pre++bl).length S W wp):Rn lt z o pre.length S W wp:=by
 rcases hb with rfl |rfl
 ·rwa[Zt]at r
 ·exact .blank _ _ _ _ (F6 hz) (by simpa using r)
theorem Sep.of {c:Nat}{r:List Nat} (h:Ch c=false/\CV c=false):Sep (c::r):=λd hd=>by cases hd;exact h
theorem Sep.bk {bl u:List Nat} (hb:Bk bl) (h:Sep u):Sep (bl++u):=by
 rcases hb with rfl |rfl
 ·exact h
 ·exact Sep.of ⟨Zj,Zj⟩
theorem Sep.sg {g:Sg}{r:List Nat}:Sep (g.c::r):=Sep.of (by cases g <;> exact⟨rfl,rfl⟩)
theorem RK {lt:Bool}{z:Str}{o:Out}{t:Tr}{r:Nat}{u:List Nat} (hW:Wr lt t r u):∀ {pre fZ:List Nat}{S:Xa}{W:List Sg},z.cps.toList=pre++(u++fZ)->Sep fZ->(r<3->LQ W<=r) ->
  (∀(S':Xa) (Q:List Sg),(∀q∈Q,r+1<=q.b)->S'++(cC Q).reverse=S++t.post->Rn lt z o (pre++u).length S' (W++Q) false)->Rn lt z o pre.length S W true:=by
 induction hW with
 |wd x r bl hb h =>
  intro pre fZ S W hz hs hw k;rw[List.append_assoc]at hz;refine RJ hb hz ?_;obtain⟨p1,p2⟩:=Vi (z:=z) (pre:=pre++bl) (w:=x.cps.toList) (post:=fZ) (by rw[hz,List.append_assoc]) h hs;refine .part _ _ _ _ p1 h.ne ?_;rw[p2,show(⟨x.cps.toList.toArray⟩:Str)=x from rfl];have:=k (S++[x]) [] (λq hq=>nomatch hq) (by show S++[x]++[]=S++[x];rw[Zt]);rw[Zt]at this;rw[←List.append_assoc,ZH]at this;exact this
 |ng t r u hr h ih =>
  intro pre fZ S W hz hs hw k;refine .ahead _ _ _ .no (.inl Zj) (F6 (post:=u++fZ) (by rw[hz];rfl)) ?_;have:=ih (pre:=pre++[126]) (fZ:=fZ) (S:=S) (W:=W++[.no]) (by rw[hz];simp) hs (λh=>absurd h qc) (λS' Q hq e=>?_)
  ·simpa using this
  ·have:=k S' (.no::Q) (λq ft=>by
    rcases mem_cons.mp ft with rfl |h
    ·show r+1<=4;omega
    ·have:=hq q h;omega) (by
    show S'++(Sg.no.s::cC Q).reverse=S++(t.post++[("~" : Str)]);rw[List.reverse_cons,←List.append_assoc,e,List.append_assoc]
    rfl)
   rw[show W++[Sg.no]++Q=W++(.no::Q) by simp];simpa using this
 |bn g a b r u v bl hg hr hb ha hv iha ihb =>
  intro pre fZ S W hz hs hw k;have hg1:1<=g.b:=by cases g <;> first |exact hg.elim |decide
  have hg3:g.b<=3:=by cases g <;> first |exact hg.elim |decide
  have hw':=hw qe;refine iha (fZ:=bl++(g.c::(v++fZ))) (by rw[hz];simp) (Sep.bk hb Sep.sg) (λ_=>qe) λS1 Q1 h1 e1=>?_;refine RJ (pre:=pre++u) (post:=g.c::(v++fZ)) hb (by rw[hz];simp) ?_;refine .join _ _ _ _ g hg (F6 (post:=v++fZ) (by rw[hz];simp)) (λq hq=>by have:=h1 q hq;omega) qe ?_;rw[e1];have:=ihb (pre:=pre++u++bl++[g.c]) (fZ:=fZ) (S:=S++a.post) (W:=W++[g]) (by rw[hz];simp) hs (λ_=>by rw[DN];exact Zy _) λS2 Q2 h2 e2=>?_
  ·have el:(pre++u++bl++[g.c]).length=(pre++u++bl).length+1:=by simp;omega
   rw[el]at this;exact this
  ·have:=k S2 (g::Q2) (λq ft=>by
    rcases mem_cons.mp ft with rfl |h
    ·exact hr
    ·have:=h2 q h;omega) (by
    show S2++(g.s::cC Q2).reverse=S++(a.post++b.post++[g.s]);rw[List.reverse_cons,←List.append_assoc,e2]
    simp)
   rw[show W++[g]++Q2=W++(g::Q2) by simp];have el:(pre++u++bl++[g.c]++v).length=(pre++(u++(bl++g.c::v))).length:=by simp
   rw[el];exact this
 |br t r u bl hb h ih =>
  intro pre fZ S W hz hs hw k;rw[List.append_assoc]at hz;refine RJ hb hz ?_;refine .ahead _ _ _ .br (.inr Zj) (F6 (post:=u++41::fZ) (by rw[hz];simp[Sg.c])) ?_;have:=ih (pre:=pre++bl++[40]) (fZ:=41::fZ) (S:=S) (W:=W++[.br]) (by rw[hz];simp) (Sep.of ⟨rfl,rfl⟩) (λ_=>by rw[DN];exact Zy _) (λS' Q hq e=>?_)
  ·have el:(pre++bl++[40]).length=(pre++bl).length+1:=by simp;omega
   rw[el]at this;exact this
  ·refine .close _ _ _ _ (F6 (post:=fZ) (by rw[hz];simp)) (λq h=>by have:=hq q h;omega) ?_;rw[e];have:=k (S++t.post) [] (λq hq=>nomatch hq) (by show _++[]=_;rw[Zt]);rw[Zt]at this;have el:(pre++(bl++40::(u++[41]))).length=(pre++bl++[40]++u).length+1:=by simp;omega
   rw[el]at this;exact this
theorem Fd {lt:Bool}{z:Str}{t:Tr} (h:Wr lt t 0 z.cps.toList):Rn lt z (.ok t.post) 0 [] [] true:=by
 refine RK h (pre:=[]) (fZ:=[]) (by simp) (λc hc=>nomatch hc) (λ_=>qc) λS' Q hq e=>?_;have el:([]++z.cps.toList:List Nat).length=z.length:=by rw[nil_append,At]
 rw[el,nil_append];exact .done _ _ (λq h=>hq q h) (by rw[e];rfl)
theorem Uj {lt:Bool}{z:Str}{t:Tr}{u:List Nat} (h:Wr lt t 0 u) (hz:z.cps.toList=u++[124]):Rn lt z (.bad z.length) 0 [] [] true:=by
 refine RK h (pre:=[]) (fZ:=[124]) (by simpa using hz) (Sep.of ⟨Zj,Zj⟩) (λ_=>qc) λS' Q hq e=>?_;rw[nil_append];refine .join _ _ [] Q .or True.intro (F6 (post:=[]) hz) (λq h=>hq q h) qc ?_;have el:u.length+1=z.length:=by rw[←At,hz,ZH];rfl
 rw[nil_append,el];exact .ends _ _ _ (.inl Zj) rfl
noncomputable def Bq:LK:=[((Sum.inr "(" : Key),.int 0),(Sum.inr "|", .int 1),(Sum.inr "^", .int 2),(Sum.inr "&", .int 3),(Sum.inr "~", .int 4)]
theorem N1 (g:Sg):Av Bq (Sum.inr g.s:Key)=some (.int (g.b:Int)):=by cases g <;> decide +kernel
theorem Vj {DC p ls lw bd:Xd}{ss ws:Xa}{wp:Bool}{kvs:LK} (R:bG DC H p ls lw ss ws wp) (s:gS p ls lw H H') (h:Rd H bd (.dK kvs)):Rd H' bd (.dK kvs):=by
 obtain⟨dx,hp⟩:=R.ex
 have ne:∀ {o:HO},H bd=some o->(∀xs,o≠ .lst xs)->(∀a b c,o≠ .ins a b c)->bd≠p/\bd≠ls/\bd≠lw:=λ{o} e h1 h2=>by
  refine⟨λz=>?_,λz=>?_,λz=>?_⟩
  ·rw[z,hp]at e;cases e;exact h2 _ _ _ rfl
  ·rw[z,R.hs]at e;cases e;exact h1 _ rfl
  ·rw[z,R.hw]at e;cases e;exact h1 _ rfl
 rcases h with h |⟨o,h⟩
 ·obtain⟨a,b,c⟩:=ne h (λ_ z=>nomatch z) (λ_ _ _ z=>nomatch z);exact .inl (s _ _ h a b c)
 ·obtain⟨a,b,c⟩:=ne h (λ_ z=>nomatch z) (λ_ _ _ z=>nomatch z);exact .inr ⟨o,s _ _ h a b c⟩
theorem LR (L:List Sg) (g:Sg):gM ((cC (L++[g])).map V.str) (-1)=some (V.str g.s)/\((cC (L++[g])).map V.str)[((cC (L++[g])).map V.str).length - 1]?=some (V.str g.s)/\((cC (L++[g])).map V.str).dropLast=(cC L).map V.str:=by
 have e:(cC (L++[g])).map V.str=(cC L).map V.str++[V.str g.s]:=by simp[cC]
 rw[e];refine⟨?_,?_,?_⟩
 ·unfold gM
  have e2:iu ((cC L).map V.str++[V.str g.s]).length (-1)=some ((cC L).map V.str).length:=by
   rw[ZH,length_singleton];unfold iu;simp;omega
  rw[e2];show((cC L).map V.str++[V.str g.s])[((cC L).map V.str).length]?=_;rw[getElem?_append_right (Zy _),Nat.sub_self];rfl
 ·rw[ZH,length_singleton,Nat.add_sub_cancel,getElem?_append_right (Zy _),Nat.sub_self];rfl
 ·exact List.dropLast_concat
section
variable {DC bd:Xd}
inductive spSet (DC bd:Xd) (vs:Xc) (H:Hp) (Q:VK) (_E:XK):Prop where
 |mk (p ls lw:Xd) (ss:Xa) (W G:List Sg) (b:Nat) (wp:Bool) (cJ:vs=[.ref p,.int (b:Int)]) (cP:bG DC H p ls lw ss (cC (W++G)) wp) (cV:ss.length+(W.length+G.length)<=400) (dr:Rd H bd (.dK Bq))
  (d9:∀q∈G,b<=q.b) (gi:W=[]\/LQ W<b) (jE:∀H',gS p ls lw H H'->bG DC H' p ls lw (ss++(cC G).reverse) (cC W) wp->Q .aP H')
theorem Vk:AN ["self", "binding"] ["self", "binding"] (defScope Cd):=cS
theorem Uk {f:Xd} (F:aY K "settle" "Reading.settle" Cd f fd) (B:Bl mg) (DT:IP K DC) (mB:mg "BINDING" = some (.ref bd)):Af P w K mg base aT 1 f fd ["self", "binding"] (spSet DC bd):=by
 refine F.m Vk λvs H Q E h=>?_;obtain⟨p,ls,lw,ss,W,G,b,wp,rfl,R,h400,hB,hG,hW,q⟩:=h;refine⟨Zj,λad A outer s hr=>?_⟩;have hu:=Cm hr
 refine⟨_,AG (E3 PassesOwn.never (PW.pt (Do (AM IT (AW (A8 K Zj) Zj B.len PySem.boot_len (AA (BL (pv 0) Zj) AC)) AD (AS _)) (Ci (AM Pp (Bh hu (Bg (v:=.ref bd) Zj mB Zj) (BG (Ar K Zj) (BL (pv 0) Zj) (Gp Dp AD) (λ_ _=>rfl)) (λ_ _=>rfl)) (pv 1) (AS _)))))
  (AG (BJ (FB PySem.F.plainAttrs_list PySem.F.slot_list_append PySem.F.type_list_append B8 (BL (pv 0) rfl) (AA (Gx PySem.F.plainAttrs_list PySem.F.slot_list_pop PySem.F.type_list_pop JT (BL (pv 0) rfl)) AC))))),?_⟩
 refine⟨λm σ H2=>σ=[some (.ref p),some (.int (b:Int))]/\∃G1 G2,G=G1++G2/\G1.length=m/\gS p ls lw H H2/\bG DC H2 p ls lw (ss++(cC G2).reverse) (cC (W++G1)) wp,⟨G.length,Zj,G,[],(Zt _).symm,Zj,gS.refl _ _ _ _,by simpa using R⟩,?_⟩;rintro m σ H2 ⟨rfl,G1,G2,eG,em,s2,R2⟩;obtain⟨dx,hp⟩:=id R2.ex;refine⟨_,Zj,p,DC,dx,_,_,Zj,hp,DT.cl,DT.nW,EU _ _ _,lw,_,Zj,.inl (aK.of R2.hw),_,_,Zj,Zj,_,Zj,?_⟩;have a0:((cC (W++G1)).map V.str).length=(W++G1).length:=by simp[cC]
 rw[a0];rcases List.eq_nil_or_concat (W++G1)with e |⟨L,g,e⟩
 ·have e1:=List.append_eq_nil_iff.mp e;rw[e,ZO (show ¬ (([]:List Sg).length:Int)>0 by simp)];refine Ac (Ac (q _ s2 ?_));rw[e1.2]at eG R2;rw[eG];simpa[e1.1]using R2
 ·rw[List.concat_eq_append]at e;rw[ZL (show((W++G1).length:Int)>0 by rw[e,ZH,length_singleton];omega)];refine Ao ?_;have hsl:=LR L g;rw[←e]at hsl;obtain⟨hat,cz,c8⟩:=hsl;refine⟨_,rfl,p,DC,dx,_,_,rfl,hp,DT.cl,DT.nW,EU _ _ _,_,rfl,lw,_,-1,.str g.s,rfl,rfl,aK.of R2.hw,hat,bd,.int (g.b:Int),rfl,.inl ⟨_,Sum.inr g.s,Vj R s2 hB,rfl,(N1 g).symm⟩,_,rfl,_,_,rfl,rfl,_,rfl,?_⟩;rcases List.eq_nil_or_concat G1 with e1 |⟨G0,g',e1⟩
  ·-- all are settled
   subst e1;rw[Zt]at e
   have hb:¬ ((g.b:Int) ≥ (b:Int)):=by
    rcases hW with z |z
    ·rw[z]at e;have:=congrArg List.length e;simp at this
    ·rw[e,DN]at z;omega
   rw[ZO hb];refine Ac (q _ s2 ?_);rw[eG];simpa using R2
  ·rw[List.concat_eq_append]at e1;subst e1;have e3:W++(G0++[g'])=L++[g]:=e;rw[←List.append_assoc]at e3;obtain⟨eL,eg⟩:=List.append_inj' e3 rfl;have eg':g'=g:=by simpa using eg
   subst eg'
   have hb:(g'.b:Int) ≥ (b:Int):=by
    have:=hG g' (by rw[eG];simp);omega
   rw[ZL hb];refine Ao ⟨λσ H3=>σ=[some (.ref p),some (.int (b:Int))]/\gS p ls lw H H3/\bG DC H3 p ls lw (ss++(cC ([g']++G2)).reverse) (cC (W++G0)) wp,λaJ H' ⟨e,s',R'⟩=>⟨G0.length,by rw[←em,ZH];exact Nat.lt_succ_self _,e,G0,[g']++G2,by rw[eG,List.append_assoc],Zj,s',R'⟩,?_⟩;refine⟨_,Zj,p,DC,dx,_,_,Zj,hp,DT.cl,DT.nS,RG _ _ _,.inl ⟨Zj,_,aK.of R2.hs⟩,_,Zj,p,DC,dx,_,_,Zj,hp,DT.cl,DT.nW,EU _ _ _,.inl ⟨Zj,_,aK.of R2.hw⟩,lw,_,.str g'.s,Zj,Zj,R2.hw,cz,?_⟩;rw[c8,←eL];have es:ss++(cC G2).reverse++[g'.s]=ss++(cC ([g']++G2)).reverse:=by simp[cC]
   have R3:=R2.waits (cC (W++G0));have R4:=R3.steps (ss++(cC ([g']++G2)).reverse);refine⟨ls,_,_,Zj,Zj,R3.hs,AL ?_,Zj,λb o e n1 n2 n3=>?_,?_⟩
   ·have h1:=congrArg List.length eG;simp only[ZH,length_singleton]at h1;simp only[AJ,ZH,List.length_reverse];omega
   ·rw[AH n2,AH n3];exact s2 b o e n1 n2 n3
   ·rw[←es,Zu]at R4;rw[←es];exact R4
inductive SgStep:Str->Xa->List Sg->Bool->Xa->List Sg->Bool->Prop
 |blank (S:Xa) (W:List Sg) (wp:Bool):SgStep " " S W wp S W wp
 |ahead (S:Xa) (W:List Sg) (g:Sg) (hg:g=.no\/g=.br):SgStep g.s S W true S (W++[g]) true
 |join (S:Xa) (W G:List Sg) (g:Sg) (hg:g.dQ) (hq:∀q∈G,g.b<=q.b) (hw:LQ W<g.b):SgStep g.s S (W++G) false (S++(cC G).reverse) (W++[g]) true
 |close (S:Xa) (W G:List Sg) (hq:∀q∈G,1<=q.b):SgStep ")" S ((W++[.br])++G) false (S++(cC G).reverse) W false
inductive spTB (DC bd:Xd) (vs:Xc) (H:Hp) (Q:VK) (_E:XK):Prop where
 |mk (p ls lw:Xd) (ss:Xa) (W G:List Sg) (g:Sg) (cJ:vs=[.ref p,.str g.s]) (cP:g.dQ) (cV:bG DC H p ls lw ss (cC (W++G)) false) (dr:ss.length+(W.length+G.length)<=390) (d9:Rd H bd (.dK Bq))
  (gi:∀q∈G,g.b<=q.b) (jE:LQ W<g.b) (z_7:∀H',gS p ls lw H H'->bG DC H' p ls lw (ss++(cC G).reverse) (cC (W++[g])) true->Q (.bl true) H')
theorem Wn:AN ["self", "sign"] ["self", "sign"] (defScope Be):=cS
theorem Sv {g:Sg} (h:g.dQ):(if true=true then !dY (V.str g.s) [V.str "&", V.str "^", V.str "|"]else dY (V.str g.s) [V.str "&", V.str "^", V.str "|"])=false:=by
 cases g <;> first |exact h.elim |decide +kernel
theorem Vl {f jn:Xd} (F:aY K "take_between" "Reading.take_between" Be f fd) (DT:IP K DC) (mB:mg "BINDING" = some (.ref bd)) (mJ:mg "JOINING" = some (.ref jn)) (hJ:∀H,aQ K H jn [.str "&", .str "^", .str "|"]) (GS:Mt P w K mg base DC "settle" 1 ["self", "binding"] (spSet DC bd)) :
  Af P w K mg base aT 2 f fd ["self", "sign"] (spTB DC bd):=by
 obtain⟨fS,dS,GS,mS,bS⟩:=GS.ex;refine F.m Wn λvs H Q E h=>?_;obtain⟨p,ls,lw,ss,W,G,g,rfl,hg,R,h390,hB,hq,hw,q⟩:=h;refine⟨Zj,λad A outer s hr=>?_⟩;have hu:=Cm hr;obtain⟨dx,hp⟩:=id R.ex
 refine⟨_,AF (An (AM JS (pv 1) (Bg (v:=.ref jn) Zj mJ Zj) Zj) (AG Ak) Ae)
  (AF (BJ (Ck (pv 0) DT.cl mS GS hr bS .nil AR (AA (Bh hu (Bg (v:=.ref bd) rfl mB rfl) (pv 1) (λ_ _=>rfl)) AC)))
  (AF (BJ (FB PySem.F.plainAttrs_list PySem.F.slot_list_append PySem.F.type_list_append B8 (BL (pv 0) rfl) (AA (pv 1) AC)))
  (AF (Dq (pv 0) De rfl)
  (AG (AO De))))),?_⟩
 refine⟨_,Zj,jn,_,Zj,.inr (hJ H),Zj,Zj,_,Zj,?_⟩;rw[Sv hg];refine Ac ?_;refine⟨_,Zj,p,dx,_,Zj,hp,Ce _ _ _,_,Zj,bd,.int (g.b:Int),Zj,.inl ⟨_,Sum.inr g.s,hB,Zj,(N1 g).symm⟩,p,ls,lw,ss,W,G,g.b,false,Zj,R,qe,hB,hq,.inr hw,λH1 s1 R1=>?_⟩;obtain⟨iU,ak⟩:=id R1.ex;refine⟨_,Zj,p,DC,iU,_,_,Zj,ak,DT.cl,DT.nW,EU _ _ _,.inl ⟨Zj,_,aK.of R1.hw⟩,_,Zj,lw,_,_,Zj,Zj,R1.hw,AL (by simp only[AJ];omega),?_⟩;have ew:(cC W).map V.str++[V.str g.s]=(cC (W++[g])).map V.str:=by simp[cC]
 have R2:bG DC (upd H1 lw (.lst ((cC (W++[g])).map V.str))) p ls lw (ss++(cC G).reverse) (cC (W++[g])) false:=R1.waits (cC (W++[g]));rw[ew];refine⟨_,Zj,p,DC,iU,_,Zj,by rw[AH (Ne.symm R1.np.2)];exact ak,DT.cl,DT.nP,N0 _ _ _,?_⟩;rw[Nz];exact q _ (λb o e n1 n2 n3=>by rw[AH n1,AH n3];exact s1 b o e n1 n2 n3) (R2.wants true)
inductive spTA (DC:Xd) (vs:Xc) (H:Hp) (Q:VK) (_E:XK):Prop where
 |mk (p ls lw:Xd) (ss:Xa) (W:List Sg) (g:Sg) (wp:Bool) (cJ:vs=[.ref p,.str g.s]) (cP:g=.no\/g=.br) (cV:bG DC H p ls lw ss (cC W) wp) (dr:W.length<=390)
  (d9:∀H',gS p ls lw H H'->bG DC H' p ls lw ss (cC (W++[g])) wp->Q (.bl true) H')
theorem Wo:AN ["self", "sign"] ["self", "sign"] (defScope Bw):=cS
theorem Vm {f:Xd} (F:aY K "take_ahead" "Reading.take_ahead" Bw f fd) (DT:IP K DC):Af P w K mg base aT 1 f fd ["self", "sign"] (spTA DC):=by
 refine F.m Wo λvs H Q E h=>?_;obtain⟨p,ls,lw,ss,W,g,wp,rfl,hg,R,h390,q⟩:=h;refine⟨Zj,λad A outer s hr=>?_⟩;obtain⟨dx,hp⟩:=id R.ex
 refine⟨_,AF (An (PW.pt (Do (AM F9 (pv 1) AK (AS _)) (Ci (AM F9 (pv 1) AK (AS _))))) (AG Ak) Ae)
  (AF (BJ (FB PySem.F.plainAttrs_list PySem.F.slot_list_append PySem.F.type_list_append B8 (BL (pv 0) rfl) (AA (pv 1) AC)))
  (AG (AO De))),?_⟩
 have fin:∀ {R':Prop},R'->(∀b:Bool,b=false->if b=true then False else R'):=λh b hb=>by subst hb;exact h
 refine⟨_,Zj,Zj,_,Zj,?_⟩;have ew:(cC W).map V.str++[V.str g.s]=(cC (W++[g])).map V.str:=by simp[cC]
 have R2:bG DC (upd H lw (.lst ((cC (W++[g])).map V.str))) p ls lw ss (cC (W++[g])) wp:=R.waits (cC (W++[g]));rcases hg with rfl |rfl
 ·rw[show decide (V.str Sg.no.s=V.str "~")=true by decide +kernel];refine Ac (Ac ?_);refine⟨_,Zj,p,DC,dx,_,_,Zj,hp,DT.cl,DT.nW,EU _ _ _,.inl ⟨Zj,_,aK.of R.hw⟩,_,Zj,lw,_,_,Zj,Zj,R.hw,AL (by simp only[AJ];omega),?_⟩;rw[ew];exact q _ (λb o e n1 n2 n3=>by rw[AH n3];exact e) R2
 ·rw[show decide (V.str Sg.br.s=V.str "~")=false by decide +kernel];refine Ao ⟨_,Zj,Zj,_,Zj,?_⟩;rw[show decide (V.str Sg.br.s=V.str "(")=true by decide +kernel];refine Ac ?_;refine⟨_,rfl,p,DC,dx,_,_,rfl,hp,DT.cl,DT.nW,EU _ _ _,.inl ⟨rfl,_,aK.of R.hw⟩,_,rfl,lw,_,_,rfl,rfl,R.hw,AL (by simp only[AJ];omega),?_⟩;rw[ew];exact q _ (λb o e n1 n2 n3=>by rw[AH n3];exact e) R2
inductive spTC (DC bd:Xd) (vs:Xc) (H:Hp) (Q:VK) (_E:XK):Prop where
 |mk (p ls lw:Xd) (ss:Xa) (W G:List Sg) (wp:Bool) (cJ:vs=[.ref p]) (cV:bG DC H p ls lw ss (cC ((W++[.br])++G)) wp) (dr:ss.length+(W.length+G.length)<=390) (d9:Rd H bd (.dK Bq))
  (gi:∀q∈G,1<=q.b) (z_7:∀H',gS p ls lw H H'->bG DC H' p ls lw (ss++(cC G).reverse) (cC W) wp->Q (.bl true) H')
theorem Wp:AN ["self"] ["self"] (defScope Bx):=cS
theorem Vn {f:Xd}{tB:Tok} (F:aY K "take_close" "Reading.take_close" Bx f fd) (B:Bl mg) (DT:IP K DC) (mL:mg "LEAST_BINDING" = some (.int 1 tB)) (GS:Mt P w K mg base DC "settle" 1 ["self", "binding"] (spSet DC bd)):Af P w K mg base aT 2 f fd ["self"] (spTC DC bd):=by
 obtain⟨fS,dS,GS,mS,bS⟩:=GS.ex;refine F.m Wp λvs H Q E h=>?_;obtain⟨p,ls,lw,ss,W,G,wp,rfl,R,h390,hB,hq,q⟩:=h;refine⟨Zj,λad A outer s hr=>?_⟩;obtain⟨dx,hp⟩:=id R.ex
 refine⟨_,AF (BJ (Ck (pv 0) DT.cl mS GS hr bS .nil AR (AA (Bg (v:=.int 1) Zj mL ⟨tB,Zj⟩) AC)))
  (AF (An (AM Aw (AW (A8 K rfl) rfl B.len PySem.boot_len (AA (BL (pv 0) rfl) AC)) AD (AS _)) (AG Ak) Ae)
  (AF (BJ (Gx PySem.F.plainAttrs_list PySem.F.slot_list_pop PySem.F.type_list_pop JT (BL (pv 0) rfl)))
  (AG (AO De)))),?_⟩
 refine⟨_,Zj,p,dx,_,Zj,hp,Ce _ _ _,p,ls,lw,ss,W++[.br],G,1,wp,Zj,R,by rw[ZH,length_singleton];omega,hB,hq,.inr (by rw[DN];decide),λH1 s1 R1=>?_⟩;obtain⟨iU,ak⟩:=id R1.ex;obtain⟨hat,cz,c8⟩:=LR W .br;refine⟨_,Zj,p,DC,iU,_,_,Zj,ak,DT.cl,DT.nW,EU _ _ _,lw,_,Zj,.inl (aK.of R1.hw),Zj,_,Zj,?_⟩
 rw[ZO (λz=>by
  have:=V.int.inj z;simp only[AJ,ZH,length_singleton]at this
  omega)]
 refine Ac ?_;refine⟨_,Zj,p,DC,iU,_,_,Zj,ak,DT.cl,DT.nW,EU _ _ _,.inl ⟨Zj,_,aK.of R1.hw⟩,lw,_,.str Sg.br.s,Zj,Zj,R1.hw,cz,?_⟩;rw[c8];exact q _ (λb o e n1 n2 n3=>by rw[AH n3];exact s1 b o e n1 n2 n3) (R1.waits (cC W))
inductive spTS (DC bd:Xd) (vs:Xc) (H:Hp) (Q:VK) (_E:XK):Prop where
 |mk (p ls lw:Xd) (x:Str) (S S':Xa) (W W':List Sg) (wp jf:Bool) (cJ:vs=[.ref p,.str x]) (cP:bG DC H p ls lw S (cC W) wp) (cV:SgStep x S W wp S' W' jf) (dr:S.length+W.length<=380) (d9:Rd H bd (.dK Bq))
  (gi:∀H',gS p ls lw H H'->bG DC H' p ls lw S' (cC W') jf->Q (.bl true) H')
theorem Wq:AN ["self", "sign"] ["self", "sign"] (defScope CD):=cS
theorem Ho (g:Sg):decide (V.str g.s=V.str " ")=false/\decide (V.str g.s=V.str ")")=false:=by cases g <;> decide +kernel
theorem Vo {f:Xd} (F:aY K "take_sign" "Reading.take_sign" CD f fd) (DT:IP K DC) (GB:Mt P w K mg base DC "take_between" 2 ["self", "sign"] (spTB DC bd)) (GA:Mt P w K mg base DC "take_ahead" 1 ["self", "sign"] (spTA DC)) (GC:Mt P w K mg base DC "take_close" 2 ["self"] (spTC DC bd)):Af P w K mg base aT 3 f fd ["self", "sign"] (spTS DC bd):=by
 obtain⟨fB,dB,GB,mB,bB⟩:=GB.ex;obtain⟨fA,dA,GA,mA,bA⟩:=GA.ex;obtain⟨fC,dC,GC,mC,bC⟩:=GC.ex;refine F.m Wq λvs H Q E h=>?_;obtain⟨p,ls,lw,x,S,S',W,W',wp,jf,rfl,R,st,h380,hB,q⟩:=h;refine⟨Zj,λad A outer s hr=>?_⟩;obtain⟨dx,hp⟩:=id R.ex;have eP:aI 1 _:=hr.mono qc
 refine⟨_,AF (An (AM Aw (pv 1) AK (AS _)) (AG (AO De)) Ae)
  (AF (An (BB (BL (pv 0) rfl)) (AG (AO (Ck (pv 0) DT.cl mA GA eP bA .nil AR (AA (pv 1) AC)))) Ae)
  (AG (AO (C8 (AM Aw (pv 1) AK (AS _)) (E6 (pv 0) DT.cl mC GC hr bC .nil AR) (Ck (pv 0) DT.cl mB GB hr bB .nil AR (AA (pv 1) AC)))))),?_⟩
 refine⟨_,rfl,rfl,_,rfl,?_⟩;cases st with
 |blank =>
  rw[show decide (V.str " " = V.str " ")=true by decide +kernel];exact Ao (q _ (gS.refl _ _ _ _) R)
 |ahead _ _ g hg =>
  rw[(Ho g).1];refine Ac ⟨_,Zj,p,DC,dx,_,_,Zj,hp,DT.cl,DT.nP,Hn _ _ _,_,Zj,Ao ?_⟩;exact⟨_,Zj,p,dx,_,Zj,hp,Ce _ _ _,_,Zj,p,ls,lw,S,W,g,true,Zj,hg,R,qe,q⟩
 |join _ W0 G g hg hq hw =>
  rw[(Ho g).1];rw[ZH]at h380;refine Ac ⟨_,Zj,p,DC,dx,_,_,Zj,hp,DT.cl,DT.nP,Hn _ _ _,_,Zj,Ac ?_⟩;refine⟨_,Zj,Zj,_,Zj,?_⟩;rw[(Ho g).2];exact Ac ⟨_,Zj,p,dx,_,Zj,hp,Ce _ _ _,_,Zj,p,ls,lw,S,W0,G,g,Zj,hg,R,qe,hB,hq,hw,q⟩
 |close _ _ G hq =>
  rw[show decide (V.str ")" = V.str " ")=false by decide +kernel];rw[ZH,ZH]at h380;refine Ac ⟨_,rfl,p,DC,dx,_,_,rfl,hp,DT.cl,DT.nP,Hn _ _ _,_,rfl,Ac ?_⟩;refine⟨_,rfl,rfl,_,rfl,?_⟩;rw[show decide (V.str ")" = V.str ")")=true by decide +kernel];exact Ao ⟨_,rfl,p,dx,_,rfl,hp,Ce _ _ _,p,ls,lw,S,W',G,false,rfl,R,qe,hB,hq,q⟩
inductive spEnds (DC bd:Xd) (vs:Xc) (H:Hp) (Q:VK) (_E:XK):Prop where
 |mk (p ls lw:Xd) (ss:Xa) (G:List Sg) (cJ:vs=[.ref p]) (cP:bG DC H p ls lw ss (cC G) false) (cV:ss.length+G.length<=390) (dr:∀q∈G,1<=q.b) (d9:Rd H bd (.dK Bq))
  (gi:∀H',gS p ls lw H H'->bG DC H' p ls lw (ss++(cC G).reverse) [] false->Q (.bl true) H')
 |no (p ls lw:Xd) (ss:Xa) (W:List Sg) (wp:Bool) (cJ:vs=[.ref p]) (cP:bG DC H p ls lw ss (cC W) wp) (cV:ss.length+W.length<=390) (dr:wp=true\/∃W1 W2,W=(W1++[.br])++W2/\∀q∈W2,1<=q.b) (d9:Rd H bd (.dK Bq)) (gi:∀H',gS p ls lw H H'->Q (.bl false) H')
theorem LU:∀W:List Sg,(∀q∈W,1<=q.b)\/∃W1 W2,W=(W1++[.br])++W2/\∀q∈W2,1<=q.b
 | []=>.inl λq h=>nomatch h
 |g::W=>by
  rcases LU W with h |⟨W1,W2,e,h⟩
  ·by_cases hg:1<=g.b
   ·exact .inl λq hq=>by rcases mem_cons.mp hq with rfl |z;exact hg;exact h q z
   ·have:g=.br:=by cases g <;> first |rfl |exact absurd qc hg
    subst this;exact .inr ⟨[],W,Zj,h⟩
  ·exact .inr ⟨g::W1,W2,by rw[e];rfl,h⟩
theorem Ul:AN ["self"] ["self"] (defScope DY):=cS
theorem Sw {f:Xd}{tB:Tok} (F:aY K "ends" "Reading.ends" DY f fd) (B:Bl mg) (DT:IP K DC) (mL:mg "LEAST_BINDING" = some (.int 1 tB)) (GS:Mt P w K mg base DC "settle" 1 ["self", "binding"] (spSet DC bd)):Af P w K mg base aT 2 f fd ["self"] (spEnds DC bd):=by
 obtain⟨fS,dS,GS,mS,bS⟩:=GS.ex;refine F.ok Ul (λvs H Q E h=>?_) (λad A outer s H vs Q E hr h=>?_)
 ·cases h with
  |mk p ls lw ss G e=>subst e;rfl
  |no p ls lw ss W wp e=>subst e;rfl
 ·
  refine⟨_,AF (BJ (Ck (pv 0) DT.cl mS GS hr bS .nil AR (AA (Bg (v:=.int 1) Zj mL ⟨tB,Zj⟩) AC)))
   (AG (AO (Cz (Pg (BL (pv 0) rfl)) (Cy (Cj Aw (AW (A8 K rfl) rfl B.len PySem.boot_len (AA (BL (pv 0) rfl) AC)) AD (AS _)))))),?_⟩
  cases h with
  |no p ls lw ss W wp e R h390 hw hB q =>
   subst e;obtain⟨dx,hp⟩:=id R.ex
   obtain⟨W0,G,eW,hG,h0,hn⟩:∃W0 G,W=W0++G/\(∀q∈G,1<=q.b)/\(W0=[]\/LQ W0<1)/\(wp=true\/W0≠ []):=by
    rcases LU W with h |⟨W1,W2,e,h⟩
    ·refine⟨[],W,rfl,h,.inl rfl,?_⟩;rcases hw with z |⟨W1,W2,e,_⟩
     ·exact .inl z
     ·have:=h .br (by rw[e];simp);exact absurd this qc
    ·exact⟨W1++[.br],W2,e,h,.inr (by rw[DN];decide),.inr (by simp)⟩
   subst eW;rw[ZH]at h390;refine⟨_,rfl,p,dx,_,rfl,hp,Ce _ _ _,p,ls,lw,ss,W0,G,1,wp,rfl,R,qe,hB,hG,h0,λH1 s1 R1=>?_⟩;obtain⟨iU,ak⟩:=id R1.ex;refine⟨_,rfl,p,DC,iU,_,_,rfl,ak,DT.cl,DT.nP,Hn _ _ _,_,rfl,_,rfl,?_⟩;cases wp with
   |true=>exact Ac (q _ s1)
   |false =>
    refine Ao ⟨_,Zj,p,DC,iU,_,_,Zj,ak,DT.cl,DT.nW,EU _ _ _,lw,_,Zj,.inl (aK.of R1.hw),Zj,?_⟩;have hn0:W0≠ []:=hn.resolve_left qc
    rw[ZO (λz=>by
     have:=V.int.inj z;simp only[AJ]at this
     exact hn0 (List.length_eq_zero_iff.mp qe))]
    exact q _ s1
  |mk p ls lw ss G e R h390 hq hB q =>
  subst e;obtain⟨dx,hp⟩:=id R.ex;refine⟨_,Zj,p,dx,_,Zj,hp,Ce _ _ _,p,ls,lw,ss,[],G,1,false,Zj,R,by show _+(0+_)<=400;omega,hB,hq,.inl Zj,λH1 s1 R1=>?_⟩;obtain⟨iU,ak⟩:=id R1.ex;refine⟨_,Zj,p,DC,iU,_,_,Zj,ak,DT.cl,DT.nP,Hn _ _ _,_,Zj,_,Zj,Ao ?_⟩;exact⟨_,Zj,p,DC,iU,_,_,Zj,ak,DT.cl,DT.nW,EU _ _ _,lw,_,Zj,.inl (aK.of R1.hw),Zj,q _ s1 R1⟩
end
theorem Sx {a:Xd}{o:HO} (s:aA H H') (h:Rd H a o):Rd H' a o:=by
 rcases h with h |⟨o,h⟩
 ·exact .inl (s _ _ h)
 ·exact .inr ⟨o,s _ _ h⟩
theorem bG.same {DC:Xd}{p ls lw:Xd}{ss ws:Xa}{wp:Bool} (s:aA H H') (h:bG DC H p ls lw ss ws wp):bG DC H' p ls lw ss ws wp:=by
 obtain⟨dx,hp⟩:=h.ex;exact⟨⟨dx,s _ _ hp⟩,s _ _ h.hs,s _ _ h.hw,h.ne⟩
theorem Jz (g:Sg):(⟨#[g.c]⟩:Str)=g.s:=by cases g <;> decide +kernel
theorem Te (g:Sg):Ch g.c=false/\CV g.c=false:=by cases g <;> exact⟨rfl,rfl⟩
inductive RnN (lt:Bool) (z:Str) (o:Out) (a:Nat) (S:Xa) (W:List Sg) (wp:Bool):Prop
 |done (ea:a=z.length) (ew:wp=false) (h:∀q∈W,1<=q.b) (e:o=.ok (S++(cC W).reverse))
 |part (ew:wp=true) (n:Nat) (h:PZ lt z a n) (hn:0<n) (r:Rn lt z o (a+n) (S++[sl z a (a+n)]) W false)
 |sign (c:Nat) (S':Xa) (W':List Sg) (jf:Bool) (hc:z.cps.toList[a]?=some c) (no:PZ lt z a 0) (st:SgStep ⟨#[c]⟩ S W wp S' W' jf) (r:Rn lt z o (a+1) S' W' jf) (l:S'.length+W'.length<=S.length+W.length+1)
 |ends (ea:a=z.length) (hw:wp=true\/∃W1 W2,W=(W1++[.br])++W2/\∀q∈W2,1<=q.b) (e:o=.bad z.length)
theorem J0 {lt:Bool}{z:Str}{a c:Nat} (hc:z.cps.toList[a]?=some c) (no:Ch c=false/\CV c=false) (sm:CH c=false):PZ lt z a 0:=by
 obtain⟨hlt,ec⟩:=Z8.mp hc;rw[At]at hlt;refine⟨qe,λk h0 hk=>absurd hk qe,λ_=>RH (w:=[]) no ?_ (.inr sm)⟩;rw[Fc z qe qe];rw[show a+0+1 - a=1 by omega,nil_append];rw[List.drop_eq_getElem_cons (by rw[At];exact hlt),ec];rfl
theorem Rn.next {lt:Bool}{z:Str}{o:Out}{a:Nat}{S:Xa}{W:List Sg}{wp:Bool} (h:Rn lt z o a S W wp):RnN lt z o a S W wp:=by
 cases h with
 |done _ _ h e=>exact .done rfl rfl h e
 |blank _ _ _ _ h r=>exact .sign 32 _ _ _ h (J0 h ⟨rfl,rfl⟩ rfl) (by rw[show(⟨#[32]⟩:Str) = " " by decide +kernel];exact .blank _ _ _) r qe
 |part _ n _ _ h hn r=>exact .part rfl n h hn r
 |ahead _ _ _ g hg h r=>exact .sign g.c _ _ _ h (J0 h (Te g) (by cases g <;> rfl)) (by rw[Jz];exact .ahead _ _ g hg) r (by simp;omega)
 |join _ _ W Q g hg h hq hw r=>exact .sign g.c _ _ _ h (J0 h (Te g) (by cases g <;> rfl)) (by rw[Jz];exact .join _ W Q g hg hq hw) r (by simp;omega)
 |close _ _ W Q h hq r=>exact .sign 41 _ _ _ h (J0 h ⟨rfl,rfl⟩ rfl) (by rw[show(⟨#[41]⟩:Str) = ")" by decide +kernel];exact .close _ W Q hq) r (by simp;omega)
 |ends _ _ _ hw e=>exact .ends rfl hw e
structure Vp (P:Program) (w:World) (K:FG) (mg:SV) (base:Heap) (DC bd:Xd):Prop where
 T:IP K DC
 cls:mg "Reading" = some (.ref DC)
 make:∃f fd,Mk K DC f/\Af P w K mg base aT 1 f fd ["self"] (spRd0 DC)/\Binds K fd ["self"] []
 tp:Mt P w K mg base DC "take_part" 1 ["self", "part"] (spTP DC)
 ts:Mt P w K mg base DC "take_sign" 3 ["self", "sign"] (spTS DC bd)
 en:Mt P w K mg base DC "ends" 2 ["self"] (spEnds DC bd)
def Ws (H:Hp) (Q:VK) (E:XK) (cT:Xd):Out->Prop
 | .ok T=>∀l H',aA H H'->H' l=some (.lst (T.map V.str))->Q (.ref l) H'
 | .bad e=>kb H E cT (.int (e:Int))
inductive spSt (K:FG) (DC bd cT:Xd) (vs:Xc) (H:Hp) (Q:VK) (E:XK):Prop where
 |mk (z:Str) (lt:Bool) (o:Out) (cJ:vs=[.str z,.bl lt]) (cP:z.cps.all (· < 128)=true) (cV:z.length<=100) (dr:Rn lt z o 0 [] [] true) (d9:Rd H bd (.dK Bq)) (gi:Ws H Q E cT o)
noncomputable abbrev NSt:Xa:=["text", "lettered", "reading", "at", "end"]
theorem scSt:AN NSt ["text", "lettered"] (defScope CN):=cS
inductive StA (lt:Bool) (DC:Xd) (z:Str) (o:Out) (p ls lw:Xd) (H:Hp) (a:Nat):Prop
 |mk (S:Xa) (W:List Sg) (wp:Bool) (R:bG DC H p ls lw S (cC W) wp) (t:Rn lt z o a S W wp) (l:S.length+W.length<=a) (h:a<=z.length)
section
variable {DC bd cM cT:Xd}
theorem RL {n:Nat} (h:n<=1000):AtV (.int (n:Int)):=.inr ⟨_,rfl,JH (Nat.lt_of_le_of_lt h qc)⟩
theorem Vq {f:Xd} (F:aY K "steps_of" "steps_of" CN f fd) (B:Bl mg) (RO:Vp P w K mg base DC bd) (TX:Nx P w K mg base cM cT) (GE:Fn P w K mg base "part_end" 5 ["text", "at", "lettered"] spPE):Af P w K mg base (eZ P w) 6 f fd ["text", "lettered"] (spSt K DC bd cT):=by
 obtain⟨fE,dE,GE,mE,kE,bE⟩:=GE.ex;obtain⟨fI,dI,MI,GI,bI⟩:=RO.make;obtain⟨fT,dT,GT,mT,bT⟩:=RO.tp.ex;obtain⟨fS,dS,GS,mS,bS⟩:=RO.ts.ex;obtain⟨fN,dN,GN,mN,bN⟩:=RO.en.ex;have mC:=RO.cls;have DT:=RO.T;obtain⟨fX,dX,MX,GX,bX⟩:=TX.make;have mX:=TX.cls;refine F.okX scSt (λvs H Q E h=>?_) (λad A outer s H vs Q E hr h=>?_)
 ·cases h with
  |mk z lt o e=>subst e;rfl
 ·have rz:=NY (P:=P) (w:=w) (K:=K) (mg:=mg) (base:=base) (N:=NSt) (qual := "steps_of") (scope:=defScope CN) (f:=f) (cd:=ad) (A:=A) (outer:=outer) (s:=s) (H:=H) (E:=E);have eP:aI 1 _:=hr.mono qc;have fV:aI 2 _:=hr.mono qc;have hr3:aI 3 _:=hr.mono qc;have nd:=scSt.nd
  refine⟨_,AF (An (Bs (BB (CL K Zj Zj B.f6 Zj B.str F0 (pv 0)))) (AG Ak) Ae)
   (AF (Ag (i:=2) nd rfl (Or.inl rfl) (Pw MI GI fV rfl mC bI .nil AR))
   (AF (Ag (i:=3) nd rfl (Or.inl rfl) AD)
   (CM (E3 PassesOwn.leaving (AM IS (pv 3) (AW Az rfl B.len PySem.boot_len (AA (pv 0) AC)) (AS _))
    (CM (Ag (i:=4) nd rfl (Or.inl rfl) (C8 (BB (BL (pv 2) rfl)) (AQ GE hr rfl mE kE bE .nil AR (AA (pv 0) (AA (pv 3) (AA (pv 1) AC)))) (pv 3)))
    (AG (An (AM IT (pv 4) (pv 3) (AS _))
     (AF (BJ (Ck (pv 2) DT.cl mT GT eP bT .nil AR (AA (KM QY (pv 0) (Gf (pv 3)) (Gf (pv 4))) AC))) (AG (Ag (i:=3) nd rfl (Or.inl rfl) (pv 4))))
     (AG (An (BB (Ck (pv 2) DT.cl mS GS hr3 bS .nil AR (AA (BG JR (pv 0) (pv 3) (λ_ _=>rfl)) AC))) (AG (Lh (i:=3) nd rfl (Or.inl rfl) AD (NI:dc _ _ _))) (AG Ak)))))))
   (AF (An (Bs (BB (E6 (pv 2) DT.cl mN GN fV bN .nil AR))) (AG (Kh rz rfl MX.cls (Kd MX GX hr3 rfl mX bX .nil AR (AA (AW Az rfl B.len PySem.boot_len (AA (pv 0) AC)) AC)))) Ae)
   (AG (AO (BL (pv 2) rfl))))))),?_⟩
  cases h with
  |mk z lt o e ha h40 RN hB q =>
  subst e;refine⟨_,Zj,_,_,_,true,Zj,.str z,Zj,_,Zj,Ac ?_⟩;intro p dx hp ax aw;have sN:=LH (D:=DC) hp ax aw;refine⟨p,dx,Zj,AB,λls lw H1 s1 hls hlw R1=>⟨Zj,?_⟩⟩;have S1:aA H H1:=λb o e=>s1 b o (sN _ _ e) (AI e hp);have hls0:H ls=none:=none_of sN hls;have cu:H lw=none:=none_of sN hlw;have old:∀ {H2 H3:Hp},aA H H2->gS p ls lw H2 H3->aA H H3:=λ{H2 H3} a b c o e=>b c o (a c o e) (AI e hp) (AI e hls0) (AI e cu);have rdS:∀ {H2:Hp},aA H H2->Rd H2 bd (.dK Bq):=λ{H2} a=>Sx a hB;refine⟨λσ H'=>(∃v4,σ=[some (.str z),some (.bl lt),some (.ref p),some (.int (z.length:Int)),v4])/\aA H H'/\∃S W wp,bG DC H' p ls lw S (cC W) wp/\S.length+W.length<=300/\((wp=false/\(∀q∈W,1<=q.b)/\o=.ok (S++(cC W).reverse))\/((wp=true\/∃W1 W2,W=(W1++[.br])++W2/\∀q∈W2,1<=q.b)/\o=.bad z.length)),λR hR=>?_,?_⟩
  ·refine⟨λm σ H2=>∃a v4,σ=[some (.str z),some (.bl lt),some (.ref p),some (.int ((a:Nat):Int)),v4]/\m=z.length - a/\aA H H2/\StA lt DC z o p ls lw H2 a,⟨z.length,0,none,rfl,rfl,S1,.mk [] [] true R1 RN (Nat.zero_le _) (Nat.zero_le _)⟩,?_⟩;rintro m σ H2 ⟨a,v4,rfl,rfl,S2,S,W,wp,R2,t,l,hal⟩;refine⟨_,rfl,_,rfl,z,rfl,Nat.le_of_lt (AL qe),_,_,rfl,rfl,_,rfl,?_⟩;obtain⟨dx2,al⟩:=id R2.ex;cases t.next with
   |done ea ew h e =>
    subst ea ew;rw[ZO (show ¬ ((z.length:Nat):Int)<(z.length:Int) by omega)];exact Ac (hR _ _ ⟨⟨_,Zj⟩,S2,S,W,false,R2,qe,.inl ⟨Zj,h,e⟩⟩)
   |ends ea hw e =>
    subst ea;rw[ZO (show ¬ ((z.length:Nat):Int)<(z.length:Int) by omega)];exact Ac (hR _ _ ⟨⟨_,Zj⟩,S2,S,W,wp,R2,qe,.inr ⟨hw,e⟩⟩)
   |part ew n pt hn r =>
    subst ew;have hle:=pt.le;rw[ZL (show((a:Nat):Int)<(z.length:Int) by omega)];refine Ao ⟨λσ H3=>∃b v4,σ=[some (.str z),some (.bl lt),some (.ref p),some (.int ((b:Nat):Int)),v4]/\z.length - b<z.length - a/\aA H H3/\StA lt DC z o p ls lw H3 b,λaJ H' ⟨b,v,e1,e2,e3,e4⟩=>⟨z.length - b,e2,b,v,e1,Zj,e3,e4⟩,?_⟩;refine⟨λσ H3=>σ=[some (.str z),some (.bl lt),some (.ref p),some (.int ((a:Nat):Int)),some (.int ((a+n:Nat):Int))]/\aA H H3/\bG DC H3 p ls lw S (cC W) true,λR hR=>?_,?_⟩
    ·refine⟨_,Zj,p,DC,dx2,_,_,Zj,al,DT.cl,DT.nP,Hn _ _ _,_,Zj,Ao ?_⟩;exact⟨_,Zj,_,Zj,_,Zj,z,a,n,lt,Zj,ha,qe,pt,λH3 s3=>hR _ _ ⟨Zj,S2.trans s3,R2.same s3⟩⟩
    ·rintro σ H3 ⟨rfl,S3,R3⟩;obtain⟨dx3,iE⟩:=id R3.ex;refine⟨_,Zj,_,Zj,_,_,Zj,Zj,_,Zj,?_⟩;rw[ZL (show((a+n:Nat):Int)>((a:Nat):Int) by omega)];refine Ao ?_;refine⟨_,Zj,p,dx3,_,Zj,iE,Ce _ _ _,_,Zj,_,Zj,_,Zj,_,Zj,_,Zj,z,Zj,Nat.le_of_lt (AL qe),p,ls,lw,S,cC W,true,_,Zj,R3,qe,λH4 s4 R4=>?_⟩;exact⟨_,Zj,a+n,_,Zj,qe,old S3 s4,.mk _ W false R4 r (by rw[ZH,length_singleton];omega) hle⟩
   |sign c S' W' jf hc no st r hl' =>
    have hlt:a<z.length:=by
     have:=(Z8.mp hc).1;rw[At]at this;exact this
    rw[ZL (show((a:Nat):Int)<(z.length:Int) by omega)];refine Ao ⟨λσ H3=>∃b v4,σ=[some (.str z),some (.bl lt),some (.ref p),some (.int ((b:Nat):Int)),v4]/\z.length - b<z.length - a/\aA H H3/\StA lt DC z o p ls lw H3 b,λaJ H' ⟨b,v,e1,e2,e3,e4⟩=>⟨z.length - b,e2,b,v,e1,Zj,e3,e4⟩,?_⟩;refine⟨λσ H3=>σ=[some (.str z),some (.bl lt),some (.ref p),some (.int ((a:Nat):Int)),some (.int ((a:Nat):Int))]/\aA H H3/\bG DC H3 p ls lw S (cC W) wp,λR hR=>?_,?_⟩
    ·refine⟨_,rfl,p,DC,dx2,_,_,rfl,al,DT.cl,DT.nP,Hn _ _ _,_,rfl,?_⟩;cases wp with
     |false=>exact Ac ⟨_,rfl,hR _ _ ⟨rfl,S2,R2⟩⟩
     |true=>exact Ao ⟨_,rfl,_,rfl,_,rfl,z,a,0,lt,rfl,ha,qe,no,λH3 s3=>hR _ _ ⟨rfl,S2.trans s3,R2.same s3⟩⟩
    ·rintro σ H3 ⟨rfl,S3,R3⟩;obtain⟨dx3,iE⟩:=id R3.ex;refine⟨_,Zj,_,Zj,_,_,Zj,Zj,_,Zj,?_⟩;rw[ZO (show ¬ ((a:Nat):Int)>((a:Nat):Int) by omega)];refine Ac ?_;refine⟨_,Zj,p,dx3,_,Zj,iE,Ce _ _ _,_,Zj,_,Zj,z,(a:Int),c,Zj,Zj,Nat.le_of_lt (AL qe),BN hc,p,ls,lw,⟨#[c]⟩,S,S',W,W',wp,jf,Zj,R3,st,qe,rdS S3,λH4 s4 R4=>⟨_,Zj,Ao ?_⟩⟩;refine⟨_,Zj,_,_,Zj,Zj,a+1,some (.int ((a:Nat):Int)),?_,qe,old S3 s4,.mk S' W' jf R4 r qe qe⟩;show [some (V.str z),some (V.bl lt),some (V.ref p),some (V.int (((a:Nat):Int)+1)),some (V.int ((a:Nat):Int))]=_;rfl
  rintro σ H2 ⟨⟨v4,rfl⟩,S2,S,W,wp,R2,l80,hend⟩;obtain⟨dx2,al⟩:=id R2.ex;rcases hend with⟨rfl,hq,rfl⟩ |⟨hw,rfl⟩
  ·refine⟨_,Zj,p,dx2,_,Zj,al,Ce _ _ _,.mk p ls lw S W Zj R2 qe hq (rdS S2) λH3 s3 R3=>⟨_,Zj,Ac ?_⟩⟩;obtain⟨dx3,iE⟩:=id R3.ex;exact⟨_,Zj,p,DC,dx3,_,_,Zj,iE,DT.cl,DT.nS,RG _ _ _,q ls H3 (old S2 s3) R3.hs⟩
  ·refine⟨_,Zj,p,dx2,_,Zj,al,Ce _ _ _,.no p ls lw S W wp Zj R2 qe hw (rdS S2) λH3 s3=>⟨_,Zj,Ao ?_⟩⟩;exact PY MX.cls TX.st (RL qe) (old S2 s3) q (λ_ k=>⟨_,Zj,z,Zj,Nat.le_of_lt (AL qe),k⟩)
end
theorem Sy (a b:Nat):Builtin.bitXor (a:Int) (b:Int)=((a ^^^ b:Nat):Int):=by
 have h1:(a ^^^ b)|||(a&&&b)=a |||b:=by
  refine Nat.eq_of_testBit_eq λk=>?_;simp only[Nat.testBit_and,Nat.testBit_xor,Nat.testBit_or];cases a.testBit k <;> cases b.testBit k <;> rfl
 have h2:(a ^^^ b)&&&(a&&&b)=0:=by
  refine Nat.eq_of_testBit_eq λk=>?_;simp only[Nat.testBit_and,Nat.testBit_xor,Nat.zero_testBit];cases a.testBit k <;> cases b.testBit k <;> rfl
 have h3:=Q9 (a ^^^ b) (a&&&b);rw[h1,h2]at h3;have h4:Builtin.bitXor (a:Int) (b:Int)=Builtin.bitOr (a:Int) (b:Int) - Builtin.bitAnd (a:Int) (b:Int):=rfl;rw[h4,Dx,DS];omega
structure Nv where
 due:Aa
 kvs:LK
 tb:Str->Nat
noncomputable def wv (n:Nv) (x:Str):Nat:=if BP x then n.tb x else if By x then look n.due x else digitsVal x.cps.toList
structure WdOk (n:Nv) (x:Str):Prop where
 as:x.cps.all (· < 128)=true
 l0:0<x.length
 l6:x.length<=200
 or:(BP x=true/\Av n.kvs (Sum.inr x)=some (.int (n.tb x:Nat)))\/(BP x=false/\By x=true/\x∈n.due.map (·.1))\/(BP x=false/\By x=false/\AllDigits x.cps.toList)
theorem WdOk.nb {n:Nv}{x:Str} (h:WdOk n x):x≠ "|" /\ x≠ "&" /\ x≠ "^" /\ x≠ "~" := by
 have key:∀y:Str,BP y=false->By y=false->(∃c∈y.cps.toList,¬ (48<=c/\c<=57))->x≠y:=λy h0 h1 ⟨c,hc,h2⟩ z=>by
  subst z;rcases h.or with⟨a,_⟩ |⟨_,a,_⟩ |⟨_,_,b⟩
  ·rw[h0]at a;cases a
  ·rw[h1]at a;cases a
  ·exact h2 (b c hc)
 exact⟨key _ qb qb ⟨124,qb,qc⟩,key _ qb qb ⟨38,qb,qc⟩,key _ qb qb ⟨94,qb,qc⟩,key _ qb qb ⟨126,qb,qc⟩⟩
structure NmNo (n:Nv) (x:Str):Prop where
 as:x.cps.all (· < 128)=true
 l6:x.length<=200
 lt:BP x=false
 nm:By x=true
 no:x∉ n.due.map (·.1)
theorem NmNo.nb {n:Nv}{x:Str} (h:NmNo n x):x≠ "|" /\ x≠ "&" /\ x≠ "^" /\ x≠ "~" := by
 have key:∀y:Str,By y=false->x≠y:=λy h1 z=>by
  subst z;have:=h.nm;rw[h1]at this;cases this
 exact⟨key _ qb,key _ qb,key _ qb,key _ qb⟩
noncomputable def Sg.f:Sg->Nat->Nat->Nat | .an,a,b=>a&&&b | .xo,a,b=>a ^^^ b |_,a,b=>a |||b
inductive EvS (n:Nv):List Nat->Str->List Nat->Prop
 |ng (h:List Nat) (v:Nat):EvS n (h++[v]) "~" (h++[kn n.due - (kn n.due&&&v)])
 |bn (g:Sg) (hg:g.dQ) (h:List Nat) (a b:Nat):EvS n (h++[a]++[b]) g.s (h++[g.f a b])
 |wd (x:Str) (W:WdOk n x) (h:List Nat):EvS n h x (h++[wv n x])
inductive Ev (n:Nv) (o:Option Nat):List Nat->Xa->Prop
 |nil (v:Nat) (e:o=some v):Ev n o [v] []
 |cons (h h':List Nat) (x:Str) (S:Xa) (a:EvS n h x h') (b:Ev n o h' S):Ev n o h (x::S)
 |no (h:List Nat) (x:Str) (S:Xa) (a:NmNo n x) (e:o=none):Ev n o h (x::S)
noncomputable def Tr.cK (n:Nv):Tr->Nat
 | .wd x=>wv n x
 | .ng t=>kn n.due - (kn n.due&&&t.cK n)
 | .bn g a b=>g.f (a.cK n) (b.cK n)
def Tr.Ok (n:Nv):Tr->Prop
 | .wd x=>WdOk n x
 | .ng t=>t.Ok n
 | .bn g a b=>g.dQ/\a.Ok n/\b.Ok n
theorem Gk {n:Nv}{o:Option Nat}:∀(t:Tr),t.Ok n->∀(h:List Nat) (S:Xa),Ev n o (h++[t.cK n]) S->Ev n o h (t.post++S)
 | .wd x,k,h,S,r=>.cons _ _ _ _ (.wd x k h) r
 | .ng t,k,h,S,r=>by
  show Ev n o h ((t.post++[("~" : Str)])++S);rw[List.append_assoc];exact Gk t k h _ (.cons _ _ _ _ (.ng h _) r)
 | .bn g a b,k,h,S,r=>by
  show Ev n o h ((a.post++b.post++[g.s])++S);rw[List.append_assoc,List.append_assoc];exact Gk a k.2.1 h _ (Gk b k.2.2 _ _ (.cons _ _ _ _ (.bn g k.1 h _ _) r))
theorem LV {n:Nv}{t:Tr} (k:t.Ok n):Ev n (some (t.cK n)) [] t.post:=by
 have:=Gk (o:=some (t.cK n)) t k [] [] (.nil _ rfl)
 rwa[Zt]at this
theorem EvS.len {n:Nv}{h h':List Nat}{x:Str} (e:EvS n h x h'):h'.length<=h.length+1:=by
 cases e <;> simp <;> omega
section
variable {DC bd jn cB:Xd}
inductive spJn (vs:Xc) (H:Hp) (Q:VK) (_E:XK):Prop where
 |mk (g:Sg) (a b:Nat) (cJ:vs=[.str g.s,.int (a:Int),.int (b:Int)]) (cP:g.dQ) (cV:Q (.int ((g.f a b:Nat):Int)) H)
theorem Wt:AN ["sign", "one", "other"] ["sign", "one", "other"] (defScope Jn):=cS
theorem Vr {f:Xd} (F:aY K "joined" "joined" Jn f fd):Af P w K mg base aT 1 f fd ["sign", "one", "other"] spJn:=by
 refine F.m Wt λvs H Q E h=>?_;obtain⟨g,a,b,rfl,hg,q⟩:=h;refine⟨rfl,λad A outer s hr=>?_⟩;refine⟨_,AF (An (AM Aw (pv 0) AK (AS _)) (AG (AO (Ab Cc (pv 1) (pv 2)))) Ae) (AF (An (AM Aw (pv 0) AK (AS _)) (AG (AO (Ab Gu (pv 1) (pv 2)))) Ae) (AG (AO (Ab KG (pv 1) (pv 2))))),?_⟩;refine⟨_,rfl,rfl,_,rfl,?_⟩;cases g with
 |br=>exact hg.elim
 |no=>exact hg.elim
 |an =>
  rw[show decide (V.str Sg.an.s=V.str "&")=true by decide +kernel];refine Ao ⟨_,Zj,_,Zj,_,_,Zj,Zj,?_⟩;show Q (V.int (Builtin.bitAnd _ _)) H;rw[DS];exact q
 |xo =>
  rw[show decide (V.str Sg.xo.s=V.str "&")=false by decide +kernel];refine Ac ⟨_,Zj,Zj,_,Zj,?_⟩;rw[show decide (V.str Sg.xo.s=V.str "^")=true by decide +kernel];refine Ao ⟨_,Zj,_,Zj,_,_,Zj,Zj,?_⟩;show Q (V.int (Builtin.bitXor _ _)) H;rw[Sy];exact q
 |or =>
  rw[show decide (V.str Sg.or.s=V.str "&")=false by decide +kernel];refine Ac ⟨_,Zj,Zj,_,Zj,?_⟩;rw[show decide (V.str Sg.or.s=V.str "^")=false by decide +kernel];refine Ac ⟨_,Zj,_,Zj,_,_,Zj,Zj,?_⟩;show Q (V.int (Builtin.bitOr _ _)) H;rw[Dx];exact q
inductive spKN (C cB:Xd) (vs:Xc) (H:Hp) (Q:VK) (E:XK):Prop where
 |mk (p:Xd) (due:Aa) (r:Str) (x:Str) (cJ:vs=[.ref p,.str x]) (cP:aX C H p due r) (cV:x∈due.map (·.1)) (dr:Q (.int (look due x:Nat)) H)
 |no (p:Xd) (due:Aa) (r:Str) (x:Str) (cJ:vs=[.ref p,.str x]) (cP:aX C H p due r) (cV:x∉ due.map (·.1)) (dr:Uq H E cB)
theorem Vs {f:Xd} (F:aY K "number" "Kind.number" Co f fd) (T:Jr K C) (EB:Ta P w K mg base "BadName" cB) (GO:Fn P w K mg base "is_one_of" 1 ["thing", "names"] (DJ K)):Af P w K mg base (eZ P w) 3 f fd ["self", "name"] (spKN C cB):=by
 obtain⟨fO,dO,GO,mO,kO,bO⟩:=GO.ex;obtain⟨fX,dX,MX,GX,bX⟩:=EB.make;have mX:=EB.cls;refine F.okX Q7 (λvs H Q E h=>?_) (λad A outer s H vs Q E hr h=>?_)
 ·cases h with
  |mk p due r x e=>subst e;rfl
  |no p due r x e=>subst e;rfl
 ·have hu:=Cm hr;have eP:aI 1 _:=hr.mono qc;have rz:=NY (P:=P) (w:=w) (K:=K) (mg:=mg) (base:=base) (N:=["self", "name"]) (qual := "Kind.number") (scope:=defScope Co) (f:=f) (cd:=ad) (A:=A) (outer:=outer) (s:=s) (H:=H) (E:=E)
  refine⟨_,AF (An (Bs (BB (AQ GO eP Zj mO kO bO .nil AR (AA (pv 1) (AA (BL (pv 0) Zj) AC))))) (AG (Kh rz Zj MX.cls (Kd MX GX hr Zj mX bX .nil AR (AA AK AC)))) Ae)
   (AG (AO (Bh hu (BL (pv 0) rfl) (pv 1) (λ_ _=>rfl)))),?_⟩
  cases h with
  |mk p due r x e KA hx k =>
   subst e;obtain⟨dx,d1,o1,d2,o2,hp,h1,h2⟩:=KA.ex;refine⟨_,Zj,_,Zj,p,C,dx,_,_,Zj,hp,T.cl,T.nN,Hi _ _ _,?_⟩;refine .inl ⟨x,d1,Ax due,Zj,.inr ⟨o1,h1⟩,_,Zj,?_⟩;rw[CO hx];refine Ac ?_;exact⟨_,Zj,p,C,dx,_,_,Zj,hp,T.cl,T.nN,Hi _ _ _,_,Zj,d1,_,Zj,.inl ⟨_,Sum.inr x,.inr ⟨o1,h1⟩,Zj,(CO hx).symm⟩,k⟩
  |no p due r x e KA hx hU =>
   subst e;obtain⟨dx,d1,o1,d2,o2,hp,h1,h2⟩:=KA.ex;refine⟨_,Zj,_,Zj,p,C,dx,_,_,Zj,hp,T.cl,T.nN,Hi _ _ _,?_⟩;refine .inl ⟨x,d1,Ax due,Zj,.inr ⟨o1,h1⟩,_,Zj,?_⟩;rw[DZ hx];refine Ao ?_;exact Mz (te:=λ_=>tC (.str "")) MX.cls (aA.refl _) hU
structure Vt (P:Program) (w:World) (K:FG) (mg:SV) (base:Heap) (C:Xd) (m:Str) (k:Nat) (ps:Xa) (sp:Sp):Prop where
 ex:∃f fd,Af P w K mg base (eZ P w) k f fd ps sp/\Pt K C m f/\Binds K fd ps []
structure FnR (P:Program) (w:World) (K:FG) (mg:SV) (base:Heap) (x:Str) (k:Nat) (ps:Xa) (sp:Sp):Prop where
 ex:∃f fd,Af P w K mg base (eZ P w) k f fd ps sp/\mg x=some (.ref f)/\W.keepIn K (.ref f)=true/\Binds K fd ps []
inductive spPN (C cB:Xd) (vs:Xc) (H:Hp) (Q:VK) (E:XK):Prop where
 |mk (k t:Xd) (x:Str) (n:Nv) (r:Str) (cJ:vs=[.ref k,.str x,.ref t]) (cP:aX C H k n.due r) (z_t:Rd H t (.dK n.kvs)) (cV:WdOk n x) (dr:∀H',aA H H'->Q (.int (wv n x:Nat)) H')
 |no (k t:Xd) (x:Str) (n:Nv) (r:Str) (cJ:vs=[.ref k,.str x,.ref t]) (cP:aX C H k n.due r) (cV:NmNo n x) (dr:Uq H E cB)
theorem Wu:AN ["kind", "part", "table"] ["kind", "part", "table"] (defScope Cp):=cS
theorem Vu {f:Xd} (F:aY K "part_number" "part_number" Cp f fd) (B:Bl mg) (T:Jr K C) (GL:Fn P w K mg base "is_letter" 1 ["thing"] (spLet K)) (GN:Fn P w K mg base "is_name" 1 ["thing"] spIsName) (GK:Vt P w K mg base C "number" 3 ["self", "name"] (spKN C cB)):Af P w K mg base (eZ P w) 4 f fd ["kind", "part", "table"] (spPN C cB):=by
 obtain⟨fL,dL,GL,mL,kL,bL⟩:=GL.ex;obtain⟨fN,dN,GN,mN,kN,bN⟩:=GN.ex;obtain⟨fK,dK,GK,mK,bK⟩:=GK.ex;refine F.okX Wu (λvs H Q E h=>?_) (λad A outer s H vs Q E hr h=>?_)
 ·cases h with
  |mk k t x n r e=>subst e;rfl
  |no k t x n r e=>subst e;rfl
 ·have hu:=Cm hr;have eP:aI 1 _:=hr.mono qc;have ps:=QI (P:=P) (w:=w) (K:=K) (mg:=mg) (base:=base) (N:=["kind", "part", "table"]) (qual := "part_number") (scope:=defScope Cp) (f:=f) (cd:=ad) (A:=A) (outer:=outer) (s:=s) (H:=H) (E:=E)
  refine⟨_,AF (An (BB (AQ GL eP Zj mL kL bL .nil AR (AA (pv 1) AC))) (AG (AO (Bh hu (pv 2) (pv 1) (λ_ _=>rfl)))) Ae)
   (AF (An (BB (AQ GN eP rfl mN kN bN .nil AR (AA (pv 1) AC))) (AG (AO (Ck (pv 0) T.cl mK GK hr bK .nil ps (AA (pv 1) AC)))) Ae)
   (AG (AO (Bp ES rfl B.int HY (AA (pv 1) AC))))),?_⟩
  cases h with
  |no k t x n r e KA W hU =>
   subst e;obtain⟨dk,e1,e2,hk⟩:=KA.ins;have l6:=W.l6;refine⟨_,Zj,.txt x Zj W.l6 ⟨_,Zj,?_⟩⟩;rw[W.lt];refine Ac ⟨_,Zj,x,Zj,W.as,qe,λH1 s1=>⟨_,Zj,?_⟩⟩;rw[W.nm];exact Ao ⟨_,Zj,k,dk,_,Zj,s1 _ _ hk,(FX _ _ _),_,Zj,.no k n.due r x Zj (KA.same s1) W.no (hU.of s1)⟩
  |mk k t x n r e KA ht W q =>
   subst e;obtain⟨dk,e1,e2,hk⟩:=KA.ins;have l6:=W.l6;refine⟨_,rfl,.txt x rfl W.l6 ⟨_,rfl,?_⟩⟩;rcases W.or with⟨hl,hv⟩ |⟨hl,hn,hx⟩ |⟨hl,hn,hd⟩
   ·have qq:=q H (aA.refl _);unfold wv at qq;rw[hl,Zp rfl]at qq;rw[hl];exact Ao ⟨_,Zj,_,Zj,t,_,Zj,.inl ⟨_,Sum.inr x,ht,Zj,hv.symm⟩,qq⟩
   ·rw[hl];refine Ac ⟨_,Zj,x,Zj,W.as,qe,λH1 s1=>⟨_,Zj,?_⟩⟩;have qq:=q H1 s1;unfold wv at qq;rw[hl,Zq qc,hn,Zp rfl]at qq;rw[hn];exact Ao ⟨_,Zj,k,dk,_,Zj,s1 _ _ hk,(FX _ _ _),_,Zj,.mk k n.due r x Zj (KA.same s1) hx qq⟩
   ·rw[hl];refine Ac ⟨_,Zj,x,Zj,W.as,qe,λH1 s1=>⟨_,Zj,?_⟩⟩;have qq:=q H1 s1;unfold wv at qq;rw[hl,Zq qc,hn,Zq qc]at qq;rw[hn];have l0:=W.l0;exact Ac ⟨_,Zj,x,_,Zj,qe,intText_digits hd (λz=>by have:=At x;rw[z]at this;simp at this;omega) qe,qq⟩
def NoK (H:Hp) (Q:VK) (E:XK) (cB:Xd):Option Nat->Prop
 |some v=>∀H',aA H H'->Q (.int ((v:Nat):Int)) H'
 |none=>Uq H E cB
inductive spNo (C cB:Xd) (vs:Xc) (H:Hp) (Q:VK) (E:XK):Prop where
 |mk (k l t:Xd) (S:Xa) (o:Option Nat) (n:Nv) (r:Str) (cJ:vs=[.ref k,.ref l,.ref t]) (cP:aX C H k n.due r) (z_t:Rd H t (.dK n.kvs)) (cV:H l=some (.lst (S.map V.str))) (dr:S.length<=400) (d9:Ev n o [] S) (gi:NoK H Q E cB o)
noncomputable abbrev NNo:Xa:=["kind", "steps", "table", "held", "step", "last"]
theorem scNo:AN NNo ["kind", "steps", "table"] (defScope EI):=cS
theorem EJ (h:List Nat) (v:Nat):gM (Ay (h++[v])) (-1)=some (V.int (v:Int))/\(Ay (h++[v]))[(Ay (h++[v])).length - 1]?=some (V.int (v:Int))/\(Ay (h++[v])).dropLast=Ay h/\iu (Ay (h++[v])).length (-1)=some h.length/\∀u:V,(Ay (h++[v])).set h.length u=Ay h++[u]:=by
 have e:Ay (h++[v])=Ay h++[V.int (v:Int)]:=by unfold Ay;rw[Zu];rfl
 have el:(Ay h).length=h.length:=AJ _;rw[e]
 have e2:iu (Ay h++[V.int (v:Int)]).length (-1)=some h.length:=by
  rw[ZH,length_singleton,el];unfold iu;simp;omega
 refine⟨?_,?_,List.dropLast_concat,e2,λu=>?_⟩
 ·unfold gM;rw[e2];show(Ay h++[V.int (v:Int)])[h.length]?=_;rw[getElem?_append_right qe,el,Nat.sub_self];rfl
 ·rw[ZH,length_singleton,Nat.add_sub_cancel,getElem?_append_right (Zy _),Nat.sub_self];rfl
 ·rw[List.set_append_right _ _ qe,el,Nat.sub_self];rfl
theorem RM {g:Sg} (h:g.dQ):(if false=true then !dY (V.str g.s) [V.str "&", V.str "^", V.str "|"]else dY (V.str g.s) [V.str "&", V.str "^", V.str "|"])=true:=by
 cases g <;> first |exact h.elim |decide +kernel
theorem Vv {f:Xd} (F:aY K "number_of" "number_of" EI f fd) (T:Jr K C) (mJ:mg "JOINING" = some (.ref jn)) (hJ:∀H,aQ K H jn [.str "&", .str "^", .str "|"]) (GK:Mt P w K mg base C "known" 2 ["self"] (spKnown C)) (GJ:Fn P w K mg base "joined" 1 ["sign", "one", "other"] spJn) (GP:FnR P w K mg base "part_number" 4 ["kind", "part", "table"] (spPN C cB)):Af P w K mg base (eZ P w) 5 f fd ["kind", "steps", "table"] (spNo C cB):=by
 obtain⟨fJ,dJ,GJ,mJn,kJ,bJ⟩:=GJ.ex;obtain⟨fP,dP,GP,mP,kP,bP⟩:=GP.ex;obtain⟨fK,dK,GK,mK,bK⟩:=GK.ex;refine F.n scNo λvs H Q E h=>?_;obtain⟨k,l,t,S,o,n,r,rfl,KA,hT,hl,h400,G,q⟩:=h;refine⟨Zj,λad A outer s hr=>?_⟩;have ps:=QI (P:=P) (w:=w) (K:=K) (mg:=mg) (base:=base) (N:=NNo) (qual := "number_of") (scope:=defScope EI) (f:=f) (cd:=ad) (A:=A) (outer:=outer) (s:=s) (H:=H) (E:=E);have eP:aI 1 _:=hr.mono qc;have fV:aI 2 _:=hr.mono qc;have nd:=scNo.nd
 refine⟨_,AF (Ag (i:=3) nd Zj (Or.inl Zj) (BF AC))
  (AF (DP PassesOwn.leaving rfl (CJ (pv 1)) (AV (i:=4) nd rfl (Or.inl rfl))
   (AG (An (AM Aw (pv 4) AK (AS _))
    (AG (B6 (Ab Cc (E6 (pv 0) T.cl mK GK fV bK .nil AR) (Gp T5 (BG (Ar K rfl) (pv 3) (Gp Dp AD) (λ_ _=>rfl)))) (JM (pv 3) (Gp Dp AD) E7)))
    (AG (An (AM DB (pv 4) (Bg (v:=.ref jn) rfl mJ rfl) rfl)
     (AF (Ag (i:=5) nd rfl (Or.inl rfl) (Gx PySem.F.plainAttrs_list PySem.F.slot_list_pop PySem.F.type_list_pop JT (pv 3)))
     (AG (B6 (AQ GJ eP rfl mJn kJ bJ .nil AR (AA (pv 4) (AA (BG (Ar K rfl) (pv 3) (Gp Dp AD) (λ_ _=>rfl)) (AA (pv 5) AC)))) (JM (pv 3) (Gp Dp AD) E7))))
     (AG (BJ (FB PySem.F.plainAttrs_list PySem.F.slot_list_append PySem.F.type_list_append B8 (pv 3) (AA (AQ GP hr rfl mP kP bP .nil ps (AA (pv 0) (AA (pv 4) (AA (pv 2) AC)))) AC)))))))))
  (AG (AO (Gx PySem.F.plainAttrs_list PySem.F.slot_list_pop PySem.F.type_list_pop JT (pv 3))))),?_⟩
 refine⟨(by show 0<=sizeLine;decide),λhd hhd=>?_⟩;have s1:=AE (aA.refl _) hhd (o:=HO.lst []);have h1:=AB (H:=H) (a:=hd) (o:=HO.lst []);generalize upd H hd (HO.lst [])=H1 at s1 h1 ⊢;have nl:l≠hd:=AI hl hhd;refine⟨_,Zj,l,Zj,⟨_,aK.of (s1 _ _ hl)⟩,C9 (K:=K) (a:=l) (xs:=S.map V.str) (λi σ H2=>(∃v4 v5,σ=[some (.ref k),some (.ref l),some (.ref t),some (.ref hd),v4,v5])/\aA H H2/\∃h,H2 hd=some (.lst (Ay h))/\Ev n o h (S.drop i)/\h.length<=i) ⟨⟨_,_,Zj⟩,s1,[],h1,G,Nat.zero_le _⟩ (λi σ H2 _ e=>aK.of (e.2.1 _ _ hl)) ?_ ?_⟩
 ·rintro i x σ H2 hi ⟨⟨v4,v5,rfl⟩,s2,h,h2,ev,hle⟩;rw[ZE]at hi;obtain⟨y,hy,rfl⟩:=Z6.mp hi;obtain⟨ju,ey⟩:=Z8.mp hy;rw[List.drop_eq_getElem_cons ju,ey]at ev;have keep:∀ {H3:Hp} (o:HO),aA H H3->aA H (upd H3 hd o):=λ{H3} o a b u e=>by rw[AH (AI e hhd)];exact a b u e
  refine⟨_,rfl,rfl,_,rfl,?_⟩;cases ev with
  |no _ _ _ W e =>
   subst e;obtain⟨n1,n2,n3,n4⟩:=W.nb;rw[ZO (show ¬ V.str y=V.str "~" from λz=>n4 (V.str.inj z))];refine Ac ⟨_,Zj,jn,_,Zj,.inr (hJ _),Zj,Zj,_,Zj,?_⟩
   have ein:(if false=true then !dY (V.str y) [V.str "&", V.str "^", V.str "|"]else dY (V.str y) [V.str "&", V.str "^", V.str "|"])=false:=by
    rw[Zq qc];unfold dY;simp[i9,n1,n2,n3,Ne.symm n1,Ne.symm n2,Ne.symm n3]
   rw[ein];exact Ac ⟨_,Zj,.inl ⟨Zj,_,aK.of h2⟩,_,Zj,_,Zj,_,Zj,.no k t y n r Zj (KA.same s2) W (Uq.of s2 q)⟩
  |cons _ h' _ _ es er =>
   have a0:=es.len;cases es with
   |ng h0 a =>
    obtain⟨l1,l2,l3,l4,l5⟩:=EJ h0 a;rw[show decide (V.str "~" = V.str "~")=true by decide +kernel];have KA2:=KA.same s2;obtain⟨dxk,e1,e2,ah⟩:=KA2.ins;refine Ao ⟨_,Zj,k,dxk,_,Zj,ah,(FX _ _ _),k,n.due,r,Zj,KA2,λH3 s3=>?_⟩;refine⟨_,Zj,_,Zj,hd,_,-1,.int (a:Int),Zj,Zj,aK.of (s3 _ _ h2),l1,_,Zj,_,_,Zj,Zj,?_⟩;refine⟨_,Zj,_,Zj,hd,_,-1,h0.length,Zj,Zj,s3 _ _ h2,l4,⟨_,_,Zj⟩,keep _ (s2.trans s3),h0++[kn n.due - (kn n.due&&&a)],?_,er,qe⟩;rw[AB,l5];show some (HO.lst (Ay h0++[V.int (Builtin.bitAnd ((A6 ((Ah n.due).map (·.1)):Nat):Int) (Builtin.bitNot (a:Int)))]))=_;rw[Hl,Mm];unfold Ay;rw[Zu];rfl
   |bn g hg h0 a b =>
    obtain⟨l1,l2,l3,l4,l5⟩:=EJ (h0++[a]) b;obtain⟨m1,m2,m3,m4,m5⟩:=EJ h0 a;rw[show decide (V.str g.s=V.str "~")=false by cases g <;> first |exact hg.elim |decide +kernel];refine Ac ⟨_,Zj,jn,_,Zj,.inr (hJ _),Zj,Zj,_,Zj,?_⟩;rw[RM hg];refine Ao ?_;refine⟨_,Zj,.inl ⟨Zj,_,aK.of h2⟩,hd,_,.int (b:Int),Zj,Zj,h2,l2,?_⟩;rw[l3];have h3:=AB (H:=H2) (a:=hd) (o:=HO.lst (Ay (h0++[a])));refine⟨_,Zj,_,Zj,_,Zj,hd,_,-1,.int (a:Int),Zj,Zj,aK.of h3,m1,_,Zj,g,a,b,Zj,hg,_,Zj,_,Zj,hd,_,-1,h0.length,Zj,Zj,h3,m4,⟨_,_,Zj⟩,keep _ (keep _ s2),h0++[g.f a b],?_,er,qe⟩;rw[AB,m5];unfold Ay;rw[Zu];rfl
   |wd _ W _ =>
    obtain⟨n1,n2,n3,n4⟩:=W.nb;rw[ZO (show ¬ V.str y=V.str "~" from λz=>n4 (V.str.inj z))];refine Ac ⟨_,Zj,jn,_,Zj,.inr (hJ _),Zj,Zj,_,Zj,?_⟩
    have ein:(if false=true then !dY (V.str y) [V.str "&", V.str "^", V.str "|"]else dY (V.str y) [V.str "&", V.str "^", V.str "|"])=false:=by
     rw[Zq qc];unfold dY;simp[i9,n1,n2,n3,Ne.symm n1,Ne.symm n2,Ne.symm n3]
    rw[ein];refine Ac ⟨_,Zj,.inl ⟨Zj,_,aK.of h2⟩,_,Zj,_,Zj,_,Zj,.mk k t y n r Zj (KA.same s2) (aA.rd s2 hT) W λH3 s3=>?_⟩;refine⟨hd,_,_,Zj,Zj,s3 _ _ h2,AL (by unfold Ay;rw[AJ];omega),⟨_,_,Zj⟩,keep _ (s2.trans s3),h++[wv n y],?_,er,qe⟩;rw[AB];unfold Ay;rw[Zu];rfl
 ·rintro σ H2 ⟨⟨v4,v5,rfl⟩,s2,h,h2,ev,_⟩;rw[AJ,List.drop_length]at ev;cases ev with
  |nil v e =>
   subst e;obtain⟨l1,l2,l3,l4,l5⟩:=EJ [] v;refine⟨_,Zj,.inl ⟨Zj,_,aK.of h2⟩,hd,_,.int (v:Int),Zj,Zj,h2,Zj,q _ λb u e=>?_⟩;rw[AH (AI e hhd)];exact s2 b u e
end
theorem N2 {lt:Bool}{w:List Nat} (h0:0<w.length) (h6:w.length<=6) (hu:w.all Ch=true):ja lt w:=by
 refine⟨h0,λk hk hkw x hx=>?_⟩
 suffices h:By x=true by unfold IN;rw[h];rfl
 have hl:x.length=k:=by rw[←At,hx,ZA];omega
 unfold By;rw[hl,hx,ZL (show 1<=k by omega),ZL (show k<=6 by omega)];refine List.all_eq_true.mpr λc hc=>List.all_eq_true.mp hu c (mem_of_mem_take hc)
noncomputable abbrev dg (m:Nat):List Nat:=(Nat.toDigits 10 m).map Char.toNat
theorem N3 {m:Nat} (h:¬ m<10):dg m=dg (m / 10)++dg (m % 10):=by
 have hm:m % 10<10:=Nat.mod_lt m qc;have t:Nat.toDigits 10 (m / 10)++Nat.toDigits 10 (m % 10)=Nat.toDigits 10 (10*(m / 10)+m % 10):=Nat.toDigits_append_toDigits qc qe hm;rw[Nat.div_add_mod]at t;show(Nat.toDigits 10 m).map Char.toNat=_;rw[←t,Zu]
theorem Hq {m:Nat} (h:m<10):dg m=[m+48]:=by
 show(Nat.toDigits 10 m).map Char.toNat=_;rw[Nat.toDigits_of_lt_base h];have:∀d:Nat,d<10->[(Nat.digitChar d)].map Char.toNat=[d+48]:=by decide
 exact this m h
theorem N4 (m:Nat) (h:0<m):∃c r,dg m=c::r/\c≠48:=by
 induction m using Nat.strongRecOn with
 |_ m ih =>
  by_cases h1:m<10
  ·exact⟨m+48,[],Hq h1,qe⟩
  ·obtain⟨c,r,e,hc⟩:=ih (m / 10) qe qe;exact⟨c,r++dg (m % 10),by rw[N3 h1,e];rfl,hc⟩
theorem M7 (m:Nat):(dg m).all CV=true:=by
 induction m using Nat.strongRecOn with
 |_ m ih =>
  by_cases h1:m<10
  ·rw[Hq h1];simp[CV];omega
  ·rw[N3 h1,all_append,ih (m / 10) qe,ih (m % 10) qe];rfl
theorem RP (l:List Nat) (k:Nat):digitsVal (l.take k)<=digitsVal l:=by
 have key:∀(r:List Nat) (a b:Nat),a<=b->a<=r.foldl (λacc c=>acc*10+(c - 48)) b:=λr=>by
  induction r with
  |nil=>exact λa b h=>h
  |cons c r ih=>exact λa b h=>ih a _ (by show a<=b*10+(c - 48);omega)
 unfold digitsVal
 conv=>rhs;rw[←List.take_append_drop k l,foldl_append]
 exact key _ _ _ (Zy _)
theorem Um {lt:Bool}{n:Nat} (h:n<1099511627776):ja lt (dg n):=by
 have aw:0<(dg n).length:=by
  by_cases h1:n<10
  ·rw[Hq h1];simp
  ·obtain⟨c,r,e,_⟩:=N4 n qe;rw[e];simp
 refine⟨aw,λk hk hkw x hx=>?_⟩;have be:x.cps.toList.all CV=true:=by rw[hx];exact List.all_eq_true.mpr λc hc=>List.all_eq_true.mp (M7 n) c (mem_of_mem_take hc)
 suffices h:Jx x=true by unfold IN;rw[h];cases By x <;> rfl
 unfold Jx;rw[be,Bool.true_and,Bool.or_eq_true,decide_eq_true_eq,Bool.and_eq_true,decide_eq_true_eq,Bool.not_eq_true',decide_eq_false_iff_not];rcases Nat.eq_zero_or_pos n with rfl |hp
 ·refine .inl (Jy ?_);rw[hx,Hq qc];have:k=1:=by rw[Hq qc]at hkw;simp at hkw;omega
  subst this;decide +kernel
 ·obtain⟨c,r,e,hc⟩:=N4 n hp;refine .inr ⟨?_,?_⟩
  ·rw[hx,e];cases k with
   |zero=>omega
   |succ k=>simpa using hc
  ·rw[hx];exact Nat.lt_of_le_of_lt (RP _ _) (by rw[show digitsVal (dg n)=n from W.KIN.val_back n];exact h)
structure Wd (n:Nv) (x:Str) (v:Nat):Prop where
 ok:WdOk n x
 pw:∀lt,BP x=false\/lt=true->ja lt x.cps.toList
 v:wv n x=v
 len:x.length<=13
theorem N5 {x:Str} (h:∀c∈x.cps.toList,c<97):BP x=false:=by
 unfold BP;cases e:x.cps.toList with
 |nil=>rfl
 |cons a r =>
  cases r with
  |cons b r=>rfl
  |nil =>
   have:=h a (by rw[e];exact ZG.mpr rfl);show CH a=false;unfold CH;rw[ZO qe];rfl
theorem N6 {n:Nv} (D:CT n.due) {p:Str×Nat} (hp:p∈n.due):Wd n p.1 p.2/\p.1.length<=6/\BP p.1=false:=by
 obtain⟨h1,h2,_⟩:=D.nm p hp;have h3:=h1;unfold By at h3;simp only[Bool.and_eq_true,decide_eq_true_eq]at h3;obtain⟨⟨l1,l6⟩,up⟩:=h3;have sl:=At p.1
 have hl:BP p.1=false:=N5 λc hc=>by
  have:=List.all_eq_true.mp up c hc;simp[Ch]at this;omega
 refine⟨⟨⟨h2,qe,qe,.inr (.inl ⟨hl,h1,Zr.mpr ⟨_,hp,Zj⟩⟩)⟩,λlt _=>N2 qe qe up,?_,qe⟩,l6,hl⟩;unfold wv;rw[hl,Zq qc,Zp h1];exact D5 D.nd hp
noncomputable abbrev Ez (n:Nat):Str:=Str.ofString (toString ((n:Nat):Int))
theorem N7 (n:Nat):(Ez n).cps.toList=dg n:=by
 show(Str.ofString (toString (Int.ofNat n))).cps.toList=_;rw[PyProof.Rows.text_ofNat]
theorem J1 {n:Nv}{v:Nat} (h:v<2 ^ 40):Wd n (Ez v) v/\BP (Ez v)=false:=by
 have e:=N7 v;have hd:=M7 v
 have pw:∀lt,ja lt (dg v):=λlt=>Um (n:=v) (by have e40:(2:Nat) ^ 40=1099511627776:=by decide
                                              omega)
 have sl:=At (Ez v)
 have hl:(dg v).length<=13:=by
  rw[AJ];exact toDigits_len_pow qc qc (Nat.lt_trans h qc)
 rw[e]at sl;have aw:=(pw true).ne
 have jQ:∀c∈(Ez v).cps.toList,48<=c/\c<=57:=λc hc=>by
  rw[e]at hc;have:=List.all_eq_true.mp hd c hc;simpa[CV]using this
 have hnl:BP (Ez v)=false:=N5 λc hc=>by have:=jQ c hc;omega
 have hnm:By (Ez v)=false:=by
  unfold By
  have:(Ez v).cps.toList.all Ch=false:=by
   cases e2:(Ez v).cps.toList with
   |nil=>rw[e2]at e;rw[←e]at aw;simp at aw
   |cons c r =>
    have:=jQ c (by rw[e2];exact ZI ..);simp[Ch];omega
  rw[this,Bool.and_false]
 refine⟨⟨⟨?_,qe,qe,.inr (.inr ⟨hnl,hnm,jQ⟩)⟩,λlt _=>by rw[e];exact pw lt,?_,qe⟩,hnl⟩
 ·rw[←Array.all_toList,List.all_eq_true];exact λc hc=>ZL (by have:=jQ c hc;omega)
 ·unfold wv;rw[hnl,Zq qc,hnm,Zq qc,e];exact W.KIN.val_back v
theorem Hr {n:Nv}{c:Nat} (hc:CH c=true) (h:Av n.kvs (Sum.inr ⟨#[c]⟩)=some (.int (n.tb ⟨#[c]⟩:Nat))):Wd n ⟨#[c]⟩ (n.tb ⟨#[c]⟩):=by
 have hl:BP ⟨#[c]⟩=true:=hc;have h2:97<=c/\c<=122:=by simpa[CH]using hc
 refine⟨⟨?_,(by show 0<1;decide),(by show 1<=200;decide),.inl ⟨hl,h⟩⟩,λlt hlt=>?_,?_,(by show 1<=13;decide)⟩
 ·rw[←Array.all_toList,List.all_eq_true];intro d hd;have:d=c:=by simpa using hd
  exact ZL qe
 ·rcases hlt with z |rfl
  ·rw[hl]at z;cases z
  ·refine⟨(by show 0<1;decide),λk hk hkw x hx=>?_⟩
   have:k=1:=by
    have:k<=1:=hkw;omega
   subst this
   have:BP x=true:=by
    unfold BP;rw[hx];exact hc
   unfold IN;rw[this];cases By x <;> cases Jx x <;> rfl
 ·unfold wv;rw[hl,Zp rfl]
end Mk
end
section
namespace Mk
open PySem L2 MK
noncomputable def ib (a:Int) (i:Nat):Bool:=if 0<=a then a.toNat.testBit i else !((Builtin.bitNot a).toNat.testBit i)
theorem Hs {a:Int} (h:0<=a) (i:Nat):ib a i=a.toNat.testBit i:=by unfold ib;rw[Zp h]
theorem Ht {a:Int} (h:¬ 0<=a) (i:Nat):ib a i=!((Builtin.bitNot a).toNat.testBit i):=by unfold ib;rw[Zq h]
theorem B2 (n i:Nat):ib (n:Int) i=n.testBit i:=by rw[Hs qe,Int.toNat_natCast]
theorem D8 (a:Int) (i:Nat):ib (Builtin.bitNot a) i=!ib a i:=by
 by_cases h:0<=a
 ·have h2:¬ 0<=Builtin.bitNot a:=by unfold Builtin.bitNot;omega
  rw[Ht h2,Hs h,PyProof.Rows.bitNot_bitNot]
 ·have h2:0<=Builtin.bitNot a:=by unfold Builtin.bitNot;omega
  rw[Hs h2,Ht h,Bool.not_not]
theorem Cf (a b:Int) (i:Nat):ib (Builtin.bitAnd a b) i=(ib a i&&ib b i):=by
 by_cases ha:0<=a <;> by_cases hb:0<=b
 ·rw[PyProof.Rows.bitAnd_pp ha hb,B2,Hs ha,Hs hb,Nat.testBit_and]
 ·rw[PyProof.Rows.bitAnd_pn ha hb,Hs ha,Ht hb]
  have e:a - ((a.toNat&&&(Builtin.bitNot b).toNat:Nat):Int)=((a.toNat - (a.toNat&&&(Builtin.bitNot b).toNat):Nat):Int):=by
   have:=Nat.and_le_left (n:=a.toNat) (m:=(Builtin.bitNot b).toNat);omega
  rw[e,B2,Gj]
 ·rw[PyProof.Rows.bitAnd_np ha hb,Ht ha,Hs hb]
  have e:b - ((b.toNat&&&(Builtin.bitNot a).toNat:Nat):Int)=((b.toNat - (b.toNat&&&(Builtin.bitNot a).toNat):Nat):Int):=by
   have:=Nat.and_le_left (n:=b.toNat) (m:=(Builtin.bitNot a).toNat);omega
  rw[e,B2,Gj,Bool.and_comm]
 ·rw[PyProof.Rows.bitAnd_nn ha hb,D8,B2,Ht ha,Ht hb,Nat.testBit_or,Bool.not_or]
theorem RS (a b:Int) (i:Nat):ib (Builtin.bitOr a b) i=(ib a i ||ib b i):=by
 unfold Builtin.bitOr;rw[D8,Cf,D8,D8];cases ib a i <;> cases ib b i <;> rfl
theorem J3 {a b:Int} (h:∀i,ib a i=ib b i):a=b:=by
 have jz:∀n:Nat,∃i,∀m,m<=n->m.testBit i=false:=λn=>⟨n,λm hm=>Nat.testBit_lt_two_pow (Nat.lt_of_le_of_lt hm n.lt_two_pow_self)⟩;by_cases ha:0<=a <;> by_cases hb:0<=b
 ·have:a.toNat=b.toNat:=Nat.eq_of_testBit_eq λi=>by rw[←Hs ha,←Hs hb];exact h i
  omega
 ·exfalso;obtain⟨i,hi⟩:=jz (a.toNat+(Builtin.bitNot b).toNat);have:=h i;rw[Hs ha,Ht hb,hi _ qe,hi _ qe]at this;cases this
 ·exfalso;obtain⟨i,hi⟩:=jz (b.toNat+(Builtin.bitNot a).toNat);have:=h i;rw[Ht ha,Hs hb,hi _ qe,hi _ qe]at this;cases this
 ·have:(Builtin.bitNot a).toNat=(Builtin.bitNot b).toNat:=Nat.eq_of_testBit_eq λi=>by
   have:=h i;rw[Ht ha,Ht hb]at this;cases e1:(Builtin.bitNot a).toNat.testBit i <;> cases e2:(Builtin.bitNot b).toNat.testBit i <;> rw[e1,e2]at this <;> first |rfl |cases this
  unfold Builtin.bitNot at this;omega
theorem EK (i:Nat):ib 0 i=false:=by
 have:=B2 0 i;rw[Nat.zero_testBit]at this;exact this
theorem J4 (a b:Int) (i:Nat):ib (Builtin.bitXor a b) i=(ib a i ^^ ib b i):=by
 have e1:=PyProof.Rows.bitAnd_not a b;have e2:=PyProof.Rows.bitAnd_not b a;rw[PyProof.Rows.bitAnd_comm b a]at e2
 have e3:Builtin.bitAnd (Builtin.bitAnd a (Builtin.bitNot b)) (Builtin.bitAnd b (Builtin.bitNot a))=0:=J3 λi=>by
  rw[Cf,Cf,Cf,D8,D8,EK];cases ib a i <;> cases ib b i <;> rfl
 have e4:=PyProof.Rows.bitOr_and (Builtin.bitAnd a (Builtin.bitNot b)) (Builtin.bitAnd b (Builtin.bitNot a))
 have e5:Builtin.bitXor a b=Builtin.bitOr (Builtin.bitAnd a (Builtin.bitNot b)) (Builtin.bitAnd b (Builtin.bitNot a)):=by
  have e6:Builtin.bitXor a b=Builtin.bitOr a b - Builtin.bitAnd a b:=rfl;have e7:=PyProof.Rows.bitOr_and a b;omega
 rw[e5,RS,Cf,Cf,D8,D8];cases ib a i <;> cases ib b i <;> rfl
theorem Vw (i:Nat):ib (-1) i=true:=by
 rw[Ht qc];show(!((Builtin.bitNot (-1)).toNat.testBit i))=true;rw[show(Builtin.bitNot (-1)).toNat=0 by decide,Nat.zero_testBit];rfl
theorem J5 (f:Nat->Bool):∀L,∃ch<2 ^ L,∀j,j<L->ch.testBit j=f j
 |0=>⟨0,qc,λj h=>absurd h qe⟩
 |L+1=>by
  obtain⟨ch,hc,h⟩:=J5 f L;cases e:f L with
  |false =>
   refine⟨ch,Nat.lt_trans hc (Nat.pow_lt_pow_right qc qe),λj hj=>?_⟩;by_cases hj2:j=L
   ·subst hj2;rw[e];exact Nat.testBit_lt_two_pow hc
   ·exact h j qe
  |true =>
   refine⟨2 ^ L+ch,by rw[Nat.pow_succ];omega,λj hj=>?_⟩;by_cases hj2:j=L
   ·subst hj2;rw[Nat.testBit_two_pow_add_eq,Nat.testBit_lt_two_pow hc,e];rfl
   ·rw[Nat.testBit_two_pow_add_gt qe];exact h j qe
end Mk
end
section
namespace L2
open PySem
theorem M8 {a:Xd}{xs:Xc}{g:TG}{tt:TT}{te:TE}{ix:List (Option Nat)}{R:List Key->Hp->Prop}{σ:St}{H1:Hp} (Pv:Nat->List Key->Hp->Prop) (h0:Pv 0 [] H1) (hl:∀i ys H,i<=xs.length->Pv i ys H->aK K H a xs) (hz:∀i ys H,Pv i ys H->ys.length<=1000)
  (hs:∀i x ys H,xs[i]?=some x->Pv i ys H->g x (Bd ix σ) H λbM H2=>tt bM H2 λb H3=>if b=true then te bM H3 λy H4=>∃k,y=kV k/\Pv (i+1) (HK ys k) H4 else Pv (i+1) ys H3) (hd:∀ys H,Pv xs.length ys H->R ys H) :
  ∃W:Nat->Nat->List Key->Hp->Prop,(∃m,W 0 m [] H1)/\∀i m ys H,W i m ys H ->
   ((iH K a).stop i H/\ys.length<=1000/\R ys H) \/
   ((iH K a).go i H/\∃N:List Key->Hp->Prop,(∀bZ H',N bZ H'->bZ.length<=1000/\∃m',m'<m/\W (i+1) m' bZ H') /\
    ∀x H',(iH K a).gE i H x H'->g x (Bd ix σ) H' λbM H2=>tt bM H2 λb H3=>if b=true then te bM H3 λy H4=>∃k,y=kV k/\N (HK ys k) H4 else N ys H3):=by
 refine⟨λi m ys H=>m=xs.length - i/\i<=xs.length/\Pv i ys H,⟨_,Zj,Nat.zero_le _,h0⟩,?_⟩;rintro i m ys H ⟨rfl,hi,hp⟩;by_cases hlt:i<xs.length
 ·have hx:xs[i]?=some xs[i]:=Z7 hlt;refine .inr ⟨⟨xs,xs[i],hl i ys H hi hp,hx⟩,Pv (i+1),λbZ H' q=>⟨hz _ bZ H' q,xs.length - (i+1),qe,Zj,hlt,q⟩,?_⟩;rintro x H' ⟨rfl,hy⟩
  have ex:x=xs[i]:=by
   have:=hy xs (hl i ys H' hi hp);rw[hx]at this;exact(Option.some.inj this).symm
  subst ex;exact hs i xs[i] ys H' hx hp
 ·have e:i=xs.length:=by omega
  subst e;exact .inl ⟨⟨xs,hl _ ys H hi hp,Zy _⟩,hz _ ys H hp,hd ys H hp⟩
section
variable {X:Cx}{scope:Scope}{iter kx vx:Expr}{ifs:List Expr}{wi:TI}{tt:TT}{tk te:TE}{pos:Pos}{x y:Str}{px py pt:Pos}{kt:Nat}
theorem Pc (Nc:Xa) (fQ:List (Option Nat)) (hf:GG X.env.scope scope X.N (x::y::Nc) (none::none::fQ)=true) (gW:(x::y::Nc).Nodup) (hx:scope.names.lookup x=some .local) (hy:scope.names.lookup y=some .local) (hc:X.calm=true) (hi:PI X (.Tuple [.Name x px,.Name y py] kt pt) iter wi)
  (ht:∀cl s H C fp pn,gU (AX X (x::y::Nc) scope cl s H C fp pn) ifs tt) (hk:∀cl s H C fp pn,PE (AX X (x::y::Nc) scope cl s H C fp pn) kx tk) (he:∀cl s H C fp pn,PE (AX X (x::y::Nc) scope cl s H C fp pn) vx te)
  (hs:∀x,foldedSetIterable iter X.env x=pure x:=by intro _;rfl) :
  PE X (.DictComp kx vx [⟨.Tuple [.Name x px,.Name y py] kt pt,iter,ifs,0⟩] scope pos) (λσ H Q=>MW wi (g2 X.K) tt tk te (none::none::fQ) (λys H'=>∀p,H' p=none->Q (.ref p) (upd H' p (.dK ys))) σ H) :=
 QX (aO.of hf) hc hi (λcl s H C fp pn=>KR (Bc (X:=AX X (x::y::Nc) scope cl s H C fp pn) hc (AY (AV (i:=0) gW rfl (.inl (Z5 hx)) (.inr (Z5 hx)))
  (AY (AV (i:=1) gW rfl (.inl (Z5 hy)) (.inr (Z5 hy))) BE)))) ht hk he hs
end
theorem M9 {a:Xd}{xs:Xc}{g:TG}{tt:TT}{tk te:TE}{ix:List (Option Nat)}{R:LK->Hp->Prop}{σ:St}{H1:Hp} (Pv:Nat->LK->Hp->Prop) (h0:Pv 0 [] H1) (hl:∀i ys H,i<=xs.length->Pv i ys H->aK K H a xs) (hz:∀i ys H,Pv i ys H->ys.length<=1000)
  (hs:∀i x ys H p,xs[i]?=some x->Pv i ys H->H p=none->g (.ref p) (Bd ix σ) (upd H p (.tup [.int i,x])) λbM H2=>tt bM H2 λb H3=>if b=true then tk bM H3 λyk H4=>te bM H4 λy H5=>∃k,yk=kV k/\Pv (i+1) (B4 ys k y) H5 else Pv (i+1) ys H3) (hd:∀ys H,Pv xs.length ys H->R ys H) :
  ∃W:Nat->Nat->LK->Hp->Prop,(∃m,W 0 m [] H1)/\∀i m ys H,W i m ys H ->
   ((kg K a).stop i H/\ys.length<=sizeLine/\R ys H) \/
   ((kg K a).go i H/\∃N:LK->Hp->Prop,(∀bZ H',N bZ H'->bZ.length<=sizeLine/\∃m',m'<m/\W (i+1) m' bZ H') /\
    ∀x H',(kg K a).gE i H x H'->g x (Bd ix σ) H' λbM H2=>tt bM H2 λb H3=>if b=true then tk bM H3 λyk H4=>te bM H4 λy H5=>∃k,yk=kV k/\N (B4 ys k y) H5 else N ys H3):=by
 refine⟨λi m ys H=>m=xs.length - i/\i<=xs.length/\Pv i ys H,⟨_,Zj,Nat.zero_le _,h0⟩,?_⟩;rintro i m ys H ⟨rfl,hi,hp⟩;by_cases hlt:i<xs.length
 ·have hx:xs[i]?=some xs[i]:=Z7 hlt;refine .inr ⟨⟨xs,xs[i],hl i ys H hi hp,hx⟩,Pv (i+1),λbZ H' q=>⟨Nat.le_of_lt (AL (hz _ bZ H' q)),xs.length - (i+1),qe,Zj,hlt,q⟩,?_⟩;rintro x H' ⟨p,y,hn,rfl,hy,rfl⟩
  have ex:y=xs[i]:=by
   have:=hy xs (hl i ys H hi hp);rw[hx]at this;exact(Option.some.inj this).symm
  subst ex;exact hs i xs[i] ys H p hx hp hn
 ·have e:i=xs.length:=by omega
  subst e;exact .inl ⟨⟨xs,hl _ ys H hi hp,Zy _⟩,Nat.le_of_lt (AL (hz _ ys H hp)),hd ys H hp⟩
end L2
namespace Mk
open PySem L2 MK PySem.NumText
theorem Vx:∀(l:Xa),l.Nodup->∀m:Xa,(∀x∈l,x∈m)->l.length<=m.length:=by
 intro l;induction l with
 |nil=>intro _ m _;exact Nat.zero_le _
 |cons y l ih =>
  intro nd m hm;obtain⟨n1,n2⟩:=Zs.mp nd;have hy:=hm y (ZI ..);have:=ih n2 (m.erase y) λx hx=>(List.mem_erase_of_ne (λe=>n1 (by rw[←e];exact hx))).mpr (hm x (ZR _ hx));rw[List.length_erase_of_mem hy]at this;have:0<m.length:=List.length_pos_of_mem hy;rw[length_cons];omega
theorem Vy {x:Str} (h:BP x=true):∃c,CH c=true/\x=⟨#[c]⟩:=by
 obtain⟨⟨cs⟩⟩:=x;unfold BP at h;split at h
 ·rename_i c e;refine⟨c,h,?_⟩;change cs=[c]at e;rw[e]
 ·cases h
theorem Vz {ms:Xa} (nd:ms.Nodup) (h:∀x∈ms,BP x=true):ms.length<=26:=by
 have:=Vx ms nd ((List.range 26).map λi=>(⟨#[97+i]⟩:Str)) λx hx=>by
  obtain⟨c,hc,e⟩:=Vy (h x hx);have h2:97<=c/\c<=122:=by simpa[CH]using hc
  refine Zr.mpr ⟨c - 97,mem_range.mpr qe,?_⟩;rw[e,show 97+(c - 97)=c by omega]
 simpa using this
structure kf (ns S:Xa):Prop where
 nd:ns.Nodup
 so:PyProof.Rows.sortedS ns=true
 mem:∀x,x∈ns ↔ (x∈S/\BP x=true)
section
variable {DC bd cM cR cT cB cN:Xd}
inductive spLi (vs:Xc) (H:Hp) (Q:VK) (_E:XK):Prop where
 |mk (l:Xd) (S:Xa) (cJ:vs=[.ref l]) (cP:H l=some (.lst (S.map V.str))) (cV:S.length<=400) (d9:∀x∈S,x.length<=200) (gi:∀p ns H',aA H H'->H' p=some (.lst (ns.map V.str))->kf ns S->Q (.ref p) H')
theorem Wv:AN ["steps"] ["steps"] (defScope Ep):=cS
theorem V0 {f:Xd} (F:aY K "letters_in" "letters_in" Ep f fd) (B:Bl mg) (GL:Fn P w K mg base "is_letter" 1 ["thing"] (spLet K)):Af P w K mg base aT 2 f fd ["steps"] spLi:=by
 obtain⟨fL,dL,GL,mL,kL,bL⟩:=GL.ex;refine F.m Wv λvs H Q E h=>?_;obtain⟨l,S,rfl,hl,h400,h200,q⟩:=h;refine⟨Zj,λad A outer s hr=>?_⟩;refine⟨_,AG (AO (AW (Jk Zj) Zj B.sorted Fz (AA (Oz [] [] qd qb qd Zj (CJ (pv 0)) (λ_ _ _ _ _ _=>FE (BB (AQ GL hr Zj mL kL bL .nil AR (AA (pv 0) AC)))) (λ_ _ _ _ _ _=>pv 0)) AC))),?_⟩;refine⟨_,Zj,l,Zj,⟨_,aK.of hl⟩,M8 (K:=K) (a:=l) (xs:=S.map V.str) (λi ys H2=>H2=H/\∃ms:Xa,ys=ms.map Sum.inr/\ms.Nodup/\(∀x,x∈ms ↔ x∈(S.take i).filter BP)/\ms.length<=((S.take i).filter BP).length) ⟨Zj,[],Zj,nodup_nil,λx=>by simp,Nat.zero_le _⟩ (λi ys H2 _ ⟨e,_⟩=>e ▸ aK.of hl) (λi ys H2 ⟨_,ms,e,_,_,a0⟩=>?_) ?_ ?_⟩
 ·rw[e,AJ];have h1:=ZS BP (S.take i);rw[ZA]at h1;omega
 ·rintro i v ys H2 hi ⟨rfl,ms,rfl,nd,hm,a0⟩;rw[ZE]at hi;obtain⟨y,hy,rfl⟩:=Z6.mp hi;have e1:(S.take (i+1)).filter BP=(S.take i).filter BP++[y].filter BP:=by rw[ZD,hy,Option.toList_some,List.filter_append]
  refine⟨_,rfl,.txt y rfl (h200 y (ZQ hy)) ⟨_,rfl,?_⟩⟩;cases hlt:BP y with
  |false =>
   have e2:[y].filter BP=[]:=by simp[hlt]
   rw[e2,Zt]at e1;exact Ac ⟨Zj,ms,Zj,nd,by rw[e1];exact hm,by rw[e1];exact a0⟩
  |true =>
   have e2:[y].filter BP=[y]:=by simp[hlt]
   rw[e2]at e1;refine Ao ⟨_,Zj,Sum.inr y,Zj,Zj,?_⟩;unfold HK;by_cases ff:(Sum.inr y:Key)∈ms.map Sum.inr
   ·rw[Zp ff]
    have hy2:y∈ms:=by
     obtain⟨z,hz,e⟩:=Zr.mp ff;cases e;exact hz
    refine⟨ms,Zj,nd,λx=>?_,?_⟩
    ·rw[e1,mem_append,ZG,hm x];exact⟨.inl,λz=>z.elim id λz=>z ▸ (hm y).mp hy2⟩
    ·rw[e1,ZH];omega
   ·rw[Zq ff];have hy2:y∉ ms:=λz=>ff (Zr.mpr ⟨_,z,rfl⟩);refine⟨y::ms,Zj,Zs.mpr ⟨hy2,nd⟩,λx=>?_,?_⟩
    ·rw[e1,mem_append,ZG,mem_cons,hm x];exact Or.comm
    ·rw[e1,ZH,length_cons,length_singleton];omega
 ·rintro ys H2 ⟨rfl,ms,rfl,nd,hm,a0⟩ p hp;rw[AJ,ZB]at hm a0;have h26:=Vz nd λx hx=>(mem_filter.mp ((hm x).mp hx)).2;refine⟨p,ms,Zj,AB,qe,λl2 ns iy bf hso=>?_⟩;have sp:=AE (aA.refl _) hp (o:=Jg P w p (ms.map Sum.inr));refine q l2 ns _ (AE sp iy) AB ⟨bf.nodup_iff.mpr nd,hso,λx=>?_⟩;rw[bf.mem_iff,hm x,mem_filter]
noncomputable def gA (k c i:Nat):Nat:=if c.testBit i then k else 0
noncomputable def fM (k c:Nat) (ns:Xa):LK:=ns.zipIdx.map λp=>((Sum.inr p.1:Key),V.int ((gA k c p.2:Nat):Int))
theorem RT (k c:Nat) (ns:Xa) (x:Str):fM k c (ns++[x])=fM k c ns++[((Sum.inr x:Key),V.int ((gA k c ns.length:Nat):Int))]:=by
 unfold fM;rw[List.zipIdx_append,Zu];simp
theorem Sz (k c:Nat) (ns:Xa):(fM k c ns).length=ns.length:=by
 unfold fM;rw[AJ,List.length_zipIdx]
theorem RU {k c:Nat}{ns:Xa}{x:Str} (h:x∉ ns):Av (fM k c ns) (Sum.inr x)=none:=by
 unfold Av;rw[Option.map_eq_none_iff,List.find?_eq_none];intro kv gz;obtain⟨p,hp,rfl⟩:=Zr.mp gz;intro z;have e:(Sum.inr p.1:Key)=Sum.inr x:=ZV z;cases e;exact h (List.fst_mem_of_mem_zipIdx hp)
theorem Uo {k c:Nat}{x:Str}:∀(ns:Xa) (s:Nat),x∈ns->Av ((ns.zipIdx s).map λp=>((Sum.inr p.1:Key),V.int ((gA k c p.2:Nat):Int))) (Sum.inr x)=some (.int ((gA k c (s+ns.idxOf x):Nat):Int)):=by
 intro ns;induction ns with
 |nil=>intro s h;cases h
 |cons y ns ih =>
  intro s h;rw[List.zipIdx_cons,map_cons];by_cases e:y=x
  ·subst e;rw[DD rfl,List.idxOf_cons_self];rfl
  ·have hx:x∈ns:=(mem_cons.mp h).resolve_left λz=>e z.symm;rw[DE (λz=>e (by injection z)),ih (s+1) hx,List.idxOf_cons,beq_false_of_ne e,cond_false,Nat.add_right_comm,Nat.add_assoc]
theorem Fe {k c:Nat}{x:Str}{ns:Xa} (h:x∈ns):Av (fM k c ns) (Sum.inr x)=some (.int ((gA k c (ns.idxOf x):Nat):Int)):=by
 have:=Uo (k:=k) (c:=c) ns 0 h
 rwa[Nat.zero_add]at this
inductive spEx (vs:Xc) (H:Hp) (Q:VK) (_E:XK):Prop where
 |mk (l:Xd) (ns:Xa) (k c:Nat) (cJ:vs=[.ref l,.int (k:Int),.int (c:Int)]) (cP:H l=some (.lst (ns.map V.str))) (cV:ns.Nodup) (dr:ns.length<=100) (d9:∀p H',H p=none->aA H H'->H' p=some (.dK (fM k c ns))->Q (.ref p) H')
noncomputable abbrev NEx:Xa:=["signs", "known", "choice"]
theorem Ww:AN NEx NEx (defScope C5):=cS
theorem V1 {f:Xd} (F:aY K "extreme_table" "extreme_table" C5 f fd) (B:Bl mg):Af P w K mg base aT 1 f fd NEx spEx:=by
 refine F.m Ww λvs H Q E h=>?_;obtain⟨l,ns,k,c,rfl,hl,nd,h100,q⟩:=h;refine⟨Zj,λad A outer s hr=>?_⟩
 refine⟨_,AG (AO (Pc ["known", "choice"] [some 1,some 2] qd qb qd qd Zj (NT Zj B.enum (AA (pv 0) AC)) (λ_ _ _ _ _ _=>Bu) (λ_ _ _ _ _ _=>pv 1)
  (λ_ _ _ _ _ _=>C8 (AM Aw (Ab Cc (Ab JN (pv 3) (pv 0)) AD) AD (AS _)) (pv 2) AD))),?_⟩
 refine⟨_,Zj,l,Zj,⟨_,aK.of hl⟩,M9 (K:=K) (a:=l) (xs:=ns.map V.str) (λi ys H2=>aA H H2/\ys=fM k c (ns.take i)) ⟨aA.refl _,Zj⟩ (λi ys H2 _ ⟨s2,_⟩=>aK.of (s2 _ _ hl)) (λi ys H2 ⟨_,e⟩=>?_) ?_ ?_⟩
 ·rw[e,Sz,ZA];omega
 ·rintro i v ys H2 p hi ⟨s2,rfl⟩ hp;rw[ZE]at hi;obtain⟨y,hy,rfl⟩:=Z6.mp hi;have s3:=AE (aA.refl _) hp (o:=HO.tup [.int i,V.str y]);have hlt:i<ns.length:=(Z8.mp hy).1
  have bz:y∉ ns.take i:=λz=>by
   obtain⟨j,hj,e⟩:=List.mem_take_iff_getElem.mp z;have e2:ns[i]=y:=(Z8.mp hy).2;exact(List.pairwise_iff_getElem.mp nd j i _ hlt qe) (e.trans e2.symm)
  refine⟨p,_,Zj,aQ.of AB,Zj,_,_,Zj,_,_,Zj,Zj,?_⟩;refine⟨_,Zj,_,Zj,_,Zj,_,_,Zj,Zj,qe,_,_,Zj,Zj,Zj,_,Zj,?_⟩
  have fin:∀u:Int,u=((gA k c i:Nat):Int)->∃kk:Key,V.str y=kV kk/\aA H (upd H2 p (.tup [.int i,V.str y]))/\B4 (fM k c (ns.take i)) kk (V.int u)=fM k c (ns.take (i+1)):=λu hu=>by
   refine⟨Sum.inr y,Zj,s2.trans s3,?_⟩;rw[Gz _ (RU bz),ZD,hy,Option.toList_some,RT,ZA,Nat.min_eq_left (Nat.le_of_lt hlt),hu]
  have eb:decide (V.int (Builtin.bitAnd ((c:Int) / 2 ^ ((i:Nat):Int).toNat) 1)=V.int 1)=c.testBit i:=by
   have:=Js c i
   rwa[Int.zero_add]at this
  refine Ba (λh=>?_) (λh=>?_)
  ·have hb:c.testBit i=true:=by rw[←eb];exact h
   exact⟨_,Zj,fin _ (by unfold gA;rw[Zp hb])⟩
  ·have hb:c.testBit i=false:=by rw[←eb];exact Bool.eq_false_iff.mpr h
   exact fin _ (by unfold gA;rw[Zq (by rw[hb];exact Bool.false_ne_true)];rfl)
 ·rintro ys H2 ⟨s2,rfl⟩ p hp;rw[AJ,ZB];exact q p _ (none_of s2 hp) (s2.trans (AE (aA.refl _) hp)) AB
end
section
variable {DC bd cM cR cT cB cN:Xd}
structure V2 (P:Program) (w:World) (K:FG) (mg:SV) (base:Heap) (DC bd cT:Xd):Prop where
 ex:∃f fd,Af P w K mg base (eZ P w) 6 f fd ["text", "lettered"] (spSt K DC bd cT)/\mg "steps_of" = some (.ref f)/\W.keepIn K (.ref f)=true/\∃ds,Binds K fd ["text", "lettered"] ds/\Vals [.bl true] ds
noncomputable def dM (due:Aa) (ns:Xa) (c:Nat):Nv:=⟨due,fM (kn due) c ns,λx=>gA (kn due) c (ns.idxOf x)⟩
theorem LX {a:Xd}{o:HO} (s:aA H H') (h:Rd H a o):Rd H' a o:=h.imp (s _ _) λ⟨u,h⟩=>⟨u,s _ _ h⟩
inductive AlG (cB:Xd) (due:Aa) (T U:Xa) (H:Hp) (Q:VK) (E:XK):Prop where
 |no (h:∀ns,kf ns (T++U)->∃v,Ev (dM due ns 0) (some v) [] T/\Ev (dM due ns 0) none [] U) (q:Uq H E cB)
 |go (A B:Xa->Nat->Nat) (h:∀ns,kf ns (T++U)->∀c,c<2 ^ ns.length->Ev (dM due ns c) (some (A ns c)) [] T/\Ev (dM due ns c) (some (B ns c)) [] U)
  (q0:∀ns H',aA H H'->kf ns (T++U)->(∀c,c<2 ^ ns.length->A ns c=B ns c)->Q .aP H') (q1:∀ns c p H',H p=none->aA H H'->kf ns (T++U)->c<2 ^ ns.length->A ns c≠B ns c->H' p=some (.dK (fM (kn due) c ns))->Q (.ref p) H')
inductive f9 (C cB bd cT:Xd) (vs:Xc) (H:Hp) (Q:VK) (E:XK):Prop where
 |mk (kp:Xd) (z y:Str) (T U:Xa) (due:Aa) (r:Str) (cJ:vs=[.ref kp,.str z,.str y]) (cP:aX C H kp due r) (cV:z.cps.all (· < 128)=true) (dr:z.length<=100) (d9:Rn true z (.ok T) 0 [] [] true) (y_2:y.cps.all (· < 128)=true) (y_3:y.length<=100) (y_4:Rn true y (.ok U) 0 [] [] true) (l4:T.length<=200/\U.length<=200) (sh:∀x∈T++U,x.length<=200) (jE:Rd H bd (.dK Bq)) (z_7:AlG cB due T U H Q E)
 |bad (kp:Xd) (z y:Str) (T:Xa) (e:Nat) (cJ:vs=[.ref kp,.str z,.str y]) (cV:z.cps.all (· < 128)=true) (dr:z.length<=100) (d9:Rn true z (.ok T) 0 [] [] true) (y_2:y.cps.all (· < 128)=true) (y_3:y.length<=100) (y_4:Rn true y (.bad e) 0 [] [] true) (gi:Rd H bd (.dK Bq)) (jE:kb H E cT (.int (e:Int)))
noncomputable abbrev NAl:Xa:=["kind", "one", "other", "steps", "others", "signs", "choice", "table"]
theorem scAl:AN NAl ["kind", "one", "other"] (defScope Jo):=cS
theorem V3 {f:Xd} (F:aY K "alike" "alike" Jo f fd) (B:Bl mg) (T':Jr K C) (SO:V2 P w K mg base DC bd cT) (GI:Fn P w K mg base "letters_in" 2 ["steps"] spLi) (GE:Fn P w K mg base "extreme_table" 1 NEx spEx) (GK:Mt P w K mg base C "known" 2 ["self"] (spKnown C)) (GN:FnR P w K mg base "number_of" 5 ["kind", "steps", "table"] (spNo C cB)):Af P w K mg base (eZ P w) 7 f fd ["kind", "one", "other"] (f9 C cB bd cT):=by
 obtain⟨fS,dS,GS,mS,kS,ds,bS,vS⟩:=SO.ex;obtain⟨fI,dI,GI,mI,kI,bI⟩:=GI.ex;obtain⟨fE,dE,GE,mE,kE,bE⟩:=GE.ex;obtain⟨fN,dN,GN,mN,kN,bN⟩:=GN.ex;obtain⟨fK,dK,GK,mK,bK⟩:=GK.ex;refine F.okX scAl (λvs H Q E h=>?_) (λad A outer s H vs Q E hr h=>?_)
 ·cases h with
  |mk kp z y T U due r e=>subst e;rfl
  |bad kp z y T a e=>subst e;rfl
 ·have eP:aI 1 _:=hr.mono qc;have fV:aI 2 _:=hr.mono qc;have hr5:aI 5 _:=hr.mono qc;have nd:=scAl.nd;have ps:=QI (P:=P) (w:=w) (K:=K) (mg:=mg) (base:=base) (N:=NAl) (qual := "alike") (scope:=defScope Jo) (f:=f) (cd:=ad) (A:=A) (outer:=outer) (s:=s) (H:=H) (E:=E)
  refine⟨_,AF (Ag (i:=3) nd Zj (Or.inl Zj) (AQ GS hr Zj mS kS bS vS ps (AA (pv 1) AC)))
   (AF (Ag (i:=4) nd rfl (Or.inl rfl) (AQ GS hr rfl mS kS bS vS ps (AA (pv 2) AC)))
   (AF (Ag (i:=5) nd rfl (Or.inl rfl) (AQ GI fV rfl mI kI bI .nil AR (AA (Ab Fl (pv 3) (pv 4)) AC)))
   (AF (DP PassesOwn.leaving rfl (B7 rfl B.range (AA (Ab Gs AD (AW (A8 K rfl) rfl B.len PySem.boot_len (AA (pv 5) AC))) AC)) (AV (i:=6) nd rfl (Or.inl rfl))
    (AF (Ag (i:=7) nd rfl (Or.inl rfl) (AQ GE eP rfl mE kE bE .nil AR (AA (pv 5) (AA (E6 (pv 0) T'.cl mK GK fV bK .nil AR) (AA (pv 6) AC)))))
    (AG (An (AM F9 (AQ GN hr5 rfl mN kN bN .nil ps (AA (pv 0) (AA (pv 3) (AA (pv 7) AC)))) (AQ GN hr5 rfl mN kN bN .nil ps (AA (pv 0) (AA (pv 4) (AA (pv 7) AC)))) (AS _)) (AG (AO (pv 7))) Ae))))
   (AG (AO Pf))))),?_⟩
  cases h with
  |bad kp z y T a e ha h100 RN hb y100 RY hB q =>
   subst e;exact⟨_,Zj,.mk z true (.ok T) Zj ha h100 RN hB λl H1 s1 hl=>⟨_,Zj,.mk y true (.bad a) Zj hb y100 RY (LX s1 hB) (q.of s1)⟩⟩
  |mk kp z y T U due r e KA ha h100 RN hb y100 RY l4 sh hB G =>
   subst e;refine⟨_,Zj,.mk z true (.ok T) Zj ha h100 RN hB λl H1 s1 hl=>⟨_,Zj,.mk y true (.ok U) Zj hb y100 RY (LX s1 hB) λm H2 s2 hm=>?_⟩⟩;have iD:=s1.trans s2;refine⟨_,Zj,_,Zj,l,m,_,_,Zj,Zj,s2 _ _ hl,hm,(by rw[AJ,AJ];exact Nat.le_of_lt (AL qe)),λp hp=>?_⟩;have s3:=AE (aA.refl _) hp (o:=HO.lst (T.map V.str++U.map V.str));refine .mk p (T++U) Zj (by rw[AB,Zu]) (by rw[ZH];omega) sh λsg ns H4 s4 g9 L=>?_;have s34:=s3.trans s4;have s14:=iD.trans s34;have hl4:=s34 _ _ (s2 _ _ hl);have hm4:=s34 _ _ hm;have h26:=Vz L.nd λx hx=>((L.mem x).mp hx).2;refine⟨_,Zj,sg,ns.map V.str,Zj,.inl (aK.of g9),_,_,Zj,Zj,⟨qe,by rw[AJ];omega,qc⟩,?_⟩;have hj:(1:Int)*2 ^ (((ns.map V.str).length:Nat):Int).toNat=((2 ^ ns.length:Nat):Int):=by rw[AJ,Int.toNat_natCast,Int.one_mul];push_cast;rfl
   have hn:((1:Int)*2 ^ (((ns.map V.str).length:Nat):Int).toNat).toNat=2 ^ ns.length:=by rw[hj,Int.toNat_natCast]
   have hM:2 ^ ns.length<=2 ^ 26:=Nat.pow_le_pow_right qc h26;have hM0:0<2 ^ ns.length:=Nat.pow_pos qc;refine⟨(1:Int)*2 ^ (((ns.map V.str).length:Nat):Int).toNat,rfl,(by rw[hj];omega),(by rw[hj];omega),?_⟩;obtain⟨dk,e1,e2,hk⟩:=KA.ins;cases G with
   |no h q =>
    obtain⟨v,ev1,ev2⟩:=h ns L;refine DA (lo:=0) (n:=((1:Int)*2 ^ (((ns.map V.str).length:Nat):Int).toNat).toNat) (λi σ H5=>i=0/\σ=[some (.ref kp),some (.str z),some (.str y),some (.ref l),some (.ref m),some (.ref sg),none,none]/\H5=H4) ⟨Zj,Zj,Zj⟩ ?_ ?_
    ·rintro i σ H5 hi ⟨rfl,rfl,rfl⟩;refine⟨_,Zj,_,Zj,kp,dk,_,Zj,s14 _ _ hk,(FX _ _ _),kp,due,r,Zj,KA.same s14,λH6 s6=>⟨_,Zj,.mk sg ns _ 0 Zj (s6 _ _ g9) L.nd qe λt H7 hn7 s7 ht=>?_⟩⟩;rw[Hl]at ht;have s47:=s6.trans s7;refine⟨_,Zj,_,Zj,_,Zj,.mk kp l t T (some v) (dM due ns 0) r Zj (KA.same (s14.trans s47)) (.inl ht) (s47 _ _ hl4) qe ev1 λH8 s8=>?_⟩;have s48:=s47.trans s8;exact⟨_,Zj,_,Zj,_,Zj,.mk kp m t U none (dM due ns 0) r Zj (KA.same (s14.trans s48)) (.inl (s8 _ _ ht)) (s48 _ _ hm4) qe ev2 (q.of (s14.trans s48))⟩
    ·rintro σ H5 ⟨e,_⟩;rw[hn]at e;omega
   |go A B h q0 q1 =>
    refine DA (lo:=0) (n:=((1:Int)*2 ^ (((ns.map V.str).length:Nat):Int).toNat).toNat) (λi σ H5=>(∃v6 v7,σ=[some (.ref kp),some (.str z),some (.str y),some (.ref l),some (.ref m),some (.ref sg),v6,v7])/\aA H4 H5/\∀c,c<i->A ns c=B ns c) ⟨⟨none,none,Zj⟩,aA.refl _,λc z=>absurd z (Nat.not_lt_zero _)⟩ ?_ ?_
    ·rintro i σ H5 hi ⟨⟨v6,v7,rfl⟩,s5,be⟩;rw[hn]at hi;obtain⟨ev1,ev2⟩:=h ns L i hi;have s15:=s14.trans s5;refine⟨_,Zj,_,Zj,kp,dk,_,Zj,s15 _ _ hk,(FX _ _ _),kp,due,r,Zj,KA.same s15,λH6 s6=>⟨_,Zj,.mk sg ns (A6 ((Ah due).map (·.1))) i ?_ (s6 _ _ (s5 _ _ g9)) L.nd qe λt H7 hn7 s7 ht=>?_⟩⟩
     ·show [V.ref sg,_,V.int (0+(i:Int))]=_;rw[Int.zero_add]
     rw[Hl]at ht;have s57:=s6.trans s7;refine⟨_,Zj,_,Zj,_,Zj,.mk kp l t T (some (A ns i)) (dM due ns i) r Zj (KA.same (s15.trans s57)) (.inl ht) (s57 _ _ (s5 _ _ hl4)) qe ev1 λH8 s8=>?_⟩;have s58:=s57.trans s8;refine⟨_,Zj,_,Zj,_,Zj,.mk kp m t U (some (B ns i)) (dM due ns i) r Zj (KA.same (s15.trans s58)) (.inl (s8 _ _ ht)) (s58 _ _ (s5 _ _ hm4)) qe ev2 λH9 s9=>?_⟩;refine⟨Zj,_,Zj,?_⟩;have s19:=s15.trans (s58.trans s9);by_cases e:A ns i=B ns i
     ·rw[ZL (show V.int ((A ns i:Nat):Int)=V.int ((B ns i:Nat):Int) by rw[e])];refine Ac ⟨⟨_,_,rfl⟩,s5.trans (s58.trans s9),λc hc=>?_⟩;rcases Nat.lt_or_ge c i with z |z
      ·exact be c z
      ·rw[show c=i by omega];exact e
     ·rw[ZO (show ¬ V.int ((A ns i:Nat):Int)=V.int ((B ns i:Nat):Int)from λz=>e (by injection z with z;exact Int.ofNat.inj z))];exact Ao ⟨_,Zj,q1 ns i t _ (none_of (s15.trans s6) hn7) s19 L hi e (s9 _ _ (s8 _ _ ht))⟩
    ·rintro σ H5 ⟨_,s5,be⟩;rw[hn]at be;exact q0 ns _ (s14.trans s5) L be
end
inductive LT
 |nm (x:Str)
 |no (n:Nat)
 |le (c:Nat)
 |ng (t:LT)
 |bn (g:Sg) (a b:LT)
noncomputable def LT.tr:LT->Tr
 | .nm x=>.wd x
 | .no n=>.wd (Ez n)
 | .le c=>.wd ⟨#[c]⟩
 | .ng t=>.ng t.tr
 | .bn g a b=>.bn g a.tr b.tr
noncomputable def LT.ht:LT->Nat
 | .nm _=>0
 | .no _=>0
 | .le _=>0
 | .ng t=>t.ht+1
 | .bn _ a b=>max a.ht b.ht+1
def LT.Ok (ws:Xa) (sg:List Nat):LT->Prop
 | .nm x=>x∈ws
 | .no n=>n<2 ^ 20
 | .le c=>c∈sg
 | .ng t=>t.Ok ws sg
 | .bn g a b=>g.dQ/\a.Ok ws sg/\b.Ok ws sg
def cL (H:Hp):V->LT->Prop
 |v,.nm x=>∃p,v=.ref p/\H p=some (.tup [.str "name", .str x])
 |v,.no n=>∃p,v=.ref p/\H p=some (.tup [.str "number", .int (n:Int)])
 |v,.le c=>∃p,v=.ref p/\H p=some (.tup [.str "letter", .str ⟨#[c]⟩])
 |v,.ng t=>∃p u,v=.ref p/\H p=some (.tup [.str "~", u])/\cL H u t
 |v,.bn g a b=>∃p u1 u2,v=.ref p/\H p=some (.tup [.str g.s,u1,u2])/\cL H u1 a/\cL H u2 b
theorem cL.aL (s:aN H H'):∀ {t:LT}{v:V},cL H v t->cL H' v t
 | .nm x,v,h=>by
  obtain⟨p,e,h⟩:=h;exact⟨p,e,s _ _ h⟩
 | .no n,v,h=>by
  obtain⟨p,e,h⟩:=h;exact⟨p,e,s _ _ h⟩
 | .le c,v,h=>by
  obtain⟨p,e,h⟩:=h;exact⟨p,e,s _ _ h⟩
 | .ng t,v,h=>by
  obtain⟨p,u,e,h,a⟩:=h;exact⟨p,u,e,s _ _ h,a.aL s⟩
 | .bn g a b,v,h=>by
  obtain⟨p,u1,u2,e,h,x,y⟩:=h;exact⟨p,u1,u2,e,s _ _ h,x.aL s,y.aL s⟩
theorem aG.tt {d:Xd}{x y:Int} (hd:H d=some (.lst [.int x,.int y])) (s:aG d H H'):aN H H':=λb xs e=>s.old _ _ e (NE e hd λz=>nomatch z)
theorem Ff {d wl:Xd}{x y:Int}{ws:Xa} (hd:H d=some (.lst [.int x,.int y])) (hw:H wl=some (.lst (ws.map V.str))) (h0:0<ws.length):wl≠d:=NE hw hd λz=>by
 cases ws with
 |nil=>exact absurd h0 qc
 |cons a r=>cases HO.lst.inj z
section
noncomputable abbrev Hu:Xa:=["_law_dice", "_law_words", "_law_signs", "_law_deep"]
inductive spTree (D:Nat) (vs:Xc) (H:Hp) (Q:VK) (_E:XK):Prop where
 |mk (d wl:Xd) (a b:Int) (ws:Xa) (sg:Str) (cJ:vs=[.ref d,.ref wl,.str sg,.int (D:Int)]) (cP:H d=some (.lst [.int a,.int b])) (cV:H wl=some (.lst (ws.map V.str))) (dr:0<ws.length) (d9:ws.length<=10) (z_s:sg.length<=10)
  (gi:∀v t H',aG d H H'->cL H' v t->t.Ok ws sg.cps.toList->t.ht<=D->Q v H')
inductive tNum (D:Dj) (σ:St) (H:Hp):Prop where
 |mk (d:Xd) (x y:Int) (e:σ[0]?=some (some (.ref d))) (hd:H d=some (.lst [.int x,.int y])) (k:∀(n:Nat) p H',aG d H H'->H' p=some (.tup [.str "number", .int (n:Int)])->n<2 ^ 20->D.rt (.ref p) H')
def Tf:Nat->Sp
 |0=>λ_ _ _ _=>False
 |D+1=>spTree D
noncomputable abbrev V4:Xa:=["_law_dice", "_law_words", "_law_signs", "_law_deep", "_law_kind", "_law_one"]
theorem scTree:AN V4 Hu (defScope FU):=cS
theorem V5 {X:Cx}{st:Stmt}{t t':TS} (h:PS X st t) (hw:∀D σ H,t' D σ H->t D σ H):PS X st t':=λaa s σ H D I k=>h aa s σ H D I (hw D σ H k)
theorem LY {f:Xd} (F:aY K "_law_tree" "_law_tree" FU f fd) (B:Bl mg) (GR:Fn P w K mg base "_law_roll" 2 ["_law_dice", "_law_many"] dj) (D:Nat) (G:Fn P w K mg base "_law_tree" (2+D) Hu (Tf D)):Af P w K mg base aT (3+D) f fd Hu (spTree D):=by
 obtain⟨fR,dR,GR,mR,kR,bR⟩:=GR.ex;obtain⟨fT,dT,GT,mT,kT,bT⟩:=G.ex;have e3:3+D=2+D+1:=by omega
 rw[e3];refine F.m scTree λvs H Q E h=>?_;obtain⟨d,wl,a,b,ws,sg,rfl,hd,hw,h0,iA,g9,q⟩:=h;refine⟨Zj,λad A outer s hr=>?_⟩;have fV:aI 2 _:=hr.mono qe;have nd:=scTree.nd
 refine⟨_,CM (Ag (i:=4) nd Zj (Or.inl Zj) (C8 (AM IT (pv 3) AD (AS _)) (AQ GR fV Zj mR kR bR .nil AR (AA (pv 0) (AA AD AC))) (AQ GR fV Zj mR kR bR .nil AR (AA (pv 0) (AA AD AC)))))
  (AF (An (AM IS (pv 4) AD (AS _)) (AG (AO (As (AA AK (AA (BG (Ar K rfl) (pv 1) (AQ GR fV rfl mR kR bR .nil AR (AA (pv 0) (AA (AW (A8 K rfl) rfl B.len PySem.boot_len (AA (pv 1) AC)) AC))) (λ_ _=>rfl)) AC))))) Ae)
  (CM (An (PW.pt (EN (AM Aw (pv 4) AD (AS _)) (Cw (PW.pt (Do (AM Aw (pv 4) AD (AS _)) (Ci (AM Aw (pv 2) AK (AS _)))))))) (AG (V5 (t':=tNum) (AO (As (AA AK (AA (BG (Ar K rfl) (BF (AA (AQ GR fV rfl mR kR bR .nil AR (AA (pv 0) (AA AD AC))) (AA (AQ GR fV rfl mR kR bR .nil AR (AA (pv 0) (AA (Ab Lm AD AD) AC))) (AA (AQ GR fV rfl mR kR bR .nil AR (AA (pv 0) (AA AD AC))) AC)))) (AQ GR fV rfl mR kR bR .nil AR (AA (pv 0) (AA AD AC))) (λ_ _=>rfl)) AC)))) ?numH)) Ae)
  (AF (An (AM Aw (pv 4) AD (AS _)) (AG (AO (As (AA AK (AA (BG JR (pv 2) (AQ GR fV rfl mR kR bR .nil AR (AA (pv 0) (AA (AW Az rfl B.len PySem.boot_len (AA (pv 2) AC)) AC))) (λ_ _=>rfl)) AC))))) Ae)
  (AF (An (AM Aw (pv 4) AD (AS _)) (AG (AO (As (AA AK (AA (AQ GT hr rfl mT kT bT .nil AR (AA (pv 0) (AA (pv 1) (AA (pv 2) (AA (Ab Gq (pv 3) AD) AC))))) AC))))) Ae)
  (AF (Ag (i:=5) nd rfl (Or.inl rfl) (AQ GT hr rfl mT kT bT .nil AR (AA (pv 0) (AA (pv 1) (AA (pv 2) (AA (Ab Gq (pv 3) AD) AC))))))
  (AG (AO (As (AA (BG JR AK (Ab Gq (pv 4) AD) (λ_ _=>rfl)) (AA (pv 5) (AA (AQ GT hr rfl mT kT bT .nil AR (AA (pv 0) (AA (pv 1) (AA (pv 2) (AA (Ab Gq (pv 3) AD) AC))))) AC))))))))))),?_⟩
 case numH =>
  rintro D σ H1 ⟨d,x1,y1,e0,eS,k⟩;refine⟨_,e0,d,x1,y1,9,Zj,eS,qc,qc,λn1 a2 b2 n10 n11=>?_⟩;have sA:=A3 (x':=a2) (y':=b2) eS;refine⟨_,e0,_,_,Zj,Zj,⟨qc,qc,qc⟩,d,a2,b2,_,Zj,AB,qc,qc,λn2 a3 b3 n20 n21=>?_⟩;have sB:=A3 (x':=a3) (y':=b3) (AB (H:=H1) (a:=d) (o:=.lst [.int a2,.int b2]));refine⟨_,e0,d,a3,b3,64,Zj,AB,qc,qc,λn3 a4 b4 n30 n31=>?_⟩;have sC:=A3 (x':=a4) (y':=b4) (AB (H:=upd H1 d (.lst [.int a2,.int b2])) (a:=d) (o:=.lst [.int a3,.int b3]));have s4:=(sA.trans sB).trans sC;have jS:=AB (H:=upd (upd H1 d (.lst [.int a2,.int b2])) d (.lst [.int a3,.int b3])) (a:=d) (o:=.lst [.int a4,.int b4]);generalize upd (upd (upd H1 d (.lst [.int a2,.int b2])) d (.lst [.int a3,.int b3])) d (.lst [.int a4,.int b4])=H4 at s4 jS ⊢;refine⟨eX,λp hp=>?_⟩;have hpd:p≠d:=Ne.symm (AI jS hp);have s5:=s4.step (AE (aA.refl _) hp (o:=HO.lst [V.int n1,V.int n2,V.int n3]));have jR:(upd H4 p (.lst [V.int n1,V.int n2,V.int n3])) d=some (.lst [.int a4,.int b4]):=by rw[AH (Ne.symm hpd)];exact jS
  have hp5:=AB (H:=H4) (a:=p) (o:=HO.lst [V.int n1,V.int n2,V.int n3]);generalize upd H4 p (.lst [V.int n1,V.int n2,V.int n3])=H5 at s5 jR hp5 ⊢;refine⟨_,e0,d,a4,b4,3,Zj,jR,qc,qc,λix a5 b5 ix0 ix1=>?_⟩;have sD:=A3 (x':=a5) (y':=b5) jR;have hp6:=sD.old _ _ hp5 hpd;obtain⟨v,hv,dZ⟩:=F4 (xs:=[V.int n1,V.int n2,V.int n3]) ix0 ix1;have e20:(2:Int) ^ (20:Int).toNat=1048576:=by decide
  have n21':n2<1048576:=e20 ▸ n21
  obtain⟨n,rfl,hn⟩:∃n:Nat,v=V.int (n:Int)/\n<2 ^ 20:=by
   have hm:=ZQ dZ;simp only[mem_cons,not_mem_nil,or_false]at hm;have p20:(2:Nat) ^ 20=1048576:=by decide
   rcases hm with rfl |rfl |rfl
   ·exact⟨n1.toNat,by rw[Int.toNat_of_nonneg n10],qe⟩
   ·exact⟨n2.toNat,by rw[Int.toNat_of_nonneg n20],qe⟩
   ·exact⟨n3.toNat,by rw[Int.toNat_of_nonneg n30],qe⟩
  refine⟨p,_,ix,_,Zj,Zj,aK.of hp6,hv,eO,λp2 al=>?_⟩;exact k n p2 _ ((s5.trans sD).step (AE (aA.refl _) al)) AB hn
 refine⟨λσ H'=>∃kd:Int,σ=[some (.ref d),some (.ref wl),some (.str sg),some (.int (D:Int)),some (.int kd),none]/\0<=kd/\kd<8/\(D=0->kd<4)/\aG d H H',λR hR=>?_,?_⟩
 ·refine⟨_,Zj,_,_,Zj,Zj,_,Zj,?_⟩;refine Ba (λhp=>?_) (λhp=>?_)
  ·have hD:(0:Int)<(D:Int):=ZV hp;exact⟨_,Zj,d,a,b,8,Zj,hd,qc,qc,λkd a1 b1 k0 k1=>hR _ _ ⟨kd,Zj,k0,k1,λz=>absurd hD qe,A3 hd⟩⟩
  ·exact⟨_,Zj,d,a,b,4,Zj,hd,qc,qc,λkd a1 b1 k0 k1=>hR _ _ ⟨kd,Zj,k0,qe,λ_=>k1,A3 hd⟩⟩
 rintro σ H1 ⟨kd,rfl,k0,k8,kD,s1⟩;have jr:=s1.old _ _ hw (Ff hd hw h0);obtain⟨x1,y1,eS⟩:=s1.bQ;have hwl:(ws.map V.str).length=ws.length:=AJ _;refine⟨_,Zj,_,_,Zj,Zj,_,Zj,?_⟩;refine Ba (λ_=>?_) (λh2=>?_)
 ·-- a name
  refine⟨_,Zj,_,Zj,_,Zj,wl,_,Zj,.inl (aK.of jr),d,x1,y1,_,Zj,eS,qe,qe,λr2 a2 b2 r20 r21=>?_⟩;have sx:=A3 (x':=a2) (y':=b2) eS;have hw2:=sx.old _ _ jr (Ff eS jr h0);obtain⟨v,hv,dZ⟩:=F4 (xs:=ws.map V.str) r20 (by exact r21);rw[ZE]at dZ;obtain⟨y,hy,rfl⟩:=Z6.mp dZ;refine⟨wl,_,r2,_,Zj,Zj,aK.of hw2,hv,eO,λp hp=>?_⟩;exact q (.ref p) (.nm y) _ ((s1.trans sx).step (AE (aA.refl _) hp)) ⟨p,Zj,AB⟩ (ZQ hy) (Nat.zero_le _)
 have hk2:¬ kd<2:=λz=>h2 (ZL z);refine⟨λσ H'=>σ=[some (.ref d),some (.ref wl),some (.str sg),some (.int (D:Int)),some (.int kd),none]/\H'=H1/\kd≠2/\(kd=3->sg≠ ""),λR hR=>?_,?_⟩
 ·have num:tNum { nx:=R,rt:=Q } [some (.ref d),some (.ref wl),some (.str sg),some (.int (D:Int)),some (.int kd),none] H1:=⟨d,x1,y1,rfl,eS,λn p H' sx hp hn=>q (.ref p) (.no n) _ (s1.trans sx) ⟨p,rfl,hp⟩ hn (Nat.zero_le _)⟩;refine⟨_,Zj,Zj,_,Zj,?_⟩;by_cases e2:kd=2
  ·rw[ZL (show V.int kd=V.int 2 by rw[e2])];exact Ao (Ao num)
  rw[ZO (show ¬ V.int kd=V.int 2 from λz=>e2 (V.int.inj z))];refine Ac ⟨_,Zj,Zj,_,Zj,?_⟩;by_cases e3:kd=3
  ·rw[ZL (show V.int kd=V.int 3 by rw[e3])];refine Ao ⟨_,Zj,Zj,_,Zj,?_⟩;by_cases es:sg = ""
   ·rw[ZL (show V.str sg=V.str "" by rw[es])];exact Ao num
   ·rw[ZO (show ¬ V.str sg=V.str "" from λz=>es (V.str.inj z))];exact Ac (hR _ _ ⟨Zj,Zj,e2,λ_=>es⟩)
  ·rw[ZO (show ¬ V.int kd=V.int 3 from λz=>e3 (V.int.inj z))];exact Ac (Ac (hR _ _ ⟨Zj,Zj,e2,λz=>absurd z e3⟩))
 rintro σ H1' ⟨rfl,rfl,e2,hs3⟩;refine⟨_,Zj,Zj,_,Zj,?_⟩;by_cases e3:kd=3
 ·-- a letter
  rw[ZL (show V.int kd=V.int 3 by rw[e3])]
  have aw:0<sg.length:=by
   rcases Nat.eq_zero_or_pos sg.length with z |z
   ·exfalso;refine hs3 e3 (Jy ?_);have:=At sg;rw[z]at this;rw[List.length_eq_zero_iff.mp this];decide +kernel
   ·exact z
  refine Ao ⟨_,Zj,_,Zj,_,Zj,sg,Zj,Nat.le_of_lt (AL qe),d,x1,y1,_,Zj,eS,qe,qe,λr2 a2 b2 r20 r21=>?_⟩;have sx:=A3 (x':=a2) (y':=b2) eS;obtain⟨j,rfl⟩:∃j:Nat,r2=(j:Int):=⟨r2.toNat,qe⟩;have hj:j<sg.cps.toList.length:=by rw[At];omega
  obtain⟨c,dZ⟩:∃c,sg.cps.toList[j]?=some c:=⟨_,Z7 hj⟩;have hv:=BN dZ;refine⟨sg,(j:Int),c,Zj,Zj,Nat.le_of_lt (AL qe),hv,eO,λp hp=>?_⟩;exact q (.ref p) (.le c) _ ((s1.trans sx).step (AE (aA.refl _) hp)) ⟨p,Zj,AB⟩ (ZQ dZ) (Nat.zero_le _)
 rw[ZO (show ¬ V.int kd=V.int 3 from λz=>e3 (V.int.inj z))];refine Ac ?_
 obtain⟨D',rfl⟩:∃D',D=D'+1:=by
  cases D with
  |zero=>have:=kD rfl;omega
  |succ D'=>exact⟨D',rfl⟩
 have eD:((D'+1:Nat):Int) - 1=(D':Int):=by omega
 have step:∀ {H2:Hp}{vs:Xc}{Q:VK}{E:XK},aG d H H2->vs=[.ref d,.ref wl,.str sg,.int (((D'+1:Nat):Int) - 1)]->(∀v t H',aG d H2 H'->cL H' v t->t.Ok ws sg.cps.toList->t.ht<=D'->Q v H')->Tf (D'+1) vs H2 Q E:=λ{H2 vs Q E} sx e k=>by
  obtain⟨x2,y2,hd2⟩:=sx.bQ;exact⟨d,wl,x2,y2,ws,sg,by rw[e,eD],hd2,sx.old _ _ hw (Ff hd hw h0),h0,iA,g9,k⟩
 refine⟨_,Zj,Zj,_,Zj,?_⟩;by_cases e4:kd=4
 ·rw[ZL (show V.int kd=V.int 4 by rw[e4])];refine Ao ⟨_,Zj,_,Zj,_,Zj,_,Zj,_,_,Zj,Zj,step s1 Zj λv t H2 s2 lt ok ht=>⟨eO,λp hp=>?_⟩⟩;have sp:=AE (aA.refl _) hp (o:=HO.tup [V.str "~", v]);exact q (.ref p) (.ng t) _ ((s1.trans s2).step sp) ⟨p,v,Zj,AB,lt.aL (aN.of sp)⟩ ok (Nat.succ_le_succ ht)
 rw[ZO (show ¬ V.int kd=V.int 4 from λz=>e4 (V.int.inj z))];refine Ac ⟨_,Zj,_,Zj,_,Zj,_,Zj,_,_,Zj,Zj,step s1 Zj λv1 t1 H2 s2 g8 ok1 ht1=>?_⟩
 obtain⟨g,hg,hat⟩:∃g:Sg,g.dQ/\gM ("|^&" : Str).cps.toList (kd - 5)=some g.c:=by
  have:kd=5\/kd=6\/kd=7:=by omega
  rcases this with rfl |rfl |rfl
  ·exact⟨.or,True.intro,qb⟩
  ·exact⟨.xo,True.intro,qb⟩
  ·exact⟨.an,True.intro,qb⟩
 refine⟨_,Zj,_,_,Zj,Zj, "|^&", kd - 5,g.c,Zj,Zj,eX,hat,_,Zj,_,Zj,_,Zj,_,Zj,_,Zj,_,_,Zj,Zj,step (s1.trans s2) Zj λv2 t2 H3 s3 ir ok2 ht2=>⟨eX,λp hp=>?_⟩⟩;obtain⟨x2,y2,hd2⟩:=s2.bQ;rw[Jz];have sp:=AE (aA.refl _) hp (o:=HO.tup [V.str g.s,v1,v2]);exact q (.ref p) (.bn g t1 t2) _ (((s1.trans s2).trans s3).step sp) ⟨p,v1,v2,Zj,AB,(g8.aL (aG.tt hd2 s3)).aL (aN.of sp),ir.aL (aN.of sp)⟩ ⟨hg,ok1,ok2⟩ (by show max t1.ht t2.ht+1<=D'+1;omega)
theorem N8 {f:Xd} (F:aY K "_law_tree" "_law_tree" FU f fd) (B:Bl mg) (m:mg "_law_tree" = some (.ref f)) (b:Binds K fd Hu []) (GR:Fn P w K mg base "_law_roll" 2 ["_law_dice", "_law_many"] dj):∀D:Nat,Af P w K mg base aT (3+D) f fd Hu (spTree D)
 |0=>LY F B GR 0 ⟨⟨f,fd,F.ok (k:=1) scTree (λvs H Q E h=>h.elim) (λad A outer s H vs Q E hr h=>h.elim),m,F.kp,b⟩⟩
 |D+1=>LY F B GR (D+1) ⟨⟨f,fd,by have:=N8 F B m b GR D;rw[show 3+D=2+(D+1) by omega]at this;exact this,m,F.kp,b⟩⟩
end
end Mk
end
section
namespace L2
open PySem
theorem BI {X:Cx}{st:Stmt}{rest:List Stmt}{t u:TS} (h1:PSw X st t) (h2:eA X rest u):eA X (st::rest) (Vb t u):=⟨CM h1.h h2.h⟩
end L2
namespace Mk
open PySem L2 MK PySem.NumText
structure NW (x:Str):Prop where
 pw:ja true x.cps.toList
 as:x.cps.all (· < 128)=true
 l6:x.length<=6
 sm:∀c∈x.cps.toList,c<97
noncomputable def lb:Nat->Nat
 |0=>14
 |h+1=>2*lb h+5
theorem Tg:∀D,D<=5->lb D<=603:=by decide
theorem RV:∀D,14<=lb D
 |0=>Zy _
 |h+1=>by have:=RV h;show 14<=2*lb h+5;omega
theorem B3 (x y:Str):(x++y).cps.toList=x.cps.toList++y.cps.toList:=by
 show(x.cps++y.cps).toList=_;exact Array.toList_append
theorem BS (x y:Str):(x++y).length=x.length+y.length:=by rw[←At,B3,ZH,At,At]
theorem Cu {x y:Str} (h:x.cps.all (· < 128)=true) (h':y.cps.all (· < 128)=true):(x++y).cps.all (· < 128)=true:=by
 rw[←Array.all_toList]at h h' ⊢;rw[B3,all_append,h,h'];rfl
structure BlS (x:Str):Prop where
 bk:Bk x.cps.toList
 as:x.cps.all (· < 128)=true
 l1:x.length<=1
theorem Wx:BlS "" := ⟨.inl qb,qb,qb⟩
theorem Wy:BlS " " := ⟨.inr qb,qb,qb⟩
def NoL:LT->Prop
 | .nm _=>False
 | .no _=>False
 | .le _=>False
 |_=>True
noncomputable def RW:LT->Nat
 | .ng _=>3
 | .bn g _ _=>g.b - 1
 |_=>0
section
noncomputable abbrev J6:Xa:=["_law_dice", "_law_tree_here", "_law_rank"]
inductive spWrt (D:Nat) (vs:Xc) (H:Hp) (Q:VK) (_E:XK):Prop where
 |mk (d:Xd) (a b:Int) (v:V) (t:LT) (ws:Xa) (sg:List Nat) (r:Nat) (cJ:vs=[.ref d,v,.int (r:Int)]) (cP:H d=some (.lst [.int a,.int b])) (cV:cL H v t) (dr:t.Ok ws sg) (d9:t.ht<=D) (gi:r<=3) (jE:D<=5) (z_7:∀x∈ws,NW x) (z_s:∀c∈sg,CH c=true)
  (z_8:∀z H',aG d H H'->Wr true t.tr r z.cps.toList->z.cps.all (· < 128)=true->z.length<=lb D->Q (.str z) H')
def Up:Nat->Sp
 |0=>λ_ _ _ _=>False
 |D+1=>spWrt D
noncomputable abbrev Wz:Xa:=["_law_dice", "_law_tree_here", "_law_rank", "_law_blank", "_law_own", "_law_found"]
theorem scWrt:AN Wz J6 (defScope Cq):=cS
noncomputable abbrev S0:LK:=[((Sum.inr "|" : Key),.int 0),(Sum.inr "^", .int 1),(Sum.inr "&", .int 2),(Sum.inr "~", .int 3)]
theorem Ur {g:Sg} (h:g.dQ):Av (C2 [] S0) (Sum.inr g.s:Key)=some (.int ((g.b - 1:Nat):Int)):=by cases g <;> first |exact h.elim |decide +kernel
theorem own_no:Av (C2 [] S0) (Sum.inr "~" : Key)=some (.int ((3:Nat):Int)):=by decide +kernel
theorem N9 {f:Xd} (F:aY K "_law_written" "_law_written" Cq f fd) (B:Bl mg) (GR:Fn P w K mg base "_law_roll" 2 ["_law_dice", "_law_many"] dj) (D:Nat) (G:Fn P w K mg base "_law_written" (2+D) J6 (Up D)):Af P w K mg base aT (3+D) f fd J6 (spWrt D):=by
 obtain⟨fR,dR,GR,mR,kR,bR⟩:=GR.ex;obtain⟨fT,dT,GT,mT,kT,bT⟩:=G.ex;have e3:3+D=2+D+1:=by omega
 rw[e3];refine F.m scWrt λvs H Q E h=>?_;obtain⟨d,a,b,v,t,ws,sg,r,rfl,hd,lt,ok,ht,hr3,hD5,hW,hSg,q⟩:=h;refine⟨Zj,λad A outer s hr=>?_⟩;have hu:=Cm hr;have fV:aI 2 _:=hr.mono qe;have nd:=scWrt.nd;have hlb:=Tg D hD5
 refine⟨_,eA.h (BI (Cn (i:=3) nd Zj (Or.inl Zj) (Cg SW (.mk AK) (.mk (Bp IU Zj B.int HY (AA (Cj Aw (cE.h (Au GR fV Zj mR kR bR .nil AR (AT (.mk (pv 0)) (AT (.mk AD) BD)))) AD (AS _)) AC)))))
  (BI (C3 (.mk (AM DB (cE.h (B5 (Ai K rfl) (.mk (pv 1)) (.mk AD) (λ_ _=>rfl))) (As (AA AK (AA AK (AA AK AC)))) rfl)) (A5 (.mk (AO (cE.h (Cg BK (.mk (pv 3)) (.mk (Bp (aZ.or JO Jf) rfl B.str F0 (AA (cE.h (B5 (Ai K rfl) (.mk (pv 1)) (.mk AD) (λ_ _=>rfl))) AC)))))))) BH)
  (BI (Cn (i:=4) nd rfl (Or.inl rfl) (.mk (Bh hu (JX (BX AK AD (BX AK AD (BX AK AD (BX AK AD JW)))) rfl rfl qc qc) (cE.h (B5 (Ai K rfl) (.mk (pv 1)) (.mk AD) (λ_ _=>rfl))) (λ_ _=>rfl))))
  (BI (C3 (.mk (AM Aw (cE.h (B5 (Ai K rfl) (.mk (pv 1)) (.mk AD) (λ_ _=>rfl))) AK (AS _)))
   (A5 (Cn (i:=5) nd rfl (Or.inl rfl) (Cg BK (.mk AK) (Au GT hr rfl mT kT bT .nil AR (AT (.mk (pv 0)) (AT (B5 (Ai K rfl) (.mk (pv 1)) (.mk AD) (λ_ _=>rfl)) (AT (.mk AD) BD)))))))
   (A5 (Cn (i:=5) nd rfl (Or.inl rfl) (Cg BK (Cg BK (Cg BK (Au GT hr rfl mT kT bT .nil AR (AT (.mk (pv 0)) (AT (B5 (Ai K rfl) (.mk (pv 1)) (.mk AD) (λ_ _=>rfl)) (AT (.mk (pv 4)) BD)))) (.mk (pv 3))) (B5 (Ai K rfl) (.mk (pv 1)) (.mk AD) (λ_ _=>rfl))) (Au GT hr rfl mT kT bT .nil AR (AT (.mk (pv 0)) (AT (B5 (Ai K rfl) (.mk (pv 1)) (.mk AD) (λ_ _=>rfl)) (AT (Cg C0 (.mk (pv 4)) (.mk AD)) BD))))))))
  (A5 (.mk (AO (cE.h (QZ (.mk (PW.pt (EN (AM IS (pv 4) (pv 2) (AS _)) (Cw (AM Aw (cE.h (Au GR fV rfl mR kR bR .nil AR (AT (.mk (pv 0)) (AT (.mk AD) BD)))) AD (AS _)))))) (Cg BK (Cg BK (Cg BK (.mk (pv 3)) (.mk AK)) (.mk (pv 5))) (.mk AK)) (.mk (pv 5))))))))))),?_⟩
 refine⟨λσ H'=>∃bl:Str,σ=[some (.ref d),some v,some (.int (r:Int)),some (.str bl),none,none]/\BlS bl/\aG d H H',λR hR=>?_,?_⟩
 ·refine⟨_,Zj,d,a,b,6,Zj,hd,qc,qc,λk a1 b1 k0 k1=>⟨Zj,?_⟩⟩;refine .inr ⟨_,Zj, " ", _,Zj,Zj,?_⟩;cases decide (V.int k=V.int 0)with
  |true=>exact .inr ⟨rfl,hR _ _ ⟨" ", rfl,Wy,A3 hd⟩⟩
  |false=>exact .inl ⟨rfl,hR _ _ ⟨"", rfl,Wx,A3 hd⟩⟩
 rintro σ H1 ⟨bl,rfl,gj,s1⟩;have g8:=lt.aL (aG.tt hd s1);obtain⟨x1,y1,eS⟩:=s1.bQ
 have leaf:∀ {x:Str}{H2:Hp},aG d H H2->ja true x.cps.toList->x.cps.all (· < 128)=true->x.length<=13->(t.tr=.wd x)->bl.length+x.length<=sizeLine/\Q (.str (bl++x)) H2:=λ{x H2} s2 pw as l13 e=>by
  have l1:=gj.l1;have:=RV D;refine⟨Nat.le_of_lt (AL qe),q _ _ s2 ?_ (Cu gj.as as) (by rw[BS];omega)⟩;rw[e,B3];exact .wd x r _ gj.bk pw
 refine⟨λσ H'=>σ=[some (.ref d),some v,some (.int (r:Int)),some (.str bl),none,none]/\NoL t/\aG d H H',λR hR=>?_,?_⟩
 ·have sa:∀ {tp},H1 tp=none->aA H1 (upd H1 tp (.tup [V.str "name", V.str "number", V.str "letter"])):=λfq=>AE (aA.refl _) fq;cases t with
  |nm x =>
   obtain⟨p,rfl,hp⟩:=g8;have nw:=hW x ok;have l6:=nw.l6;refine⟨_,Zj,p,_,0,.str "name", Zj,Zj,aQ.of hp,Zj,eX,λtp fq=>⟨tp,_,Zj,.inr (aQ.of AB),Zj,Zj,_,Zj,?_⟩⟩;rw[show(if false=true then !dY (V.str "name") [V.str "name", V.str "number", V.str "letter"]else dY (V.str "name") [V.str "name", V.str "number", V.str "letter"])=true by decide +kernel];refine Ao ⟨_,Zj,_,Zj,p,_,1,.str x,Zj,Zj,aQ.of (sa fq _ _ hp),Zj,.inr ⟨x,Zj,?_⟩⟩;obtain⟨h1,h2⟩:=leaf (s1.step (sa fq)) nw.pw nw.as qe rfl;exact⟨bl,x,Zj,Zj,h1,h2⟩
  |no n =>
   obtain⟨p,rfl,hp⟩:=g8;have n40:n<2 ^ 40:=Nat.lt_trans ok qc;have fw:=(J1 (n:=⟨[],[],λ_=>0⟩) n40).1;refine⟨_,Zj,p,_,0,.str "number", Zj,Zj,aQ.of hp,Zj,eX,λtp fq=>⟨tp,_,Zj,.inr (aQ.of AB),Zj,Zj,_,Zj,?_⟩⟩;rw[show(if false=true then !dY (V.str "number") [V.str "name", V.str "number", V.str "letter"]else dY (V.str "number") [V.str "name", V.str "number", V.str "letter"])=true by decide +kernel];refine Ao ⟨_,Zj,_,Zj,p,_,1,.int (n:Int),Zj,Zj,aQ.of (sa fq _ _ hp),Zj,.inl ⟨(n:Int),Zj,JH n40,?_⟩⟩;obtain⟨h1,h2⟩:=leaf (x:=Ez n) (s1.step (sa fq)) (fw.pw true (.inr rfl)) fw.ok.as fw.len rfl;exact⟨bl,Ez n,Zj,Zj,h1,h2⟩
  |le c =>
   obtain⟨p,rfl,hp⟩:=g8;have lw:=Hr (n:=⟨[],[(Sum.inr ⟨#[c]⟩,.int ((0:Nat):Int))],λ_=>0⟩) (hSg c ok) (by simp[Av]);refine⟨_,Zj,p,_,0,.str "letter", Zj,Zj,aQ.of hp,Zj,eX,λtp fq=>⟨tp,_,Zj,.inr (aQ.of AB),Zj,Zj,_,Zj,?_⟩⟩;rw[show(if false=true then !dY (V.str "letter") [V.str "name", V.str "number", V.str "letter"]else dY (V.str "letter") [V.str "name", V.str "number", V.str "letter"])=true by decide +kernel];refine Ao ⟨_,Zj,_,Zj,p,_,1,.str ⟨#[c]⟩,Zj,Zj,aQ.of (sa fq _ _ hp),Zj,.inr ⟨⟨#[c]⟩,Zj,?_⟩⟩;obtain⟨h1,h2⟩:=leaf (x:=⟨#[c]⟩) (s1.step (sa fq)) (lw.pw true (.inr rfl)) lw.ok.as lw.len rfl;exact⟨bl,⟨#[c]⟩,Zj,Zj,h1,h2⟩
  |ng t' =>
   obtain⟨p,u,rfl,hp,lu⟩:=g8;refine⟨_,Zj,p,_,0,.str "~", Zj,Zj,aQ.of hp,Zj,eX,λtp fq=>⟨tp,_,Zj,.inr (aQ.of AB),Zj,Zj,_,Zj,?_⟩⟩;rw[show(if false=true then !dY (V.str "~") [V.str "name", V.str "number", V.str "letter"]else dY (V.str "~") [V.str "name", V.str "number", V.str "letter"])=false by decide +kernel];exact Ac (hR _ _ ⟨Zj,True.intro,s1.step (sa fq)⟩)
  |bn g t1 t2 =>
   obtain⟨p,u1,u2,rfl,hp,lu1,lu2⟩:=g8;refine⟨_,Zj,p,_,0,.str g.s,Zj,Zj,aQ.of hp,Zj,eX,λtp fq=>⟨tp,_,Zj,.inr (aQ.of AB),Zj,Zj,_,Zj,?_⟩⟩;rw[show(if false=true then !dY (V.str g.s) [V.str "name", V.str "number", V.str "letter"]else dY (V.str g.s) [V.str "name", V.str "number", V.str "letter"])=false by cases g <;> decide +kernel];exact Ac (hR _ _ ⟨Zj,True.intro,s1.step (sa fq)⟩)
 rintro σ H2 ⟨rfl,jo,s2⟩;have ir:=lt.aL (aG.tt hd s2);clear leaf g8 eS;refine⟨λσ H'=>σ=[some (.ref d),some v,some (.int (r:Int)),some (.str bl),some (.int (RW t:Int)),none]/\aG d H H',λR hR=>?_,?_⟩
 ·intro dp hdp;have sb:aA H2 (upd (upd H2 dp (.dK [])) dp (.dK (C2 [] S0))):=λb o e=>by rw[AH (AI e hdp),AH (AI e hdp)];exact e
  refine⟨AB,S0,rfl,qc,?_⟩;cases t with
  |nm x=>exact jo.elim
  |no n=>exact jo.elim
  |le c=>exact jo.elim
  |ng t' =>
   obtain⟨p,u,rfl,hp,lu⟩:=ir;exact⟨_,Zj,p,_,0,.str "~", Zj,Zj,aQ.of (sb _ _ hp),Zj,dp,.int ((3:Nat):Int),Zj,.inl ⟨_,Sum.inr "~", .inl AB,Zj,own_no.symm⟩,hR _ _ ⟨Zj,s2.step sb⟩⟩
  |bn g t1 t2 =>
   obtain⟨p,u1,u2,rfl,hp,lu1,lu2⟩:=ir;exact⟨_,Zj,p,_,0,.str g.s,Zj,Zj,aQ.of (sb _ _ hp),Zj,dp,.int ((g.b - 1:Nat):Int),Zj,.inl ⟨_,Sum.inr g.s,.inl AB,Zj,(Ur ok.1).symm⟩,hR _ _ ⟨Zj,s2.step sb⟩⟩
 rintro σ H3 ⟨rfl,s3⟩;have lt3:=lt.aL (aG.tt hd s3);obtain⟨x3,y3,iQ⟩:=s3.bQ;clear ir s2 s1;refine⟨λσ H'=>∃fz:Str,σ=[some (.ref d),some v,some (.int (r:Int)),some (.str bl),some (.int (RW t:Int)),some (.str fz)]/\aG d H H'/\(∀r',r'<=RW t->Wr true t.tr r' fz.cps.toList)/\fz.cps.all (· < 128)=true/\fz.length+3<=lb D,λR hR=>?_,?_⟩
 ·obtain⟨D',rfl⟩:∃D',D=D'+1:=by
   cases D with
   |zero=>cases t with
    |nm x=>exact jo.elim
    |no n=>exact jo.elim
    |le c=>exact jo.elim
    |ng t'=>exact absurd ht (by show ¬ t'.ht+1<=0;omega)
    |bn g t1 t2=>exact absurd ht (by show ¬ max t1.ht t2.ht+1<=0;omega)
   |succ D'=>exact⟨D',rfl⟩
  have hlb':=Tg D' qe;have elb:lb (D'+1)=2*lb D'+5:=rfl;have l1:=gj.l1;cases t with
  |nm x=>exact jo.elim
  |no n=>exact jo.elim
  |le c=>exact jo.elim
  |ng t' =>
   obtain⟨p,u,rfl,hp,lu⟩:=lt3;refine⟨_,Zj,p,_,0,.str "~", Zj,Zj,aQ.of hp,Zj,Zj,_,Zj,?_⟩;rw[show decide (V.str "~" = V.str "~")=true by decide +kernel];refine Ao ⟨_,Zj,_,Zj,p,_,1,u,Zj,Zj,aQ.of hp,Zj,d,x3,y3,u,t',ws,sg,3,Zj,iQ,lu,ok,Nat.le_of_succ_le_succ ht,qc,qe,hW,hSg,λz H4 s4 wz az lz=>?_⟩;refine⟨"~", z,Zj,Zj,Nat.le_of_lt (AL (by rw[show("~" : Str).length=1 by decide +kernel];omega)),hR _ _ ⟨"~" ++ z,Zj,s3.trans s4,λr' jO=>?_,Cu qb az,?_⟩⟩
   ·rw[B3,show("~" : Str).cps.toList=[126] by decide +kernel];exact .ng _ r' _ jO wz
   ·rw[BS,show("~" : Str).length=1 by decide +kernel];omega
  |bn g t1 t2 =>
   obtain⟨p,u1,u2,rfl,hp,lu1,lu2⟩:=lt3;have hg1:1<=g.b:=by have:=ok.1;cases g <;> first |exact this.elim |decide
   have hg3:g.b<=3:=by have:=ok.1;cases g <;> first |exact this.elim |decide
   have hm:t1.ht<=D'/\t2.ht<=D':=by
    have:max t1.ht t2.ht+1<=D'+1:=ht;omega
   refine⟨_,Zj,p,_,0,.str g.s,Zj,Zj,aQ.of hp,Zj,Zj,_,Zj,?_⟩;rw[show decide (V.str g.s=V.str "~")=false by have:=ok.1;cases g <;> first |exact this.elim |decide +kernel];refine Ac ⟨_,Zj,_,Zj,p,_,1,u1,Zj,Zj,aQ.of hp,Zj,_,Zj,d,x3,y3,u1,t1,ws,sg,g.b - 1,Zj,iQ,lu1,ok.2.1,hm.1,qe,qe,hW,hSg,λz1 H4 s4 wz1 az1 lz1=>?_⟩;have hp4:H4 p=_:=(aG.tt iQ s4) _ _ hp;have lu24:=lu2.aL (aG.tt iQ s4);obtain⟨x4,y4,jS⟩:=s4.bQ;have lg:g.s.length=1:=by cases g <;> decide +kernel
   have ag:g.s.cps.all (· < 128)=true:=by cases g <;> decide +kernel
   have cg:g.s.cps.toList=[g.c]:=by cases g <;> decide +kernel
   refine⟨_,Zj,z1,bl,Zj,Zj,Nat.le_of_lt (AL qe),_,Zj,p,_,0,.str g.s,Zj,Zj,aQ.of hp4,Zj,z1++bl,g.s,Zj,Zj,Nat.le_of_lt (AL (by rw[BS];omega)),?_⟩;refine⟨_,Zj,_,Zj,p,_,2,u2,Zj,Zj,aQ.of hp4,Zj,_,Zj,_,_,Zj,Zj,d,x4,y4,u2,t2,ws,sg,g.b,?_,jS,lu24,ok.2.2,hm.2,qe,qe,hW,hSg,λz2 H5 s5 wz2 az2 lz2=>?_⟩
   ·show [V.ref d,u2,V.int (((g.b - 1:Nat):Int)+1)]=[V.ref d,u2,V.int (g.b:Int)];rw[show((g.b - 1:Nat):Int)+1=(g.b:Int) by omega]
   refine⟨z1++bl++g.s,z2,Zj,Zj,Nat.le_of_lt (AL (by rw[BS,BS];omega)),hR _ _ ⟨_,Zj,(s3.trans s4).trans s5,λr' jO=>?_,Cu (Cu (Cu az1 gj.as) ag) az2,by rw[BS,BS,BS];omega⟩⟩
   have e:(z1++bl++g.s++z2).cps.toList=z1.cps.toList++(bl.cps.toList++(g.c::z2.cps.toList)):=by
    rw[B3,B3,B3,cg];simp
   rw[e];have hr2':r'<=g.b - 1:=jO;exact .bn g t1.tr t2.tr r' _ _ _ ok.1 qe gj.bk wz1 wz2
 rintro σ H4 ⟨fz,rfl,s4,wz,az,lz⟩;obtain⟨x4,y4,jS⟩:=s4.bQ;have l1:=gj.l1
 have brk:∀ {H5:Hp},aG d H H5->∃i j,V.str bl=.str i/\V.str "(" = .str j/\i.length+j.length<=sizeLine/\∃i2 j2,V.str (i++j)=.str i2/\V.str fz=.str j2/\i2.length+j2.length<=sizeLine/\∃i3 j3,V.str (i2++j2)=.str i3/\V.str ")" = .str j3/\i3.length+j3.length<=sizeLine/\Q (.str (i3++j3)) H5:=λ{H5} s5=>by
  have o1:("(" : Str).length=1:=by decide +kernel
  have c1:(")" : Str).length=1:=by decide +kernel
  refine⟨bl, "(", Zj,Zj,Nat.le_of_lt (AL qe),bl ++ "(", fz,Zj,Zj,Nat.le_of_lt (AL (by rw[BS];omega)),bl ++ "(" ++ fz, ")", Zj,Zj,Nat.le_of_lt (AL (by rw[BS,BS];omega)),q _ _ s5 ?_ (Cu (Cu (Cu gj.as qb) az) qb) (by rw[BS,BS,BS];omega)⟩
  have e:(bl ++ "(" ++ fz ++ ")" : Str).cps.toList=bl.cps.toList++(40::(fz.cps.toList++[41])):=by
   rw[B3,B3,B3,show("(" : Str).cps.toList=[40] by decide +kernel,show(")" : Str).cps.toList=[41] by decide +kernel];simp
  rw[e];exact .br _ r _ _ gj.bk (wz 0 (Nat.zero_le _))
 refine⟨_,Zj,_,Zj,_,_,Zj,Zj,_,Zj,?_⟩;refine Ba (λ_=>?_) (λh=>?_)
 ·refine Ao ?_;obtain⟨i,j,e1,e2,e3,i2,j2,e4,e5,e6,i3,j3,e7,e8,e9,ig⟩:=brk s4;exact⟨_,Zj,i,j,e1,e2,e3,_,Zj,i2,j2,e4,e5,e6,i3,j3,e7,e8,e9,ig⟩
 ·refine⟨_,Zj,d,x4,y4,6,Zj,jS,qc,qc,λk a1 b1 k0 k1=>⟨Zj,_,Zj,?_⟩⟩;have s5:=s4.trans (A3 (x':=a1) (y':=b1) jS);refine Ba (λ_=>?_) (λ_=>?_)
  ·obtain⟨i,j,e1,e2,e3,i2,j2,e4,e5,e6,i3,j3,e7,e8,e9,ig⟩:=brk s5;exact⟨_,Zj,i,j,e1,e2,e3,_,Zj,i2,j2,e4,e5,e6,i3,j3,e7,e8,e9,ig⟩
  ·have jO:r<=RW t:=by
    have:¬ ((RW t:Int)<(r:Int)):=λz=>h (ZL z);omega
   exact⟨_,Zj,q _ _ s5 (wz r jO) az qe⟩
theorem NA {f:Xd} (F:aY K "_law_written" "_law_written" Cq f fd) (B:Bl mg) (m:mg "_law_written" = some (.ref f)) (b:Binds K fd J6 []) (GR:Fn P w K mg base "_law_roll" 2 ["_law_dice", "_law_many"] dj):∀D:Nat,Af P w K mg base aT (3+D) f fd J6 (spWrt D)
 |0=>N9 F B GR 0 ⟨⟨f,fd,F.ok (k:=1) scWrt (λvs H Q E h=>h.elim) (λad A outer s H vs Q E hr h=>h.elim),m,F.kp,b⟩⟩
 |D+1=>N9 F B GR (D+1) ⟨⟨f,fd,by have:=NA F B m b GR D;rw[show 3+D=2+(D+1) by omega]at this;exact this,m,F.kp,b⟩⟩
end
section
noncomputable abbrev OA:Xa:=["_law_dice", "_law_words", "_law_signs"]
inductive spForm (vs:Xc) (H:Hp) (Q:VK) (_E:XK):Prop where
 |mk (d wl:Xd) (a b:Int) (ws:Xa) (sg:Str) (cJ:vs=[.ref d,.ref wl,.str sg]) (cP:H d=some (.lst [.int a,.int b])) (cV:H wl=some (.lst (ws.map V.str))) (dr:0<ws.length) (d9:ws.length<=10) (gi:∀x∈ws,NW x) (z_s:sg.length<=10) (z_s2:∀c∈sg.cps.toList,CH c=true)
  (jE:∀q z v t H',aG d H H'->H' q=some (.tup [.str z,v])->cL H' v t->t.Ok ws sg.cps.toList->t.ht<=3->Wr true t.tr 0 z.cps.toList->z.cps.all (· < 128)=true->z.length<=56->Q (.ref q) H')
noncomputable abbrev V6:Xa:=["_law_dice", "_law_words", "_law_signs", "_law_tree_here", "_law_text"]
theorem scForm:AN V6 OA (defScope D3):=cS
theorem S4 {f:Xd} (F:aY K "_law_formula" "_law_formula" D3 f fd) (B:Bl mg) (GT:Fn P w K mg base "_law_tree" 6 Hu (spTree 3)) (GW:Fn P w K mg base "_law_written" 6 J6 (spWrt 3)):Af P w K mg base aT 7 f fd OA spForm:=by
 obtain⟨fT,dT,GT,mT,kT,bT⟩:=GT.ex;obtain⟨fW,dW,GW,mW,kW,bW⟩:=GW.ex;refine F.m scForm λvs H Q E h=>?_;obtain⟨d,wl,a,b,ws,sg,rfl,hd,hw,h0,iA,hW,g9,hSg,q⟩:=h;refine⟨Zj,λad A outer s hr=>?_⟩;have nd:=scForm.nd
 refine⟨_,AF (Ag (i:=3) nd Zj (Or.inl Zj) (AQ GT hr Zj mT kT bT .nil AR (AA (pv 0) (AA (pv 1) (AA (pv 2) (AA AD AC))))))
  (AF (Ag (i:=4) nd rfl (Or.inl rfl) (AQ GW hr rfl mW kW bW .nil AR (AA (pv 0) (AA (pv 3) (AA AD AC)))))
  (CM (An (AM IT (AW Az rfl B.len PySem.boot_len (AA (pv 4) AC)) AD (AS _))
   (AF (Ag (i:=3) nd rfl (Or.inl rfl) (As (AA AK (AA (BG (Ar K rfl) (pv 1) AD (λ_ _=>rfl)) AC))))
   (AG (Ag (i:=4) nd rfl (Or.inl rfl) (BG (Ar K rfl) (pv 1) AD (λ_ _=>rfl))))) Ae)
  (AG (AO (As (AA (pv 4) (AA (pv 3) AC))))))),?_⟩
 refine⟨_,Zj,_,Zj,_,Zj,d,wl,a,b,ws,sg,Zj,hd,hw,h0,iA,g9,λv t H1 s1 g8 ok1 ht1=>?_⟩;obtain⟨x1,y1,eS⟩:=s1.bQ;refine⟨_,Zj,_,Zj,d,x1,y1,v,t,ws,sg.cps.toList,0,Zj,eS,g8,ok1,ht1,qc,qc,hW,hSg,λz H2 s2 wz az lz=>?_⟩;have ir:=g8.aL (aG.tt eS s2);have iD:=s1.trans s2;have hw2:=iD.old _ _ hw (Ff hd hw h0);have hl3:lb 3=147:=by decide
 refine⟨λσ H'=>∃(z:Str) (v:V) (t:LT),σ=[some (.ref d),some (.ref wl),some (.str sg),some v,some (.str z)]/\aG d H H'/\cL H' v t/\t.Ok ws sg.cps.toList/\t.ht<=3/\Wr true t.tr 0 z.cps.toList/\z.cps.all (· < 128)=true/\z.length<=56,λR hR=>?_,?_⟩
 ·refine⟨_,Zj,z,Zj,Nat.le_of_lt (AL qe),_,_,Zj,Zj,_,Zj,?_⟩;refine Ba (λ_=>?_) (λh=>?_)
  ·cases ws with
   |nil=>exact absurd h0 qc
   |cons x r =>
    have nw:=hW x (ZI ..);have l6:=nw.l6;refine⟨_,Zj,wl,_,0,.str x,Zj,Zj,aK.of hw2,BN (j:=0) Zj,eO,λp hp=>?_⟩;have sp:=AE (aA.refl _) hp (o:=HO.tup [V.str "name", V.str x]);refine⟨_,Zj,wl,_,0,.str x,Zj,Zj,aK.of (sp _ _ hw2),BN (j:=0) Zj,hR _ _ ⟨x,.ref p,.nm x,Zj,iD.step sp,⟨p,Zj,AB⟩,ZI ..,Nat.zero_le _,?_,nw.as,qe⟩⟩;have:=Wr.wd x 0 [] (.inl rfl) nw.pw;exact this
  ·exact hR _ _ ⟨z,v,t,Zj,iD,ir,ok1,ht1,wz,az,by
    have:¬ ((z.length:Int)>56):=λy=>h (ZL y)
    omega⟩
 rintro σ H3 ⟨z,v,t,rfl,s3,lt,ok,ht,wz,az,lz⟩;refine⟨_,Zj,_,Zj,eO,λp hp=>?_⟩;have sp:=AE (aA.refl _) hp (o:=HO.tup [V.str z,v]);exact q p z v t _ (s3.step sp) AB (lt.aL (aN.of sp)) ok ht wz az lz
noncomputable def Sg.fI:Sg->Int->Int->Int | .an,a,b=>Builtin.bitAnd a b | .xo,a,b=>Builtin.bitXor a b |_,a,b=>Builtin.bitOr a b
noncomputable def LT.cI (due:Aa) (f:Nat->Int):LT->Int
 | .nm x=>(look due x:Int)
 | .no m=>(m:Int)
 | .le c=>f c
 | .ng t=>(kn due:Int) - Builtin.bitAnd (kn due:Int) (t.cI due f)
 | .bn g a b=>g.fI (a.cI due f) (b.cI due f)
noncomputable abbrev Hv:Xa:=["_law_tree_here", "_law_numbers", "_law_known", "_law_letters_to"]
inductive spCome (D:Nat) (vs:Xc) (H:Hp) (Q:VK) (_E:XK):Prop where
 |mk (v:V) (nu le:Xd) (t:LT) (due:Aa) (kvs:LK) (f:Nat->Int) (sg:List Nat) (cJ:vs=[v,.ref nu,.int (kn due:Int),.ref le]) (cP:cL H v t) (cV:t.Ok (due.map (·.1)) sg) (z_l:Rd H le (.dK kvs)) (z_l2:∀c∈sg,Av kvs (Sum.inr ⟨#[c]⟩)=some (.int (f c))) (dr:t.ht<=D) (d9:Rd H nu (.dK (Ax due)))
  (jE:Q (.int (t.cI due f)) H)
def RX:Nat->Sp
 |0=>λ_ _ _ _=>False
 |D+1=>spCome D
noncomputable abbrev V7:Xa:=["_law_tree_here", "_law_numbers", "_law_known", "_law_letters_to", "_law_one", "_law_other"]
theorem scCome:AN V7 Hv (defScope FV):=cS
theorem C7 {s y:Str}{p:Xd}{xs:Xc}{σ:St}{D:Dj}{ta tb:TS} (h0:σ[0]?=some (some (.ref p))) (hp:H p=some (.tup (.str s::xs))) (aw:decide (V.str s=V.str y)=false) (k:tb D σ H):Tu (Pq (iZ rEq (iZ (T7 K) (IC 0) (tC (.int 0))) (tC (.str y)))) ta tb D σ H:=by
 refine⟨_,h0,p,_,0,.str s,Zj,Zj,aQ.of hp,BN (j:=0) Zj,Zj,_,Zj,?_⟩;rw[aw];exact Ac k
theorem LZ {f:Xd} (F:aY K "_law_come" "_law_come" FV f fd) (D:Nat) (G:Fn P w K mg base "_law_come" (1+D) Hv (RX D)):Af P w K mg base aT (2+D) f fd Hv (spCome D):=by
 obtain⟨fT,dT,GT,mT,kT,bT⟩:=G.ex;have e3:2+D=1+D+1:=by omega
 rw[e3];refine F.m scCome λvs H Q E h=>?_;obtain⟨v,nu,le,t,due,kvs,fv,sg,rfl,lt,ok,hle,g9,ht,hn,q⟩:=h;refine⟨Zj,λad A outer s hr=>?_⟩;have hu:=Cm hr;have nd:=scCome.nd
 refine⟨_,eA.h (CQ (C3 (.mk (AM Aw (cE.h (B5 (Ai K Zj) (.mk (pv 0)) (.mk AD) (λ_ _=>rfl))) AK (AS _))) (A5 (.mk (AO (Bh hu (pv 1) (cE.h (B5 (Ai K Zj) (.mk (pv 0)) (.mk AD) (λ_ _=>rfl))) (λ_ _=>rfl))))) BH)
  (CQ (C3 (.mk (AM Aw (cE.h (B5 (Ai K rfl) (.mk (pv 0)) (.mk AD) (λ_ _=>rfl))) AK (AS _))) (A5 (.mk (AO (cE.h (B5 (Ai K rfl) (.mk (pv 0)) (.mk AD) (λ_ _=>rfl)))))) BH)
  (CQ (C3 (.mk (AM Aw (cE.h (B5 (Ai K rfl) (.mk (pv 0)) (.mk AD) (λ_ _=>rfl))) AK (AS _))) (A5 (.mk (AO (Bh hu (pv 3) (cE.h (B5 (Ai K rfl) (.mk (pv 0)) (.mk AD) (λ_ _=>rfl))) (λ_ _=>rfl))))) BH)
  (CQ (Cn (i:=4) nd rfl (Or.inl rfl) (Au GT hr rfl mT kT bT .nil AR (AT (B5 (Ai K rfl) (.mk (pv 0)) (.mk AD) (λ_ _=>rfl)) (AT (.mk (pv 1)) (AT (.mk (pv 2)) (AT (.mk (pv 3)) BD))))))
  (CQ (C3 (.mk (AM Aw (cE.h (B5 (Ai K rfl) (.mk (pv 0)) (.mk AD) (λ_ _=>rfl))) AK (AS _))) (A5 (.mk (AO (cE.h (Cg Gq (.mk (pv 2)) (Cg Cc (.mk (pv 2)) (.mk (pv 4)))))))) BH)
  (CQ (Cn (i:=5) nd rfl (Or.inl rfl) (Au GT hr rfl mT kT bT .nil AR (AT (B5 (Ai K rfl) (.mk (pv 0)) (.mk AD) (λ_ _=>rfl)) (AT (.mk (pv 1)) (AT (.mk (pv 2)) (AT (.mk (pv 3)) BD))))))
  (CQ (C3 (.mk (AM Aw (cE.h (B5 (Ai K rfl) (.mk (pv 0)) (.mk AD) (λ_ _=>rfl))) AK (AS _))) (A5 (.mk (AO (cE.h (Cg Cc (.mk (pv 4)) (.mk (pv 5))))))) BH)
  (A5 (.mk (AO (cE.h (QZ (.mk (AM Aw (cE.h (B5 (Ai K rfl) (.mk (pv 0)) (.mk AD) (λ_ _=>rfl))) AK (AS _))) (Cg KG (.mk (pv 4)) (.mk (pv 5))) (Cg Gu (.mk (pv 4)) (.mk (pv 5))))))))))))))),?_⟩
 have rec_:∀ {t':LT}{u:V}{Q':VK},cL H u t'->t'.Ok (due.map (·.1)) sg->t'.ht+1<=D->Q' (.int (t'.cI due fv)) H->RX D [u,.ref nu,.int (kn due:Int),.ref le] H Q' E0:=λ{t' u Q'} l o h q'=>by
  cases D with
  |zero=>exact absurd h qe
  |succ D'=>exact⟨u,nu,le,t',due,kvs,fv,sg,rfl,l,o,hle,g9,qe,hn,q'⟩
 cases t with
 |nm x =>
  obtain⟨p,rfl,hp⟩:=lt;refine⟨_,Zj,p,_,0,.str "name", Zj,Zj,aQ.of hp,Zj,Zj,_,Zj,?_⟩;rw[show decide (V.str "name" = V.str "name")=true by decide +kernel];refine Ao ⟨_,Zj,_,Zj,p,_,1,.str x,Zj,Zj,aQ.of hp,Zj,nu,_,Zj,.inl ⟨_,Sum.inr x,hn,Zj,(CO ok).symm⟩,q⟩
 |le c =>
  obtain⟨p,rfl,hp⟩:=lt;have h2:=g9 c ok;refine C7 Zj hp qb ?_;refine C7 Zj hp qb ?_;refine⟨_,Zj,p,_,0,.str "letter", Zj,Zj,aQ.of hp,Zj,Zj,_,Zj,?_⟩;rw[show decide (V.str "letter" = V.str "letter")=true by decide +kernel];exact Ao ⟨_,Zj,_,Zj,p,_,1,.str ⟨#[c]⟩,Zj,Zj,aQ.of hp,Zj,le,_,Zj,.inl ⟨_,Sum.inr ⟨#[c]⟩,hle,Zj,h2.symm⟩,q⟩
 |no m =>
  obtain⟨p,rfl,hp⟩:=lt;refine C7 Zj hp qb ?_;refine⟨_,Zj,p,_,0,.str "number", Zj,Zj,aQ.of hp,Zj,Zj,_,Zj,?_⟩;rw[show decide (V.str "number" = V.str "number")=true by decide +kernel];exact Ao ⟨_,Zj,p,_,1,.int (m:Int),Zj,Zj,aQ.of hp,Zj,q⟩
 |ng t' =>
  obtain⟨p,u,rfl,hp,lu⟩:=lt;refine C7 Zj hp qb ?_;refine C7 Zj hp qb ?_;refine C7 Zj hp qb ?_;refine⟨_,Zj,p,_,1,u,Zj,Zj,aQ.of hp,Zj,_,Zj,_,Zj,_,Zj,rec_ lu ok ht ?_⟩;refine⟨_,Zj,p,_,0,.str "~", Zj,Zj,aQ.of hp,Zj,Zj,_,Zj,?_⟩;rw[show decide (V.str "~" = V.str "~")=true by decide +kernel];exact Ao ⟨_,Zj,_,Zj,_,Zj,_,_,Zj,Zj,_,_,Zj,Zj,q⟩
 |bn g t1 t2 =>
  obtain⟨p,u1,u2,rfl,hp,lu1,lu2⟩:=lt;obtain⟨hg,ok1,ok2⟩:=ok
  have hm:t1.ht+1<=D/\t2.ht+1<=D:=by
   have:max t1.ht t2.ht+1<=D:=ht;omega
  have ne:∀y:Str,y = "name" \/ y = "number" \/ y = "letter" \/ y = "~" -> decide (V.str g.s=V.str y)=false:=λy hy=>by
   rcases hy with rfl |rfl |rfl |rfl <;> cases g <;> first |exact hg.elim |decide +kernel
  refine C7 rfl hp (ne _ (.inl rfl)) ?_;refine C7 rfl hp (ne _ (.inr (.inl rfl))) ?_;refine C7 rfl hp (ne _ (.inr (.inr (.inl rfl)))) ?_;refine⟨_,rfl,p,_,1,u1,rfl,rfl,aQ.of hp,rfl,_,rfl,_,rfl,_,rfl,rec_ lu1 ok1 hm.1 ?_⟩;refine C7 rfl hp (ne _ (.inr (.inr (.inr rfl)))) ?_;refine⟨_,rfl,p,_,2,u2,rfl,rfl,aQ.of hp,rfl,_,rfl,_,rfl,_,rfl,rec_ lu2 ok2 hm.2 ?_⟩;refine⟨_,rfl,p,_,0,.str g.s,rfl,rfl,aQ.of hp,rfl,rfl,_,rfl,?_⟩;cases g with
  |br=>exact hg.elim
  |no=>exact hg.elim
  |an =>
   rw[show decide (V.str Sg.an.s=V.str "&")=true by decide +kernel];exact Ao ⟨_,Zj,_,Zj,_,_,Zj,Zj,q⟩
  |or =>
   rw[show decide (V.str Sg.or.s=V.str "&")=false by decide +kernel];refine Ac ⟨_,Zj,p,_,0,.str Sg.or.s,Zj,Zj,aQ.of hp,Zj,Zj,_,Zj,?_⟩;rw[show decide (V.str Sg.or.s=V.str "|")=true by decide +kernel];exact Ao ⟨_,Zj,_,Zj,_,_,Zj,Zj,q⟩
  |xo =>
   rw[show decide (V.str Sg.xo.s=V.str "&")=false by decide +kernel];refine Ac ⟨_,Zj,p,_,0,.str Sg.xo.s,Zj,Zj,aQ.of hp,Zj,Zj,_,Zj,?_⟩;rw[show decide (V.str Sg.xo.s=V.str "|")=false by decide +kernel];exact Ac ⟨_,Zj,_,Zj,_,_,Zj,Zj,q⟩
theorem OB {f:Xd} (F:aY K "_law_come" "_law_come" FV f fd) (m:mg "_law_come" = some (.ref f)) (b:Binds K fd Hv []):∀D:Nat,Af P w K mg base aT (2+D) f fd Hv (spCome D)
 |0=>LZ F 0 ⟨⟨f,fd,F.ok (k:=0) scCome (λvs H Q E h=>h.elim) (λad A outer s H vs Q E hr h=>h.elim),m,F.kp,b⟩⟩
 |D+1=>LZ F (D+1) ⟨⟨f,fd,by have:=OB F m b D;rw[show 2+D=1+(D+1) by omega]at this;exact this,m,F.kp,b⟩⟩
end
noncomputable def Sg.fB:Sg->Bool->Bool->Bool | .an,a,b=>a&&b | .xo,a,b=>a ^^ b |_,a,b=>a ||b
noncomputable def LT.cB (due:Aa) (i:Nat) (f:Nat->Bool):LT->Bool
 | .nm x=>(look due x).testBit i
 | .no m=>m.testBit i
 | .le c=>f c
 | .ng t=>(kn due).testBit i && !t.cB due i f
 | .bn g a b=>g.fB (a.cB due i f) (b.cB due i f)
theorem Sg.ib_fI (g:Sg) (a b:Int) (i:Nat):ib (g.fI a b) i=g.fB (ib a i) (ib b i):=by
 cases g
 all_goals first |exact Cf a b i |exact J4 a b i |exact RS a b i
theorem Us (k:Nat) (a:Int) (i:Nat):ib ((k:Int) - Builtin.bitAnd (k:Int) a) i=(k.testBit i && !ib a i):=by
 have h0:0<=Builtin.bitAnd (k:Int) a:=by
  by_cases ha:0<=a
  ·rw[PyProof.Rows.bitAnd_pp qe ha];omega
  ·rw[PyProof.Rows.bitAnd_pn qe ha];have:=Nat.and_le_left (n:=((k:Nat):Int).toNat) (m:=(Builtin.bitNot a).toNat);omega
 obtain⟨m,hm⟩:=Int.eq_ofNat_of_zero_le h0;have hb:∀i,m.testBit i=(k.testBit i&&ib a i):=λi=>by rw[←B2 m,←hm,Cf,B2]
 have hk:k&&&m=m:=Nat.eq_of_testBit_eq λi=>by
  rw[Nat.testBit_and,hb];cases k.testBit i <;> rfl
 have hle:m<=k:=by rw[←hk];exact Nat.and_le_left
 have e:(k:Int) - Builtin.bitAnd (k:Int) a=((k - (k&&&m):Nat):Int):=by
  rw[hm,hk];omega
 rw[e,B2,Gj,hb];cases k.testBit i <;> cases ib a i <;> rfl
theorem LT.eB (due:Aa) (f:Nat->Int) (i:Nat):∀t:LT,ib (t.cI due f) i=t.cB due i λc=>ib (f c) i
 | .nm x=>B2 _ _
 | .no m=>B2 _ _
 | .le c=>rfl
 | .ng t=>by
  show ib ((kn due:Int) - Builtin.bitAnd (kn due:Int) (t.cI due f)) i=((kn due).testBit i && !t.cB due i λc=>ib (f c) i);rw[Us,eB due f i t]
 | .bn g a b=>by
  show ib (g.fI (a.cI due f) (b.cI due f)) i=g.fB (a.cB due i λc=>ib (f c) i) (b.cB due i λc=>ib (f c) i);rw[Sg.ib_fI,eB due f i a,eB due f i b]
theorem LT.cB_ext {ws:Xa}{sg:List Nat}{i:Nat}{f g:Nat->Bool} (h:∀c∈sg,f c=g c):∀t:LT,t.Ok ws sg->t.cB due i f=t.cB due i g
 | .nm x,_=>rfl
 | .no m,_=>rfl
 | .le c,k=>h c k
 | .ng t,k=>by
  show((kn due).testBit i && !t.cB due i f)=((kn due).testBit i && !t.cB due i g);rw[cB_ext h t k]
 | .bn s a b,k=>by
  show s.fB (a.cB due i f) (b.cB due i f)=s.fB (a.cB due i g) (b.cB due i g);rw[cB_ext h a k.2.1,cB_ext h b k.2.2]
theorem S5 {n:Nv} (DO:CT n.due) {x:Str} (h:x∈n.due.map (·.1)):wv n x=look n.due x:=by
 obtain⟨p,hp,rfl⟩:=Zr.mp h;rw[(N6 DO hp).1.v];exact(D5 DO.nd hp).symm
theorem Ut {n:Nv}{v:Nat} (h:v<2 ^ 20):wv n (Ez v)=v:=(J1 (n:=n) (Nat.lt_trans h qc)).1.v
theorem CP {n:Nv} (DO:CT n.due) {sg:List Nat} (hs:∀c∈sg,CH c=true/\Av n.kvs (Sum.inr ⟨#[c]⟩)=some (.int (n.tb ⟨#[c]⟩:Nat))) (i:Nat):∀t:LT,t.Ok (n.due.map (·.1)) sg->(t.tr.cK n).testBit i=t.cB n.due i λc=>(n.tb ⟨#[c]⟩).testBit i
 | .nm x,k=>by
  show(wv n x).testBit i=_;rw[S5 DO k];rfl
 | .no m,k=>by
  show(wv n (Ez m)).testBit i=_;rw[Ut k];rfl
 | .le c,k=>by
  show(wv n ⟨#[c]⟩).testBit i=_;rw[(Hr (hs c k).1 (hs c k).2).v];rfl
 | .ng t,k=>by
  show(kn n.due - (kn n.due&&&t.tr.cK n)).testBit i=((kn n.due).testBit i && !t.cB n.due i λc=>(n.tb ⟨#[c]⟩).testBit i);rw[Gj,CP DO hs i t k]
 | .bn g a b,k=>by
  show(g.f (a.tr.cK n) (b.tr.cK n)).testBit i=g.fB (a.cB n.due i λc=>(n.tb ⟨#[c]⟩).testBit i) (b.cB n.due i λc=>(n.tb ⟨#[c]⟩).testBit i);rw[←CP DO hs i a k.2.1,←CP DO hs i b k.2.2];cases g
  all_goals first |exact Nat.testBit_and .. |exact Nat.testBit_xor .. |exact Nat.testBit_or ..
def Eqv (due:Aa) (t u:LT):Prop:=∀i (f:Nat->Bool),((kn due).testBit i=false->∀c,f c=false)->t.cB due i f=u.cB due i f
theorem Eqv.symm {t u:LT} (h:Eqv due t u):Eqv due u t:=λi f k=>(h i f k).symm
theorem Eqv.refl (due:Aa) (t:LT):Eqv due t t:=λ_ _ _=>rfl
theorem OC (k c j i:Nat):(gA k c j).testBit i=(c.testBit j&&k.testBit i):=by
 unfold gA;cases c.testBit j with
 |true=>rw[Zp rfl,Bool.true_and]
 |false=>rw[Zq Bool.false_ne_true,Nat.zero_testBit,Bool.false_and]
theorem OD (DO:CT due) {ns:Xa} (nd:ns.Nodup) {sg:List Nat} (hsm:∀c∈sg,CH c=true) (ff:∀c∈sg,(⟨#[c]⟩:Str)∈ns) {t u:LT} (kt:t.Ok (due.map (·.1)) sg) (ku:u.Ok (due.map (·.1)) sg):(∀c,c<2 ^ ns.length->t.tr.cK (dM due ns c)=u.tr.cK (dM due ns c)) ↔ Eqv due t u:=by
 have hs:∀c,∀d∈sg,CH d=true/\Av (dM due ns c).kvs (Sum.inr ⟨#[d]⟩)=some (.int ((dM due ns c).tb ⟨#[d]⟩:Nat)):=λc d hd=>⟨hsm d hd,Fe (ff d hd)⟩;constructor
 ·intro h i f hf;obtain⟨c,hc,hb⟩:=J5 (λj=>match ns[j]? with |some x=>(match x.cps.toList with |d::_=>f d | []=>false) |none=>false) ns.length;have e:=congrArg (λm=>m.testBit i) (h c hc);change (t.tr.cK (dM due ns c)).testBit i=(u.tr.cK (dM due ns c)).testBit i at e;rw[CP (n:=dM due ns c) DO (hs c) i t kt,CP (n:=dM due ns c) DO (hs c) i u ku]at e
  have same:∀d∈sg,((dM due ns c).tb ⟨#[d]⟩).testBit i=f d:=λd hd=>by
   show(gA (kn due) c (ns.idxOf ⟨#[d]⟩)).testBit i=_;rw[OC];cases hk:(kn due).testBit i with
   |false=>rw[Bool.and_false,hf hk d]
   |true =>
    have hlt:=List.idxOf_lt_length_iff.mpr (ff d hd);rw[Bool.and_true,hb _ hlt,Z7 hlt,List.getElem_idxOf hlt]
  rw[LT.cB_ext same t kt,LT.cB_ext same u ku]at e;exact e
 ·intro h c _;refine Nat.eq_of_testBit_eq λi=>?_;rw[CP (n:=dM due ns c) DO (hs c) i t kt,CP (n:=dM due ns c) DO (hs c) i u ku];refine h i _ λhk d=>?_;show(gA (kn due) c (ns.idxOf ⟨#[d]⟩)).testBit i=false;rw[OC,show(kn due).testBit i=false from hk,Bool.and_false]
theorem OE {n:Nv} (DO:CT n.due) {sg:List Nat} (hs:∀c∈sg,CH c=true/\Av n.kvs (Sum.inr ⟨#[c]⟩)=some (.int (n.tb ⟨#[c]⟩:Nat))) {t:LT} (k:t.Ok (n.due.map (·.1)) sg):t.cI n.due (λc=>((n.tb ⟨#[c]⟩:Nat):Int))=((t.tr.cK n:Nat):Int):=J3 λi=>by
 rw[LT.eB,B2,CP DO hs i t k];congr 1
noncomputable def fj (c d:Nat):Int:=if d=120 then -((c % 2:Nat):Int)else if d=121 then -((c / 2 % 2:Nat):Int)else -((c / 4:Nat):Int)
theorem NB {b:Nat} (h:b<2) (i:Nat):ib (-(b:Int)) i=b.testBit 0:=by
 rcases Nat.lt_or_ge b 1 with z |z
 ·rw[show b=0 by omega];exact(EK i).trans qc
 ·rw[show b=1 by omega];exact(Vw i).trans qc
theorem Uu {c:Nat} (hc:c<8) {d:Nat} (hd:d=120\/d=121\/d=122) (i:Nat):ib (fj c d) i=c.testBit (d - 120):=by
 have key:∀c:Fin 8,(c.val % 2).testBit 0=c.val.testBit 0/\(c.val / 2 % 2).testBit 0=c.val.testBit 1/\(c.val / 4).testBit 0=c.val.testBit 2:=by decide
 obtain⟨h1,h2,h3⟩:=key ⟨c,hc⟩;rcases hd with rfl |rfl |rfl
 ·show ib (-((c % 2:Nat):Int)) i=_;rw[NB qe];exact h1
 ·show ib (-((c / 2 % 2:Nat):Int)) i=_;rw[NB qe];exact h2
 ·show ib (-((c / 4:Nat):Int)) i=_;rw[NB qe];exact h3
noncomputable def gx (due:Aa) (t u:LT):Nat->Int
 |0=>0
 |k+1=>Builtin.bitOr (gx due t u k) (Builtin.bitAnd (Builtin.bitXor (t.cI due (fj k)) (u.cI due (fj k))) (kn due:Int))
theorem J7 (due:Aa) (t u:LT) (i:Nat):∀k,ib (gx due t u k) i=true ↔ ∃c,c<k/\t.cB due i (λd=>ib (fj c d) i)≠u.cB due i (λd=>ib (fj c d) i)/\(kn due).testBit i=true
 |0=>by
  show ib 0 i=true ↔ _;rw[EK];exact⟨λz=>absurd z Bool.false_ne_true,λ⟨c,h,_⟩=>absurd h (Nat.not_lt_zero _)⟩
 |k+1=>by
  show ib (Builtin.bitOr (gx due t u k) (Builtin.bitAnd (Builtin.bitXor (t.cI due (fj k)) (u.cI due (fj k))) (kn due:Int))) i=true ↔ _;rw[RS,Bool.or_eq_true,J7 due t u i k,Cf,J4,B2,LT.eB,LT.eB,Bool.and_eq_true];constructor
  ·rintro (⟨c,h,r⟩ |⟨h1,h2⟩)
   ·exact⟨c,qe,r⟩
   ·refine⟨k,Nat.lt_succ_self k,λe=>?_,h2⟩;rw[e,Bool.xor_self]at h1;cases h1
  ·rintro⟨c,h,h1,h2⟩;rcases Nat.lt_or_ge c k with z |z
   ·exact .inl ⟨c,z,h1,h2⟩
   ·have:c=k:=by omega
    subst this;refine .inr ⟨?_,h2⟩;revert h1;cases t.cB due i (λd=>ib (fj c d) i) <;> cases u.cB due i (λd=>ib (fj c d) i) <;> simp
theorem S6 {ws:Xa}{sg:List Nat} (g9:∀c∈sg,c=120\/c=121\/c=122) {t u:LT} (kt:t.Ok ws sg) (ku:u.Ok ws sg) {l r:Int} (hl:l=t.cI due λ_=>0) (hr:r=u.cI due λ_=>0):(gx due t u 8=0/\Builtin.bitXor l r=Builtin.bitAnd (Builtin.bitXor l r) (kn due:Int)) ↔ Eqv due t u:=by
 subst hl hr
 have z0:∀i,(λ_:Nat=>ib 0 i)=λ_=>false:=λi=>by
  funext c;exact EK i
 constructor
 ·rintro⟨h1,h2⟩ i f hf;cases hk:(kn due).testBit i with
  |true =>
   obtain⟨c,hc,hb⟩:=J5 (λj=>f (120+j)) 3
   have same:∀d∈sg,ib (fj c d) i=f d:=λd hd=>by
    have iQ:=g9 d hd;rw[Uu hc iQ,hb _ qe,show 120+(d - 120)=d by omega]
   have hn:¬ ib (gx due t u 8) i=true:=by
    rw[h1,EK];exact Bool.false_ne_true
   rw[←LT.cB_ext same t kt,←LT.cB_ext same u ku];exact Decidable.byContradiction λz=>hn ((J7 due t u i 8).mpr ⟨c,hc,z,hk⟩)
  |false =>
   have e:f=λ_=>false:=by
    funext c;exact hf hk c
   have h3:=congrArg (λm=>ib m i) h2;simp only[]at h3;rw[Cf,B2,hk,Bool.and_false,J4,LT.eB,LT.eB,z0]at h3;rw[e];cases e1:t.cB due i (λ_=>false) <;> cases e2:u.cB due i (λ_=>false) <;> rw[e1,e2]at h3 <;> first |rfl |cases h3
 ·intro h;constructor
  ·refine J3 λi=>?_;rw[EK];refine Bool.eq_false_iff.mpr λz=>?_;obtain⟨c,_,h1,h2⟩:=(J7 due t u i 8).mp z;exact h1 (h i _ λhk=>by rw[hk]at h2;cases h2)
  ·refine J3 λi=>?_;rw[Cf,B2,J4,LT.eB,LT.eB,z0];cases hk:(kn due).testBit i with
   |true=>rw[Bool.and_true]
   |false =>
    rw[h i (λ_=>false) λ_ _=>rfl,Bool.and_false,Bool.xor_self]
section
noncomputable abbrev RZ:Xa:=["_law_dice", "_law_tree_here"]
noncomputable abbrev V8:Xa:=["_law_dice", "_law_tree_here", "_law_kind"]
inductive spBoth (vs:Xc) (H:Hp) (Q:VK) (_E:XK):Prop where
 |mk (d:Xd) (a b:Int) (v:V) (t:LT) (ws:Xa) (sg:List Nat) (cJ:vs=[.ref d,v]) (cP:H d=some (.lst [.int a,.int b])) (cV:cL H v t) (dr:t.Ok ws sg) (d9:t.ht<=3) (z_x:120∈sg)
  (gi:∀v' t' H',aG d H H'->cL H' v' t'->t'.Ok ws sg->t'.ht<=5->Q v' H')
theorem scBoth:AN V8 RZ (defScope HW):=cS
theorem Ra {v:V}{t:LT}{ws:Xa}{sg:List Nat} (h:cL H v t) (k:t.Ok ws sg):(∃p s r,v=.ref p/\H p=some (.tup (.str s::r))/\dY (V.str s) [V.str "|", V.str "&", V.str "^"]=false/\decide (V.str s=V.str "|")=false)\/∃g a b p u1 u2,t=.bn g a b/\v=.ref p/\H p=some (.tup [.str g.s,u1,u2])/\cL H u1 a/\cL H u2 b/\dY (V.str g.s) [V.str "|", V.str "&", V.str "^"]=true:=by
 cases t with
 |nm x=>obtain⟨p,e,h⟩:=h;exact .inl ⟨p,_,_,e,h,qb,qb⟩
 |no x=>obtain⟨p,e,h⟩:=h;exact .inl ⟨p,_,_,e,h,qb,qb⟩
 |le x=>obtain⟨p,e,h⟩:=h;exact .inl ⟨p,_,_,e,h,qb,qb⟩
 |ng t=>obtain⟨p,u,e,h,_⟩:=h;exact .inl ⟨p,_,_,e,h,qb,qb⟩
 |bn g a b =>
  obtain⟨p,u1,u2,e,h,x,y⟩:=h;exact .inr ⟨g,a,b,p,u1,u2,Zj,e,h,x,y,by have:=k.1;cases g <;> first |exact this.elim |decide +kernel⟩
theorem cL.same (s:aA H H') {t:LT}{v:V} (h:cL H v t):cL H' v t:=h.aL (aN.of s)
theorem S7 {f:Xd} (F:aY K "_law_both" "_law_both" HW f fd) (GR:Fn P w K mg base "_law_roll" 2 ["_law_dice", "_law_many"] dj):Af P w K mg base aT 3 f fd RZ spBoth:=by
 obtain⟨fR,dR,GR,mR,kR,bR⟩:=GR.ex;refine F.m scBoth λvs H Q E h=>?_;obtain⟨d,a,b,v,t,ws,sg,rfl,hd,lt,ok,ht,hx,q⟩:=h;refine⟨Zj,λad A outer s hr=>?_⟩;have nd:=scBoth.nd
 refine⟨_,eA.h (BI (Cn (i:=2) nd Zj (Or.inl Zj) (Au GR hr Zj mR kR bR .nil AR (AT (.mk (pv 0)) (AT (.mk AD) BD))))
  (BI (C3 (.mk (PW.pt (Do (AM DB (cE.h (B5 (Ai K rfl) (.mk (pv 1)) (.mk AD) (λ_ _=>rfl))) (As (AA AK (AA AK (AA AK AC)))) rfl) (Ci (AM IS (pv 2) AD (AS _)))))) (A5 (.mk (AO (As (AA (cE.h (B5 (Ai K rfl) (.mk (pv 1)) (.mk AD) (λ_ _=>rfl))) (AA (cE.h (B5 (Ai K rfl) (.mk (pv 1)) (.mk AD) (λ_ _=>rfl))) (AA (cE.h (B5 (Ai K rfl) (.mk (pv 1)) (.mk AD) (λ_ _=>rfl))) AC))))))) BH)
  (BI (C3 (.mk (PW.pt (Do (AM Aw (cE.h (B5 (Ai K rfl) (.mk (pv 1)) (.mk AD) (λ_ _=>rfl))) AK (AS _)) (Ci (AM Aw (pv 2) AD (AS _)))))) (A5 (.mk (AO (As (AA AK (AA (As (AA AK (AA (cE.h (B5 (Ai K rfl) (.mk (pv 1)) (.mk AD) (λ_ _=>rfl))) (AA (cE.h (B5 (Ai K rfl) (.mk (pv 1)) (.mk AD) (λ_ _=>rfl))) AC)))) (AA (As (AA AK (AA (cE.h (B5 (Ai K rfl) (.mk (pv 1)) (.mk AD) (λ_ _=>rfl))) (AA (cE.h (B5 (Ai K rfl) (.mk (pv 1)) (.mk AD) (λ_ _=>rfl))) AC)))) AC))))))) BH)
  (A5 (.mk (AO (cE.h (QZ (.mk (AM Aw (pv 2) AD (AS _))) (.mk (As (AA AK (AA (pv 1) (AA (pv 1) AC))))) (.mk (As (AA AK (AA (pv 1) (AA (As (AA AK (AA (pv 1) (AA (As (AA AK (AA AK AC))) AC)))) AC))))))))))))),?_⟩
 refine⟨λσ H'=>∃k:Int,σ=[some (.ref d),some v,some (.int k)]/\aG d H H',λR hR=>?_,?_⟩
 ·exact⟨_,Zj,d,a,b,5,Zj,hd,qc,qc,λk a1 b1 k0 k1=>hR _ _ ⟨k,Zj,A3 hd⟩⟩
 rintro σ H1 ⟨k,rfl,s1⟩;have g8:=lt.aL (aG.tt hd s1);refine⟨λσ H'=>σ=[some (.ref d),some v,some (.int k)]/\aA H1 H',λR hR=>?_,?_⟩
 ·rcases Ra g8 ok with⟨p,tg,rs,rfl,hp,ff,_⟩ |⟨g,ta,tb,p,u1,u2,rfl,rfl,hp,l1,l2,ff⟩
  ·refine⟨_,Zj,p,_,0,.str tg,Zj,Zj,aQ.of hp,BN (j:=0) Zj,eX,λtp fq=>⟨tp,_,Zj,.inr (aQ.of AB),Zj,Zj,_,Zj,?_⟩⟩;rw[show(if false=true then !dY (V.str tg) [V.str "|", V.str "&", V.str "^"]else dY (V.str tg) [V.str "|", V.str "&", V.str "^"])=false from ff];exact Ac (Ac (hR _ _ ⟨Zj,AE (aA.refl _) fq⟩))
  ·refine⟨_,Zj,p,_,0,.str g.s,Zj,Zj,aQ.of hp,Zj,eX,λtp fq=>⟨tp,_,Zj,.inr (aQ.of AB),Zj,Zj,_,Zj,?_⟩⟩;rw[show(if false=true then !dY (V.str g.s) [V.str "|", V.str "&", V.str "^"]else dY (V.str g.s) [V.str "|", V.str "&", V.str "^"])=true from ff];have st:=AE (aA.refl _) fq (o:=HO.tup [V.str "|", V.str "&", V.str "^"]);have al:=st _ _ hp;refine Ao ⟨_,Zj,_,_,Zj,Zj,_,Zj,Ba (λ_=>?_) (λ_=>hR _ _ ⟨Zj,st⟩)⟩;refine⟨_,Zj,p,_,0,.str g.s,Zj,Zj,aQ.of al,Zj,_,Zj,p,_,2,u2,Zj,Zj,aQ.of al,Zj,_,Zj,p,_,1,u1,Zj,Zj,aQ.of al,Zj,eX,λn hn=>?_⟩;have sn:=AE (aA.refl _) hn (o:=HO.tup [V.str g.s,u2,u1]);have hm:max ta.ht tb.ht+1<=3:=ht;refine q _ (.bn g tb ta) _ (s1.step (st.trans sn)) ⟨n,u2,u1,Zj,AB,l2.same (st.trans sn),l1.same (st.trans sn)⟩ ⟨ok.1,ok.2.2,ok.2.1⟩ ?_;show max tb.ht ta.ht+1<=5;omega
 rintro σ H2 ⟨rfl,s2⟩;have ir:=g8.same s2;have iD:=s1.step s2;refine⟨λσ H'=>σ=[some (.ref d),some v,some (.int k)]/\H'=H2,λR hR=>?_,?_⟩
 ·rcases Ra ir ok with⟨p,tg,rs,rfl,hp,_,aw⟩ |⟨g,ta,tb,p,u1,u2,rfl,rfl,hp,l1,l2,ff⟩
  ·refine⟨_,Zj,p,_,0,.str tg,Zj,Zj,aQ.of hp,BN (j:=0) Zj,Zj,_,Zj,?_⟩;rw[aw];exact Ac (Ac (hR _ _ ⟨Zj,Zj⟩))
  ·refine⟨_,Zj,p,_,0,.str g.s,Zj,Zj,aQ.of hp,Zj,Zj,_,Zj,?_⟩;refine Ba (λ_=>⟨_,Zj,Zj,_,Zj,Ba (λ_=>?_) (λ_=>hR _ _ ⟨Zj,Zj⟩)⟩) (λ_=>Ac (hR _ _ ⟨Zj,Zj⟩));refine⟨_,Zj,p,_,1,u1,Zj,Zj,aQ.of hp,Zj,_,Zj,p,_,2,u2,Zj,Zj,aQ.of hp,Zj,eX,λn hn=>?_⟩;have sn:=AE (aA.refl _) hn (o:=HO.tup [V.str "^", u1,u2]);have al:=sn _ _ hp;have l1n:=l1.same sn;have l2n:=l2.same sn;have hn1:=AB (H:=H2) (a:=n) (o:=HO.tup [V.str "^", u1,u2]);generalize upd H2 n (HO.tup [V.str "^", u1,u2])=H3 at sn al l1n l2n hn1 ⊢;refine⟨_,Zj,p,_,1,u1,Zj,Zj,aQ.of al,Zj,_,Zj,p,_,2,u2,Zj,Zj,aQ.of al,Zj,eX,λm hm=>?_⟩;have sm:=AE (aA.refl _) hm (o:=HO.tup [V.str "&", u1,u2]);have hm1:=AB (H:=H3) (a:=m) (o:=HO.tup [V.str "&", u1,u2]);generalize upd H3 m (HO.tup [V.str "&", u1,u2])=H4 at sm hm1 ⊢;refine⟨eX,λo ho=>?_⟩;have so:=AE (aA.refl _) ho (o:=HO.tup [V.str "^", V.ref n,V.ref m]);have jh:=sm.trans so;have hmx:max ta.ht tb.ht+1<=3:=ht;refine q _ (.bn .xo (.bn .xo ta tb) (.bn .an ta tb)) _ (iD.step (sn.trans jh)) ⟨o,.ref n,.ref m,Zj,AB,⟨n,u1,u2,Zj,jh _ _ hn1,l1n.same jh,l2n.same jh⟩,⟨m,u1,u2,Zj,so _ _ hm1,l1n.same jh,l2n.same jh⟩⟩ ⟨trivial,⟨trivial,ok.2.1,ok.2.2⟩,⟨trivial,ok.2.1,ok.2.2⟩⟩ ?_;show max (max ta.ht tb.ht+1) (max ta.ht tb.ht+1)+1<=5;omega
 rintro σ H3 ⟨rfl,rfl⟩;refine⟨_,Zj,Zj,_,Zj,Ba (λ_=>?_) (λ_=>?_)⟩
 ·refine⟨_,Zj,_,Zj,eX,λn hn=>?_⟩;have sn:=AE (aA.refl _) hn (o:=HO.tup [V.str "&", v,v]);refine q _ (.bn .an t t) _ (iD.step sn) ⟨n,v,v,Zj,AB,ir.same sn,ir.same sn⟩ ⟨trivial,ok,ok⟩ ?_;show max t.ht t.ht+1<=5;omega
 ·refine⟨_,Zj,_,Zj,eO,λn hn=>?_⟩;have sn:=AE (aA.refl _) hn (o:=HO.tup [V.str "letter", V.str "x"]);have hn1:=AB (H:=H3) (a:=n) (o:=HO.tup [V.str "letter", V.str "x"]);generalize upd H3 n (HO.tup [V.str "letter", V.str "x"])=H4 at sn hn1 ⊢;refine⟨eX,λm hm=>?_⟩;have sm:=AE (aA.refl _) hm (o:=HO.tup [V.str "&", v,V.ref n]);have hm1:=AB (H:=H4) (a:=m) (o:=HO.tup [V.str "&", v,V.ref n]);generalize upd H4 m (HO.tup [V.str "&", v,V.ref n])=H5 at sm hm1 ⊢;refine⟨eX,λo ho=>?_⟩;have so:=AE (aA.refl _) ho (o:=HO.tup [V.str "|", v,V.ref m]);have jh:=sm.trans so;have sno:=sn.trans jh;refine q _ (.bn .or t (.bn .an t (.le 120))) _ (iD.step sno) ⟨o,v,.ref m,Zj,AB,ir.same sno,⟨m,v,.ref n,Zj,so _ _ hm1,ir.same sno,⟨n,Zj,jh _ _ hn1⟩⟩⟩ ⟨trivial,ok,trivial,ok,hx⟩ ?_;show max t.ht (max t.ht 0+1)+1<=5;omega
end
noncomputable def gV3 (vs zs:Xc):Xc:=match vs,zs with | [a,b],[c]=>[a,b,c] |_,_=>[]
noncomputable def gU3 (us ws:Xb):Xb:=match us,ws with | [a,b],[c]=>[a,b,c] |_,_=>[]
structure Rb (P:Program) (w:World) (K:FG) (mg:SV) (base:Heap) (C:Xd):Prop where
 T:Jr K C
 cls:mg "Kind" = some (.ref C)
 make:∃f fd,Mk K C f/\Af P w K mg base aT 6 f fd ["self", "rows", "rest"] (spInit C) /\
  (∃g,Lr K fd ["self", "rows", "rest"] ["rest"] g gV3)/\∃ds,Binds K fd ["self", "rows", "rest"] ds/\Vals [.str "bar"] ds
def LtN (n:Nv) (sg:List Nat):Prop:=∀c∈sg,CH c=true/\Av n.kvs (Sum.inr ⟨#[c]⟩)=some (.int (n.tb ⟨#[c]⟩:Nat))
theorem La {n:Nv}{sg:List Nat} (D:CT n.due) (hs:LtN n sg):∀ {t:LT},t.Ok (n.due.map (·.1)) sg->t.tr.Ok n
 | .nm x,h=>by
  obtain⟨p,hp,rfl⟩:=Zr.mp h;exact(N6 D hp).1.ok
 | .no m,h=>(J1 (n:=n) (Nat.lt_trans h qc)).1.ok
 | .le c,h=>(Hr (hs c h).1 (hs c h).2).ok
 | .ng t,h=>La D hs (t:=t) h
 | .bn g a b,h=>⟨h.1,La D hs h.2.1,La D hs h.2.2⟩
theorem Fg:∀t:LT,t.tr.post.length+1<=2 ^ (t.ht+1)
 | .nm x=>by show 1+1<=2 ^ 1;decide
 | .no n=>by show 1+1<=2 ^ 1;decide
 | .le n=>by show 1+1<=2 ^ 1;decide
 | .ng t=>by
  have:=Fg t;show(t.tr.post++[_]).length+1<=2 ^ (t.ht+1+1);rw[ZH,length_singleton,Nat.pow_succ];omega
 | .bn g a b=>by
  have h1:=Fg a;have h2:=Fg b;show(a.tr.post++b.tr.post++[_]).length+1<=2 ^ (max a.ht b.ht+1+1);rw[ZH,ZH,length_singleton,Nat.pow_succ];have e1:2 ^ (a.ht+1)<=2 ^ (max a.ht b.ht+1):=Nat.pow_le_pow_right qc qe;have e2:2 ^ (b.ht+1)<=2 ^ (max a.ht b.ht+1):=Nat.pow_le_pow_right qc qe;omega
theorem Uv (g:Sg):g.s.length=1:=by cases g <;> decide +kernel
theorem Uw (g:Sg):BP g.s=false:=by cases g <;> decide +kernel
structure PtW (sg:List Nat) (x:Str):Prop where
 l:x.length<=200
 m:BP x=true->∃c∈sg,x=⟨#[c]⟩
 s:BP x=true\/∀c∈x.cps.toList,CH c=false
theorem Ti {c:Nat} (h:c<97):CH c=false:=by
 unfold CH;rw[ZO qe];rfl
theorem CW {n:Nv}{sg:List Nat} (D:CT n.due):∀ {t:LT},t.Ok (n.due.map (·.1)) sg->(∀c∈sg,CH c=true)->∀x∈t.tr.post,PtW sg x
 | .nm y,h,hs,x,hx=>by
  obtain rfl:x=y:=ZG.mp hx;obtain⟨p,hp,rfl⟩:=Zr.mp h;obtain⟨w,l6,hl⟩:=N6 (n:=n) D hp;refine⟨qe,λz=>(by rw[hl]at z;cases z),.inr λc hc=>?_⟩;have h1:=(D.nm p hp).1;unfold By at h1;simp only[Bool.and_eq_true,decide_eq_true_eq]at h1;have:=List.all_eq_true.mp h1.2 c hc;simp[Ch]at this;exact Ti qe
 | .no m,h,hs,x,hx=>by
  obtain rfl:x=Ez m:=ZG.mp hx;obtain⟨w,hl⟩:=J1 (n:=n) (v:=m) (Nat.lt_trans h qc);have:=w.len;refine⟨qe,λz=>(by rw[hl]at z;cases z),.inr λc hc=>?_⟩;rw[N7]at hc;have:=List.all_eq_true.mp (M7 m) c hc;simp[CV]at this;exact Ti qe
 | .le c,h,hs,x,hx=>by
  obtain rfl:x=⟨#[c]⟩:=ZG.mp hx;exact⟨(by show 1<=200;decide),λ_=>⟨c,h,Zj⟩,.inl (hs c h)⟩
 | .ng t,h,hs,x,hx=>by
  rcases mem_append.mp hx with z |z
  ·exact CW D (t:=t) h hs x z
  ·obtain rfl:=ZG.mp z;exact⟨qb,λz=>absurd z qb,.inr qb⟩
 | .bn g a b,h,hs,x,hx=>by
  rcases mem_append.mp hx with z |z
  ·rcases mem_append.mp z with z |z
   ·exact CW D h.2.1 hs x z
   ·exact CW D h.2.2 hs x z
  ·obtain rfl:=ZG.mp z;refine⟨by rw[Uv];decide,λz=>(by rw[Uw]at z;cases z),.inr ?_⟩;cases g <;> decide +kernel
theorem OF {lt:Bool}{t:Tr}{r:Nat}{u:List Nat} (h:Wr lt t r u) {sg:List Nat} (k:∀x∈t.post,PtW sg x) {c:Nat} (hc:CH c=true):c∈u ↔ (⟨#[c]⟩:Str)∈t.post:=by
 have nc:∀d:Nat,CH d=false->c≠d:=λd hd z=>by rw[z,hd]at hc;cases hc
 have nb:∀bl:List Nat,Bk bl->c∉ bl:=λbl hb hm=>by
  rcases hb with rfl |rfl
  ·cases hm
  ·exact nc 32 Zj (ZG.mp hm)
 induction h with
 |wd x r bl hb h =>
  have hx:=k x (ZG.mpr rfl);show c∈bl++x.cps.toList ↔ _∈ [x];rw[mem_append,ZG];refine⟨λz=>?_,λz=>.inr (by rw[←z];exact ZG.mpr rfl)⟩;rcases z with z |z
  ·exact absurd z (nb bl hb)
  ·rcases hx.s with hl |hn
   ·obtain⟨d,_,e⟩:=hx.m hl;rw[e]at z;rw[e,ZG.mp z]
   ·rw[hn c z]at hc;cases hc
 |ng t r u hr h ih =>
  show c∈126::u ↔ _∈t.post++[("~" : Str)];rw[mem_cons,mem_append,ZG,(show c∈u ↔ (⟨#[c]⟩:Str)∈t.post from ih λx hx=>k x (ZP _ hx))];refine⟨λz=>z.elim (λz=>absurd z (nc 126 Zj)) .inl,λz=>z.elim .inr λz=>?_⟩;have:=congrArg (λy:Str=>y.cps.toList) z;rw[show(("~" : Str)).cps.toList=[126] by decide +kernel]at this;injection this with this
  exact absurd this (nc 126 Zj)
 |bn g a b r u v bl hg hr hb ha hv iha ihb =>
  show c∈u++(bl++(g.c::v)) ↔ _∈a.post++b.post++[g.s];have ng:c≠g.c:=nc _ (by cases g <;> rfl)
  have ng2:(⟨#[c]⟩:Str)≠g.s:=λz=>by
   rw[←Jz]at z;have:=congrArg (λy:Str=>y.cps.toList) z;injection this with this
   exact ng this
  simp only[mem_append,mem_cons,ZG,not_mem_nil,or_false,iha (λx hx=>k x (ZP _ (ZP _ hx))),ihb (λx hx=>k x (ZP _ (ZT _ hx)))];refine⟨λz=>?_,λz=>?_⟩
  ·rcases z with z |z |z |z
   ·exact .inl (.inl z)
   ·exact absurd z (nb bl hb)
   ·exact absurd z ng
   ·exact .inl (.inr z)
  ·rcases z with (z |z) |z
   ·exact .inl z
   ·exact .inr (.inr (.inr z))
   ·exact absurd z ng2
 |br t r u bl hb h ih =>
  rw[←(show c∈u ↔ (⟨#[c]⟩:Str)∈t.post from ih k)];simp only[mem_append,mem_cons,ZG,not_mem_nil,or_false];refine⟨λz=>?_,λz=>.inr (.inr (.inl z))⟩;rcases z with z |z |z |z
  ·exact absurd z (nb bl hb)
  ·exact absurd z (nc 40 Zj)
  ·exact z
  ·exact absurd z (nc 41 Zj)
theorem Hw:∀ {l m:List Nat},l.Pairwise (· < ·)->m.Pairwise (· < ·)->(∀x,x∈l ↔ x∈m)->l=m
 | [],[],_,_,_=>rfl
 | [],b::m,_,_,h=>nomatch (h b).mpr (ZI ..)
 |a::l,[],_,_,h=>nomatch (h a).mp (ZI ..)
 |a::l,b::m,hl,hm,h=>by
  obtain⟨l1,l2⟩:=pairwise_cons.mp hl;obtain⟨m1,m2⟩:=pairwise_cons.mp hm
  have gZ:a=b:=by
   rcases mem_cons.mp ((h a).mp (ZI ..))with z |z
   ·exact z
   ·rcases mem_cons.mp ((h b).mpr (ZI ..))with y |y
    ·exact y.symm
    ·have h1:=m1 a z;have h2:=l1 b y;omega
  subst gZ;congr 1;refine Hw l2 m2 λx=>⟨λhx=>?_,λhx=>?_⟩
  ·rcases mem_cons.mp ((h x).mp (ZR _ hx))with z |z
   ·have:=l1 x hx;omega
   ·exact z
  ·rcases mem_cons.mp ((h x).mpr (ZR _ hx))with z |z
   ·have:=m1 x hx;omega
   ·exact z
noncomputable abbrev sgn (c:Nat):Str:=⟨#[c]⟩
theorem Ux (a b:Nat):PySem.Spec.ltCps (sgn a).cps.toList (sgn b).cps.toList=decide (a<b):=by
 show(decide (a<b)||(a==b&&false))=_;simp
theorem Hx:∀(cs:List Nat) (p:Nat),PyProof.Rows.risingS (sgn p) (cs.map sgn)=true->(p::cs).Pairwise (· <= ·)
 | [],p,_=>List.pairwise_singleton ..
 |c::cs,p,h=>by
  change (!PySem.Spec.ltCps (sgn c).cps.toList (sgn p).cps.toList&&PyProof.Rows.risingS (sgn c) (cs.map sgn))=true at h;rw[Ux,Bool.and_eq_true,Bool.not_eq_true',decide_eq_false_iff_not]at h;have ih:=Hx cs c h.2;refine pairwise_cons.mpr ⟨λx hx=>?_,ih⟩;rcases mem_cons.mp hx with rfl |z
  ·omega
  ·have:=(pairwise_cons.mp ih).1 x z;omega
theorem NC {cs:List Nat} (h:PyProof.Rows.sortedS (cs.map sgn)=true):cs.Pairwise (· <= ·):=by
 cases cs with
 |nil=>exact List.Pairwise.nil
 |cons c cs=>exact Hx cs c h
theorem Hy {ns T:Xa}{sg:List Nat} (L:kf ns T) (hs:sg.Pairwise (· < ·)) (sm:∀c∈sg,CH c=true) (h:∀x∈T,BP x=true->∃c∈sg,x=⟨#[c]⟩) (f:Nat->Bool) (hf:∀c∈sg,f c=true ↔ sgn c∈T):ns=(sg.filter f).map sgn:=by
 obtain⟨cs,rfl⟩:∃cs:List Nat,ns=cs.map sgn:=by
  have:∀l:Xa,(∀x∈l,∃c,x=sgn c)->∃cs:List Nat,l=cs.map sgn:=λl=>by
   induction l with
   |nil=>exact λ_=>⟨[],rfl⟩
   |cons x l ih =>
    intro hl;obtain⟨c,e⟩:=hl x (ZI ..);obtain⟨cs,e2⟩:=ih λy hy=>hl y (ZR _ hy);exact⟨c::cs,by rw[e,e2];rfl⟩
  refine this ns λx hx=>?_;obtain⟨h1,h2⟩:=(L.mem x).mp hx;obtain⟨c,_,e⟩:=h x h1 h2;exact⟨c,e⟩
 have inj:∀ {a b:Nat},sgn a=sgn b->a=b:=λ{a b} z=>by
  have:=congrArg (λy:Str=>y.cps.toList) z;injection this
 have mem:∀c,c∈cs ↔ sgn c∈cs.map sgn:=λc=>⟨λz=>Zr.mpr ⟨c,z,rfl⟩,λz=>by
  obtain⟨d,hd,e⟩:=Zr.mp z
  exact inj e ▸ hd⟩
 have h1:=NC L.so;have h2:cs.Nodup:=(pairwise_map.mp L.nd).imp λaw e=>aw (by rw[e]);have h3:cs.Pairwise (· < ·):=(h1.and h2).imp λz=>Nat.lt_of_le_of_ne z.1 z.2;congr 1;refine Hw h3 (hs.filter _) λc=>?_;rw[mem c,L.mem,mem_filter];refine⟨λ⟨z1,z2⟩=>?_,λ⟨z1,z2⟩=>⟨(hf c z1).mp z2,sm c z1⟩⟩;obtain⟨d,hd,e⟩:=h _ z1 z2;obtain rfl:=inj e;exact⟨hd,(hf _ hd).mpr z1⟩
theorem Rc {l:Aa}{j:Nat}{p:Str×Nat} (nd:(l.map (·.1)).Nodup) (h:l[j]?=some p):p.1∉ (l.take j).map (·.1):=λhm=>by
 obtain⟨q,hq,e⟩:=Zr.mp hm;obtain⟨i,hi⟩:=List.getElem?_of_mem hq;rw[List.getElem?_take]at hi;split at hi
 ·rename_i hij;obtain⟨h1,e1⟩:=Z8.mp hi;obtain⟨h2,e2⟩:=Z8.mp h;refine(List.pairwise_iff_getElem.mp nd) i j (by rw[AJ];exact h1) (by rw[AJ];exact h2) hij ?_;rw[List.getElem_map,List.getElem_map,e1,e2];exact e
 ·cases hi
theorem F7 {ws:Xa}{sg sg':List Nat}:∀ {t:LT},t.Ok ws sg->(∀c∈sg,sgn c∈t.tr.post->c∈sg')->t.Ok ws sg'
 | .nm x,h,_=>h
 | .no m,h,_=>h
 | .le c,h,k=>k c h (ZG.mpr rfl)
 | .ng t,h,k=>F7 (t:=t) h λc hc hm=>k c hc (ZP _ hm)
 | .bn g a b,h,k=>⟨h.1,F7 h.2.1 λc hc hm=>k c hc (ZP _ (ZP _ hm)),F7 h.2.2 λc hc hm=>k c hc (ZP _ (ZT _ hm))⟩
noncomputable abbrev eM:List Nat:=[120,121,122]
theorem BO:∀c∈eM,CH c=true:=by decide
theorem Re:∀c∈eM,c=120\/c=121\/c=122:=by decide
structure iW (due:Aa) (z:Str) (t:LT):Prop where
 wr:Wr true t.tr 0 z.cps.toList
 as:z.cps.all (· < 128)=true
 len:z.length<=60
 ok:t.Ok (due.map (·.1)) eM
 ht:t.ht<=5
noncomputable def ji (z y:Str):List Nat:=eM.filter λc=>decide (c∈z.cps.toList++y.cps.toList)
noncomputable def de (z y:Str):Xa:=(ji z y).map sgn
theorem Hz (DO:CT due) {z y:Str}{t u:LT} (Z:iW due z t) (Y:iW due y u) {ns:Xa} (L:kf ns (t.tr.post++u.tr.post)):ns=de z y:=by
 have w1:=CW (n:=⟨due,[],λ_=>0⟩) DO Z.ok BO;have w2:=CW (n:=⟨due,[],λ_=>0⟩) DO Y.ok BO;refine Hy L (sg:=eM) qc BO (λx hx hl=>?_) _ λc hc=>?_
 ·rcases mem_append.mp hx with z |z
  ·exact(w1 x z).m hl
  ·exact(w2 x z).m hl
 ·rw[decide_eq_true_eq,mem_append,mem_append,OF Z.wr w1 (BO c hc),OF Y.wr w2 (BO c hc)]
theorem Tj (DO:CT due) {z y:Str}{t u:LT} (Z:iW due z t) (Y:iW due y u):t.Ok (due.map (·.1)) (ji z y)/\u.Ok (due.map (·.1)) (ji z y):=by
 have w1:=CW (n:=⟨due,[],λ_=>0⟩) DO Z.ok BO;have w2:=CW (n:=⟨due,[],λ_=>0⟩) DO Y.ok BO;refine⟨F7 Z.ok λc hc hm=>?_,F7 Y.ok λc hc hm=>?_⟩
 ·exact mem_filter.mpr ⟨hc,ZL (ZP _ ((OF Z.wr w1 (BO c hc)).mpr hm))⟩
 ·exact mem_filter.mpr ⟨hc,ZL (ZT _ ((OF Y.wr w2 (BO c hc)).mpr hm))⟩
theorem ND (z y:Str):(de z y).Nodup:=by
 unfold de ji;refine pairwise_map.mpr (((show eM.Nodup by decide).filter _).imp λaw e=>aw ?_);have:=congrArg (λy:Str=>y.cps.toList) e;injection this
theorem OG {z y:Str}{c:Nat}:LtN (dM due (de z y) c) (ji z y):=λd hd=>⟨BO d (mem_filter.mp hd).1,Fe (Zr.mpr ⟨d,hd,rfl⟩)⟩
theorem OH {cB bd cT kp:Xd}{r:Str}{Q:VK}{E:XK} (DO:CT due) (KA:aX C H kp due r) (hB:Rd H bd (.dK Bq)) {z y:Str}{t u:LT} (Z:iW due z t) (Y:iW due y u) (q0:Eqv due t u->∀H',aA H H'->Q .aP H')
  (q1:¬ Eqv due t u->∀c p H',H p=none->aA H H'->H' p=some (.dK (fM (kn due) c (de z y)))->t.tr.cK (dM due (de z y) c)≠u.tr.cK (dM due (de z y) c)->Q (.ref p) H'):f9 C cB bd cT [.ref kp,.str z,.str y] H Q E:=by
 have w1:=CW (n:=⟨due,[],λ_=>0⟩) DO Z.ok BO;have w2:=CW (n:=⟨due,[],λ_=>0⟩) DO Y.ok BO;have z60:=Z.len;have y60:=Y.len
 have len:∀ {t:LT},t.ht<=5->t.tr.post.length<=200:=λ{t} h=>by
  have h1:=Fg t;have h2:2 ^ (t.ht+1)<=2 ^ 6:=Nat.pow_le_pow_right qc qe;omega
 obtain⟨kt,ku⟩:=Tj DO Z Y;refine .mk kp z y t.tr.post u.tr.post due r Zj KA Z.as qe (Fd Z.wr) Y.as qe (Fd Y.wr) ⟨len Z.ht,len Y.ht⟩ (λx hx=>?_) hB (.go (λns c=>t.tr.cK (dM due ns c)) (λns c=>u.tr.cK (dM due ns c)) (λns L c _=>?_) (λns H' s L h=>?_) λns c p H' hn s L hc h hp=>?_)
 ·rcases mem_append.mp hx with m |m
  ·exact(w1 x m).l
  ·exact(w2 x m).l
 ·obtain rfl:=Hz DO Z Y L;exact⟨LV (La (n:=dM due (de z y) c) DO OG kt),LV (La (n:=dM due (de z y) c) DO OG ku)⟩
 ·obtain rfl:=Hz DO Z Y L;exact q0 ((OD DO (ND z y) (λc hc=>BO c (mem_filter.mp hc).1) (λc hc=>Zr.mpr ⟨c,hc,Zj⟩) kt ku).mp h) H' s
 ·obtain rfl:=Hz DO Z Y L;refine q1 (λe=>h ?_) c p H' hn s hp h;exact(OD DO (ND z y) (λc hc=>BO c (mem_filter.mp hc).1) (λc hc=>Zr.mpr ⟨c,hc,Zj⟩) kt ku).mpr e c hc
end Mk
end
section
namespace L2
open PySem
def W3 (t:TS):TS:=λD σ H=>∃a kvs,H a=some (.dK kvs)/\∀o,t D σ (upd H a (.cQ o (.dK kvs)))
theorem V9 {X:Cx}{sts:List Stmt}{t:TS} (h:eA X sts t):eA X sts (W3 t):=⟨Ed h.h⟩
theorem OI {X:Cx}{pos:Pos}{k v k2 v2 k3 v3:Expr}{tk tv tk2 tv2 tk3 tv3:TE} (hk:cE X k tk) (hv:cE X v tv) (hk2:cE X k2 tk2) (dZ:cE X v2 tv2) (hk3:cE X k3 tk3) (hv3:cE X v3 tv3):cE X (.Dict [some k,some k2,some k3] [v,v2,v3] pos) (P3 [(tk,tv),(tk2,tv2),(tk3,tv3)]):=⟨JX (BX hk.h hv.h (BX hk2.h dZ.h (BX hk3.h hv3.h JW))) rfl rfl (λz=>nomatch z) (show 3<=15 by decide)⟩
end L2
namespace Mk
open PySem L2 MK PySem.NumText
section
variable {cB bd cT:Xd}
noncomputable abbrev pHo:Xa:=["_law_kind", "_law_table", "_law_numbers", "_law_one", "_law_tree_here", "_law_other", "_law_more"]
noncomputable abbrev NHo:Xa:=["_law_kind", "_law_table", "_law_numbers", "_law_one", "_law_tree_here", "_law_other", "_law_more", "_law_signs", "_law_known", "_law_parting", "_law_choice", "_law_chosen", "_law_left", "_law_right", "_law_bare", "_law_found"]
theorem OJ {X:Cx}:BW (eZ P w) X E0:=λ_ _ _ _ _ _ _ ⟨_,_,_,_,_,_,q⟩=>q.elim
theorem scHo:AN NHo pHo (defScope Fy):=cS
inductive spHo (C bd:Xd) (vs:Xc) (H:Hp) (Q:VK) (_E:XK):Prop where
 |mk (kp tb nu:Xd) (z y:Str) (v u:V) (t s:LT) (due:Aa) (r:Str) (tkv:LK) (cJ:vs=[.ref kp,.ref tb,.ref nu,.str z,v,.str y,u]) (cP:aX C H kp due r) (cV:CT due) (dr:Rd H tb (.dK tkv)) (z_k:Av tkv (Sum.inr "known")=some (.int (kn due:Int))) (d9:Rd H nu (.dK (Ax due))) (gi:cL H v t) (jE:cL H u s) (z_7:iW due z t) (z_8:iW due y s) (z_9:Rd H bd (.dK Bq))
  (z_q:∀H',aA H H'->Q (.bl true) H')
noncomputable abbrev k3 (a b c:V):LK:=[((Sum.inr "x" : Key),a),(Sum.inr "y", b),(Sum.inr "z", c)]
theorem Tk {σ:St}{Q:VK}{t1 t2 t3:TE}{a b c:V} (h1:∀H (Q:VK),Q a H->t1 σ H Q) (h2:∀H (Q:VK),Q b H->t2 σ H Q) (h3:∀H (Q:VK),Q c H->t3 σ H Q) (q:∀p H',aA H H'->H' p=some (.dK (k3 a b c))->Q (.ref p) H'):P3 [(tC (.str "x"),t1),(tC (.str "y"),t2),(tC (.str "z"),t3)] σ H Q:=λp hp=>by
 refine h1 _ _ (h2 _ _ (h3 _ _ ⟨AB,k3 a b c,Zj,by show 3<=15;decide,?_⟩));have s2:aA H (upd (upd H p (.dK [])) p (.dK (C2 [] (k3 a b c)))):=λb o e=>by rw[AH (AI e hp),AH (AI e hp)];exact e
 exact q _ _ s2 (by rw[AB];kernel_rfl)
theorem S8:∀i:Fin 8,-(Builtin.bitAnd ((0:Int)+(i.val:Int)) 1)=fj i.val 120/\-(Builtin.bitAnd (((0:Int)+(i.val:Int)) / 2 ^ (1:Int).toNat) 1)=fj i.val 121/\-(((0:Int)+(i.val:Int)) / 2 ^ (2:Int).toNat)=fj i.val 122:=by decide +kernel
theorem Rf {a b c:V}{f:Nat->Int} (ha:a=.int (f 120)) (hb:b=.int (f 121)) (hc:c=.int (f 122)):∀d∈eM,Av (k3 a b c) (Sum.inr ⟨#[d]⟩)=some (.int (f d)):=λd hd=>by
 subst ha hb hc;rcases Re d hd with rfl |rfl |rfl
 ·exact(show Av (k3 (.int (f 120)) (.int (f 121)) (.int (f 122))) (Sum.inr ⟨#[120]⟩)=some (.int (f 120)) by kernel_rfl)
 ·exact(show Av (k3 (.int (f 120)) (.int (f 121)) (.int (f 122))) (Sum.inr ⟨#[121]⟩)=some (.int (f 121)) by kernel_rfl)
 ·exact(show Av (k3 (.int (f 120)) (.int (f 121)) (.int (f 122))) (Sum.inr ⟨#[122]⟩)=some (.int (f 122)) by kernel_rfl)
noncomputable abbrev sH (kp tb nu:Xd) (z:Str) (v:V) (y:Str) (u:V) (sg:Xd) (k:Nat) (pt:Int) (c ch l r ba fo:Option V):St:=[some (.ref kp),some (.ref tb),some (.ref nu),some (.str z),some v,some (.str y),some u,some (.ref sg),some (.int (k:Int)),some (.int pt),c,ch,l,r,ba,fo]
theorem Rg:("xyz" : Str).cps.toList=eM:=by decide +kernel
theorem WA {f:Xd} (F:aY K "_law_holds" "_law_holds" Fy f fd) (B:Bl mg) (GC:Fn P w K mg base "_law_come" 7 Hv (spCome 5)) (GA:FnR P w K mg base "alike" 7 ["kind", "one", "other"] (f9 C cB bd cT)):Af P w K mg base aT 8 f fd pHo (spHo C bd):=by
 obtain⟨fC,dC,GC,mC,kC,bC⟩:=GC.ex;obtain⟨fA,dA,GA,mA,kA,bA⟩:=GA.ex;refine F.m scHo λvs H Q E h=>?_;obtain⟨kp,tb,nu,z,y,v,u,t,s',due,r,tkv,rfl,KA,DO,hT,hTk,hN,lt,ls,Z,Y,hB,q⟩:=h;refine⟨Zj,λad A outer s hr=>?_⟩;have hu:=Cm hr;have hu64:=hr.units;have nd:=scHo.nd
 refine⟨_,eA.h (BI (.mk (B6 (hs:=by kernel_rfl) (hw:=by kernel_rfl) (As (AA (Bv ["_law_one", "_law_other"] [some 3,some 5] qd qb qd Zj (Ly AK) (λ_ _ _ _ _ _=>FE (AM Ma (pv 0) (Ab BK (pv 1) (pv 2)) Zj)) (λ_ _ _ _ _ _=>pv 0)) (AA (Bh hu (pv 1) AK (λ_ _=>rfl)) (AA AD AC)))) (Bc Zj (AY (AV (i:=7) nd Zj (Or.inl Zj)) (AY (AV (i:=8) nd Zj (Or.inr Zj)) (AY (AV (i:=9) nd Zj (Or.inl Zj)) BE))))))
  (BI (Nf PassesOwn.never rfl (.mk (B7 rfl B.range (AA AD AC))) (AV (i:=10) nd rfl (Or.inl rfl))
   (BI (Cn (i:=11) nd rfl (Or.inl rfl) (OI (.mk AK) (UL Dp (Cg Cc (.mk (pv 10)) (.mk AD))) (.mk AK) (UL Dp (Cg Cc (Cg JN (.mk (pv 10)) (.mk AD)) (.mk AD))) (.mk AK) (UL Dp (Cg JN (.mk (pv 10)) (.mk AD)))))
   (BI (.mk (Pi (i:=12) (j:=13) rfl nd rfl rfl qc rfl rfl (AA (cE.h (Au GC hr rfl mC kC bC .nil AR (AT (.mk (pv 4)) (AT (.mk (pv 2)) (AT (.mk (pv 8)) (AT (.mk (pv 11)) BD)))))) (AA (cE.h (Au GC hr rfl mC kC bC .nil AR (AT (.mk (pv 6)) (AT (.mk (pv 2)) (AT (.mk (pv 8)) (AT (.mk (pv 11)) BD)))))) AC)) qd))
   (A5 (Cn (i:=9) nd rfl (Or.inl rfl) (Cg KG (.mk (pv 9)) (Cg Cc (Cg Gu (.mk (pv 12)) (.mk (pv 13))) (.mk (pv 8)))))))))
  (BI (Cn (i:=14) nd rfl (Or.inl rfl) (OI (.mk AK) (.mk AD) (.mk AK) (.mk AD) (.mk AK) (.mk AD)))
  (BI (.mk (Pi (i:=12) (j:=13) rfl nd rfl rfl qc rfl rfl (AA (cE.h (Au GC hr rfl mC kC bC .nil AR (AT (.mk (pv 4)) (AT (.mk (pv 2)) (AT (.mk (pv 8)) (AT (.mk (pv 14)) BD)))))) (AA (cE.h (Au GC hr rfl mC kC bC .nil AR (AT (.mk (pv 6)) (AT (.mk (pv 2)) (AT (.mk (pv 8)) (AT (.mk (pv 14)) BD)))))) AC)) qd))
  (BI (Cn (i:=15) nd rfl (Or.inr rfl) (Au GA hr rfl mA kA bA .nil OJ (AT (.mk (pv 0)) (AT (.mk (pv 3)) (AT (.mk (pv 5)) BD)))))
  (BI (C3 (.mk (AM F9 (JL (Fh (pv 15))) (Cz (Cj Aw (pv 9) AD (AS _)) (Cy (Cj Aw (Ab Gu (pv 12) (pv 13)) (Ab Cc (Ab Gu (pv 12) (pv 13)) (pv 8)) (AS _)))) (AS _))) (A5 (.mk Ak)) BH)
  (BI (C3 (.mk (EY (NG (pv 15)))) (V9
   (BI (C3 (.mk (AM (HE K rfl hu64) (AW (II rfl) rfl B.sorted Fz (AA (pv 15) AC)) (pv 7) (AS _))) (A5 (.mk Ak)) BH)
   (BI (C3 (.mk (AM (HE K rfl hu64) (Bv ["_law_found", "_law_known"] [some 15,some 8] qd qb qd rfl (SS (pv 15)) (λ_ _ _ _ _ _=>FE (AM F9 (Ab Cc (Bh hu (pv 1) (pv 0) (λ_ _=>rfl)) (pv 2)) (Bh hu (pv 1) (pv 0) (λ_ _=>rfl)) (AS _))) (λ_ _ _ _ _ _=>pv 0)) (BF AC) (AS _))) (A5 (.mk Ak)) BH)
   (A5 (C3 (.mk (AM Aw (cE.h (Au GC hr rfl mC kC bC .nil AR (AT (.mk (pv 4)) (AT (.mk (pv 2)) (AT (.mk (pv 8)) (AT (.mk (pv 15)) BD)))))) (cE.h (Au GC hr rfl mC kC bC .nil AR (AT (.mk (pv 6)) (AT (.mk (pv 2)) (AT (.mk (pv 8)) (AT (.mk (pv 15)) BD)))))) (AS _))) (A5 (.mk Ak)) BH))))) BH)
  (A5 (.mk (AO De)))))))))),?_⟩
 have z60:=Z.len;have y60:=Y.len;refine⟨λσ H'=>∃sg,σ=sH kp tb nu z v y u sg (kn due) 0 none none none none none none/\aA H H'/\H' sg=some (.lst ((de z y).map V.str)),λR hR=>?_,?_⟩
 ·refine⟨"xyz", Zj,qb,HX (x := "xyz") (λi ys H'=>H'=H/\ys=(((eM.take i).filter λc=>decide (c∈z.cps.toList++y.cps.toList)).map sgn).map V.str) ⟨Zj,Zj⟩ (λi ys H' ⟨_,e⟩=>?_) ?_ ?_⟩
  ·rw[e,AJ,AJ];have h1:=ZS (λc=>decide (c∈z.cps.toList++y.cps.toList)) (eM.take i);rw[ZA]at h1;have h2:eM.length=3:=rfl;omega
  ·rintro i c ys H' hc ⟨rfl,rfl⟩;have iz:eM[i]?=some c:=by rw[←Rg,Array.getElem?_toList];exact hc
   have e1:(eM.take (i+1)).filter (λc=>decide (c∈z.cps.toList++y.cps.toList))=(eM.take i).filter (λc=>decide (c∈z.cps.toList++y.cps.toList))++[c].filter (λc=>decide (c∈z.cps.toList++y.cps.toList)):=by rw[ZD,iz,Option.toList_some,List.filter_append]
   refine⟨_,Zj,_,Zj,_,Zj,z,y,Zj,Zj,Nat.le_of_lt (AL qe),c,z++y,Zj,Zj,_,Zj,?_⟩;rw[e1,B3];cases hd:decide (c∈z.cps.toList++y.cps.toList)with
   |true =>
    rw[show [c].filter (λc=>decide (c∈z.cps.toList++y.cps.toList))=[c] by rw[List.filter_cons_of_pos (by exact hd)];rfl];refine Ao ⟨_,Zj,Zj,?_⟩;rw[Zu,Zu];rfl
   |false =>
    rw[show [c].filter (λc=>decide (c∈z.cps.toList++y.cps.toList))=[]from List.filter_cons_of_neg (p:=λc=>decide (c∈z.cps.toList++y.cps.toList)) (λz=>absurd (hd.symm.trans z) qc),Zt];exact Ac ⟨Zj,Zj⟩
  ·rintro ys H' ⟨rfl,rfl⟩ p1 ak;rw[show eM.take ("xyz" : Str).cps.size=eM from take_of_length_le qb];have sp:=AE (aA.refl _) ak (o:=HO.lst (((eM.filter λc=>decide (c∈z.cps.toList++y.cps.toList)).map sgn).map V.str));refine⟨_,Zj,tb,_,Zj,.inl ⟨_,Sum.inr "known", LX sp hT,Zj,hTk.symm⟩,eX,λtp fq=>?_⟩;have st:=AE (aA.refl _) fq (o:=HO.tup [V.ref p1,V.int (kn due:Int),V.int 0]);exact⟨tp,_,Zj,aQ.of AB,Zj,_,_,Zj,_,_,Zj,_,_,Zj,Zj,hR _ _ ⟨p1,Zj,sp.trans st,st _ _ AB⟩⟩
 rintro σ H1 ⟨sg,rfl,s1,g9⟩;have cK:∀ {H':Hp}{le:Xd}{kvs:LK}{f:Nat->Int}{Q':VK},aA H H'->Rd H' le (.dK kvs)->(∀c∈eM,Av kvs (Sum.inr ⟨#[c]⟩)=some (.int (f c)))->(Q' (.int (t.cI due f)) H'->spCome 5 [v,.ref nu,.int (kn due:Int),.ref le] H' Q' E0)/\(Q' (.int (s'.cI due f)) H'->spCome 5 [u,.ref nu,.int (kn due:Int),.ref le] H' Q' E0):=λ{H' le kvs f Q'} sm hle hv=>⟨λq'=>.mk v nu le t due kvs f eM rfl (lt.same sm) Z.ok hle hv Z.ht (LX sm hN) q',λq'=>.mk u nu le s' due kvs f eM rfl (ls.same sm) Y.ok hle hv Y.ht (LX sm hN) q'⟩;refine⟨λσ H'=>(∃c ch l r,σ=sH kp tb nu z v y u sg (kn due) (gx due t s' 8) c ch l r none none)/\aA H1 H',λR hR=>?_,?_⟩
 ·refine⟨8,Zj,qc,qc,DA (lo:=0) (n:=8) (λi σ H'=>(∃c ch l r,σ=sH kp tb nu z v y u sg (kn due) (gx due t s' i) c ch l r none none)/\aA H1 H') ⟨⟨_,_,_,_,Zj⟩,aA.refl _⟩ ?_ (λσ H' h=>hR _ _ h)⟩;rintro i σ H2 hi ⟨⟨c,ch,l,r',rfl⟩,s2⟩;obtain⟨c1,c2,c3⟩:-(Builtin.bitAnd ((0:Int)+(i:Int)) 1)=fj i 120/\-(Builtin.bitAnd (((0:Int)+(i:Int)) / 2 ^ (1:Int).toNat) 1)=fj i 121/\-(((0:Int)+(i:Int)) / 2 ^ (2:Int).toNat)=fj i 122:=S8 ⟨i,hi⟩;refine⟨λσ H'=>∃d,σ=sH kp tb nu z v y u sg (kn due) (gx due t s' i) (some (.int (0+(i:Int)))) (some (.ref d)) l r' none none/\aA H2 H'/\H' d=some (.dK (k3 (.int (fj i 120)) (.int (fj i 121)) (.int (fj i 122)))),λR2 hR2=>?_,?_⟩
  ·refine Tk (λH Q q=>⟨_,Zj,_,_,Zj,Zj,_,Zj,?_⟩) (λH Q q=>⟨_,Zj,_,_,Zj,Zj,(show(0:Int)<=1 by decide),_,_,Zj,Zj,_,Zj,?_⟩) (λH Q q=>⟨_,Zj,_,_,Zj,Zj,(show(0:Int)<=2 by decide),_,Zj,?_⟩) (λp H' s' hp=>hR2 _ _ ⟨p,Zj,s',hp⟩)
   ·show Q (V.int (-(Builtin.bitAnd ((0:Int)+(i:Int)) 1))) H;rw[c1];exact q
   ·show Q (V.int (-(Builtin.bitAnd (((0:Int)+(i:Int)) / 2 ^ (1:Int).toNat) 1))) H;rw[c2];exact q
   ·show Q (V.int (-(((0:Int)+(i:Int)) / 2 ^ (2:Int).toNat))) H;rw[c3];exact q
  rintro σ H3 ⟨d,rfl,s3,hd⟩;have jj:=s1.trans (s2.trans s3);have kv:∀c∈eM,Av (k3 (.int (fj i 120)) (.int (fj i 121)) (.int (fj i 122))) (Sum.inr ⟨#[c]⟩)=some (.int (fj i c)):=Rf rfl rfl rfl;refine⟨λσ H'=>σ=sH kp tb nu z v y u sg (kn due) (gx due t s' i) (some (.int (0+(i:Int)))) (some (.ref d)) (some (.int (t.cI due (fj i)))) (some (.int (s'.cI due (fj i)))) none none/\H'=H3,λR2 hR2=>?_,?_⟩
  ·exact⟨_,Zj,_,Zj,_,Zj,_,Zj,(cK jj (.inl hd) kv).1 ⟨_,Zj,_,Zj,_,Zj,_,Zj,(cK jj (.inl hd) kv).2 ⟨_,_,Zj,hR2 _ _ ⟨Zj,Zj⟩⟩⟩⟩
  rintro σ H4 ⟨rfl,rfl⟩;exact⟨_,Zj,_,Zj,_,Zj,_,_,Zj,Zj,_,Zj,_,_,Zj,Zj,_,_,Zj,Zj,⟨_,_,_,_,Zj⟩,s2.trans s3⟩
 rintro σ H2 ⟨⟨c,ch,l,r',rfl⟩,s2⟩;have s02:=s1.trans s2;refine⟨λσ H'=>∃d,σ=sH kp tb nu z v y u sg (kn due) (gx due t s' 8) c ch l r' (some (.ref d)) none/\aA H2 H'/\H' d=some (.dK (k3 (.int 0) (.int 0) (.int 0))),λR hR=>?_,?_⟩
 ·exact Tk (λH Q q=>q) (λH Q q=>q) (λH Q q=>q) (λp H' s' hp=>hR _ _ ⟨p,Zj,s',hp⟩)
 rintro σ H3 ⟨d,rfl,s3,hd⟩;have jj:=s02.trans s3;have kv0:∀c∈eM,Av (k3 (.int 0) (.int 0) (.int 0)) (Sum.inr ⟨#[c]⟩)=some (.int ((λ_=>0:Nat->Int) c)):=Rf rfl rfl rfl;refine⟨λσ H'=>σ=sH kp tb nu z v y u sg (kn due) (gx due t s' 8) c ch (some (.int (t.cI due λ_=>0))) (some (.int (s'.cI due λ_=>0))) (some (.ref d)) none/\H'=H3,λR hR=>?_,?_⟩
 ·exact⟨_,Zj,_,Zj,_,Zj,_,Zj,(cK jj (.inl hd) kv0).1 ⟨_,Zj,_,Zj,_,Zj,_,Zj,(cK jj (.inl hd) kv0).2 ⟨_,_,Zj,hR _ _ ⟨Zj,Zj⟩⟩⟩⟩
 rintro σ H4 ⟨rfl,rfl⟩;have LE:=S6 (due:=due) Re Z.ok Y.ok rfl rfl;refine⟨λσ H'=>∃fo,σ=sH kp tb nu z v y u sg (kn due) (gx due t s' 8) c ch (some (.int (t.cI due λ_=>0))) (some (.int (s'.cI due λ_=>0))) (some (.ref d)) (some fo)/\aA H4 H'/\((fo=.aP/\Eqv due t s')\/∃p c,fo=.ref p/\¬ Eqv due t s'/\H4 p=none/\H' p=some (.dK (fM (kn due) c (de z y)))/\t.tr.cK (dM due (de z y) c)≠s'.tr.cK (dM due (de z y) c)),λR hR=>?_,?_⟩
 ·exact⟨_,Zj,_,Zj,_,Zj,OH DO (KA.same jj) (LX jj hB) Z Y (λe H' sm=>hR _ _ ⟨_,Zj,sm,.inl ⟨Zj,e⟩⟩) (λe c p H' hn sm hp aw=>hR _ _ ⟨_,Zj,sm,.inr ⟨p,c,Zj,e,hn,hp,aw⟩⟩)⟩
 rintro σ H5 ⟨fo,rfl,s5,hfo⟩;have s05:=jj.trans s5;refine⟨λσ H'=>σ=sH kp tb nu z v y u sg (kn due) (gx due t s' 8) c ch (some (.int (t.cI due λ_=>0))) (some (.int (s'.cI due λ_=>0))) (some (.ref d)) (some fo)/\H'=H5,λR hR=>?_,?_⟩
 ·refine⟨fo,Zj,_,Zj,Zj,_,Zj,?_⟩;by_cases hP:gx due t s' 8=0
  ·rw[ZL (show V.int (gx due t s' 8)=V.int 0 by rw[hP])];refine Ao ⟨_,Zj,_,Zj,_,_,Zj,Zj,_,Zj,_,Zj,_,_,Zj,Zj,_,Zj,_,_,Zj,Zj,Zj,Zj,_,Zj,?_⟩
   have e:decide (fo=V.aP)=decide (V.int (Builtin.bitXor (t.cI due λ_=>0) (s'.cI due λ_=>0))=V.int (Builtin.bitAnd (Builtin.bitXor (t.cI due λ_=>0) (s'.cI due λ_=>0)) (kn due:Int))):=by
    rcases hfo with⟨e,eq⟩ |⟨p,c',e,aw,_⟩
    ·rw[ZL e,ZL (congrArg V.int (LE.mpr eq).2)]
    ·rw[e,ZO (λz=>V.noConfusion z),ZO (λz=>aw (LE.mp ⟨hP,V.int.inj z⟩))]
   show(if (!decide (V.bl (decide (fo=V.aP))=V.bl (decide (V.int (Builtin.bitXor (t.cI due λ_=>0) (s'.cI due λ_=>0))=V.int (Builtin.bitAnd (Builtin.bitXor (t.cI due λ_=>0) (s'.cI due λ_=>0)) (kn due:Int))))))=true then _ else _);rw[e,ZL rfl];exact Ac (hR _ _ ⟨Zj,Zj⟩)
  ·rw[ZO (show ¬ V.int (gx due t s' 8)=V.int 0 from λz=>hP (V.int.inj z))];refine Ac ⟨Zj,_,Zj,?_⟩
   have e:decide (fo=V.aP)=false:=by
    rcases hfo with⟨e,eq⟩ |⟨p,c',e,aw,_⟩
    ·exact absurd (LE.mpr eq).1 hP
    ·rw[e,ZO (λz=>V.noConfusion z)]
   show(if (!decide (V.bl (decide (fo=V.aP))=V.bl false))=true then _ else _);rw[e,ZL rfl];exact Ac (hR _ _ ⟨Zj,Zj⟩)
 rintro σ H6 ⟨rfl,rfl⟩;rcases hfo with⟨rfl,_⟩ |⟨p,c',rfl,aw,hnp,hp,jv⟩
 ·refine⟨λσ H'=>aA H H',λR hR=>⟨_,Zj,_,Zj,Ac (hR _ _ s05)⟩,λσ H' sm=>q _ sm⟩
 refine⟨λσ H'=>aA H H',λR hR=>⟨_,Zj,_,Zj,Ao ?_⟩,λσ H' sm=>q _ sm⟩;refine⟨p,_,hp,λob=>?_⟩;have hpf:=AB (H:=H6) (a:=p) (o:=HO.cQ ob (.dK (fM (kn due) c' (de z y))));have s4f:aA H4 (upd H6 p (.cQ ob (.dK (fM (kn due) c' (de z y))))):=λb o e=>by rw[AH (AI e hnp)];exact s5 _ _ e
 generalize upd H6 p (.cQ ob (.dK (fM (kn due) c' (de z y))))=H7 at hpf s4f ⊢;have s07:=jj.trans s4f
 have sg3:(de z y).length<=3:=by
  unfold de ji;rw[AJ];exact ZS _ eM
 have ek:(fM (kn due) c' (de z y)).map (·.1)=(de z y).map Sum.inr:=by
  unfold fM;rw[map_map];refine List.ext_getElem? λj=>?_;rw[ZE,ZE,List.getElem?_zipIdx];cases (de z y)[j]? <;> rfl
 have hsg7:=s4f _ _ ((s2.trans s3) _ _ g9);refine⟨λσ H'=>σ=sH kp tb nu z v y u sg (kn due) (gx due t s' 8) c ch (some (.int (t.cI due λ_=>0))) (some (.int (s'.cI due λ_=>0))) (some (.ref d)) (some (.ref p))/\aA H7 H',λR2 hR2=>?_,?_⟩
 ·refine⟨_,Zj,p,_,de z y,Zj,.inr ⟨ob,hpf⟩,ek,qe,λl ns hl bf hso=>?_⟩
  have isl:∀x∈de z y,∃c∈eM,x=sgn c:=λx hx=>by
   obtain⟨c,hc,rfl⟩:=Zr.mp hx;exact⟨c,(mem_filter.mp hc).1,Zj⟩
  have L:kf ns (de z y):=⟨bf.nodup_iff.mpr (ND z y),hso,λx=>by
   rw[bf.mem_iff];refine⟨λm=>⟨m,?_⟩,λm=>m.1⟩;obtain⟨c,hc,rfl⟩:=isl x m
   exact BO c hc⟩
  have en:ns=de z y:=Hy L (sg:=eM) qc BO (λx hx _=>isl x hx) _ λc hc=>by
   rw[decide_eq_true_eq];constructor
   ·intro m;exact Zr.mpr ⟨c,mem_filter.mpr ⟨hc,ZL m⟩,Zj⟩
   ·intro m;obtain⟨c2,i7,e⟩:=Zr.mp m
    have:c2=c:=by
     have:=congrArg (λy:Str=>y.cps.toList) e;injection this
    subst this;exact ZV (mem_filter.mp i7).2
  subst en
  have as3:∀x∈de z y,x.cps.all (· < 128)=true:=λx hx=>by
   obtain⟨c,hc,rfl⟩:=isl x hx;rcases Re c hc with rfl |rfl |rfl <;> decide +kernel
  have sl:=AE (aA.refl _) hl (o:=HO.lst ((de z y).map V.str));refine⟨_,Zj,_,_,DK AB (Hj _),DK (sl _ _ hsg7) (Hj _),GY as3,GY as3,_,Zj,?_⟩;rw[IL λdd hdd=>by obtain⟨x,_,rfl⟩:=Zr.mp hdd;exact Bz _];exact Ac (hR2 _ _ ⟨Zj,sl⟩)
 rintro σ H8 ⟨rfl,s8⟩;have hp8:=s8 _ _ hpf;have s08:=s07.trans s8;refine⟨λσ H'=>σ=sH kp tb nu z v y u sg (kn due) (gx due t s' 8) c ch (some (.int (t.cI due λ_=>0))) (some (.int (s'.cI due λ_=>0))) (some (.ref d)) (some (.ref p))/\aA H8 H',λR2 hR2=>?_,?_⟩
 ·refine⟨_,Zj,p,ob,fM (kn due) c' (de z y),Zj,hp8,Os (a:=p) (o:=ob) (kvs:=fM (kn due) c' (de z y)) (λi ys H'=>ys=[]/\H'=H8) ⟨Zj,Zj⟩ (λi ys H' ⟨_,e⟩=>e ▸ hp8) (λi ys H' ⟨e,_⟩=>by rw[e];exact Nat.zero_le _) ?_ ?_⟩
  ·rintro i kv ys H' gz ⟨rfl,rfl⟩
   obtain⟨x,hx,e⟩:∃x,x∈de z y/\kv.1=Sum.inr x:=by
    have hm:kv.1∈(fM (kn due) c' (de z y)).map (·.1):=Zr.mpr ⟨kv,ZQ gz,rfl⟩;rw[ek]at hm;obtain⟨x,hx,e⟩:=Zr.mp hm;exact⟨x,hx,e.symm⟩
   have hv:=Fe (k:=kn due) (c:=c') hx
   have hw:Builtin.bitAnd ((gA (kn due) c' ((de z y).idxOf x):Nat):Int) (kn due:Int)=((gA (kn due) c' ((de z y).idxOf x):Nat):Int):=by
    rw[DS];unfold gA;split
    ·rw[Nat.and_self]
    ·rw[Nat.zero_and]
   rw[e];refine⟨_,Zj,_,Zj,p,_,Zj,.inl ⟨_,Sum.inr x,.inr ⟨ob,hp8⟩,Zj,hv.symm⟩,_,Zj,_,_,Zj,Zj,_,Zj,_,Zj,p,_,Zj,.inl ⟨_,Sum.inr x,.inr ⟨ob,hp8⟩,Zj,hv.symm⟩,Zj,_,Zj,?_⟩;show(if (!decide (V.int (Builtin.bitAnd ((gA (kn due) c' ((de z y).idxOf x):Nat):Int) (kn due:Int))=V.int ((gA (kn due) c' ((de z y).idxOf x):Nat):Int)))=true then _ else _);rw[hw,ZL rfl];exact Ac ⟨Zj,Zj⟩
  ·rintro ys H' ⟨rfl,rfl⟩ p2 al;have sp2:=AE (aA.refl _) al (o:=HO.lst []);refine⟨(by show 0<=sizeLine;decide),λp3 iE=>?_⟩;have sp3:=AE (aA.refl _) iE (o:=HO.lst []);refine⟨_,_,DK (sp3 _ _ AB) Jt,DK AB Jt,Ey,Ey,_,Zj,?_⟩;rw[Np];exact Ac (hR2 _ _ ⟨Zj,sp2.trans sp3⟩)
 rintro σ H9 ⟨rfl,s9⟩;have hp9:=s9 _ _ hp8;have s09:=s08.trans s9;obtain⟨kt,ks⟩:=Tj DO Z Y;have kvx:∀c∈ji z y,Av (fM (kn due) c' (de z y)) (Sum.inr ⟨#[c]⟩)=some (.int (((dM due (de z y) c').tb ⟨#[c]⟩:Nat):Int)):=λc hc=>Fe (Zr.mpr ⟨c,hc,rfl⟩);refine⟨_,Zj,_,Zj,_,Zj,_,Zj,.mk v nu p t due _ (λc=>(((dM due (de z y) c').tb ⟨#[c]⟩:Nat):Int)) (ji z y) Zj (lt.same s09) kt (.inr ⟨ob,hp9⟩) kvx Z.ht (LX s09 hN) ⟨_,Zj,_,Zj,_,Zj,_,Zj,.mk u nu p s' due _ (λc=>(((dM due (de z y) c').tb ⟨#[c]⟩:Nat):Int)) (ji z y) Zj (ls.same s09) ks (.inr ⟨ob,hp9⟩) kvx Y.ht (LX s09 hN) ⟨Zj,_,Zj,?_⟩⟩⟩;have e1:=OE (n:=dM due (de z y) c') DO OG kt;have e2:=OE (n:=dM due (de z y) c') DO OG ks;change t.cI due (λc=>(((dM due (de z y) c').tb ⟨#[c]⟩:Nat):Int))=_ at e1;change s'.cI due (λc=>(((dM due (de z y) c').tb ⟨#[c]⟩:Nat):Int))=_ at e2;rw[e1,e2,ZO (show ¬ V.int ((t.tr.cK (dM due (de z y) c'):Nat):Int)=V.int ((s'.tr.cK (dM due (de z y) c'):Nat):Int)from λw=>jv (Int.ofNat.inj (V.int.inj w)))];exact Ac (hR _ _ s09)
end
structure FunC (K:FG) (x qual:Str) (st:Stmt) (f:Xd) (fd:FuncData) (c:Xd):Prop where
 ex:∃(oc:Value) (od:Option Xd) (kV doc pm:Value) (an:Option Xd) (ct:Value) (gp:Array (Option Value)),
  fd=W.fnOf x qual (defArgs st) (defBody st) (defScope st) .none kV doc pm an (.ref c) ct/\K.lookup f=some ⟨oc,od,.func fd,gp⟩/\W.codeIn K (.ref c) qual=true
theorem FunC.ok {x qual:Str}{st:Stmt}{f c:Xd}{N ps:Xa}{k:Nat}{sp:Sp} (F:FunC K x qual st f fd c) (S:AN N ps (defScope st)) (len:∀vs H Q E,sp vs H Q E->vs.length=ps.length)
  (bh:∀(A:Around) (outer:List Env) (s:Xe) (H:Hp) (vs:Xc) (Q:VK) (E:XK),aI k (A.deeper (PyProof.Rows.envOfC qual (defScope st) s.heap.objs.size f (.ref c)))->sp vs H Q E ->
   ∃t,eK (BM aT P w K mg base N qual (defScope st) f (.ref c) A outer s H E).gP (defBody st) t/\t { nx:=λ_ H'=>Q .aP H',rt:=Q } (Bo N vs) H):Af P w K mg base aT (k+1) f fd ps sp:=by
 obtain⟨oc,od,kV,doc,pm,an,ct,gp,rfl,lk,fg⟩:=F.ex;refine NO lk fg S len λA outer s H vs Q E hr gF=>?_;obtain⟨t,h,q⟩:=bh A outer s H vs Q E hr gF;exact⟨t,h.gP,q⟩
noncomputable def S9:Stmt->List Stmt | .For _ _ b _ _=>b |_=>[]
noncomputable def EV (i:Nat):Expr->Expr | .Call _ es _ _=>es.getD i (.Name "" ⟨0,0,0,0⟩) |e=>e
noncomputable def WB:Stmt->Expr | .If (.Compare l _ _ _) _ _ _=>l |_=>.Name "" ⟨0,0,0,0⟩
noncomputable def Uy (l:List Stmt) (i:Nat):Stmt:=l.getD i (.Pass ⟨0,0,0,0⟩)
noncomputable def Tl:List Stmt:=S9 (Uy (defBody EM) 0)
noncomputable def JJ:Expr:=WB (Uy Tl 5)
noncomputable def JK:Expr:=WB (Uy Tl 6)
noncomputable def OK:Expr->Expr | .Lambda _ b _ _=>b |e=>e
noncomputable def Rh:Expr->Arguments | .Lambda a _ _ _=>a |_=>defArgs EM
noncomputable def Lb:Expr->Scope | .Lambda _ _ sc _=>sc |_=>defScope EM
noncomputable def J8:Expr->Pos | .Lambda _ _ _ p=>p |_=>⟨0,0,0,0⟩
noncomputable def LS:List Pos:=[J8 (EV 0 JJ),J8 (EV 0 JK)]
theorem Tm (j:Nat):∀l,LS[j]?=some l->∀q∈LS,q=l\/(q.line==l.line&&q.col==l.col)=false:=by
 have key:(LS.all λl=>LS.all λq=>decide (q=l) || !(q.line==l.line&&q.col==l.col))=true:=by decide +kernel
 intro l hl q hq;have h1:=List.all_eq_true.mp (List.all_eq_true.mp key l (ZQ hl)) q hq;rw[Bool.or_eq_true]at h1;rcases h1 with z |z
 ·exact .inl (ZV z)
 ·exact .inr (by rw[Bool.not_eq_true']at z;exact z)
theorem F8 {α β:Type} [BEq α] [LawfulBEq α] {x:α}{v:β}:∀ {l:List (α×β)},l.lookup x=some v->(x,v)∈l
  | [],h=>by cases h
  | (y,u)::r,h=>by
    rw[Zz]at h;cases e:x==y with
    |true =>
      rw[e]at h;cases h;rw[eq_of_beq e];exact ZI ..
    |false =>
      rw[e]at h;exact ZR _ (F8 h)
theorem TB {scope:Scope}{cD:List (Str×Xd)} (h:scope.names.all (λp=>!(p.2 == .cell ||p.2 == .free)||(cD.lookup p.1).isSome)=true):∀x,(scope.names.lookup x=some .cell\/scope.names.lookup x=some .free)->∃c,cD.lookup x=some c:=λx hx=>by
 have g:∀k,scope.names.lookup x=some k->(k == .cell ||k == .free)=true->∃c,cD.lookup x=some c:=λk e hk=>by
  have:=List.all_eq_true.mp h _ (F8 e);simp only[hk,Bool.not_true,Bool.false_or]at this;exact Option.isSome_iff_exists.mp this
 rcases hx with z |z
 ·exact g _ z rfl
 ·exact g _ z rfl
noncomputable def qL:Str := "law.<locals>." ++ "<lambda>"
def Lc (H H':Hp):Prop:=∀b o,H b=some o->(∀x y:Int,o≠ .lst [.int x,.int y])->(∀ps,o≠ .fk ps)->(∀g,o≠ .ext g)->H' b=some o
theorem aX.keeps {p:Xd}{r:Str} (s:Lc H H') (h:aX C H p due r):aX C H' p due r:=by
 obtain⟨dx,d1,o1,d2,o2,a,b,c⟩:=h.ex;exact⟨⟨dx,d1,o1,d2,o2,s _ _ a (λ_ _ z=>nomatch z) (λ_ z=>nomatch z) (λ_ z=>nomatch z),s _ _ b (λ_ _ z=>nomatch z) (λ_ z=>nomatch z) (λ_ z=>nomatch z),s _ _ c (λ_ _ z=>nomatch z) (λ_ z=>nomatch z) (λ_ z=>nomatch z)⟩⟩
theorem aB.keeps {as:List Xd}{ps:List (V×V)} (s:Lc H H') (h:aB H as ps):aB H' as ps:=aB.aL (λb xs e=>s _ _ e (λ_ _ z=>nomatch z) (λ_ z=>nomatch z) (λ_ z=>nomatch z)) h
theorem TC {ms:List Xd}{x y:Int}:HO.lst (ms.map V.ref)≠ .lst [.int x,.int y]:=λz=>by
 injection z with z
 cases ms with
 |nil=>cases z
 |cons a r=>cases z
theorem aV.same {P0:Xd}{q:Str}{ls:List Pos} (s:aA H H') (h:aV H P0 q ls):aV H' P0 q ls:=by
 obtain⟨ps,h1,h2,h3⟩:=h;refine⟨ps,s _ _ h1,h2,λx hx=>?_⟩;rcases h3 x hx with z |⟨c,z1,z2⟩
 ·exact .inl z
 ·exact .inr ⟨c,z1,s _ _ z2⟩
theorem aV.dh {d:Xd}{P0:Xd}{q:Str}{ls:List Pos}{x y:Int} (hd:H d=some (.lst [.int x,.int y])) (s:aG d H H') (h:aV H P0 q ls):aV H' P0 q ls:=by
 obtain⟨ps,h1,h2,h3⟩:=h;refine⟨ps,s.old _ _ h1 (λz=>by subst z;rw[hd]at h1;cases h1),h2,λx hx=>?_⟩;rcases h3 x hx with z |⟨c,z1,z2⟩
 ·exact .inl z
 ·exact .inr ⟨c,z1,s.old _ _ z2 (λz=>by subst z;rw[hd]at z2;cases z2)⟩
theorem aV.ne {d:Xd}{P0:Xd}{q:Str}{ls:List Pos}{xs:Xc} (hd:H d=some (.lst xs)) (h:aV H P0 q ls):d≠P0:=λz=>by
 obtain⟨ps,h1,_⟩:=h;subst z;rw[hd]at h1;cases h1
def Rl (d P0:Xd) (H H':Hp):Prop:=∀b o,H b=some o->b≠d->b≠P0->(∀g,o≠ .ext g)->H' b=some o
theorem Rl.refl {d P0:Xd} (H:Hp):Rl d P0 H H:=λ_ _ e _ _ _=>e
theorem Rl.trans {d P0:Xd}{H1 H2:Hp} (a:Rl d P0 H H1) (b:Rl d P0 H1 H2):Rl d P0 H H2:=λc o e h1 h2 h3=>b c o (a c o e h1 h2 h3) h1 h2 h3
theorem Rl.same {d P0:Xd} (s:aA H H'):Rl d P0 H H':=λb o e _ _ _=>s b o e
theorem Rl.dh {d P0:Xd} (s:aG d H H'):Rl d P0 H H':=λb o e h _ _=>s.old b o e h
theorem Rl.sameB {d P0:Xd} (s:Ix P0 H H'):Rl d P0 H H':=λb o e _ h _=>s b o h e
theorem Ld {c':Xd}{q:Str}{dx:Option Xd}:FJ c' q≠Fp c' C dx:=λz=>by
 have h:({ objs:=Array.replicate (c'+1) ⟨.ref C,dx,.fields (Array.replicate 6 .none),#[]⟩ }:Heap).get? c'=some ⟨.ref C,dx,.fields (Array.replicate 6 .none),#[]⟩:=by
  unfold Heap.get?;rw[Array.getElem?_replicate,Zp (Nat.lt_succ_self _)]
 have hz:=congrFun (HO.ext.inj z) { objs:=Array.replicate (c'+1) ⟨.ref C,dx,.fields (Array.replicate 6 .none),#[]⟩ };have hy:=hz.mpr ⟨_,_,h,rfl,rfl,rfl,qc,qc⟩;obtain⟨c1,oc,vs,t,e,ho,hd,hq⟩:=hy;cases e;rw[h]at ho;cases ho;cases hd;rw[Array.getElem?_replicate]at hq;split at hq <;> cases hq
structure Wb (d P0:Xd) (H:Hp):Prop where
 bQ:∃x y:Int,H d=some (.lst [.int x,.int y])
 tab:aV H P0 qL LS
theorem Wb.keeps {d P0:Xd} (s:Rl d P0 H H') (h:Wb d P0 H):Lc H H':=λb o eb h1 h2 h3=>by
 refine s b o eb (λz=>?_) (λz=>?_) h3
 ·subst z;obtain⟨x,y,hd⟩:=h.bQ;rw[hd]at eb;cases eb;exact h1 _ _ rfl
 ·subst z;obtain⟨ps,hp,_⟩:=h.tab;rw[hp]at eb;cases eb;exact h2 _ rfl
theorem Wb.same {d P0:Xd} (s:aA H H') (h:Wb d P0 H):Wb d P0 H':=⟨by obtain⟨x,y,z⟩:=h.bQ;exact⟨x,y,s _ _ z⟩,aV.same s h.tab⟩
theorem Wb.sameB {d P0:Xd} (s:Ix P0 H H') (ht:aV H' P0 qL LS) (h:Wb d P0 H):Wb d P0 H':=by
 obtain⟨x,y,hd⟩:=h.bQ;exact⟨⟨x,y,s _ _ (aV.ne hd h.tab) hd⟩,ht⟩
theorem Wb.exc {d P0:Xd}{H1 H2:Hp}{e' C':Xd}{dx:Option Xd} (s1:aA H H1) (he:H1 e'=some (Fp e' C' dx)) (s2:aA (del H1 e') H2) (h:Wb d P0 H):Wb d P0 H2/\Rl d P0 H H2:=by
 have old:∀b o,H b=some o->o≠Fp b C' dx->H2 b=some o:=λb o eb hn=>by
  have eb1:=s1 _ _ eb;refine s2 _ _ ?_;have jw:b≠e':=λz=>by subst z;rw[he]at eb1;cases eb1;exact hn rfl
  unfold del;rw[Zq jw];exact eb1
 refine⟨⟨?_,?_⟩,λb o eb _ _ hx=>old b o eb (hx _)⟩
 ·obtain⟨x,y,hd⟩:=h.bQ;exact⟨x,y,old _ _ hd (λz=>nomatch z)⟩
 ·obtain⟨ps,h1,h2,h3⟩:=h.tab;refine⟨ps,old _ _ h1 (λz=>nomatch z),h2,λx hx=>?_⟩;rcases h3 x hx with z |⟨c,z1,z2⟩
  ·exact .inl z
  ·exact .inr ⟨c,z1,old _ _ z2 Ld⟩
theorem Le {b:Xd}{x y:Str}{n:Int} (h:H b=some (.tup [.str x,.str y,.int n])):CA K H (.tuple [.str x,.str y,.int n]) (.ref b):=by
 rw[CA];refine⟨b,_,Zj,aQ.of h,?_⟩;rw[BA];refine⟨_,_,Zj,by rw[CA],?_⟩;rw[BA];refine⟨_,_,Zj,by rw[CA],?_⟩;rw[BA];refine⟨_,_,Zj,by rw[CA],?_⟩;rw[BA]
theorem GZ {x y:Str}{n:Int} (h1:x.cps.all (· < 128)=true) (h2:y.cps.all (· < 128)=true):SeqAt.shaped (.tuple [.str x,.str y,.int n])=true:=by
 unfold SeqAt.shaped;simp only[Bool.and_eq_true,decide_eq_true_eq];refine⟨?_,?_⟩
 ·rw[PyData.canLay0];refine Ju λd hd=>?_;simp only[mem_cons,not_mem_nil,or_false]at hd;rcases hd with rfl |rfl |rfl
  ·rw[PyData.canLay0];exact DL h1
  ·rw[PyData.canLay0];exact DL h2
  ·rw[PyData.canLay0]
 ·simp only[PyData.depth,PyData.depthAll];omega
theorem Ri (x y:Str) (n:Int):PyData.eqv (.tuple [.str x,.str y,.int n]) (.tuple [.str x,.str y,.int n])=true:=Fb λd hd=>by
 simp only[mem_cons,not_mem_nil,or_false]at hd;rcases hd with rfl |rfl |rfl
 ·exact Bz _
 ·exact Bz _
 ·exact Jv _
theorem TD {ec:Nat->Xd}{cM cU:Xd}{j:Nat}{Q:VK}{d P0:Xd} (EP:LJ K ec cM cU j) (W:Wb d P0 H)
  (h:∀p H',Wb d P0 H'->Rl d P0 H H'->H' p=some (.tup [.str "refused", .str (wd j)])->Q (.ref p) H'):Uq H (JG K ec cM Q) cU:=λe H1 s1 _ _=>⟨cU,rfl,λe' he'=>.inl ⟨j,EP,rfl,λp H2 s2 hp=>by
 obtain⟨W2,R2⟩:=W.exc s1 he' s2
 exact h p H2 W2 R2 hp⟩⟩
theorem Rj {ec:Nat->Xd}{cM cA:Xd}{Q:VK}{d P0:Xd}{v:V} (EF:LL K ec cA 2) (W:Wb d P0 H)
  (h:∀p H',Wb d P0 H'->Rl d P0 H H'->H' p=some (.tup [.str "refused", .str "BadText", v])->Q (.ref p) H'):kb H (JG K ec cM Q) cA v:=λe dx H1 s1 _ _ _ _ hX=>⟨cA,rfl,λe' he'=>.inr ⟨2,dx,v,EF,rfl,by
 have hde:dx≠e':=λz=>by rw[←z,hX]at he';cases he'
 show del H1 e' dx=_;unfold del;rw[Zq hde];exact hX,λp H2 s2 hp=>by
 obtain⟨W2,R2⟩:=W.exc s1 he' s2
 exact h p H2 W2 R2 hp⟩⟩
theorem IA {x y:Str} (h1:x.cps.all (· < 128)=true:=by decide +kernel) (h2:y.cps.all (· < 128)=true:=by decide +kernel):SeqAt.shaped (.tuple [.str x,.str y])=true:=by
 unfold SeqAt.shaped;simp only[Bool.and_eq_true,decide_eq_true_eq];refine⟨?_,?_⟩
 ·rw[PyData.canLay0];refine Ju λd hd=>?_;simp only[mem_cons,not_mem_nil,or_false]at hd;rcases hd with rfl |rfl
  ·rw[PyData.canLay0];exact DL h1
  ·rw[PyData.canLay0];exact DL h2
 ·simp only[PyData.depth,PyData.depthAll];omega
theorem TF (x y:Str):PyData.eqv (.tuple [.str x,.str y]) (.tuple [.str x,.str y])=true:=Fb λd hd=>by
 simp only[mem_cons,not_mem_nil,or_false]at hd;rcases hd with rfl |rfl
 ·exact Bz _
 ·exact Bz _
inductive spLaw (K:FG) (P0 bd:Xd) (vs:Xc) (H:Hp) (Q:VK) (_E:XK):Prop where
 |mk (a:Xd) (ns:List Int) (cJ:vs=[.ref a]) (cP:aK K H a (ns.map V.int)) (cV:ns.length<=63) (dr:aV H P0 qL LS) (d9:Rd H bd (.dK Bq)) (gi:∀H',Q (.bl true) H')
noncomputable abbrev Lf:Xa:=["_law_script", "_law_dice", "_law_rows", "_law_due", "_law_way", "_law_table", "_law_numbers", "_law_name", "_law_number", "_law_kind", "_law_names", "_law_turn", "_law_one", "_law_tree_here", "_law_other", "_law_more", "_law_found"]
theorem scLaw:AN Lf ["_law_script"] (defScope EM):=cS
section
variable {cM cR cB cN cT c P0 bd:Xd}{ec:Nat->Xd}
theorem OL {X:Cx}{Nl:Xa}{ix:List Nat}{scope:Scope}{cD:List (Str×Xd)} (h1:ix.length=Nl.length)
  (h2:(List.range Nl.length).all (λi=>match Nl[i]?,ix[i]? with |some x,some j=>decide (X.N[j]?=some x)&&decide (X.env.scope.names.lookup x=some .cell)&&decide (scope.names.lookup x=some .free) |_,_=>false)=true)
  (h3:∀p∈cD,X.env.cells.lookup p.1=some p.2) (h4:scope.names.all (λp=>!(p.2 == .cell ||p.2 == .free)||(cD.lookup p.1).isSome)=true) (h5:∀x,X.fn x=true):LamN X Nl ix scope cD:=by
 refine⟨h1,λi x h=>?_,λx c h=>h3 _ (F8 h),TB h4,h5⟩;have hi:i<Nl.length:=(Z8.mp h).1;have:=List.all_eq_true.mp h2 i (mem_range.mpr hi);rw[h]at this;cases e:ix[i]? with
 |none=>rw[e]at this;cases this
 |some j =>
  rw[e]at this;simp only[Bool.and_eq_true,decide_eq_true_eq]at this;exact⟨j,Zj,this.1.1,this.1.2,this.2⟩
section
variable {f0 fT0:Xd}{dT0:FuncData}{A:Around}{outer:List Env}{s:Xe}{E:XK}
 (FT:aY K "_law_told" "_law_told" Aq fT0 dT0) (mT0:mg "_law_told" = some (.ref fT0)) (bT0:Binds K dT0 ["_law_deed"] []) (M:PX mg ec) (EX:RB K mg ec cM) (GW:FnS P w K mg base "_law_word" 1 ["_law_e"] (Dd K ec)) (LC:SJ (BM aT P w K mg base Lf "law" (defScope EM) f0 (.ref c) A outer s H E).gP c P0) (hr:aI 9 (BM aT P w K mg base Lf "law" (defScope EM) f0 (.ref c) A outer s H E).gP.A) {fX:Xd}{dX:FuncData} (GX:Af P w K mg base (eZ P w) 7 fX dX ["kind", "one", "other"] (f9 C cB bd cT)) (mX:mg "alike" = some (.ref fX)) (kX:W.keepIn K (.ref fX)=true) (bX:Binds K dX ["kind", "one", "other"] [])
include FT mT0 bT0 M EX GW LC hr GX mX kX bX
theorem Uz:PE (BM aT P w K mg base Lf "law" (defScope EM) f0 (.ref c) A outer s H E).gP JJ (RF K ec cM P0 qL LS [9] (λE=>KK (f9 C cB bd cT) [] E (Al (IC 0) (Al (tC (.str "ZZ")) (Al (tC (.str "x|")) C1))))) :=
   Nw (X:=(BM aT P w K mg base Lf "law" (defScope EM) f0 (.ref c) A outer s H E).gP) (params:=Rh (EV 0 JJ)) (body:=OK (EV 0 JJ)) (scope:=Lb (EV 0 JJ)) (Nl:=["_law_kind"]) (k:=7) (cX:=J8 (EV 0 JJ)) FT M EX GW hr rfl mT0 FT.kp bT0 LC (ZQ (i:=0) rfl) (Tm 0 _ rfl) rfl rfl (OL rfl qd (by intro p hp;simp only[mem_cons,not_mem_nil,or_false]at hp;rcases hp with rfl <;> kernel_rfl) qd (λ_=>rfl)) (λ_ _ _=>rfl) rfl rfl rfl qb
    (λlf c' A' outer' s' H' E hr=>AQ GX (hr.mono qc) rfl mX kX bX .nil TW (AA (pv 0) (AA AK (AA AK AC))))
theorem U0:PE (BM aT P w K mg base Lf "law" (defScope EM) f0 (.ref c) A outer s H E).gP JK (RF K ec cM P0 qL LS [9] (λE=>KK (f9 C cB bd cT) [] E (Al (IC 0) (Al (tC (.str "x")) (Al (tC (.str "ZZ")) C1))))) :=
   Nw (X:=(BM aT P w K mg base Lf "law" (defScope EM) f0 (.ref c) A outer s H E).gP) (params:=Rh (EV 0 JK)) (body:=OK (EV 0 JK)) (scope:=Lb (EV 0 JK)) (Nl:=["_law_kind"]) (k:=7) (cX:=J8 (EV 0 JK)) FT M EX GW hr rfl mT0 FT.kp bT0 LC (ZQ (i:=1) rfl) (Tm 1 _ rfl) rfl rfl (OL rfl qd (by intro p hp;simp only[mem_cons,not_mem_nil,or_false]at hp;rcases hp with rfl <;> kernel_rfl) qd (λ_=>rfl)) (λ_ _ _=>rfl) rfl rfl rfl qb
    (λlf c' A' outer' s' H' E hr=>AQ GX (hr.mono qc) rfl mX kX bX .nil TW (AA (pv 0) (AA AK (AA AK AC))))
end
end
structure Ad where
 (a d f u t kp nu e m wl:Xd) (bs:List Xd)
noncomputable def jH (a:Xd) (f:Nat->Option V):St:=[some (.ref a),f 1,f 2,f 3,f 4,f 5,f 6,f 7,f 8,f 9,f 10,f 11,f 12,f 13,f 14,f 15,f 16]
noncomputable def iL (z:Ad) (r:Str) (x7 x8 je jd jc iY iX ij:Option V):St:=[some (.ref z.a),some (.ref z.d),some (.ref z.f),some (.ref z.u),some (.str r),some (.ref z.t),some (.ref z.nu),x7,x8,some (.ref z.kp),some (.ref z.wl),je,jd,jc,iY,iX,ij]
theorem WC (z:Ad) (r:Str) (x7 x8 je jd jc iY iX ij:Option V):∃f,iL z r x7 x8 je jd jc iY iX ij=jH z.a f:=⟨λn=>(iL z r x7 x8 je jd jc iY iX ij).getD n none,rfl⟩
structure RdI (a l bd P0:Xd) (as:List Xd) (i:Nat) (σ:St) (H:Hp):Prop where
 st:∃f,σ=jH a f
 hl:H l=some (.lst (as.map V.ref))
 hb:Rd H bd (.dK Bq)
 tb:aV H P0 qL LS
 ds:∀(j:Nat) b,i<=j->as[j]?=some b->∃x y:Int,H b=some (.lst [.int x,.int y])
theorem Rd.keeps {bd:Xd}{kvs:LK} (s:Lc H H') (h:Rd H bd (.dK kvs)):Rd H' bd (.dK kvs):=by
 rcases h with h |⟨o,h⟩
 ·exact .inl (s _ _ h (λ_ _ z=>nomatch z) (λ_ z=>nomatch z) (λ_ z=>nomatch z))
 ·exact .inr ⟨o,s _ _ h (λ_ _ z=>nomatch z) (λ_ z=>nomatch z) (λ_ z=>nomatch z)⟩
theorem RdI.fin {a l bd d P0:Xd}{as:List Xd}{i:Nat}{σ aJ:St} (h:RdI a l bd P0 as i σ H) (nd:as.Nodup) (hla:l∉ as) (fG:as[i]?=some d) (R:Rl d P0 H H') (hT:aV H' P0 qL LS) (hs:∃f,aJ=jH a f):RdI a l bd P0 as (i+1) aJ H':=by
 obtain⟨x,y,hd⟩:=h.ds i d (Zy _) fG;have kp:Lc H H':=Wb.keeps R ⟨⟨x,y,hd⟩,h.tb⟩;refine⟨hs,R _ _ h.hl (λz=>hla (z ▸ ZQ fG)) (aV.ne h.hl h.tb) (λ_ z=>nomatch z),Rd.keeps kp h.hb,hT,λj b hj e=>?_⟩
 have hbd:b≠d:=λz=>by
  subst z;obtain⟨hj2,ej⟩:=Z8.mp e;obtain⟨ju,ei⟩:=Z8.mp fG;exact(List.pairwise_iff_getElem.mp nd) i j ju hj2 qe (by rw[ei,ej])
 obtain⟨x5,y5,e5⟩:=h.ds j b qe e;exact⟨x5,y5,R _ _ e5 hbd (aV.ne e5 h.tb) (λ_ z=>nomatch z)⟩
structure Wf (C bd P0:Xd) (z:Ad) (due:Aa) (r:Str) (H:Hp):Prop where
 wb:Wb z.d P0 H
 ka:aX C H z.kp due r
 ht:H z.t=some (.dK (Mx due z.e z.m))
 hn:H z.nu=some (.dK (Ax due))
 hu:H z.u=some (.lst (z.bs.map V.ref))
 gG:aB H z.bs (FY due)
 hb:Rd H bd (.dK Bq)
 hw:H z.wl=some (.lst ((due.map (·.1)).map V.str))
theorem TH {ms:Xa}{x y:Int}:HO.lst (ms.map V.str)≠ .lst [.int x,.int y]:=λz=>by
 injection z with z
 cases ms with
 |nil=>cases z
 |cons a r=>cases z
theorem Wf.go {bd P0:Xd}{z:Ad}{r:Str} (h:Wf C bd P0 z due r H) (R:Rl z.d P0 H H') (wb:Wb z.d P0 H'):Wf C bd P0 z due r H':=by
 have kp:=h.wb.keeps R;exact⟨wb,h.ka.keeps kp,kp _ _ h.ht (λ_ _ z=>nomatch z) (λ_ z=>nomatch z) (λ_ z=>nomatch z),kp _ _ h.hn (λ_ _ z=>nomatch z) (λ_ z=>nomatch z) (λ_ z=>nomatch z),kp _ _ h.hu (λ_ _=>TC) (λ_ z=>nomatch z) (λ_ z=>nomatch z),aB.keeps kp h.gG,Rd.keeps kp h.hb,kp _ _ h.hw (λ_ _=>TH) (λ_ z=>nomatch z) (λ_ z=>nomatch z)⟩
structure Gd (z:Ad) (P0:Xd) (H0 H:Hp):Prop where
 rl:Rl z.d P0 H0 H
 wb:Wb z.d P0 H
section
variable {z:Ad}{P0 bd a:Xd}{H0:Hp}{r:Str}{kvs:LK}{u:HO}
theorem Gd.wf (g:Gd z P0 H0 H) (W0:Wf C bd P0 z due r H0):Wf C bd P0 z due r H:=W0.go g.rl g.wb
theorem Gd.go (g:Gd z P0 H0 H) (R:Rl z.d P0 H H') (wb:Wb z.d P0 H'):Gd z P0 H0 H':=⟨g.rl.trans R,wb⟩
theorem Gd.same (g:Gd z P0 H0 H) (s:aA H H'):Gd z P0 H0 H':=g.go (Rl.same s) (g.wb.same s)
theorem Gd.dh (g:Gd z P0 H0 H) (s:aG z.d H H'):Gd z P0 H0 H':=by
 obtain⟨x,y,hd⟩:=g.wb.bQ;exact g.go (Rl.dh s) ⟨s.bQ,aV.dh hd s g.wb.tab⟩
theorem Gd.sameB (g:Gd z P0 H0 H) (s:Ix P0 H H') (ht:aV H' P0 qL LS):Gd z P0 H0 H':=g.go (Rl.sameB s) (g.wb.sameB s ht)
end
structure LpI (P0:Xd) (z:Ad) (r:Str) (H0:Hp) (σ:St) (H:Hp):Prop where
 st:∃x7 x8 je jd jc iY iX ij,σ=iL z r x7 x8 je jd jc iY iX ij
 gd:Gd z P0 H0 H
theorem WD:ja true ("ZZ" : Str).cps.toList:=N2 qb qb qb
theorem WE:ja true ("x" : Str).cps.toList:=(Hr (n:=⟨[],[((Sum.inr "x" : Key),.int ((0:Nat):Int))],λ_=>0⟩) (c:=120) rfl qd).pw true (.inr rfl)
theorem Tn:Rn true "ZZ" (.ok ["ZZ"]) 0 [] [] true:=Fd (t:=.wd "ZZ") (Wr.wd "ZZ" 0 [] (.inl rfl) WD)
theorem W6:Rn true "x" (.ok ["x"]) 0 [] [] true:=Fd (t:=.wd "x") (Wr.wd "x" 0 [] (.inl rfl) WE)
theorem U1:Rn true "x|" (.bad 2) 0 [] [] true:=by
 have:=Uj (lt:=true) (z := "x|") (Wr.wd "x" 0 [] (.inl rfl) WE) qb;rw[show("x|" : Str).length=2 by decide +kernel]at this;exact this
section
variable {cB bd cT kp:Xd}{r:Str}{Q:VK}{E:XK}
theorem WF (hB:Rd H bd (.dK Bq)) (q:kb H E cT (.int 2)):f9 C cB bd cT [.ref kp,.str "ZZ", .str "x|"] H Q E:=.bad kp "ZZ" "x|" ["ZZ"] 2 rfl qb qb Tn qb qb U1 hB q
theorem WG (KA:aX C H kp due r) (hz:("ZZ" : Str)∉ due.map (·.1)) (hB:Rd H bd (.dK Bq)) (q:Uq H E cB):f9 C cB bd cT [.ref kp,.str "x", .str "ZZ"] H Q E:=by
 refine .mk kp "x" "ZZ" ["x"] ["ZZ"] due r Zj KA qb qb W6 qb qb Tn ⟨qc,qc⟩ (λx hx=>?_) hB (.no (λns L=>?_) q)
 ·rcases mem_cons.mp hx with rfl |hx
  ·decide +kernel
  ·obtain rfl:=ZG.mp hx;decide +kernel
 ·have hx:("x" : Str)∈ns:=(L.mem "x").mpr ⟨ZI ..,qb⟩;have W:=Hr (n:=dM due ns 0) (c:=120) rfl (Fe hx);exact⟨_,.cons _ _ _ _ (.wd "x" W.ok []) (.nil _ Zj),.no [] "ZZ" [] ⟨qb,qb,qb,qb,hz⟩ Zj⟩
end
section
variable {cM cB cT c P0 bd:Xd}{ec:Nat->Xd}
theorem U2 {f0 fT0:Xd}{dT0:FuncData} (F:FunC K "law" "law" EM f0 fd c) (FT:aY K "_law_told" "_law_told" Aq fT0 dT0) (mT0:mg "_law_told" = some (.ref fT0)) (bT0:Binds K dT0 ["_law_deed"] [])
  (hC:W.CodeHd base c P0) (hBu:base.BuiltinsAt mg P0) (B:Bl mg) (KO:Rb P w K mg base C) (M:PX mg ec) (EX:RB K mg ec cM) (GWd:FnS P w K mg base "_law_word" 1 ["_law_e"] (Dd K ec))
  (ET:LL K ec cT 2) (EPB:LJ K ec cM cB 5)
  (GRd:Fn P w K mg base "_law_rounds" 2 ["_law_script", "_law_most"] (spRounds K)) (GL:Fn P w K mg base "_law_lines" 3 ["_law_dice", "_law_most"] spLines) (GRu:Fn P w K mg base "_law_rule_of" 3 ["_law_dice"] spRuleOf) (GT:Fn P w K mg base "_law_table_of" 2 ["_law_due"] spTable)
  (GRo:Fn P w K mg base "_law_roll" 2 ["_law_dice", "_law_many"] dj)
  (GF:Fn P w K mg base "_law_formula" 7 OA spForm) (GB:Fn P w K mg base "_law_both" 3 RZ spBoth) (GW:Fn P w K mg base "_law_written" 8 J6 (spWrt 5)) (GH:Fn P w K mg base "_law_holds" 8 pHo (spHo C bd)) (GA:FnR P w K mg base "alike" 7 ["kind", "one", "other"] (f9 C cB bd cT)) :
  Af P w K mg base aT 10 f0 fd ["_law_script"] (spLaw K P0 bd):=by
 obtain⟨fRd,dRd,GRd,mRd,kRd,bRd⟩:=GRd.ex;obtain⟨fL,dL,GL,mL,kL,bL⟩:=GL.ex;obtain⟨fRu,dRu,GRu,mRu,kRu,bRu⟩:=GRu.ex;obtain⟨fT,dT,GT,mT,kT,bT⟩:=GT.ex;obtain⟨fRo,dRo,GRo,mRo,kRo,bRo⟩:=GRo.ex;obtain⟨fF,dF,GF,mF,kF,bF⟩:=GF.ex;obtain⟨fB,dB,GB,mB,kB,bB⟩:=GB.ex;obtain⟨fW,dW,GW,mW,kW,bW⟩:=GW.ex;obtain⟨fH,dH,GH,mH,kH,bH⟩:=GH.ex;obtain⟨fA,dA,GA,mA,kA,bA⟩:=GA.ex;obtain⟨fI,dI,MI,GI,⟨gI,kbI⟩,ds,bI,vI⟩:=KO.make;have mC:=KO.cls;refine F.ok scLaw (λvs H Q E h=>?_) (λA outer s H vs Q E hr h=>?_)
 ·obtain⟨a,ns,rfl,_⟩:=h;rfl
 ·obtain⟨a,ns,rfl,hS,h63,hTab,hB,kend⟩:=h;have hu:=Cm hr;have hu64:=hr.units;have fV:aI 2 _:=hr.mono qc;have hr3:aI 3 _:=hr.mono qc;have hr7:aI 7 _:=hr.mono qc;have hr8:aI 8 _:=hr.mono qc;have nd:=scLaw.nd;have LC:SJ (BM aT P w K mg base Lf "law" (defScope EM) f0 (.ref c) A outer s H E).gP c P0:=⟨rfl,hC,hBu⟩
  refine⟨_,eA.h (CQ (Nf PassesOwn.never Zj (QW (Au GRd fV Zj mRd kRd bRd .nil AR (AT (.mk (pv 0)) (AT (.mk AD) BD)))) (AV (i:=1) nd Zj (Or.inl Zj))
    (CQ (.mk (B6 (cE.h (Au GL hr3 rfl mL kL bL .nil AR (AT (.mk (pv 1)) (AT (.mk AD) BD)))) (Bc rfl (AY (AV (i:=2) nd rfl (Or.inl rfl)) (AY (AV (i:=3) nd rfl (Or.inl rfl)) BE)))))
    (CQ (.mk (SU (i:=4) (j:=5) (k:=6) rfl nd rfl rfl rfl rfl rfl rfl (AA (cE.h (Au GRu hr3 rfl mRu kRu bRu .nil AR (AT (.mk (pv 1)) BD))) (AA (cE.h (Au GT fV rfl mT kT bT .nil AR (AT (.mk (pv 3)) BD))) (AA FD AC))) qd))
    (BI (Nf PassesOwn.never rfl (QW (.mk (pv 3))) (Bc rfl (AY (AV (i:=7) nd rfl (Or.inl rfl)) (AY (AV (i:=8) nd rfl (Or.inl rfl)) BE))) (A5 (.mk (JV hu (pv 6) (pv 7) (pv 8) rfl))))
    (CQ (.mk (B6 (hs:=by kernel_rfl) (hw:=by kernel_rfl) (As (AA (QG MI GI hr7 rfl mC kbI (AA (pv 2) AC) (NN (pv 4) Px)) (AA (HC [] [] qd qb qd qd rfl (CJ (pv 3)) (λ_ _ _ _ _ _=>Bu) (λ_ _ _ _ _ _=>pv 0)) AC))) (Bc rfl (AY (AV (i:=9) nd rfl (Or.inr rfl)) (AY (AV (i:=10) nd rfl (Or.inl rfl)) BE)))))
    (BI (Nf PassesOwn.never rfl (.mk (B7 rfl B.range (AA AD AC))) (AV (i:=11) nd rfl (Or.inl rfl))
     (BI (.mk (B6 (cE.h (Au GF hr7 rfl mF kF bF .nil AR (AT (.mk (pv 1)) (AT (.mk (pv 10)) (AT (.mk AK) BD))))) (Bc rfl (AY (AV (i:=12) nd rfl (Or.inl rfl)) (AY (AV (i:=13) nd rfl (Or.inl rfl)) BE)))))
     (BI (.mk (B6 (cE.h (Au GF hr7 rfl mF kF bF .nil AR (AT (.mk (pv 1)) (AT (.mk (pv 10)) (AT (.mk AK) BD))))) (Bc rfl (AY (AV (i:=14) nd rfl (Or.inl rfl)) (AY (AV (i:=15) nd rfl (Or.inl rfl)) BE)))))
     (BI (C3 (.mk (AM Aw (cE.h (Au GRo fV rfl mRo kRo bRo .nil AR (AT (.mk (pv 1)) (AT (.mk AD) BD)))) AD (AS _))) (CQ (Cn (i:=15) nd rfl (Or.inl rfl) (Au GB hr3 rfl mB kB bB .nil AR (AT (.mk (pv 1)) (AT (.mk (pv 13)) BD)))) (A5 (Cn (i:=14) nd rfl (Or.inl rfl) (Au GW hr8 rfl mW kW bW .nil AR (AT (.mk (pv 1)) (AT (.mk (pv 15)) (AT (.mk AD) BD))))))) BH)
     (A5 (C3 (.mk (AM E4 (AW Az rfl B.len PySem.boot_len (AA (pv 14) AC)) AD (AS _)))
      (BI (C3 (.mk (Bs (BB (cE.h (Au GH hr8 rfl mH kH bH .nil AR (AT (.mk (pv 9)) (AT (.mk (pv 5)) (AT (.mk (pv 6)) (AT (.mk (pv 12)) (AT (.mk (pv 13)) (AT (.mk (pv 14)) (AT (.mk (pv 15)) BD)))))))))))) (A5 (.mk Ak)) BH)
      (BI (Cn (i:=16) nd rfl (Or.inl rfl) (Au GA hr7 rfl mA kA bA .nil OJ (AT (.mk (pv 9)) (AT (.mk (pv 12)) (AT (.mk (pv 14)) BD)))))
      (BI (C3 (.mk (AM F9 (JL (Fh (cE.h (Au GA hr7 rfl mA kA bA .nil OJ (AT (.mk (pv 9)) (AT (.mk (pv 14)) (AT (.mk (pv 12)) BD))))))) (JL (Fh (pv 16))) (AS _))) (A5 (.mk Ak)) BH)
      (A5 (C3 (.mk (EY (NG (cE.h (Au GA hr7 rfl mA kA bA .nil OJ (AT (.mk (pv 9)) (AT (.mk (pv 12)) (AT (.mk (pv 12)) BD)))))))) (A5 (.mk Ak)) BH))))) BH))))))
    (BI (C3 (.mk (AM (HE K rfl hu64) (Uz FT mT0 bT0 M EX GWd LC hr GA mA kA bA) (As (AA AK (AA AK (AA AD AC)))) (AS _))) (A5 (.mk Ak)) BH)
    (A5 (C3 (.mk (AM (HE K rfl hu64) (U0 FT mT0 bT0 M EX GWd LC hr GA mA kA bA) (As (AA AK (AA AK AC))) (AS _))) (A5 (.mk Ak)) BH)))))))))
   (A5 (.mk (AO De)))),?_⟩
  refine⟨_,Zj,a,ns,Zj,hS,h63,λl as H1 s1 hl nd' hla h5 be=>?_⟩
  refine⟨l,Zj,⟨_,aK.of hl⟩,C9 (K:=K) (a:=l) (xs:=as.map V.ref) (λi σ H2=>RdI a l bd P0 as i σ H2)
   ⟨⟨λ_=>none,rfl⟩,hl,aA.rd s1 hB,aV.same s1 hTab,λj b _ e=>(be b (ZQ e)).2⟩ (λi σ H2 _ R=>aK.of R.hl) ?_ (λσ H2 R=>by obtain⟨f,rfl⟩:=R.st;exact kend _)⟩
  rintro i v σ H2 hi RI;rw[ZE]at hi;obtain⟨d,fG,rfl⟩:=Z6.mp hi;obtain⟨x,y,hd⟩:=RI.ds i d (Zy _) fG;obtain⟨g,rfl⟩:=RI.st;refine⟨_,Zj,d,x,y,5,Zj,qc,qc,hd,λq f u fs iF rows Ha sXa hq hfn hun hf hP hu0 gG r0 r10 RO ap=>?_⟩;refine⟨q,_,Zj,aQ.of hq,Zj,_,_,Zj,_,_,Zj,Zj,?_⟩;obtain⟨xa,ya,hda⟩:=sXa.bQ;have fd_:f≠d:=λz=>by rw[z,hd]at hfn;cases hfn
  have ud:u≠d:=λz=>by rw[z,hd]at hun;cases hun
  have DO:=LD RO qe;refine⟨_,rfl,d,xa,ya,rfl,hda,λr Hb ao sXb=>?_⟩;obtain⟨xb,yb,eI⟩:=sXb.bQ;have tX:aN Ha Hb:=λb xs e=>sXb.old _ _ e (NE e hda λz=>nomatch z);have am:=sXb.old _ _ hu0 ud;have b9:=aB.aL tX gG;have hPb:Paired (dv Hb) fs rows:=Bn tX hP;have hfb:=sXb.old _ _ hf fd_;refine⟨_,rfl,u,iF,Aj rows,rfl,am,b9,DO.len,DO.lt,λt e m ms Hc sc ht he hm av=>?_⟩;refine λnu hnu=>⟨_,_,_,rfl,?_⟩;have sn:=AE (aA.refl _) hnu (o:=HO.dK []);have hn0:=AB (H:=Hc) (a:=nu) (o:=HO.dK []);have sbn:=sc.trans sn;have htn:=sn _ _ ht;have nut:nu≠t:=Ne.symm (AI ht hnu);have hnud:nu≠d:=Ne.symm (AI (sc _ _ eI) hnu);have hnuH:Hb nu=none:=none_of sc hnu;generalize upd Hc nu (HO.dK [])=Hd at sn hn0 sbn htn ⊢;have hud:=sbn _ _ am;have hbsd:=aB.aL (aN.of sbn) b9;have gj:iF.length=(Aj rows).length:=by rw[Ca b9,Bf]
  have keep:∀ {H3:Hp} (o:HO),aA Hb H3->aA Hb (upd H3 nu o):=λ{H3} o s b w e=>by rw[AH (AI e hnuH)];exact s b w e
  refine⟨λσ H'=>(∃x7 x8,σ=[some (.ref a),some (.ref d),some (.ref f),some (.ref u),some (.str r),some (.ref t),some (.ref nu),x7,x8,g 9,g 10,g 11,g 12,g 13,g 14,g 15,g 16])/\H' nu=some (.dK (Ax (Aj rows)))/\H' t=some (.dK (Mx (Aj rows) e m))/\aA Hb H',λR hR=>?_,?_⟩
  ·refine⟨_,Zj,u,Zj,⟨_,aK.of hud⟩,C9 (K:=K) (a:=u) (xs:=iF.map V.ref) (λj σ H'=>(∃x7 x8,σ=[some (.ref a),some (.ref d),some (.ref f),some (.ref u),some (.str r),some (.ref t),some (.ref nu),x7,x8,g 9,g 10,g 11,g 12,g 13,g 14,g 15,g 16])/\H' nu=some (.dK (Ax ((Aj rows).take j)))/\H' t=some (.dK (Mx (Aj rows) e m))/\aA Hb H') ⟨⟨_,_,Zj⟩,hn0,htn,sbn⟩ (λj σ H' _ h=>aK.of (h.2.2.2 _ _ am)) ?_ (λσ H' h=>hR _ _ ?_)⟩
   ·rintro j v σ H3 hj ⟨⟨x7,x8,rfl⟩,hn3,ht3,s3⟩;obtain⟨bb,pr,rfl,_,ak,aj⟩:=CZ (aB.aL (aN.of s3) b9) hj;refine⟨bb,_,Zj,aQ.of aj,Zj,_,_,Zj,_,_,Zj,Zj,?_⟩;have hjl:=(Z8.mp ak).1;have iA:=DO.len;refine⟨_,Zj,_,Zj,_,Zj,nu,_,Zj,.inl ⟨_,Sum.inr pr.1,hn3,Zj,AL ?_,Zj⟩,⟨_,_,Zj⟩,?_,?_,keep _ s3⟩
    ·unfold Ax;rw[AJ,ZA];omega
    ·rw[AB,Nm (Rc DO.nd ak),ZD,ak];rfl
    ·rw[AH (Ne.symm nut)];exact ht3
   ·obtain⟨h1,h2,h3,h4⟩:=h;rw[AJ,gj,ZB]at h2;exact⟨h1,h2,h3,h4⟩
  rintro σ He ⟨⟨x7,x8,rfl⟩,hnn,hte,sbe⟩;refine⟨_,Zj,_,Zj,?_⟩;intro k dk hk hdk aw;have sN:=LH (D:=C) hk hdk aw;refine⟨k,dk,f,rows,r,Zj,AB,⟨fs,sN _ _ (sbe _ _ hfb),Bn (aN.of sN) (Bn (aN.of sbe) hPb)⟩,r0,qe,RO,ao,λHk sd KAk=>⟨Zj,?_⟩⟩;have sek:=PU sN hk sd;have hbsk:=aB.aL (aN.of (sbe.trans sek)) b9;have huk:=sek _ _ (sbe _ _ am);refine⟨_,Zj,u,Zj,⟨_,aK.of huk⟩,DF (K:=K) (a:=u) (xs:=iF.map V.ref) (λi ys H'=>ys=(((Aj rows).take i).map (·.1)).map V.str/\H'=Hk) ⟨Zj,Zj⟩ (λi ys H' _ ⟨_,e⟩=>e ▸ aK.of huk) (λi ys H' ⟨e,_⟩=>?_) ?_ ?_⟩
  ·have:=DO.len;rw[e,AJ,AJ,ZA];omega
  ·rintro i v ys H' hi ⟨rfl,rfl⟩;obtain⟨bb,pr,rfl,_,ak,aj⟩:=CZ hbsk hi;refine⟨bb,_,Zj,aQ.of aj,Zj,_,_,Zj,_,_,Zj,Zj,?_⟩;refine⟨_,Zj,?_,Zj⟩;rw[ZD,ak,Option.toList_some,Zu,Zu];rfl
  rintro ys H' ⟨rfl,rfl⟩ wl hwl;rw[AJ,gj,ZB];have sw:=AE (aA.refl _) hwl (o:=HO.lst (((Aj rows).map (·.1)).map V.str));have jr:=AB (H:=H') (a:=wl) (o:=HO.lst (((Aj rows).map (·.1)).map V.str));generalize upd H' wl (HO.lst (((Aj rows).map (·.1)).map V.str))=H5 at sw jr ⊢;refine⟨eO,λtp fq=>?_⟩;have stp:=AE (aA.refl _) fq (o:=HO.tup [V.ref k,V.ref wl]);have htp1:=AB (H:=H5) (a:=tp) (o:=HO.tup [V.ref k,V.ref wl]);have hw0:=stp _ _ jr;have KA:=(KAk.same sw).same stp;have sd2:=sw.trans stp;generalize upd H5 tp (HO.tup [V.ref k,V.ref wl])=H0 at stp htp1 hw0 KA sd2 ⊢;refine⟨tp,_,Zj,aQ.of htp1,Zj,_,_,Zj,_,_,Zj,Zj,?_⟩;have se:=sek.trans sd2;have sb0:=sbe.trans se;have R0:Rl d P0 H2 H0:=((Rl.dh sXa).trans (Rl.dh sXb)).trans (Rl.same sb0);have hT0:aV H0 P0 qL LS:=aV.same sb0 (aV.dh hda sXb (aV.dh hd sXa RI.tb));have hB0:Rd H0 bd (.dK Bq):=Rd.keeps (Wb.keeps R0 ⟨⟨x,y,hd⟩,RI.tb⟩) RI.hb;have W0:Wf C bd P0 ⟨a,d,f,u,t,k,nu,e,m,wl,iF⟩ (Aj rows) r H0:=⟨⟨⟨_,_,sb0 _ _ eI⟩,hT0⟩,KA,se _ _ hte,se _ _ hnn,sb0 _ _ am,aB.aL (aN.of sb0) b9,hB0,hw0⟩;have L0:LpI P0 ⟨a,d,f,u,t,k,nu,e,m,wl,iF⟩ r H0 (iL ⟨a,d,f,u,t,k,nu,e,m,wl,iF⟩ r x7 x8 (g 11) (g 12) (g 13) (g 14) (g 15) (g 16)) H0:=⟨⟨_,_,_,_,_,_,_,_,rfl⟩,⟨Rl.refl _,W0.wb⟩⟩;have pos:0<(Aj rows).length:=by rw[Bf];exact r0
  have zzN:("ZZ" : Str)∉ (Aj rows).map (·.1):=λhm=>by
   rw[LF]at hm;exact absurd (ap _ hm) qb
  have fin:∀ {σ H'},LpI P0 ⟨a,d,f,u,t,k,nu,e,m,wl,iF⟩ r H0 σ H'->RdI a l bd P0 as (i+1) σ H':=λL=>by
   obtain⟨⟨y7,y8,y11,y12,y13,y14,y15,y16,e⟩,G⟩:=L;exact RI.fin nd' hla fG (R0.trans G.rl) G.wb.tab (by rw[e];exact WC _ _ _ _ _ _ _ _ _ _)
  generalize hdue:Aj rows=due at *;clear R0 hT0 hB0;refine⟨λσ H'=>LpI P0 ⟨a,d,f,u,t,k,nu,e,m,wl,iF⟩ r H0 σ H',λR hR=>?_,?_⟩
  ·refine⟨5,Zj,qc,qc,DA (lo:=0) (n:=5) (λj σ H'=>LpI P0 ⟨a,d,f,u,t,k,nu,e,m,wl,iF⟩ r H0 σ H') L0 ?_ (λσ H' h=>hR _ _ h)⟩;clear L0 fin hR;generalize (⟨a,d,f,u,t,k,nu,e,m,wl,iF⟩:Ad)=z at *;rintro j σ H4 hj ⟨⟨x7,x8,je,jd,jc,iY,iX,ij,rfl⟩,G4⟩
   have nw:∀x∈due.map (·.1),NW x:=λx hx=>by
    obtain⟨p,hp,rfl⟩:=Zr.mp hx;obtain⟨h1,h2,h3⟩:=N6 (n:=⟨due,[],λ_=>0⟩) DO hp;have hn:=(DO.nm p hp).1;unfold By at hn;simp only[Bool.and_eq_true,decide_eq_true_eq]at hn;exact⟨h1.pw true (.inr Zj),h1.ok.as,h2,λc hc=>by have:=List.all_eq_true.mp hn.2 c hc;simp[Ch]at this;omega⟩
   have pos':0<(due.map (·.1)).length:=by rw[AJ];exact pos
   have len':(due.map (·.1)).length<=10:=by rw[AJ];exact DO.len
   have hxy:∀c∈("xy" : Str).cps.toList,c∈eM:=by decide +kernel
   refine⟨λσ H'=>∃(tx:Str) (tv:V) (t:LT),σ=iL z r x7 x8 (some (.int (0+(j:Int)))) (some (.str tx)) (some tv) iY iX ij/\cL H' tv t/\iW due tx t/\t.ht<=3/\Gd z P0 H0 H',λR hR=>?_,?_⟩
   ·have W4:=G4.wf W0;obtain⟨x5,y5,jR⟩:=G4.wb.bQ;refine⟨_,Zj,_,Zj,z.d,z.wl,x5,y5,due.map (·.1), "xy", Zj,jR,W4.hw,pos',len',nw,qb,λc hc=>BO c (hxy c hc),λq tx tv t H6 s6 hq lt ok ht wz az lz=>?_⟩;exact⟨q,_,Zj,aQ.of hq,Zj,_,_,Zj,_,_,Zj,Zj,hR _ _ ⟨tx,tv,t,Zj,lt,⟨wz,az,qe,F7 ok (λc hc _=>hxy c hc),qe⟩,ht,G4.dh s6⟩⟩
   rintro σ H5 ⟨tx,tv,t,rfl,lt5,Z,ht,G5⟩;refine⟨λσ H'=>∃(ty:Str) (uv:V) (u:LT),σ=iL z r x7 x8 (some (.int (0+(j:Int)))) (some (.str tx)) (some tv) (some (.str ty)) (some uv) ij/\cL H' tv t/\cL H' uv u/\iW due ty u/\Gd z P0 H0 H',λR hR=>?_,?_⟩
   ·have W5:=G5.wf W0;obtain⟨x5,y5,jR⟩:=G5.wb.bQ;refine⟨_,Zj,_,Zj,z.d,z.wl,x5,y5,due.map (·.1), "xyz", Zj,jR,W5.hw,pos',len',nw,qb,by rw[Rg];exact BO,λq ty uv u H6 s6 hq lu ok hu3 wz az lz=>?_⟩;rw[Rg]at ok;exact⟨q,_,Zj,aQ.of hq,Zj,_,_,Zj,_,_,Zj,Zj,hR _ _ ⟨ty,uv,u,Zj,lt5.aL (aG.tt jR s6),lu,⟨wz,az,qe,ok,qe⟩,G5.dh s6⟩⟩
   rintro σ H6 ⟨ty,uv,u,rfl,lt6,lu6,Y,G6⟩;refine⟨λσ H'=>∃(ty:Str) (uv:V) (u:LT),σ=iL z r x7 x8 (some (.int (0+(j:Int)))) (some (.str tx)) (some tv) (some (.str ty)) (some uv) ij/\cL H' tv t/\cL H' uv u/\(ty.length<=60->iW due ty u)/\ty.length<=1000/\Gd z P0 H0 H',λR hR=>?_,?_⟩
   ·obtain⟨x6,y6,hd6⟩:=G6.wb.bQ;have y60:=Y.len;refine⟨_,Zj,z.d,x6,y6,2,Zj,hd6,qc,qc,λk a1 b1 k0 k1=>?_⟩;have sx:aG z.d H6 (upd H6 z.d (.lst [.int a1,.int b1])):=A3 hd6;have lt7:=lt6.aL (aG.tt hd6 sx);have lu7:=lu6.aL (aG.tt hd6 sx);refine⟨Zj,_,Zj,Ba (λ_=>?_) (λ_=>hR _ _ ⟨ty,uv,u,Zj,lt7,lu7,λ_=>Y,qe,G6.dh sx⟩)⟩;refine⟨_,Zj,_,Zj,.mk z.d a1 b1 tv t (due.map (·.1)) eM Zj AB lt7 Z.ok ht qc λv' t' H8 s8 lt8 ok8 ht8=>?_⟩;have lt8':=lt7.aL (aG.tt AB s8);obtain⟨x8',y8',hd8⟩:=s8.bQ;refine⟨_,Zj,_,Zj,.mk z.d x8' y8' v' t' (due.map (·.1)) eM 0 Zj hd8 lt8 ok8 ht8 qc qc nw BO λzt H9 s9 wz az lz=>?_⟩;have h603:lb 5=603:=by decide
    exact hR _ _ ⟨zt,v',t',Zj,lt8'.aL (aG.tt hd8 s9),lt8.aL (aG.tt hd8 s9),λh=>⟨wz,az,h,ok8,ht8⟩,qe,((G6.dh sx).dh s8).dh s9⟩
   clear Y lu6 lt6;rintro σ H7 ⟨ty,uv,u,rfl,lt7,lu7,hY,hl,G7⟩;refine⟨_,Zj,ty,Zj,Nat.le_of_lt (AL hl),_,_,Zj,Zj,_,Zj,?_⟩;refine Ba (λh60=>?_) (λ_=>⟨⟨_,_,_,_,_,_,_,_,Zj⟩,G7⟩);have Y:=hY (by have:=ZV h60;omega);refine⟨λσ H'=>σ=iL z r x7 x8 (some (.int (0+(j:Int)))) (some (.str tx)) (some tv) (some (.str ty)) (some uv) ij/\Gd z P0 H0 H',λR hR=>?_,?_⟩
   ·have W7:=G7.wf W0;exact⟨_,Zj,_,Zj,_,Zj,_,Zj,_,Zj,_,Zj,_,Zj,.mk z.kp z.t z.nu tx ty tv uv t u due r (Mx due z.e z.m) Zj W7.ka DO (.inl W7.ht) (PQ due z.e z.m) (.inl W7.hn) lt7 lu7 Z Y W7.hb λH8 s8=>⟨_,Zj,Ac (hR _ _ ⟨Zj,G7.same s8⟩)⟩⟩
   rintro σ H8 ⟨rfl,G8⟩;refine⟨λσ H'=>∃fo,σ=iL z r x7 x8 (some (.int (0+(j:Int)))) (some (.str tx)) (some tv) (some (.str ty)) (some uv) (some fo)/\(fo=.aP ↔ Eqv due t u)/\Gd z P0 H0 H',λR hR=>?_,?_⟩
   ·have W8:=G8.wf W0;exact⟨_,Zj,_,Zj,_,Zj,OH DO W8.ka W8.hb Z Y (λe H' sm=>hR _ _ ⟨_,Zj,⟨λ_=>e,λ_=>rfl⟩,G8.same sm⟩) (λe c p H' _ sm _ _=>hR _ _ ⟨_,Zj,⟨λz=>V.noConfusion z,λz=>absurd z e⟩,G8.same sm⟩)⟩
   rintro σ H9 ⟨fo,rfl,hfo,G9⟩;refine⟨λσ H'=>(∃fo,σ=iL z r x7 x8 (some (.int (0+(j:Int)))) (some (.str tx)) (some tv) (some (.str ty)) (some uv) (some fo))/\Gd z P0 H0 H',λR hR=>?_,?_⟩
   ·have W9:=G9.wf W0;refine⟨_,Zj,_,Zj,_,Zj,OH DO W9.ka W9.hb Y Z (λe H' sm=>?_) (λe c p H' _ sm _ _=>?_)⟩
    ·have e2:fo=.aP:=hfo.mpr e.symm;subst e2;exact⟨_,Zj,Zj,_,Zj,Ac (hR _ _ ⟨⟨_,Zj⟩,G9.same sm⟩)⟩
    ·have e2:decide (fo=V.aP)=false:=ZO λz=>e ((hfo.mp z).symm);refine⟨_,Zj,Zj,_,Zj,?_⟩;show(if (!decide (V.bl (decide (V.ref p=V.aP))=V.bl (decide (fo=V.aP))))=true then _ else _);rw[e2,ZO (show ¬ V.ref p=V.aP from λz=>V.noConfusion z),ZL rfl];exact Ac (hR _ _ ⟨⟨_,Zj⟩,G9.same sm⟩)
   rintro σ H10 ⟨⟨fo2,rfl⟩,G10⟩;have W10:=G10.wf W0;exact⟨_,Zj,_,Zj,_,Zj,OH DO W10.ka W10.hb Z Z (λe H' sm=>⟨_,Zj,Ac ⟨⟨_,_,_,_,_,_,_,_,Zj⟩,G10.same sm⟩⟩) (λe=>absurd (Eqv.refl _ _) e)⟩
  clear L0;generalize hzz:(⟨a,d,f,u,t,k,nu,e,m,wl,iF⟩:Ad)=z at *;rintro σ H4 ⟨⟨x7,x8,je,jd,jc,iY,iX,ij,rfl⟩,G4⟩;refine⟨λσ H'=>σ=iL z r x7 x8 je jd jc iY iX ij/\Gd z P0 H0 H',λR hR=>?_,?_⟩
  ·refine⟨G4.wb.tab,λH9 sB hT9=>?_⟩;have G9:=G4.sameB sB hT9;have W9:=G9.wf W0;refine⟨_,Zj,WF W9.hb (Rj ET W9.wb λp H10 wb10 rl10 hp10=>?_)⟩;have G10:=G9.go rl10 wb10;refine⟨eX,λq hq=>?_⟩;have sq:=AE (aA.refl _) hq (o:=HO.tup [V.str "refused", V.str "BadText", V.int 2]);refine⟨_,_,Le (sq _ _ hp10),Le AB,GZ qb qb,GZ qb qb,_,Zj,?_⟩;rw[Ri];exact Ac (hR _ _ ⟨Zj,G10.same sq⟩)
  rintro σ H8 ⟨rfl,G8⟩;refine⟨G8.wb.tab,λH9 sB hT9=>?_⟩;have G9:=G8.sameB sB hT9;have W9:=G9.wf W0;refine⟨_,Zj,WG W9.ka zzN W9.hb (TD EPB W9.wb λp H10 wb10 rl10 hp10=>?_)⟩;have G10:=G9.go rl10 wb10;refine⟨eO,λq hq=>?_⟩;have sq:=AE (aA.refl _) hq (o:=HO.tup [V.str "refused", V.str "BadName"]);refine⟨_,_,Nr (sq _ _ hp10),Nr AB,IA,IA,_,Zj,?_⟩;rw[show wd 5 = "BadName" from rfl,TF];exact Ac (fin ⟨⟨_,_,_,_,_,_,_,_,Zj⟩,G10.same sq⟩)
end
end Mk
end
section
namespace Mk
open PySem L2 MK
theorem To {dt:Xd}{tk:Tok}{kV doc pm ad ct:Value}{an:Option Xd}{n:Nat} (hd:K.lookup dt=some ⟨.type "tuple", none,.seq #[.str "" tk] n,#[]⟩) :
  Binds K (W.fnOf "__init__" "MarkError.__init__" (defArgs A7) (defBody A7) (defScope A7) (.ref dt) kV doc pm an ad ct) ["self", "words"] []:=by
 intro s us hK hl
 have iy:us.length=2:=by
  rw[Zt]at hl;exact hl
 match us,iy with
 | [u1,u2],_ =>
  have ho:=hK _ _ hd;intro M A E Q hq;unfold bindArgs;simp only[W.fnOf]
  repeat (first |with_reducible refine wpAny_seqItems ho rfl ?_ | (with_reducible refine Zx (wpAny_seqItems ho rfl ?_)) |wp_step)
  exact Eq.mp (congrArg (λz=>Q z s) qd) hq
theorem IB {h:Heap}{N:Xd}{n:Str}{v:Value} (X:K.In h) (G:h.Ns N mg) (e:W.nsIn K N n=some (some v)):mg n=some v:=by
 obtain⟨o,es,ep,ho,hd,_,hf⟩:=G;unfold W.nsIn at e;split at e
 ·rename_i c d i8 n' sl q;have:=X _ _ q;rw[ho]at this;cases this;cases hd;split at e
  ·rename_i he;cases e;rw[←hf];unfold nsFind findBy;rw[←Array.find?_toList,he];rfl
  ·split at e <;> cases e
 ·cases e
theorem TJ {kV doc pm ad ct:Value}{an:Option Xd} :
  Lr K (W.fnOf "__init__" "Kind.__init__" (defArgs BQ) (defBody BQ) (defScope BQ) .none kV doc pm an ad ct) ["self", "rows", "rest"] ["rest"] gU3 gV3:=by
 refine⟨λs us ws _ hl=>?_,λ{vs us zs ws} r rz=>?_⟩
 ·unfold gU3 at hl ⊢;split at hl
  ·exact .of_eq qd
  ·cases hl
 ·cases r with
  |nil=>exact .nil
  |cons r1 rr =>
   cases rr with
   |nil=>exact .nil
   |cons r2 rr =>
    cases rr with
    |cons _ _=>exact .nil
    |nil =>
     cases rz with
     |nil=>exact .nil
     |cons z1 zz =>
      cases zz with
      |nil=>exact .cons r1 (.cons r2 (.cons z1 .nil))
      |cons _ _=>exact .nil
theorem U3 {kd:Xd}{v doc pm ad ct:Value}{an:Option Xd} (ok:W.nsOkIn K kd=true) (e:W.nsIn K kd "rest" = some (some v)) :
  Binds K (W.fnOf "__init__" "Kind.__init__" (defArgs BQ) (defBody BQ) (defScope BQ) .none (.ref kd) doc pm an ad ct) ["self", "rows", "rest"] [v]:=by
 intro s us hK hl
 have iy:us.length=2:=by
  rw[ZH]at hl;exact Nat.succ.inj hl
 match us,iy with
 | [u1,u2],_ =>
  have G:s.heap.Ns kd (s.heap.nsMap kd):=.of_isNs (W.isNs_of_in hK ok);have hm:s.heap.nsMap kd "rest" = some v:=IB hK G e;intro M A E Q hq;unfold bindArgs;simp only[W.fnOf]
  repeat (first | (with_reducible refine wpAny_nsGet G ?_;rw[hm]) |wp_step)
  exact Eq.mp (congrArg (λz=>Q z s) qd) hq
theorem TK {kd:Xd}{v doc pm ad ct:Value}{an:Option Xd} (ok:W.nsOkIn K kd=true) (e:W.nsIn K kd "lettered" = some (some v)) :
  Binds K (W.fnOf "steps_of" "steps_of" (defArgs CN) (defBody CN) (defScope CN) .none (.ref kd) doc pm an ad ct) ["text", "lettered"] [v]:=by
 intro s us hK hl
 have iy:us.length=1:=by
  rw[ZH]at hl;exact Nat.succ.inj hl
 match us,iy with
 | [u1],_ =>
  have G:s.heap.Ns kd (s.heap.nsMap kd):=.of_isNs (W.isNs_of_in hK ok);have hm:s.heap.nsMap kd "lettered" = some v:=IB hK G e;intro M A E Q hq;unfold bindArgs;simp only[W.fnOf]
  repeat (first | (with_reducible refine wpAny_nsGet G ?_;rw[hm]) |wp_step)
  exact Eq.mp (congrArg (λz=>Q z s) qd) hq
end Mk
end
section
namespace Mk
open PySem L2 MK PySem.W
noncomputable abbrev fO (x q:Str) (s:Stmt):=fnOf x q (defArgs s) (defBody s) (defScope s)
theorem Rk {K:Frag}{C:Xd}{T:String} (h:isClsIn K C=true) (h2:typeIn K (.ref C)=some (.type "type")) (e:subIn K (.type T) (.ref C)=some false):kitOne K (.type T) (.ref C)=some false:=by
 unfold kitOne;rw[Zq (by simp)];unfold kitCls;show(if _ then _ else _)=_;rw[Zp (by unfold isClsIn at h;rw[h,h2];simp)];exact e
theorem TL {K:Frag}{C M:Xd}{f:Str} (h:(clsIn K C).map (λcd=>(cd.mro,cd.hasDict))=some (Eh C M,true)) (n:findIn K (.ref C) f=some none) (s:findIn K (.ref C) "__setattr__" = some (some (.builtin "object.__setattr__"))):QU K C M f:=by
 obtain⟨cd,e,z⟩:=Z6.mp h;exact⟨⟨cd,e,congrArg Prod.fst z,congrArg Prod.snd z⟩,n,s⟩
noncomputable def Lg (K:Frag) (c P:Xd):Bool:=match K.lookup c with
 |some ⟨.type "code", _,.fields vs,_⟩=>(match (vs[11]?:Option Value),vs.getD 18 Value.none,vs.getD 7 Value.none,vs.getD 9 Value.none,vs.getD 10 Value.none with
  |some (.ref p),.str _ _,.int _ _,.bool _,.int _ _=>p==P && !(c==P)
  |_,_,_,_,_=>false)
 |_=>false
theorem codeHd_of {K:Frag}{h:Heap}{c P:Xd} (X:K.In h) (q:Lg K c P=true):CodeHd h c P:=by
 unfold Lg at q;split at q
 ·rename_i d vs sl ho;split at q
  ·rename_i p f tf fl tg b tx tt h11 h18 h7 h9 iA;rw[Bool.and_eq_true,beq_iff_eq]at q;obtain⟨rfl,hn⟩:=q;refine⟨_,vs,f,tf,fl,tg,b,tx,tt,X _ _ ho,Zj,Zj,h11,?_,h18,h7,h9,iA,λz=>by simp[z]at hn⟩;rw[Array.getD_eq_getD_getElem?,h11];rfl
  ·cases q
 ·cases q
section
variable {P:Program}{w:World}{K:Frag}{mg:SV}{base:Heap}{x q:Str}{st:Stmt}{k:Nat}{ps:Xa}{sp:Sp}{f C:Xd}{fd:FuncData}{p1 p2 p3 p4 p5:Str}
theorem fnT (F:aY K x x st f fd) (ok:Af P w K mg base aT k f fd ps sp) (m:mg x=some (.ref f)) (b:Binds K fd ps []):Fn P w K mg base x k ps sp:=⟨⟨f,fd,ok,m,F.kp,b⟩⟩
theorem mtT (a:findIn K (.ref C) x=some (some (.ref f))) (i:isFn K (.ref f)=true) (F:aY K x q st f fd) (ok:Af P w K mg base aT k f fd ps sp) (b:Binds K fd ps []):Mt P w K mg base C x k ps sp:=⟨⟨f,fd,ok,⟨a,i,F.kp⟩,b⟩⟩
noncomputable abbrev fB (x q:Str) (st:Stmt) (kV doc pm:Value) (an:Option Xd) (ad ct:Value) (us:Xb):Sem (List (Str×Value)):=bindArgs (fO x q st .none kV doc pm an ad ct) ⟨us,[]⟩
theorem gk (F:aY K x q st f fd) (h:∀a b c d e g u1,fB x q st a b c d e g [u1]=pure [(p1,u1)]):Binds K fd [p1] []:=F.binds λ_ _ _ _ _ _ us hl=>match us,hl with | [_],_=>h ..
theorem gC (F:aY K x q st f fd) (h:∀a b c d e g u1 u2,fB x q st a b c d e g [u1,u2]=pure [(p1,u1),(p2,u2)]):Binds K fd [p1,p2] []:=F.binds λ_ _ _ _ _ _ us hl=>match us,hl with | [_,_],_=>h ..
theorem jY (F:aY K x q st f fd) (h:∀a b c d e g u1 u2 u3,fB x q st a b c d e g [u1,u2,u3]=pure [(p1,u1),(p2,u2),(p3,u3)]):Binds K fd [p1,p2,p3] []:=F.binds λ_ _ _ _ _ _ us hl=>match us,hl with | [_,_,_],_=>h ..
theorem bi4 (F:aY K x q st f fd) (h:∀a b c d e g u1 u2 u3 u4,fB x q st a b c d e g [u1,u2,u3,u4]=pure [(p1,u1),(p2,u2),(p3,u3),(p4,u4)]):Binds K fd [p1,p2,p3,p4] []:=F.binds λ_ _ _ _ _ _ us hl=>match us,hl with | [_,_,_,_],_=>h ..
theorem bi7 {p6 p7:Str} (F:aY K x q st f fd) (h:∀a b c d e g u1 u2 u3 u4 u5 u6 u7,fB x q st a b c d e g [u1,u2,u3,u4,u5,u6,u7]=pure [(p1,u1),(p2,u2),(p3,u3),(p4,u4),(p5,u5),(p6,u6),(p7,u7)]):Binds K fd [p1,p2,p3,p4,p5,p6,p7] []:=F.binds λ_ _ _ _ _ _ us hl=>match us,hl with | [_,_,_,_,_,_,_],_=>h ..
end
def DG (K:Frag) (x:Str) (st:Stmt):Prop:=∃f fd,nsIn K mainGlobals x=some (some (.ref f))/\aY K x x st f fd
def DM (K:Frag) (C:Xd) (x q:Str) (st:Stmt):Prop:=∃f fd,findIn K (.ref C) x=some (some (.ref f))/\isFn K (.ref f)=true/\(∃o,K.lookup f=some o/\o.cls=.type "function")/\aY K x q st f fd
structure CF (K:Frag) (C:Xd):Prop where
 pg:plainGet K C Str.empty=true
 hd:hasDictIn K C=true
 po:plainOver K C=true
 sa:findIn K (.ref C) "__setattr__" = some (some (.builtin "object.__setattr__"))
 mz:makesIn K C=true
 kc:keepIn K (.ref C)=true
 qa:findIn K (.ref C) "__class__" = some (some (.builtin "object.__class__"))
 qm:mroIn K C (.type "object")=some true
 ql:isClsIn K C=true
 qy:typeIn K (.ref C)=some (.type "type")
 qs:subIn K (.type "list") (.ref C)=some false
 qi:subIn K (.type "int") (.ref C)=some false
 qt:subIn K (.type "tuple") (.ref C)=some false
 ne:findIn K (.ref C) "__ne__" = some (some (.builtin "object.__ne__"))
structure XF (K:Frag) (ec:Nat->Xd) (C:Xd) (j:Nat):Prop where
 cx:L2.A4 K C=true
 ga:findIn K (.ref C) "__getattribute__" = some (some (.builtin "BaseException.__getattribute__"))
 gr:findIn K (.ref C) "__getattr__" = some none
 gb:mroIn K C (.type "BaseException")=some true
 kc:(clsIn K C).isSome=true
 ka:findIn K (.ref C) "__class__" = some (some (.builtin "object.__class__"))
 km:mroIn K C (.type "object")=some true
 kt:((List.range 11).all λi=>i==j ||decide (kitOne K (.ref C) (.ref (ec i))=some false))=true
 tv:kitOne K (.ref C) (.type "ValueError")=some true
 ke:keepIn K (.ref C)=true
theorem XF.at {K:Frag}{ec:Nat->Xd}{C:Xd}{j:Nat} (F:XF K ec C j) (hj:j<11) (e:C=ec j) (qn:specialIn K (.builtin "object.__class__") "__get__" = some (some (.builtin "getset_descriptor.__get__"))) (qt:takesIn K (.builtin "object.__class__")=some true):Nu K ec C j:=by
 refine⟨hj,⟨⟨F.ga,F.gr,F.gb⟩,F.kc,F.ka,qn,qt,F.km⟩,λi hi=>?_,F.tv⟩;have h:=List.all_eq_true.mp F.kt i (mem_range.mpr hi);rw[Bool.or_eq_true]at h;rcases h with z |z
 ·rw[eq_of_beq z,e,ZL rfl];exact LG K _
 ·by_cases q:i=j
  ·rw[q,e,ZL rfl];exact LG K _
  ·rw[ZO q];exact ZV z
structure XP (K:Frag) (ec:Nat->Xd) (cM C f:Xd) (j:Nat):Prop where
 F:XF K ec C j
 n:((List.range 4).all λi=>!(Dk K C).contains (.ref (ec i)))=true
 m:(Dk K C).contains (.ref cM)=true
 i:findIn K (.ref C) "__init__" = some (some (.ref f))
theorem XP.pl {K:Frag}{ec:Nat->Xd}{cM C f:Xd}{j:Nat} (F:XP K ec cM C f j) (hj:j<11) (e:C=ec j) (qn:specialIn K (.builtin "object.__class__") "__get__" = some (some (.builtin "getset_descriptor.__get__"))) (qt:takesIn K (.builtin "object.__class__")=some true):LJ K ec cM C j:=by
 have h:∀i,i<4->(Dk K C).contains (.ref (ec i))=false:=λi hi=>by
  have:=List.all_eq_true.mp F.n i (mem_range.mpr hi);rw[Bool.not_eq_true']at this;exact this
 exact⟨F.F.at hj e qn qt,F.F.cx,h 0 qc,h 1 qc,h 2 qc,h 3 qc,F.m⟩
structure XL (K:Frag) (ec:Nat->Xd) (cM C:Xd) (j:Nat) (fld:Str):Prop where
 F:XF K ec C j
 n:((List.range j).all λi=>!(Dk K C).contains (.ref (ec i)))=true
 m:(Dk K C).contains (.ref (ec j))=true
 gh:hasDictIn K C=true
 gn:findIn K (.ref C) fld=some none
 gs:findIn K (.ref C) "__setattr__" = some (some (.builtin "object.__setattr__"))
 s:(clsIn K C).map (λcd=>(cd.mro,cd.hasDict))=some (Eh C cM,true)
theorem XL.fl {K:Frag}{ec:Nat->Xd}{cM C:Xd}{j:Nat} (F:XL K ec cM C j (IM j)) (hj:j<4) (e:C=ec j) (qn:specialIn K (.builtin "object.__class__") "__get__" = some (some (.builtin "getset_descriptor.__get__"))) (qt:takesIn K (.builtin "object.__class__")=some true):LL K ec C j:=by
 refine⟨F.F.at qe e qn qt,F.F.cx,hj,λi hi=>?_,F.m,⟨⟨F.F.ga,F.F.gr,F.F.gb⟩,F.gh,F.gn⟩⟩;have:=List.all_eq_true.mp F.n i (mem_range.mpr hi);rw[Bool.not_eq_true']at this;exact this
theorem all_mk {l:OpenLaw}{w:World}{K:Frag}{h:Heap}{mg:SV}{fz C DC aR kd dt cM c P0 e0 e1 e2 e3 e4 e5 e6 e7 e8 e9 ig fin fei fla:Xd} (X:K.In h) (G:h.Ns mainGlobals mg) (hfa:mg "law" = some (.ref fz))
  {ocla kVla dcla pmla ctla ocin dcin pmin cdin ctin kVei dcei pmei cdei ctei ocK:Value}{odla anla odin anin odei anei odR odK:Option Xd}{slla slin slei slK slR:Array (Option Value)}{tG tM tL tB t1 t2 t3 t4 tE:Tok}{nRR epK nE:Nat}{esK:Array DictEntry}{jn fst k2:Xd}{j1 j2 j3 tLB tQi:Tok}{odJ odst anst odK2:Option Xd}{nJ epK2:Nat}{slJ slst slK2:Array (Option Value)}{ocst dcst pmst cdst ctst ocK2:Value}{esK2:Array DictEntry}{bd:Xd}
  (aC:nsIn K mainGlobals "Kind" = some (some (.ref C)))
  (aDC:nsIn K mainGlobals "Reading" = some (some (.ref DC)))
  (aM:nsIn K mainGlobals "MarkError" = some (some (.ref cM)))
  (aX0:nsIn K mainGlobals "BadRows" = some (some (.ref e0)))
  (aX1:nsIn K mainGlobals "BadRest" = some (some (.ref e1)))
  (aX2:nsIn K mainGlobals "BadText" = some (some (.ref e2)))
  (aX3:nsIn K mainGlobals "Unled" = some (some (.ref e3)))
  (aX4:nsIn K mainGlobals "BadRule" = some (some (.ref e4)))
  (aX5:nsIn K mainGlobals "BadName" = some (some (.ref e5)))
  (aX6:nsIn K mainGlobals "BadNumber" = some (some (.ref e6)))
  (aX7:nsIn K mainGlobals "Unlike" = some (some (.ref e7)))
  (aX8:nsIn K mainGlobals "BadPairs" = some (some (.ref e8)))
  (aX9:nsIn K mainGlobals "Never" = some (some (.ref e9)))
  (aX10:nsIn K mainGlobals "Nothing" = some (some (.ref ig)))
  (z_VE:nsIn K mainGlobals "ValueError" = some none)
  (hwh:DG K "is_whole" FR)
  (hnm:DG K "is_name" Jl)
  (huo:DG K "union_of" HR)
  (hnx:DG K "next_mark" Ft)
  (hoo:DG K "is_one_of" HS)
  (hno:DG K "is_names_of" El)
  (hth:DG K "thing_number" DW)
  (hro:DG K "row_number" Em)
  (hnb:DG K "numbered" Fu)
  (hfi:DG K "first_names" Dz)
  (hmK:DM K C "known" "Kind.known" En)
  (hmT:DM K C "rest" "Kind.rest" Fv)
  (hlc:DG K "_law_cell" HV)
  (hld:DG K "_law_drawn" Fx)
  (hlr:DG K "_law_roll" FS)
  (hls:DG K "_law_rounds" Er)
  (hll:DG K "_law_lines" CG)
  (hxn:DG K "is_number" EH)
  (hlb:DG K "_law_bits_of" Es)
  (hlu:DG K "_law_rule_of" Et)
  (hlt:DG K "_law_table_of" D1)
  (hgl:DG K "is_letter" Fw)
  (hgi:DG K "letters_in" Ep)
  (hdS:DM K DC "settle" "Reading.settle" Cd)
  (hdP:DM K DC "take_part" "Reading.take_part" CB)
  (hdB:DM K DC "take_between" "Reading.take_between" Be)
  (hdA:DM K DC "take_ahead" "Reading.take_ahead" Bw)
  (hdC:DM K DC "take_close" "Reading.take_close" Bx)
  (hdG:DM K DC "take_sign" "Reading.take_sign" CD)
  (hdN:DM K DC "ends" "Reading.ends" DY)
  (hgj:DG K "joined" Jn)
  (hex:DG K "extreme_table" C5)
  (hbo:DG K "_law_both" HW)
  (hmN:DM K C "number" "Kind.number" Co)
  (hgf:DG K "is_figures" Eo)
  (hgp:DG K "is_part" Jm)
  (hge:DG K "part_end" HU)
  (hgn:DG K "part_number" Cp)
  (hgo:DG K "number_of" EI)
  (hdI:DM K DC "__init__" "Reading.__init__" DX)
  (hti:DM K e2 "__init__" "BadText.__init__" DV)
  (hle:DG K "_law_tree" FU)
  (hlp:DG K "_law_written" Cq)
  (hlf:DG K "_law_formula" D3)
  (hlw:DG K "_law_word" D0)
  (hlo:DG K "_law_told" Aq)
  (hal:DG K "alike" Jo)
  (hlq:DG K "_law_come" FV)
  (hlh:DG K "_law_holds" Fy)
  (ain:findIn K (.ref C) "__init__" = some (some (.ref fin)))
  (iin:isFn K (.ref fin)=true)
  (lin:K.lookup fin=some ⟨ocin,odin,.func (fO "__init__" "Kind.__init__" BQ .none (.ref kd) dcin pmin anin cdin ctin),slin⟩)
  (cin:codeIn K cdin "Kind.__init__" = true)
  (kin:keepIn K (.ref fin)=true)
  (ala:nsIn K mainGlobals "law" = some (some (.ref fla)))
  (lla:K.lookup fla=some ⟨ocla,odla,.func (fO "law" "law" EM .none kVla dcla pmla anla (.ref c) ctla),slla⟩)
  (cla:codeIn K (.ref c) "law" = true)
  (kla:keepIn K (.ref fla)=true)
  (aei:findIn K (.ref cM) "__init__" = some (some (.ref fei)))
  (iei:isFn K (.ref fei)=true)
  (lei:K.lookup fei=some ⟨(.type "function"),odei,.func (fO "__init__" "MarkError.__init__" A7 (.ref dt) kVei dcei pmei anei cdei ctei),slei⟩)
  (cei:codeIn K cdei "MarkError.__init__" = true)
  (kei:keepIn K (.ref fei)=true)
  (kdl:K.lookup kd=some ⟨ocK,odK,.dict esK epK,slK⟩)
  (kde:(esK.all λe=>match e.key with | .str _ _=>true |_=>false)=true)
  (kdr:nsIn K kd "rest" = some (some (.str "bar" tB)))
  (dtl:K.lookup dt=some ⟨.type "tuple", none,.seq #[.str "" tE] nE,#[]⟩)
  (vG:nsIn K mainGlobals "GREATEST" = some (some (.int 1048575 tG)))
  (vM:nsIn K mainGlobals "MOST_ROWS" = some (some (.int 10 tM)))
  (vL:nsIn K mainGlobals "LONGEST_NAME" = some (some (.int 6 tL)))
  (vR:nsIn K mainGlobals "RULES" = some (some (.ref aR)))
  (qn:specialIn K (.builtin "object.__class__") "__get__" = some (some (.builtin "getset_descriptor.__get__")))
  (qt:takesIn K (.builtin "object.__class__")=some true)
  (fC:CF K C)
  (fDC:CF K DC)
  (nC_numbers:findIn K (.ref C) "numbers" = some none)
  (nC_firsts:findIn K (.ref C) "firsts" = some none)
  (nC_rule:findIn K (.ref C) "rule" = some none)
  (nDC_steps:findIn K (.ref DC) "steps" = some none)
  (nDC_waiting:findIn K (.ref DC) "waiting" = some none)
  (nDC_wants_part:findIn K (.ref DC) "wants_part" = some none)
  (xm:L2.A4 K cM=true)
  (xc0:L2.A4 K e0=true)
  (xc1:L2.A4 K e1=true)
  (xc2:L2.A4 K e2=true)
  (xc3:L2.A4 K e3=true)
  (y5:XP K (λi=>([e0,e1,e2,e3,e4,e5,e6,e7,e8,e9,ig]:List Xd).getD i 0) cM e5 fei 5)
  (y2:XL K (λi=>([e0,e1,e2,e3,e4,e5,e6,e7,e8,e9,ig]:List Xd).getD i 0) cM e2 2 "at")
  (xmg:specialIn K (.ref cM) "__getattribute__" = some (some (.builtin "type.__getattribute__")))
  (xmr:readsIn K cM (.type "type")=true)
  (xmf:findCls K (.ref cM) (.type "type") "__init__" = some (.val (.ref fei)))
  (rL:K.lookup aR=some ⟨.type "tuple", odR,.seq #[.str "bar" t1,.str "drop" t2,.str "keep" t3,.str "leave" t4] nRR,slR⟩)
  (z_len:nsIn K mainGlobals "len" = some none)
  (z_isinstance:nsIn K mainGlobals "isinstance" = some none)
  (z_max:nsIn K mainGlobals "max" = some none)
  (z_min:nsIn K mainGlobals "min" = some none)
  (z_range:nsIn K mainGlobals "range" = some none)
  (z_list:nsIn K mainGlobals "list" = some none)
  (z_tuple:nsIn K mainGlobals "tuple" = some none)
  (z_sorted:nsIn K mainGlobals "sorted" = some none)
  (z_sum:nsIn K mainGlobals "sum" = some none)
  (z_all:nsIn K mainGlobals "all" = some none)
  (z_enumerate:nsIn K mainGlobals "enumerate" = some none)
  (z_int:nsIn K mainGlobals "int" = some none)
  (z_bool:nsIn K mainGlobals "bool" = some none)
  (z_str:nsIn K mainGlobals "str" = some none)
  (vBD:nsIn K mainGlobals "BINDING" = some (some (.ref bd)))
  (vJN:nsIn K mainGlobals "JOINING" = some (some (.ref jn)))
  (vLB:nsIn K mainGlobals "LEAST_BINDING" = some (some (.int 1 tLB)))
  (jL:K.lookup jn=some ⟨.type "tuple", odJ,.seq #[.str "&" j1,.str "^" j2,.str "|" j3] nJ,slJ⟩)
  (ast:nsIn K mainGlobals "steps_of" = some (some (.ref fst)))
  (lst:K.lookup fst=some ⟨ocst,odst,.func (fO "steps_of" "steps_of" CN .none (.ref k2) dcst pmst anst cdst ctst),slst⟩)
  (cst:codeIn K cdst "steps_of" = true)
  (kst:keepIn K (.ref fst)=true)
  (k2l:K.lookup k2=some ⟨ocK2,odK2,.dict esK2 epK2,slK2⟩)
  (k2e:(esK2.all λe=>match e.key with | .str _ _=>true |_=>false)=true)
  (k2n:nsIn K k2 "lettered" = some (some (.bool true)))
  (vLi:nsIn K mainGlobals "LIMIT" = some (some (.int 1099511627776 tQi)))
  : ∃fd:FuncData,(∀(s:Xe) (v:Value),BindsTo s fd ⟨[v],[]⟩ [("_law_script", v)])/\∀base:Heap,K.In base->base.Ns mainGlobals mg->CodeHd base c P0->base.BuiltinsAt mg P0->Af l.prog w K mg base aT 10 fz fd ["_law_script"] (spLaw K P0 bd):=by
 have MG:∀ {x:Str}{v:Value},nsIn K mainGlobals x=some (some v)->mg x=some v:=λh=>mg_of X G h;have MN:∀ {x:Str},nsIn K mainGlobals x=some none->mg x=none:=λh=>mg_none_of X G h;have T:Jr K C:=⟨⟨fC.pg,fC.hd,fC.po,fC.sa⟩,nC_numbers,nC_firsts,nC_rule⟩;have DT:IP K DC:=⟨⟨fDC.pg,fDC.hd,fDC.po,fDC.sa⟩,nDC_steps,nDC_waiting,nDC_wants_part⟩;have KI:Wl K C:=⟨⟨fC.pg,fC.hd,fC.po,fC.sa⟩,fC.qa,qn,qt,fC.qm,Rk fC.ql fC.qy fC.qs⟩;have mCg:=MG aC;have qm:=fC.qm;have B:Bl mg:=⟨MN z_len,MN z_isinstance,MN z_max,MN z_min,MN z_range,MN z_list,MN z_tuple,MN z_sorted,MN z_sum,MN z_all,MN z_enumerate,MN z_int,MN z_bool,MN z_str⟩;have rT:∀H:Hp,aQ K H aR (ruleNames.map V.str):=λH=>.inr ⟨_,_,_,rL,rfl,rfl,sl4,.cons ⟨_,rfl⟩ (.cons ⟨_,rfl⟩ (.cons ⟨_,rfl⟩ (.cons ⟨_,rfl⟩ .nil)))⟩;have jT:∀H:Hp,aQ K H jn [.str "&", .str "^", .str "|"]:=λH=>.inr ⟨_,_,_,jL,rfl,rfl,eX,.cons ⟨_,rfl⟩ (.cons ⟨_,rfl⟩ (.cons ⟨_,rfl⟩ .nil))⟩;have hLi:=MG vLi
 have kdo:nsOkIn K kd=true:=by
  unfold nsOkIn;rw[kdl];exact kde
 have hG:=MG vG;have hM:=MG vM;have hL:=MG vL;have hR:=MG vR;have M:PX mg (λi=>([e0,e1,e2,e3,e4,e5,e6,e7,e8,e9,ig]:List Xd).getD i 0):=⟨MG aX0,MG aX1,MG aX2,MG aX3,MG aX4,MG aX5,MG aX6,MG aX7,MG aX8,MG aX9,MG aX10,MN z_VE⟩;have EX:RB K mg (λi=>([e0,e1,e2,e3,e4,e5,e6,e7,e8,e9,ig]:List Xd).getD i 0) cM:=⟨MG aM,xm,xc0,xc1,xc2,xc3⟩;have EPB:=y5.pl qc rfl qn qt;have EFT:=XL.fl (j:=2) y2 qc rfl qn qt;have Fin:=fun_mk (st:=BQ) lin cin kin;have e:=hfa.symm.trans (MG ala);cases e;have Fla:FunC K "law" "law" EM fz (fO "law" "law" EM .none kVla dcla pmla anla (.ref c) ctla) c:=⟨⟨_,_,_,_,_,_,_,_,rfl,lla,cla⟩⟩;have Fei:FunD K "__init__" "MarkError.__init__" A7 fei _:=⟨⟨_,_,_,_,_,_,_,_,_,_,rfl,lei,cei⟩⟩;obtain⟨fwh,dwh,awh,Fwh⟩:=hwh;have bwh:=gk (p1 := "thing") Fwh λ_ _ _ _ _ _ _=>rfl;obtain⟨fnm,dnm,anm,Fnm⟩:=hnm;have bnm:=gk (p1 := "thing") Fnm λ_ _ _ _ _ _ _=>rfl;obtain⟨fuo,duo,auo,Fuo⟩:=huo;have buo:=gk (p1 := "numbers") Fuo λ_ _ _ _ _ _ _=>rfl;obtain⟨fnx,dnx,anx,Fnx⟩:=hnx;have bnx:=gk (p1 := "numbers") Fnx λ_ _ _ _ _ _ _=>rfl;obtain⟨foo,doo,aoo,Foo⟩:=hoo;have boo:=gC (p1 := "thing") (p2 := "names") Foo λ_ _ _ _ _ _ _ _=>rfl;obtain⟨fno,dno,ano,Fno⟩:=hno;have bno:=gC (p1 := "parts") (p2 := "ahead") Fno λ_ _ _ _ _ _ _ _=>rfl;obtain⟨fth,dth,ath,Fth⟩:=hth;have bth:=gC (p1 := "thing") (p2 := "ahead") Fth λ_ _ _ _ _ _ _ _=>rfl;obtain⟨fro,dro,aro,Fro⟩:=hro;have bro:=gC (p1 := "row") (p2 := "ahead") Fro λ_ _ _ _ _ _ _ _=>rfl;obtain⟨fnb,dnb,anb,Fnb⟩:=hnb;have bnb:=gk (p1 := "rows") Fnb λ_ _ _ _ _ _ _=>rfl;obtain⟨ffi,dfi,afi,Ffi⟩:=hfi;have bfi:=gk (p1 := "numbers") Ffi λ_ _ _ _ _ _ _=>rfl;obtain⟨fmK,dmK,amK,imK,omK,FmK⟩:=hmK;have bmK:=gk (p1 := "self") FmK λ_ _ _ _ _ _ _=>rfl;obtain⟨fmT,dmT,amT,imT,omT,FmT⟩:=hmT;have bmT:=gk (p1 := "self") FmT λ_ _ _ _ _ _ _=>rfl;obtain⟨flc,dlc,alc,Flc⟩:=hlc;have blc:=gC (p1 := "_law_script") (p2 := "_law_k") Flc λ_ _ _ _ _ _ _ _=>rfl;obtain⟨fld,dld,ald,Fld⟩:=hld;have bld:=gC (p1 := "_law_cell_here") (p2 := "_law_k") Fld λ_ _ _ _ _ _ _ _=>rfl;obtain⟨flr,dlr,alr,Flr⟩:=hlr;have blr:=gC (p1 := "_law_dice") (p2 := "_law_many") Flr λ_ _ _ _ _ _ _ _=>rfl;obtain⟨fls,dls,als,Fls⟩:=hls;have bls:=gC (p1 := "_law_script") (p2 := "_law_most") Fls λ_ _ _ _ _ _ _ _=>rfl;obtain⟨fll,dll,all,Fll⟩:=hll;have bll:=gC (p1 := "_law_dice") (p2 := "_law_most") Fll λ_ _ _ _ _ _ _ _=>rfl;obtain⟨fxn,dxn,axn,Fxn⟩:=hxn;have bxn:=gk (p1 := "thing") Fxn λ_ _ _ _ _ _ _=>rfl;obtain⟨flb,dlb,alb,Flb⟩:=hlb;have blb:=gk (p1 := "_law_number") Flb λ_ _ _ _ _ _ _=>rfl;obtain⟨flu,dlu,alu,Flu⟩:=hlu;have blu:=gk (p1 := "_law_dice") Flu λ_ _ _ _ _ _ _=>rfl;obtain⟨jy,dlt,alt,Flt⟩:=hlt;have blt:=gk (p1 := "_law_due") Flt λ_ _ _ _ _ _ _=>rfl;obtain⟨fgl,dgl,agl,Fgl⟩:=hgl;have bgl:=gk (p1 := "thing") Fgl λ_ _ _ _ _ _ _=>rfl;obtain⟨fgi,dgi,agi,Fgi⟩:=hgi;have bgi:=gk (p1 := "steps") Fgi λ_ _ _ _ _ _ _=>rfl;obtain⟨fdS,ddS,adS,idS,odS,FdS⟩:=hdS;have bdS:=gC (p1 := "self") (p2 := "binding") FdS λ_ _ _ _ _ _ _ _=>rfl;obtain⟨fdP,ddP,adP,idP,odP,FdP⟩:=hdP;have bdP:=gC (p1 := "self") (p2 := "part") FdP λ_ _ _ _ _ _ _ _=>rfl;obtain⟨fdB,ddB,adB,idB,odB,FdB⟩:=hdB;have bdB:=gC (p1 := "self") (p2 := "sign") FdB λ_ _ _ _ _ _ _ _=>rfl;obtain⟨fdA,ddA,adA,idA,odA,FdA⟩:=hdA;have bdA:=gC (p1 := "self") (p2 := "sign") FdA λ_ _ _ _ _ _ _ _=>rfl;obtain⟨fdC,ddC,adC,idC,odC,FdC⟩:=hdC;have bdC:=gk (p1 := "self") FdC λ_ _ _ _ _ _ _=>rfl;obtain⟨fdG,ddG,adG,idG,odG,FdG⟩:=hdG;have bdG:=gC (p1 := "self") (p2 := "sign") FdG λ_ _ _ _ _ _ _ _=>rfl;obtain⟨fdN,ddN,adN,idN,odN,FdN⟩:=hdN;have bdN:=gk (p1 := "self") FdN λ_ _ _ _ _ _ _=>rfl;obtain⟨fgj,dgj,agj,Fgj⟩:=hgj;have bgj:=jY (p1 := "sign") (p2 := "one") (p3 := "other") Fgj λ_ _ _ _ _ _ _ _ _=>rfl;obtain⟨fex,dex,aex,Fex⟩:=hex;have bex:=jY (p1 := "signs") (p2 := "known") (p3 := "choice") Fex λ_ _ _ _ _ _ _ _ _=>rfl;obtain⟨fbo,dbo,abo,Fbo⟩:=hbo;have bbo:=gC (p1 := "_law_dice") (p2 := "_law_tree_here") Fbo λ_ _ _ _ _ _ _ _=>rfl;obtain⟨fmN,dmN,amN,imN,omN,FmN⟩:=hmN;have bmN:=gC (p1 := "self") (p2 := "name") FmN λ_ _ _ _ _ _ _ _=>rfl;obtain⟨fgf,dgf,agf,Fgf⟩:=hgf;have bgf:=gk (p1 := "text") Fgf λ_ _ _ _ _ _ _=>rfl;obtain⟨fgp,dgp,agp,Fgp⟩:=hgp;have bgp:=gC (p1 := "text") (p2 := "lettered") Fgp λ_ _ _ _ _ _ _ _=>rfl;obtain⟨fge,dge,age,Fge⟩:=hge;have bge:=jY (p1 := "text") (p2 := "at") (p3 := "lettered") Fge λ_ _ _ _ _ _ _ _ _=>rfl;obtain⟨fgn,dgn,agn,Fgn⟩:=hgn;have bgn:=jY (p1 := "kind") (p2 := "part") (p3 := "table") Fgn λ_ _ _ _ _ _ _ _ _=>rfl;obtain⟨fgo,dgo,ago,Fgo⟩:=hgo;have bgo:=jY (p1 := "kind") (p2 := "steps") (p3 := "table") Fgo λ_ _ _ _ _ _ _ _ _=>rfl;obtain⟨fdI,ddI,adI,idI,odI,FdI⟩:=hdI;have bdI:=gk (p1 := "self") FdI λ_ _ _ _ _ _ _=>rfl;obtain⟨fti,dti,ati,iti,oti,Fti⟩:=hti;have bti:=gC (p1 := "self") (p2 := "at") Fti λ_ _ _ _ _ _ _ _=>rfl;obtain⟨fle,dle,ale,Fle⟩:=hle;have ble:=bi4 (p1 := "_law_dice") (p2 := "_law_words") (p3 := "_law_signs") (p4 := "_law_deep") Fle λ_ _ _ _ _ _ _ _ _ _=>rfl;obtain⟨flp,dlp,alp,Flp⟩:=hlp;have blp:=jY (p1 := "_law_dice") (p2 := "_law_tree_here") (p3 := "_law_rank") Flp λ_ _ _ _ _ _ _ _ _=>rfl;obtain⟨flf,dlf,alf,Flf⟩:=hlf;have blf:=jY (p1 := "_law_dice") (p2 := "_law_words") (p3 := "_law_signs") Flf λ_ _ _ _ _ _ _ _ _=>rfl;obtain⟨flw,dlw,alw,Flw⟩:=hlw;have blw:=gk (p1 := "_law_e") Flw λ_ _ _ _ _ _ _=>rfl;obtain⟨flo,dlo,alo,Flo⟩:=hlo;have blo:=gk (p1 := "_law_deed") Flo λ_ _ _ _ _ _ _=>rfl;obtain⟨fal,dal,aal,Fal⟩:=hal;have bal:=jY (p1 := "kind") (p2 := "one") (p3 := "other") Fal λ_ _ _ _ _ _ _ _ _=>rfl;obtain⟨flq,dlq,alq,Flq⟩:=hlq;have blq:=bi4 (p1 := "_law_tree_here") (p2 := "_law_numbers") (p3 := "_law_known") (p4 := "_law_letters_to") Flq λ_ _ _ _ _ _ _ _ _ _=>rfl;obtain⟨flh,dlh,alh,Flh⟩:=hlh;have blh:=bi7 (p1 := "_law_kind") (p2 := "_law_table") (p3 := "_law_numbers") (p4 := "_law_one") (p5 := "_law_tree_here") (p6 := "_law_other") (p7 := "_law_more") Flh λ_ _ _ _ _ _ _ _ _ _ _ _ _=>rfl;refine⟨fO "law" "law" EM .none kVla dcla pmla anla (.ref c) ctla,λs v=>.of_eq Zj,λbase _ _ hC hBu=>?_⟩;have FT:=@fnT l.prog w K mg base;have MT:=@mtT l.prog w K mg base;have Gwh:=FT (sp:=spIsWhole) Fwh (LP Fwh B) (MG awh) bwh;have Gnm:=FT (sp:=spIsName) Fnm (O1 Fnm B hL) (MG anm) bnm;have Guo:=FT (sp:=(spUnionOf K)) Fuo (Mo Fuo) (MG auo) buo;have Gnx:=FT (sp:=(spNextMark K)) Fnx (K3 Fnx B) (MG anx) bnx;have Goo:=FT (sp:=(DJ K)) Foo (Mu Foo B) (MG aoo) boo;have Gno:=FT (sp:=spIsNamesOf) Fno (Jq Fno B Goo) (MG ano) bno;have Gth:=FT (sp:=spThing) Fth (Ql Fth B Gnx Gno Guo Gwh) (MG ath) bth;have Gro:=FT (sp:=spRow) Fro (UR Fro B hG Gnm Gth) (MG aro) bro;have Gnb:=FT (sp:=spNumbered) Fnb (K5 Fnb B hM Gro) (MG anb) bnb;have Gfi:=FT (sp:=spFirsts) Ffi (O8 Ffi) (MG afi) bfi;have GmK:=MT (sp:=(spKnown C)) amK imK FmK (Qr FmK B T Guo) bmK;have GmT:=MT (sp:=(spRest C)) amT imT FmT (Sn FmT T) bmT;have Glc:=FT (sp:=(spCell K)) Flc (Sj Flc B) (MG alc) blc;have Gld:=FT (sp:=spDrawn) Fld (Qt Fld) (MG ald) bld;have Glr:=FT (sp:=dj) Flr (Sk Flr Gld) (MG alr) blr;have Gls:=FT (sp:=(spRounds K)) Fls (PJ Fls B Glc) (MG als) bls;have Gll:=FT (sp:=spLines) Fll (Q6 Fll B Glr) (MG all) bll;have Gxn:=FT (sp:=spIsNumber) Fxn (Jw Fxn hLi (FT (sp:=D7 K) Fwh (F5 Fwh B) (MG awh) bwh)) (MG axn) bxn;have Glb:=FT (sp:=spBitsOf) Flb (PL Flb B) (MG alb) blb;have Glu:=FT (sp:=spRuleOf) Flu (PF Flu Glr) (MG alu) blu;have Glt:=FT (sp:=spTable) Flt (Q8 Flt B Glb) (MG alt) blt;have Ggl:=FT (sp:=(spLet K)) Fgl (Ug Fgl B) (MG agl) bgl;have Ggi:=FT (sp:=spLi) Fgi (V0 Fgi B Ggl) (MG agi) bgi;have GdS:=MT (sp:=(spSet DC bd)) adS idS FdS (Uk FdS B DT (MG vBD)) bdS;have GdP:=MT (sp:=(spTP DC)) adP idP FdP (Vg FdP DT) bdP;have GdB:=MT (sp:=(spTB DC bd)) adB idB FdB (Vl FdB DT (MG vBD) (MG vJN) jT GdS) bdB;have GdA:=MT (sp:=(spTA DC)) adA idA FdA (Vm FdA DT) bdA;have GdC:=MT (sp:=(spTC DC bd)) adC idC FdC (Vn FdC B DT (MG vLB) GdS) bdC;have GdG:=MT (sp:=(spTS DC bd)) adG idG FdG (Vo FdG DT GdB GdA GdC) bdG;have GdN:=MT (sp:=(spEnds DC bd)) adN idN FdN (Sw FdN B DT (MG vLB) GdS) bdN;have Ggj:=FT (sp:=spJn) Fgj (Vr Fgj) (MG agj) bgj;have Gex:=FT (sp:=spEx) Fex (V1 Fex B) (MG aex) bex;have Gbo:=FT (sp:=spBoth) Fbo (S7 Fbo Glr) (MG abo) bbo;have GW:FnS l.prog w K mg base "_law_word" 1 ["_law_e"] (Dd K (λi=>([e0,e1,e2,e3,e4,e5,e6,e7,e8,e9,ig]:List Xd).getD i 0)):=⟨⟨_,_,So Flw B M,MG alw,Flw.kp,blw⟩⟩;have KO:Rb l.prog w K mg base C:=⟨T,mCg,⟨_,_,⟨fC.mz,ain,iin,fC.kc⟩,Sh Fin B T hR rT Gnb Gfi Goo,⟨_,TJ⟩,_,U3 kdo kdr,.cons ⟨_,rfl⟩ .nil⟩⟩;have ME:Vc l.prog w K mg base cM:=⟨MG aM,xmg,xmr,⟨_,_,xmf,Hm Fei (MN z_VE),kei,To dtl⟩⟩;have EO5:Ta l.prog w K mg base "BadName" e5:=⟨MG aX5,⟨_,_,⟨y5.F.cx,y5.i,iei,⟨_,lei,rfl⟩,y5.F.ke⟩,Hm Fei (MN z_VE),To dtl⟩⟩;have GwX:=FT (sp:=D7 K) Fwh (F5 Fwh B) (MG awh) bwh;have GnG:=FT (sp:=M6 K) Fxn (Ny Fxn hLi GwX) (MG axn) bxn;have Ggf:=FT (sp:=spFig) Fgf (Uf Fgf B GnG) (MG agf) bgf;have Ggp:=FT (sp:=spPart) Fgp (Ss Fgp Gnm Ggf Ggl) (MG agp) bgp;have Gge:=FT (sp:=spPE) Fge (Su Fge B Ggp) (MG age) bge;have TX:Nx l.prog w K mg base cM e2:=⟨MG aX2,⟨_,_,⟨xc2,ati,iti,oti,y2.F.ke⟩,LM Fti ME,bti⟩,TL y2.s y2.gn y2.gs⟩;have RD:Vp l.prog w K mg base DC bd:=⟨DT,MG aDC,⟨_,_,⟨fDC.mz,adI,idI,fDC.kc⟩,Ui FdI DT,bdI⟩,GdP,GdG,GdN⟩;have Fst:=fun_mk (st:=CN) lst cst kst
 have k2o:nsOkIn K k2=true:=by
  unfold nsOkIn;rw[k2l];exact k2e
 have SO:V2 l.prog w K mg base DC bd e2:=⟨⟨_,_,Vq Fst B RD TX Gge,MG ast,kst,_,TK k2o k2n,.cons rfl .nil⟩⟩;have GmN:Vt l.prog w K mg base C "number" 3 ["self", "name"] (spKN C e5):=⟨⟨_,_,Vs FmN T EO5 Goo,⟨amN,imN,FmN.kp⟩,bmN⟩⟩;have Ggn:FnR l.prog w K mg base "part_number" 4 ["kind", "part", "table"] (spPN C e5):=⟨⟨_,_,Vu Fgn B T Ggl Gnm GmN,MG agn,Fgn.kp,bgn⟩⟩;have Ggo:FnR l.prog w K mg base "number_of" 5 ["kind", "steps", "table"] (spNo C e5):=⟨⟨_,_,Vv Fgo T (MG vJN) jT GmK Ggj Ggn,MG ago,Fgo.kp,bgo⟩⟩;have Gle:Fn l.prog w K mg base "_law_tree" 6 Hu (spTree 3):=⟨⟨_,_,N8 Fle B (MG ale) ble Glr 3,MG ale,Fle.kp,ble⟩⟩;have Glp:Fn l.prog w K mg base "_law_written" 6 J6 (spWrt 3):=⟨⟨_,_,NA Flp B (MG alp) blp Glr 3,MG alp,Flp.kp,blp⟩⟩;have Glf:Fn l.prog w K mg base "_law_formula" 7 OA spForm:=⟨⟨_,_,S4 Flf B Gle Glp,MG alf,Flf.kp,blf⟩⟩;have Gal:FnR l.prog w K mg base "alike" 7 ["kind", "one", "other"] (f9 C e5 bd e2):=⟨⟨_,_,V3 Fal B T SO Ggi Gex GmK Ggo,MG aal,Fal.kp,bal⟩⟩;have Glq:Fn l.prog w K mg base "_law_come" 7 Hv (spCome 5):=⟨⟨_,_,OB Flq (MG alq) blq 5,MG alq,Flq.kp,blq⟩⟩;have Glp5:Fn l.prog w K mg base "_law_written" 8 J6 (spWrt 5):=⟨⟨_,_,NA Flp B (MG alp) blp Glr 5,MG alp,Flp.kp,blp⟩⟩;have Glh:Fn l.prog w K mg base "_law_holds" 8 pHo (spHo C bd):=⟨⟨_,_,WA Flh B Glq Gal,MG alh,Flh.kp,blh⟩⟩;exact U2 Fla Flo (MG alo) blo hC hBu B KO M EX GW EFT EPB Gls Gll Glu Glt Glr Glf Gbo Glp5 Glh Gal
theorem walk {l:OpenLaw}{q:Program}{loose:Xa}{XP:(Str->Option Value)->Heap->Prop}{YP:World->Heap->Prop}{d:DefRec}{K:Params->Frag}{c P0 bd:Xd}{dl:List DcE}{ep:Nat} (hn:l.most=some 63) (hdf:d.params.defaults=[]) (hb5:5<=bd) (hdl:dl.length<=1000) (gq:(dl.map (·.1)).Nodup) (he:gK dl=Bq)
  (hY:∀(w:World) (h:Heap),YP w h->(K w.params).In h/\h.get? P0=some (tabObj #[])/\(K w.params).lookup P0=none/\CodeHd h c P0/\h.get? bd=some (dcObj w.params dl ep)/\(K w.params).lookup bd=none)
  (F:∀(w:World) (mg:SV) (fa:Xd) (h:Heap),(K w.params).In h->h.Ns mainGlobals mg->mg d.name=some (.ref fa) ->
   ∃fd:FuncData,(∀(s:Xe) (u:Value),BindsTo s fd ⟨[u],[]⟩ [("_law_script", u)])/\∀base:Heap,(K w.params).In base->base.Ns mainGlobals mg->CodeHd base c P0->base.BuiltinsAt mg P0->Af l.prog w (K w.params) mg base aT 10 fa fd ["_law_script"] (spLaw (K w.params) P0 bd)) :
  WalkO q loose XP YP l.row.toRowW d [] (λf vs=>PySem.call f vs) :=
 L2.Ot (n:=63) (k:=10) (x := "_law_script") (CX:=λ_=>aT) (sp:=λw=>spLaw (K w.params) P0 bd) hn qc hdf ⟨rfl,qc,qc⟩ hb5 hdl gq hY F
  (λ_ _ a ns hl hP hB hS=>⟨a,ns,rfl,hS,hl,⟨#[],hP,trivial,λ_ _=>.inl rfl⟩,he ▸ hB,λ_=>rfl⟩) λ_ _ _ _ _ z=>z
end Mk
end
section
namespace Hd
open PySem PySem.W PySem.Calls PyProof.Rows
def runT (tb:String->Option Builtin) (p:Program) (w:World) (n₀:Nat) (ann:Option Value):Nat->SharedT->Thread->Option SharedT
 |0,_,_=>none
 |n + 1,s,t=>match through t with
  |true=>some s
  |false=>match stepOk n₀ ann t with
   |false=>none
   |true=>match stepT (denote tb) p w s t with
    |some (s',t')=>runT tb p w n₀ ann n s' t'
    |none=>none
theorem runT_of {tb:String->Option Builtin}{p:Program}{w:World}{n₀:Nat}{ann:Option Value}:∀ {n:Nat}{s s':SharedT}{t:Thread},runT tb p w n₀ ann n s t=some s'->topRun tb p w n₀ ann n s.abs t=some s'.abs
 |0,_,_,_,h=>by cases h
 |n + 1,s,s',t,h=>by
  unfold runT at h
  unfold topRun
  cases ht:through t with
  |true=>rw[ht]at h;cases h;rfl
  |false=>
   rw[ht]at h
   cases hk:stepOk n₀ ann t with
   |false=>rw[hk]at h;cases h
   |true=>
    rw[hk]at h
    cases hs:stepT (denote tb) p w s t with
    |none=>rw[hs]at h;cases h
    |some r=>obtain⟨s₂,t₂⟩:=r;rw[hs]at h;rw[stepT_spec hs];exact runT_of h
def looksAt (p q:Program) (loose:List Str) (Xt:Shared->Bool) (as:List Addr) (h₀:Heap) (s:Shared):=
 (staticsOk (importedModules p.main.body) h₀ s.heap&&namesBound p s.heap&&gensDone s&&laidKept h₀ s.heap,openSeen q loose (importedModules p.main.body) Xt true s,as.map s.heap.get?)
theorem left_of {p q:Program}{loose:List Str}{Xt:Shared->Bool}{as:List Addr}{K:Params->Frag}{N M m₀:Nat}{ann:Option Value}{T0:Params->BT}{life:Life}
  (open_:∀w:World,(fencedOpening treeTable p w N).map (fun s=>(s.heap,s.gens,s.drawn,s.toks))=some (boot_heap w.params,#[],boot_drawn,boot_toks))
  (tree:∀P:Params,absHeap (T0 P) m₀ life=boot_heap P)
  (size:∀w:World,((boot_heap w.params).isNs mainGlobals,(boot_heap w.params).objs.size,(boot_heap w.params).nsMap mainGlobals "__annotations__")=(true,m₀,ann))
  (le:Nat.ble M N=true)
  (run:∀(w:World) (os:OsState),(runT treeTable p w m₀ ann M ⟨T0 w.params,m₀,life,#[],boot_drawn,boot_toks,os⟩ (topStub p)).map (fun s=>looksAt p q loose Xt as (boot_heap w.params) s.abs)=some (true,openGood q loose,(K w.params).map fun x=>some x.2)) :
  LeftO p q loose Xt (fun s=>as.map s.heap.get?) (fun w=>(K w.params).map fun x=>some x.2) N:=fun w=>by
 obtain⟨⟨h,gs,d,k,os⟩,e,e'⟩:=Option.map_eq_some_iff.mp (open_ w)
 obtain⟨rfl,rfl,rfl,rfl⟩:h=boot_heap w.params /\ gs=#[] /\ d=boot_drawn /\ k=boot_toks:=by simpa using e'
 obtain⟨z1,z2,z3⟩:_ /\ _ /\ _:=by simpa only[Prod.mk.injEq]using size w
 obtain⟨sT,r1,r2⟩:=Option.map_eq_some_iff.mp (run w os)
 have r3:=runT_of r1
 have r4:topRun treeTable p w m₀ ann M ⟨boot_heap w.params,#[],boot_drawn,boot_toks,os⟩ (topStub p)=some sT.abs:=by
  rw[←tree w.params]
  exact r3
 have r:=topRun_mono (N - M) _ _ _ _ r4
 rw[show M + (N - M)=N by have:=Nat.le_of_ble_eq_true le;omega]at r
 unfold looksAt at r2
 obtain⟨l1,l2,l3⟩:_ /\ _ /\ _:=by simpa only[Prod.mk.injEq]using r2
 have t:topFrom treeTable p w N ⟨boot_heap w.params,#[],boot_drawn,boot_toks,os⟩=some sT.abs:=by
  unfold topFrom
  dsimp only
  rw[z1,z2,z3,r]
  show(match staticsOk (importedModules p.main.body) (boot_heap w.params) sT.abs.heap&&namesBound p sT.abs.heap&&gensDone sT.abs&&laidKept (boot_heap w.params) sT.abs.heap with |true=>_ |false=>_)=_
  rw[l1]
 unfold openEnds
 rw[e]
 show(topFrom treeTable p w N _).map _=_
 rw[t]
 exact congrArg some (Prod.ext l2 l3)
end Hd
end
noncomputable section
open PySem PySem.W PySem.Calls PyProof.Rows
abbrev Mk.fS (x q:Str) (s:Stmt) (dV kV doc pm:Value) (an:Option Addr) (cd ct:Value):FuncData:=fnOf x q (L2.defArgs s) (L2.defBody s) (L2.defScope s) dV kV doc pm an cd ct
abbrev Xj (x:Str) (a:Nat) (q:Str) (b c:Nat) (d e f g h:Int) (i j l m n:Nat) (o p:Int) (r:Nat):Obj:=⟨.type "code", none,.fields #[.str x a,.str q b,.str "/claim/cut.py" c,.int d 0,.int e 0,.int f 0,.int g 0,.int h 0,.ref i,.bool true,.int 181 0,.ref j,.none,.ref l,.ref m,.ref n,.int o 0,.int p 0,.str "/claim/cut.py" r],#[]⟩
abbrev Xq (P:PySem.Params) (x:Str) (t:Nat) (v:Value):DictEntry:=⟨PyData.keyHash P x,.str x t,v⟩
abbrev Mk.fN (x q:Str) (s:Stmt) (m:Str) (t c:Nat):Obj:=⟨.type "function", none,.func (Mk.fS x q s .none .none .none (.str m t) none (.ref c) .none),#[]⟩
abbrev Mk.eC (x:Str) (a b c d e f:Nat):Obj:=⟨.type "type", none,.cls ⟨x,[.ref a],[.ref b,.ref a,.type "ValueError", .type "Exception", .type "BaseException", .type "object"],c,x,true,[],[],false,none,false⟩,#[some (.ref d),none,some (.str x e),some (.str x f),some (.builtin "ValueError.__new__"),some (.bool true)]⟩
noncomputable def Mk.Kg (P:PySem.Params):PySem.W.Frag:=
 (nat_lit 2,⟨.none,none,(.dict #[] 0),#[]⟩)::(nat_lit 3,⟨.type "dict",none,(.dict #[Xq P "__name__" 165 (.str "law_markworks_k34_whole_alike" 853),Xq P "__doc__" 166 .none,Xq P "__package__" 167 .none,Xq P "__loader__" 168 (.builtin "__main__.__loader__#opaque"),Xq P "__spec__" 169 .none,Xq P "__annotations__" 170 (.ref 6),Xq P "__builtins__" 171 (.ref 4),Xq P "__file__" 173 (.str "/claim/cut.py" 172),Xq P "__cached__" 174 .none,Xq P "MarkError" 215 (.ref 32),Xq P "BadRows" 240 (.ref 52),Xq P "BadRule" 256 (.ref 64),Xq P "BadName" 272 (.ref 76),Xq P "BadNumber" 288 (.ref 88),Xq P "BadRest" 313 (.ref 107),Xq P "Unlike" 329 (.ref 119),Xq P "BadText" 354 (.ref 138),Xq P "BadPairs" 370 (.ref 150),Xq P "Never" 386 (.ref 162),Xq P "Unled" 411 (.ref 181),Xq P "Nothing" 427 (.ref 193),Xq P "GREATEST" 435 (.int 1048575 434),Xq P "MOST_ROWS" 437 (.int 10 436),Xq P "LONGEST_NAME" 439 (.int 6 438),Xq P "RULES" 444 (.ref 196),Xq P "is_whole" 451 (.ref 203),Xq P "is_name" 457 (.ref 208),Xq P "is_mark" 464 (.ref 215),Xq P "union_of" 473 (.ref 222),Xq P "is_one_of" 481 (.ref 229),Xq P "next_mark" 488 (.ref 236),Xq P "is_names_of" 494 (.ref 241),Xq P "thing_number" 500 (.ref 246),Xq P "row_number" 511 (.ref 253),Xq P "numbered" 522 (.ref 260),Xq P "first_names" 532 (.ref 267),Xq P "Kind" 630 (.ref 344),Xq P "LIMIT" 636 (.int 1099511627776 635),Xq P "is_number" 643 (.ref 355),Xq P "JOINING" 649 (.ref 356),Xq P "BINDING" 665 (.ref 357),Xq P "LEAST_BINDING" 667 (.int 1 666),Xq P "is_letter" 674 (.ref 364),Xq P "is_figures" 680 (.ref 369),Xq P "is_part" 688 (.ref 376),Xq P "part_end" 698 (.ref 383),Xq P "Reading" 782 (.ref 449),Xq P "steps_of" 794 (.ref 461),Xq P "letters_in" 800 (.ref 466),Xq P "joined" 809 (.ref 473),Xq P "part_number" 818 (.ref 480),Xq P "number_of" 830 (.ref 487),Xq P "extreme_table" 838 (.ref 492),Xq P "alike" 852 (.ref 499),Xq P "_law_cell" 862 (.ref 506),Xq P "_law_drawn" 871 (.ref 513),Xq P "_law_roll" 880 (.ref 520),Xq P "_law_rounds" 886 (.ref 525),Xq P "_law_word" 892 (.ref 530),Xq P "_law_told" 900 (.ref 537),Xq P "_law_bits_of" 906 (.ref 542),Xq P "_law_rule_of" 913 (.ref 549),Xq P "_law_lines" 919 (.ref 554),Xq P "_law_table_of" 925 (.ref 559),Xq P "_law_tree" 937 (.ref 566),Xq P "_law_written" 949 (.ref 573),Xq P "_law_come" 961 (.ref 580),Xq P "_law_formula" 972 (.ref 587),Xq P "_law_holds" 978 (.ref 592),Xq P "_law_both" 987 (.ref 599),Xq P "law" 993 (.ref 604)] 71),#[]⟩)::(nat_lit 22,⟨.type "tuple",none,(.seq #[(.str "" 201)] 0),#[]⟩)::(nat_lit 28,Xj "__init__" 202 "MarkError.__init__" 203 204 4 2 0 0 3 23 24 25 26 27 207 4 208)::(nat_lit 29,⟨.type "function",none,(.func (Mk.fS "__init__" "MarkError.__init__" (L2.inClass (Mk.top 1) 0) (.ref 22) .none .none (.str "markworks.errors" 187) none (.ref 28) .none)),#[]⟩)::(nat_lit 31,⟨.type "dict",none,(.dict #[Xq P "__module__" 196 (.str "markworks.errors" 187),Xq P "__firstlineno__" 200 (.int 2 199),Xq P "__init__" 209 (.ref 29),Xq P "__static_attributes__" 210 (.ref 30),Xq P "__weakref__" 212 (.ref 33),Xq P "__doc__" 213 .none] 3),#[]⟩)::(nat_lit 32,⟨.type "type",none,(.cls ⟨"MarkError", [(.type "ValueError")],[(.ref 32),(.type "ValueError"),(.type "Exception"),(.type "BaseException"),(.type "object")],31, "MarkError", true,[],[(.ref 52),(.ref 64),(.ref 76),(.ref 88),(.ref 107),(.ref 119),(.ref 138),(.ref 150),(.ref 162),(.ref 181),(.ref 193)],false,none,false⟩),#[(some (.ref 15)),none,(some (.str "MarkError" 189)),(some (.str "MarkError" 197)),(some (.builtin "ValueError.__new__")),(some (.bool true))]⟩)::(nat_lit 52,Mk.eC "BadRows" 32 52 51 36 216 224)::(nat_lit 64,Mk.eC "BadRule" 32 64 63 55 241 249)::(nat_lit 75,⟨.type "dict",none,(.dict #[Xq P "__module__" 264 (.str "markworks.errors" 187),Xq P "__firstlineno__" 268 (.int 13 267),Xq P "__static_attributes__" 269 (.ref 74),Xq P "__doc__" 270 .none] 2),#[]⟩)::(nat_lit 76,Mk.eC "BadName" 32 76 75 67 257 265)::(nat_lit 88,Mk.eC "BadNumber" 32 88 87 79 273 281)::(nat_lit 107,Mk.eC "BadRest" 32 107 106 91 289 297)::(nat_lit 119,Mk.eC "Unlike" 32 119 118 110 314 322)::(nat_lit 134,Xj "__init__" 342 "BadText.__init__" 343 344 26 2 0 0 3 129 130 131 132 133 347 26 348)::(nat_lit 135,Mk.fN "__init__" "BadText.__init__" (L2.inClass (Mk.top 8) 0) "markworks.errors" 187 134)::(nat_lit 137,⟨.type "dict",none,(.dict #[Xq P "__module__" 337 (.str "markworks.errors" 187),Xq P "__firstlineno__" 341 (.int 24 340),Xq P "__init__" 349 (.ref 135),Xq P "__static_attributes__" 351 (.ref 136),Xq P "__doc__" 352 .none] 2),#[]⟩)::(nat_lit 138,Mk.eC "BadText" 32 138 137 122 330 338)::(nat_lit 150,Mk.eC "BadPairs" 32 150 149 141 355 363)::(nat_lit 162,Mk.eC "Never" 32 162 161 153 371 379)::(nat_lit 181,Mk.eC "Unled" 32 181 180 165 387 395)::(nat_lit 193,Mk.eC "Nothing" 32 193 192 184 412 420)::(nat_lit 196,⟨.type "tuple",none,(.seq #[(.str "bar" 440),(.str "drop" 441),(.str "keep" 442),(.str "leave" 443)] 0),#[]⟩)::(nat_lit 202,Xj "is_whole" 445 "is_whole" 446 447 45 1 0 0 3 197 198 199 200 201 449 45 450)::(nat_lit 203,Mk.fN "is_whole" "is_whole" (Mk.top 18) "markworks.kinds" 428 202)::(nat_lit 207,⟨.type "code",none,(.fields #[(.str "is_name" 452),(.str "is_name" 453),(.str "/claim/cut.py" 454),(.int 47 0),(.int 1 0),(.int 0 0),(.int 0 0),(.int 3 0),(.ref 204),(.bool true),(.int 181 0),(.ref 205),.none,.none,.none,(.ref 206),(.int 455 0),(.int 47 0),(.str "/claim/cut.py" 456)]),#[]⟩)::(nat_lit 208,Mk.fN "is_name" "is_name" (Mk.top 19) "markworks.kinds" 428 207)::(nat_lit 221,Xj "union_of" 465 "union_of" 466 467 53 1 0 0 3 216 217 218 219 220 471 53 472)::(nat_lit 222,Mk.fN "union_of" "union_of" (Mk.top 21) "markworks.kinds" 428 221)::(nat_lit 228,Xj "is_one_of" 474 "is_one_of" 475 476 58 2 0 0 3 223 224 225 226 227 479 58 480)::(nat_lit 229,Mk.fN "is_one_of" "is_one_of" (Mk.top 22) "markworks.kinds" 428 228)::(nat_lit 235,Xj "next_mark" 482 "next_mark" 483 484 60 1 0 0 3 230 231 232 233 234 486 60 487)::(nat_lit 236,Mk.fN "next_mark" "next_mark" (Mk.top 23) "markworks.kinds" 428 235)::(nat_lit 240,⟨.type "code",none,(.fields #[(.str "is_names_of" 489),(.str "is_names_of" 490),(.str "/claim/cut.py" 491),(.int 62 0),(.int 2 0),(.int 0 0),(.int 0 0),(.int 3 0),(.ref 237),(.bool true),(.int 181 0),(.ref 238),.none,.none,.none,(.ref 239),(.int 492 0),(.int 62 0),(.str "/claim/cut.py" 493)]),#[]⟩)::(nat_lit 241,Mk.fN "is_names_of" "is_names_of" (Mk.top 24) "markworks.kinds" 428 240)::(nat_lit 245,⟨.type "code",none,(.fields #[(.str "thing_number" 495),(.str "thing_number" 496),(.str "/claim/cut.py" 497),(.int 64 0),(.int 2 0),(.int 0 0),(.int 0 0),(.int 3 0),(.ref 242),(.bool true),(.int 181 0),(.ref 243),.none,.none,.none,(.ref 244),(.int 498 0),(.int 64 0),(.str "/claim/cut.py" 499)]),#[]⟩)::(nat_lit 246,Mk.fN "thing_number" "thing_number" (Mk.top 25) "markworks.kinds" 428 245)::(nat_lit 252,Xj "row_number" 501 "row_number" 502 503 72 2 0 0 3 247 248 249 250 251 509 72 510)::(nat_lit 253,Mk.fN "row_number" "row_number" (Mk.top 26) "markworks.kinds" 428 252)::(nat_lit 259,Xj "numbered" 512 "numbered" 513 514 82 1 0 0 3 254 255 256 257 258 520 82 521)::(nat_lit 260,Mk.fN "numbered" "numbered" (Mk.top 27) "markworks.kinds" 428 259)::(nat_lit 266,Xj "first_names" 523 "first_names" 524 525 92 1 0 0 3 261 262 263 264 265 530 92 531)::(nat_lit 267,Mk.fN "first_names" "first_names" (Mk.top 28) "markworks.kinds" 428 266)::(nat_lit 275,⟨.type "dict",none,(.dict #[Xq P "rest" 546 (.str "bar" 545)] 1),#[]⟩)::(nat_lit 281,Xj "__init__" 547 "Kind.__init__" 548 549 99 2 0 1 3 276 277 278 279 280 553 99 554)::(nat_lit 282,⟨.type "function",none,(.func (Mk.fS "__init__" "Kind.__init__" (L2.inClass (Mk.top 29) 0) .none (.ref 275) .none (.str "markworks.kinds" 428) none (.ref 281) .none)),#[]⟩)::(nat_lit 295,Xj "number" 563 "Kind.number" 564 565 109 2 0 0 3 290 291 292 293 294 568 109 569)::(nat_lit 296,Mk.fN "number" "Kind.number" (L2.inClass (Mk.top 29) 2) "markworks.kinds" 428 295)::(nat_lit 319,Xj "known" 590 "Kind.known" 591 592 124 1 0 0 3 314 315 316 317 318 594 124 595)::(nat_lit 320,Mk.fN "known" "Kind.known" (L2.inClass (Mk.top 29) 6) "markworks.kinds" 428 319)::(nat_lit 326,Xj "rest" 597 "Kind.rest" 598 599 127 1 0 0 3 321 322 323 324 325 601 127 602)::(nat_lit 327,Mk.fN "rest" "Kind.rest" (L2.inClass (Mk.top 29) 7) "markworks.kinds" 428 326)::(nat_lit 343,⟨.type "dict",none,(.dict #[Xq P "__module__" 540 (.str "markworks.kinds" 428),Xq P "__firstlineno__" 544 (.int 97 543),Xq P "__init__" 555 (.ref 282),Xq P "rows" 562 (.ref 289),Xq P "number" 570 (.ref 296),Xq P "names" 577 (.ref 303),Xq P "aliases" 583 (.ref 308),Xq P "marks" 589 (.ref 313),Xq P "known" 596 (.ref 320),Xq P "rest" 603 (.ref 327),Xq P "__eq__" 611 (.ref 334),Xq P "__len__" 618 (.ref 341),Xq P "__static_attributes__" 622 (.ref 342),Xq P "__dict__" 624 (.ref 345),Xq P "__weakref__" 626 (.ref 346),Xq P "__doc__" 627 .none,Xq P "__hash__" 628 .none] 5),#[]⟩)::(nat_lit 344,⟨.type "type",none,(.cls ⟨"Kind", [(.type "object")],[(.ref 344),(.type "object")],343, "Kind", true,[],[],false,none,false⟩),#[none,none,(some (.str "Kind" 533)),(some (.str "Kind" 541)),(some (.builtin "object.__new__")),(some (.bool true))]⟩)::(nat_lit 354,Xj "is_number" 637 "is_number" 638 639 137 1 0 0 3 349 350 351 352 353 641 137 642)::(nat_lit 355,Mk.fN "is_number" "is_number" (Mk.top 32) "markworks.values" 631 354)::(nat_lit 356,⟨.type "tuple",none,(.seq #[(.str "&" 646),(.str "^" 647),(.str "|" 648)] 0),#[]⟩)::(nat_lit 363,Xj "is_letter" 668 "is_letter" 669 670 143 1 0 0 3 358 359 360 361 362 672 143 673)::(nat_lit 364,Mk.fN "is_letter" "is_letter" (Mk.top 37) "markworks.grammar" 644 363)::(nat_lit 368,⟨.type "code",none,(.fields #[(.str "is_figures" 675),(.str "is_figures" 676),(.str "/claim/cut.py" 677),(.int 145 0),(.int 1 0),(.int 0 0),(.int 0 0),(.int 3 0),(.ref 365),(.bool true),(.int 181 0),(.ref 366),.none,.none,.none,(.ref 367),(.int 678 0),(.int 145 0),(.str "/claim/cut.py" 679)]),#[]⟩)::(nat_lit 369,Mk.fN "is_figures" "is_figures" (Mk.top 38) "markworks.grammar" 644 368)::(nat_lit 375,Xj "is_part" 681 "is_part" 682 683 151 2 0 0 3 370 371 372 373 374 686 151 687)::(nat_lit 376,Mk.fN "is_part" "is_part" (Mk.top 39) "markworks.grammar" 644 375)::(nat_lit 382,Xj "part_end" 689 "part_end" 690 691 153 3 0 0 3 377 378 379 380 381 696 153 697)::(nat_lit 383,Mk.fN "part_end" "part_end" (Mk.top 40) "markworks.grammar" 644 382)::(nat_lit 396,Xj "__init__" 711 "Reading.__init__" 712 713 160 1 0 0 3 391 392 393 394 395 715 160 716)::(nat_lit 397,Mk.fN "__init__" "Reading.__init__" (L2.inClass (Mk.top 41) 0) "markworks.grammar" 644 396)::(nat_lit 403,Xj "take_part" 718 "Reading.take_part" 719 720 165 2 0 0 3 398 399 400 401 402 723 165 724)::(nat_lit 404,Mk.fN "take_part" "Reading.take_part" (L2.inClass (Mk.top 41) 1) "markworks.grammar" 644 403)::(nat_lit 410,Xj "take_sign" 726 "Reading.take_sign" 727 728 169 2 0 0 3 405 406 407 408 409 731 169 732)::(nat_lit 411,Mk.fN "take_sign" "Reading.take_sign" (L2.inClass (Mk.top 41) 2) "markworks.grammar" 644 410)::(nat_lit 417,Xj "take_ahead" 734 "Reading.take_ahead" 735 736 176 2 0 0 3 412 413 414 415 416 739 176 740)::(nat_lit 418,Mk.fN "take_ahead" "Reading.take_ahead" (L2.inClass (Mk.top 41) 3) "markworks.grammar" 644 417)::(nat_lit 424,Xj "take_between" 742 "Reading.take_between" 743 744 182 2 0 0 3 419 420 421 422 423 747 182 748)::(nat_lit 425,Mk.fN "take_between" "Reading.take_between" (L2.inClass (Mk.top 41) 4) "markworks.grammar" 644 424)::(nat_lit 431,Xj "take_close" 750 "Reading.take_close" 751 752 190 1 0 0 3 426 427 428 429 430 754 190 755)::(nat_lit 432,Mk.fN "take_close" "Reading.take_close" (L2.inClass (Mk.top 41) 5) "markworks.grammar" 644 431)::(nat_lit 438,Xj "settle" 757 "Reading.settle" 758 759 197 2 0 0 3 433 434 435 436 437 762 197 763)::(nat_lit 439,Mk.fN "settle" "Reading.settle" (L2.inClass (Mk.top 41) 6) "markworks.grammar" 644 438)::(nat_lit 445,Xj "ends" 765 "Reading.ends" 766 767 201 1 0 0 3 440 441 442 443 444 769 201 770)::(nat_lit 446,Mk.fN "ends" "Reading.ends" (L2.inClass (Mk.top 41) 7) "markworks.grammar" 644 445)::(nat_lit 448,⟨.type "dict",none,(.dict #[Xq P "__module__" 706 (.str "markworks.grammar" 644),Xq P "__firstlineno__" 710 (.int 158 709),Xq P "__init__" 717 (.ref 397),Xq P "take_part" 725 (.ref 404),Xq P "take_sign" 733 (.ref 411),Xq P "take_ahead" 741 (.ref 418),Xq P "take_between" 749 (.ref 425),Xq P "take_close" 756 (.ref 432),Xq P "settle" 764 (.ref 439),Xq P "ends" 771 (.ref 446),Xq P "__static_attributes__" 775 (.ref 447),Xq P "__dict__" 777 (.ref 450),Xq P "__weakref__" 779 (.ref 451),Xq P "__doc__" 780 .none] 4),#[]⟩)::(nat_lit 449,⟨.type "type",none,(.cls ⟨"Reading", [(.type "object")],[(.ref 449),(.type "object")],448, "Reading", true,[],[],false,none,false⟩),#[none,none,(some (.str "Reading" 699)),(some (.str "Reading" 707)),(some (.builtin "object.__new__")),(some (.bool true))]⟩)::(nat_lit 454,⟨.type "dict",none,(.dict #[Xq P "lettered" 783 (.bool true)] 1),#[]⟩)::(nat_lit 460,Xj "steps_of" 784 "steps_of" 785 786 204 1 0 1 3 455 456 457 458 459 792 204 793)::(nat_lit 461,⟨.type "function",none,(.func (Mk.fS "steps_of" "steps_of" (Mk.top 42) .none (.ref 454) .none (.str "markworks.grammar" 644) none (.ref 460) .none)),#[]⟩)::(nat_lit 465,⟨.type "code",none,(.fields #[(.str "letters_in" 795),(.str "letters_in" 796),(.str "/claim/cut.py" 797),(.int 221 0),(.int 1 0),(.int 0 0),(.int 0 0),(.int 3 0),(.ref 462),(.bool true),(.int 181 0),(.ref 463),.none,.none,.none,(.ref 464),(.int 798 0),(.int 221 0),(.str "/claim/cut.py" 799)]),#[]⟩)::(nat_lit 466,Mk.fN "letters_in" "letters_in" (Mk.top 43) "markworks.grammar" 644 465)::(nat_lit 472,Xj "joined" 801 "joined" 802 803 223 3 0 0 3 467 468 469 470 471 807 223 808)::(nat_lit 473,Mk.fN "joined" "joined" (Mk.top 44) "markworks.grammar" 644 472)::(nat_lit 479,Xj "part_number" 810 "part_number" 811 812 229 3 0 0 3 474 475 476 477 478 816 229 817)::(nat_lit 480,Mk.fN "part_number" "part_number" (Mk.top 45) "markworks.grammar" 644 479)::(nat_lit 486,Xj "number_of" 819 "number_of" 820 821 235 3 0 0 3 481 482 483 484 485 828 235 829)::(nat_lit 487,Mk.fN "number_of" "number_of" (Mk.top 46) "markworks.grammar" 644 486)::(nat_lit 491,⟨.type "code",none,(.fields #[(.str "extreme_table" 833),(.str "extreme_table" 834),(.str "/claim/cut.py" 835),(.int 247 0),(.int 3 0),(.int 0 0),(.int 0 0),(.int 3 0),(.ref 488),(.bool true),(.int 181 0),(.ref 489),.none,.none,.none,(.ref 490),(.int 836 0),(.int 247 0),(.str "/claim/cut.py" 837)]),#[]⟩)::(nat_lit 492,Mk.fN "extreme_table" "extreme_table" (Mk.top 48) "markworks.formulas" 831 491)::(nat_lit 498,Xj "alike" 839 "alike" 840 841 249 3 0 0 3 493 494 495 496 497 850 249 851)::(nat_lit 499,Mk.fN "alike" "alike" (Mk.top 49) "markworks.formulas" 831 498)::(nat_lit 505,Xj "_law_cell" 855 "_law_cell" 856 857 259 2 0 0 3 500 501 502 503 504 860 259 861)::(nat_lit 506,Mk.fN "_law_cell" "_law_cell" (Mk.top 51) "law_markworks_k34_whole_alike" 853 505)::(nat_lit 512,Xj "_law_drawn" 863 "_law_drawn" 864 865 263 2 0 0 3 507 508 509 510 511 869 263 870)::(nat_lit 513,Mk.fN "_law_drawn" "_law_drawn" (Mk.top 52) "law_markworks_k34_whole_alike" 853 512)::(nat_lit 519,Xj "_law_roll" 872 "_law_roll" 873 874 268 2 0 0 3 514 515 516 517 518 878 268 879)::(nat_lit 520,Mk.fN "_law_roll" "_law_roll" (Mk.top 53) "law_markworks_k34_whole_alike" 853 519)::(nat_lit 524,⟨.type "code",none,(.fields #[(.str "_law_rounds" 881),(.str "_law_rounds" 882),(.str "/claim/cut.py" 883),(.int 275 0),(.int 2 0),(.int 0 0),(.int 0 0),(.int 3 0),(.ref 521),(.bool true),(.int 181 0),(.ref 522),.none,.none,.none,(.ref 523),(.int 884 0),(.int 275 0),(.str "/claim/cut.py" 885)]),#[]⟩)::(nat_lit 525,Mk.fN "_law_rounds" "_law_rounds" (Mk.top 54) "law_markworks_k34_whole_alike" 853 524)::(nat_lit 529,⟨.type "code",none,(.fields #[(.str "_law_word" 887),(.str "_law_word" 888),(.str "/claim/cut.py" 889),(.int 277 0),(.int 1 0),(.int 0 0),(.int 0 0),(.int 3 0),(.ref 526),(.bool true),(.int 181 0),(.ref 527),.none,.none,.none,(.ref 528),(.int 890 0),(.int 277 0),(.str "/claim/cut.py" 891)]),#[]⟩)::(nat_lit 530,Mk.fN "_law_word" "_law_word" (Mk.top 55) "law_markworks_k34_whole_alike" 853 529)::(nat_lit 536,Xj "_law_told" 893 "_law_told" 894 895 287 1 0 0 3 531 532 533 534 535 898 287 899)::(nat_lit 537,Mk.fN "_law_told" "_law_told" (Mk.top 56) "law_markworks_k34_whole_alike" 853 536)::(nat_lit 541,⟨.type "code",none,(.fields #[(.str "_law_bits_of" 901),(.str "_law_bits_of" 902),(.str "/claim/cut.py" 903),(.int 300 0),(.int 1 0),(.int 0 0),(.int 0 0),(.int 3 0),(.ref 538),(.bool true),(.int 181 0),(.ref 539),.none,.none,.none,(.ref 540),(.int 904 0),(.int 300 0),(.str "/claim/cut.py" 905)]),#[]⟩)::(nat_lit 542,Mk.fN "_law_bits_of" "_law_bits_of" (Mk.top 57) "law_markworks_k34_whole_alike" 853 541)::(nat_lit 548,Xj "_law_rule_of" 907 "_law_rule_of" 908 909 302 1 0 0 3 543 544 545 546 547 911 302 912)::(nat_lit 549,Mk.fN "_law_rule_of" "_law_rule_of" (Mk.top 58) "law_markworks_k34_whole_alike" 853 548)::(nat_lit 553,⟨.type "code",none,(.fields #[(.str "_law_lines" 914),(.str "_law_lines" 915),(.str "/claim/cut.py" 916),(.int 304 0),(.int 2 0),(.int 0 0),(.int 0 0),(.int 3 0),(.ref 550),(.bool true),(.int 181 0),(.ref 551),.none,.none,.none,(.ref 552),(.int 917 0),(.int 304 0),(.str "/claim/cut.py" 918)]),#[]⟩)::(nat_lit 554,Mk.fN "_law_lines" "_law_lines" (Mk.top 59) "law_markworks_k34_whole_alike" 853 553)::(nat_lit 558,⟨.type "code",none,(.fields #[(.str "_law_table_of" 920),(.str "_law_table_of" 921),(.str "/claim/cut.py" 922),(.int 323 0),(.int 1 0),(.int 0 0),(.int 0 0),(.int 3 0),(.ref 555),(.bool true),(.int 181 0),(.ref 556),.none,.none,.none,(.ref 557),(.int 923 0),(.int 323 0),(.str "/claim/cut.py" 924)]),#[]⟩)::(nat_lit 559,Mk.fN "_law_table_of" "_law_table_of" (Mk.top 60) "law_markworks_k34_whole_alike" 853 558)::(nat_lit 565,Xj "_law_tree" 926 "_law_tree" 927 928 331 4 0 0 3 560 561 562 563 564 935 331 936)::(nat_lit 566,Mk.fN "_law_tree" "_law_tree" (Mk.top 61) "law_markworks_k34_whole_alike" 853 565)::(nat_lit 572,Xj "_law_written" 938 "_law_written" 939 940 343 3 0 0 3 567 568 569 570 571 947 343 948)::(nat_lit 573,Mk.fN "_law_written" "_law_written" (Mk.top 62) "law_markworks_k34_whole_alike" 853 572)::(nat_lit 579,Xj "_law_come" 950 "_law_come" 951 952 353 4 0 0 3 574 575 576 577 578 959 353 960)::(nat_lit 580,Mk.fN "_law_come" "_law_come" (Mk.top 63) "law_markworks_k34_whole_alike" 853 579)::(nat_lit 586,Xj "_law_formula" 962 "_law_formula" 963 964 367 3 0 0 3 581 582 583 584 585 970 367 971)::(nat_lit 587,Mk.fN "_law_formula" "_law_formula" (Mk.top 64) "law_markworks_k34_whole_alike" 853 586)::(nat_lit 591,⟨.type "code",none,(.fields #[(.str "_law_holds" 973),(.str "_law_holds" 974),(.str "/claim/cut.py" 975),(.int 374 0),(.int 7 0),(.int 0 0),(.int 0 0),(.int 3 0),(.ref 588),(.bool true),(.int 181 0),(.ref 589),.none,.none,.none,(.ref 590),(.int 976 0),(.int 374 0),(.str "/claim/cut.py" 977)]),#[]⟩)::(nat_lit 592,Mk.fN "_law_holds" "_law_holds" (Mk.top 65) "law_markworks_k34_whole_alike" 853 591)::(nat_lit 598,Xj "_law_both" 979 "_law_both" 980 981 393 2 0 0 3 593 594 595 596 597 985 393 986)::(nat_lit 599,Mk.fN "_law_both" "_law_both" (Mk.top 66) "law_markworks_k34_whole_alike" 853 598)::(nat_lit 603,⟨.type "code",none,(.fields #[(.str "law" 988),(.str "law" 989),(.str "/claim/cut.py" 990),(.int 400 0),(.int 1 0),(.int 0 0),(.int 0 0),(.int 3 0),(.ref 600),(.bool true),(.int 181 0),(.ref 601),.none,.none,.none,(.ref 602),(.int 991 0),(.int 400 0),(.str "/claim/cut.py" 992)]),#[]⟩)::(nat_lit 604,Mk.fN "law" "law" (Mk.top 67) "law_markworks_k34_whole_alike" 853 603)::
 []
noncomputable def Mk.Kf (P:PySem.Params):PySem.W.Frag:=(nat_lit 601,⟨.none,none,(.fields #[]),#[]⟩):: (nat_lit 357,⟨.type "dict",none,(.dict #[Xq P "(" 650 (.int 0 651),Xq P "|" 652 (.int 1 653),Xq P "^" 654 (.int 2 655),Xq P "&" 656 (.int 3 657),Xq P "~" 658 (.int 4 659)] 5),#[]⟩):: Mk.Kg P
noncomputable def Mk.Kas:List Nat:=601:: 357:: 2:: 3:: 22:: 28:: 29:: 31:: 32:: 52:: 64:: 75:: 76:: 88:: 107:: 119:: 134:: 135:: 137:: 138:: 150:: 162:: 181:: 193:: 196:: 202:: 203:: 207:: 208:: 221:: 222:: 228:: 229:: 235:: 236:: 240:: 241:: 245:: 246:: 252:: 253:: 259:: 260:: 266:: 267:: 275:: 281:: 282:: 295:: 296:: 319:: 320:: 326:: 327:: 343:: 344:: 354:: 355:: 356:: 363:: 364:: 368:: 369:: 375:: 376:: 382:: 383:: 396:: 397:: 403:: 404:: 410:: 411:: 417:: 418:: 424:: 425:: 431:: 432:: 438:: 439:: 445:: 446:: 448:: 449:: 454:: 460:: 461:: 465:: 466:: 472:: 473:: 479:: 480:: 486:: 487:: 491:: 492:: 498:: 499:: 505:: 506:: 512:: 513:: 519:: 520:: 524:: 525:: 529:: 530:: 536:: 537:: 541:: 542:: 548:: 549:: 553:: 554:: 558:: 559:: 565:: 566:: 572:: 573:: 579:: 580:: 586:: 587:: 591:: 592:: 598:: 599:: 603:: 604:: []
noncomputable def Mk.loose:List PySem.Str:=Str.ofString "MarkError" :: Str.ofString "BadRows" :: Str.ofString "BadRule" :: Str.ofString "BadName" :: Str.ofString "BadNumber" :: Str.ofString "BadRest" :: Str.ofString "Unlike" :: Str.ofString "BadText" :: Str.ofString "BadPairs" :: Str.ofString "Never" :: Str.ofString "Unled" :: Str.ofString "Nothing" :: Str.ofString "GREATEST" :: Str.ofString "MOST_ROWS" :: Str.ofString "LONGEST_NAME" :: Str.ofString "RULES" :: Str.ofString "is_whole" :: Str.ofString "is_name" :: Str.ofString "is_mark" :: Str.ofString "union_of" :: Str.ofString "is_one_of" :: Str.ofString "next_mark" :: Str.ofString "is_names_of" :: Str.ofString "thing_number" :: Str.ofString "row_number" :: Str.ofString "numbered" :: Str.ofString "first_names" :: Str.ofString "Kind" :: Str.ofString "LIMIT" :: Str.ofString "is_number" :: Str.ofString "JOINING" :: Str.ofString "BINDING" :: Str.ofString "LEAST_BINDING" :: Str.ofString "is_letter" :: Str.ofString "is_figures" :: Str.ofString "is_part" :: Str.ofString "part_end" :: Str.ofString "Reading" :: Str.ofString "steps_of" :: Str.ofString "letters_in" :: Str.ofString "joined" :: Str.ofString "part_number" :: Str.ofString "number_of" :: Str.ofString "extreme_table" :: Str.ofString "alike" :: Str.ofString "_law_cell" :: Str.ofString "_law_drawn" :: Str.ofString "_law_roll" :: Str.ofString "_law_rounds" :: Str.ofString "_law_word" :: Str.ofString "_law_told" :: Str.ofString "_law_bits_of" :: Str.ofString "_law_rule_of" :: Str.ofString "_law_lines" :: Str.ofString "_law_table_of" :: Str.ofString "_law_tree" :: Str.ofString "_law_written" :: Str.ofString "_law_come" :: Str.ofString "_law_formula" :: Str.ofString "_law_holds" :: Str.ofString "_law_both" :: []
abbrev Mk.dl:List L2.DcE:=[("(", 650,0,651),("|", 652,1,653),("^", 654,2,655),("&", 656,3,657),("~", 658,4,659)]
abbrev Mk.ep:Nat:=5
def Mk.T0 (P:Params):BT:=.node (boot_o_0 P)
 (.node (boot_o_1 P) (.node (boot_o_3 P) (.node (boot_o_7 P) .nil .nil) .nil) (.node (boot_o_5 P) (.node (boot_o_9 P) .nil .nil) .nil))
 (.node (boot_o_2 P) (.node (boot_o_4 P) (.node (boot_o_8 P) .nil .nil) .nil) (.node (boot_o_6 P) (.node (boot_o_10 P) .nil .nil) .nil))
theorem Mk.tree (P:Params):absHeap (Mk.T0 P) (nat_lit 11) {}=boot_heap P:=by kernel_rfl
theorem Mk.size (w:World):((boot_heap w.params).isNs mainGlobals,(boot_heap w.params).objs.size,(boot_heap w.params).nsMap mainGlobals "__annotations__")=(true,(nat_lit 11),some (.ref (nat_lit 6))):=by kernel_rfl
theorem Mk.opens (w:World):(fencedOpening treeTable PySem.Challenge.pw_markworks_k34_whole_alike w (nat_lit 10260)).map (fun s=>(s.heap,s.gens,s.drawn,s.toks))=some (boot_heap w.params,#[],boot_drawn,boot_toks):=boot_open qd qc (fun s=>qd) w
theorem Mk.twin:Function.const _ true (@Hd.runT,@Hd.looksAt,PySem.Challenge.pw_markworks_k34_whole_alike,Mk.Kf,Mk.loose)=true:=by k_qdec
abbrev Mk.qv:Program:=view PySem.Challenge.pw_markworks_k34_whole_alike [nat_lit 67]
abbrev Mk.Xt (s:Shared):Bool:=xlAt Mk.qv [] s&&recOk [] s
abbrev Mk.RQ (w:World) (os:OsState):Prop:=(Option.map (fun s=>Fast.tw8257016192812374322 Fast.tw1424675195998153162 (view Fast.tw1424675195998153162 [nat_lit 67]) Fast.tw2924075613660010442 (fun s=>xlAt (view Fast.tw1424675195998153162 [nat_lit 67]) [] s&&recOk [] s) Mk.Kas (boot_heap w.params) s.abs)
   (Fast.tw16599536794577742827 Fast.tw14364793385576792824 Fast.tw1424675195998153162 w (nat_lit 11) (some (Value.ref (nat_lit 6))) (nat_lit 5082) ⟨Mk.T0 w.params,nat_lit 11,{},#[],boot_drawn,boot_toks,os⟩ (topStub Fast.tw1424675195998153162))) =
  some (true,openGood (view Fast.tw1424675195998153162 [nat_lit 67]) Fast.tw2924075613660010442,(Fast.tw12104304683883722232 w.params).map fun x=>some x.2)
def Mk.sF (b:Bool) (w:World):World:={ w with params:={ w.params with followText:=fun s=>if s== "special-get-raises" then b else w.params.followText s } }
theorem Mk.sF_eq (w:World):Mk.sF (w.params.followText "special-get-raises") w=w:=by
 have:(fun s=>if s== "special-get-raises" then w.params.followText "special-get-raises" else w.params.followText s)=w.params.followText:=funext fun s=>by
  by_cases h:s = "special-get-raises"
  · rw[h];rfl
  · rw[if_neg (by simpa using h)]
 unfold Mk.sF
 rw[this]
theorem Mk.run_t (w:World) (os:OsState):Mk.RQ (Mk.sF true w) os:=by kernel_rfl
theorem Mk.run_f (w:World) (os:OsState):Mk.RQ (Mk.sF false w) os:=by kernel_rfl
theorem Mk.run_q (w:World) (os:OsState):Mk.RQ w os:=by
 have e:=Mk.sF_eq w
 cases h:w.params.followText "special-get-raises" with
 |true=>rw[h]at e;rw[←e];exact Mk.run_t w os
 |false=>rw[h]at e;rw[←e];exact Mk.run_f w os
theorem Mk.left:LeftO PySem.Challenge.pw_markworks_k34_whole_alike Mk.qv Mk.loose Mk.Xt (fun s=>Mk.Kas.map s.heap.get?) (fun w=>(Mk.Kf w.params).map fun x=>some x.2) (nat_lit 10260):=by
 refine Hd.left_of (M:=nat_lit 5082) (T0:=Mk.T0) Mk.opens Mk.tree Mk.size qc fun w os=>?_
 have h:=Mk.run_q w os
 unfold Mk.RQ at h
 rw[←Fast.te8257016192812374322,←Fast.te1424675195998153162,←Fast.te2924075613660010442,←Fast.te16599536794577742827,←Fast.te14364793385576792824,←Fast.te12104304683883722232]at h
 exact h
theorem Mk.kg_in {P:Params}{h:Heap} (X:(Mk.Kf P).In h):(Mk.Kg P).In h /\ h.get? 601=some (tabObj #[]) /\ h.get? 357=some (L2.dcObj P Mk.dl Mk.ep):=by
 have e:(Mk.Kg P).lookup 601=none:=by kernel_rfl
 have e2:(Mk.Kg P).lookup 357=none:=by kernel_rfl
 refine⟨fun b o z=>X b o ?_,X _ _ (by unfold Mk.Kf;rw[List.lookup_cons];rfl),X _ _ (by unfold Mk.Kf;rw[List.lookup_cons];show List.lookup 357 ((357,_):: Mk.Kg P)=_;rw[List.lookup_cons];rfl)⟩
 unfold Mk.Kf
 rw[List.lookup_cons]
 have nb:(b== 601)=false:=by
  cases q:(b== 601)with
  |false=>rfl
  |true=>rw[beq_iff_eq.mp q,e]at z;cases z
 rw[nb]
 show List.lookup b ((357,_):: Mk.Kg P)=_
 rw[List.lookup_cons]
 have nb2:(b== 357)=false:=by
  cases q:(b== 357)with
  |false=>rfl
  |true=>rw[beq_iff_eq.mp q,e2]at z;cases z
 rw[nb2]
 exact z
def Mk.dL:DefRec:=⟨"law", L2.defArgs (Mk.top (nat_lit 67)),L2.defBody (Mk.top (nat_lit 67)),L2.defScope (Mk.top (nat_lit 67)),match Mk.top (nat_lit 67)with | .FunctionDef _ _ _ _ _ _ _ _ _ p=>p |_=>⟨0,0,0,0⟩⟩
end
open PySem PySem.W PyProof.Rows
set_option maxRecDepth 100000 in
set_option maxHeartbeats 0 in
theorem PySem.Challenge.cw_markworks_k34_whole_alike_holds : PySem.Challenge.rw_markworks_k34_whole_alike.Holds := by
 w_on;o_law
 refine PySem.W.holds_open (r:=PySem.Challenge.rw_markworks_k34_whole_alike.row) (q:=Mk.qv) (loose:=Mk.loose) (Xt:=Mk.Xt) (XP:=XL Mk.qv []) (YP:=InK Mk.Kf) (d:=Mk.dL) (kwd:=[]) Mk.left
  (fun w s e=>InK.of (fun P=>qd) w s e) InK.keeps (fun s e=>xl_of s (Bool.and_eq_true_iff.mp e).1) XL.keeps qd qd qd (fun s e=>recFacts_of (Bool.and_eq_true_iff.mp e).2) (by rfl) (by assumption) qb ⟨rfl,rfl,rfl,rfl,rfl,qb⟩ ?hw ?hc
 case hw=>w_witness2
 have aux:Function.const _ True (PySem.Challenge.rw_markworks_k34_whole_alike,Mk.Kg):=by k_fill;trivial
 refine Mk.walk (l:=PySem.Challenge.rw_markworks_k34_whole_alike) (c:=603) (P0:=601) (bd:=357) (dl:=Mk.dl) (ep:=Mk.ep) (K:=Mk.Kg) rfl rfl qc qc qb rfl (fun w h Y=>⟨(Mk.kg_in Y).1,(Mk.kg_in Y).2.1,qd,Mk.codeHd_of (Mk.kg_in Y).1 qd,(Mk.kg_in Y).2.2,qd⟩) ?F
 case F=>
  intro w mg fa h KX G hmg
  refine' Mk.all_mk KX G hmg ?aC ?aDC ?aM ?aX0 ?aX1 ?aX2 ?aX3 ?aX4 ?aX5 ?aX6 ?aX7 ?aX8 ?aX9 ?aX10 ?z_VE ?hwh ?hnm ?huo ?hnx ?hoo ?hno ?hth ?hro ?hnb ?hfi ?hmK ?hmT ?hlc ?hld ?hlr ?hls ?hll ?hxn ?hlb ?hlu ?hlt ?hgl ?hgi ?hdS ?hdP ?hdB ?hdA ?hdC ?hdG ?hdN ?hgj ?hex ?hbo ?hmN ?hgf ?hgp ?hge ?hgn ?hgo ?hdI ?hti ?hle ?hlp ?hlf ?hlw ?hlo ?hal ?hlq ?hlh ?ain ?iin ?lin ?cin ?kin ?ala ?lla ?cla ?kla ?aei ?iei ?lei ?cei ?kei ?kdl ?kde ?kdr ?dtl ?vG ?vM ?vL ?vR ?qn ?qt ?fC ?fDC ?nC_numbers ?nC_firsts ?nC_rule ?nDC_steps ?nDC_waiting ?nDC_wants_part ?xm ?xc0 ?xc1 ?xc2 ?xc3 ?y5 ?y2 ?xmg ?xmr ?xmf ?rL ?z_len ?z_isinstance ?z_max ?z_min ?z_range ?z_list ?z_tuple ?z_sorted ?z_sum ?z_all ?z_enumerate ?z_int ?z_bool ?z_str ?vBD ?vJN ?vLB ?jL ?ast ?lst ?cst ?kst ?k2l ?k2e ?k2n ?vLi
  case aC|aDC|aM|aX0|aX1|aX2|aX3|aX4|aX5|aX6|aX7|aX8|aX9|aX10|z_VE=>k_is
  case hwh|hnm|huo|hnx|hoo|hno|hth|hro|hnb|hfi|hlc|hld|hlr|hls|hll|hxn|hlb|hlu|hlt|hgl|hgi|hgj|hex|hbo|hgf|hgp|hge|hgn|hgo|hle|hlp|hlf|hlw|hlo|hal|hlq|hlh=>
   refine' ⟨_,_,?a,L2.fun_mk ?b ?c ?d⟩
   case a |b |c |d=>k_is
  case hmK|hmT|hdS|hdP|hdB|hdA|hdC|hdG|hdN|hmN|hdI|hti=>
   refine' ⟨_,_,?a,?i,⟨_,?o,?q⟩,L2.fun_mk ?b ?c ?d⟩
   case a |i |b=>k_is
   case o |q=>first |rfl |k_is
   case c |d=>k_is
  case ain|iin|lin|cin|kin|ala|lla|cla|kla|aei|iei|lei|cei|kei|kdl=>k_is
  case kde=>simp
  case kdr|dtl|vG|vM|vL|vR|qn|qt=>k_is
  case fC|fDC=>
   refine' ⟨?_,?_,?_,?_,?_,?_,?_,?_,?_,?_,?_,?_,?_,?_⟩<;>k_is
  case nC_numbers|nC_firsts|nC_rule|nDC_steps|nDC_waiting|nDC_wants_part=>k_is
  case xm|xc0|xc1|xc2|xc3=>kernel_rfl
  case y5=>
   exact⟨⟨qd,qd,qd,qd,qd,qd,qd,qd,qd,qd⟩,qd,qd,qd⟩
  case y2=>
   exact⟨⟨qd,qd,qd,qd,qd,qd,qd,qd,qd,qd⟩,qd,qd,qd,qd,qd,qd⟩
  case xmg|xmr|xmf=>kernel_rfl
  case rL|z_len|z_isinstance|z_max|z_min|z_range|z_list|z_tuple|z_sorted|z_sum|z_all|z_enumerate|z_int|z_bool|z_str|vBD|vJN|vLB|jL|ast|lst|cst|kst|k2l=>k_is
  case k2e=>simp
  case k2n|vLi=>k_is
