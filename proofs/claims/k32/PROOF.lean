import PyProof.Rows.All
import Wide.All
import OpenK.AllK
import PySem.Challenge.RW_markworks_k32_formulas_refused
set_option genSizeOf false
set_option Elab.async false
set_option linter.all false
set_option maxRecDepth 100000
set_option maxHeartbeats 4000000
abbrev Xe:=PySem.Shared
abbrev Xd:=PySem.Addr
abbrev Xb:=List PySem.Value
abbrev Xa:=List PySem.Str
def Zj {α:Sort _} {a:α}:a=a:=rfl
abbrev Z9:=@Array.getElem?_eq_some_iff
abbrev Z8:=@List.getElem?_eq_some_iff
abbrev Z7:=@List.getElem?_eq_getElem
abbrev Z6:=@Option.map_eq_some_iff
abbrev Z5:=@PySem.lookup_relabel_local
abbrev Z4:=@List.mem_of_getElem?
abbrev Z3:=@PySem.wpAny_isSubtype_exc
abbrev Z2:=@PySem.wpAny_Call_Name_kw
abbrev Z1:=@Nat.lt_of_lt_of_le
abbrev Z0:=@Int.natCast_nonneg
abbrev ZY:=@PySem.wpAny_truthy_bool
abbrev ZX:=@PySem.wpAny_loadPart_at
abbrev ZW:=@PySem.Heap.get?_push_of_some
abbrev ZV:=@PySem.Heap.get?_update_other
abbrev ZU:=@of_decide_eq_true
abbrev ZT:=@PySem.Heap.get?_update_self
abbrev ZS:=@List.mem_append_right
abbrev ZR:=@List.mem_cons_of_mem
abbrev ZQ:=@List.mem_append_left
abbrev ZP:=@decide_eq_false
abbrev ZO:=@PySem.Heap.get?_push_size
abbrev ZN:=@List.filterMap_cons
abbrev ZM:=@decide_eq_true
abbrev ZL:=@PySem.wpAny_holding
abbrev ZK:=@PySem.wpAny_standAt
abbrev ZJ:=@List.mem_cons_self
abbrev ZI:=@List.length_append
abbrev ZH:=@List.mem_singleton
abbrev ZG:=@Nat.lt_irrefl
abbrev ZF:=@List.getElem?_map
abbrev ZE:=@List.take_add_one
abbrev ZD:=@Nat.ne_of_lt
abbrev ZC:=@List.take_length
abbrev ZB:=@List.length_take
abbrev ZA:=@List.lookup_cons
abbrev Zz:=@Nat.le_refl
abbrev Zy:=@PySem.wpAny_bind
abbrev Zx:=@PySem.wpAny_pure
abbrev Zw:=@PySem.wpAny_mono
abbrev Zv:=@List.map_append
abbrev Zu:=@List.append_nil
abbrev Zt:=@List.nodup_cons
abbrev Zs:=@List.mem_map
abbrev Zr:=@if_neg
abbrev Zq:=@if_pos
def qb {p:Prop} (h:p:=by decide +kernel):p:=h
def qc {p:Prop} (h:p:=by decide):p:=h
def qe {p:Prop} (h:p:=by omega):p:=h
def qd {α:Sort _} {a b:α} (h:a=b:=by kernel_rfl):a=b:=h
def AS {α:Type u}{β:Type v}{as:List α} (f:α->β):(as.map f).length=as.length:=List.length_map f
abbrev Aa:=List (PySem.Str×Nat)
abbrev VS:=PySem.Value->PySem.Shared->Prop
abbrev LO:=List (PySem.Addr×PySem.Obj)
abbrev SV:=PySem.Str->Option PySem.Value
open PySem in
abbrev FG:=W.Frag
open List (all_append all_cons all_map any_cons any_eq_true any_map append_nil cons_lt_cons_iff contains_cons drop_eq_getElem_cons drop_length filterMap_cons find?_cons flatten_cons foldl_append foldl_cons getD_eq_getElem?_getD getElem?_append_right getElem?_map getElem_mem length_append length_cons length_drop length_eq_zero_iff length_nil length_singleton length_take lookup_cons map_append map_cons map_map map_nil mem_append mem_append_left mem_append_right mem_cons mem_cons_of_mem mem_cons_self mem_filter mem_map mem_of_mem_take mem_range mem_singleton nil_append nodup_cons nodup_nil not_mem_nil of_mem_zip replicate_succ size_toArray sum_append take_add_one take_length take_of_length_le toList_toArray)
open PySem.Heap (get?_push_of_some get?_push_size get?_update_other get?_update_self lt_size)
section
namespace L2
open PySem
def sl1:1<=sizeLine:=by decide
def fc:2<=sizeLine:=by decide
def gU:3<=sizeLine:=by decide
def sl4:4<=sizeLine:=by decide
def sl6:6<=sizeLine:=by decide
def sl7:7<=sizeLine:=by decide
def sl9:9<=sizeLine:=by decide
end L2
end
section
namespace L2
open PySem PySem.Spec PyProof.Rows
abbrev Key:=Sum Int Str
noncomputable def HG:Key->Value->Bool
 | .inl k,v=>Value.isInt k v
 | .inr x,v=>Value.isStrOf x v
noncomputable def WU (w:World):Key->Int
 | .inl k=>hashInt k
 | .inr x=>hashStr w x
def A5:∀ {k:Key}{v:Value},HG k v=true->(∃i t,k=Sum.inl i/\v=Value.int i t)\/(∃x t,k=Sum.inr x/\v=Value.str x t)
 | .inl i,v,h=>by
  obtain⟨t,e⟩:=Value.isInt_shape (k:=i) (v:=v) h;exact .inl ⟨i,t,Zj,e⟩
 | .inr x,v,h=>by
  obtain⟨t,e⟩:=Value.isStrOf_shape (x:=x) (v:=v) h;exact .inr ⟨x,t,Zj,e⟩
def OF (i:Int) (t:Tok):HG (.inl i) (.int i t)=true:=by simp[HG,Value.isInt]
def OG (x:Str) (t:Tok):HG (.inr x) (.str x t)=true:=by simp[HG,Value.isStrOf]
def Tc (a b:Int):decide ((Sum.inl a:Key)=Sum.inl b)=(a==b):=by
 by_cases e:a=b
 ·subst e;simp
 ·have h:¬ (Sum.inl a:Key)=Sum.inl b:=λq=>e (Sum.inl.inj q);rw[ZP h];exact(beq_eq_false_iff_ne.mpr e).symm
def Td (a b:Str):decide ((Sum.inr a:Key)=Sum.inr b)=decide (a=b):=by
 by_cases e:a=b
 ·subst e;simp
 ·have h:¬ (Sum.inr a:Key)=Sum.inr b:=λq=>e (Sum.inr.inj q);rw[ZP h,ZP e]
def Te (a:Int) (b:Str):decide ((Sum.inl a:Key)=Sum.inr b)=false:=ZP (λq=>nomatch q)
def Tf (a:Str) (b:Int):decide ((Sum.inr a:Key)=Sum.inl b)=false:=ZP (λq=>nomatch q)
noncomputable def AY (prog:Program) (w:World):PySem.KeyKind prog w Key where
 is:=HG
 hash:=WU w
 inj:=λv a b ha hb=>by
  rcases A5 ha with⟨i,t,rfl,rfl⟩ |⟨x,t,rfl,rfl⟩
  ·rcases A5 hb with⟨j,u,rfl,e⟩ |⟨y,u,rfl,e⟩
   ·injection e with e1 _;rw[e1]
   ·exact nomatch e
  ·rcases A5 hb with⟨j,u,rfl,e⟩ |⟨y,u,rfl,e⟩
   ·exact nomatch e
   ·injection e with e1 _;rw[e1]
 byValue:=λk v h=>by
  rcases A5 h with⟨i,t,rfl,rfl⟩ |⟨x,t,rfl,rfl⟩ <;> rfl
 pyHash:=λhv h=>by
  rcases A5 hv with⟨i,t,rfl,rfl⟩ |⟨x,t,rfl,rfl⟩
  ·exact wpAny_pyHash_int h
  ·exact wpAny_pyHash_str h
 eqBool:=λhu hv h=>by
  rcases A5 hu with⟨i,t,rfl,rfl⟩ |⟨x,t,rfl,rfl⟩
  ·rcases A5 hv with⟨j,u,rfl,rfl⟩ |⟨y,u,rfl,rfl⟩
   ·rw[Tc]at h;exact wpAny_eqBool_int h
   ·rw[Te]at h;exact SeqAt.EqAt.int_str i t y u _ _ _ _ h
  ·rcases A5 hv with⟨j,u,rfl,rfl⟩ |⟨y,u,rfl,rfl⟩
   ·rw[Tf]at h;exact SeqAt.EqAt.str_int x t j u _ _ _ _ h
   ·rw[Td]at h;exact wpAny_eqBool_str h
 «strs»:=λk x t v h=>by
  rcases A5 h with⟨i,u,rfl,e⟩ |⟨y,u,rfl,e⟩
  ·exact nomatch e
  ·injection e with e1 _
   subst e1;cases v <;> rfl
def KF (prog:Program) (w:World) (i:Int) (t:Tok):(AY prog w).is (.inl i) (.int i t)=true:=OF i t
def Dt (prog:Program) (w:World) (x:Str) (t:Tok):(AY prog w).is (.inr x) (.str x t)=true:=OG x t
inductive V where
 |aI |bl (b:Bool) |int (i:Int) |str (x:Str) |iG (b:Array UInt8) |jO (b:UInt64) |ref (a:Xd) |ty (n:String)
 deriving DecidableEq
abbrev _root_.Xc:=List V
def RelV:V->Value->Prop
 | .aI,u=>u=Value.none
 | .bl b,u=>u=Value.bool b
 | .int i,u=>∃t,u=Value.int i t
 | .str x,u=>∃t,u=Value.str x t
 | .iG b,u=>∃t,u=Value.bytes b t
 | .jO b,u=>∃t,u=Value.float b t
 | .ref a,u=>u=Value.ref a
 | .ty n,u=>u=Value.type n
abbrev Vals:Xc->Xb->Prop:=Paired RelV
def Vals.length {xs:Xc}{us:Xb} (r:Vals xs us):xs.length=us.length:=Paired.length r
def Vals.get:∀ {xs:Xc}{us:Xb}{i:Nat}{x:V},Vals xs us->xs[i]?=some x->∃u,us[i]?=some u/\RelV x u
 |_,_,_,_,.nil,e=>by simp at e
 |_,_,0,_,.cons r _,e=>by simp at e;subst e;exact⟨_,Zj,r⟩
 |_,_,i+1,x,.cons _ t,e=>by
  obtain⟨u,h1,h2⟩:=Vals.get (i:=i) (x:=x) t (by simpa using e);exact⟨u,by simpa using h1,h2⟩
def Vals.set {x:V}{u:Value} (r:RelV x u):∀ {xs:Xc}{us:Xb} (i:Nat),Vals xs us->Vals (xs.set i x) (us.set i u)
 |_,_,_,.nil=>.nil
 |_,_,0,.cons _ t=>.cons r t
 |_,_,i+1,.cons q t=>.cons q (Vals.set r i t)
def Vals.append:∀ {xs ys:Xc}{us ws:Xb},Vals xs us->Vals ys ws->Vals (xs++ys) (us++ws)
 |_,_,_,_,.nil,s=>s
 |_,_,_,_,.cons r t,s=>.cons r (Vals.append t s)
def ef:Option V->Option Value->Prop
 |some v,some u=>RelV v u
 |none,none=>True
 |_,_=>False
def KV {κ:Type}:List (κ×V)->List (κ×Value)->Prop:=Paired λ(p:κ×V) (q:κ×Value)=>p.1=q.1/\RelV p.2 q.2
noncomputable def kV:Key->V
 | .inl i=>.int i
 | .inr x=>.str x
abbrev LK:=List (Key×V)
inductive HO where
 |lst (xs:Xc)
 |tup (xs:Xc)
 |dK (kvs:LK) |dT (kvs:List (List Key×V))
 |set (S:Int->Bool) (n:Nat)
 |ins (C dx:Xd) (fs:List (Str×V))
 |own (x:Xd)
 |xd (fs:List (Str×V))
 |met (f x:Xd)
 |rng (lo hi:Int)
 |cZ (o:Obj) (u:HO)
 |fb (ps:Array Value)
 |ext (φ:Heap->Prop)
set_option genInjectivity false
abbrev Hp:=Xd->Option HO
noncomputable def upd (H:Hp) (a:Xd) (o:HO):Hp:=λb=>if b=a then some o else H b
def AB {H:Hp}{a:Xd}{o:HO}:upd H a o a=some o:=by unfold upd;rw[Zq rfl]
def AH {H:Hp}{a b:Xd}{o:HO} (h:b≠a):upd H a o b=H b:=by unfold upd;rw[Zr h]
def RE {H:Hp}{a:Xd}{o u:HO}:upd (upd H a o) a u=upd H a u:=by
 funext b;unfold upd;split <;> rfl
def KG {H:Hp}{a b:Xd}{o u:HO} (h:H a=some o) (h':H b=some u) (d:o≠u):a≠b:=by
 intro e;subst e;rw[h]at h';exact d (Option.some.inj h')
def AJ {H:Hp}{a b:Xd}{o:HO} (h:H a=some o) (h':H b=none):a≠b:=by
 intro e;subst e;rw[h]at h';cases h'
section
variable (P:Program) (w:World)
def aQ (H:Hp) (h:Heap) (a:Xd):HO->Prop
 | .lst xs=>xs.length<=sizeLine/\∃(its:Xb) (n:Nat),Vals xs its/\h.get? a=some { cls:=.type "list", data:=.seq its.toArray n }
 | .tup xs=>xs.length<=sizeLine/\∃its:Xb,Vals xs its/\IsTup h a its.toArray
 | .dK kvs=>kvs.length<=sizeLine/\(a==sysModules)=false/\∃vs,KV kvs vs/\h.DictOf (AY P w) a vs
 | .dT kvs=>kvs.length<=sizeLine/\(a==sysModules)=false/\∃xs:List (List Key×Xd×Value),
   Paired (λ(p:List Key×V) (q:List Key×Xd×Value)=>p.1=q.1/\H q.2.1=some (.tup (p.1.map kV))/\RelV p.2 q.2.2) kvs xs /\
   ∃o es ep,h.get? a=some o/\o.ExactDict/\o.data=.dict es ep/\es.toList=xs.map (entryOfKey (tupleKind (AY P w)))/\(xs.map (·.1)).Nodup
 | .set S n=>h.SetOf (intKind P w) a S n
 | .ins C dx fs=>H dx=some (.own a)/\fs.length<=1000/\dx≠a/\h.get? a=some (W.instObj C dx) /\
   ∃mA,h.Ns1 dx mA/\(∀f,ef (fs.lookup f) (mA f))/\PySem.Within mA (fs.map (·.1))
 | .own _=>∃o,h.get? a=some o
 | .xd fs=>∃mA,h.Ns1 a mA/\∀f,ef (fs.lookup f) (mA f)
 | .rng lo hi=>∃t u v,h.get? a=some { cls:=.type "range", data:=.fields #[.int lo t,.int hi u,.int 1 v] }
 | .cZ o u=>h.get? a=some o/\aQ H h a u
 | .fb ps=>h.get? a=some { cls:=.none,data:=.fields ps }
 | .met f x=>h.get? a=some (W.methodObj (.ref f) (.ref x))
 | .ext φ=>φ h/\(∃o,h.get? a=some o)/\∀h1 h2:Heap,φ h1->(∀o,h1.get? a=some o->h2.get? a=some o)->φ h2
def du (H:Hp) (h:Heap):Prop:=∀a o,H a=some o->aQ P w H h a o
end
section
variable {P:Program}{w:World}{H H':Hp}{h h':Heap}{a:Xd}{o:HO}
def aQ.lt (x:aQ P w H h a o):a<h.objs.size:=by
 cases o with
 |lst xs=>obtain⟨_,_,_,_,e⟩:=x;exact lt_size e
 |tup xs=>obtain⟨_,_,_,p⟩:=x;exact p.lt
 |dK kvs=>obtain⟨_,_,_,_,o,_,_,e,_⟩:=x;exact lt_size e
 |dT kvs=>obtain⟨_,_,_,_,o,_,_,e,_⟩:=x;exact lt_size e
 |set S n=>obtain⟨o,_,_,_,e,_⟩:=x;exact lt_size e
 |ins C dx fs=>obtain⟨_,_,_,e,_⟩:=x;exact lt_size e
 |own y=>obtain⟨_,e⟩:=x;exact lt_size e
 |xd fs=>obtain⟨_,⟨_,_,_,e,_⟩,_⟩:=x;exact lt_size e
 |rng lo hi=>obtain⟨_,_,_,e⟩:=x;exact lt_size e
 |cZ ob u=>obtain⟨e,_⟩:=x;exact lt_size e
 |fb ps=>exact lt_size (show h.get? a=some _ from x)
 |met f y=>exact lt_size (show h.get? a=some _ from x)
 |ext φ=>obtain⟨_,⟨_,e⟩,_⟩:=x;exact lt_size e
def Paired.mapP {α β:Type}{F G:α->β->Prop}:∀ {l₁:List α}{l₂:List β},Paired F l₁ l₂->(∀a b,F a b->G a b)->Paired G l₁ l₂
 |_,_,.nil,_=>.nil
 |_,_,.cons r t,f=>.cons (f _ _ r) (Paired.mapP t f)
def aQ.eR (x:aQ P w H h a o) (k:∀b u,(b=a\/H b=some (.own a))->h.get? b=some u->h'.get? b=some u)
  (ho:∀b,H b=some (.own a)->H' b=some (.own a)) (ht:∀b xs,H b=some (.tup xs)->H' b=some (.tup xs)):aQ P w H' h' a o:=by
 induction o with
 |lst xs=>obtain⟨z,its,n,r,e⟩:=x;exact⟨z,its,n,r,k _ _ (.inl Zj) e⟩
 |tup xs=>obtain⟨z,its,r,ob,e,c⟩:=x;exact⟨z,its,r,ob,k _ _ (.inl Zj) e,c⟩
 |dK kvs=>obtain⟨z,y,vs,r,ob,es,ep,e,c⟩:=x;exact⟨z,y,vs,r,ob,es,ep,k _ _ (.inl Zj) e,c⟩
 |dT kvs =>
  obtain⟨z,y,xs,r,ob,es,ep,e,c⟩:=x;exact⟨z,y,xs,Paired.mapP r λp q z=>⟨z.1,ht _ _ z.2.1,z.2.2⟩,ob,es,ep,k _ _ (.inl Zj) e,c⟩
 |set S n=>obtain⟨ob,es,ep,t,e,c⟩:=x;exact⟨ob,es,ep,t,k _ _ (.inl Zj) e,c⟩
 |ins C dx fs =>
  obtain⟨d,z,ne,e,mA,⟨od,es,ep,e2,c⟩,r⟩:=x;exact⟨ho _ d,z,ne,k _ _ (.inl Zj) e,mA,⟨od,es,ep,k _ _ (.inr d) e2,c⟩,r⟩
 |own y=>obtain⟨ob,e⟩:=x;exact⟨ob,k _ _ (.inl Zj) e⟩
 |xd fs=>obtain⟨mA,⟨od,es,ep,e,c⟩,r⟩:=x;exact⟨mA,⟨od,es,ep,k _ _ (.inl Zj) e,c⟩,r⟩
 |rng lo hi=>obtain⟨t,u,v,e⟩:=x;exact⟨t,u,v,k _ _ (.inl Zj) e⟩
 |cZ ob u ih=>obtain⟨e,q⟩:=x;exact⟨k _ _ (.inl Zj) e,ih q⟩
 |fb ps =>
  have e:h.get? a=some { cls:=.none,data:=.fields ps }:=x;show h'.get? a=some { cls:=.none,data:=.fields ps };exact k a _ (.inl Zj) e
 |met f y =>
  have e:h.get? a=some (W.methodObj (.ref f) (.ref y)):=x;show h'.get? a=some (W.methodObj (.ref f) (.ref y));exact k a _ (.inl Zj) e
 |ext φ=>obtain⟨p,⟨o,e⟩,st⟩:=x;exact⟨st _ _ p λo q=>k _ _ (.inl Zj) q,⟨o,k _ _ (.inl Zj) e⟩,st⟩
def du.lt (x:du P w H h) (e:H a=some o):a<h.objs.size:=(x a o e).lt
def du.fresh (x:du P w H h) (e:h.objs.size<=a):H a=none:=by
 cases q:H a with
 |none=>rfl
 |some u=>exact absurd (Z1 (x.lt q) e) (ZG _)
def du.kept (x:du P w H h) (k:∀b u,h.get? b=some u->h'.get? b=some u):du P w H h':=λa o e =>
 (x a o e).eR (λb u _ q=>k b u q) (λ_ q=>q) λ_ _ q=>q
def du.laid (x:du P w H h) (k:∀b u,h.get? b=some u->h'.get? b=some u) (hp:h.objs.size<=a) (new:aQ P w (upd H a o) h' a o):du P w (upd H a o) h':=λb u e=>by
 have hn:=x.fresh hp;by_cases hb:b=a
 ·subst hb;rw[AB]at e;cases e;exact new
 ·rw[AH hb]at e;exact(x b u e).eR (λc v _ q=>k c v q) (λc q=>by rw[AH (AJ q hn)];exact q) λc xs q=>by rw[AH (AJ q hn)];exact q
end
def Rd (H:Hp) (a:Xd) (u:HO):Prop:=H a=some u\/∃o,H a=some (.cZ o u)
def Rd.ok {P:Program}{w:World}{H:Hp}{h:Heap}{a:Xd}{u:HO} (r:Rd H a u) (x:du P w H h):aQ P w H h a u:=by
 rcases r with r |⟨o,r⟩
 ·exact x a u r
 ·obtain⟨_,q⟩:=x a _ r;exact q
def Mut:Option HO->Prop
 |some (.lst _)=>True
 |some (.dK _)=>True
 |some (.dT _)=>True
 |some (.set _ _)=>True
 |some (.ins _ _ _)=>True
 |some (.ext _)=>True
 |_=>False
section
variable {P:Program}{w:World}{H:Hp}{h h':Heap}{x e:Xd}{o':HO}
def du.write (ok:du P w H h) (mu:Mut (H x)) (he:e=x\/H e=some (.own x)) (k:∀b u,b≠e->h.get? b=some u->h'.get? b=some u) (heo:∃u,h'.get? e=some u)
  (new:aQ P w (upd H x o') h' x o'):du P w (upd H x o') h':=λb u q=>by
 have nown:∀c y,H c=some (.own y)->c≠x:=λc y r z=>by subst z;rw[r]at mu;exact mu
 have ntup:∀c xs,H c=some (.tup xs)->c≠x:=λc xs r z=>by subst z;rw[r]at mu;exact mu
 by_cases hb:b=x
 ·subst hb;rw[AB]at q;cases q;exact new
 ·rw[AH hb]at q;by_cases jv:b=e
  ·have q':H b=some (.own x):=by
    rcases he with z |z
    ·exact absurd (jv.trans z) hb
    ·rw[jv];exact z
   rw[q]at q';cases q';obtain⟨v,hv⟩:=heo;exact⟨v,by rw[jv];exact hv⟩
  ·refine(ok b u q).eR (λc v hc r=>k c v ?_ r) (λc r=>by rw[AH (nown c b r)];exact r) λc xs r=>by rw[AH (ntup c xs r)];exact r
   rcases hc with rfl |hc
   ·exact jv
   ·rintro rfl;rcases he with z |z
    ·exact nown c b hc z
    ·rw[hc]at z;cases z;exact hb rfl
end
structure Un (fs ex:List Xd) (H H':Hp) (h h':Heap):Prop where
 keep:∀b o,h.get? b=some o->H b=none->b∉ fs->b∉ ex->h'.get? b=some o
 slot:∀b o,h.get? b=some o->H b=none->b∈fs->b∉ ex->∃sl,h'.get? b=some { o with slots:=sl }
 free:∀b o,h.get? b=some o->H b=none->b∉ ex->H' b=none
 there:∀b o,h.get? b=some o->b∉ ex->∃o',h'.get? b=some o'
 eZ:∀b xs,H b=some (.tup xs)->H' b=some (.tup xs)
 eU:∀b o u,H b=some (.cZ o u)->H' b=some (.cZ o u)
 eQ:∀b ps,H b=some (.fb ps)->∃more,H' b=some (.fb (ps++more))
section
variable {fs fs' ex ex':List Xd}{H H1 H2:Hp}{h h1 h2 h':Heap}{a x e:Xd}{o:HO}
def Un.any (u:Un fs ex H H1 h h1) {b:Xd}{ob:Obj} (q:h.get? b=some ob) (n:H b=none) (hx:b∉ ex):∃sl,h1.get? b=some { ob with slots:=sl }:=by
 by_cases hb:b∈fs
 ·exact u.slot b ob q n hb hx
 ·exact⟨ob.slots,u.keep b ob q n hb hx⟩
def Un.kept (k:∀b u,h.get? b=some u->h'.get? b=some u):Un fs ex H H h h' :=
 ⟨λb ob q _ _ _=>k b ob q,λb ob q _ _ _=>⟨ob.slots,k b ob q⟩,λ_ _ _ n _=>n,λb ob q _=>⟨ob,k b ob q⟩,λ_ _ q=>q,λ_ _ _ q=>q,λ_ ps q=>⟨#[],by rw[q];simp⟩⟩
def Un.refl:Un fs ex H H h h:=Un.kept λ_ _ q=>q
def Un.laid (k:∀b u,h.get? b=some u->h'.get? b=some u) (hp:h.objs.size<=a) (hn:H a=none):Un fs ex H (upd H a o) h h' where
 keep:=λb u q _ _ _=>k b u q
 slot:=λb u q _ _ _=>⟨u.slots,k b u q⟩
 free:=λb u q n _=>by rw[AH (ZD (Z1 (lt_size q) hp))];exact n
 there:=λb u q _=>⟨u,k b u q⟩
 eZ:=λb xs q=>by rw[AH (AJ q hn)];exact q
 eU:=λb u xs q=>by rw[AH (AJ q hn)];exact q
 eQ:=λb ps q=>⟨#[],by rw[AH (AJ q hn),q];simp⟩
def Un.write (mu:Mut (H x)) (he:e=x\/H e=some (.own x)) (k:∀b u,b≠e->h.get? b=some u->h'.get? b=some u) (heo:∃u,h'.get? e=some u):Un fs ex H (upd H x o) h h':=by
 have hx:∀b,H b=none->b≠x:=λb n z=>by subst z;rw[n]at mu;exact mu
 have hb:∀b,H b=none->b≠e:=λb n z=>by
  subst z;rcases he with r |r
  ·exact hx b n r
  ·rw[n]at r;cases r
 have hm:∀b u,H b=some u->¬ Mut (some u)->b≠x:=λb u q nm z=>by subst z;rw[q]at mu;exact nm mu
 refine⟨λb u q n _ _=>k b u (hb b n) q,λb u q n _ _=>⟨u.slots,k b u (hb b n) q⟩,λb u q n _=>by rw[AH (hx b n)];exact n,λb u q _=>?_,
  λb xs q=>by rw[AH (hm b _ q λz=>z)];exact q,λb u xs q=>by rw[AH (hm b _ q λz=>z)];exact q,λb ps q=>⟨#[],by rw[AH (hm b _ q λz=>z),q];simp⟩⟩
 by_cases jv:b=e
 ·subst jv;exact heo
 ·exact⟨u,k b u jv q⟩
end
noncomputable def trk (h:Heap) (H:Hp):List Xd:=(List.range h.objs.size).filter λa=>(H a).isSome
noncomputable def HH (h:Heap) (H:Hp):Heap:=W.hideAll h (trk h H)
def OH (h:Heap) (H:Hp):(HH h H).objs.size=h.objs.size:=W.hideAll_size _ _
def PF {h:Heap}{H:Hp}{b:Xd}{o:Obj} (e:h.get? b=some o) (n:H b=none):(HH h H).get? b=some o :=
 W.hideAll_get _ e λhm=>by
  have q:(H b).isSome=true:=(mem_filter.mp hm).2;rw[n]at q;simp at q
def RF {h:Heap}{H:Hp}{b:Xd}{o:Obj} (e:(HH h H).get? b=some o):h.get? b=some o/\H b=none:=by
 have e':h.get? b=some o:=W.of_hideAll (trk h H) e;refine⟨e',?_⟩;cases q:H b with
 |none=>rfl
 |some x =>
  have hm:b∈trk h H:=mem_filter.mpr ⟨mem_range.mpr (lt_size e'),by simp[q]⟩;have z:(HH h H).get? b=none:=W.hideAll_none (trk h H) hm;rw[z]at e;cases e
structure Mod (K:FG) (mg:SV) (base:Heap):Prop where
 kin:K.In base
 glob:base.Ns mainGlobals mg
 blt:∃mb,base.Ns builtinsNs mb/\∀x:Str,x≠ "__name__" -> mb x=bootBuiltins x
 nolimit:base.NoLimit
structure Cx where
 prog:Program
 w:World
 K:FG
 mg:Str->Option Value
 base:Heap
 A:Around
 N:Xa
 aX:Xe
 eV:Hp
 env:Env
 outer:List Env
 stack:List Env
 ex:List Xd
 fn:Str->Bool
 calm:Bool
 pn:LO
 xe:Value->Xe->Prop
noncomputable def dn (l:List Env):List Xd:=l.filterMap (·.frame)
noncomputable abbrev Cx.fs (X:Cx):List Xd:=dn X.outer
def Vis (sc:Scope) (x:Str):Prop:=sc.names.lookup x=some .local\/sc.names.lookup x=some .cell\/sc.names.lookup x=some .free
def Loc (sc:Scope) (x:Str):Prop:=sc.names.lookup x=some .local\/sc.names.lookup x=some .cell
def WV (env:Env) (h:Heap) (m:SV) (x:Str) (u:Value):Prop :=
 (env.kindOf x=some .local/\m x=some u)\/((env.kindOf x=some .cell\/env.kindOf x=some .free)/\∃c,env.cells.lookup x=some c/\h.IsCell c (some u))
structure Cx.Ok (X:Cx):Prop where
 mod:Mod X.K X.mg X.base
 kind:X.env.scope.kind=.function
 glob:X.env.globals=mainGlobals
 blt:X.env.builtins=builtinsNs
 above:X.aX.heap.objs.size<=X.env.locals
 inj:∀x y c,X.env.cells.lookup x=some c->X.env.cells.lookup y=some c->x=y
 has:∀x,(X.env.kindOf x=some .cell\/X.env.kindOf x=some .free)->∃c,X.env.cells.lookup x=some c
 iZ:∀x c,X.fn x=true->X.env.cells.lookup x=some c->X.aX.heap.objs.size<=c
 hd:X.calm=true->X.A.handled=none
 frames:X.A.frames=some X.stack
 gA:X.stack=X.outer\/(X.stack=X.env::X.outer/\X.env.frame=some X.env.locals)
 exf:∀b∈X.ex,b≠X.env.locals/\∀x c,X.env.cells.lookup x=some c->c≠b
 bs:∀b o,X.base.get? b=some o->X.aX.heap.get? b=some o/\X.eV b=none
 gK:X.base.objs.size<=X.aX.heap.objs.size
 gj:∀b o,X.base.get? b=some o->b∉ X.ex
 fZ:∀b∈X.ex,b∉ X.fs
 df:X.aX.heap.FunFrames X.base X.outer
 ig:∀b∈X.fs,X.eV b=none
structure Inv (X:Cx) (aa:LO) (σ:List (Option V)) (H:Hp) (s:Xe):Prop where
 ok:X.Ok
 os:s.os=X.aX.os
 bare:AllBare s.gens
 base:Un X.fs X.ex X.eV H X.aX.heap s.heap
 loc:∃m,s.heap.Ns X.env.locals m/\∀(i:Nat) (x:Str) (v:V),X.N[i]?=some x->σ[i]?=some (some v)->Vis X.env.scope x->∃u,RelV v u/\WV X.env s.heap m x u
 cell:∀x c,X.env.cells.lookup x=some c->∃v,s.heap.IsCell c v
 free:H X.env.locals=none
 cJ:∀x c,X.env.cells.lookup x=some c->H c=none
 pin:∀p∈X.pn++aa,s.heap.get? p.1=some p.2/\H p.1=none/\p.1≠X.env.locals/\p.1∉ X.fs/\∀v,p.2.data≠ .cell v
 aF:du X.prog X.w H s.heap
 len:σ.length=X.N.length
section
variable {X:Cx}{aa:LO}{σ:List (Option V)}{H H':Hp}{s:Xe}{h':Heap}
def Cx.Ok.nofr (ok:X.Ok) {b:Xd}{o:Obj} (e:X.base.get? b=some o):b∉ X.fs:=λhb=>by
 have:=(ok.df.mem hb).1;rw[e]at this;cases this
def Inv.bs (I:Inv X aa σ H s):∀b o,X.base.get? b=some o->s.heap.get? b=some o/\H b=none:=λb o e =>
 ⟨I.base.keep b o (I.ok.bs b o e).1 (I.ok.bs b o e).2 (I.ok.nofr e) (I.ok.gj b o e),I.base.free b o (I.ok.bs b o e).1 (I.ok.bs b o e).2 (I.ok.gj b o e)⟩
def Inv.bk (I:Inv X aa σ H s):∀b o,X.base.get? b=some o->s.heap.get? b=some o:=λb o e=>(I.bs b o e).1
def Inv.mod (I:Inv X aa σ H s):Mod X.K X.mg X.base:=I.ok.mod
def Inv.cW (I:Inv X aa σ H s):X.K.In s.heap:=I.ok.mod.kin.keeps I.bk
def Inv.fr (I:Inv X aa σ H s):∃m,Fr X.base X.env.locals s.heap m :=
 let ⟨m,hn,_⟩:=I.loc
 ⟨m,hn,I.bk,Nat.le_trans I.ok.gK I.ok.above⟩
def Inv.lt (I:Inv X aa σ H s):X.env.locals<s.heap.objs.size:=let ⟨_,hn,_⟩:=I.loc;hn.lt
def Inv.sz (I:Inv X aa σ H s):X.aX.heap.objs.size<=s.heap.objs.size:=Nat.le_trans I.ok.above (Nat.le_of_lt I.lt)
def Inv.nofs (I:Inv X aa σ H s) {a:Xd} (h:s.heap.objs.size<=a):a∉ X.fs:=λhb=>by
 obtain⟨_,o,ho,_⟩:=I.ok.df.mem hb;exact absurd (Z1 (lt_size ho) (Nat.le_trans I.sz h)) (ZG _)
def Inv.jy (I:Inv X aa σ H s):∀x c,X.env.cells.lookup x=some c->c≠X.env.locals:=λx c e z=>by
 obtain⟨v,o,ho,hd⟩:=I.cell x c e;obtain⟨m,⟨o',es,ep,gZ,hd',_⟩,_⟩:=I.loc;rw[z,gZ]at ho;cases ho;rw[hd']at hd;cases hd
def Inv.df (I:Inv X aa σ H s):s.heap.FunFrames X.base X.outer:=by
 have all:∀(l:List Env),(∀b∈dn l,b∈X.fs)->X.aX.heap.FunFrames X.base l->s.heap.FunFrames X.base l:=by
  intro l;induction l with
  |nil=>intro _ _;trivial
  |cons env r ih =>
   intro hs hl;obtain⟨hk,⟨L,o,hf,hn,ho,hd⟩,hr⟩:=hl;have hL:L∈X.fs:=hs L (by unfold dn;rw[ZN,hf];exact ZJ);obtain⟨sl,e⟩:=I.base.slot L o ho (I.ok.ig L hL) hL λz=>I.ok.fZ L z hL;exact⟨hk,⟨L,_,hf,hn,e,hd⟩,ih (λb hb=>hs b (by unfold dn;rw[ZN,hf];exact ZR _ hb)) hr⟩
 exact all X.outer (λ_ hb=>hb) I.ok.df
def Inv.stack (I:Inv X aa σ H s):s.heap.FunFrames X.base X.stack:=by
 rcases I.ok.gA with e |⟨e,hf⟩
 ·rw[e];exact I.df
 ·rw[e];obtain⟨m,hn,_⟩:=I.loc;refine .cons (by rw[I.ok.kind];decide) hf hn ?_ I.df;exact Heap.get?_none_of_le (Nat.le_trans I.ok.gK I.ok.above)
def Inv.d7 (I:Inv X aa σ H s):∀b∈dn X.stack,b∈X.env.locals::X.fs:=λb hb=>by
 rcases I.ok.gA with e |⟨e,hf⟩
 ·rw[e]at hb;exact ZR _ hb
 ·rw[e]at hb;unfold dn at hb;rw[ZN,hf]at hb;exact hb
def Inv.stkFree (I:Inv X aa σ H s):∀b∈dn X.stack,H b=none:=λb hb=>by
 rcases mem_cons.mp (I.d7 b hb)with e |hb
 ·rw[e];exact I.free
 ·obtain⟨_,o,ho,_⟩:=I.ok.df.mem hb;exact I.base.free b o ho (I.ok.ig b hb) λz=>I.ok.fZ b z hb
def Inv.step {g':Array GenState}{t':Nat}{d':Drawn}{ch:List Xd} (I:Inv X aa σ H s)
  (jc:∀b∈ch,(b∈X.ex\/X.aX.heap.objs.size<=b)/\b≠X.env.locals/\(∀x c,X.env.cells.lookup x=some c->c≠b)/\∀p∈X.pn++aa,p.1≠b)
  (keep:∀b o,b≠X.env.locals->b∉ X.fs->b∉ ch->s.heap.get? b=some o->H b=none->h'.get? b=some o)
  (slot:∀b o,b≠X.env.locals->b∈X.fs->b∉ ch->s.heap.get? b=some o->H b=none->∃sl,h'.get? b=some { o with slots:=sl }) (free:∀b o,b∉ ch->s.heap.get? b=some o->H b=none->H' b=none)
  (there:∀b o,b∉ ch->s.heap.get? b=some o->∃o',h'.get? b=some o')
  (eZ:∀b xs,H b=some (.tup xs)->H' b=some (.tup xs)) (eU:∀b o u,H b=some (.cZ o u)->H' b=some (.cZ o u)) (eQ:∀b ps,H b=some (.fb ps)->∃more,H' b=some (.fb (ps++more)))
  (ns:∀m,s.heap.Ns X.env.locals m->h'.Ns X.env.locals m) (aF:du X.prog X.w H' h') (hg:AllBare g') :
  Inv X aa σ H' { s with heap:=h',gens:=g',drawn:=d',toks:=t' }:=by
 have neL:∀b o,X.aX.heap.get? b=some o->b≠X.env.locals:=λb o e=>ZD (Z1 (lt_size e) I.ok.above)
 have neC:∀b o,X.aX.heap.get? b=some o->b∉ X.ex->b∉ ch:=λb o e hx hb=>by
  rcases (jc b hb).1 with z |z
  ·exact hx z
  ·exact absurd (Z1 (lt_size e) z) (ZG _)
 have cellK:∀x c,X.env.cells.lookup x=some c->∀v,s.heap.IsCell c v->h'.IsCell c v:=λx c e v ⟨o,ho,hd⟩=>by
  have nch:c∉ ch:=λz=>(jc c z).2.2.1 x c e rfl;by_cases hc:c∈X.fs
  ·obtain⟨sl,q⟩:=slot c o (I.jy x c e) hc nch ho (I.cJ x c e);exact⟨_,q,hd⟩
  ·exact⟨o,keep c o (I.jy x c e) hc nch ho (I.cJ x c e),hd⟩
 refine⟨I.ok,I.os,hg,⟨λb o e n hb hx=>?_,λb o e n hb hx=>?_,λb o e n hx=>?_,λb o e hx=>?_,λb xs e=>eZ b xs (I.base.eZ b xs e),λb o xs e=>eU b o xs (I.base.eU b o xs e),λb ps e=>?_⟩,?_,λx c e=>?_,?_,λx c e=>?_,λp hp=>?_,aF,I.len⟩
 ·exact keep b o (neL b o e) hb (neC b o e hx) (I.base.keep b o e n hb hx) (I.base.free b o e n hx)
 ·obtain⟨sl,e1⟩:=I.base.slot b o e n hb hx;obtain⟨sl',e2⟩:=slot b _ (neL b o e) hb (neC b o e hx) e1 (I.base.free b o e n hx);exact⟨sl',e2⟩
 ·obtain⟨o',e1⟩:=I.base.there b o e hx;exact free b o' (neC b o e hx) e1 (I.base.free b o e n hx)
 ·obtain⟨o',e1⟩:=I.base.there b o e hx;exact there b o' (neC b o e hx) e1
 ·obtain⟨m1,e1⟩:=I.base.eQ b ps e;obtain⟨m2,e2⟩:=eQ b _ e1;exact⟨m1++m2,by rw[e2,Array.append_assoc]⟩
 ·obtain⟨m,hn,hl⟩:=I.loc;refine⟨m,ns m hn,λi x v e1 e2 e3=>?_⟩;obtain⟨u,r,l⟩:=hl i x v e1 e2 e3;refine⟨u,r,?_⟩;rcases l with l |⟨k,c,e,z⟩
  ·exact .inl l
  ·exact .inr ⟨k,c,e,cellK x c e _ z⟩
 ·obtain⟨v,z⟩:=I.cell x c e;exact⟨v,cellK x c e v z⟩
 ·obtain⟨m,⟨o,_,_,ho,_⟩,_⟩:=I.loc;exact free _ o (λz=>(jc _ z).2.1 Zj) ho I.free
 ·obtain⟨v,o,ho,hd⟩:=I.cell x c e;exact free c o (λz=>(jc c z).2.2.1 x c e Zj) ho (I.cJ x c e)
 ·obtain⟨e,n,ne,nf,d⟩:=I.pin p hp;have nch:p.1∉ ch:=λz=>(jc p.1 z).2.2.2 p hp rfl;exact⟨keep p.1 p.2 ne nf nch e n,free p.1 p.2 nch e n,ne,nf,d⟩
def Inv.un {t':Nat} (I:Inv X aa σ H s) (u:Un X.fs [] H H' s.heap h') (aF:du X.prog X.w H' h'):Inv X aa σ H' { s with heap:=h',toks:=t' }:=by
 obtain⟨m,⟨o,es,ep,ho,r⟩,_⟩:=id I.loc;obtain⟨sl,hL⟩:=u.any ho I.free (by simp)
 exact I.step (g':=s.gens) (d':=s.drawn) (ch:=[]) (λ_ z=>nomatch z) (λb o _ hb _ e n=>u.keep b o e n hb (by simp)) (λb o _ hb _ e n=>u.slot b o e n hb (by simp)) (λb o _ e n=>u.free b o e n (by simp)) (λb o _ e=>u.there b o e (by simp)) u.eZ u.eU u.eQ (λm' hm=>by
  obtain⟨o',jd,ep',gZ,r'⟩:=hm;rw[ho]at gZ;cases gZ
  exact⟨_,jd,ep',hL,r'⟩) aF I.bare
def Inv.call {g':Array GenState}{t':Nat}{d':Drawn}{ch:List Xd} (I:Inv X aa σ H s) (u:Un (dn X.stack) ch H H' s.heap h') (aF:du X.prog X.w H' h') (hg:AllBare g')
  (jc:∀b∈ch,(b∈X.ex\/X.aX.heap.objs.size<=b)/\b≠X.env.locals/\(∀x c,X.env.cells.lookup x=some c->c≠b)/\∀p∈X.pn++aa,p.1≠b) :
  Inv X aa σ H' { s with heap:=h',gens:=g',drawn:=d',toks:=t' }:=by
 obtain⟨m,⟨o,es,ep,ho,r⟩,_⟩:=id I.loc;obtain⟨sl,hL⟩:=u.any ho I.free λz=>(jc _ z).2.1 rfl
 exact I.step (ch:=ch) jc (λb o hL hb hc e n=>u.keep b o e n (λz=>(mem_cons.mp (I.d7 b z)).elim hL hb) hc) (λb o _ _ hc e n=>u.any e n hc) (λb o hc e n=>u.free b o e n hc) (λb o hc e=>u.there b o e hc) u.eZ u.eU u.eQ (λm' hm=>by
  obtain⟨o',jd,ep',gZ,r'⟩:=hm;rw[ho]at gZ;cases gZ
  exact⟨_,jd,ep',hL,r'⟩) aF hg
def Inv.turned {t':Nat}{it:Xd} (I:Inv X aa σ H s) (k:∀b o,b≠it->s.heap.get? b=some o->h'.get? b=some o) (hn:H it=none) (hL:it≠X.env.locals)
  (h1:it∈X.ex\/X.aX.heap.objs.size<=it) (h2:∀x c,X.env.cells.lookup x=some c->c≠it) (h3:∀p∈X.pn++aa,p.1≠it):Inv X aa σ H { s with heap:=h',toks:=t' }:=by
 have nit:∀b u,H b=some u->b≠it:=λb u e z=>by rw[z,hn]at e;cases e
 refine I.step (g':=s.gens) (d':=s.drawn) (ch:=[it]) (λb hb=>?_) (λb o _ _ hc e _=>k b o (λz=>hc (by simp[z])) e) (λb o _ _ hc e _=>⟨o.slots,k b o (λz=>hc (by simp[z])) e⟩) (λ_ _ _ _ n=>n)
  (λb o hc e=>⟨o,k b o (λz=>hc (by simp[z])) e⟩) (λ_ _ e=>e) (λ_ _ _ e=>e) (λb ps e=>⟨#[],by rw[e];simp⟩) (λm hm=>?_) (λb u e=>?_) I.bare
 ·have e:b=it:=by simpa using hb
  subst e;exact⟨h1,hL,h2,h3⟩
 ·obtain⟨o,es,ep,ho,r⟩:=hm;exact⟨o,es,ep,k _ o (Ne.symm hL) ho,r⟩
 ·refine(I.aF b u e).eR (λc v hc q=>k c v ?_ q) (λ_ q=>q) λ_ _ q=>q;rcases hc with z |z
  ·rw[z];exact nit b u e
  ·exact nit c _ z
def Inv.tok (I:Inv X aa σ H s) (t:Nat):Inv X aa σ H { s with toks:=t }:=I.un (h':=s.heap) (t':=t) Un.refl I.aF
def Inv.kept {t':Nat} (I:Inv X aa σ H s) (k:∀b u,s.heap.get? b=some u->h'.get? b=some u):Inv X aa σ H { s with heap:=h',toks:=t' }:=I.un (Un.kept k) (I.aF.kept k)
def Inv.laid {a:Xd}{o:HO}{t':Nat} (I:Inv X aa σ H s) (k:∀b u,s.heap.get? b=some u->h'.get? b=some u) (hp:s.heap.objs.size<=a) (new:aQ X.prog X.w (upd H a o) h' a o) :
  Inv X aa σ (upd H a o) { s with heap:=h',toks:=t' }:=I.un (Un.laid k hp (I.aF.fresh hp)) (I.aF.laid k hp new)
def Inv.write {x e:Xd}{o:HO}{t':Nat} (I:Inv X aa σ H s) (mu:Mut (H x)) (he:e=x\/H e=some (.own x)) (k:∀b u,b≠e->s.heap.get? b=some u->h'.get? b=some u) (heo:∃u,h'.get? e=some u)
  (new:aQ X.prog X.w (upd H x o) h' x o):Inv X aa σ (upd H x o) { s with heap:=h',toks:=t' }:=I.un (Un.write mu he k heo) (I.aF.write mu he k heo new)
def Inv.weak {aJ:List (Option V)} (I:Inv X aa σ H s) (hl:aJ.length=σ.length) (w:∀(i:Nat) v,aJ[i]?=some (some v)->σ[i]?=some (some v)):Inv X aa aJ H s :=
 ⟨I.ok,I.os,I.bare,I.base,let ⟨m,hn,hl'⟩:=I.loc;⟨m,hn,λi x v e1 e2 e3=>hl' i x v e1 (w i v e2) e3⟩,I.cell,I.free,I.cJ,I.pin,I.aF,hl.trans I.len⟩
def Inv.cS {pins':LO} (I:Inv X aa σ H s) (h:∀p∈pins',s.heap.get? p.1=some p.2/\H p.1=none/\p.1≠X.env.locals/\p.1∉ X.fs/\∀v,p.2.data≠ .cell v):Inv X pins' σ H s :=
 ⟨I.ok,I.os,I.bare,I.base,I.loc,I.cell,I.free,I.cJ,λp hp=>(mem_append.mp hp).elim (λz=>I.pin p (ZQ _ z)) (h p),I.aF,I.len⟩
def KH {N:Xa} (hN:N.Nodup) {i j:Nat}{x:Str} (a:N[i]?=some x) (b:N[j]?=some x):i=j:=by
 obtain⟨h1,e1⟩:=Z8.mp a;obtain⟨h2,e2⟩:=Z8.mp b;exact(List.getElem_inj hN).mp (e1.trans e2.symm)
def OI {M:Model}{A:Around}{E:VS}{i:Nat}{x:Str}{v:V}{u:Value}{Q:Unit->Xe->Prop} (I:Inv X aa σ H s) (hN:X.N.Nodup) (hi:X.N[i]?=some x) (hx:Loc X.env.scope x) (r:RelV v u)
  (h:∀s',Inv X aa (σ.set i (some v)) H s'->(∃a,Heap.SameBut a s.heap s'.heap/\(a=X.env.locals\/X.env.cells.lookup x=some a))->Q () s') (hf:X.fn x=true\/X.env.scope.names.lookup x=some .local:=by first |exact .inl rfl |exact .inr rfl |assumption):wpAny M A (storeName X.env x u) Q E s:=by
 obtain⟨m,hn,hl⟩:=id I.loc;have bi:(X.env.scope.kind == .class||(X.env.scope.kind == .module&&X.env.locals != X.env.globals))=false:=by rw[I.ok.kind];rfl
 have hiσ:i<σ.length:=by rw[I.len];exact(Z8.mp hi).1
 have jy:=I.jy
 have tracked:∀ {a:Xd}{h':Heap},(∃o,s.heap.get? a=some o/\H a=none)->Heap.SameBut a s.heap h'->du X.prog X.w H h':=λ{a h'} ha hs b ob e=>by
  obtain⟨_,_,b8⟩:=ha;refine(I.aF b ob e).eR (λc w' hc q=>(hs.2 c ?_).trans q) (λ_ q=>q) λ_ _ q=>q;rintro rfl;rcases hc with rfl |hc
  ·rw[b8]at e;cases e
  ·rw[b8]at hc;cases hc
 rcases hx with hk |hk
 ·refine wpAny_storeName_local hk hn (λh' hn' hs=>?_) bi;obtain⟨oL,_,_,i9,_⟩:=id hn;refine h _ ⟨I.ok,I.os,I.bare,⟨λb o e n hb hx=>?_,λb o e n hb hx=>?_,I.base.free,λb o e hx=>?_,I.base.eZ,I.base.eU,I.base.eQ⟩,⟨_,hn',λj y v' e1 e2 e3=>?_⟩,λy c e=>?_,I.free,I.cJ,λp hp=>?_,tracked ⟨oL,i9,I.free⟩ hs,by simpa using I.len⟩ ⟨_,hs,.inl Zj⟩
  ·exact(hs.2 b (ZD (Z1 (lt_size e) I.ok.above))).trans (I.base.keep b o e n hb hx)
  ·obtain⟨sl,e1⟩:=I.base.slot b o e n hb hx;exact⟨sl,(hs.2 b (ZD (Z1 (lt_size e) I.ok.above))).trans e1⟩
  ·obtain⟨o',e1⟩:=I.base.there b o e hx;exact⟨o',(hs.2 b (ZD (Z1 (lt_size e) I.ok.above))).trans e1⟩
  ·by_cases hj:j=i
   ·subst hj;rw[hi]at e1;cases e1;rw[List.getElem?_set_self hiσ]at e2;cases e2;exact⟨u,r,.inl ⟨hk,by simp⟩⟩
   ·rw[List.getElem?_set_ne (Ne.symm hj)]at e2;obtain⟨u',r',q⟩:=hl j y v' e1 e2 e3;refine⟨u',r',?_⟩;rcases q with⟨k,e⟩ |⟨k,c,e,z⟩
    ·refine .inl ⟨k,?_⟩;have:y≠x:=λe=>hj (KH hN e1 (e ▸ hi));simp[this,e]
    ·exact .inr ⟨k,c,e,z.sameBut hs (jy y c e)⟩
  ·obtain⟨w',z⟩:=I.cell y c e;exact⟨w',z.sameBut hs (jy y c e)⟩
  ·obtain⟨e,n,ne,nf,d⟩:=I.pin p hp;exact⟨(hs.2 p.1 ne).trans e,n,ne,nf,d⟩
 ·have hfn:X.fn x=true:=by
   rcases hf with z |z
   ·exact z
   ·rw[z]at hk;cases hk
  obtain⟨c,hc⟩:=I.ok.has x (.inl hk);obtain⟨w',z⟩:=I.cell x c hc;refine wpAny_storeName_cell I.ok.kind hk hc z (λh' iU hs=>?_);obtain⟨oc,hoc,hocd⟩:=id z;refine h { s with heap:=h' } ⟨I.ok,I.os,I.bare,⟨λb o e n hb hx=>?_,λb o e n hb hx=>?_,I.base.free,λb o e hx=>?_,I.base.eZ,I.base.eU,I.base.eQ⟩,⟨m,hn.sameBut hs (Ne.symm (jy x c hc)),λj y v' e1 e2 e3=>?_⟩,λy c' e=>?_,I.free,I.cJ,λp hp=>?_,tracked ⟨oc,hoc,I.cJ x c hc⟩ hs,by simpa using I.len⟩ ⟨c,hs,.inr hc⟩
  ·exact(hs.2 b (ZD (Z1 (lt_size e) (I.ok.iZ x c hfn hc)))).trans (I.base.keep b o e n hb hx)
  ·obtain⟨sl,e1⟩:=I.base.slot b o e n hb hx;exact⟨sl,(hs.2 b (ZD (Z1 (lt_size e) (I.ok.iZ x c hfn hc)))).trans e1⟩
  ·obtain⟨o',e1⟩:=I.base.there b o e hx;exact⟨o',(hs.2 b (ZD (Z1 (lt_size e) (I.ok.iZ x c hfn hc)))).trans e1⟩
  ·by_cases hj:j=i
   ·subst hj;rw[hi]at e1;cases e1;rw[List.getElem?_set_self hiσ]at e2;cases e2;exact⟨u,r,.inr ⟨.inl hk,c,hc,iU⟩⟩
   ·rw[List.getElem?_set_ne (Ne.symm hj)]at e2;obtain⟨u',r',q⟩:=hl j y v' e1 e2 e3;refine⟨u',r',?_⟩;rcases q with q |⟨k,c',e,z'⟩
    ·exact .inl q
    ·refine .inr ⟨k,c',e,z'.sameBut hs ?_⟩;rintro rfl;exact hj (KH hN e1 (I.ok.inj _ _ _ e hc ▸ hi))
  ·by_cases hcc:c'=c
   ·subst hcc;exact⟨_,iU⟩
   ·obtain⟨w2,z2⟩:=I.cell y c' e;exact⟨w2,z2.sameBut hs hcc⟩
  ·obtain⟨e,n,ne,nf,d⟩:=I.pin p hp;refine⟨(hs.2 p.1 ?_).trans e,n,ne,nf,d⟩;intro q;rw[q,hoc]at e;have q':oc=p.2:=Option.some.inj e;exact d w' (by rw[←q'];exact hocd)
def DE {M:Model}{A:Around}{E:VS}{i:Nat}{x:Str}{v:V}{u:Value}{Q:Unit->Xe->Prop} (I:Inv X aa σ H s) (hN:X.N.Nodup) (hi:X.N[i]?=some x) (hx:Loc X.env.scope x) (r:RelV v u)
  (h:∀s',Inv X aa (σ.set i (some v)) H s'->Q () s') (hf:X.fn x=true\/X.env.scope.names.lookup x=some .local:=by first |exact .inl rfl |exact .inr rfl |assumption):wpAny M A (storeName X.env x u) Q E s :=
 OI I hN hi hx r (λs' I' _=>h s' I') hf
def Inv.call' {s':Xe}{ch:List Xd} (I:Inv X aa σ H s) (ho:s'.os=s.os) (u:Un (dn X.stack) ch H H' s.heap s'.heap) (aF:du X.prog X.w H' s'.heap) (hg:AllBare s'.gens)
  (jc:∀b∈ch,(b∈X.ex\/X.aX.heap.objs.size<=b)/\b≠X.env.locals/\(∀x c,X.env.cells.lookup x=some c->c≠b)/\∀p∈X.pn++aa,p.1≠b):Inv X aa σ H' s':=by
 obtain⟨h',g',d',t',o'⟩:=s';have e:o'=s.os:=ho;subst e;exact I.call (g':=g') (t':=t') (d':=d') u aF hg jc
end
abbrev XK:=Value->Option Xd->Hp->Prop
abbrev St:=List (Option V)
abbrev VK:=V->Hp->Prop
abbrev TE:=St->Hp->VK->Prop
abbrev TT:=St->Hp->(Bool->Hp->Prop)->Prop
abbrev TA:=St->Hp->(Xc->Hp->Prop)->Prop
structure Dq where
 nx:St->Hp->Prop
 rt:VK
 bk:St->Hp->Prop:=λ_ _=>False
 ct:St->Hp->Prop:=λ_ _=>False
abbrev TS:=Dq->St->Hp->Prop
inductive EP (X:Cx) (aa:LO) (σ:St) (Q:VK) (u:Value) (s':Xe):Prop where
 |mk (v:V) (H':Hp) (i:Inv X aa σ H' s') (r:RelV v u) (q:Q v H'):EP X aa σ Q u s'
def TP (X:Cx) (aa:LO) (σ:St) (Q:Bool->Hp->Prop) (b:Bool) (s':Xe):Prop:=∃H',Inv X aa σ H' s'/\Q b H'
inductive AP (X:Cx) (aa:LO) (σ:St) (Q:Xc->Hp->Prop) (us:Xb) (s':Xe):Prop where
 |mk (vs:Xc) (H':Hp) (i:Inv X aa σ H' s') (r:Vals vs us) (q:Q vs H'):AP X aa σ Q us s'
def SP (X:Cx) (aa:LO) (D:Dq) (f:Flow) (s':Xe):Prop :=
 match f with
 | .next=>∃aJ H',Inv X aa aJ H' s'/\D.nx aJ H'
 | .brk=>∃aJ H',Inv X aa aJ H' s'/\D.bk aJ H'
 | .cont=>∃aJ H',Inv X aa aJ H' s'/\D.ct aJ H'
 | .ret u=>∃v aJ H',Inv X aa aJ H' s'/\RelV v u/\D.rt v H'
def PE (X:Cx) (e:Expr) (t:TE):Prop :=
 ∀(aa:LO) (s:Xe) (σ:St) (H:Hp) (Q:VK),Inv X aa σ H s->t σ H Q->wpAny (model X.prog X.w) X.A (eval e X.env) (EP X aa σ Q) X.xe s
def PT (X:Cx) (e:Expr) (t:TT):Prop :=
 ∀(aa:LO) (s:Xe) (σ:St) (H:Hp) (Q:Bool->Hp->Prop),Inv X aa σ H s->t σ H Q->wpAny (model X.prog X.w) X.A (isTrue e X.env (eval e X.env)) (TP X aa σ Q) X.xe s
def PW (X:Cx) (e:Expr) (t:TT):Prop :=
 ∀(whole:Sem Value) (aa:LO) (s:Xe) (σ:St) (H:Hp) (Q:Bool->Hp->Prop),Inv X aa σ H s->t σ H Q->wpAny (model X.prog X.w) X.A (isTrue e X.env whole) (TP X aa σ Q) X.xe s
def PW.pt {X:Cx}{e:Expr}{t:TT} (h:PW X e t):PT X e t:=h _
def PA (X:Cx) (es:List Expr) (t:TA):Prop :=
 ∀(pos:Pos) (aa:LO) (s:Xe) (σ:St) (H:Hp) (Q:Xc->Hp->Prop),Inv X aa σ H s->t σ H Q->wpAny (model X.prog X.w) X.A (spliced (backTo pos (starEach es X.env))) (AP X aa σ Q) X.xe s
def PS (X:Cx) (st:Stmt) (t:TS):Prop :=
 ∀(aa:LO) (s:Xe) (σ:St) (H:Hp) (D:Dq),Inv X aa σ H s->t D σ H->wpAny (model X.prog X.w) X.A (exec st X.env) (SP X aa D) X.xe s
def eE (X:Cx) (st:List Stmt) (t:TS):Prop :=
 ∀(aa:LO) (s:Xe) (σ:St) (H:Hp) (D:Dq),Inv X aa σ H s->t D σ H->wpAny (model X.prog X.w) X.A (execs st X.env) (SP X aa D) X.xe s
def aG {α:Type}{t:Sem α}{Q Q':α->Xe->Prop}{M:Model}{A:Around}{E:VS}{s:Xe} (h:wpAny M A t Q E s) (hQ:∀a s,Q a s->Q' a s):wpAny M A t Q' E s:=Zw h hQ λ_ _ x=>x
end L2
variable {X:L2.Cx}{H:L2.Hp}{H':L2.Hp}{s:PySem.Shared}{pos:PySem.Pos}{σ:L2.St}{P:PySem.Program}{w:PySem.World}{A:PySem.Around}{aa:LO}{x:PySem.Str}{a:PySem.Addr}{K:FG}{C:PySem.Addr}{E:VS}{h:PySem.Heap}{us:List PySem.Value}{u:PySem.Value}{xs:List L2.V}{e:PySem.Expr}{te:L2.TE}{base:PySem.Heap}{N:List PySem.Str}{mg:SV}
namespace L2
open PySem PySem.Spec PyProof.Rows
section
inductive ExV (o:Option (Option V)) (k:V->Prop):Prop where
 |mk (v:V) (h:o=some (some v)) (q:k v):ExV o k
inductive ExB (x:V) (k:Bool->Prop):Prop where
 |mk (c:Bool) (h:x=.bl c) (q:k c):ExB x k
inductive ExI (x y:V) (k:Int->Int->Prop):Prop where
 |mk (i j:Int) (h:x=.int i) (h':y=.int j) (q:k i j):ExI x y k
def Cj (i:Nat):TE:=λσ H Q=>ExV σ[i]? λv=>Q v H
def tC (v:V):TE:=λ_ H Q=>Q v H
def PJ {i:Nat} (hN:X.N[i]?=some x) (hv:Vis X.env.scope x) (hd:(x==("__debug__" : Str))=false:=by decide) (fh:(x==("__classdict__" : Str))=false:=by decide):PE X (.Name x pos) (Cj i):=by
 intro aa s σ H Q I h;obtain⟨v,e,h⟩:=h;obtain⟨m,hn,hl⟩:=I.loc;obtain⟨u,r,l⟩:=hl i x v hN e hv;have fin:EP X aa σ Q u s:=⟨v,H,I,r,h⟩;rcases l with⟨hk,hm⟩ |⟨hk,c,hc,bh⟩
 ·exact wpAny_Name (wpAny_loadName_local I.ok.kind hk hn hm fin) hd
 ·rcases hk with hk |hk
  ·exact wpAny_Name (wpAny_loadName_cell I.ok.kind hk hc bh fin) hd
  ·exact wpAny_Name (wpAny_loadName_free I.ok.kind hk hc bh fin fh) hd
def AE {i j pos}:PE X (.Constant (.int i) j pos) (tC (.int i)):=λ_ _ _ H _ I h=>wpAny_Constant_int ⟨.int i,H,I.tok _,⟨_,rfl⟩,h⟩
def By {b j pos}:PE X (.Constant (.bool b) j pos) (tC (.bl b)):=λ_ _ _ H _ I h=>Constant_bool ⟨.bl b,H,I,rfl,h⟩
def Ft {j pos}:PE X (.Constant .none j pos) (tC .aI):=λ_ _ _ H _ I h=>Constant_none ⟨.aI,H,I,rfl,h⟩
def AI {x j pos}:PE X (.Constant (.str x) j pos) (tC (.str x)):=λ_ _ _ H _ I h=>Calls.Constant_str ⟨.str x,H,I.tok _,⟨_,rfl⟩,h⟩
def Gl (X:Cx) (x:Str):Prop:=X.env.kindOf x=some .globalImplicit
def Bq {Q:VS} (I:Inv X aa σ H s) (hg:Gl X x) (hm:X.mg x=some u) (h:Q u s)
  (hd:(x==("__debug__" : Str))=false:=by decide):wpAny (model X.prog X.w) X.A (eval (.Name x pos) X.env) Q E s :=
 Calls.Name_function_global I.ok.kind hg (Calls.loadGlobal_global (by rw[I.ok.glob];exact I.mod.glob.keeps I.bk) hm h) hd
def Du {Q:VS} (I:Inv X aa σ H s) (hg:Gl X x) (hm:X.mg x=none) (hv:bootBuiltins x=some u) (h:Q u s)
  (hn:x≠ "__name__" := by decide) (hd:(x==("__debug__" : Str))=false:=by decide):wpAny (model X.prog X.w) X.A (eval (.Name x pos) X.env) Q E s:=by
 obtain⟨mb,h1,h2⟩:=I.mod.blt;exact Calls.Name_function_global I.ok.kind hg (Calls.loadGlobal_builtin (by rw[I.ok.glob];exact I.mod.glob.keeps I.bk) hm (by rw[I.ok.blt];exact h1.keeps I.bk) ((h2 x hn).trans hv) h) hd
def BH {v:V} (hg:Gl X x) (hm:X.mg x=some u) (r:RelV v u) (hd:(x==("__debug__" : Str))=false:=by decide):PE X (.Name x pos) (tC v) :=
 λ_ _ _ H _ I h=>Bq I hg hm ⟨v,H,I,r,h⟩ hd
def NM {v:V} (hg:Gl X x) (hm:X.mg x=none) (hv:bootBuiltins x=some u) (r:RelV v u) (hn:x≠ "__name__" := by decide) (hd:(x==("__debug__" : Str))=false:=by decide):PE X (.Name x pos) (tC v) :=
 λ_ _ _ H _ I h=>Du I hg hm hv ⟨v,H,I,r,h⟩ hn hd
variable {a b:Expr}{ta tb:TE}
def PC (X:Cx) (op:CmpOp) (a b:Expr) (t:TE):Prop :=
 ∀(aa:LO) (s:Xe) (σ:St) (H:Hp) (Q:VK),Inv X aa σ H s->t σ H Q ->
  wpAny (model X.prog X.w) X.A (eval a X.env) (λv aH=>wpAny (model X.prog X.w) X.A (eval b X.env) (λu s₂=>wpAny (model X.prog X.w) X.A (compareOp op v u) (EP X aa σ Q) X.xe s₂) X.xe aH) X.xe s
def KJ (b:Expr) {op:CmpOp} (h:op≠ .In) (h2:op≠ .NotIn):behindInMarks op b=false:=by
 have e1:(op==CmpOp.In)=false:=by cases op <;> first |rfl |exact absurd rfl h
 have e2:(op==CmpOp.NotIn)=false:=by cases op <;> first |rfl |exact absurd rfl h2
 cases b <;> simp[behindInMarks,e1,e2]
def WW (ta:TE):TE:=λσ H Q=>ta σ H λx H1=>Q (.bl (decide (x=.aI))) H1
def RelV.none_iff {x:V}{v:Value} (r:RelV x v):(v==Value.none)=decide (x=.aI):=by
 cases x with
 |aI=>cases r;rfl
 |bl _=>cases r;rfl
 |int _=>obtain⟨t,rfl⟩:=r;rfl
 |str _=>obtain⟨t,rfl⟩:=r;rfl
 |iG _=>obtain⟨t,rfl⟩:=r;rfl
 |jO _=>obtain⟨t,rfl⟩:=r;rfl
 |ref _=>cases r;rfl
 |ty _=>cases r;rfl
def Lk {j pos'} (ha:PE X a ta):PC X .Is a (.Constant .none j pos') (WW ta):=by
 intro aa s σ H Q I h;refine aG (ha aa s σ H _ I h) λv s1 ⟨x,H1,I1,r1,q1⟩=>?_;exact Constant_none (is_none_gen ⟨.bl _,H1,I1,by rw[r1.none_iff];rfl,q1⟩)
def tB (t:TE):TT:=λσ H Q=>t σ H λx H1=>ExB x λc=>Q c H1
def Tg {op:CmpOp}{t:TE} (h:PC X op a b t) (h1:behindInMarks op b=false:=by first |exact KJ _ qc qc |rfl):PE X (.Compare a [op] [b] pos) t:=λaa s σ H Q I hw=>wpAny_Compare1 (h aa s σ H Q I hw) h1
def JY {op:CmpOp}{t:TE} (h:PC X op a b t) (h1:behindInMarks op b=false:=by first |exact KJ _ qc qc |rfl):PT X (.Compare a [op] [b] pos) (tB t):=by
 intro aa s σ H Q I hw;refine wpAny_isTrue_Compare1 (aG (h aa s σ H _ I hw) λv s1 h1=>aG h1 λu s2 h2=>aG h2 λc s3 ⟨x,H1,I1,r1,q1⟩=>?_) h1;obtain⟨d,rfl,q⟩:=q1;cases r1;exact ZY ⟨H1,I1,q⟩
def A3 {t:TE} (h:PE X e t) (he:∀whole,isTrue e X.env whole=(do let v ←whole;standAt e.pos;holding [v] (truthy v)):=by intro _;rfl):PT X e (tB t):=by
 intro aa s σ H Q I hw;refine isTrue_plain (aG (h aa s σ H _ I hw) λv s1 ⟨x,H1,I1,r1,q1⟩=>?_) (he _);obtain⟨d,rfl,q⟩:=q1;cases r1;exact ZY ⟨H1,I1,q⟩
variable {tA tB':TT}{rest:List Expr}
def Ti (t u:TT):TT:=λσ H Q=>t σ H λc H1=>if c=true then u σ H1 Q else Q false H1
def tOr (t u:TT):TT:=λσ H Q=>t σ H λc H1=>if c=true then Q true H1 else u σ H1 Q
def WX (t:TT):TT:=λσ H Q=>t σ H λc H1=>Q (!c) H1
def BX (ha:PT X a tA):PW X (.BoolOp .And [a] pos) tA:=by
 intro wh aa s σ H Q I h;refine isTrue_and (aG (ha aa s σ H Q I h) λc s1 e=>?_);cases c with
 |true=>exact isTrue_and_nil e
 |false=>exact e
def CJ (ha:PT X a tA):PW X (.BoolOp .Or [a] pos) tA:=by
 intro wh aa s σ H Q I h;refine isTrue_or (aG (ha aa s σ H Q I h) λc s1 e=>?_);cases c with
 |false=>exact isTrue_or_nil e
 |true=>exact e
def Bt (ha:PT X a tA) (hb:PW X (.BoolOp .And (b::rest) pos) tB'):PW X (.BoolOp .And (a::b::rest) pos) (Ti tA tB'):=by
 intro wh aa s σ H Q I h;refine isTrue_and (aG (ha aa s σ H _ I h) λc s1 ⟨H1,I1,q1⟩=>?_);cases c with
 |true=>exact hb wh aa s1 σ H1 Q I1 q1
 |false=>exact⟨H1,I1,q1⟩
def DF (ha:PT X a tA) (hb:PW X (.BoolOp .Or (b::rest) pos) tB'):PW X (.BoolOp .Or (a::b::rest) pos) (tOr tA tB'):=by
 intro wh aa s σ H Q I h;refine isTrue_or (aG (ha aa s σ H _ I h) λc s1 ⟨H1,I1,q1⟩=>?_);cases c with
 |true=>exact⟨H1,I1,q1⟩
 |false=>exact hb wh aa s1 σ H1 Q I1 q1
def BY (ha:PT X a tA):PT X (.UnaryOp .Not a pos) (WX tA):=by
 intro aa s σ H Q I h;exact isTrue_not (ha aa s σ H (λc H1=>Q (!c) H1) I h)
def VA (ta tb:TE):TE:=λσ H Q=>ta σ H λx H1=>ExB x λc=>if c=true then tb σ H1 Q else Q (.bl false) H1
def WY (ta tb:TE):TE:=λσ H Q=>ta σ H λx H1=>ExB x λc=>if c=true then Q (.bl true) H1 else tb σ H1 Q
def VB (ta:TE):TE:=λσ H Q=>ta σ H λx H1=>ExB x λc=>Q (.bl (!c)) H1
def DY {op}{t:TE} (h:PE X a t):PE X (.BoolOp op [a] pos) t:=λaa s σ H Q I hw=>BoolOp_one (h aa s σ H Q I hw)
def C7 (ha:PE X a ta) (hb:PE X (.BoolOp .And (b::rest) pos) tb):PE X (.BoolOp .And (a::b::rest) pos) (VA ta tb):=by
 intro aa s σ H Q I h;refine BoolOp_and (aG (ha aa s σ H _ I h) λv s1 ⟨x,H1,I1,r1,q1⟩=>?_);obtain⟨c,rfl,q1⟩:=q1;cases r1;refine ZY ?_;cases c with
 |true=>exact hb aa s1 σ H1 Q I1 q1
 |false=>exact⟨.bl false,H1,I1,rfl,q1⟩
def Sz (ha:PE X a ta) (hb:PE X (.BoolOp .Or (b::rest) pos) tb):PE X (.BoolOp .Or (a::b::rest) pos) (WY ta tb):=by
 intro aa s σ H Q I h;refine BoolOp_or (aG (ha aa s σ H _ I h) λv s1 ⟨x,H1,I1,r1,q1⟩=>?_);obtain⟨c,rfl,q1⟩:=q1;cases r1;refine ZY ?_;cases c with
 |false=>exact hb aa s1 σ H1 Q I1 q1
 |true=>exact⟨.bl true,H1,I1,rfl,q1⟩
def PL (ha:PE X a ta):PE X (.UnaryOp .Not a pos) (VB ta):=by
 intro aa s σ H Q I h;refine UnaryOp_ (aG (ha aa s σ H _ I h) λv s1 ⟨x,H1,I1,r1,q1⟩=>?_);obtain⟨c,rfl,q1⟩:=q1;cases r1;exact not_of (ZY ⟨.bl (!c),H1,I1,Zj,q1⟩)
def tIf (t:TT) (ta tb:TE):TE:=λσ H Q=>t σ H λc H1=>if c=true then ta σ H1 Q else tb σ H1 Q
def Bz {c:Expr} (hc:PT X c tA) (ha:PE X a ta) (hb:PE X b tb):PE X (.IfExp c a b pos) (tIf tA ta tb):=by
 intro aa s σ H Q I h;refine wpAny_IfExp (aG (hc aa s σ H _ I h) λd s1 ⟨H1,I1,q1⟩=>?_);cases d with
 |true=>exact ha aa s1 σ H1 Q I1 q1
 |false=>exact hb aa s1 σ H1 Q I1 q1
end
def aN (K:FG) (H:Hp) (a:Xd) (xs:Xc):Prop :=
 Rd H a (.lst xs) \/
  ∃(o:Obj) (its:Array Value) (n:Nat),K.lookup a=some o/\o.cls=.type "list" /\ o.dict=none/\o.data=.seq its n/\its.size<=sizeLine/\Vals xs its.toList
def bH (K:FG) (H:Hp) (a:Xd) (xs:Xc):Prop :=
 Rd H a (.tup xs) \/
  ∃(o:Obj) (its:Array Value) (n:Nat),K.lookup a=some o/\o.cls=.type "tuple" /\ o.data=.seq its n/\its.size<=sizeLine/\Vals xs its.toList
noncomputable def WZ:Value->Option V
 | .none=>some .aI
 | .bool b=>some (.bl b)
 | .int i _=>some (.int i)
 | .str x _=>some (.str x)
 | .bytes b _=>some (.iG b)
 | .float b _=>some (.jO b)
 | .ref a=>some (.ref a)
 | .type n=>some (.ty n)
 |_=>none
def RelV.abs {x:V} (r:RelV x u):WZ u=some x:=by
 cases x with
 |aI=>cases r;rfl
 |bl _=>cases r;rfl
 |int _=>obtain⟨t,rfl⟩:=r;rfl
 |str _=>obtain⟨t,rfl⟩:=r;rfl
 |iG _=>obtain⟨t,rfl⟩:=r;rfl
 |jO _=>obtain⟨t,rfl⟩:=r;rfl
 |ref _=>cases r;rfl
 |ty _=>cases r;rfl
def RelV.inj {x y:V}{u:Value} (r:RelV x u) (q:RelV y u):x=y:=Option.some.inj (r.abs.symm.trans q.abs)
def Vals.inj:∀ {xs ys:Xc}{us:Xb},Vals xs us->Vals ys us->xs=ys
 |_,_,_,.nil,.nil=>rfl
 |_,_,_,.cons r t,.cons r' t'=>by rw[r.inj r',Vals.inj t t']
section
variable {ys:Xc}
def aN.of (h:H a=some (.lst xs)):aN K H a xs:=.inl (.inl h)
def bH.of (h:H a=some (.tup xs)):bH K H a xs:=.inl (.inl h)
def Inv.list (I:Inv X aa σ H s) (h:aN X.K H a xs):∃its:Xb,Vals xs its/\PlainL s.heap a its.toArray/\xs.length<=sizeLine:=by
 rcases h with h |⟨o,its,n,hk,hc,hd,hs,hz,r⟩
 ·obtain⟨z,its,n,r,e⟩:=h.ok I.aF;exact⟨its,r,⟨_,n,e,Zj,Zj,Zj⟩,z⟩
 ·refine⟨its.toList,r,⟨o,n,I.cW a o hk,hc,hd,by simpa using hs⟩,?_⟩;have e:=r.length;simp only[Array.length_toList]at e;omega
def Inv.tuple (I:Inv X aa σ H s) (h:bH X.K H a xs):∃its:Xb,Vals xs its/\IsTup s.heap a its.toArray/\xs.length<=sizeLine:=by
 rcases h with h |⟨o,its,n,hk,hc,hs,hz,r⟩
 ·obtain⟨z,its,r,p⟩:=h.ok I.aF;exact⟨its,r,p,z⟩
 ·refine⟨its.toList,r,⟨o,I.cW a o hk,hc,n,by simpa using hs⟩,?_⟩;have e:=r.length;simp only[Array.length_toList]at e;omega
def Inv.list_inj (I:Inv X aa σ H s) (h:aN X.K H a xs) (h':aN X.K H a ys):xs=ys:=by
 obtain⟨its,r,⟨o,n,e,_,_,d⟩,_⟩:=I.list h;obtain⟨its',r',⟨o',n',e',_,_,d'⟩,_⟩:=I.list h';rw[e]at e';cases e';rw[d]at d';injection d' with d1 _
 have:its=its':=by simpa using congrArg Array.toList d1
 subst this;exact r.inj r'
def Inv.tuple_inj (I:Inv X aa σ H s) (h:bH X.K H a xs) (h':bH X.K H a ys):xs=ys:=by
 obtain⟨its,r,⟨o,e,_,n,d⟩,_⟩:=I.tuple h;obtain⟨its',r',⟨o',e',_,n',d'⟩,_⟩:=I.tuple h';rw[e]at e';cases e';rw[d]at d';injection d' with d1 _
 have:its=its':=by simpa using congrArg Array.toList d1
 subst this;exact r.inj r'
end
noncomputable abbrev Cx.gg (X:Cx) (E:VS):Cx:={ X with xe:=E }
noncomputable abbrev Cx.dH (X:Cx):Cx:=X.gg λ_ _=>False
def Cx.Ok.gg {X:Cx} (ok:X.Ok) (E:VS):(X.gg E).Ok :=
 ⟨ok.mod,ok.kind,ok.glob,ok.blt,ok.above,ok.inj,ok.has,ok.iZ,ok.hd,ok.frames,ok.gA,ok.exf,ok.bs,ok.gK,ok.gj,ok.fZ,ok.df,ok.ig⟩
def Cx.Ok.d6 (ok:(X.gg E).Ok):X.Ok :=
 ⟨ok.mod,ok.kind,ok.glob,ok.blt,ok.above,ok.inj,ok.has,ok.iZ,ok.hd,ok.frames,ok.gA,ok.exf,ok.bs,ok.gK,ok.gj,ok.fZ,ok.df,ok.ig⟩
section
def Inv.gg (I:Inv X aa σ H s) (E:VS):Inv (X.gg E) aa σ H s:=⟨I.ok.gg E,I.os,I.bare,I.base,I.loc,I.cell,I.free,I.cJ,I.pin,I.aF,I.len⟩
def Inv.d6 (I:Inv (X.gg E) aa σ H s):Inv X aa σ H s:=⟨I.ok.d6,I.os,I.bare,I.base,I.loc,I.cell,I.free,I.cJ,I.pin,I.aF,I.len⟩
def SP.d6 {D:Dq}{f:Flow}{s':Xe} (h:SP (X.gg E) aa D f s'):SP X aa D f s':=by
 cases f with
 |next=>obtain⟨aJ,H',I,q⟩:=h;exact⟨aJ,H',I.d6,q⟩
 |brk=>obtain⟨aJ,H',I,q⟩:=h;exact⟨aJ,H',I.d6,q⟩
 |cont=>obtain⟨aJ,H',I,q⟩:=h;exact⟨aJ,H',I.d6,q⟩
 |ret u=>obtain⟨v,aJ,H',I,r,q⟩:=h;exact⟨v,aJ,H',I.d6,r,q⟩
def eE.dH {st:List Stmt}{t:TS} (h:eE X.dH st t):eE X st t:=λaa s σ H D I hw =>
 Zw (h aa s σ H D (I.gg _) hw) (λ_ _ q=>q.d6) λ_ _ z=>False.elim z
end
section
variable {st:Stmt}{rest:List Stmt}{t u:TS}
def S0:TS:=λD σ H=>D.nx σ H
def VD (t u:TS):TS:=λD σ H=>t { D with nx:=u D } σ H
def AV:eE X [] S0:=λ_ _ σ H _ I h=>wpAny_execs_nil ⟨σ,H,I,h⟩
def AF (h1:PS X st t) (h2:eE X rest u):eE X (st::rest) (VD t u):=by
 intro aa s σ H D I h;refine wpAny_execs_cons (aG (h1 aa s σ H { D with nx:=u D } I h) λf s1 q=>?_);cases f with
 |next =>
  obtain⟨aJ,H',I',q⟩:=q;exact h2 aa s1 aJ H' D I' q
 |ret v=>exact q
 |brk=>exact q
 |cont=>exact q
def AG (h1:PS X st t):eE X [st] t:=by
 intro aa s σ H D I h;refine wpAny_execs_cons (aG (h1 aa s σ H D I h) λf s1 q=>?_);cases f with
 |next=>exact wpAny_execs_nil q
 |ret v=>exact q
 |brk=>exact q
 |cont=>exact q
def Inv.quiet (I:Inv X aa σ H s):interactive X.env=false:=by simp[interactive,I.ok.kind]
def VE (te:TE):TS:=λD σ H=>te σ H λ_ H1=>D.nx σ H1
def A4 (he:PE X e te) (hs:swapsWith e none pos.line X.env=pure false:=by rfl):PS X (.Expr e pos) (VE te):=by
 intro aa s σ H D I h;exact wpAny_Expr_any (aG (he aa s σ H _ I h) λv s1 ⟨x,H1,I1,r1,q1⟩=>⟨σ,H1,I1,q1⟩) I.quiet hs
def PM (te:TE):TS:=λD σ H=>te σ H D.rt
def AQ (he:PE X e te):PS X (.Return (some e) pos) (PM te):=by
 intro aa s σ H D I h;exact wpAny_Return_some (aG (he aa s σ H _ I h) λv s1 ⟨x,H1,I1,r1,q1⟩=>⟨x,σ,H1,I1,r1,q1⟩)
def VF (c:TT) (t u:TS):TS:=λD σ H=>c σ H λb H1=>if b=true then t D σ H1 else u D σ H1
def Ak {c:Expr}{a b:List Stmt}{tc:TT} (hc:PT X c tc) (ha:eE X a t) (hb:eE X b u):PS X (.If c a b pos) (VF tc t u):=by
 intro aa s σ H D I h;refine wpAny_If (aG (hc aa s σ H _ I h) λd s1 ⟨H1,I1,q1⟩=>?_);cases d with
 |true=>exact ha aa s1 σ H1 D I1 q1
 |false=>exact hb aa s1 σ H1 D I1 q1
def Tj:TS:=λ_ _ _=>False
def An:PS X st Tj:=λ_ _ _ _ _ _ h=>h.elim
end
abbrev TG:=V->St->Hp->(St->Hp->Prop)->Prop
abbrev TGs:=Xc->St->Hp->(St->Hp->Prop)->Prop
def PG (X:Cx) (target:Expr) (t:TG):Prop :=
 ∀(aa:LO) (s:Xe) (σ:St) (H:Hp) (v:V) (u:Value) (Q:St->Hp->Prop),Inv X aa σ H s->RelV v u->t v σ H Q ->
  wpAny (model X.prog X.w) X.A (assign target X.env u) (λ_ s'=>∃aJ H',Inv X aa aJ H' s'/\Q aJ H') X.xe s
def PGs (X:Cx) (ts:List Expr) (t:TGs):Prop :=
 ∀(aa:LO) (s:Xe) (σ:St) (H:Hp) (vs:Xc) (us:Xb) (Q:St->Hp->Prop),Inv X aa σ H s->Vals vs us->t vs σ H Q ->
  wpAny (model X.prog X.w) X.A (assignInOrder ((assignEach ts X.env).map (·.2)) us) (λ_ s'=>∃aJ H',Inv X aa aJ H' s'/\Q aJ H') X.xe s
abbrev Tk:=V->V->V->Hp->(Hp->Prop)->Prop
def VG (X:Cx) (t:Tk):Prop :=
 ∀(aa:LO) (s:Xe) (σ:St) (H:Hp) (o i v:V) (ov iv u:Value) (Q:Hp->Prop),Inv X aa σ H s->RelV o ov->RelV i iv->RelV v u->t o i v H Q ->
  wpAny (model X.prog X.w) X.A (setItem ov iv u) (λ_ s'=>∃H',Inv X aa σ H' s'/\Q H') X.xe s
abbrev TIp:=V->V->Hp->VK->Prop
def PIp (X:Cx) (op:Operator) (t:TIp):Prop :=
 ∀(aa:LO) (s:Xe) (σ:St) (H:Hp) (x y:V) (v u:Value) (Q:VK),Inv X aa σ H s->RelV x v->RelV y u->t x y H Q ->
  wpAny (model X.prog X.w) X.A (inplaceOp op v u) (EP X aa σ Q) X.xe s
section
def Cy (i:Nat):TG:=λv σ H Q=>Q (σ.set i (some v)) H
def AZ {i:Nat} (hN:X.N.Nodup) (hi:X.N[i]?=some x) (hx:Loc X.env.scope x) (hf:X.fn x=true\/X.env.scope.names.lookup x=some .local:=by first |exact .inl rfl |exact .inr rfl |assumption):PG X (.Name x pos) (Cy i):=by
 intro aa s σ H v u Q I r h;exact wpAny_assign_Name (DE I hN hi hx r (λs' I'=>⟨_,H,I',h⟩) hf)
def RG:TGs:=λvs σ H Q=>vs=[]/\Q σ H
inductive ExC (vs:Xc) (k:V->Xc->Prop):Prop where
 |mk (v:V) (r:Xc) (h:vs=v::r) (q:k v r):ExC vs k
def HI (t:TG) (u:TGs):TGs:=λvs σ H Q=>ExC vs λv r=>t v σ H λaJ H'=>u r aJ H' Q
def Br:PGs X [] RG:=by
 intro aa s σ H vs us Q I r h;obtain⟨e,h⟩:=h;subst e;cases r;exact assignInOrder_nil ⟨σ,H,I,h⟩
def Ai {es:List Expr}{t:TG}{u:TGs} (h1:PG X e t) (h2:PGs X es u)
  (hs:(assignEach (e::es) X.env).map (·.2)=assign e X.env::(assignEach es X.env).map (·.2):=by rfl):PGs X (e::es) (HI t u):=by
 intro aa s σ H vs us Q I r h;obtain⟨v,vr,e1,h⟩:=h;subst e1;cases r with
 |cons r rr =>
  rw[hs];refine assignInOrder_cons (aG (h1 aa s σ H _ _ _ I r h) λ_ s1 ⟨iO,H1,I1,q1⟩=>?_);exact h2 aa s1 iO H1 _ _ Q I1 rr q1
inductive ExT (K:FG) (n:Nat) (v:V) (H:Hp) (k:Xc->Prop):Prop where
 |mk (a:Xd) (xs:Xc) (h1:v=.ref a) (h2:bH K H a xs) (h3:xs.length=n) (q:k xs):ExT K n v H k
def RH (K:FG) (n:Nat) (t:TGs):TG:=λv σ H Q=>ExT K n v H λxs=>t xs σ H Q
def Ch {es:List Expr}{k:Nat}{t:TGs}{n:Nat} (hc:X.calm=true) (h:PGs X es t)
  (hn:(assignEach es X.env).length=n:=by rfl) (hst:(assignEach es X.env).findIdx? (·.1)=none:=by rfl):PG X (.Tuple es k pos) (RH X.K n t):=by
 intro aa s σ H v u Q I r hw;obtain⟨a,xs,e1,hq,hl,hw⟩:=hw;subst e1;cases r;obtain⟨its,rv,ht,hz⟩:=I.tuple hq;refine assign_Tuple_tuple (I.ok.hd hc) ht (by simp[hn,←hl,rv.length]) hst λh' hx=>?_;have I1:Inv X aa σ H { s with heap:=h' }:=I.kept (t':=s.toks) λb o e=>hx b o (ZD (lt_size e)) e;exact h aa _ σ H xs _ Q I1 (by simpa using rv) hw
def Wa (to ti:TE) (t:Tk):TG:=λv σ H Q=>to σ H λo H1=>ti σ H1 λi H2=>t o i v H2 λH3=>Q σ H3
def JZ {o i:Expr}{to ti:TE}{t:Tk} (ho:PE X o to) (hi:PE X i ti) (hs:VG X t)
  (ha:∀v,assign (.Subscript o i pos) X.env v=(do
   let ov ←holding [v] (eval o X.env)
   let iv ←holding [v,ov] (eval i X.env)
   standAt pos
   holding [v,ov,iv] (setItem ov iv v)
   release [v,ov,iv] []):=by intro _;rfl):PG X (.Subscript o i pos) (Wa to ti t):=by
 intro aa s σ H v u Q I r h;rw[ha];refine Zy (ZL (aG (ho aa s σ H _ I h) λov s1 ⟨x,H1,I1,r1,q1⟩=>?_));refine Zy (ZL (aG (hi aa s1 σ H1 _ I1 q1) λiv s2 ⟨y,H2,I2,r2,q2⟩=>?_));refine Zy (ZK (Zy (ZL (aG (hs aa s2 σ H2 x y v ov iv u _ I2 r1 r2 r q2) λ_ s3 ⟨H3,I3,q3⟩=>?_))));exact wpAny_release ⟨σ,H3,I3,q3⟩
def Tl (te:TE) (g:TG):TS:=λD σ H=>te σ H λx H1=>g x σ H1 D.nx
def Cp {tg:Expr}{g:TG} (he:PE X e te) (hg:PG X tg g) (hs:swapsWithSole [tg] e pos.line X.env=pure false:=by rfl) (hw:swappedStores [tg] e X.env=pure none:=by rfl)
  (h1:(assignEach [tg] X.env).map (·.2)=[assign tg X.env]:=by rfl):PS X (.Assign [tg] e pos) (Tl te g):=by
 intro aa s σ H D I h;refine wpAny_Assign_stores (aG (he aa s σ H _ I h) λv s1 ⟨x,H1,I1,r1,q1⟩=>?_) hs hw;rw[h1];exact aG (hg aa s1 σ H1 x v _ I1 r1 q1) λ_ s2 q=>q
def Ag {i:Nat}{pos':Pos} (hN:X.N.Nodup) (hi:X.N[i]?=some x) (hx:Loc X.env.scope x) (he:PE X e te) (hs:swapsWith e (some (.Name x pos')) pos.line X.env=pure false:=by rfl) (hf:X.fn x=true\/X.env.scope.names.lookup x=some .local:=by first |exact .inl rfl |exact .inr rfl |assumption) :
  PS X (.Assign [.Name x pos'] e pos) (Tl te (Cy i)):=by
 intro aa s σ H D I h;refine wpAny_Assign_Name (aG (he aa s σ H _ I h) λv s1 ⟨y,H1,I1,r1,q1⟩=>?_) hs;exact DE I1 hN hi hx r1 (λs2 I2=>⟨_,H1,I2,q1⟩) hf
def Wc (i j:Nat) (ta:TA):TS:=λD σ H=>ta σ H λvs H1=>∃v w,vs=[v,w]/\D.nx ((σ.set i (some v)).set j (some w)) H1
def Tm {i j:Nat}{y:Str}{a b:Expr}{ta:TA}{px py pt:Pos}{kt k2 pt2} (hc:X.calm=true) (hN:X.N.Nodup) (hi:X.N[i]?=some x) (hj:X.N[j]?=some y) (hij:i≠j)
  (hx:X.env.scope.names.lookup x=some .local) (hy:X.env.scope.names.lookup y=some .local) (ha:PA X [a,b] ta)
  (hw:swappedStores [.Tuple [.Name x px,.Name y py] kt pt] (.Tuple [a,b] k2 pt2) X.env=pure (some [x,y]))
  (hs:swapsWithSole [.Tuple [.Name x px,.Name y py] kt pt] (.Tuple [a,b] k2 pt2) pos.line X.env=pure false:=by rfl) :
  PS X (.Assign [.Tuple [.Name x px,.Name y py] kt pt] (.Tuple [a,b] k2 pt2) pos) (Wc i j ta):=by
 intro aa s σ H D I h;rw[exec_Assign_arm];refine Zy (ZK ?_);rw[hs];refine Zy (Zx ?_);rw[Zr qc];refine Zy (Tuple_ (aG (ha _ aa s σ H _ I h) λus s1 ⟨vs,H1,I1,r1,q1⟩=>?_));obtain⟨v,w,e1,q1⟩:=q1;subst e1
 obtain⟨u1,u2,rfl,rv,il⟩:∃u1 u2,us=[u1,u2]/\RelV v u1/\RelV w u2:=by
  cases r1 with
  |cons p q =>
   cases q with
   |cons p' q' =>
    cases q';exact⟨_,_,Zj,p,p'⟩
 refine wpAny_newObj_type ?_ fc;have I2:Inv X aa σ H1 { s1 with heap:=s1.heap.push { cls:=.type "tuple", data:=.seq [u1,u2].toArray } }:=I1.kept (t':=s1.toks) λb o e=>ZW _ e;rw[hw];refine Zy (Zx ?_);show wpAny (model X.prog X.w) X.A (do rule "assign.swapped-stores";let items ←unpackItems (.ref s1.heap.objs.size) 2 none;assignInOrder [λv=>bindName X.env y v,λv=>bindName X.env x v] items.reverse;pure Flow.next) _ _ _;refine Zy (wpAny_rule (Zy (unpackItems_tuple (items:=#[u1,u2]) (I.ok.hd hc) (IsTup.new s1.heap _) λh' hx'=>?_)));have I3:=I2.kept (h':=h') (t':=s1.toks) λb o e=>hx' b o (ZD (lt_size e)) e;show wpAny _ _ (assignInOrder [λv=>bindName X.env y v,λv=>bindName X.env x v] [u2,u1] >>= λ_=>pure Flow.next) _ _ _;refine Zy (assignInOrder_cons (wpAny_bindName (DE I3 hN hj (.inl hy) il (λs2 I4=>?_) (.inr hy))));refine assignInOrder_cons (wpAny_bindName (DE I4 hN hi (.inl hx) rv (λs3 I5=>assignInOrder_nil (Zx ?_)) (.inr hx)));rw[List.set_comm _ _ (Ne.symm hij)]at I5;exact⟨_,H1,I5,q1⟩
def We (i:Nat) (te:TE) (ti:TIp):TS:=λD σ H=>∃x,σ[i]?=some (some x)/\te σ H λy H1=>ti x y H1 λz H2=>D.nx (σ.set i (some z)) H2
def Ll {i:Nat}{op:Operator}{ti:TIp}{pos':Pos} (hN:X.N.Nodup) (hi:X.N[i]?=some x) (hx:Loc X.env.scope x) (he:PE X e te) (ho:PIp X op ti) (hf:X.fn x=true\/X.env.scope.names.lookup x=some .local:=by first |exact .inl rfl |exact .inr rfl |assumption) :
  PS X (.AugAssign (.Name x pos') op e pos) (We i te ti):=by
 intro aa s σ H D I h;obtain⟨v,e1,h⟩:=h;obtain⟨m,hn,hl⟩:=I.loc;have vis:Vis X.env.scope x:=by rcases hx with k |k;exact .inl k;exact .inr (.inl k)
 obtain⟨u,r,l⟩:=hl i x v hi e1 vis;refine wpAny_AugAssign_Name ?_
 have go:wpAny (model X.prog X.w) X.A (eval e X.env) (λw s₂=>wpAny (model X.prog X.w) X.A (inplaceOp op u w) (λr s₃=>wpAny (model X.prog X.w) X.A (storeName X.env x r) (λ_=>SP X aa D .next) X.xe s₃) X.xe s₂) X.xe s:=by
  refine aG (he aa s σ H _ I h) λw s1 ⟨y,H1,I1,r1,q1⟩=>?_;refine aG (ho aa s1 σ H1 v y u w _ I1 r r1 q1) λz s2 ⟨zv,H2,I2,r2,q2⟩=>?_;exact DE I2 hN hi hx r2 (λs3 I3=>⟨_,H2,I3,q2⟩) hf
 rcases l with⟨hk,hm⟩ |⟨hk,c,hc,bh⟩
 ·exact wpAny_loadName_local I.ok.kind hk hn hm go
 ·rcases hk with hk |hk
  ·exact wpAny_loadName_cell I.ok.kind hk hc bh go
  ·rcases hx with k |k
   ·have:X.env.scope.names.lookup x=some .free:=hk;rw[k]at this;cases this
   ·have:X.env.scope.names.lookup x=some .free:=hk;rw[k]at this;cases this
end
section
def PN (c:TT) (tb:TS):TS:=λD σ H=>∃W:Nat->St->Hp->Prop,(∃m,W m σ H)/\∀m σ H,W m σ H ->
 c σ H λb H1=>if b=true then ∃N:St->Hp->Prop,(∀aJ H',N aJ H'->∃m',m'<m/\W m' aJ H')/\tb { D with nx:=N,ct:=N,bk:=D.nx } σ H1 else D.nx σ H1
def FC {c:Expr}{body:List Stmt}{tc:TT}{tb:TS} (hp:PassesOwn (model X.prog X.w) X.A X.env X.xe) (hc:PT X c tc) (hb:eE X body tb):PS X (.While c body [] pos) (PN tc tb):=by
 intro aa s σ H D I h;obtain⟨W,⟨m0,w0⟩,turn⟩:=h;refine wpAny_While (codeAny_whileLoop (λn s'=>∃aJ H',Inv X aa aJ H' s'/\W n aJ H') ?_ m0 ⟨σ,H,I,w0⟩);rintro n s1 ⟨iO,H1,I1,w1⟩;refine wpAny_passesOwn hp (aG (hc aa s1 iO H1 _ I1 (turn n iO H1 w1)) λb s2 ⟨H2,I2,q2⟩=>?_);cases b with
 |true =>
  obtain⟨N,hN,q2⟩:=q2;rw[Zq rfl];refine wpAny_passesOwn hp (aG (hb aa s2 iO H2 _ I2 q2) λf s3 q3=>?_);cases f with
  |next =>
   obtain⟨iN,H3,I3,n3⟩:=q3;obtain⟨m',hm,w3⟩:=hN iN H3 n3;exact⟨m',hm,iN,H3,I3,w3⟩
  |cont =>
   obtain⟨iN,H3,I3,n3⟩:=q3;obtain⟨m',hm,w3⟩:=hN iN H3 n3;exact⟨m',hm,iN,H3,I3,w3⟩
  |brk=>exact q3
  |ret v=>exact q3
 |false =>
  rw[Zr Bool.false_ne_true];exact wpAny_execs_nil ⟨iO,H2,I2,q2⟩
end
structure It where
 go:Nat->Hp->Prop
 g8:Nat->Hp->V->Hp->Prop
 stop:Nat->Hp->Prop
def Ef (X:Cx) (aa:LO) (H:Hp) (b:Xd):Prop :=
 H b=none/\b≠X.env.locals/\b∉ X.fs/\(b∈X.ex\/X.aX.heap.objs.size<=b)/\(∀x c,X.env.cells.lookup x=some c->c≠b)/\∀p∈X.pn++aa,p.1≠b
def Inv.gp {b:Xd} (I:Inv X aa σ H s) (hb:s.heap.objs.size<=b) (hn:H' b=none):Ef X aa H' b:=by
 refine⟨hn,Nat.ne_of_gt (Z1 I.lt hb),I.nofs hb,.inr (Nat.le_trans I.sz hb),λx c e z=>?_,λp hp z=>?_⟩
 ·obtain⟨v,q⟩:=I.cell x c e;exact absurd (Z1 q.lt (by rw[z];exact hb)) (ZG _)
 ·exact absurd (Z1 (lt_size (I.pin p hp).1) (by rw[z];exact hb)) (ZG _)
structure KK (P:Program) (w:World) (K:FG) (tg:Expr) (J:It) (fp:List Xd) (it:Xd) (tn:Nat->Heap->Prop):Prop where
 mem:it∈fp
 obj:∀i h,tn i h->∀b∈fp,∃o,h.get? b=some o/\∀v,o.data≠ .cell v
 keep:∀i h h',tn i h->(∀b∈fp,∀o,h.get? b=some o->h'.get? b=some o)->tn i h'
 item:∀(X:Cx),X.prog=P->X.w=w->X.K=K->X.calm=true->∀(i:Nat) (aa:LO) (s:Xe) (σ:St) (H:Hp) (E:VS),Inv X aa σ H s->(∀b∈fp,Ef X aa H b)->tn i s.heap->J.go i H ->
  wpAny (model P w) X.A (pyNext (.ref it)) (λr s1=>∃u,r=some u /\
   wpAny (model P w) X.A (letOwnedTupleGo tg (.ref it) u) (λ_ s2=>∃x H',Inv X aa σ H' s2/\RelV x u/\J.g8 i H x H'/\tn (i+1) s2.heap/\∀b∈fp,H' b=none) E s1) E s
 done:∀(X:Cx),X.prog=P->X.w=w->X.K=K->X.calm=true->∀(i:Nat) (aa:LO) (s:Xe) (σ:St) (H:Hp) (E:VS),Inv X aa σ H s->(∀b∈fp,Ef X aa H b)->tn i s.heap->J.stop i H ->
  wpAny (model P w) X.A (pyNext (.ref it)) (λr s1=>r=none/\Inv X aa σ H s1) E s
 self:∀(A:Around) (i:Nat) (s:Xe) (Q:VS) (E:VS),tn i s.heap->Q (.ref it) s->wpAny (model P w) A (pyIter (.ref it)) Q E s
abbrev TI:=St->Hp->(It->Hp->Prop)->Prop
def PIE (X:Cx) (aa:LO) (σ:St) (tg:Expr) (R:It->Hp->Prop) (itv:Value) (s2:Xe):Prop :=
 ∃(it:Xd) (fp:List Xd) (tn:Nat->Heap->Prop) (J:It) (H':Hp),itv=.ref it/\Inv X aa σ H' s2/\KK X.prog X.w X.K tg J fp it tn/\tn 0 s2.heap/\(∀b∈fp,Ef X aa H' b)/\R J H'
def PI (X:Cx) (tg iter:Expr) (wi:TI):Prop :=
 ∀(aa:LO) (s:Xe) (σ:St) (H:Hp) (R:It->Hp->Prop),Inv X aa σ H s->wi σ H R ->
  wpAny (model X.prog X.w) X.A (eval iter X.env) (λv s1=>wpAny (model X.prog X.w) X.A (pyIter v) (PIE X aa σ tg R) X.xe s1) X.xe s
def NN {M:Model}{tg:Expr}{it:Xd}{o:Obj}{n:String}{vs:Array Value}{Q:Unit->Xe->Prop} (ho:s.heap.get? it=some o) (hc:o.cls=.type n) (hd:o.data=.fields vs)
    (hn:["enumerate", "zip", "dict_itemiterator", "dict_reverseitemiterator", "odict_iterator", "itertools.zip_longest", "itertools.pairwise"].contains n=false) (hQ:Q () s):wpAny M A (letOwnedTupleGo tg (.ref it) u) Q E s:=by
  unfold letOwnedTupleGo
  cases tg <;> first
    |exact Zx hQ
    | (cases u <;> first
        |exact Zx hQ
        | (refine Zy (wpAny_load ho ?_)
           rw[hc,hd];show wpAny M A (if (["enumerate", "zip", "dict_itemiterator", "dict_reverseitemiterator", "odict_iterator", "itertools.zip_longest", "itertools.pairwise"].contains n&&vs[0]?==some (rawInt _))=true then _ else _) Q E s;rw[Zr (by intro h;rw[hn,Bool.false_and]at h;cases h)]
           exact Zx hQ))
noncomputable def iK (K:FG) (a:Xd):It :=
 ⟨λi H=>∃xs x,aN K H a xs/\xs[i]?=some x,λi H x H'=>H'=H/\∀xs,aN K H a xs->xs[i]?=some x,λi H=>∃xs,aN K H a xs/\xs.length<=i⟩
noncomputable def Itt (K:FG) (a:Xd):It :=
 ⟨λi H=>∃xs x,bH K H a xs/\xs[i]?=some x,λi H x H'=>H'=H/\∀xs,bH K H a xs->xs[i]?=some x,λi H=>∃xs,bH K H a xs/\xs.length<=i⟩
noncomputable def jB (lo:Int) (n:Nat):It:=⟨λi _=>i<n,λi H x H'=>H'=H/\x=.int (lo+i),λi _=>n<=i⟩
def IY {tg:Expr} (a it:Xd):KK P w K tg (iK K a) [it] it (λi h=>h.IsListIter it a i) where
 mem:=by simp
 obj:=λi h st b hb=>by
  have e:b=it:=by simpa using hb
  subst e;obtain⟨o,e,c,d⟩:=st;exact⟨o,e,λv z=>by rw[d]at z;cases z⟩
 keep:=λi h h' st k=>st.at λo e=>k it (by simp) o e
 item:=by
  intro X hP hw hK hc i aa s σ H E I hf st hg;subst hP hw hK;obtain⟨xs,x,hq,hx⟩:=hg;obtain⟨its,rv,p,hz⟩:=I.list hq;obtain⟨u,hu,ru⟩:=rv.get hx;obtain⟨f0,f1,f2,f3,f4,f5⟩:=hf it (by simp);refine wpAny_pyNext_list_item st p.isList (x:=u) (by simpa using hu) λh' fV sb=>?_;have I1:Inv X aa σ H { s with heap:=h' }:=I.turned (t':=s.toks) (λb o hb e=>(sb.2 b hb).trans e) f0 f1 f3 f4 f5;obtain⟨o,e,c,d⟩:=id fV;exact⟨u,Zj,NN (s:={ s with heap:=h' }) e c d qc ⟨x,H,I1,ru,⟨Zj,λys hy=>by rw[I.list_inj hy hq];exact hx⟩,fV,λb hb=>(hf b hb).1⟩⟩
 done:=by
  intro X hP hw hK hc i aa s σ H E I hf st hg;subst hP hw hK;obtain⟨xs,hq,hx⟩:=hg;obtain⟨its,rv,p,hz⟩:=I.list hq;obtain⟨f0,f1,f2,f3,f4,f5⟩:=hf it (by simp);have hl:=rv.length;exact wpAny_pyNext_list_end (I.ok.hd hc) st p.isList (by simp;omega) λh' eb=>⟨Zj,I.turned (t':=s.toks) (λb o hb e=>eb b o hb e) f0 f1 f3 f4 f5⟩
 self:=λ_ _ _ _ _ st h=>wpAny_pyIter_listiter st h
def Lm {tg:Expr} (a it:Xd):KK P w K tg (Itt K a) [it] it (λi h=>h.IsTupleIter it a i) where
 mem:=by simp
 obj:=λi h st b hb=>by
  have e:b=it:=by simpa using hb
  subst e;obtain⟨o,e,c,d⟩:=st;exact⟨o,e,λv z=>by rw[d]at z;cases z⟩
 keep:=λi h h' st k=>st.at λo e=>k it (by simp) o e
 item:=by
  intro X hP hw hK hc i aa s σ H E I hf st hg;subst hP hw hK;obtain⟨xs,x,hq,hx⟩:=hg;obtain⟨its,rv,p,hz⟩:=I.tuple hq;obtain⟨u,hu,ru⟩:=rv.get hx;obtain⟨f0,f1,f2,f3,f4,f5⟩:=hf it (by simp);refine wpAny_pyNext_tuple_item st (show s.heap.IsTuple a its.toArray from p) (x:=u) (by simpa using hu) λh' fV sb=>?_;have I1:Inv X aa σ H { s with heap:=h' }:=I.turned (t':=s.toks) (λb o hb e=>(sb.2 b hb).trans e) f0 f1 f3 f4 f5;obtain⟨o,e,c,d⟩:=id fV;exact⟨u,Zj,NN (s:={ s with heap:=h' }) e c d qc ⟨x,H,I1,ru,⟨Zj,λys hy=>by rw[I.tuple_inj hy hq];exact hx⟩,fV,λb hb=>(hf b hb).1⟩⟩
 done:=by
  intro X hP hw hK hc i aa s σ H E I hf st hg;subst hP hw hK;obtain⟨xs,hq,hx⟩:=hg;obtain⟨its,rv,p,hz⟩:=I.tuple hq;obtain⟨f0,f1,f2,f3,f4,f5⟩:=hf it (by simp);have hl:=rv.length;exact wpAny_pyNext_tuple_end (I.ok.hd hc) st (show s.heap.IsTuple a its.toArray from p) (by simp;omega) λh' eb=>⟨Zj,I.turned (t':=s.toks) (λb o hb e=>eb b o hb e) f0 f1 f3 f4 f5⟩
 self:=λ_ _ _ _ _ st h=>wpAny_pyIter_tupleiter st h
def Ln {tg:Expr} (it:Xd) (lo:Int) (n:Nat):KK P w K tg (jB lo n) [it] it (λi h=>IsRangeIter h it (lo+(i:Nat)*1) ((n:Int) - (i:Nat)) 1) where
 mem:=by simp
 obj:=λi h st b hb=>by
  have e:b=it:=by simpa using hb
  subst e
  exact⟨_,st,λv z=>by
   have z':Data.fields _=Data.cell v:=z
   cases z'⟩
 keep:=λi h h' st k=>k it (by simp) _ st
 item:=by
  intro X hP hw hK hc i aa s σ H E I hf st hg;subst hP hw hK;obtain⟨f0,f1,f2,f3,f4,f5⟩:=hf it (by simp);have W:=Walks.range (prog:=X.prog) (w:=X.w) (I.ok.hd hc) it lo 1 n;refine W.item i s _ _ hg st λv h' tk hv fV kk=>?_;obtain⟨t,rfl⟩:=hv;have I1:Inv X aa σ H { s with heap:=h',toks:=tk }:=I.turned (λb o hb e=>kk b o (by simpa using hb) e) f0 f1 f3 f4 f5;refine⟨_,Zj,NN (s:={ s with heap:=h',toks:=tk }) (n := "range_iterator") fV Zj Zj qc ⟨.int (lo+i),H,I1,⟨t,?_⟩,⟨Zj,Zj⟩,fV,λb hb=>(hf b hb).1⟩⟩;rw[Int.mul_one]
 done:=by
  intro X hP hw hK hc i aa s σ H E I hf st hg;subst hP hw hK;obtain⟨f0,f1,f2,f3,f4,f5⟩:=hf it (by simp);exact wpAny_pyNext_range_end (I.ok.hd hc) st (by have:n<=i:=hg;omega) λh' eb=>⟨Zj,I.turned (t':=s.toks) (λb o hb e=>eb b o hb e) f0 f1 f3 f4 f5⟩
 self:=λ_ _ _ _ _ st h=>wpAny_pyIter_rangeiter st h
section
variable {tg:Expr}
def PP (K:FG) (tl:TE):TI:=λσ H R=>tl σ H λx H1=>∃a,x=.ref a/\(∃xs,aN K H1 a xs)/\R (iK K a) H1
def Wg (K:FG) (tl:TE):TI:=λσ H R=>tl σ H λx H1=>∃a,x=.ref a/\(∃xs,bH K H1 a xs)/\R (Itt K a) H1
def DZ {l:Expr}{tl:TE} (hl:PE X l tl):PI X tg l (PP X.K tl):=by
 intro aa s σ H R I h;refine aG (hl aa s σ H _ I h) λv s1 ⟨x,H1,I1,r1,q1⟩=>?_;obtain⟨a,e,⟨xs,hq⟩,q⟩:=q1;subst e;cases r1;obtain⟨its,rv,p,hz⟩:=I1.list hq;refine wpAny_pyIter_list p.isList ?_;refine⟨s1.heap.objs.size,[s1.heap.objs.size],_,_,H1,Zj,I1.kept (t':=s1.toks) λb o e=>ZW _ e,IY a _,⟨_,ZO _ Zj,Zj,Zj⟩,λb hb=>?_,q⟩;have e:b=s1.heap.objs.size:=by simpa using hb
 subst e;exact I1.gp (Zz _) (I1.aF.fresh (Zz _))
def PQ {l:Expr}{tl:TE} (hl:PE X l tl):PI X tg l (Wg X.K tl):=by
 intro aa s σ H R I h;refine aG (hl aa s σ H _ I h) λv s1 ⟨x,H1,I1,r1,q1⟩=>?_;obtain⟨a,e,⟨xs,hq⟩,q⟩:=q1;subst e;cases r1;obtain⟨its,rv,p,hz⟩:=I1.tuple hq;refine wpAny_pyIter_tuple (show s1.heap.IsTuple a its.toArray from p) ?_;refine⟨s1.heap.objs.size,[s1.heap.objs.size],_,_,H1,Zj,I1.kept (t':=s1.toks) λb o e=>ZW _ e,Lm a _,⟨_,ZO _ Zj,Zj,Zj⟩,λb hb=>?_,q⟩;have e:b=s1.heap.objs.size:=by simpa using hb
 subst e;exact I1.gp (Zz _) (I1.aF.fresh (Zz _))
def PR {R:It->Hp->Prop}{lo hi:Int}{t u v:Tok}{tk:Nat} (I:Inv X aa σ H s) (h1:-(2 ^ 62)<=lo) (h2:lo<2 ^ 62) (h3:-(2 ^ 62)<=hi) (h4:hi<2 ^ 62)
  (q:R (jB lo (hi - lo).toNat) H):wpAny (model X.prog X.w) X.A (pyIter (.ref s.heap.objs.size)) (PIE X aa σ tg R) E { s with heap:=s.heap.push { cls:=.type "range", data:=.fields #[.int lo t,.int hi u,.int 1 v] },toks:=tk }:=by
 refine wpAny_pyIter_range (IsRange.new ..) (small_one h1 h2 h3 h4) ?_;have I1:Inv X aa σ H { s with heap:=s.heap.push { cls:=.type "range", data:=.fields #[.int lo t,.int hi u,.int 1 v] },toks:=tk }:=I.kept λb o e=>ZW _ e
 refine⟨(s.heap.push { cls:=.type "range", data:=.fields #[.int lo t,.int hi u,.int 1 v] }).objs.size,[(s.heap.push { cls:=.type "range", data:=.fields #[.int lo t,.int hi u,.int 1 v] }).objs.size],_,_,H,Zj,
  I1.kept (t':=tk) λb o e=>ZW _ e,Ln _ lo (hi - lo).toNat,?_,λb hb=>?_,q⟩
 ·have e1:lo+((0:Nat):Int)*1=lo:=by simp
  have e2:(((hi - lo).toNat:Nat):Int) - ((0:Nat):Int)=Builtin.Range.rangeSize lo hi 1:=by rw[rangeSize_one];split <;> omega
  show IsRangeIter _ _ (lo+((0:Nat):Int)*1) ((((hi - lo).toNat:Nat):Int) - ((0:Nat):Int)) 1;rw[e1,e2];exact ZO _ rfl
 ·have e:b=(s.heap.push { cls:=.type "range", data:=.fields #[.int lo t,.int hi u,.int 1 v] }).objs.size:=by simpa using hb
  subst e;exact I1.gp (Zz _) (I1.aF.fresh (Zz _))
def VH (ta:TA):TI:=λσ H R=>ta σ H λvs H1=>∃j:Int,vs=[.int j]/\-(2 ^ 62)<=j/\j<2 ^ 62/\R (jB 0 j.toNat) H1
def EL {a:Expr}{ta:TA}{p:Pos} (hg:Gl X "range") (hm:X.mg "range" = none) (ha:PA X [a] ta) (hs:starEach [a] X.env=[(false,eval a X.env)]:=by rfl):PI X tg (.Call (.Name "range" p) [a] [] pos) (VH ta):=by
 intro aa s σ H R I h;refine Call_ (Du I hg hm boot_range (PyProof.Rows.callWith_type1 (aG (ha pos aa s σ H _ I h) λus s1 ⟨vs,H1,I1,r1,q1⟩=>?_) hs rfl));obtain⟨j,e,q1,q2,q⟩:=q1;subst e;cases r1 with
 |cons r rr =>
  cases rr;obtain⟨t,rfl⟩:=r;exact call_range_1 (PR I1 qe qe q1 q2 (by simpa using q))
def VJ (wi:TI) (g:TG) (tb:TS):TS:=λD σ H=>wi σ H λJ H1=>∃W:Nat->Nat->St->Hp->Prop,(∃m,W 0 m σ H1)/\∀i m σ H,W i m σ H ->
 (J.stop i H/\D.nx σ H)\/(J.go i H/\∃N:St->Hp->Prop,(∀aJ H',N aJ H'->∃m',m'<m/\W (i+1) m' aJ H')/\∀x H',J.g8 i H x H'->g x σ H' λcK H2=>tb { D with nx:=N,ct:=N,bk:=D.nx } cK H2)
noncomputable def Cq (fp:List Xd) (h:Heap):LO:=fp.filterMap λb=>(h.get? b).map λo=>(b,o)
def CK {fp:List Xd}{b:Xd}{o:Obj} (hb:b∈fp) (e:h.get? b=some o):(b,o)∈Cq fp h:=List.mem_filterMap.mpr ⟨b,hb,by rw[e];rfl⟩
def Fu {fp:List Xd}{p:Xd×Obj} (hp:p∈Cq fp h):p.1∈fp/\h.get? p.1=some p.2:=by
 obtain⟨b,hb,e⟩:=List.mem_filterMap.mp hp;cases q:h.get? b with
 |none=>rw[q]at e;cases e
 |some o =>
  rw[q]at e;have e':(b,o)=p:=Option.some.inj e;subst e';exact⟨hb,q⟩
def Inv.pinned {fp:List Xd} (I:Inv X aa σ H s) (hf:∀b∈fp,Ef X aa H b) (ho:∀b∈fp,∃o,s.heap.get? b=some o/\∀v,o.data≠ .cell v):Inv X (aa++Cq fp s.heap) σ H s :=
 I.cS λp hp=>(mem_append.mp hp).elim (λz=>I.pin p (ZS _ z)) λz=>by
  obtain⟨hb,e⟩:=Fu z;obtain⟨f0,f1,f2,_⟩:=hf p.1 hb;obtain⟨o,e',d⟩:=ho p.1 hb;rw[e]at e';cases e';exact⟨e,f0,f1,f2,d⟩
def Inv.unpinned {pl:LO} (I:Inv X (aa++pl) σ H s):Inv X aa σ H s:=I.cS λp hp=>I.pin p (ZS _ (ZQ _ hp))
def Eg {iter:Expr}{body:List Stmt}{wi:TI}{g:TG}{tb:TS} (hp:PassesOwn (model X.prog X.w) X.A X.env X.xe) (hc:X.calm=true) (hi:PI X tg iter wi) (hg:PG X tg g) (hb:eE X body tb)
  (hs:∀x,foldedSetIterable iter X.env x=pure x:=by intro _;rfl):PS X (.For tg iter body [] pos) (VJ wi g tb):=by
 intro aa s σ H D I h;refine wpAny_For (aG (hi aa s σ H _ I h) λv s1 h1=>aG h1 λitv s2 h2=>?_) hs;obtain⟨it,fp,tn,J,H2,e,I2,T,jj,f2,W,⟨m0,w0⟩,turn⟩:=h2;subst e;have fQ:∀ {H':Hp},(∀b∈fp,H' b=none)->∀b∈fp,Ef X aa H' b:=λhn b hb=>⟨hn b hb,(f2 b hb).2⟩;refine codeAny_forLoop_any (λn s'=>∃i aJ H',Inv X aa aJ H' s'/\tn i s'.heap/\(∀b∈fp,H' b=none)/\W i n aJ H') ?_ m0 ⟨0,σ,H2,I2,jj,λb hb=>(f2 b hb).1,w0⟩;rintro n s3 ⟨i,iN,H3,I3,st3,fr3,w3⟩;rcases turn i n iN H3 w3 with⟨stop,qn⟩ |⟨go,N,hN,step⟩
 ·refine wpAny_passesOwn hp (aG (T.done X Zj Zj Zj hc i aa s3 iN H3 X.xe I3 (fQ fr3) st3 stop) λr s4 ⟨hr,I4⟩=>?_);subst hr;exact wpAny_execs_nil ⟨iN,H3,I4,qn⟩
 ·refine wpAny_passesOwn hp (aG (T.item X Zj Zj Zj hc i aa s3 iN H3 X.xe I3 (fQ fr3) st3 go) λr s4 ⟨u,hr,h4⟩=>?_);subst hr;refine wpAny_passesOwn hp (aG h4 λ_ s5 ⟨x,H5,I5,r5,y5,st5,fr5⟩=>?_);have I5':=I5.pinned (fQ fr5) (T.obj _ _ st5);refine wpAny_passesOwn hp (aG (hg _ s5 iN H5 x u _ I5' r5 (step x H5 y5)) λ_ s6 ⟨σ6,H6,I6,q6⟩=>?_);refine wpAny_passesOwn hp (aG (hb _ s6 σ6 H6 _ I6 q6) λf s7 q7=>?_)
  have again:∀ {fH:St}{H7:Hp},Inv X (aa++Cq fp s5.heap) fH H7 s7->N fH H7->∃m,m<n/\∃i aJ H',Inv X aa aJ H' s7/\tn i s7.heap/\(∀b∈fp,H' b=none)/\W i m aJ H':=λ{fH H7} I7 n7=>by
   obtain⟨m',hm,w7⟩:=hN fH H7 n7;refine⟨m',hm,i+1,fH,H7,I7.unpinned,T.keep _ _ _ st5 λb hb o e=>(I7.pin (b,o) (ZS _ (ZS _ (CK hb e)))).1,λb hb=>?_,w7⟩;obtain⟨o,e,d⟩:=T.obj _ _ st5 b hb;exact(I7.pin (b,o) (ZS _ (ZS _ (CK hb e)))).2.1
  cases f with
  |next=>obtain⟨fH,H7,I7,n7⟩:=q7;exact again I7 n7
  |cont=>obtain⟨fH,H7,I7,n7⟩:=q7;exact again I7 n7
  |brk=>obtain⟨fH,H7,I7,q7⟩:=q7;exact⟨fH,H7,I7.unpinned,q7⟩
  |ret v=>obtain⟨x7,fH,H7,I7,r7,q7⟩:=q7;exact⟨x7,fH,H7,I7.unpinned,r7,q7⟩
end
def DH {g:TG}{tb:TS}{D:Dq} (Pv:Nat->St->Hp->Prop) (h0:Pv 0 σ H) (hl:∀i σ H,i<=xs.length->Pv i σ H->aN K H a xs)
  (hs:∀i x σ H,xs[i]?=some x->Pv i σ H->g x σ H λcK H2=>tb { D with nx:=Pv (i+1),ct:=Pv (i+1),bk:=D.nx } cK H2) (hd:∀σ H,Pv xs.length σ H->D.nx σ H) :
  ∃W:Nat->Nat->St->Hp->Prop,(∃m,W 0 m σ H)/\∀i m σ H,W i m σ H ->
   ((iK K a).stop i H/\D.nx σ H)\/((iK K a).go i H/\∃N:St->Hp->Prop,(∀aJ H',N aJ H'->∃m',m'<m/\W (i+1) m' aJ H')/\∀x H',(iK K a).g8 i H x H'->g x σ H' λcK H2=>tb { D with nx:=N,ct:=N,bk:=D.nx } cK H2):=by
 refine⟨λi m σ H=>m=xs.length - i/\i<=xs.length/\Pv i σ H,⟨xs.length,by simp,Nat.zero_le _,h0⟩,?_⟩;rintro i m σ H ⟨rfl,hi,p⟩;have q:=hl i σ H hi p;by_cases aL:i<xs.length
 ·refine .inr ⟨⟨xs,xs[i],q,by simp[aL]⟩,Pv (i+1),λaJ H' p'=>⟨xs.length - (i+1),qe,Zj,aL,p'⟩,λx H' y=>?_⟩;obtain⟨e,y⟩:=y;subst e;exact hs i x σ _ (y xs q) p
 ·have e:i=xs.length:=by omega
  subst e;exact .inl ⟨⟨xs,q,Zz _⟩,hd σ H p⟩
def IZ {lo:Int}{n:Nat}{g:TG}{tb:TS}{D:Dq} (Pv:Nat->St->Hp->Prop) (h0:Pv 0 σ H)
  (hs:∀i σ H,i<n->Pv i σ H->g (.int (lo+i)) σ H λcK H2=>tb { D with nx:=Pv (i+1),ct:=Pv (i+1),bk:=D.nx } cK H2) (hd:∀σ H,Pv n σ H->D.nx σ H) :
  ∃W:Nat->Nat->St->Hp->Prop,(∃m,W 0 m σ H)/\∀i m σ H,W i m σ H ->
   ((jB lo n).stop i H/\D.nx σ H)\/((jB lo n).go i H/\∃N:St->Hp->Prop,(∀aJ H',N aJ H'->∃m',m'<m/\W (i+1) m' aJ H')/\∀x H',(jB lo n).g8 i H x H'->g x σ H' λcK H2=>tb { D with nx:=N,ct:=N,bk:=D.nx } cK H2):=by
 refine⟨λi m σ H=>m=n - i/\i<=n/\Pv i σ H,⟨n,by simp,Nat.zero_le _,h0⟩,?_⟩;rintro i m σ H ⟨rfl,hi,p⟩;by_cases aL:i<n
 ·refine .inr ⟨aL,Pv (i+1),λaJ H' p'=>⟨n - (i+1),qe,Zj,aL,p'⟩,λx H' y=>?_⟩;obtain⟨e,y⟩:=y;subst e y;exact hs i σ _ aL p
 ·have e:i=n:=by omega
  subst e;exact .inl ⟨Zz _,hd σ H p⟩
def PU {c:TT}{tb:TS}{D:Dq} (Pv:St->Hp->Prop) (μ:St->Hp->Nat) (h0:Pv σ H)
  (hs:∀σ H,Pv σ H->c σ H λb H1=>if b=true then tb { D with nx:=λaJ H'=>Pv aJ H'/\μ aJ H'<μ σ H,ct:=λaJ H'=>Pv aJ H'/\μ aJ H'<μ σ H,bk:=D.nx } σ H1 else D.nx σ H1)
  (mono:∀σ H Q Q',(∀b H1,Q b H1->Q' b H1)->c σ H Q->c σ H Q'):PN c tb D σ H:=by
 refine⟨λm σ H=>m=μ σ H/\Pv σ H,⟨_,rfl,h0⟩,?_⟩;rintro m σ H ⟨rfl,p⟩;refine mono σ H _ _ (λb H1 q=>?_) (hs σ H p);cases b with
 |true=>exact⟨_,λaJ H' ⟨p',l⟩=>⟨_,l,rfl,p'⟩,q⟩
 |false=>exact q
abbrev R2:=V->V->Hp->VK->Prop
def cV (X:Cx) (f:Value->Value->Sem Value) (r:R2):Prop :=
 ∀(aa:LO) (s:Xe) (σ:St) (H:Hp) (x y:V) (v u:Value) (Q:VK),Inv X aa σ H s->RelV x v->RelV y u->r x y H Q ->
  wpAny (model X.prog X.w) X.A (f v u) (EP X aa σ Q) X.xe s
def UnR (X:Cx) (f:Value->Sem Value) (r:V->Hp->VK->Prop):Prop :=
 ∀(aa:LO) (s:Xe) (σ:St) (H:Hp) (x:V) (v:Value) (Q:VK),Inv X aa σ H s->RelV x v->r x H Q ->
  wpAny (model X.prog X.w) X.A (f v) (EP X aa σ Q) X.xe s
def bQ (X:Cx) (f:Value) (r:Xc->Hp->VK->Prop):Prop :=
 ∀(aa:LO) (s:Xe) (σ:St) (H:Hp) (xs:Xc) (us:Xb) (Q:VK),Inv X aa σ H s->Vals xs us->r xs H Q ->
  wpAny (model X.prog X.w) X.A (call f us) (EP X aa σ Q) X.xe s
def jE (r:R2) (ta tb:TE):TE:=λσ H Q=>ta σ H λx H1=>tb σ H1 λy H2=>r x y H2 Q
def tUn (r:V->Hp->VK->Prop) (ta:TE):TE:=λσ H Q=>ta σ H λx H1=>r x H1 Q
def rI (C:Int->Int->Prop) (g:Int->Int->V):R2:=λx y H Q=>ExI x y λi j=>C i j/\Q (g i j) H
def iD (g:Int->Int->V):R2:=λx y H Q=>ExI x y λi j=>Q (g i j) H
def rU (g:Int->V):V->Hp->VK->Prop:=λx H Q=>∃i,x=.int i/\Q (g i) H
section
variable {a b c:Expr}{ta tb tc:TE}
def Tn (ha:PE X a ta) (hb:PE X b tb) {R:V->V->Hp->Prop} (I:Inv X aa σ H s)
  (h:ta σ H λx H1=>tb σ H1 λy H2=>R x y H2) {Q:VS}{f:Value->Value->Sem Value}
  (hf:∀v u s2 x y H2,Inv X aa σ H2 s2->RelV x v->RelV y u->R x y H2->wpAny (model X.prog X.w) X.A (f v u) Q X.xe s2) :
  wpAny (model X.prog X.w) X.A (eval a X.env) (λv aH=>wpAny (model X.prog X.w) X.A (eval b X.env) (λu s₂=>wpAny (model X.prog X.w) X.A (f v u) Q X.xe s₂) X.xe aH) X.xe s:=by
 refine aG (ha aa s σ H _ I h) λv s1 ⟨x,H1,I1,r1,q1⟩=>?_;refine aG (hb aa s1 σ H1 _ I1 q1) λu s2 ⟨y,H2,I2,r2,q2⟩=>?_;exact hf v u s2 x y H2 I2 r1 r2 q2
def Af {op:Operator}{r:R2} (ho:cV X (binaryOp op) r) (ha:PE X a ta) (hb:PE X b tb):PE X (.BinOp a op b pos) (jE r ta tb):=by
 intro aa s σ H Q I h;exact wpAny_BinOp (Tn ha hb I h λv u s2 x y H2 I2 rx ry q=>ho aa s2 σ H2 x y v u Q I2 rx ry q)
def FD {op:UnaryOp}{r:V->Hp->VK->Prop} (ho:UnR X (unaryOp op) r) (ha:PE X a ta):PE X (.UnaryOp op a pos) (tUn r ta):=by
 intro aa s σ H Q I h;exact UnaryOp_ (aG (ha aa s σ H _ I h) λv s1 ⟨x,H1,I1,r1,q1⟩=>ho aa s1 σ H1 x v Q I1 r1 q1)
def opI {f:Value->Value->Sem Value}{C:Int->Int->Prop}{g:Int->Int->Int}
  (rule:∀(i j:Int) (t u:Tok) (s:Xe) (Q:VS) (E:VS),C i j->Q (.int (g i j) s.toks) { s with toks:=s.toks+1 }->wpAny (model X.prog X.w) X.A (f (.int i t) (.int j u)) Q E s) :
  cV X f (rI C λi j=>.int (g i j)):=by
 intro aa s σ H x y v u Q I rx ry h;obtain⟨i,j,rfl,rfl,hc,q⟩:=h;obtain⟨t,rfl⟩:=rx;obtain⟨t',rfl⟩:=ry;exact rule i j t t' s _ _ hc ⟨.int (g i j),H,I.tok _,⟨_,Zj⟩,q⟩
def Lo {f:Value->Value->Sem Value}{g:Int->Int->Int}
  (rule:∀(i j:Int) (t u:Tok) (s:Xe) (Q:VS) (E:VS),Q (.int (g i j) s.toks) { s with toks:=s.toks+1 }->wpAny (model X.prog X.w) X.A (f (.int i t) (.int j u)) Q E s) :
  cV X f (iD λi j=>.int (g i j)):=by
 intro aa s σ H x y v u Q I rx ry h;obtain⟨i,j,rfl,rfl,q⟩:=h;obtain⟨t,rfl⟩:=rx;obtain⟨t',rfl⟩:=ry;exact rule i j t t' s _ _ ⟨.int (g i j),H,I.tok _,⟨_,Zj⟩,q⟩
def RJ {f:Value->Value->Sem Value}{g:Int->Int->Bool}
  (rule:∀(i j:Int) (t u:Tok) (s:Xe) (Q:VS) (E:VS),Q (.bool (g i j)) s->wpAny (model X.prog X.w) X.A (f (.int i t) (.int j u)) Q E s) :
  cV X f (iD λi j=>.bl (g i j)):=by
 intro aa s σ H x y v u Q I rx ry h;obtain⟨i,j,rfl,rfl,q⟩:=h;obtain⟨t,rfl⟩:=rx;obtain⟨t',rfl⟩:=ry;exact rule i j t t' s _ _ ⟨.bl (g i j),H,I,Zj,q⟩
def Wh (i j:Int):Prop:=0<j/\j<1073741824
def To (i j:Int):Prop:=0<=j/\j<=1000000/\i.natAbs<2 ^ 64
def CMul (i j:Int):Prop:=(-(2 ^ 64)<i/\i<2 ^ 64)\/(-(2 ^ 64)<j/\j<2 ^ 64)
def CMul.ok {i j:Int} (h:CMul i j):IntMulOk i j:=by
 rcases h with⟨h1,h2⟩ |⟨h1,h2⟩
 ·exact .of_left (intBits_le_64 h1 h2)
 ·exact .of_right (intBits_le_64 h1 h2)
def B0:cV X (binaryOp .Add) (iD λi j=>.int (i+j)):=Lo λ_ _ _ _ _ _ _ q=>add_int q
def Eh:cV X (binaryOp .Sub) (iD λi j=>.int (i - j)):=Lo λ_ _ _ _ _ _ _ q=>sub_int q
def HJ:cV X (binaryOp .Mult) (rI CMul λi j=>.int (i*j)):=opI λ_ _ _ _ _ _ _ hc q=>mul_int q hc.ok
def NO:cV X (binaryOp .FloorDiv) (rI Wh λi j=>.int (i / j)):=opI λi j _ _ _ _ _ hc q=>by
 have h1:(0:Int)<j:=hc.1;have h2:j<1073741824:=hc.2;exact floordiv_int qe (by rw[Int.fdiv_eq_ediv_of_nonneg i qe];exact q) (.inl (PyProof.noPylong_small qe))
def Ei:cV X (binaryOp .Mod) (rI (λ_ j=>0<j) λi j=>.int (i % j)):=opI λi j _ _ _ _ _ hc q=>by
 have h1:(0:Int)<j:=hc;exact mod_int' qe (by rw[Int.fmod_eq_emod_of_nonneg i qe];exact q)
def Ja:cV X (binaryOp .Pow) (rI To λi j=>.int (i ^ j.toNat)):=opI λ_ _ _ _ _ _ _ hc q=>pow_int_small hc.1 hc.2.1 hc.2.2 q
def Lp:cV X (binaryOp .LShift) (rI To λi j=>.int (i*2 ^ j.toNat)):=opI λ_ _ _ _ _ _ _ hc q=>lshift_int_small hc.1 hc.2.1 hc.2.2 q
def Lq:cV X (binaryOp .BitAnd) (iD λi j=>.int (Builtin.bitAnd i j)):=Lo λ_ _ _ _ _ _ _ q=>and_int q
def S4:cV X (binaryOp .BitOr) (iD λi j=>.int (Builtin.bitOr i j)):=Lo λ_ _ _ _ _ _ _ q=>or_int q
def Tp:cV X (binaryOp .BitXor) (iD λi j=>.int (Builtin.bitXor i j)):=Lo λ_ _ _ _ _ _ _ q=>xor_int q
def NP:cV X (inplaceOp .Add) (iD λi j=>.int (i+j)):=Lo λ_ _ _ _ _ _ _ q=>iadd_int q
def Tq:cV X (inplaceOp .BitOr) (iD λi j=>.int (Builtin.bitOr i j)):=Lo λ_ _ _ _ _ _ _ q=>ior_int q
def unI {f:Value->Sem Value}{g:Int->Int}
  (rule:∀(i:Int) (t:Tok) (s:Xe) (Q:VS) (E:VS),Q (.int (g i) s.toks) { s with toks:=s.toks+1 }->wpAny (model X.prog X.w) X.A (f (.int i t)) Q E s) :
  UnR X f (rU λi=>.int (g i)):=by
 intro aa s σ H x v Q I rx h;obtain⟨i,rfl,q⟩:=h;obtain⟨t,rfl⟩:=rx;exact rule i t s _ _ ⟨.int (g i),H,I.tok _,⟨_,Zj⟩,q⟩
def Ej:UnR X (unaryOp .USub) (rU λi=>.int (-i)):=unI λ_ _ _ _ _ q=>neg_int q
def PV:UnR X (unaryOp .Invert) (rU λi=>.int (Builtin.bitNot i)):=unI λ_ _ _ _ _ q=>invert_int q
end
noncomputable def VL:V->V->Bool
 | .aI,.aI=>true | .aI,.int _=>true | .int _,.aI=>true | .aI,.bl _=>true | .bl _,.aI=>true | .aI,.str _=>true | .str _,.aI=>true
 | .int _,.int _=>true | .bl _,.bl _=>true | .str _,.str _=>true | .iG _,.iG _=>true
 | .int _,.str _=>true | .str _,.int _=>true | .bl _,.str _=>true | .str _,.bl _=>true
 |_,_=>false
def rEq:R2:=λx y H Q=>VL x y=true/\Q (.bl (decide (x=y))) H
def rNe:R2:=λx y H Q=>VL x y=true/\Q (.bl (!decide (x=y))) H
def NQ {i j:Int}:decide (V.int i=V.int j)=(i==j):=by
 rw[Bool.eq_iff_iff];simp
def PX {i j:Bool}:decide (V.bl i=V.bl j)=(i==j):=by
 rw[Bool.eq_iff_iff];simp
def NR {i j:Str}:decide (V.str i=V.str j)=(i==j):=by
 rw[Bool.eq_iff_iff];simp
def NS {i j:Array UInt8}:decide (V.iG i=V.iG j)=(i.toList==j.toList):=by
 rw[Bool.eq_iff_iff];cases i;cases j;simp
section
variable {a b c:Expr}{ta tb tc:TE}
def Aq {Q:VK}{k k':Bool} (I:Inv X aa σ H s) (q:Q (.bl k) H) (e:k=k'):EP X aa σ Q (.bool k') s:=by
 subst e;exact⟨.bl k,H,I,Zj,q⟩
def A7:cV X (compareOp .Eq) rEq:=by
 intro aa s σ H x y v u Q I rx ry h;obtain⟨hs,q⟩:=h;cases x with
 |aI =>
  cases rx;cases y with
  |aI=>cases ry;exact PySem.EqNone.eq_none_none (Aq I q (by simp))
  |bl j=>cases ry;exact PySem.EqNone.eq_none_bool (Aq I q (by simp))
  |int j=>obtain⟨t',rfl⟩:=ry;exact PySem.EqNone.eq_none_int (Aq I q (by simp))
  |str j=>obtain⟨t',rfl⟩:=ry;exact PySem.EqNone.eq_none_str (Aq I q (by simp))
  |_=>exact absurd (show false=true from hs) Bool.false_ne_true
 |bl i =>
  cases rx;cases y with
  |aI=>cases ry;exact PySem.EqNone.eq_bool_none (Aq I q (by simp))
  |bl j=>cases ry;exact eq_bool (Aq I q PX)
  |str j=>obtain⟨t',rfl⟩:=ry;exact PySem.EqMixed.eq_bool_str (Aq I q (by simp))
  |_=>exact absurd (show false=true from hs) Bool.false_ne_true
 |int i =>
  obtain⟨t,rfl⟩:=rx;cases y with
  |aI=>cases ry;exact PySem.EqNone.eq_int_none (Aq I q (by simp))
  |int j=>obtain⟨t',rfl⟩:=ry;exact eq_int (Aq I q NQ)
  |str j=>obtain⟨t',rfl⟩:=ry;exact PySem.EqMixed.eq_int_str (Aq I q (by simp))
  |_=>exact absurd (show false=true from hs) Bool.false_ne_true
 |str i =>
  obtain⟨t,rfl⟩:=rx;cases y with
  |aI=>cases ry;exact PySem.EqNone.eq_str_none (Aq I q (by simp))
  |bl j=>cases ry;exact PySem.EqMixed.eq_str_bool (Aq I q (by simp))
  |int j=>obtain⟨t',rfl⟩:=ry;exact PySem.EqMixed.eq_str_int (Aq I q (by simp))
  |str j=>obtain⟨t',rfl⟩:=ry;exact eq_str (Aq I q NR)
  |_=>exact absurd (show false=true from hs) Bool.false_ne_true
 |iG i =>
  obtain⟨t,rfl⟩:=rx;cases y with
  |iG j=>obtain⟨t',rfl⟩:=ry;exact W.eq_bytes (Aq I q NS)
  |_=>exact absurd (show false=true from hs) Bool.false_ne_true
 |_=>cases y <;> exact absurd (show false=true from hs) Bool.false_ne_true
def Dj:cV X (compareOp .NotEq) rNe:=by
 intro aa s σ H x y v u Q I rx ry h;obtain⟨hs,q⟩:=h;cases x with
 |aI =>
  cases rx;cases y with
  |aI=>cases ry;exact PySem.EqNone.ne_none_none (Aq I q (by simp))
  |bl j=>cases ry;exact PySem.EqNone.ne_none_bool (Aq I q (by simp))
  |int j=>obtain⟨t',rfl⟩:=ry;exact PySem.EqNone.ne_none_int (Aq I q (by simp))
  |str j=>obtain⟨t',rfl⟩:=ry;exact PySem.EqNone.ne_none_str (Aq I q (by simp))
  |_=>exact absurd (show false=true from hs) Bool.false_ne_true
 |bl i =>
  cases rx;cases y with
  |aI=>cases ry;exact PySem.EqNone.ne_bool_none (Aq I q (by simp))
  |bl j=>cases ry;exact ne_bool (Aq I q (congrArg not PX))
  |str j=>obtain⟨t',rfl⟩:=ry;exact PySem.EqMixed.ne_bool_str (Aq I q (by simp))
  |_=>exact absurd (show false=true from hs) Bool.false_ne_true
 |int i =>
  obtain⟨t,rfl⟩:=rx;cases y with
  |aI=>cases ry;exact PySem.EqNone.ne_int_none (Aq I q (by simp))
  |int j=>obtain⟨t',rfl⟩:=ry;exact ne_int (Aq I q (congrArg not NQ))
  |str j=>obtain⟨t',rfl⟩:=ry;exact PySem.EqMixed.ne_int_str (Aq I q (by simp))
  |_=>exact absurd (show false=true from hs) Bool.false_ne_true
 |str i =>
  obtain⟨t,rfl⟩:=rx;cases y with
  |aI=>cases ry;exact PySem.EqNone.ne_str_none (Aq I q (by simp))
  |bl j=>cases ry;exact PySem.EqMixed.ne_str_bool (Aq I q (by simp))
  |int j=>obtain⟨t',rfl⟩:=ry;exact PySem.EqMixed.ne_str_int (Aq I q (by simp))
  |str j=>obtain⟨t',rfl⟩:=ry;exact ne_str (Aq I q (congrArg not NR))
  |_=>exact absurd (show false=true from hs) Bool.false_ne_true
 |iG i =>
  obtain⟨t,rfl⟩:=rx;cases y with
  |iG j=>obtain⟨t',rfl⟩:=ry;exact W.ne_bytes (Aq I q (congrArg not NS))
  |_=>exact absurd (show false=true from hs) Bool.false_ne_true
 |_=>cases y <;> exact absurd (show false=true from hs) Bool.false_ne_true
def FE:cV X (compareOp .Lt) (iD λi j=>.bl (decide (i<j))):=RJ λ_ _ _ _ _ _ _ q=>lt_int q
def EZ:cV X (compareOp .LtE) (iD λi j=>.bl (decide (i<=j))):=RJ λ_ _ _ _ _ _ _ q=>le_int q
def FF:cV X (compareOp .Gt) (iD λi j=>.bl (decide (j<i))):=RJ λ_ _ _ _ _ _ _ q=>gt_int q
def Gk:cV X (compareOp .GtE) (iD λi j=>.bl (decide (j<=i))):=RJ λ_ _ _ _ _ _ _ q=>ge_int q
def cV.or {f:Value->Value->Sem Value}{r r':R2} (h:cV X f r) (h':cV X f r'):cV X f (λx y H Q=>r x y H Q\/r' x y H Q):=by
 intro aa s σ H x y v u Q I rx ry q;rcases q with q |q
 ·exact h aa s σ H x y v u Q I rx ry q
 ·exact h' aa s σ H x y v u Q I rx ry q
def AO (b:Expr) {op:CmpOp} (h:op≠ .In:=by decide) (h2:op≠ .NotIn:=by decide):behindInMarks op b=false:=by
 have e1:(op==CmpOp.In)=false:=by cases op <;> first |rfl |exact absurd rfl h
 have e2:(op==CmpOp.NotIn)=false:=by cases op <;> first |rfl |exact absurd rfl h2
 cases b <;> simp[behindInMarks,e1,e2]
def Bf {op:CmpOp}{r:R2} (ho:cV X (compareOp op) r) (ha:PE X a ta) (hb:PE X b tb) (hm:behindInMarks op b=false):PE X (.Compare a [op] [b] pos) (jE r ta tb):=by
 intro aa s σ H Q I h;exact wpAny_Compare1 (Tn ha hb I h λv u s2 x y H2 I2 rx ry q=>ho aa s2 σ H2 x y v u Q I2 rx ry q) hm
def PY (t:TE):TT:=λσ H Q=>t σ H λx H'=>ExB x λk=>Q k H'
def AL {op:CmpOp}{r:R2} (ho:cV X (compareOp op) r) (ha:PE X a ta) (hb:PE X b tb) (hm:behindInMarks op b=false):PT X (.Compare a [op] [b] pos) (PY (jE r ta tb)):=by
 intro aa s σ H Q I h
 refine wpAny_isTrue_Compare1 (aG (ha aa s σ H _ I h) λv s1 ⟨x,H1,I1,r1,q1⟩=>aG (hb aa s1 σ H1 _ I1 q1) λu s2 ⟨y,H2,I2,r2,q2⟩ =>
  aG (ho aa s2 σ H2 x y v u _ I2 r1 r2 q2) λc s3 ⟨z,H3,I3,r3,k,e,q3⟩=>?_) hm
 subst e;cases r3;exact ZY ⟨H3,I3,q3⟩
def Lr (r r':R2) (ta tb tc:TE):TE:=λσ H Q=>ta σ H λx H1=>tb σ H1 λy H2=>r x y H2 λz H3=>∃k,z=.bl k /\
 (if k=true then tc σ H3 λw' H4=>r' y w' H4 Q else Q (.bl false) H3)
def FH {op op':CmpOp}{r r':R2} (ho:cV X (compareOp op) r) (gZ:cV X (compareOp op') r') (ha:PE X a ta) (hb:PE X b tb) (hc:PE X c tc)
  (hm:lastMarks [op,op'] [b,c]=false:=by with_unfolding_all rfl):PE X (.Compare a [op,op'] [b,c] pos) (Lr r r' ta tb tc):=by
 intro aa s σ H Q I h
 refine Compare_chain (aG (ha aa s σ H _ I h) λv s1 ⟨x,H1,I1,r1,q1⟩=>chain_link (aG (hb aa s1 σ H1 _ I1 q1) λu s2 ⟨y,H2,I2,r2,q2⟩ =>
  aG (ho aa s2 σ H2 x y v u _ I2 r1 r2 q2) λd s3 ⟨z,H3,I3,r3,k,e,q3⟩=>?_)) hm
 subst e;cases r3;refine ZY ?_;cases k with
 |false=>exact ite_ff ⟨.bl false,H3,I3,rfl,q3⟩
 |true=>exact ite_tt (chain_last (aG (hc aa s3 σ H3 _ I3 q3) λw' s4 ⟨z',H4,I4,r4,q4⟩=>gZ aa s4 σ H4 y z' u w' Q I4 r2 r4 q4))
def B2 {op op':CmpOp}{r r':R2} (ho:cV X (compareOp op) r) (gZ:cV X (compareOp op') r') (ha:PE X a ta) (hb:PE X b tb) (hc:PE X c tc)
  (hm:lastMarks [op,op'] [b,c]=false:=by with_unfolding_all rfl):PT X (.Compare a [op,op'] [b,c] pos) (PY (Lr r r' ta tb tc)):=by
 intro aa s σ H Q I h
 refine isTrue_chain (aG (ha aa s σ H _ I h) λv s1 ⟨x,H1,I1,r1,q1⟩=>test_link (aG (hb aa s1 σ H1 _ I1 q1) λu s2 ⟨y,H2,I2,r2,q2⟩ =>
  aG (ho aa s2 σ H2 x y v u _ I2 r1 r2 q2) λd s3 ⟨z,H3,I3,r3,k,e,q3⟩=>?_)) hm
 subst e;cases r3;refine ZY ?_;cases k with
 |false =>
  obtain⟨k',e',q'⟩:=q3;cases e';exact ite_ff ⟨H3,I3,q'⟩
 |true =>
  refine ite_tt (test_last (aG (hc aa s3 σ H3 _ I3 q3) λw' s4 ⟨z',H4,I4,r4,q4⟩=>aG (gZ aa s4 σ H4 y z' u w' _ I4 r2 r4 q4) λd' s5 ⟨z2,H5,I5,r5,k2,e2,q5⟩=>?_));subst e2;cases r5;exact ZY ⟨H5,I5,q5⟩
def Fv:(sizeLine:Nat)<2 ^ 63:=by rw[sizeLine_eq];decide
def BG:cV X (binaryOp .Add) (λx y H Q=>∃i j,x=.str i/\y=.str j/\i.length+j.length<=sizeLine/\Q (.str (i++j)) H):=by
 intro aa s σ H x y v u Q I rx ry h;obtain⟨i,j,rfl,rfl,hz,q⟩:=h;obtain⟨t,rfl⟩:=rx;obtain⟨t',rfl⟩:=ry;exact add_str (λt' tk=>⟨.str (i++j),H,I.tok _,⟨_,Zj⟩,q⟩) hz
def CI {x:V} (r:Vals [x] us):∃u,us=[u]/\RelV x u:=by
 cases r with
 |cons r1 r2=>cases r2;exact⟨_,Zj,r1⟩
def Ie {x y:V} (r:Vals [x,y] us):∃u w',us=[u,w']/\RelV x u/\RelV y w':=by
 cases r with
 |cons r1 r2 =>
  cases r2 with
  |cons r3 r4=>cases r4;exact⟨_,_,Zj,r1,r3⟩
def OJ (hc:X.calm=true):bQ X (.builtin "max") (λxs H Q=>∃i j,xs=[.int i,.int j]/\Q (.int (if j>i then j else i)) H):=by
 intro aa s σ H xs us Q I r h;obtain⟨i,j,rfl,q⟩:=h;obtain⟨u,w',rfl,⟨t,rfl⟩,⟨t',rfl⟩⟩:=Ie r;refine max_two_ints (I.ok.hd hc) λh' tk k=>⟨_,H,I.kept k,?_,q⟩;by_cases hj:j>i
 ·rw[Zq hj,Zq hj];exact⟨_,Zj⟩
 ·rw[Zr hj,Zr hj];exact⟨_,Zj⟩
def OK (hc:X.calm=true):bQ X (.builtin "min") (λxs H Q=>∃i j,xs=[.int i,.int j]/\Q (.int (if j<i then j else i)) H):=by
 intro aa s σ H xs us Q I r h;obtain⟨i,j,rfl,q⟩:=h;obtain⟨u,w',rfl,⟨t,rfl⟩,⟨t',rfl⟩⟩:=Ie r;refine min_two_ints (I.ok.hd hc) λh' tk k=>⟨_,H,I.kept k,?_,q⟩;by_cases hj:j<i
 ·rw[Zq hj,Zq hj];exact⟨_,Zj⟩
 ·rw[Zr hj,Zr hj];exact⟨_,Zj⟩
def Fw:bQ X (.type "int") (λxs H Q=>(∃i,xs=[.int i]/\Q (.int i) H)\/∃k,xs=[.bl k]/\Q (.int (if k then 1 else 0)) H):=by
 intro aa s σ H xs us Q I r h;rcases h with⟨i,rfl,q⟩ |⟨k,rfl,q⟩
 ·obtain⟨u,rfl,t,rfl⟩:=CI r;exact call_int_int ⟨.int i,H,I,⟨_,Zj⟩,q⟩
 ·obtain⟨u,rfl,r1⟩:=CI r;cases r1;exact call_int_bool ⟨.int (if k then 1 else 0),H,I.tok _,⟨_,Zj⟩,q⟩
def Jb:bQ X (.type "str") (λxs H Q=>∃i,xs=[.int i]/\i.natAbs.log2<1920/\Q (.str (toString i)) H):=by
 intro aa s σ H xs us Q I r h;obtain⟨i,rfl,hz,q⟩:=h;obtain⟨u,rfl,t,rfl⟩:=CI r;exact PySem.P.str_of_int hz ⟨.str _,H,I.tok _,⟨_,Zj⟩,q⟩
end
structure ObjM (h:Heap) (x dx C:Xd) (mA:SV):Prop where
 obj:h.get? x=some (W.instObj C dx)
 ns:h.Ns1 dx mA
 ne:dx≠x
def Ig {dx:Xd}{mA:SV} (n:h.Ns1 dx mA):∃od,h.get? dx=some od/\∀name,W.lookIn name od=some (mA name):=by
 obtain⟨o,es,ep,ho,hd,hk,_,hm⟩:=n;refine⟨o,ho,λname=>?_⟩;have e:=hm name;unfold nsFind findBy at e;rw[←Array.find?_toList]at e;unfold W.lookIn;rw[hd]
 dsimp only
 split
 ·rename_i y q;rw[q]at e;exact congrArg some e
 ·rename_i q;rw[q]at e
  have a:es.toList.any (·.refKey)=false:=by
   rw[List.any_eq_false];intro y hy;obtain⟨z,t,cv⟩:=hk y (Array.mem_toList_iff.mp hy);simp[DictEntry.refKey,cv]
  have a':¬ es.toList.any (·.refKey)=true:=by rw[a];exact Bool.false_ne_true
  rw[Zr a'];exact congrArg some e
def ObjM.look {x dx:Xd}{mA:SV} (I:ObjM h x dx C mA):∃od,W.InstAt h x (W.instObj C dx) C (some od)/\∀name,W.lookIn name od=some (mA name) :=
 let ⟨od,ho,hl⟩:=Ig I.ns
 ⟨od,⟨I.obj,rfl,rfl,ho⟩,hl⟩
section
variable {prog:Program}{x dx f:Xd}{mA:SV}{name:Str}{v:Value}
def RK {expr:Bool}{Q:VS} (X:K.In s.heap) (I:ObjM s.heap x dx C mA) (hg:W.plainGet K C name=true) (hh:W.hasDictIn K C=true)
  (ha:W.findIn K (.ref C) name=some none) (hv:mA name=some v) (hv':W.handedIn v=true) (h:Q v { s with toks:=s.toks+1 }) :
  wpAny (model prog w) A (getAttr (.ref x) name expr) Q E s:=by
 obtain⟨od,J,hl⟩:=I.look;exact W.get_value X J (W.plainGet_of hg).1 (W.findObj_own hh ha Zj (by rw[hl,hv])) hv' h
def PZ {pl:Sem Bool}{Q:Value×Xb->Xe->Prop} (X:K.In s.heap) (I:ObjM s.heap x dx C mA) (hg:W.plainGet K C name=true)
  (hf:W.findIn K (.ref C) name=some (some (.ref f))) (ht:W.isFn K (.ref f)=true) (hv:mA name=none) (h:Q (.ref f,[.ref x]) s) :
  wpAny (model prog w) A (getMethod (.ref x) name pl) Q E s:=by
 obtain⟨od,J,hl⟩:=I.look;exact W.method_fn X J (W.plainGet_of hg).1 (W.plainGet_of hg).2 hf (beq_iff_eq.mp ht) (by show(W.lookIn name od).map (·.isSome)=some false;rw[hl,hv];rfl) h
def RL {ns:Xa}{Q:Unit->Xe->Prop} (X:K.In s.heap) (I:ObjM s.heap x dx C mA)
  (hs:W.findIn K (.ref C) "__setattr__" = some (some (.builtin "object.__setattr__"))) (hp:W.plainOver K C=true) (ht:W.takerIn K C name=some none) (hh:W.hasDictIn K C=true)
  (hw:PySem.Within mA ns) (hsz:ns.length<=sizeLine)
  (h:∀h',ObjM h' x dx C (λy=>if y=name then some v else mA y)->Heap.SameBut dx s.heap h'->Q () { s with heap:=h',toks:=s.toks+2 }) :
  wpAny (model prog w) A (setAttr (.ref x) name v) Q E s:=by
 obtain⟨od,J,hl⟩:=I.look;refine W.set_plain X J hs (W.osa_open (s:={ s with toks:=s.toks+1 }) (r:=none) X J hp ht λb=>?_);obtain⟨cd,hc,hd'⟩:=W.any_some hh;have hx:s.heap.get? x=some ⟨.ref C,some dx,.plain,#[]⟩:=I.obj;refine Zy (Zx (Zy (Zy (wpAny_loadPart hx (Zy (W.Looks.here (s:={ s with toks:=s.toks+1 }) (W.looks_clsIn X hc) ?_))))));rw[hd'];refine Zx (a:=some dx) (Zy (Zx (Zy ?_)));refine wpAny_nsSet1 (s:={ s with toks:=s.toks+1 }) I.ns λh' hn2 jo=>?_;obtain⟨oD,esD,epD,hoD,hdD,iT⟩:=hn2.count (PySem.Within.cons name v hw);refine Zy (wpAny_lookBehind hoD (by rw[hdD];exact pastItsLine_dict (Nat.le_trans iT (by rw[length_cons];omega))) ?_);exact Zx (h _ ⟨(jo.2 _ (Ne.symm I.ne)).trans I.obj,hn2,I.ne⟩ jo)
def KL {R:Result->Xe->Prop}{vs:Xb}{kw:List (Str×Value)} (X:K.In s.heap) (hm:W.makesIn K C=true)
  (hi:W.findIn K (.ref C) "__init__" = some (some (.ref f))) (hf:W.typeIn K (.ref f)=some (.type "function"))
  (h:codeAny (model prog w) (A.under (.builtin "type.__call__" ⟨.ref C::vs,kw⟩)) (.call (.ref f) ⟨.ref (s.heap.objs.size+1)::vs,kw⟩) (W.InitBack (s.heap.objs.size+1) R)
   { s with heap:=(s.heap.push W.emptyDict).push (W.instObj C s.heap.objs.size) }) :
  codeAny (model prog w) A (.call (.ref C) ⟨vs,kw⟩) R s:=by
 obtain⟨hh,g,d,t,os⟩:=s;exact W.make_core (W.makes_of X hm) (W.looks_findIn X hi) (λself=>W.bind_fn X self hf) (.inl Zj) h
end
noncomputable def BQ (f:Str) (v:V):List (Str×V)->List (Str×V)
  | []=>[(f,v)]
  | (g,x)::r=>if g=f then (g,v)::r else (g,x)::BQ f v r
def AX (f g:Str) (v:V):∀fs:List (Str×V),(BQ f v fs).lookup g=if g=f then some v else fs.lookup g
  | []=>by
    show List.lookup g [(f,v)]=_;by_cases h:g=f
    · have hb:(g==f)=true:=beq_iff_eq.mpr h
      simp only[List.lookup,hb,Zq h]
    · have hb:(g==f)=false:=beq_eq_false_iff_ne.mpr h
      simp only[List.lookup,hb,Zr h]
  | (k,x)::r=>by
    have ih:=AX f g v r;rw[show BQ f v ((k,x)::r)=(if k=f then (k,v)::r else (k,x)::BQ f v r)from rfl];by_cases hk:k=f
    · rw[Zq hk]
      by_cases h:g=k
      · have hb:(g==k)=true:=beq_iff_eq.mpr h
        simp only[List.lookup,hb,Zq (h.trans hk)]
      · have hb:(g==k)=false:=beq_eq_false_iff_ne.mpr h
        simp only[List.lookup,hb,Zr (λe:g=f=>h (e.trans hk.symm))]
    · rw[Zr hk]
      by_cases h:g=k
      · have hb:(g==k)=true:=beq_iff_eq.mpr h
        simp only[List.lookup,hb,Zr (λe:g=f=>hk (h.symm.trans e))]
      · have hb:(g==k)=false:=beq_eq_false_iff_ne.mpr h
        simp only[List.lookup,hb];exact ih
def Fx (f:Str) (v:V):∀fs:List (Str×V),f∈(BQ f v fs).map (·.1)/\∀g,g∈fs.map (·.1)->g∈(BQ f v fs).map (·.1)
  | []=>⟨by simp[BQ],λg h=>by simp at h⟩
  | (k,x)::r=>by
    obtain⟨i1,i2⟩:=Fx f v r;rw[show BQ f v ((k,x)::r)=(if k=f then (k,v)::r else (k,x)::BQ f v r)from rfl];by_cases hk:k=f
    · rw[Zq hk]
      subst hk;exact⟨by simp,λg h=>by simpa using h⟩
    · rw[Zr hk]
      refine⟨?_,λg h=>?_⟩
      · rw[map_cons]
        exact ZR _ i1
      · rw[map_cons]at h ⊢
        rcases mem_cons.mp h with e |e
        · exact mem_cons.mpr (.inl e)
        · exact ZR _ (i2 g e)
def A6 (f:Str) (v:V):∀fs:List (Str×V),(BQ f v fs).length<=fs.length+1
  | []=>by simp[BQ]
  | (k,x)::r=>by
    have ih:=A6 f v r;rw[show BQ f v ((k,x)::r)=(if k=f then (k,v)::r else (k,x)::BQ f v r)from rfl];by_cases hk:k=f
    · rw[Zq hk,length_cons,length_cons];omega
    · rw[Zr hk,length_cons,length_cons];omega
def ef.some_of {v:V}{o:Option Value} (r:ef (some v) o):∃u,o=some u/\RelV v u:=by
 cases o with
 |none=>exact(show False from r).elim
 |some u=>exact⟨u,rfl,r⟩
def ef.none_of {o:Option Value} (r:ef none o):o=none:=by
 cases o with
 |none=>rfl
 |some u=>exact(show False from r).elim
def Ih {v:V} (r:RelV v u):W.handedIn u=true:=by
 cases v with
 |aI=>cases (show u=Value.none from r);rfl
 |bl b=>cases (show u=Value.bool b from r);rfl
 |int i=>obtain⟨t,e⟩:=(show ∃t,u=Value.int i t from r);cases e;rfl
 |str x=>obtain⟨t,e⟩:=(show ∃t,u=Value.str x t from r);cases e;rfl
 |iG b=>obtain⟨t,e⟩:=(show ∃t,u=Value.bytes b t from r);cases e;rfl
 |jO b=>obtain⟨t,e⟩:=(show ∃t,u=Value.float b t from r);cases e;rfl
 |ref a=>cases (show u=Value.ref a from r);rfl
 |ty n=>cases (show u=Value.type n from r);rfl
section
variable {h':Heap}{dx:Xd}{fs fs':List (Str×V)}
def EM (aF:du P w H h) (e:H a=some (.ins C dx fs)):∃mA,ObjM h a dx C mA/\(∀f,ef (fs.lookup f) (mA f))/\PySem.Within mA (fs.map (·.1))/\fs.length<=1000/\H dx=some (.own a):=by
 obtain⟨d,z,ne,ob,mA,n,r,q⟩:=(show aQ P w H h a (.ins C dx fs)from aF a _ e);exact⟨mA,⟨ob,n,ne⟩,r,q,z,d⟩
end
structure iz (K:FG) (C:Xd):Prop where
 pg:W.plainGet K C Str.empty=true
 hd:W.hasDictIn K C=true
 po:W.plainOver K C=true
 sa:W.findIn K (.ref C) "__setattr__" = some (some (.builtin "object.__setattr__"))
def iz.get (c:iz K C) (f:Str):W.plainGet K C f=true:=c.pg
def cL (K:FG) (C:Xd) (f:Str):Prop:=W.findIn K (.ref C) f=some none
def cL.taker {f:Str} (n:cL K C f):W.takerIn K C f=some none:=by
 unfold W.takerIn;rw[show W.findIn K (.ref C) f=some none from n];rfl
structure Ls (K:FG) (C:Xd) (m:Str) (f:Xd):Prop where
 at_:W.findIn K (.ref C) m=some (some (.ref f))
 fn:W.isFn K (.ref f)=true
 kp:W.keepIn K (.ref f)=true
section
variable {dx:Xd}{fs:List (Str×V)}{f:Str}{v:V}
def Lu {b:Bool}{Q:VS} (I:Inv X aa σ H s) (e:H a=some (.ins C dx fs)) (c:iz X.K C) (n:cL X.K C f) (l:fs.lookup f=some v)
  (h:∀u s',Inv X aa σ H s'->RelV v u->Q u s'):wpAny (model X.prog X.w) A (getAttr (.ref a) f b) Q E s:=by
 obtain⟨mA,O,r,_,_,_⟩:=EM I.aF e;obtain⟨u,hu,ru⟩:=ef.some_of (v:=v) (o:=mA f) (by rw[←l];exact r f);exact RK I.cW O (c.get f) c.hd n hu (Ih ru) (h u _ (I.tok _) ru)
def HK {m:Str}{g:Xd}{pl:Sem Bool}{Q:Value×Xb->Xe->Prop} (I:Inv X aa σ H s) (e:H a=some (.ins C dx fs)) (c:iz X.K C) (k:Ls X.K C m g) (l:fs.lookup m=none)
  (h:Q (.ref g,[.ref a]) s):wpAny (model X.prog X.w) A (getMethod (.ref a) m pl) Q E s:=by
 obtain⟨mA,O,r,_,_,_⟩:=EM I.aF e;have hn:mA m=none:=ef.none_of (by rw[←l];exact r m);exact PZ I.cW O (c.get m) k.at_ k.fn hn h
def Lv {y:V}{Q:Unit->Xe->Prop} (I:Inv X aa σ H s) (e:H a=some (.ins C dx fs)) (c:iz X.K C) (n:cL X.K C f) (hl:fs.length<1000) (ry:RelV y u)
  (h:∀s',Inv X aa σ (upd H a (.ins C dx (BQ f y fs))) s'->Q () s'):wpAny (model X.prog X.w) A (setAttr (.ref a) f u) Q E s:=by
 obtain⟨mA,O,r,wi,_,ho⟩:=EM I.aF e;have hz:(fs.map (·.1)).length<=sizeLine:=by rw[AS,sizeLine_eq];omega
 refine RL I.cW O c.sa c.po n.taker c.hd wi hz λh' O' sb=>h _ ?_;have hd:∃o,h'.get? dx=some o:=let ⟨o,_,_,e',_⟩:=O'.ns;⟨o,e'⟩
 refine I.write (x:=a) (e:=dx) (by rw[e];exact True.intro) (.inr ho) (λb q hb z=>(sb.2 b hb).trans z) hd ?_;refine⟨by rw[AH O.ne];exact ho,?_,O.ne,O'.obj,_,O'.ns,λg=>?_,λg hg=>?_⟩
 ·have:=A6 f y fs;omega
 ·show ef ((BQ f y fs).lookup g) (if g=f then some u else mA g);rw[AX];by_cases q:g=f
  ·rw[Zq q,Zq q];exact ry
  ·rw[Zr q,Zr q];exact r g
 ·by_cases q:g=f
  ·rw[q];exact(Fx f y fs).1
  ·refine(Fx f y fs).2 g (wi g λz=>hg ?_);show(if g=f then some u else mA g)=none;rw[Zr q];exact z
def Inv.made (I:Inv X aa σ H s):Inv X aa σ (upd (upd H s.heap.objs.size (.own (s.heap.objs.size+1))) (s.heap.objs.size+1) (.ins C s.heap.objs.size []))
  { s with heap:=(s.heap.push W.emptyDict).push (W.instObj C s.heap.objs.size) }:=by
 have e1:(s.heap.push W.emptyDict).get? s.heap.objs.size=some W.emptyDict:=ZO s.heap rfl
 have e2:((s.heap.push W.emptyDict).push (W.instObj C s.heap.objs.size)).get? (s.heap.objs.size+1)=some (W.instObj C s.heap.objs.size):=by
  have:=ZO (s.heap.push W.emptyDict) (o:=W.instObj C s.heap.objs.size) rfl
  rwa[Heap.size_push]at this
 have e3:(s.heap.push W.emptyDict).Ns s.heap.objs.size (λ_=>none):=⟨W.emptyDict,#[],_,e1,rfl,(λe he=>absurd he (by simp)),λ_=>rfl⟩;have I1:=I.laid (a:=s.heap.objs.size) (o:=.own (s.heap.objs.size+1)) (h':=s.heap.push W.emptyDict) (t':=s.toks) (λb u q=>ZW _ q) (Zz _) ⟨_,e1⟩;refine I1.laid (a:=s.heap.objs.size+1) (o:=.ins C s.heap.objs.size []) (t':=s.toks) (λb u q=>ZW _ q) (Nat.le_of_eq (Heap.size_push _ _)) ?_;have ne:s.heap.objs.size≠s.heap.objs.size+1:=ZD (Nat.lt_succ_self _);refine⟨by rw[AH ne,AB],Nat.zero_le _,ne,e2,λ_=>none,(Heap.Ns1.of_empty e3).at λo q=>ZW _ q,λ_=>True.intro,λy hy=>absurd Zj hy⟩
def NT {prog:Program}{env:Env}{f:Str}{Q:VS} (hb:attributeBase e f env (eval e env)=eval e env)
  (h:wpAny (model prog w) A (eval e env) (λo aH=>wpAny (model prog w) A (getAttr o f true) Q E aH) E s):wpAny (model prog w) A (eval (.Attribute e f pos) env) Q E s :=
 Attribute_any_ h (by rw[arm_eval_Attribute,hb])
end
inductive ExF (K:FG) (x:V) (H:Hp) (f:Str) (k:V->Prop):Prop where
 |mk (a C dx:Xd) (fs:List (Str×V)) (v:V) (h1:x=.ref a) (h2:H a=some (.ins C dx fs)) (h3:iz K C) (h4:cL K C f) (h5:fs.lookup f=some v) (q:k v):ExF K x H f k
def Wi (K:FG) (ta:TE) (f:Str):TE:=λσ H Q=>ta σ H λx H1=>ExF K x H1 f λv=>Q v H1
def Wj (K:FG) (ta tv:TE) (f:Str):TS:=λD σ H=>tv σ H λy H1=>ta σ H1 λx H2=>∃a C dx fs,x=.ref a/\H2 a=some (.ins C dx fs)/\iz K C/\cL K C f/\fs.length<1000 /\
 D.nx σ (upd H2 a (.ins C dx (BQ f y fs)))
section
variable {o value:Expr}{f:Str}{pos' tpos:Pos}{ta tv:TE}
def BI (he:PE X e ta) (hb:attributeBase e f X.env (eval e X.env)=eval e X.env):PE X (.Attribute e f pos) (Wi X.K ta f):=by
 intro aa s σ H Q I h;refine NT hb (aG (he aa s σ H _ I h) λu s1 ⟨x,H1,I1,rx,a,C,dx,fs,v,ex,ea,c,n,l,q⟩=>?_);subst ex;obtain rfl:u=Value.ref a:=rx;exact Lu I1 ea c n l λu' s2 I2 ru=>⟨v,H1,I2,ru,q⟩
def C8 (ha:PE X o ta) (hv:PE X value tv) (hs:swapsWith value (some (.Attribute o f pos')) pos.line X.env=pure false):PS X (.Assign [.Attribute o f pos'] value pos) (Wj X.K ta tv f):=by
 intro aa s σ H D I h;refine plainObj_wpAny_Assign_Attribute (aG (hv aa s σ H _ I h) λu s1 ⟨y,H1,I1,ry,q⟩=>aG (ha aa s1 σ H1 _ I1 q) λov s2 ⟨x,H2,I2,rx,a,C,dx,fs,ex,ea,c,n,l,q2⟩=>?_) hs;subst ex;obtain rfl:ov=Value.ref a:=rx;exact Lv I2 ea c n l ry λs3 I3=>⟨σ,_,I3,q2⟩
end
section
variable {Q:VS}{c:Value}{b:Bool}
inductive d4 (K:FG) (H:Hp):V->Value->Prop where
 |aI:d4 K H .aI (.type "NoneType")
 |bl (x:Bool):d4 K H (.bl x) (.type "bool")
 |int (i:Int):d4 K H (.int i) (.type "int")
 |str (x:Str):d4 K H (.str x) (.type "str")
 |jO (x:UInt64):d4 K H (.jO x) (.type "float")
 |lst {a:Xd}{xs:Xc} (e:H a=some (.lst xs)):d4 K H (.ref a) (.type "list")
 |cZ {a:Xd}{o:Obj}{xs:Xc} (e:H a=some (.cZ o (.lst xs))):d4 K H (.ref a) (.type "list")
 |tup {a:Xd}{xs:Xc} (e:H a=some (.tup xs)):d4 K H (.ref a) (.type "tuple")
 |dK {a:Xd}{kvs:LK} (e:H a=some (.dK kvs)):d4 K H (.ref a) (.type "dict")
 |dT {a:Xd}{kvs:List (List Key×V)} (e:H a=some (.dT kvs)):d4 K H (.ref a) (.type "dict")
 |ins {a C dx:Xd}{fs:List (Str×V)} (e:H a=some (.ins C dx fs)) (cl:iz K C) (ha:W.findIn K (.ref C) "__class__" = some (some (.builtin "object.__class__")))
   (hn:W.specialIn K (.builtin "object.__class__") "__get__" = some (some (.builtin "getset_descriptor.__get__"))) (htk:W.takesIn K (.builtin "object.__class__")=some true)
   (hm:W.mroIn K C (.type "object")=some true):d4 K H (.ref a) (.ref C)
def Ii {x:V}{t:Value} (I:Inv X aa σ H s) (rx:RelV x u) (ty:d4 X.K H x t) (e:W.kitOne X.K t c=some b) (h:∀tk,Q (.bool b) { s with toks:=tk }) :
  wpAny (model X.prog X.w) A (call (.builtin "isinstance") [u,c]) Q E s:=by
 cases ty with
 |aI=>cases (show u=Value.none from rx);exact W.kia_one W.kitx_none I.cW True.intro e (λz=>nomatch z) h
 |bl y=>cases (show u=Value.bool y from rx);exact W.kia_one W.kitx_bool I.cW True.intro e (λz=>nomatch z) h
 |int i=>obtain⟨t,q⟩:=(show ∃t,u=Value.int i t from rx);cases q;exact W.kia_one W.kitx_int I.cW True.intro e (λz=>nomatch z) h
 |str y=>obtain⟨t,q⟩:=(show ∃t,u=Value.str y t from rx);cases q;exact W.kia_one W.kitx_str I.cW True.intro e (λz=>nomatch z) h
 |jO y=>obtain⟨t,q⟩:=(show ∃t,u=Value.float y t from rx);cases q;exact W.kia_one W.kitx_float I.cW True.intro e (λz=>nomatch z) h
 | @lst a xs ea =>
  cases (show u=Value.ref a from rx);obtain⟨_,_,n,_,h1⟩:=(show aQ X.prog X.w H s.heap a (.lst xs)from I.aF a _ ea);exact W.kia_one W.kitx_list I.cW ⟨_,h1,rfl⟩ e (λz=>nomatch z) h
 | @cZ a ob xs ea =>
  cases (show u=Value.ref a from rx);obtain⟨_,_,_,n,_,h1⟩:=(show aQ X.prog X.w H s.heap a (.cZ ob (.lst xs))from I.aF a _ ea);exact W.kia_one W.kitx_list I.cW ⟨_,h1,rfl⟩ e (λz=>nomatch z) h
 | @tup a xs ea =>
  cases (show u=Value.ref a from rx);obtain⟨_,_,_,p⟩:=(show aQ X.prog X.w H s.heap a (.tup xs)from I.aF a _ ea);obtain⟨o,h1,h2,_⟩:=p;exact W.kia_one W.kitx_tuple I.cW ⟨o,h1,h2⟩ e (λz=>nomatch z) h
 | @dK a kvs ea =>
  cases (show u=Value.ref a from rx);obtain⟨_,_,vs,_,p⟩:=(show aQ X.prog X.w H s.heap a (.dK kvs)from I.aF a _ ea);obtain⟨o,es,ep,h1,h2,_⟩:=p;exact W.kia_one W.kitx_dict I.cW ⟨o,h1,h2.1⟩ e (λz=>nomatch z) h
 | @dT a kvs ea =>
  cases (show u=Value.ref a from rx);obtain⟨_,_,xs,_,o,es,ep,h1,h2,_⟩:=(show aQ X.prog X.w H s.heap a (.dT kvs)from I.aF a _ ea);exact W.kia_one W.kitx_dict I.cW ⟨o,h1,h2.1⟩ e (λz=>nomatch z) h
 | @ins a C dx fs ea cl ha hn htk hm =>
  cases (show u=Value.ref a from rx);obtain⟨mA,O,_⟩:=EM I.aF ea;obtain⟨od,J,_⟩:=O.look;exact W.kia_one (W.kitx_own (cl.get _) cl.hd ha hn htk hm) I.cW J e (λz=>nomatch z) h
end
structure aE (k:Nat) (A:Around):Prop where
 hd:A.handled=none
 dp:A.depth+3*k+5<recursionLimit
 un:A.units+16*k+200<cLine
def aE.mono {j k:Nat} (r:aE k A) (h:j<=k):aE j A:=⟨r.hd,by have:=r.dp;omega,by have:=r.un;omega⟩
def aE.deeper {k:Nat}{A:Around} (r:aE (k+1) A) (env:Env):aE k (A.deeper env) :=
 ⟨r.hd,by have:=r.dp;show A.depth+1+3*k+5<_;omega,by have:=r.un;show A.units+3+16*k+200<_;omega⟩
def aE.in1 {k:Nat}{A:Around} (r:aE (k+1) A):aE k A.in1 :=
 ⟨r.hd,by have:=r.dp;show A.depth+3*k+5<_;omega,by have:=r.un;show A.units+1+16*k+200<_;omega⟩
def Lw {kw:List (Str×Value)}:(A.under (.builtin "type.__call__" ⟨.ref C::us,kw⟩)).depth=A.depth+1:=by
 first |rfl |simp[Around.under,Code.weight,Code.isCreation,Code.isGuard,Code.isCaller,Code.frames,Code.isFrame,guardIds]
def Lx {kw:List (Str×Value)}:(A.under (.builtin "type.__call__" ⟨.ref C::us,kw⟩)).units=A.units+1:=by
 first |rfl |simp[Around.under,Code.cUnits,Code.frames,Code.isFrame]
def aE.make {k:Nat} (r:aE (k+1) A) (C:Xd) (us:Xb) (kw:List (Str×Value)):aE k (A.under (.builtin "type.__call__" ⟨.ref C::us,kw⟩)) :=
 ⟨r.hd,by have:=r.dp;rw[Lw];omega,by have:=r.un;rw[Lx];omega⟩
def aE.depth {k:Nat}{A:Around} (r:aE k A):A.depth<recursionLimit:=by have:=r.dp;omega
def aE.units {k:Nat}{A:Around} (r:aE k A):A.units+64<cLine:=by have:=r.un;omega
def B3:TA:=λ_ H Q=>Q [] H
def Ab (ta:TE) (tr:TA):TA:=λσ H Q=>ta σ H λx H1=>tr σ H1 λxs H2=>Q (x::xs) H2
section
variable {es:List Expr}{t:TA}
def AC:PA X [] B3:=λ_ _ _ _ H Q I h=>Calls.spliced_nil ⟨[],H,I,.nil,h⟩
def AA (ha:PE X e te) (hr:PA X es t) (hs:starEach (e::es) X.env=(false,eval e X.env)::starEach es X.env:=by rfl):PA X (e::es) (Ab te t):=by
 intro pos aa s σ H Q I h;rw[hs];show wpAny _ _ (spliced ((false,eval e X.env)::backTo pos (starEach es X.env))) _ _ s;refine Calls.spliced_cons (aG (ha aa s σ H _ I h) λu s1 ⟨x,H1,I1,r1,q1⟩=>?_);exact aG (hr pos aa s1 σ H1 _ I1 q1) λus s2 ⟨xs,H2,I2,r2,q2⟩=>⟨x::xs,H2,I2,.cons r1 r2,q2⟩
def Ts (t:TA):TE:=λσ H Q=>t σ H λxs H1=>xs.length<=sizeLine/\∀p,H1 p=none->Q (.ref p) (upd H1 p (.tup xs))
def Tt (t:TA):TE:=λσ H Q=>t σ H λxs H1=>xs.length<=sizeLine/\∀p,H1 p=none->Q (.ref p) (upd H1 p (.lst xs))
def Ay {x1} (h:PA X es t):PE X (.Tuple es x1 pos) (Ts t):=by
 intro aa s σ H Q I hq;refine wpAny_Tuple_spliced (aG (h pos aa s σ H _ I hq) λus s1 ⟨xs,H1,I1,r,z,q⟩=>⟨by rw[←r.length];exact z,?_⟩);have hf:H1 s1.heap.objs.size=none:=I1.aF.fresh (Zz _);refine⟨.ref s1.heap.objs.size,upd H1 s1.heap.objs.size (.tup xs),I1.laid (t':=s1.toks) (λb u e=>ZW _ e) (Zz _) ?_,Zj,q _ hf⟩;exact⟨z,us,r,⟨_,ZO _ Zj,Zj,_,Zj⟩⟩
def A8 (h:PA X es t):PE X (.List es pos) (Tt t):=by
 intro aa s σ H Q I hq;refine wpAny_List_spliced (aG (h pos aa s σ H _ I hq) λus s1 ⟨xs,H1,I1,r,z,q⟩=>⟨by rw[←r.length];exact z,?_⟩);have hf:H1 s1.heap.objs.size=none:=I1.aF.fresh (Zz _);refine⟨.ref s1.heap.objs.size,upd H1 s1.heap.objs.size (.lst xs),I1.laid (t':=s1.toks) (λb u e=>ZW _ e) (Zz _) ?_,Zj,q _ hf⟩;exact⟨z,us,0,r,ZO _ Zj⟩
end
abbrev Sp:=Xc->Hp->VK->XK->Prop
abbrev gL:=List Env->Hp->Xe->XK->Value->Xe->Prop
structure eh (P:Program) (w:World) (K:FG) (mg:SV) (base:Heap) (A:Around) (outer:List Env) (s:Xe) (H:Hp):Prop where
 frames:A.frames=some outer
 mod:Mod K mg base
 bs:∀b o,base.get? b=some o->s.heap.get? b=some o/\H b=none
 gK:base.objs.size<=s.heap.objs.size
 df:s.heap.FunFrames base outer
 ig:∀b∈dn outer,H b=none
 aF:du P w H s.heap
 bare:AllBare s.gens
def CE (outer:List Env) (P:Program) (w:World) (H:Hp) (s:Xe) (Q:VK) (u:Value) (s':Xe):Prop :=
 ∃v H',s'.os=s.os/\AllBare s'.gens/\Un (dn outer) [] H H' s.heap s'.heap/\du P w H' s'.heap/\RelV v u/\Q v H'
def CR (CX:gL) (outer:List Env) (P:Program) (w:World) (H:Hp) (s:Xe) (Q:VK) (E:XK) (r:Result) (s':Xe):Prop :=
 match r with
 | .ok (.ret u)=>CE outer P w H s Q u s'
 | .ok _=>False
 | .error e=>CX outer H s E e s'
structure AU (P:Program) (w:World) (K:FG) (mg:SV) (base:Heap) (CX:gL) (k:Nat) (f:Xd) (fd:FuncData) (ps:Xa) (sp:Sp):Prop where
 len:∀vs H Q E,sp vs H Q E->vs.length=ps.length
 run:∀(A:Around) (outer:List Env) (s:Xe) (H:Hp) (args:Args) (us:Xb) (vs:Xc) (Q:VK) (E:XK),aE k A->eh P w K mg base A outer s H->BindsTo s fd args (ps.zip us)->Vals vs us->sp vs H Q E ->
  codeAny (model P w) A (.call (.ref f) args) (CR CX outer P w H s Q E) s
def eh.make {outer:List Env} (e:eh P w K mg base A outer s H) (C:Xd) (us:Xb) (kw:List (Str×Value)) :
  eh P w K mg base (A.under (.builtin "type.__call__" ⟨.ref C::us,kw⟩)) outer s H:=⟨by first |exact e.frames | (simpa[Around.under,Code.envs,Code.isFrame,pushEnvs]using e.frames),e.mod,e.bs,e.gK,e.df,e.ig,e.aF,e.bare⟩
def eh.in1 {P:Program}{w:World}{K:FG}{mg:SV}{base:Heap}{A:Around}{outer:List Env}{s:Xe}{H:Hp} (e:eh P w K mg base A outer s H) :
  eh P w K mg base A.in1 outer s H:=⟨e.frames,e.mod,e.bs,e.gK,e.df,e.ig,e.aF,e.bare⟩
section
variable {s':Xe}
def Inv.gq (I:Inv X aa σ H s):eh X.prog X.w X.K X.mg X.base X.A X.stack s H :=
 ⟨I.ok.frames,I.ok.mod,I.bs,Nat.le_trans I.ok.gK I.sz,I.stack,I.stkFree,I.aF,I.bare⟩
def Inv.after {Q:VK} (I:Inv X aa σ H s) (h:CE X.stack X.prog X.w H s Q u s'):EP X aa σ Q u s':=by
 obtain⟨v,H',os,bare,un,aF,r,q⟩:=h;obtain⟨hh,g,d,t,os'⟩:=s';obtain rfl:os'=s.os:=os;exact⟨v,H',I.call (h':=hh) (g':=g) (d':=d) (t':=t) (ch:=[]) un aF bare (λb z=>absurd z (by simp)),r,q⟩
end
def DI (sp:Sp) (d0:Xc) (E:XK) (t:TA):TE:=λσ H Q=>t σ H λvs H1=>sp (vs++d0) H1 Q E
inductive ExM (C:Xd) (m:Str) (x:V) (H:Hp) (k:Prop):Prop where
 |mk (a dx:Xd) (fs:List (Str×V)) (h1:x=.ref a) (h2:H a=some (.ins C dx fs)) (h3:fs.lookup m=none) (q:k):ExM C m x H k
def S5 (C:Xd) (m:Str) (sp:Sp) (d0:Xc) (E:XK) (ta:TE) (t:TA):TE:=λσ H Q=>ta σ H λx H1=>ExM C m x H1 (t σ H1 λvs H2=>sp (x::(vs++d0)) H2 Q E)
def S6 (C:Xd) (sp:Sp) (d0:Xc) (E:XK) (t:TA):TE:=λσ H Q=>t σ H λvs H1=>∀x dx,H1 x=none->H1 dx=none->dx≠x ->
 sp (.ref x::(vs++d0)) (upd (upd H1 dx (.own x)) x (.ins C dx [])) (λv H2=>v=.aI/\Q (.ref x) H2) E
def Binds (K:FG) (fd:FuncData) (ps:Xa) (ds:Xb):Prop :=
 ∀(s:Xe) (us:Xb),K.In s.heap->(us++ds).length=ps.length->BindsTo s fd ⟨us,[]⟩ (ps.zip (us++ds))
def Binds.all {fd:FuncData}{ps:Xa} (h:∀us:Xb,us.length=ps.length->bindArgs fd ⟨us,[]⟩=pure (ps.zip us)):Binds K fd ps []:=λs us _ hl=>by
 rw[Zu]at hl ⊢;exact .of_eq (h us hl)
def BN (CX:gL) (X:Cx) (E:XK):Prop:=∀(aa:LO) (σ:St) (H:Hp) (s:Xe) (e:Value) (s':Xe),Inv X aa σ H s->CX X.stack H s E e s'->X.xe e s'
section
variable {CX:gL}{k:Nat}{f:Xd}{fd:FuncData}{ps:Xa}{sp:Sp}{d0:Xc}{ds:Xb}{E:XK}{m:Str}{p apos:Pos}{o:Expr}{es:List Expr}{ta:TE}{t:TA}
def Jc {Q:VK}{vs:Xc} (F:AU X.prog X.w X.K X.mg X.base CX k f fd ps sp) (hr:aE k X.A) (hb:Binds X.K fd ps ds) (hd:Vals d0 ds) (hx:BN CX X E)
  (I:Inv X aa σ H s) (r:Vals vs us) (h:sp (vs++d0) H Q E):wpAny (model X.prog X.w) X.A (call (.ref f) us) (EP X aa σ Q) X.xe s:=by
 have r2:Vals (vs++d0) (us++ds):=r.append hd;have hl:(us++ds).length=ps.length:=by rw[←r2.length];exact F.len _ _ _ _ h
 refine wpAny_call (codeAny_mono (F.run X.A X.stack s H ⟨us,[]⟩ (us++ds) (vs++d0) Q E hr I.gq (hb s us I.cW hl) r2 h) λr s' hq=>?_);cases r with
 |error e=>exact hx aa σ H s e s' I hq
 |ok fl =>
  cases fl with
  |ret u=>exact I.after hq
  |next=>exact False.elim hq
  |brk=>exact False.elim hq
  |cont=>exact False.elim hq
def AM (F:AU X.prog X.w X.K X.mg X.base CX k f fd ps sp) (hr:aE k X.A) (hg:Gl X x) (hm:X.mg x=some (.ref f)) (hk:W.keepIn X.K (.ref f)=true) (hb:Binds X.K fd ps ds) (hd:Vals d0 ds) (hx:BN CX X E)
  (ha:PA X (e::es) t) (eI:(x==("__debug__" : Str))=false:=by decide) (he:starEach (e::es) X.env=(false,eval e X.env)::starEach es X.env:=by rfl) (hpl:(backTo pos (starEach es X.env)).any (·.1)=false:=by rfl) :
  PE X (.Call (.Name x p) (e::es) [] pos) (DI sp d0 E t):=by
 intro aa s σ H Q I h;refine Z2 (Bq I hg hm ?_ eI);refine W.callWith_K (h₀:=X.base) I.ok.mod.kin hk (aG (ha pos aa s σ H _ I h) λus s1 ⟨vs,H1,I1,r,q⟩=>⟨I1.cW,?_⟩) he hpl;exact Jc F hr hb hd hx I1 r q
def Cz {pl:Sem Bool} (he:PE X o ta) (c:iz X.K C) (hm:Ls X.K C m f) (F:AU X.prog X.w X.K X.mg X.base CX k f fd ps sp) (hr:aE k X.A) (hb:Binds X.K fd ps ds) (hd:Vals d0 ds) (hx:BN CX X E) (ha:PA X (e::es) t)
  (hst:starEach (e::es) X.env=(false,eval e X.env)::starEach es X.env:=by rfl) (hpl:(backTo pos (starEach es X.env)).any (·.1)=false:=by rfl)
  (ht:eval (.Call (.Attribute o m apos) (e::es) [] pos) X.env=(do
   let ov ←eval o X.env
   standAt apos.atName
   let (f,first) ←holding [ov] (getMethod ov m pl)
   callWith pos f first (backTo pos (starEach (e::es) X.env)) (backToKw pos (keywordEach [] X.env))):=by rfl) :
  PE X (.Call (.Attribute o m apos) (e::es) [] pos) (S5 C m sp d0 E ta t):=by
 intro aa s σ H Q I h;refine W.methodCall_KW (pl:=pl) (aG (he aa s σ H _ I h) λu s1 ⟨x,H1,I1,rx,a,dx,fs,ex,ea,l,q⟩=>?_) ht;subst ex;obtain rfl:u=Value.ref a:=rx;refine HK I1 ea c hm l ?_;refine W.callWith_K (first:=[.ref a]) (h₀:=X.base) I.ok.mod.kin hm.kp (aG (ha pos aa s1 σ H1 _ I1 q) λus s2 ⟨vs,H2,I2,r,q2⟩=>⟨I2.cW,?_⟩) hst hpl;exact Jc (us:=.ref a::us) (vs:=.ref a::vs) F hr hb hd hx I2 (.cons Zj r) q2
def Cb {pl:Sem Bool} (he:PE X o ta) (c:iz X.K C) (hm:Ls X.K C m f) (F:AU X.prog X.w X.K X.mg X.base CX k f fd ps sp) (hr:aE k X.A) (hb:Binds X.K fd ps ds) (hd:Vals d0 ds) (hx:BN CX X E)
  (ht:eval (.Call (.Attribute o m apos) [] [] pos) X.env=(do
   let ov ←eval o X.env
   standAt apos.atName
   let (f,first) ←holding [ov] (getMethod ov m pl)
   callWith pos f first (backTo pos (starEach [] X.env)) (backToKw pos (keywordEach [] X.env))):=by rfl) :
  PE X (.Call (.Attribute o m apos) [] [] pos) (S5 C m sp d0 E ta B3):=by
 intro aa s σ H Q I h;refine W.methodCall_KW (pl:=pl) (aG (he aa s σ H _ I h) λu s1 ⟨x,H1,I1,rx,a,dx,fs,ex,ea,l,q⟩=>?_) ht;subst ex;obtain rfl:u=Value.ref a:=rx;refine HK I1 ea c hm l ?_;exact W.callWith_K0 (first:=[.ref a]) I1.cW hm.kp (Jc (us:=[.ref a]) (vs:=[.ref a]) F hr hb hd hx I1 (.cons Zj .nil) q)
structure Mk (K:FG) (C f:Xd):Prop where
 makes:W.makesIn K C=true
 init:W.findIn K (.ref C) "__init__" = some (some (.ref f))
 fn:W.isFn K (.ref f)=true
 kp:W.keepIn K (.ref C)=true
def KM {Q:VK}{vs:Xc} (M:Mk X.K C f) (F:AU X.prog X.w X.K X.mg X.base CX k f fd ps sp) (hr:aE (k+1) X.A) (hb:Binds X.K fd ps ds) (hd:Vals d0 ds)
  (hx:BN CX X E) (I:Inv X aa σ H s) (r:Vals vs us)
  (h:∀x dx,H x=none->H dx=none->dx≠x->sp (.ref x::(vs++d0)) (upd (upd H dx (.own x)) x (.ins C dx [])) (λv H2=>v=.aI/\Q (.ref x) H2) E) :
  wpAny (model X.prog X.w) X.A (call (.ref C) us) (EP X aa σ Q) X.xe s:=by
 have hq:=h (s.heap.objs.size+1) s.heap.objs.size (I.aF.fresh (Nat.le_succ _)) (I.aF.fresh (Zz _)) (ZD (Nat.lt_succ_self _));have I2:=Inv.made (C:=C) I;have r2:Vals (V.ref (s.heap.objs.size+1)::(vs++d0)) (Value.ref (s.heap.objs.size+1)::(us++ds)):=.cons rfl (r.append hd)
 have hl:(Value.ref (s.heap.objs.size+1)::us++ds).length=ps.length:=by
  have e:=r2.length;rw[F.len _ _ _ _ hq]at e;exact e.symm
 refine wpAny_call (KL (f:=f) I.cW M.makes M.init (beq_iff_eq.mp M.fn) (codeAny_mono (F.run _ X.stack _ _ ⟨Value.ref (s.heap.objs.size+1)::us,[]⟩ (Value.ref (s.heap.objs.size+1)::(us++ds)) _ _ E (hr.make C us [])
  (I2.gq.make C us []) (hb _ (Value.ref (s.heap.objs.size+1)::us) I2.cW hl) r2 hq) λr s' fv=>?_))
 cases r with
 |error e=>exact hx aa σ _ _ e s' I2 fv
 |ok fl =>
  cases fl with
  |ret u =>
   obtain⟨v,H',I3,rv,ev,q3⟩:=I2.after fv;subst ev;exact⟨rv,⟨V.ref (s.heap.objs.size+1),H',I3,Zj,q3⟩⟩
  |next=>exact False.elim fv
  |brk=>exact False.elim fv
  |cont=>exact False.elim fv
def RM (M:Mk X.K C f) (F:AU X.prog X.w X.K X.mg X.base CX k f fd ps sp) (hr:aE (k+1) X.A) (hg:Gl X x) (hm:X.mg x=some (.ref C)) (hb:Binds X.K fd ps ds) (hd:Vals d0 ds) (hx:BN CX X E)
  (ha:PA X (e::es) t) (eI:(x==("__debug__" : Str))=false:=by decide) (he:starEach (e::es) X.env=(false,eval e X.env)::starEach es X.env:=by rfl) (hpl:(backTo pos (starEach es X.env)).any (·.1)=false:=by rfl) :
  PE X (.Call (.Name x p) (e::es) [] pos) (S6 C sp d0 E t):=by
 intro aa s σ H Q I h;refine Z2 (Bq I hg hm ?_ eI);refine W.callWith_K (h₀:=X.base) I.ok.mod.kin M.kp (aG (ha pos aa s σ H _ I h) λus s1 ⟨vs,H1,I1,r,q⟩=>⟨I1.cW,?_⟩) he hpl;exact KM M F hr hb hd hx I1 r q
def Pa (M:Mk X.K C f) (F:AU X.prog X.w X.K X.mg X.base CX k f fd ps sp) (hr:aE (k+1) X.A) (hg:Gl X x) (hm:X.mg x=some (.ref C)) (hb:Binds X.K fd ps ds) (hd:Vals d0 ds) (hx:BN CX X E)
  (eI:(x==("__debug__" : Str))=false:=by decide):PE X (.Call (.Name x p) [] [] pos) (S6 C sp d0 E B3):=by
 intro aa s σ H Q I h;refine Z2 (Bq I hg hm ?_ eI);exact W.callWith_K0 I.cW M.kp (KM (us:=[]) M F hr hb hd hx I .nil h)
end
def PK (X:Cx) (gY:List Keyword) (t:TA):Prop :=
 ∀(pos:Pos) (aa:LO) (s:Xe) (σ:St) (H:Hp) (Q:Xc->Hp->Prop),Inv X aa σ H s->t σ H Q->wpAny (model X.prog X.w) X.A (evalAll ((backToKw pos (keywordEach gY X.env)).map (·.2))) (AP X aa σ Q) X.xe s
section
variable {CX:gL}{k:Nat}{f:Xd}{fd:FuncData}{ps ks:Xa}{sp:Sp}{E:XK}{m:Str}{p apos kpos:Pos}{o:Expr}{es:List Expr}{gY:List Keyword}{ta:TE}{t tk:TA}{nm:Option Str}
def Ly:PK X [] B3:=λ_ _ _ _ H Q I h=>wpAny_evalAll_nil ⟨[],H,I,.nil,h⟩
def Jd (ha:PE X e te) (hr:PK X gY t):PK X (⟨nm,e,kpos⟩::gY) (Ab te t):=by
 intro pos aa s σ H Q I h;show wpAny _ _ (evalAll ((do let v ←eval e X.env;standAt pos;pure v)::(backToKw pos (keywordEach gY X.env)).map (·.2))) _ _ s;refine wpAny_evalAll_cons (Zy (aG (ha aa s σ H _ I h) λu s1 ⟨x,H1,I1,r1,q1⟩=>Zy (ZK (Zx ?_))));exact aG (hr pos aa s1 σ H1 _ I1 q1) λus s2 ⟨xs,H2,I2,r2,q2⟩=>⟨x::xs,H2,I2,.cons r1 r2,q2⟩
structure Ek (K:FG) (fd:FuncData) (ps ks:Xa) (g:Xb->Xb->Xb) (gV:Xc->Xc->Xc):Prop where
 to:∀(s:Xe) (us ws:Xb),K.In s.heap->(g us ws).length=ps.length->BindsTo s fd ⟨us,ks.zip ws⟩ (ps.zip (g us ws))
 rel:∀ {vs:Xc}{us:Xb}{zs:Xc}{ws:Xb},Vals vs us->Vals zs ws->Vals (gV vs zs) (g us ws)
def Tu (sp:Sp) (gV:Xc->Xc->Xc) (E:XK) (t tk:TA):TE:=λσ H Q=>t σ H λvs H1=>tk σ H1 λzs H2=>sp (gV vs zs) H2 Q E
variable {g:Xb->Xb->Xb}{gV:Xc->Xc->Xc}
def RP {Q:VK}{ws:Xb}{vs zs:Xc} (F:AU X.prog X.w X.K X.mg X.base CX k f fd ps sp) (hr:aE k X.A) (hb:Ek X.K fd ps ks g gV) (hx:BN CX X E)
  (I:Inv X aa σ H s) (r:Vals vs us) (rz:Vals zs ws) (h:sp (gV vs zs) H Q E):wpAny (model X.prog X.w) X.A (call (.ref f) us (ks.zip ws)) (EP X aa σ Q) X.xe s:=by
 have r2:=hb.rel r rz;have hl:(g us ws).length=ps.length:=by rw[←r2.length];exact F.len _ _ _ _ h
 refine wpAny_call (codeAny_mono (F.run X.A X.stack s H ⟨us,ks.zip ws⟩ (g us ws) (gV vs zs) Q E hr I.gq (hb.to s us ws I.cW hl) r2 h) λr s' hq=>?_);cases r with
 |error e=>exact hx aa σ H s e s' I hq
 |ok fl =>
  cases fl with
  |ret u=>exact I.after hq
  |next=>exact False.elim hq
  |brk=>exact False.elim hq
  |cont=>exact False.elim hq
def Pb (F:AU X.prog X.w X.K X.mg X.base CX k f fd ps sp) (hr:aE k X.A) (hg:Gl X x) (hm:X.mg x=some (.ref f)) (hk:W.keepIn X.K (.ref f)=true) (hb:Ek X.K fd ps ks g gV) (hx:BN CX X E)
  (ha:PA X (e::es) t) (jr:PK X gY tk) (bf:(backToKw pos (keywordEach gY X.env)).all (·.1.isSome)=true:=by rfl) (hks:(backToKw pos (keywordEach gY X.env)).filterMap (·.1)=ks:=by rfl)
  (eI:(x==("__debug__" : Str))=false:=by decide) (he:starEach (e::es) X.env=(false,eval e X.env)::starEach es X.env:=by rfl)
  (hpl:((backTo pos (starEach (e::es) X.env)).any (·.1)||(backToKw pos (keywordEach gY X.env)).any (·.1.isNone))=false:=by rfl) :
  PE X (.Call (.Name x p) (e::es) gY pos) (Tu sp gV E t tk):=by
 intro aa s σ H Q I h;refine Z2 (Bq I hg hm ?_ eI);refine W.callWith_KW (h₀:=X.base) I.ok.mod.kin hk bf (aG (ha pos aa s σ H _ I h) λus s1 ⟨vs,H1,I1,r,q⟩=>?_) hpl he;refine aG (jr pos aa s1 σ H1 _ I1 q) λws s2 ⟨zs,H2,I2,rz,q2⟩=>⟨I2.cW,?_⟩;rw[hks];exact RP F hr hb hx I2 r rz q2
end
structure AN (N P:Xa) (sc:Scope):Prop where
 kind:sc.kind=.function
 co:sc.isCoroutine=false
 gen:sc.isGenerator=false
 nd:N.Nodup
 pre:N.take P.length=P
 par:∀x∈P,sc.names.lookup x=some .local\/sc.names.lookup x=some .cell
 nofree:∀y∈sc.names,y.2≠ .free
def cQ {N P:Xa}{sc:Scope} (a:sc.kind=.function:=by exact rfl) (b:sc.isCoroutine=false:=by exact rfl) (c:sc.isGenerator=false:=by exact rfl) (d:N.Nodup:=by decide +kernel) (e:N.take P.length=P:=by exact rfl) (f:∀x∈P,sc.names.lookup x=some .local\/sc.names.lookup x=some .cell:=by decide +kernel) (g:∀y∈sc.names,y.2≠ .free:=by decide +kernel):AN N P sc:=⟨a,b,c,d,e,f,g⟩
def Ij {kindOf:Str->Option NameKind}{x:Str}:∀ {binds:List (Str×Value)}{m:SV},(∀v,(x,v)∉ binds)->bindL kindOf binds m x=m x
  | [],_,_=>rfl
  | (n,v)::r,m,h=>by
    unfold bindL;rw[Ij λw hw=>h w (ZR _ hw)];split
    · have:x≠n:=by rintro rfl;exact h v ZJ
      simp[this]
    · rfl
def Ik {kindOf:Str->Option NameKind}{x:Str}:∀ {binds:List (Str×Value)}{m:SV},(∀v,(x,v)∉ binds)->bindC kindOf binds m x=m x
  | [],_,_=>rfl
  | (n,v)::r,m,h=>by
    unfold bindC;rw[Ik λw hw=>h w (ZR _ hw)];split
    · rfl
    · have:x≠n:=by rintro rfl;exact h v ZJ
      simp[this]
def Il {kindOf:Str->Option NameKind}{x:Str}{v:Value}:∀ {P:Xa}{vs:Xb}{i:Nat}{m:SV},P.Nodup->P[i]?=some x->vs[i]?=some v->kindOf x=some .local ->
  bindL kindOf (P.zip vs) m x=some v
 | [],_,_,_,_,h,_,_=>by simp at h
 |_::_,[],_,_,_,_,h,_=>by simp at h
 |p::P,w::vs,0,m,nd,h1,h2,hk=>by
  simp at h1 h2;subst h1;subst h2;show bindL kindOf ((p,w)::P.zip vs) m p=_;unfold bindL;rw[Ij λv hv=>(Zt.mp nd).1 (of_mem_zip hv).1,Zq hk];simp
 |p::P,w::vs,i+1,m,nd,h1,h2,hk=>by
  show bindL kindOf ((p,w)::P.zip vs) m x=_;unfold bindL;exact Il (i:=i) (Zt.mp nd).2 (by simpa using h1) (by simpa using h2) hk
def Im {kindOf:Str->Option NameKind}{x:Str}{v:Value}:∀ {P:Xa}{vs:Xb}{i:Nat}{m:SV},P.Nodup->P[i]?=some x->vs[i]?=some v->kindOf x≠some .local ->
  bindC kindOf (P.zip vs) m x=some v
 | [],_,_,_,_,h,_,_=>by simp at h
 |_::_,[],_,_,_,_,h,_=>by simp at h
 |p::P,w::vs,0,m,nd,h1,h2,hk=>by
  simp at h1 h2;subst h1;subst h2;show bindC kindOf ((p,w)::P.zip vs) m p=_;unfold bindC;rw[Ik λv hv=>(Zt.mp nd).1 (of_mem_zip hv).1,Zr hk];simp
 |p::P,w::vs,i+1,m,nd,h1,h2,hk=>by
  show bindC kindOf ((p,w)::P.zip vs) m x=_;unfold bindC;exact Im (i:=i) (Zt.mp nd).2 (by simpa using h1) (by simpa using h2) hk
noncomputable def Bw (N:Xa) (vs:Xc):St:=vs.map some++List.replicate (N.length - vs.length) none
noncomputable def Ao (CX:gL) (P:Program) (w:World) (K:FG) (mg:SV) (base:Heap) (N:Xa) (qual:Str) (scope:Scope) (f:Xd) (cd:Value) (A:Around) (outer:List Env) (s:Xe) (H:Hp) (E:XK):Cx where
 prog:=P
 w:=w
 K:=K
 mg:=mg
 base:=base
 A:=A.deeper (envOfC qual scope s.heap.objs.size f cd)
 N:=N
 aX:=s
 eV:=H
 env:=envOfC qual scope s.heap.objs.size f cd
 outer:=outer
 stack:=envOfC qual scope s.heap.objs.size f cd::outer
 ex:=[]
 calm:=true
 fn:=λ_=>true
 pn:=[]
 xe:=λe s'=>wpAny (model P w) (A.deeper (envOfC qual scope s.heap.objs.size f cd)) (leaving (envOfC qual scope s.heap.objs.size f cd) e) (λ_ s''=>CX outer H s E e s'') (λe' s''=>CX outer H s E e' s'') s'
def KN {sc:Scope}{n:Nat} (h:sc.names.lookup x=some .cell):∃c,(cellsFrom n sc.names []).lookup x=some c:=by
 have q:=W.cellsFrom_some sc.names n [] (.inl h);exact Option.isSome_iff_exists.mp q
def Fy {CX:gL}{ps:Xa}{qual:Str}{scope:Scope}{f:Xd}{cd:Value}{outer:List Env}{s1:Xe}{E:XK}{vs:Xc}
  (S:AN N ps scope) (hd:A.handled=none) (e0:eh P w K mg base A outer s H) (hl:vs.length=ps.length) (r:Vals vs us)
  (x:InCallC s s.heap.objs.size (bindL (envOfC qual scope s.heap.objs.size f cd).kindOf (ps.zip us) λ_=>none) (cellsFrom (s.heap.objs.size+1) scope.names []) (bindC (envOfC qual scope s.heap.objs.size f cd).kindOf (ps.zip us) λ_=>none) s1) :
  Inv (Ao CX P w K mg base N qual scope f cd A outer s H E) [] (Bw N vs) H s1:=by
 have hpl:ps.length<=N.length:=by have:=congrArg List.length S.pre;rw[ZB]at this;omega
 obtain⟨h1,tk,rfl,hk⟩:=x.done;have jl:∀b:Xd,b∉ (Ao CX P w K mg base N qual scope f cd A outer s H E).ex:=λb z=>absurd (show b∈([]:List Xd)from z) (by simp)
 refine⟨⟨e0.mod,S.kind,Zj,Zj,Zz _,λy z c h1 h2=>?_,λy hy=>?_,λy c _ h=>?_,λ_=>hd,Around.frames_deeper e0.frames,.inr ⟨Zj,Zj⟩,λb z=>absurd z (jl b),e0.bs,e0.gK,λb _ _=>jl b,λb z=>absurd z (jl b),e0.df,e0.ig⟩,
  rfl,e0.bare,Un.kept hk,⟨_,x.toInCall.ns,λi y v h1 h2 h3=>?_⟩,λy c h=>⟨_,x.cell y c h⟩,e0.aF.fresh (Zz _),λy c h=>?_,λp hp=>absurd (show p∈([]:LO)from hp) (by simp),e0.aF.kept hk,?_⟩
 ·exact name_of_addr x.apart (PySem.mem_of_lookup h1) (PySem.mem_of_lookup h2)
 ·have hy:scope.names.lookup y=some .cell\/scope.names.lookup y=some .free:=hy;rcases hy with hy |hy
  ·exact KN hy
  ·exact absurd Zj (S.nofree _ (PySem.mem_of_lookup hy))
 ·exact Nat.le_of_lt (x.above y c (PySem.mem_of_lookup h))
 ·have hi:i<vs.length:=by
   unfold Bw at h2;by_cases hi:i<vs.length
   ·exact hi
   ·rw[getElem?_append_right (by simpa using hi)]at h2;rw[List.getElem?_replicate]at h2;split at h2 <;> cases h2
  have ha:vs[i]?=some v:=by
   unfold Bw at h2;rw[List.getElem?_append_left (by simpa using hi),ZF]at h2;cases e:vs[i]? with
   |none=>rw[e]at h2;cases h2
   |some a=>rw[e]at h2;cases h2;rfl
  obtain⟨u,hu,rv⟩:=r.get ha
  have hp:ps[i]?=some y:=by
   rw[←S.pre,List.getElem?_take_of_lt qe];exact h1
  have ndP:ps.Nodup:=by rw[←S.pre];exact S.nd.sublist (List.take_sublist _ _)
  refine⟨u,rv,?_⟩;rcases S.par y (Z4 hp)with k |k
  ·exact .inl ⟨k,Il ndP hp hu k⟩
  ·obtain⟨c,e⟩:=KN (n:=s.heap.objs.size+1) k;refine .inr ⟨.inl k,c,e,?_⟩;have q:=x.cell y c e;rw[Im ndP hp hu (by show scope.names.lookup y≠_;rw[k];decide)]at q;exact q
 ·exact e0.aF.fresh (Nat.le_of_lt (x.above y c (PySem.mem_of_lookup h)))
 ·unfold Bw;show _=N.length;rw[ZI,AS,List.length_replicate];omega
def NU {CX:gL}{k:Nat}{f:Xd}{name qual:Str}{params:Arguments}{body:List Stmt}{scope:Scope}{dV kV doc pm ad ct oc:Value}{an od:Option Xd}
  {gB:Array (Option Value)}{N ps:Xa}{sp:Sp} (lk:K.lookup f=some ⟨oc,od,.func (W.fnOf name qual params body scope dV kV doc pm an ad ct),gB⟩) (fh:W.codeIn K ad qual=true) (S:AN N ps scope)
  (len:∀vs H Q E,sp vs H Q E->vs.length=ps.length)
  (bg:∀(A:Around) (outer:List Env) (s:Xe) (H:Hp) (vs:Xc) (Q:VK) (E:XK),aE k (A.deeper (envOfC qual scope s.heap.objs.size f ad))->sp vs H Q E ->
   ∃t,eE (Ao CX P w K mg base N qual scope f ad A outer s H E) body t/\t { nx:=λ_ H'=>Q .aI H',rt:=Q } (Bw N vs) H) :
  AU P w K mg base CX (k+1) f (W.fnOf name qual params body scope dV kV doc pm an ad ct) ps sp:=by
 refine⟨len,λA outer s H args us vs Q E hr e0 hb r gP=>?_⟩;have hl:=len _ _ _ _ gP;have KX:K.In s.heap:=e0.mod.kin.keeps λb o e=>(e0.bs b o e).1;have lim:s.heap.NoLimit:=e0.mod.nolimit.keeps λb o e=>(e0.bs b o e).1
 have hkind:∀y∈ps.zip us,scope.names.lookup y.1=some .local\/(scope.names.lookup y.1=some .cell/\((cellsFrom (s.heap.objs.size+1) scope.names []).lookup y.1).isSome=true):=λ⟨n,v⟩ hy=>by
  rcases S.par n (of_mem_zip hy).1 with q |q
  ·exact .inl q
  ·exact .inr ⟨q,W.cellsFrom_some _ _ _ (.inl q)⟩
 refine codeAny_call_function hr.depth (KX _ _ lk) Zj S.co S.gen Zj (W.codeRec_of KX fh) (hb _ _ _ _ ?_);refine wpAny_newFunctionEnv_cells S.kind hkind λenv he s1 x=>?_;subst he;refine⟨lim.keeps x.toInCall.keep,codeAny_func ?_⟩;obtain⟨t,ht,hq⟩:=bg A outer s H vs Q E (hr.deeper _) gP;have I:Inv (Ao CX P w K mg base N qual scope f ad A outer s H E) [] (Bw N vs) H s1:=Fy S hr.hd e0 hl r x;refine Zw (ht [] s1 (Bw N vs) H _ I hq) (λfl s' hs=>?_) λe s' hs=>hs
 have fin:∀ {aJ:St}{H':Hp}{v:V}{u:Value},Inv (Ao CX P w K mg base N qual scope f ad A outer s H E) [] aJ H' s'->RelV v u->Q v H'->CE outer P w H s Q u s' :=
  λ{aJ H' v u} J rv q=>⟨v,H',J.os,J.bare,J.base,J.aF,rv,q⟩
 cases fl with
 |ret u =>
  obtain⟨v,aJ,H',J,rv,q⟩:=hs;exact fin J rv q
 |next =>
  obtain⟨aJ,H',J,q⟩:=hs;exact fin (v:=V.aI) (u:=Value.none) J Zj q
 |brk =>
  obtain⟨_,_,_,q⟩:=hs;exact False.elim q
 |cont =>
  obtain⟨_,_,_,q⟩:=hs;exact False.elim q
section
variable {p:Pos}{es:List Expr}{t:TA}{id T:String}{r:Xc->Hp->VK->Prop}
def tCB (r:Xc->Hp->VK->Prop) (t:TA):TE:=λσ H Q=>t σ H λvs H1=>r vs H1 Q
def AW (hc:bQ X (.builtin id) r) (hg:Gl X x) (hm:X.mg x=none) (hv:bootBuiltins x=some (.builtin id)) (ha:PA X (e::es) t) (hn:x≠ "__name__" := by decide) (eI:(x==("__debug__" : Str))=false:=by decide)
  (he:starEach (e::es) X.env=(false,eval e X.env)::starEach es X.env:=by rfl) (hpl:(backTo pos (starEach es X.env)).any (·.1)=false:=by rfl):PE X (.Call (.Name x p) (e::es) [] pos) (tCB r t):=by
 intro aa s σ H Q I h;refine Z2 (Du I hg hm hv ?_ hn eI);exact PyProof.Rows.callWith_builtin1 (aG (ha pos aa s σ H _ I h) λus s1 ⟨vs,H1,I1,r1,q1⟩=>hc aa s1 σ H1 vs us Q I1 r1 q1) he hpl
def BU (hc:bQ X (.type T) r) (hg:Gl X x) (hm:X.mg x=none) (hv:bootBuiltins x=some (.type T)) (ha:PA X (e::es) t) (hn:x≠ "__name__" := by decide) (eI:(x==("__debug__" : Str))=false:=by decide)
  (he:starEach (e::es) X.env=(false,eval e X.env)::starEach es X.env:=by rfl) (hpl:(backTo pos (starEach es X.env)).any (·.1)=false:=by rfl):PE X (.Call (.Name x p) (e::es) [] pos) (tCB r t):=by
 intro aa s σ H Q I h;refine Z2 (Du I hg hm hv ?_ hn eI);exact PyProof.Rows.callWith_type1 (aG (ha pos aa s σ H _ I h) λus s1 ⟨vs,H1,I1,r1,q1⟩=>hc aa s1 σ H1 vs us Q I1 r1 q1) he hpl
end
end L2
namespace HT
open PySem PyProof.Rows
section
variable {prog:Program}
def cat_tup {t b:Xd}{vs ws:Xb}{Q:VS} (ht:IsTup s.heap t vs.toArray) (hb:IsTup s.heap b ws.toArray) (hv:vs≠ [])
  (h1:ws=[]->Q (.ref t) s) (h2:ws≠ []->Q (.ref s.heap.objs.size) { s with heap:=s.heap.push { cls:=.type "tuple", data:=.seq (vs++ws).toArray } })
  (hsz:vs.length+ws.length<=sizeLine):wpAny (model prog w) A (binaryOp .Add (.ref t) (.ref b)) Q E s:=by
 obtain⟨⟨cls,dd,data,sl⟩,ho,hc,n,hd⟩:=id ht;obtain⟨⟨cls2,dd2,data2,fc⟩,ho2,jM,n2,hd2⟩:=id hb;simp only at hc hd jM hd2;subst hc hd jM hd2;have e:vs.toArray++ws.toArray=(vs++ws).toArray:=by simp
 by_cases hw:ws=[]
 ·exact concat_meets ⟨_,ho,Zj⟩ ⟨_,ho2,Zj⟩ noFill_tuple_add seq_tuple_add PySem.F.slot_tuple_add PySem.F.entry_tuple_add (PySem.F.args_tuple_add_2 _ _)
   (tuple_addW1 t b vs.toArray ws.toArray n n2 dd dd2 sl fc (by simpa using hv) (by simp[hw])) ⟨ho,ho2,h1 hw⟩
 ·refine concat_meets ⟨_,ho,Zj⟩ ⟨_,ho2,Zj⟩ noFill_tuple_add seq_tuple_add PySem.F.slot_tuple_add PySem.F.entry_tuple_add (PySem.F.args_tuple_add_2 _ _)
   (tuple_addW2 t b vs.toArray ws.toArray n n2 dd dd2 sl fc (by simpa using hv) (by simpa using hw) (by rw[size_toArray,size_toArray];exact hsz)) ⟨ho,ho2,?_⟩
  rw[e];exact h2 hw
end
end HT
namespace L2
open PySem PySem.Spec PyProof.Rows
abbrev TO:=St->Hp->(Option Int->Hp->Prop)->Prop
def PO (X:Cx) (e:Option Expr) (t:TO):Prop :=
 ∀(aa:LO) (s:Xe) (σ:St) (H:Hp) (Q:Option Int->Hp->Prop),Inv X aa σ H s->t σ H Q ->
  wpAny (model X.prog X.w) X.A (evalPart e X.env) (λu s'=>∃o H',Inv X aa σ H' s'/\IsPart u o/\Q o H') X.xe s
def RS:TO:=λ_ H Q=>Q none H
def VM (t:TE):TO:=λσ H Q=>t σ H λx H1=>∃i,x=.int i/\Q (some i) H1
def El {ns:List Int}:∀ {us:Xb},Vals (ns.map V.int) us->IntsAre us ns:=by
 induction ns with
 |nil=>intro us r;rw[map_nil]at r;cases r;exact .nil
 |cons n ns ih =>
  intro us r;rw[map_cons]at r;cases r with
  |cons r1 r2 =>
   obtain⟨t,e⟩:=r1;subst e;exact .cons n t (ih r2)
section
variable {lo hi:Option Expr}{tl th:TO}{p2:Pos}
def Je:PO X none RS:=by
 intro aa s σ H Q I h;rw[evalPart_none];exact Zx ⟨none,H,I,.none,h⟩
def Ck (h:PE X e te):PO X (some e) (VM te):=by
 intro aa s σ H Q I hw;rw[evalPart_some];refine aG (h aa s σ H _ I hw) λu s1 ⟨x,H1,I1,r1,q1⟩=>?_;obtain⟨i,rfl,q⟩:=q1;obtain⟨t,rfl⟩:=r1;exact⟨some i,H1,I1,.int i t,q⟩
def SlR (X:Cx) (r:V->Option Int->Option Int->Hp->VK->Prop):Prop :=
 ∀(aa:LO) (s:Xe) (σ:St) (H:Hp) (x:V) (v vl vu:Value) (lo hi:Option Int) (sl:Xd) (Q:VK),Inv X aa σ H s->RelV x v->s.heap.IsSliceOf sl vl vu .none->IsPart vl lo->IsPart vu hi->r x lo hi H Q ->
  ∃T id,typeLookup (.type T) "__getitem__" = pure (some (.builtin id))/\s.TypeIs v T/\wpAny (model X.prog X.w) X.A (getItem v (.ref sl)) (EP X aa σ Q) X.xe s
def tSl (r:V->Option Int->Option Int->Hp->VK->Prop) (te:TE) (tl th:TO):TE:=λσ H Q=>te σ H λx H1=>tl σ H1 λl H2=>th σ H2 λu H3=>r x l u H3 Q
def DJ {r:V->Option Int->Option Int->Hp->VK->Prop} (hr:SlR X r) (he:PE X e te) (hl:PO X lo tl) (hu:PO X hi th):PE X (.Subscript e (.Slice lo hi none p2) pos) (tSl r te tl th):=by
 intro aa s σ H Q I h;refine Subscript_ (aG (he aa s σ H _ I h) λv s1 ⟨x,H1,I1,r1,q1⟩=>?_);refine wpAny_Slice (aG (hl aa s1 σ H1 _ I1 q1) λvl s2 ⟨l,H2,I2,pl,q2⟩=>aG (hu aa s2 σ H2 _ I2 q2) λvu s3 ⟨u,H3,I3,pu,q3⟩=>?_);rw[evalPart_none];refine Zx ?_;have I4:Inv X aa σ H3 { s3 with heap:=s3.heap.push { cls:=.type "slice", data:=.fields #[vl,vu,.none] } }:=I3.kept (t':=s3.toks) λb ob q=>ZW _ q;obtain⟨T,id,hT,ht,hg⟩:=hr aa { s3 with heap:=s3.heap.push { cls:=.type "slice", data:=.fields #[vl,vu,.none] } } σ H3 x v vl vu l u s3.heap.objs.size Q I4 r1 (Heap.IsSliceOf.new ..) pl pu q3;show wpAny (model X.prog X.w) X.A (subscriptTail e (.Slice lo hi none p2) v (.ref s3.heap.objs.size)) (EP X aa σ Q) X.xe { s3 with heap:=s3.heap.push { cls:=.type "slice", data:=.fields #[vl,vu,.none] } };exact tail_any (ops:=[.ref s3.heap.objs.size,v]) ht hT hg (by with_unfolding_all rfl)
def NV (K:FG):R2:=λx y H Q=>∃a b xs ys,x=.ref a/\y=.ref b/\bH K H a xs/\bH K H b ys/\xs≠ []/\xs.length+ys.length<=sizeLine /\
 (ys=[]->Q (.ref a) H)/\(ys≠ []->∀p,H p=none->Q (.ref p) (upd H p (.tup (xs++ys))))
def Vals.nil_iff (r:Vals xs us):us=[] ↔ xs=[]:=by
 cases r with
 |nil=>simp
 |cons _ _=>simp
def RT:cV X (binaryOp .Add) (NV X.K):=by
 intro aa s σ H x y v u Q I rx ry h;obtain⟨a,b,xs,ys,rfl,rfl,ha,hb,hx,hz,q1,q2⟩:=h;cases rx;cases ry;obtain⟨its,r1,p1,_⟩:=I.tuple ha;obtain⟨its2,r2,p2,_⟩:=I.tuple hb;refine HT.cat_tup p1 p2 (λz=>hx (r1.nil_iff.mp z)) (λz=>⟨.ref a,H,I,Zj,q1 (r2.nil_iff.mp z)⟩) (λz=>?_) (by rw[←r1.length,←r2.length];exact hz);refine⟨.ref s.heap.objs.size,_,I.laid (t':=s.toks) (o:=.tup (xs++ys)) (λb ob q=>ZW _ q) (Zz _) ?_,Zj,q2 (λw=>z (r2.nil_iff.mpr w)) _ (I.aF.fresh (Zz _))⟩;exact⟨by rw[ZI];exact hz,_,r1.append r2,IsTup.new _ _⟩
end
noncomputable def ib (n:Nat) (i:Int):Option Nat:=if 0<=i then (if i<n then some i.toNat else none)else if -(n:Int)<=i then some (i+n).toNat else none
noncomputable def gT {α:Type} (xs:List α) (i:Int):Option α:=(ib xs.length i).bind λj=>xs[j]?
def NX {n:Nat}{i:Int}{j:Nat} (h:ib n i=some j):seqIndex? i n=some j/\j<n/\-(n:Int)<=i/\i<n:=by
 unfold ib at h;by_cases h0:0<=i
 ·rw[Zq h0]at h;by_cases h1:i<n
  ·rw[Zq h1]at h;have e:i.toNat=j:=Option.some.inj h;exact⟨by rw[seqIndex_of h0 h1,e],qe,qe,h1⟩
  ·rw[Zr h1]at h;cases h
 ·rw[Zr h0]at h;by_cases h1:-(n:Int)<=i
  ·rw[Zq h1]at h;have e:(i+n).toNat=j:=Option.some.inj h;exact⟨by rw[seqIndex_neg qe h1,e],qe,h1,qe⟩
  ·rw[Zr h1]at h;cases h
def Jf {α:Type}{xs:List α}{i:Int}{v:α} (h:gT xs i=some v):∃j,seqIndex? i xs.length=some j/\xs[j]?=some v/\j<xs.length/\-(xs.length:Int)<=i/\i<xs.length:=by
 unfold gT at h;cases e:ib xs.length i with
 |none=>rw[e]at h;cases h
 |some j =>
  rw[e]at h;obtain⟨h1,h2,h3,h4⟩:=NX e;exact⟨j,h1,h,h2,h3,h4⟩
def BO {α:Type}{xs:List α}{j:Nat}{v:α} (h:xs[j]?=some v):gT xs (j:Int)=some v:=by
 have hj:j<xs.length:=(Z8.mp h).1
 have e:ib xs.length (j:Int)=some j:=by
  unfold ib;rw[Zq qe,Zq qe];simp
 unfold gT;rw[e];exact h
def NY (b:Expr):Prop:=∀o i,subscripted b false o i=operate [o,i] (getItem o i)
def IxR (X:Cx) (r:R2):Prop :=
 ∀(value slice:Expr) (aa:LO) (s:Xe) (σ:St) (H:Hp) (x y:V) (v u:Value) (Q:VK),Inv X aa σ H s->RelV x v->RelV y u->r x y H Q ->
  subscripted slice false v u=operate [v,u] (getItem v u)->wpAny (model X.prog X.w) X.A (subscriptTail value slice v u) (EP X aa σ Q) X.xe s
def MtR (X:Cx) (id:String) (r:V->Xc->Hp->VK->Prop):Prop :=
 ∀(aa:LO) (s:Xe) (σ:St) (H:Hp) (x:V) (xs:Xc) (v:Value) (us:Xb) (Q:VK),Inv X aa σ H s->RelV x v->Vals xs us->r x xs H Q ->
  wpAny (model X.prog X.w) X.A (call (.builtin id) (v::us)) (EP X aa σ Q) X.xe s
section
variable {a b:Expr}{ta tb:TE}
def BJ {r:R2} (hr:IxR X r) (ha:PE X a ta) (hb:PE X b tb) (hs:NY b):PE X (.Subscript a b pos) (jE r ta tb):=by
 intro aa s σ H Q I h;exact Subscript_ (Tn ha hb I h λv u s2 x y H2 I2 rx ry q=>hr a b aa s2 σ H2 x y v u Q I2 rx ry q (hs _ _))
inductive ExrIxL (K:FG) (x y:V) (H:Hp) (k:V->Prop):Prop where
 |mk (p:Xd) (xs:Xc) (i:Int) (v:V) (h1:x=.ref p) (h2:y=.int i) (h3:aN K H p xs) (h4:gT xs i=some v) (q:k v):ExrIxL K x y H k
def VN (K:FG):R2:=λx y H Q=>ExrIxL K x y H λv=>Q v H
inductive ExrIxT (K:FG) (x y:V) (H:Hp) (k:V->Prop):Prop where
 |mk (p:Xd) (xs:Xc) (i:Int) (v:V) (h1:x=.ref p) (h2:y=.int i) (h3:bH K H p xs) (h4:gT xs i=some v) (q:k v):ExrIxT K x y H k
def VP (K:FG):R2:=λx y H Q=>ExrIxT K x y H λv=>Q v H
def Wk:R2:=λx y H Q=>∃z i c,x=.str z/\y=.int i/\z.length<=sizeLine/\gT z.cps.toList i=some c/\Q (.str ⟨#[c]⟩) H
def RU:IxR X (VN X.K):=by
 intro value slice aa s σ H x y v u Q I rx ry h hs;obtain⟨p,xs,i,z,rfl,rfl,hq,he,q⟩:=h;cases rx;obtain⟨t,rfl⟩:=ry;obtain⟨its,r,pl,hz⟩:=I.list hq;obtain⟨j,h1,h2,h3,h4,h5⟩:=Jf he;obtain⟨w,ew,il⟩:=r.get h2;have hl:=r.length;have hn:=Fv;have fin:EP X aa σ Q w s:=⟨z,H,I,il,q⟩;by_cases h0:0<=i
 ·have hj:i.toNat=j:=by
   rw[seqIndex_of h0 h5]at h1;exact Option.some.inj h1
  exact item_listR pl.isList h0 qe (by rw[hj];simpa using ew) fin hs
 ·have hj:(i+(its.toArray.size:Int)).toNat=j:=by
   rw[seqIndex_neg qe h4]at h1;rw[size_toArray,←hl];exact Option.some.inj h1
  exact subscriptTail_builtinR (x:=w) pl.isList.typeIs slot_list_getitem.lookup
   (wpAny_getItem_list_neg (Q:=λr s'=>r=w/\EP X aa σ Q r s') pl.isList qe (by rw[size_toArray] <;> omega) qe (by rw[hj];simpa using ew) ⟨rfl,fin⟩) hs
def Tv:IxR X (VP X.K):=by
 intro value slice aa s σ H x y v u Q I rx ry h hs;obtain⟨p,xs,i,z,rfl,rfl,hq,he,q⟩:=h;cases rx;obtain⟨t,rfl⟩:=ry;obtain⟨its,r,pl,hz⟩:=I.tuple hq;obtain⟨j,h1,h2,h3,h4,h5⟩:=Jf he;obtain⟨w,ew,il⟩:=r.get h2;have hl:=r.length;have hn:=Fv;have fin:EP X aa σ Q w s:=⟨z,H,I,il,q⟩
 exact subscriptTail_builtinR (x:=w) pl.typeIs slot_tuple_getitem.lookup
  (getItem_tuple (j:=j) (Q:=λr s'=>r=w/\EP X aa σ Q r s') pl qe qe (by rw[size_toArray,←hl];exact h1) (by simpa using ew) ⟨rfl,fin⟩) hs
def Fz:IxR X Wk:=by
 intro value slice aa s σ H x y v u Q I rx ry h hs;obtain⟨z,i,c,rfl,rfl,hz,he,q⟩:=h;obtain⟨t,rfl⟩:=rx;obtain⟨t',rfl⟩:=ry;obtain⟨j,h1,h2,h3,h4,h5⟩:=Jf he;have hl:z.cps.toList.length=z.length:=by simp[Str.length]
 rw[hl]at h1 h4 h5;have hn:=Fv
 exact tail_any (typeIs_str s z t) slot_str_getitem.lookup (getItem_str (c:=c) (by
  have e1:decide (i < -(2 ^ 63:Int))=false:=ZP qe;have e2:decide (i ≥ 2 ^ 63)=false:=ZP qe
  rw[e1,e2,Bool.or_false]) (by rw[h1];simpa using h2) ⟨.str ⟨#[c]⟩,H,I.tok _,⟨_,rfl⟩,q⟩) hs
def Lz (its:Xb) (n j:Nat) (u:Value):Obj.mapSeq (·.setIfInBounds j u) { cls:=.type "list", data:=.seq its.toArray n }={ cls:=.type "list", data:=.seq (its.set j u).toArray n }:=by
 simp[Obj.mapSeq]
def Inv.lst {aa:LO}{σ:St}{H:Hp}{s:Xe}{p:Xd}{xs:Xc} (I:Inv X aa σ H s) (h:H p=some (.lst xs)) :
  ∃(its:Xb) (n:Nat),Vals xs its/\s.heap.get? p=some { cls:=.type "list", data:=.seq its.toArray n }/\xs.length<=sizeLine:=by
 obtain⟨z,its,n,r,e⟩:=I.aF p _ h;exact⟨its,n,r,e,z⟩
def Inv.lstUpd {p:Xd}{ys:Xc}{its its':Xb}{n n':Nat}{f:Obj->Obj} (I:Inv X aa σ H s) (h:H p=some (.lst xs))
  (ho:s.heap.get? p=some { cls:=.type "list", data:=.seq its.toArray n }) (hf:f { cls:=.type "list", data:=.seq its.toArray n }={ cls:=.type "list", data:=.seq its'.toArray n' }) (r:Vals ys its') (hz:ys.length<=sizeLine) (t:Nat) :
  Inv X aa σ (upd H p (.lst ys)) { s with heap:=s.heap.update p f,toks:=t }:=by
 have e:(s.heap.update p f).get? p=some { cls:=.type "list", data:=.seq its'.toArray n' }:=by
  rw[ZT f ho (by rw[hf] <;> rfl),hf]
 refine I.write (x:=p) (e:=p) (by rw[h];trivial) (.inl Zj) (λb u hb q=>(ZV _ _ (Ne.symm hb)).trans q) ⟨_,e⟩ ?_;exact⟨hz,its',n',r,e⟩
def VQ:V->V->V->Hp->(Hp->Prop)->Prop:=λo i v H Q=>∃p xs k j,o=.ref p/\i=.int k/\H p=some (.lst xs)/\ib xs.length k=some j/\Q (upd H p (.lst (xs.set j v)))
def FI:VG X VQ:=by
 intro aa s σ H o i v ov iv u Q I ro ri rv h;obtain⟨p,xs,k,j,rfl,rfl,hp,hj,q⟩:=h;cases ro;obtain⟨t,rfl⟩:=ri;obtain⟨its,n,r,ho,hz⟩:=I.lst hp;obtain⟨h1,h2,h3,h4⟩:=NX hj;have hl:=r.length;have hn:=Fv
 have I':Inv X aa σ (upd H p (.lst (xs.set j v))) { s with heap:=s.heap.update p (Obj.mapSeq (·.setIfInBounds j u)) } :=
  I.lstUpd hp ho (Lz its n j u) (r.set rv j) (by rw[List.length_set];exact hz) s.toks
 by_cases h0:0<=k
 ·have hk:k.toNat=j:=by
   rw[seqIndex_of h0 h4]at h1;exact Option.some.inj h1
  exact W.ki_setAt ho h0 qe (by rw[size_toArray,←hl];exact h4) (by rw[hk];exact⟨_,I',q⟩)
 ·have hk:(k+(its.toArray.size:Int)).toNat=j:=by
   rw[seqIndex_neg qe h3]at h1;rw[size_toArray,←hl];exact Option.some.inj h1
  exact W.ki_setBack ho qe (by rw[size_toArray,←hl];exact h3) qe (by rw[hk];exact⟨_,I',q⟩)
noncomputable def FJ:V->Bool
 | .aI=>true
 | .bl _=>true
 | .int _=>true
 | .str _=>true
 |_=>false
noncomputable def iY:V->V->Bool
 | .aI,.aI=>true
 | .bl a,.bl b=>a==b
 | .bl a,.int b=>(if a then 1 else 0)==b
 | .int a,.bl b=>a==(if b then 1 else 0)
 | .int a,.int b=>a==b
 | .str a,.str b=>a==b
 |_,_=>false
def Tw {y x:V}{v:Value} (ry:RelV y u) (rx:RelV x v) (fy:FJ y=true) (fx:FJ x=true):SeqAt.EqAt A s u v (iY y x):=by
 cases y with
 |aI =>
  cases ry;cases x with
  |aI=>cases rx;exact SeqAt.EqAt.same _
  |bl b=>cases rx;exact SeqAt.EqAt.none_bool b
  |int b=>obtain⟨t,rfl⟩:=rx;exact SeqAt.EqAt.none_int b t
  |str b=>obtain⟨t,rfl⟩:=rx;exact SeqAt.EqAt.none_str b t
  |_=>exact absurd (show false=true from fx) Bool.false_ne_true
 |bl a =>
  cases ry;cases x with
  |aI=>cases rx;exact SeqAt.EqAt.bool_none a
  |bl b=>cases rx;exact SeqAt.EqAt.bool_bool a b
  |int b=>obtain⟨t,rfl⟩:=rx;exact SeqAt.EqAt.bool_int a b t
  |str b=>obtain⟨t,rfl⟩:=rx;exact SeqAt.EqAt.bool_str a b t
  |_=>exact absurd (show false=true from fx) Bool.false_ne_true
 |int a =>
  obtain⟨t',rfl⟩:=ry;cases x with
  |aI=>cases rx;exact SeqAt.EqAt.int_none a t'
  |bl b=>cases rx;exact SeqAt.EqAt.int_bool a t' b
  |int b=>obtain⟨t,rfl⟩:=rx;exact SeqAt.EqAt.int_int a t' b t
  |str b=>obtain⟨t,rfl⟩:=rx;exact SeqAt.EqAt.int_str a t' b t
  |_=>exact absurd (show false=true from fx) Bool.false_ne_true
 |str a =>
  obtain⟨t',rfl⟩:=ry;cases x with
  |aI=>cases rx;exact SeqAt.EqAt.str_none a t'
  |bl b=>cases rx;exact SeqAt.EqAt.str_bool a t' b
  |int b=>obtain⟨t,rfl⟩:=rx;exact SeqAt.EqAt.str_int a t' b t
  |str b=>obtain⟨t,rfl⟩:=rx;exact SeqAt.EqAt.str_str a t' b t
  |_=>exact absurd (show false=true from fx) Bool.false_ne_true
 |_=>exact absurd (show false=true from fy) Bool.false_ne_true
noncomputable def ik (x:V) (u:Value):Bool:=match u with
 | .none=>iY .aI x
 | .bool b=>iY (.bl b) x
 | .int i _=>iY (.int i) x
 | .str z _=>iY (.str z) x
 |_=>false
def Pd {x y:V} (r:RelV y u) (f:FJ y=true):ik x u=iY y x:=by
 cases y with
 |aI=>cases r;rfl
 |bl b=>cases r;rfl
 |int i=>obtain⟨t,rfl⟩:=r;rfl
 |str z=>obtain⟨t,rfl⟩:=r;rfl
 |_=>exact absurd (show false=true from f) Bool.false_ne_true
def FK {x:V}:∀ {xs:Xc}{us:Xb},Vals xs us->xs.all FJ=true->us.any (ik x)=xs.any λy=>iY y x
 |_,_,.nil,_=>rfl
 |y::xs,u::us,.cons r t,f=>by
  rw[all_cons,Bool.and_eq_true]at f;rw[any_cons,any_cons,Pd r f.1,FK t f.2]
def Dv {A:Around}{s:Xe}{x:V}{v:Value} (rx:RelV x v) (fx:FJ x=true):∀ {xs:Xc}{us:Xb},Vals xs us->xs.all FJ=true->∀u∈us,SeqAt.EqAt A s u v (ik x u)
 |_,_,.nil,_=>λu hu=>by cases hu
 |y::xs,u::us,.cons r t,f=>λu' hu=>by
  rw[all_cons,Bool.and_eq_true]at f;rcases mem_cons.mp hu with rfl |hu
  ·rw[Pd r f.1];exact Tw r rx f.1 fx
  ·exact Dv rx fx t f.2 u' hu
noncomputable def dz (x:V) (xs:Xc):Bool:=xs.any λy=>iY y x
def rIn (K:FG) (neg:Bool):R2:=λx y H Q=>∃p xs,y=.ref p/\(aN K H p xs\/bH K H p xs)/\FJ x=true/\xs.all FJ=true/\Q (.bl (if neg then !dz x xs else dz x xs)) H
def DK:cV X (compareOp .In) (rIn X.K false):=by
 intro aa s σ H x y v u Q I rx ry h;obtain⟨p,xs,rfl,hq,fx,fs,q⟩:=h;cases ry;rcases hq with hq |hq
 ·obtain⟨its,r,pl,hz⟩:=I.list hq;refine SeqAt.in_listAt (ik x) pl.isList (λw hw=>Dv rx fx r fs w (by simpa using hw)) ⟨.bl _,H,I,Zj,?_⟩;rw[show its.toArray.any (ik x)=its.any (ik x) by simp,FK r fs];exact q
 ·obtain⟨its,r,pl,hz⟩:=I.tuple hq;refine SeqAt.in_tupleAt (ik x) pl (λw hw=>Dv rx fx r fs w (by simpa using hw)) ⟨.bl _,H,I,Zj,?_⟩;rw[show its.toArray.any (ik x)=its.any (ik x) by simp,FK r fs];exact q
def FL:cV X (compareOp .NotIn) (rIn X.K true):=by
 intro aa s σ H x y v u Q I rx ry h;obtain⟨p,xs,rfl,hq,fx,fs,q⟩:=h;cases ry;rcases hq with hq |hq
 ·obtain⟨its,r,pl,hz⟩:=I.list hq;refine SeqAt.notIn_listAt (ik x) pl.isList (λw hw=>Dv rx fx r fs w (by simpa using hw)) ⟨.bl _,H,I,Zj,?_⟩;rw[show its.toArray.any (ik x)=its.any (ik x) by simp,FK r fs];exact q
 ·obtain⟨its,r,pl,hz⟩:=I.tuple hq;refine SeqAt.notIn_tupleAt (ik x) pl (λw hw=>Dv rx fx r fs w (by simpa using hw)) ⟨.bl _,H,I,Zj,?_⟩;rw[show its.toArray.any (ik x)=its.any (ik x) by simp,FK r fs];exact q
def FM:bQ X (.builtin "len") (λxs H Q=>∃p ys,xs=[.ref p]/\(aN X.K H p ys\/bH X.K H p ys)/\Q (.int ys.length) H):=by
 intro aa s σ H xs us Q I r h;obtain⟨p,ys,rfl,hq,q⟩:=h;obtain⟨u,rfl,rx⟩:=CI r;cases rx;have hn:=Fv;rcases hq with hq |hq
 ·obtain⟨its,r',pl,hz⟩:=I.list hq;have ba:=r'.length;exact Calls.call_len_list pl.isList (by simp only[size_toArray] <;> omega) ⟨.int ys.length,H,I.tok _,⟨s.toks+1,by rw[size_toArray,ba]⟩,q⟩
 ·obtain⟨its,r',pl,hz⟩:=I.tuple hq;have ba:=r'.length;exact len_tuple pl (by simp only[size_toArray] <;> omega) ⟨.int ys.length,H,I.tok _,⟨s.toks+1,by rw[size_toArray,ba]⟩,q⟩
def At:bQ X (.builtin "len") (λxs H Q=>∃z,xs=[.str z]/\z.length<=sizeLine/\Q (.int z.length) H):=by
 intro aa s σ H xs us Q I r h;obtain⟨z,rfl,hz,q⟩:=h;obtain⟨u,rfl,t,rfl⟩:=CI r;have hn:=Fv;exact len_str qe ⟨.int z.length,H,I.tok _,⟨_,Zj⟩,q⟩
def bQ.or {f:Value}{r r':Xc->Hp->VK->Prop} (h:bQ X f r) (h':bQ X f r'):bQ X f (λxs H Q=>r xs H Q\/r' xs H Q):=by
 intro aa s σ H xs us Q I rs q;rcases q with q |q
 ·exact h aa s σ H xs us Q I rs q
 ·exact h' aa s σ H xs us Q I rs q
def IP:bQ X (.type "tuple") (λxs H Q=>∃p ys,xs=[.ref p]/\((aN X.K H p ys/\∀l,H l=none->Q (.ref l) (upd H l (.tup ys)))\/(bH X.K H p ys/\Q (.ref p) H))):=by
 intro aa s σ H xs us Q I r h;obtain⟨p,ys,rfl,h⟩:=h;obtain⟨u,rfl,rx⟩:=CI r;cases rx;rcases h with⟨hq,q⟩ |⟨hq,q⟩
 ·obtain⟨its,r',pl,hz⟩:=I.list hq;have ba:=r'.length;refine call_tuple_list pl.isList (λh' kp=>?_) (by simp only[size_toArray] <;> omega);have I1:Inv X aa σ H { s with heap:=h' }:=I.kept (t':=s.toks) kp
  have I2:Inv X aa σ (upd H h'.objs.size (.tup ys)) { s with heap:=h'.push { cls:=.type "tuple", data:=.seq its.toArray } } :=
   I1.laid (t':=s.toks) (λb o e=>ZW _ e) (Zz _) (show aQ X.prog X.w _ _ _ (.tup ys)from⟨hz,its,r',IsTup.new _ _⟩)
  exact⟨.ref h'.objs.size,_,I2,Zj,q _ (I1.aF.fresh (Zz _))⟩
 ·obtain⟨its,r',pl,hz⟩:=I.tuple hq;exact call_tuple_same pl ⟨.ref p,H,I,Zj,q⟩
def tyV (K:FG) (T:String) (x:V) (H:Hp):Prop:=match x with
 | .str _=>T = "str"
 | .int _=>T = "int"
 | .ref p=>(T = "list" /\ ∃xs,aN K H p xs)\/(T = "tuple" /\ ∃o,K.lookup p=some o/\o.cls=.type "tuple" /\ o.dict=none) \/
   (T = "dict" /\ ((∃kvs,H p=some (.dK kvs))\/∃kvs,H p=some (.dT kvs)))\/(T = "set" /\ ∃S n,H p=some (.set S n))
 |_=>False
def Pe {T:String}{x:V}{v:Value} (I:Inv X aa σ H s) (r:RelV x v) (ty:tyV X.K T x H) :
  s.TypeIs v T/\∀a,v=.ref a->∃ob,s.heap.get? a=some ob/\ob.dict=none:=by
 cases x with
 |str z =>
  obtain⟨t,rfl⟩:=r;cases (show T = "str" from ty);exact⟨typeIs_str s z t,λ_ e=>nomatch e⟩
 |int i =>
  obtain⟨t,rfl⟩:=r;cases (show T = "int" from ty);exact⟨typeIs_int s i t,λ_ e=>nomatch e⟩
 |ref p =>
  cases r;rcases ty with⟨rfl,xs,hq⟩ |⟨rfl,o,hk,hc,hd⟩ |⟨rfl,hk⟩ |⟨rfl,S,n,hk⟩
  ·obtain⟨its,_,pl,_⟩:=I.list hq;refine⟨pl.isList.typeIs,λa e=>?_⟩;cases e;obtain⟨o,n,e,c,hd,_⟩:=pl;exact⟨o,e,hd⟩
  ·refine⟨⟨o,I.cW p o hk,hc⟩,λa e=>?_⟩;cases e;exact⟨o,I.cW _ o hk,hd⟩
  ·have z:∃o,s.heap.get? p=some o/\o.ExactDict:=by
    rcases hk with⟨kvs,hk⟩ |⟨kvs,hk⟩
    ·obtain⟨_,_,_,_,o,_,_,e,ex,_⟩:=I.aF p _ hk;exact⟨o,e,ex⟩
    ·obtain⟨_,_,_,_,o,_,_,e,ex,_⟩:=I.aF p _ hk;exact⟨o,e,ex⟩
   obtain⟨o,e,ex⟩:=z;refine⟨⟨o,e,ex.1⟩,λa e2=>?_⟩;cases e2;exact⟨o,e,ex.2.1⟩
  ·obtain⟨o,_,_,_,e,ex,_⟩:=I.aF p _ hk;refine⟨⟨o,e,ex.1⟩,λa e2=>?_⟩;cases e2;exact⟨o,e,ex.2.1⟩
 |_=>exact False.elim ty
def Wl (K:FG) (T:String) (r:V->Xc->Hp->VK->Prop) (to:TE):TE:=λσ H Q=>to σ H λx H1=>tyV K T x H1/\r x [] H1 Q
def tBM (K:FG) (T:String) (r:V->Xc->Hp->VK->Prop) (to:TE) (t:TA):TE:=λσ H Q=>to σ H λx H1=>tyV K T x H1/\t σ H1 λxs H2=>r x xs H2 Q
variable {o:Expr}{es:List Expr}{to:TE}{t:TA}{name:Str}{apos dr:Pos}{T id:String}{r:V->Xc->Hp->VK->Prop}
def HL (pa:PlainAttrs T) (slot:Slot T name id) (hty:typeOf (.builtin id)=pure (.type "method_descriptor")) (hm:MtR X id r) (ho:PE X o to)
  (bo:attributeBase o name X.env (eval o X.env)=eval o X.env:=by rfl) (bq:(apos.endLine==dr.line)=true:=by rfl):PE X (.Call (.Attribute o name apos) [] [] dr) (Wl X.K T r to):=by
 intro aa s σ H Q I h;refine wpAny_Call_method0_late bo bq (aG (ho aa s σ H _ I h) λv s1 ⟨x,H1,I1,r1,ty,q1⟩=>?_);obtain⟨h1,h2⟩:=Pe I1 r1 ty;exact⟨T,id,pa,slot,hty,h1,h2,Calls.callWith_builtin Zj (PySem.evalArgs_none (hm aa s1 σ H1 x [] v [] Q I1 r1 .nil q1))⟩
def DL (pa:PlainAttrs T) (slot:Slot T name id) (hty:typeOf (.builtin id)=pure (.type "method_descriptor")) (hm:MtR X id r) (ho:PE X o to) (ha:PA X (e::es) t)
  (bo:attributeBase o name X.env (eval o X.env)=eval o X.env:=by rfl)
  (hfew:((backTo dr (starEach (e::es) X.env)).all (λx=>!x.1)&&(backToKw dr (keywordEach [] X.env)).all (λx=>x.1.isSome)
   && decide ((e::es).length+([]:List Keyword).length+(if ([]:List Keyword).isEmpty then 0 else 1)<30))=true:=by rfl)
  (bq:(apos.endLine==dr.line)=true:=by rfl) (hs:starEach (e::es) X.env=(false,eval e X.env)::starEach es X.env:=by rfl) (hplain:(backTo dr (starEach es X.env)).any (·.1)=false:=by rfl) :
  PE X (.Call (.Attribute o name apos) (e::es) [] dr) (tBM X.K T r to t):=by
 intro aa s σ H Q I h;refine wpAny_Call_method_late bo hfew bq Zj (aG (ho aa s σ H _ I h) λv s1 ⟨x,H1,I1,r1,ty,q1⟩=>?_);obtain⟨h1,h2⟩:=Pe I1 r1 ty;refine⟨T,id,pa,slot,hty,h1,h2,?_⟩;have hA:=ha dr aa s1 σ H1 _ I1 q1;rw[hs]at hA ⊢;refine Calls.callWith_builtin (by show(false||(backTo dr (starEach es X.env)).any (·.1))=false;rw[hplain] <;> rfl) (Calls.evalArgs_plain ?_);exact aG hA λus s2 ⟨vs,H2,I2,r2,q2⟩=>hm aa s2 σ H2 x vs v us Q I2 r1 r2 q2
end
def MtM (X:Cx) (id:String) (r:V->Xc->Hp->VK->Prop):Prop :=
 ∀(aa:LO) (s:Xe) (σ:St) (H:Hp) (x:V) (xs:Xc) (v:Value) (us:Xb) (Q:VK),Inv X aa σ H s->RelV x v->Vals xs us->r x xs H Q ->
  wpAny (model X.prog X.w) X.A (call (.builtin id) (v::us)) (EP X aa σ Q) X.xe s
def Vals.one:∀ {x:V}{us:Xb},Vals [x] us->∃u,us=[u]/\RelV x u
 |_,_,.cons r .nil=>⟨_,rfl,r⟩
def Vals.zero:∀ {us:Xb},Vals [] us->us=[]
 |_,.nil=>rfl
def Vals.dropLast {xs:Xc}{us:Xb} (h:Vals xs us):Vals xs.dropLast us.dropLast:=by
 induction h with
 |nil=>exact .nil
 |cons r t ih =>
  cases t with
  |nil=>exact .nil
  |cons q t'=>exact .cons r ih
def Vals.rep {xs:Xc}{us:Xb} (h:Vals xs us):∀k:Nat,Vals (List.replicate k xs).flatten (List.replicate k us).flatten
 |0=>.nil
 |k+1=>by
  rw[replicate_succ,replicate_succ,flatten_cons,flatten_cons];exact Vals.append h (Vals.rep h k)
def MA {α:Type} (l:List α):l.eraseIdx (l.length - 1)=l.dropLast:=by
 induction l with
 |nil=>rfl
 |cons a r ih =>
  cases r with
  |nil=>rfl
  |cons b r =>
   have e:(a::b::r).length - 1=((b::r).length - 1)+1:=by
    have h1:(a::b::r).length=r.length+2:=rfl;have h2:(b::r).length=r.length+1:=rfl;omega
   rw[e,List.eraseIdx_cons_succ,ih]
   all_goals rfl
def Io (its:Xb):∀(k:Nat) (acc:Xb),
  List.foldl (λx1 x2=>x1++x2) acc.toArray (List.replicate k its.toArray)=(acc++(List.replicate k its).flatten).toArray
 |0,acc=>by simp
 |k+1,acc=>by
  have e:acc.toArray++its.toArray=(acc++its).toArray:=by simp
  have e2:(acc++its)++(List.replicate k its).flatten=acc++(List.replicate (k+1) its).flatten:=by
   rw[replicate_succ,flatten_cons,List.append_assoc]
  rw[←e2,←Io its k (acc++its),←e,replicate_succ,foldl_cons]
section
variable {l b:Xd}{ys zs:Xc}
def Inv.lset {its its':Xb}{n:Nat}{f:Array Value->Array Value}{t':Nat} (I:Inv X aa σ H s) (hH:H l=some (.lst xs))
  (e:s.heap.get? l=some { cls:=.type "list", data:=.seq its.toArray n }) (hf:f its.toArray=its'.toArray) (hv:Vals ys its') (hz:ys.length<=sizeLine) :
  Inv X aa σ (upd H l (.lst ys)) { s with heap:=s.heap.update l (Obj.mapSeq f),toks:=t' }:=by
 have q:=PySem.IsL.update e f;rw[hf]at q;refine I.write (x:=l) (e:=l) (by rw[hH];exact trivial) (.inl Zj) (λb' u hb hu=>(ZV s.heap (Obj.mapSeq f) (Ne.symm hb)).trans hu) ⟨_,q⟩ ?_;exact⟨hz,its',_,hv,q⟩
def Inv.lnew {its:Xb}{t':Nat} (I:Inv X aa σ H s) (hv:Vals ys its) (hz:ys.length<=sizeLine) :
  Inv X aa σ (upd H s.heap.objs.size (.lst ys)) { s with heap:=s.heap.push { cls:=.type "list", data:=.seq its.toArray },toks:=t' } :=
 I.laid (λ_ _ q=>ZW _ q) (Zz _) ⟨hz,its,0,hv,ZO _ rfl⟩
def Inv.fresh (I:Inv X aa σ H s):H s.heap.objs.size=none:=I.aF.fresh (Zz _)
def Inv.lstM (I:Inv X aa σ H s) (hH:H l=some (.lst xs)):xs.length<=sizeLine/\∃(its:Xb) (n:Nat),Vals xs its/\xs.length=its.length/\s.heap.get? l=some { cls:=.type "list", data:=.seq its.toArray n }:=by
 obtain⟨z,its,n,r,e⟩:=I.aF l _ hH;exact⟨z,its,n,r,r.length,e⟩
def Pf {n:Nat} (h:n<=sizeLine):Builtin.List.listTooLong n=false:=by
 unfold Builtin.List.listTooLong;exact ZP qe
end
section
def RV:V->Xc->Hp->VK->Prop:=λx vs H Q=>∃l xs y,x=.ref l/\vs=[y]/\H l=some (.lst xs)/\xs.length<sizeLine/\Q .aI (upd H l (.lst (xs++[y])))
def BK:MtM X "list.append" RV:=by
 intro aa s σ H x vs v us Q I rx rv h;obtain⟨l,xs,y,rfl,rfl,hH,hz,q⟩:=h;cases rx;obtain⟨u,rfl,ru⟩:=rv.one;obtain⟨z,its,n,r,hl,e⟩:=I.lstM hH;refine call_meets F.slot_list_append ⟨_,e,Zj⟩ F.entry_list_append (F.args_list_append_2 _ _) (PySem.list_append l its.toArray n u (by rw[size_toArray];omega)) ⟨e,?_⟩;refine⟨.aI,_,I.lset (its':=its++[u]) hH e (by simp) (r.append (.cons ru .nil)) ?_,Zj,q⟩;rw[ZI,length_singleton];omega
def Wm:V->Xc->Hp->VK->Prop:=λx vs H Q=>∃l xs y,x=.ref l/\vs=[]/\H l=some (.lst xs)/\xs[xs.length - 1]?=some y/\Q y (upd H l (.lst xs.dropLast))
def Jg:MtM X "list.pop" Wm:=by
 intro aa s σ H x vs v us Q I rx rv h;obtain⟨l,xs,y,rfl,rfl,hH,hy,q⟩:=h;cases rx;have hus:=rv.zero;subst hus;obtain⟨z,its,n,r,hl,e⟩:=I.lstM hH;obtain⟨u,hu,ru⟩:=r.get hy
 have hy':its.toArray[its.toArray.size - 1]?=some u:=by
  show its.toArray[its.length - 1]?=some u;rw[←Array.getElem?_toList,←hl];exact hu
 refine call_meets F.slot_list_pop ⟨_,e,Zj⟩ F.entry_list_pop (F.args_list_pop_1 _) (MeetsSeq.list_pop_last l its.toArray n u hy' (by rw[size_toArray];omega)) ⟨e,?_⟩;refine⟨y,_,I.lset (its':=its.dropLast) hH e ?_ r.dropLast ?_,ru,q⟩
 ·show its.toArray.eraseIdxIfInBounds (its.toArray.size - 1)=its.dropLast.toArray;rw[size_toArray,List.eraseIdxIfInBounds_toArray,MA]
 ·rw[List.length_dropLast];omega
def Wn:R2:=λx y H Q=>∃l b xs zs,x=.ref l/\y=.ref b/\H l=some (.lst xs)/\H b=some (.lst zs)/\xs.length+zs.length<=sizeLine/\∀p,H p=none->Q (.ref p) (upd H p (.lst (xs++zs)))
def F0:cV X (binaryOp .Add) Wn:=by
 intro aa s σ H x y v u Q I rx ry h;obtain⟨l,b,xs,zs,rfl,rfl,hH,hB,hz,q⟩:=h;cases rx;cases ry;obtain⟨z,its,n,r,hl,e⟩:=I.lstM hH;obtain⟨z2,its2,n2,r2,gQ,e2⟩:=I.lstM hB;refine PySem.P.add_list e e2 ?_ (by rw[size_toArray,size_toArray];omega);have ea:its.toArray++its2.toArray=(its++its2).toArray:=by simp
 rw[ea];exact⟨.ref _,_,I.lnew (t':=s.toks) (r.append r2) (by rw[ZI];omega),Zj,q _ I.fresh⟩
def Wo:R2:=λx y H Q=>∃l k xs,x=.ref l/\y=.int k/\H l=some (.lst xs)/\-(2 ^ 63)<=k/\k<2 ^ 63/\xs.length*k.toNat<=sizeLine /\
 ∀p,H p=none->Q (.ref p) (upd H p (.lst (List.replicate k.toNat xs).flatten))
def RW {α:Type} (xs:List α) (k:Nat):(List.replicate k xs).flatten.length=k*xs.length:=by
 induction k with
 |zero=>simp
 |succ k ih=>rw[replicate_succ,flatten_cons,ZI,ih,Nat.succ_mul,Nat.add_comm]
def Tx:cV X (binaryOp .Mult) Wo:=by
 intro aa s σ H x y v u Q I rx ry h;obtain⟨l,k,xs,rfl,rfl,hH,h1,h2,hz,q⟩:=h;cases rx;obtain⟨t,rfl⟩:=ry;obtain⟨z,its,n,r,hl,e⟩:=I.lstM hH;have ba:its.toArray.size*k.toNat<=sizeLine:=by rw[size_toArray,←hl];exact hz
 have hcap:¬ its.toArray.size*k.toNat>(2 ^ 63 - 1) / 8:=by
  have:(sizeLine:Nat)<=(2 ^ 63 - 1) / 8:=by decide
  omega
 have hfit:¬ (!Builtin.List.listFitsIndex k)=true:=by
  rw[fitsIndex_both h1 h2];exact Bool.false_ne_true
 have hlong:¬ Builtin.List.listTooLong (its.toArray.size*k.toNat)=true:=by
  rw[Pf ba];exact Bool.false_ne_true
 have bt:List.foldl (λx1 x2=>x1++x2) #[] (List.replicate (if its.toArray.isEmpty=true then 0 else k.toNat) its.toArray)=(List.replicate k.toNat its).flatten.toArray:=by
  have f0:∀m:Nat,List.foldl (λx1 x2=>x1++x2) #[] (List.replicate m its.toArray)=(List.replicate m its).flatten.toArray:=λm=>by
   have:=Io its m [];rw[nil_append]at this;exact this
  rw[f0];cases its with
  |nil=>simp
  |cons a r'=>rw[Zr (by simp)]
 refine wpAny_binaryOp_repeat_ref (T := "list") (U := "int") qc ⟨_,e,Zj⟩ (λs'=>typeIs_int s' k t) noFill_list_mul F.fills_int_mul F.slot_int_rmul repeat_list F.slot_int_index.lookup
  (call_meets F.slot_int_rmul (typeIs_int s k t) F.entry_int_rmul (F.args_int_rmul_2 _ _) (int___rmul___int_list k t l its.toArray n)
   ⟨e,rfl,⟨_,e,rfl⟩,call_meets F.slot_list_mul ⟨_,e,rfl⟩ F.entry_list_mul (F.args_list_mul_2 _ _) (AutoListH.list___mul___list_int_3 l its.toArray n k t hfit hcap hlong) ⟨e,?_⟩⟩)
 rw[bt];exact⟨.ref _,_,I.lnew (t':=s.toks) (r.rep k.toNat) (by rw[RW,Nat.mul_comm];exact hz),Zj,q _ I.fresh⟩
end
section
variable {κ:Type} [DecidableEq κ]
noncomputable def BW (kvs:List (κ×V)) (k:κ):Option V:=(kvs.find? λkv=>decide (kv.1=k)).map (·.2)
noncomputable def C9 (kvs:List (κ×V)) (k:κ) (v:V):List (κ×V) :=
 if (kvs.any λkv=>decide (kv.1=k))=true then kvs.map (λkv=>if kv.1=k then (kv.1,v)else kv)else kvs++[(k,v)]
def Dw {p:κ×V}{r:List (κ×V)}{k:κ} (e:p.1=k):BW (p::r) k=some p.2:=by simp[BW,find?_cons,e]
def Dx {p:κ×V}{r:List (κ×V)}{k:κ} (e:¬ p.1=k):BW (p::r) k=BW r k:=by simp[BW,find?_cons,e]
def HM (k:κ):∀kvs:List (κ×V),(kvs.any λkv=>decide (kv.1=k))=(BW kvs k).isSome
 | []=>rfl
 |p::r=>by
  rw[any_cons];by_cases e:p.1=k
  ·simp only[Dw e,ZM e,Bool.true_or,Option.isSome_some]
  ·rw[Dx e,ZP e,Bool.false_or];exact HM k r
def C0 (kvs:List (κ×V)) (k:κ) (v:V):(C9 kvs k v).length<=kvs.length+1:=by
 unfold C9;split
 ·rw[AS];omega
 ·rw[ZI,length_cons,length_nil];omega
def KP {kvs:List (κ×V)}{k:κ} (v:V) (h:BW kvs k=none):C9 kvs k v=kvs++[(k,v)]:=by
 unfold C9;rw[HM,h];exact Zr qc
def ef.isSome_eq {o:Option V}{u:Option Value} (r:ef o u):o.isSome=u.isSome:=by
 cases o with
 |none=>cases u with
  |none=>rfl
  |some _=>exact(show False from r).elim
 |some _=>cases u with
  |none=>exact(show False from r).elim
  |some _=>rfl
def KV.val {kvs:List (κ×V)}{vs:List (κ×Value)} (r:KV kvs vs) (k:κ):ef (BW kvs k) (valueAt vs k):=by
 unfold KV at r;induction r with
 |nil=>exact True.intro
 | @cons p q ps qs h t ih =>
  obtain⟨h1,h2⟩:=h;by_cases e:p.1=k
  ·have e':q.1=k:=h1.symm.trans e;have b:valueAt (q::qs) k=some q.2:=by simp[valueAt,find?_cons,e']
   rw[Dw e,b];exact h2
  ·have e':¬ q.1=k:=λz=>e (h1.trans z);have b:valueAt (q::qs) k=valueAt qs k:=by simp[valueAt,find?_cons,e']
   rw[Dx e,b];exact ih
def KV.any {kvs:List (κ×V)}{vs:List (κ×Value)} (r:KV kvs vs) (k:κ):(kvs.any λkv=>decide (kv.1=k))=vs.any λkv=>decide (kv.1=k):=by
 unfold KV at r;induction r with
 |nil=>rfl
 |cons h t ih=>rw[any_cons,any_cons,ih,h.1]
def KV.repl {kvs:List (κ×V)}{vs:List (κ×Value)} (r:KV kvs vs) (k:κ) {y:V} (ry:RelV y u) :
  KV (kvs.map λkv=>if kv.1=k then (kv.1,y)else kv) (vs.map λkv=>if kv.1=k then (kv.1,u)else kv):=by
 unfold KV at r ⊢;induction r with
 |nil=>exact .nil
 | @cons p q ps qs h t ih =>
  rw[map_cons,map_cons];refine .cons ?_ ih;obtain⟨h1,h2⟩:=h;by_cases e:p.1=k
  ·rw[Zq e,Zq (h1.symm.trans e)];exact⟨h1,ry⟩
  ·rw[Zr e,Zr (λz=>e (h1.trans z))];exact⟨h1,h2⟩
def KV.put {kvs:List (κ×V)}{vs:List (κ×Value)} (r:KV kvs vs) (k:κ) {y:V} (ry:RelV y u):KV (C9 kvs k y) (stored vs k u):=by
 unfold C9 stored;rw[r.any k];by_cases e:(vs.any λkv=>decide (kv.1=k))=true
 ·rw[Zq e,Zq e];exact r.repl k ry
 ·rw[Zr e,Zr e];exact Paired.snoc r ⟨Zj,ry⟩
def KV.length {kvs:List (κ×V)}{vs:List (κ×Value)} (r:KV kvs vs):kvs.length=vs.length:=Paired.length r
end
def HN {k:Key} (r:RelV (kV k) u):(AY P w).is k u=true:=by
 cases k with
 |inl i=>obtain⟨t,e⟩:=(show ∃t,u=Value.int i t from r);subst e;exact KF P w i t
 |inr x=>obtain⟨t,e⟩:=(show ∃t,u=Value.str x t from r);subst e;exact Dt P w x t
def Ip {P:Program}{w:World}:∀ {ks:List Key}{us:Xb},Vals (ks.map kV) us->ItemsAre (AY P w) ks us
 | [],_,r=>by rw[map_nil]at r;cases r;exact .nil
 |k::ks,_,r=>by
  rw[map_cons]at r;cases r with
  |cons h t=>exact .cons (HN h) (Ip t)
abbrev KT (H:Hp):List (List Key×V)->List (List Key×Xd×Value)->Prop:=Paired λp q=>p.1=q.1/\H q.2.1=some (.tup (p.1.map kV))/\RelV p.2 q.2.2
def KT.val {kvs:List (List Key×V)}{xs:List (List Key×Xd×Value)} (r:KT H kvs xs) (k:List Key):ef (BW kvs k) ((atKey xs k).map (·.2)):=by
 induction r with
 |nil=>exact True.intro
 | @cons p q ps qs h t ih =>
  obtain⟨h1,_,h2⟩:=h;by_cases e:p.1=k
  ·have e':q.1=k:=h1.symm.trans e;have b:atKey (q::qs) k=some q.2:=by simp[atKey,find?_cons,e']
   rw[Dw e,b];exact h2
  ·have e':¬ q.1=k:=λz=>e (h1.trans z);have b:atKey (q::qs) k=atKey qs k:=by simp[atKey,find?_cons,e']
   rw[Dx e,b];exact ih
def KT.repl {kvs:List (List Key×V)}{xs:List (List Key×Xd×Value)} (r:KT H kvs xs) (k:List Key) {y:V} (ry:RelV y u) :
  KT H (kvs.map λkv=>if kv.1=k then (kv.1,y)else kv) (xs.map (putAt k u)):=by
 induction r with
 |nil=>exact .nil
 | @cons p q ps qs h t ih =>
  rw[map_cons,map_cons];refine .cons ?_ ih;obtain⟨h1,h2,h3⟩:=h;unfold putAt;by_cases e:p.1=k
  ·rw[Zq e,Zq (h1.symm.trans e)];exact⟨h1,h2,ry⟩
  ·rw[Zr e,Zr (λz=>e (h1.trans z))];exact⟨h1,h2,h3⟩
def KT.put {kvs:List (List Key×V)}{xs:List (List Key×Xd×Value)} (r:KT H kvs xs) (k:List Key) {b:Xd}{y:V} (hb:H b=some (.tup (k.map kV))) (ry:RelV y u) :
  KT H (C9 kvs k y) (storedH xs k b u):=by
 have e:(kvs.any λkv=>decide (kv.1=k))=(atKey xs k).isSome:=by
  rw[HM,(r.val k).isSome_eq,Option.isSome_map]
 unfold C9 storedH;rw[e];by_cases q:(atKey xs k).isSome=true
 ·rw[Zq q,Zq q];exact r.repl k ry
 ·rw[Zr q,Zr q];exact Paired.snoc r ⟨Zj,hb,ry⟩
def KT.keeps {kvs:List (List Key×V)}{xs:List (List Key×Xd×Value)} (r:KT H kvs xs) (ht:∀b ys,H b=some (.tup ys)->H' b=some (.tup ys)):KT H' kvs xs :=
 Paired.mapP r λ_ _ z=>⟨z.1,ht _ _ z.2.1,z.2.2⟩
section
def S7 {u:HO} (ok:du P w H h) (e:Rd H a u):aQ P w H h a u:=e.ok ok
def Gm {kvs:LK} (ok:du P w H h) (e:Rd H a (.dK kvs)):kvs.length<=sizeLine/\(a==sysModules)=false/\∃vs,KV kvs vs/\h.DictOf (AY P w) a vs :=
 show aQ P w H h a (.dK kvs)from S7 ok e
def Pg {kvs:LK} (ok:du P w H h) (e:H a=some (.dK kvs)):kvs.length<=sizeLine/\(a==sysModules)=false/\∃vs,KV kvs vs/\h.DictOf (AY P w) a vs:=Gm ok (.inl e)
def Jh {ks:List Key} (ok:du P w H h) (e:H a=some (.tup (ks.map kV))):(tupleKind (AY P w)).is h ks a:=by
 obtain⟨_,its,r,o,h1,h2,n,h3⟩:=(show aQ P w H h a (.tup (ks.map kV))from ok a _ e);exact⟨o,its.toArray,n,h1,h2,h3,by simpa using Ip r⟩
def KQ {kvs:List (List Key×V)} (ok:du P w H h) (e:Rd H a (.dT kvs)):kvs.length<=sizeLine/\(a==sysModules)=false /\
  ∃xs,KT H kvs xs/\h.DictOfH (tupleKind (AY P w)) a xs:=by
 obtain⟨z,y,xs,r,o,es,ep,h1,h2,h3,h4,h5⟩:=(show aQ P w H h a (.dT kvs)from S7 ok e);refine⟨z,y,xs,r,o,es,ep,h1,h2,h3,h4,λx hx=>?_,h5⟩
 have all:∀ {l:List (List Key×V)}{m:List (List Key×Xd×Value)},KT H l m->∀x∈m,(tupleKind (AY P w)).is h x.1 x.2.1:=by
  intro l m q;induction q with
  |nil=>intro x hx;exact nomatch hx
  | @cons p q ps qs hq t ih =>
   intro x hx;rcases mem_cons.mp hx with e |hx
   ·subst e;exact Jh ok (by rw[←hq.1];exact hq.2.1)
   ·exact ih x hx
 exact all r x hx
def VR {kvs:List (List Key×V)} (ok:du P w H h) (e:H a=some (.dT kvs)):kvs.length<=sizeLine/\(a==sysModules)=false /\
  ∃xs,KT H kvs xs/\h.DictOfH (tupleKind (AY P w)) a xs:=KQ ok (.inl e)
end
def Ph (H:Hp) (a:Xd) (y:V) (r:Option V):Prop :=
 (∃kvs k,Rd H a (.dK kvs)/\y=kV k/\r=BW kvs k)\/∃kvs k b,Rd H a (.dT kvs)/\y=.ref b/\H b=some (.tup (k.map kV))/\r=BW kvs k
def DPut (H:Hp) (a:Xd) (y v:V) (H':Hp):Prop :=
 (∃kvs k,H a=some (.dK kvs)/\y=kV k/\kvs.length<sizeLine/\H'=upd H a (.dK (C9 kvs k v))) \/
 ∃kvs k b,H a=some (.dT kvs)/\y=.ref b/\H b=some (.tup (k.map kV))/\kvs.length<sizeLine/\H'=upd H a (.dT (C9 kvs k v))
def DPut.k {H:Hp}{a:Xd}{kvs:LK}{k:Key}{v:V} (e:H a=some (.dK kvs)) (hl:kvs.length<sizeLine):DPut H a (kV k) v (upd H a (.dK (C9 kvs k v))):=.inl ⟨kvs,k,e,rfl,hl,rfl⟩
section
variable {y v:V}{r:Value}{o:Option V}
def Inv.big (I:Inv X aa σ H s):sysModules<s.heap.objs.size:=by
 have h:mainGlobals<s.heap.objs.size:=(I.mod.glob.keeps I.bk).lt;exact Nat.lt_trans qc h
def OL {Q:VS} (hu:A.units+1<cLine) (I:Inv X aa σ H s) (g:Ph H a y (some v)) (ry:RelV y u) (h:∀w' s',Inv X aa σ H s'->RelV v w'->Q w' s') :
  wpAny (model X.prog X.w) A (getItem (.ref a) u) Q E s:=by
 rcases g with⟨kvs,k,e,ey,l⟩ |⟨kvs,k,b,e,ey,eb,l⟩
 ·subst ey;obtain⟨z,hd,vs,rel,dd⟩:=Gm I.aF e;obtain⟨w',hw,il⟩:=ef.some_of (v:=v) (o:=valueAt vs k) (by rw[l];exact rel.val k);exact wpAny_getItem_of (HN ry) dd.mapOf hw (h w' _ (I.tok _) il)
 ·subst ey;cases (show u=Value.ref b from ry);obtain⟨z,hd,xs,rel,dd⟩:=KQ I.aF e;obtain⟨w',hw,il⟩:=ef.some_of (v:=v) (o:=(atKey xs k).map (·.2)) (by rw[l];exact rel.val k);obtain⟨p,hp,am⟩:=Z6.mp hw;refine wpAny_getItem_heap (tupleKind_room_in1 hu) (Jh I.aF eb) dd hp ?_;rw[am];exact h w' _ (I.tok _) il
def Wp {Q:VS} (hu:A.units+1<cLine) (I:Inv X aa σ H s) (g:Ph H a y o) (ry:RelV y u) (h:∀s',Inv X aa σ H s'->Q (.bool o.isSome) s') :
  wpAny (model X.prog X.w) A (compareOp .In u (.ref a)) Q E s:=by
 rcases g with⟨kvs,k,e,ey,l⟩ |⟨kvs,k,b,e,ey,eb,l⟩
 ·subst ey;obtain⟨z,hd,vs,rel,dd⟩:=Gm I.aF e;refine wpAny_in_of (HN ry) hd dd.mapOf ?_;rw[←(rel.val k).isSome_eq,←l];exact h _ (I.tok _)
 ·subst ey;cases (show u=Value.ref b from ry);obtain⟨z,hd,xs,rel,dd⟩:=KQ I.aF e;refine wpAny_in_heap (tupleKind_room_in1 hu) (Jh I.aF eb) hd dd ?_;have q:=(rel.val k).isSome_eq;rw[Option.isSome_map]at q;rw[←q,←l];exact h _ (I.tok _)
def HA {h':Heap}{t':Nat}{ob:HO} (I:Inv X aa σ H s) (mu:Mut (H a)) (hs:Heap.SameBut a s.heap h') (he:∃q,h'.get? a=some q) (new:aQ X.prog X.w (upd H a ob) h' a ob) :
  Inv X aa σ (upd H a ob) { s with heap:=h',toks:=t' } :=
 I.write (x:=a) (e:=a) mu (.inl rfl) (λb q hb z=>(hs.2 b hb).trans z) he new
def MB {h':Heap}{kvs:LK}{vs:List (Key×Value)} (z:kvs.length<=sizeLine) (hd:(a==sysModules)=false) (rel:KV kvs vs) (dd:h'.DictOf (AY P w) a vs) :
  aQ P w H' h' a (.dK kvs):=⟨z,hd,vs,rel,dd⟩
def OM {Q:Unit->Xe->Prop} (hu:A.units+1<cLine) (I:Inv X aa σ H s) (g:DPut H a y v H') (ry:RelV y u) (rv:RelV v r) (h:∀s',Inv X aa σ H' s'->Q () s') :
  wpAny (model X.prog X.w) A (setItem (.ref a) u r) Q E s:=by
 rcases g with⟨kvs,k,e,ey,l,eH⟩ |⟨kvs,k,b,e,ey,eb,l,eH⟩
 ·subst ey eH;obtain⟨z,hd,vs,rel,dd⟩:=Pg I.aF e;have hz:vs.length<=sizeLine:=by rw[←rel.length];exact z
  have hl:(C9 kvs k v).length<=sizeLine:=by have:=C0 kvs k v;omega
  refine wpAny_setItem_pairs (hsz:=hz) (HN ry) dd λh' g6 hs=>h _ ?_;have he:∃q,h'.get? a=some q:=let ⟨q,_,_,hq,_⟩:=g6;⟨q,hq⟩
  exact HA I (by rw[e];exact True.intro) hs he (MB hl hd (rel.put k rv) g6)
 ·subst ey eH;cases (show u=Value.ref b from ry);obtain⟨z,hd,xs,rel,dd⟩:=VR I.aF e;have hz:xs.length<=sizeLine:=by rw[←Paired.length rel];exact z
  have hl:(C9 kvs k v).length<=sizeLine:=by have:=C0 kvs k v;omega
  refine wpAny_setItem_heap (hsz:=hz) (tupleKind_room_in1 hu) (Jh I.aF eb) dd λh' g6 hs=>h _ ?_;obtain⟨q,es,ep,hq,h2,h3,h4,_,h5⟩:=g6;refine HA I (by rw[e];exact True.intro) hs ⟨q,hq⟩ ⟨hl,hd,_,(rel.put k eb rv).keeps λc ys ec=>?_,q,es,ep,hq,h2,h3,h4,h5⟩;rw[AH (KG ec e (λz=>nomatch z))];exact ec
end
def VU (i:Expr):Prop:=∀ov iv,subscripted i false ov iv=operate [ov,iv] (getItem ov iv)
def RX {prog:Program}{env:Env}{value slice:Expr}{T id:String}{Q:VS}
  (hl:typeLookup (.type T) "__getitem__" = pure (some (.builtin id))) (hs:VU slice)
  (h:wpAny (model prog w) A (eval value env) (λo aH=>wpAny (model prog w) A (eval slice env) (λi s₂=>s₂.TypeIs o T/\wpAny (model prog w) A (getItem o i) Q E s₂) E aH) E s) :
  wpAny (model prog w) A (eval (.Subscript value slice pos) env) Q E s:=by
 refine Subscript_ (Zw h (λo aH eF=>Zw eF (λi s₂ h₂=>?_) λ_ _ x=>x) λ_ _ x=>x);obtain⟨hT,h₂⟩:=h₂;unfold subscriptTail;refine Zy ?_;rw[getitemInPython_of_ne hT.not_modules];refine Zy (wpAny_specialOf hT hl ?_)
 have fin:wpAny (model prog w) A (subscripted slice false o i) (λr s₃=>wpAny (model prog w) A (letTemporaryGo value o r >>= λ_=>pure r) Q E s₃) E s₂:=by
  rw[hs o i];exact wpAny_operating (Zw h₂ (λr s₃ h₃=>Zy (wpAny_letTemporaryGo (Zx h₃))) λ_ _ x=>x)
 first
  |exact Zx (Zy fin)
  |exact Zy (Zx (Zy fin))
  |exact Zy fin
def KR {y:V}{o:Option V} (I:Inv X aa σ H s) (g:Ph H a y o):s.TypeIs (.ref a) "dict" := by
 rcases g with⟨kvs,k,e,_,_⟩ |⟨kvs,k,b,e,_,_,_⟩
 ·obtain⟨_,_,vs,_,dd⟩:=Gm I.aF e;exact dd.typeIs
 ·obtain⟨_,_,xs,_,dd⟩:=KQ I.aF e;exact dd.typeIs
inductive ExD (x:V) (H:Hp) (y:V) (k:V->Prop):Prop where
 |mk (a:Xd) (v:V) (h1:x=.ref a) (h2:Ph H a y (some v)) (q:k v):ExD x H y k
def VW (td ty:TE):TE:=λσ H Q=>td σ H λx H1=>ty σ H1 λy H2=>ExD x H2 y λv=>Q v H2
def Wq (ty td:TE):TE:=λσ H Q=>ty σ H λy H1=>td σ H1 λx H2=>∃a o,x=.ref a/\Ph H2 a y o/\Q (.bl o.isSome) H2
def VX (td ty tv:TE):TS:=λD σ H=>tv σ H λv H1=>td σ H1 λx H2=>ty σ H2 λy H3=>∃a H4,x=.ref a/\DPut H3 a y v H4/\D.nx σ H4
section
variable {o i value:Expr}{pos' tpos:Pos}{td ty tv:TE}
def EN (hu:X.A.units+1<cLine) (ho:PE X o td) (hi:PE X i ty) (hs:VU i):PE X (.Subscript o i pos) (VW td ty):=by
 intro aa s σ H Q I h;refine RX PySem.F.slot_dict_getitem.lookup hs (aG (ho aa s σ H _ I h) λu s1 ⟨x,H1,I1,rx,q1⟩=>aG (hi aa s1 σ H1 _ I1 q1) λiv s2 ⟨y,H2,I2,ry,a,v,ex,g,q2⟩=>?_);subst ex;obtain rfl:u=Value.ref a:=rx;exact⟨KR I2 g,OL hu I2 g ry λw' s3 I3 il=>⟨v,H2,I3,il,q2⟩⟩
def Pi (hu:X.A.units+1<cLine) (hi:PE X i ty) (ho:PE X o td):PC X .In i o (Wq ty td):=by
 intro aa s σ H Q I h;refine aG (hi aa s σ H _ I h) λiv s1 ⟨y,H1,I1,ry,q1⟩=>aG (ho aa s1 σ H1 _ I1 q1) λu s2 ⟨x,H2,I2,rx,a,ov,ex,g,q2⟩=>?_;subst ex;obtain rfl:u=Value.ref a:=rx;exact Wp hu I2 g ry λs3 I3=>⟨.bl ov.isSome,H2,I3,Zj,q2⟩
def RY (hu:X.A.units+1<cLine) (ho:PE X o td) (hi:PE X i ty) (hv:PE X value tv) (hs:swapsWith value (some (.Subscript o i pos')) pos.line X.env=pure false) :
  PS X (.Assign [.Subscript o i pos'] value pos) (VX td ty tv):=by
 intro aa s σ H D I h;refine wpAny_Assign_Subscript (aG (hv aa s σ H _ I h) λr s1 ⟨v,H1,I1,rv,q1⟩=>aG (ho aa s1 σ H1 _ I1 q1) λu s2 ⟨x,H2,I2,rx,q2⟩=>aG (hi aa s2 σ H2 _ I2 q2) λiv s3 ⟨y,H3,I3,ry,a,H4,ex,g,q3⟩=>?_) hs;subst ex;obtain rfl:u=Value.ref a:=rx;exact OM hu I3 g ry rv λs4 I4=>⟨σ,H4,I4,q3⟩
end
def KS (h:Heap) (hb:sysModules<h.objs.size):aQ P w H (h.push { cls:=.type "dict", data:=.dict #[] }) h.objs.size (.dK []) :=
 ⟨Nat.zero_le _,beq_eq_false_iff_ne.mpr (Ne.symm (ZD hb)),[],.nil,Heap.DictOf.new h⟩
def Ty:TE:=λ_ H Q=>∀p,H p=none->Q (.ref p) (upd H p (.dK []))
section
def HQ:PE X (.Dict [] [] pos) Ty:=λaa s σ H Q I h =>
 wpAny_Dict_empty ⟨.ref s.heap.objs.size,_,I.laid (a:=s.heap.objs.size) (o:=.dK []) (t':=s.toks) (λ_ _ q=>ZW _ q) (Zz _) (KS s.heap I.big),rfl,h _ (I.aF.fresh (Zz _))⟩
end
def MC:List (TE×TE)->St->Hp->(List (V×V)->Hp->Prop)->Prop
  | [],_,H,Q=>Q [] H
  | (tk,tv)::r,σ,H,Q=>tk σ H λx H1=>tv σ H1 λy H2=>MC r σ H2 λps H3=>Q ((x,y)::ps) H3
abbrev VV:List (V×V)->List (Value×Value)->Prop:=Paired λp q=>RelV p.1 q.1/\RelV p.2 q.2
def PPs (X:Cx) (pos:Pos) (keys:List (Option Expr)) (values:List Expr) (ji:List (TE×TE)):Prop :=
 ∀(aa:LO) (s:Xe) (σ:St) (H:Hp) (Q:List (V×V)->Hp->Prop),Inv X aa σ H s->MC ji σ H Q ->
  wpAny (model X.prog X.w) X.A (evalPairs (pairTrees keys values X.env pos)) (λvs s'=>∃ps H',Inv X aa σ H' s'/\VV ps vs/\Q ps H') X.xe s
def RZ:PPs X pos [] [] []:=λaa s σ H Q I h=>pairTrees_nil_walk ⟨[],H,I,.nil,h⟩
def FN {k v:Expr}{ks:List (Option Expr)}{vs:List Expr}{tk tv:TE}{ji:List (TE×TE)} (hk:PE X k tk) (hv:PE X v tv) (hr:PPs X pos ks vs ji) :
  PPs X pos (some k::ks) (v::vs) ((tk,tv)::ji):=λaa s σ H Q I h =>
 pairTrees_cons_walk (aG (hk aa s σ H _ I h) λu s1 ⟨x,H1,I1,rx,q1⟩=>aG (hv aa s1 σ H1 _ I1 q1) λw2 s2 ⟨y,H2,I2,ry,q2⟩ =>
  aG (hr aa s2 σ H2 _ I2 q2) λws s3 ⟨ps,H3,I3,rel,q3⟩=>⟨(x,y)::ps,H3,I3,.cons ⟨rx,ry⟩ rel,q3⟩)
noncomputable def Dy (kvs more:LK):LK:=more.foldl (λacc kv=>C9 acc kv.1 kv.2) kvs
def KV.merge:∀ {more:LK}{rs:List (Key×Value)}{kvs:LK}{vs:List (Key×Value)},KV more rs->KV kvs vs->KV (Dy kvs more) (merged vs rs):=by
 intro more rs kvs vs r;unfold KV at r;induction r generalizing kvs vs with
 |nil=>intro q;exact q
 | @cons p q ps qs h t ih =>
  intro r0
  have e:KV (C9 kvs p.1 p.2) (stored vs q.1 q.2):=by
   have:=r0.put p.1 h.2;rw[←h.1];exact this
  exact ih e
def Ea:∀(more kvs:LK),(Dy kvs more).length<=kvs.length+more.length
 | [],kvs=>by show kvs.length<=kvs.length+0;omega
 |p::r,kvs=>by
  have h1:=Ea r (C9 kvs p.1 p.2);have h2:=C0 kvs p.1 p.2;show(Dy (C9 kvs p.1 p.2) r).length<=_;rw[length_cons];omega
def HR {P:Program}{w:World}:∀ {kvs:LK}{ws:List (Value×Value)},VV (kvs.map λkv=>(kV kv.1,kv.2)) ws->∃rs,Carries (AY P w) ws rs/\KV kvs rs
 | [],_,r=>by rw[map_nil]at r;cases r;exact⟨[],True.intro,.nil⟩
 |p::kvs,_,r=>by
  rw[map_cons]at r;cases r with
  | @cons a b as bs h t =>
   obtain⟨rs,c,q⟩:=HR (P:=P) (w:=w) t;obtain⟨b1,b2⟩:=b;exact⟨(p.1,b2)::rs,⟨HN h.1,Zj,c⟩,.cons ⟨Zj,h.2⟩ q⟩
def VY (ji:List (TE×TE)):TE:=λσ H Q=>∀p,H p=none->MC ji σ (upd H p (.dK [])) λps H2=>H2 p=some (.dK [])/\∃kvs:LK,ps=kvs.map (λkv=>(kV kv.1,kv.2))/\kvs.length<=15/\Q (.ref p) (upd H2 p (.dK (Dy [] kvs)))
def Ra {keys:List (Option Expr)}{values:List Expr}{ji:List (TE×TE)} (h:PPs X pos keys values ji) (bf:keys.all (·.isSome)=true) (hl:keys.length=values.length) (h0:keys≠ [])
  (h15:keys.length<=15):PE X (.Dict keys values pos) (VY ji):=by
 intro aa s σ H Q I q;have hn:=I.aF.fresh (Zz s.heap.objs.size);have I1:=I.laid (a:=s.heap.objs.size) (o:=.dK []) (h':=s.heap.push { cls:=.type "dict", data:=.dict #[] }) (t':=s.toks) (λ_ _ q=>ZW _ q) (Zz _) (KS s.heap I.big);refine wpAny_Dict_walk (knd:=AY X.prog X.w) bf hl h0 h15 (aG (h aa _ σ _ _ I1 (q _ hn)) λws s2 ⟨ps,H2,I2,rel,e,kvs,ep,lk,q2⟩=>?_);subst ep;obtain⟨rs,c,rk⟩:=HR (P:=X.prog) (w:=X.w) rel;obtain⟨z,hd,vs0,r0,dd⟩:=Pg I2.aF e;cases r0;refine⟨rs,c,dd,λh' g6 hs=>⟨.ref s.heap.objs.size,_,?_,Zj,q2⟩⟩
 have hz:(Dy [] kvs).length<=sizeLine:=by
  have h1:=Ea kvs [];rw[length_nil]at h1;rw[sizeLine_eq];omega
 have he:∃q,h'.get? s.heap.objs.size=some q:=let ⟨q,_,_,hq,_⟩:=g6;⟨q,hq⟩
 exact HA I2 (by rw[e];exact True.intro) hs he (MB hz hd (rk.merge .nil) g6)
def IsD (H:Hp) (a:Xd):Prop:=(∃kvs,Rd H a (.dK kvs))\/∃kvs,Rd H a (.dT kvs)
def Pj (I:Inv X aa σ H s) (d:IsD H a) :
  s.TypeIs (.ref a) "dict" /\ (∀b,Value.ref a=.ref b->∃ob,s.heap.get? b=some ob/\ob.dict=none)/\(a==sysModules)=false:=by
 rcases d with⟨kvs,e⟩ |⟨kvs,e⟩
 ·obtain⟨_,hd,vs,_,dd⟩:=Gm I.aF e;refine⟨dd.typeIs,λb q=>?_,hd⟩;cases q;obtain⟨ob,_,_,h1,h2,_⟩:=dd;exact⟨ob,h1,h2.2.1⟩
 ·obtain⟨_,hd,xs,_,dd⟩:=KQ I.aF e;refine⟨dd.typeIs,λb q=>?_,hd⟩;cases q;obtain⟨ob,_,_,h1,h2,_⟩:=dd;exact⟨ob,h1,h2.2.1⟩
end L2
namespace Att
open PySem PySem.W PySem.Calls PyProof.Rows
def Gx {P:Params}:∀(ns:List Int) (vs:Xb),WellAll P h vs (ns.map WData.int)->IntsAre vs ns:=by
 intro ns;induction ns with
 |nil =>
  intro vs w;rw[map_nil]at w;cases w;exact .nil
 |cons n ns ih =>
  intro vs w;rw[map_cons]at w;cases w with
  |cons a b =>
   cases a;exact .cons _ _ (ih _ b)
def ON {l:OpenLaw}{n:Nat} (hn:l.most=some n) {P:Params}{args:List WData}{vals:Xb}
    (cf:l.row.toRowW.claim.pre args=true) (hwl:WellAll P h vals args) :
    ∃a vs ns,vals=[Value.ref a]/\args=[WData.list (ns.map WData.int)]/\h.get? a=some { cls:=.type "list", data:=.seq vs.toArray }/\IntsAre vs ns/\ns.length<=n:=by
  have ai:WShape.hasAll [] args [.list .int]=true:=(pre_splitW cf).1;have hc:l.pre.holds [] { args:=args }=true:=(pre_splitW cf).2;obtain⟨d,r,rfl,h1,h2⟩:=hasAllW_cons ai;obtain rfl:=hasAllW_nil h2;obtain⟨xs,rfl,h3⟩:=hasW_list h1;obtain⟨ns,rfl⟩:=items_int h3
  have ba:ns.length<=n:=by
    unfold OpenLaw.pre at hc
    have h4:(WTm.not (.lt (.lit (.int (n:Int))) (.len (.arg 0)))).holds [] { args:=[.list (ns.map .int)] }=true:=by
      have h4:=(holds_andW hc).1;rw[hn]at h4;exact h4
    have h5:=condW_of h4 (w_not (w_lt w_lit (w_len_list (w_arg rfl))));rw[AS]at h5;refine Nat.le_of_not_lt λq=>?_;have q':(n:Int)<((ns.length:Nat):Int):=by omega
    first
      | (rw[ZM q']at h5;exact absurd h5 qc)
      | (simp at h5;omega)
  cases hwl with
  |cons w1 w2 =>
    cases w2;cases w1 with
    |list ho bf=>exact⟨_,_,ns,rfl,rfl,ho,Gx ns _ bf,ba⟩
def OO (l:OpenLaw) (args:List WData):l.row.toRowW.claim.post args (.bool true) args=true :=
 postW_of (r:=l.row.toRowW) (X:=(true==true))
  (show WShape.has [] (.bool true) .bool=true by first |rfl |decide |simp[WShape.has,WShape.arms,WShape.armsAll])
  (show(WTm.eq .res (.lit (.bool true))).value [] { args:=args,res:=some (.bool true),after:=args }=some (.bool (true==true))from w_eq_bool (w_res rfl) w_lit) rfl
def attach_call {l:OpenLaw}{n:Nat}{q:Program}{loose:Xa}{XP:(Str->Option Value)->Heap->Prop}{YP:World->Heap->Prop}{d:DefRec}
  (hn:l.most=some n) (hdf:d.params.defaults=[])
  (call:∀(w:World) (aX aH:Xe) (mg mb:SV) (fa:Xd) (o:Obj) (pm cd doc:Value) (a:Xd) (vs:Xb) (ns:List Int),
   Ground q loose [] XP w aX mg mb aH.heap->YP w aH.heap ->
   aH.heap.get? fa=some o->o.data=.func (docDef d.name d.params d.body d.scope pm cd doc)->aH.heap.CodeRec cd d.name->mg d.name=some (.ref fa) ->
   aH.heap.get? a=some { cls:=.type "list", data:=.seq vs.toArray }->IntsAre vs ns->ns.length<=n->aH.gens=#[] ->
   codeAny (model l.prog w) callerA (.call (.ref fa) ⟨[.ref a],[]⟩) (λr s'=>r=.ok (.ret (.bool true))/\OldK aH.heap s'.heap/\s'.os=aH.os/\AllBare s'.gens) aH) :
  WalkO q loose XP YP l.row.toRowW d [] (λf vs=>PySem.call f vs):=by
 intro w aX aH mg mb G Y fa o pm cd doc dV kV ho hd fh hD hmg hg args vals as cf hlay hrd hwl hlo;obtain rfl:dV=.none:=Dflts.none hD hdf;obtain rfl:kV=.none:=Dflts.noKw hD;obtain⟨a,vs,ns,rfl,rfl,cw,bx,ba⟩:=ON hn cf hwl;refine enter_call (codeAny_mono (call w aX aH mg mb fa o pm cd doc a vs ns G Y ho (fd_plain hd) fh hmg cw bx ba hg) λr s' hq=>?_);obtain⟨rfl,h2,h3,h4⟩:=hq;exact⟨.inl ⟨.bool true,.bool true,[],rfl,λ_=>rfl,.bool true,OO l _,λ_=>⟨List.Pairwise.nil,λ_ hm=>(nomatch hm)⟩⟩,h2,h3,h4⟩
end Att
namespace L2
open PySem PySem.Spec PyProof.Rows
def F1:∀ {vs:Xb}{ns:List Int},IntsAre vs ns->Vals (ns.map V.int) vs
 |_,_,.nil=>.nil
 |_,_,.cons n t h=>.cons ⟨t,rfl⟩ (F1 h)
noncomputable def inClass (s:Stmt) (j:Nat):Stmt:=match s with
 | .ClassDef _ _ _ body _ _ _ _ _ _ _=>body.getD j (.Pass ⟨0,0,0,0⟩)
 |_=>.Pass ⟨0,0,0,0⟩
noncomputable def defArgs (s:Stmt):Arguments:=match s with
 | .FunctionDef _ a _ _ _ _ _ _ _ _=>a
 |_=>{ posonlyargs:=[],args:=[],vararg:=none,kwonlyargs:=[],kw_defaults:=[],kwarg:=none,defaults:=[] }
noncomputable def defBody (s:Stmt):List Stmt:=match s with
 | .FunctionDef _ _ b _ _ _ _ _ _ _=>b
 |_=>[]
noncomputable def defScope (s:Stmt):Scope:=match s with
 | .FunctionDef _ _ _ _ _ _ sc _ _ _=>sc
 |_=>{ kind:=.function,names:=[],isGenerator:=false,isCoroutine:=false }
abbrev aK:gL:=λ_ _ _ _ _ _=>False
abbrev E0:XK:=λ_ _ _=>False
def AR:BN aK X E0:=λ_ _ _ _ _ _ _ h=>h.elim
structure aV (K:FG) (x qual:Str) (st:Stmt) (f:Xd) (fd:FuncData):Prop where
 ex:∃(oc:Value) (od:Option Xd) (kV doc pm:Value) (an:Option Xd) (ad ct:Value) (gB:Array (Option Value)),
  fd=W.fnOf x qual (defArgs st) (defBody st) (defScope st) .none kV doc pm an ad ct/\K.lookup f=some ⟨oc,od,.func fd,gB⟩/\W.codeIn K ad qual=true
 kp:W.keepIn K (.ref f)=true
section
def aV.ok {qual:Str}{st:Stmt}{f:Xd}{fd:FuncData}{ps:Xa}{k:Nat}{sp:Sp} (F:aV K x qual st f fd) (S:AN N ps (defScope st)) (len:∀vs H Q E,sp vs H Q E->vs.length=ps.length)
  (bg:∀(ad:Value) (A:Around) (outer:List Env) (s:Xe) (H:Hp) (vs:Xc) (Q:VK) (E:XK),aE k (A.deeper (envOfC qual (defScope st) s.heap.objs.size f ad))->sp vs H Q E ->
   ∃t,eE (Ao aK P w K mg base N qual (defScope st) f ad A outer s H E).dH (defBody st) t/\t { nx:=λ_ H'=>Q .aI H',rt:=Q } (Bw N vs) H):AU P w K mg base aK (k+1) f fd ps sp:=by
 obtain⟨oc,od,kV,doc,pm,an,ad,ct,gB,rfl,lk,fh⟩:=F.ex;refine NU lk fh S len λA outer s H vs Q E hr gP=>?_;obtain⟨t,h,q⟩:=bg ad A outer s H vs Q E hr gP;exact⟨t,h.dH,q⟩
structure BdC (P:Program) (w:World) (K:FG) (mg:SV) (base:Heap) (f:Xd) (qual:Str) (st:Stmt) (N ps:Xa) (k:Nat) (vs:Xc) (H:Hp) (Q:VK) (E:XK):Prop where
 len:vs.length=ps.length
 ok:∀(ad:Value) (A:Around) (outer:List Env) (s:Xe),aE k (A.deeper (envOfC qual (defScope st) s.heap.objs.size f ad)) ->
  ∃t,eE (Ao aK P w K mg base N qual (defScope st) f ad A outer s H E |>.dH) (defBody st) t/\t { nx:=λ_ H'=>Q .aI H',rt:=Q } (Bw N vs) H
def aV.m {qual:Str}{st:Stmt}{f:Xd}{fd:FuncData}{ps:Xa}{k:Nat}{sp:Sp} (F:aV K x qual st f fd) (S:AN N ps (defScope st)) (h:∀vs H Q E,sp vs H Q E->BdC P w K mg base f qual st N ps k vs H Q E) :
  AU P w K mg base aK (k+1) f fd ps sp:=F.ok S (λvs H Q E q=>(h vs H Q E q).len) λc A o s H vs Q E r q=>(h vs H Q E q).ok c A o s r
def aV.binds {qual:Str}{st:Stmt}{f:Xd}{fd:FuncData}{ps:Xa} (F:aV K x qual st f fd)
  (h:∀(kV doc pm:Value) (an:Option Xd) (ad ct:Value) (us:Xb),us.length=ps.length->bindArgs (W.fnOf x qual (defArgs st) (defBody st) (defScope st) .none kV doc pm an ad ct) ⟨us,[]⟩=pure (ps.zip us)):Binds K fd ps []:=by
 obtain⟨oc,od,kV,doc,pm,an,ad,ct,gB,rfl,lk,fh⟩:=F.ex;exact .all (h kV doc pm an ad ct)
def fun_mk {qual:Str}{st:Stmt}{f:Xd}{oc:Value}{od an:Option Xd}{gB:Array (Option Value)}{kV doc pm ad ct:Value} (l:K.lookup f=some ⟨oc,od,.func (W.fnOf x qual (defArgs st) (defBody st) (defScope st) .none kV doc pm an ad ct),gB⟩)
  (c:W.codeIn K ad qual=true) (k:W.keepIn K (.ref f)=true):aV K x qual st f (W.fnOf x qual (defArgs st) (defBody st) (defScope st) .none kV doc pm an ad ct):=⟨⟨oc,od,kV,doc,pm,an,ad,ct,gB,rfl,l,c⟩,k⟩
end
def Dz {k:Nat} (hr:aE k A):A.units+1<cLine:=Nat.lt_of_le_of_lt (Nat.add_le_add_left (by decide:1<=64) _) hr.units
def AK {n:Nat} (h:n<=1000):n<sizeLine:=Nat.lt_of_le_of_lt h qc
section
def pv (i:Nat) (hN:X.N[i]?=some x:=by rfl) (hv:Vis X.env.scope x:=by first |exact Or.inl rfl |exact Or.inr (Or.inl rfl) |exact Or.inr (Or.inr rfl)) (hd:(x==("__debug__" : Str))=false:=by decide)
  (fh:(x==("__classdict__" : Str))=false:=by decide):PE X (.Name x pos) (Cj i):=PJ hN hv hd fh
end
def AT {A B:Prop} (h:B):if false=true then A else B:=by
 rw[Zr Bool.false_ne_true];exact h
def Ac {A B:Prop} (h:A):if true=true then A else B:=by
 rw[Zq rfl];exact h
def B4 {c A B:Prop} [Decidable c] (h1:c->A) (h2:¬ c->B):if c then A else B:=by
 by_cases h:c
 ·rw[Zq h];exact h1 h
 ·rw[Zr h];exact h2 h
def Pk {c A B:Prop} [Decidable c] (hc:c) (h:B):if (!decide c)=true then A else B:=by
 rw[ZM hc];exact AT h
def aA (H H':Hp):Prop:=∀b o,H b=some o->H' b=some o
def aA.refl (H:Hp):aA H H:=λ_ _ h=>h
def aA.trans {H1 H2:Hp} (a:aA H H1) (b:aA H1 H2):aA H H2:=λc o h=>b c o (a c o h)
def aA.seq (e:aA H H') (h:aN K H a xs):aN K H' a xs:=by
 rcases h with (h |⟨o,h⟩) |h
 ·exact .inl (.inl (e _ _ h))
 ·exact .inl (.inr ⟨o,e _ _ h⟩)
 ·exact .inr h
section
variable {κ:Type} [DecidableEq κ]
def NZ:∀ {l:List κ}{k:κ},l.Nodup->¬ k∈l->(l++[k]).Nodup
 | [],k,_,_=>by simp
 |a::r,k,h,hk=>by
  obtain⟨h1,h2⟩:=Zt.mp h;show(a::(r++[k])).Nodup;refine Zt.mpr ⟨λm=>?_,NZ h2 λm=>hk (mem_cons.mpr (Or.inr m))⟩;rcases mem_append.mp m with q |q
  ·exact h1 q
  ·exact hk (mem_cons.mpr (Or.inl (ZH.mp q).symm))
end
end L2
end
section
variable {X:L2.Cx}{H:L2.Hp}{H':L2.Hp}{s:PySem.Shared}{pos:PySem.Pos}{σ:L2.St}{P:PySem.Program}{w:PySem.World}{A:PySem.Around}{aa:LO}{x:PySem.Str}{a:PySem.Addr}{K:FG}{C:PySem.Addr}{E:VS}{h:PySem.Heap}{us:List PySem.Value}{u:PySem.Value}{xs:List L2.V}{e:PySem.Expr}{te:L2.TE}{base:PySem.Heap}{N:List PySem.Str}{mg:SV}
section
namespace L2
open PySem PySem.Spec PyProof.Rows
def Inv.track {o:HO} (I:Inv X aa σ H s) (hn:H a=none) (hL:a≠X.env.locals) (h1:a∈X.ex\/X.aX.heap.objs.size<=a)
  (h2:∀x c,X.env.cells.lookup x=some c->c≠a) (h3:∀p∈X.pn++aa,p.1≠a) (new:aQ X.prog X.w (upd H a o) s.heap a o):Inv X aa σ (upd H a o) s:=by
 have ax:∀b u,H b=some u->b≠a:=λb u e=>AJ e hn
 refine I.step (h':=s.heap) (H':=upd H a o) (g':=s.gens) (t':=s.toks) (d':=s.drawn) (ch:=[a])
  (λb hb=>by have e:b=a:=by simpa using hb
             subst e;exact⟨h1,hL,h2,h3⟩)
  (λb o _ _ _ e _=>e) (λb o _ _ _ e _=>⟨o.slots,e⟩) (λb o hc e n=>by rw[AH (by simpa using hc)];exact n)
  (λb o _ e=>⟨o,e⟩) (λb xs e=>by rw[AH (ax b _ e)];exact e) (λb o u e=>by rw[AH (ax b _ e)];exact e)
  (λb ps e=>⟨#[],by rw[AH (ax b _ e),e];simp⟩) (λm h=>h) (λb u e=>?_) I.bare
 by_cases hb:b=a
 ·subst hb;rw[AB]at e;cases e;exact new
 ·rw[AH hb]at e;exact(I.aF b u e).eR (λc v _ q=>q) (λc q=>by rw[AH (ax c _ q)];exact q) λc xs q=>by rw[AH (ax c _ q)];exact q
structure aY (jG sc:Scope) (N N':Xa) (ix:List (Option Nat)):Prop where
 kind:sc.kind=.function
 nocell:∀y∈sc.names,y.2≠ .cell
 free:∀y∈sc.names,y.2=.free->jG.names.lookup y.1=some .cell\/jG.names.lookup y.1=some .free
 loc:∀y∈sc.names,y.2=.local->sc.names.lookup y.1=some .local
 len:ix.length=N'.length
 slot:∀(j:Nat) (x:Str) (i:Nat),N'[j]?=some x->ix[j]?=some (some i)->N[i]?=some x/\sc.names.lookup x=some .free
noncomputable def S8 (sc:Scope) (N:Xa) (x:Str):Option Nat->Bool
 |none=>true
 |some i=>decide (N[i]?=some x)&&decide (sc.names.lookup x=some .free)
noncomputable def Da (sc:Scope) (N:Xa):Xa->List (Option Nat)->Bool
 | [],[]=>true
 |x::r,o::os=>S8 sc N x o&&Da sc N r os
 |_,_=>false
noncomputable def Iq (jG sc:Scope) (N N':Xa) (ix:List (Option Nat)):Bool :=
 decide (sc.kind=.function)&&(sc.names.all λy=>decide (y.2≠ .cell)&&(decide (y.2≠ .free) ||decide (jG.names.lookup y.1=some .cell) ||decide (jG.names.lookup y.1=some .free)) &&
  (decide (y.2≠ .local) ||decide (sc.names.lookup y.1=some .local)))&&Da sc N N' ix
def HS {sc:Scope}{N:Xa}:∀ {N':Xa}{ix:List (Option Nat)},Da sc N N' ix=true->ix.length=N'.length
 | [],[],_=>rfl
 | [],_::_,h=>by simp[Da]at h
 |_::_,[],h=>by simp[Da]at h
 |x::r,o::os,h=>by
  simp only[Da,Bool.and_eq_true]at h;simp only[length_cons,HS h.2]
def Ir {sc:Scope}{N:Xa}:∀ {N':Xa}{ix:List (Option Nat)},Da sc N N' ix=true->∀(j:Nat) (x:Str) (i:Nat),N'[j]?=some x->ix[j]?=some (some i)->N[i]?=some x/\sc.names.lookup x=some .free
 | [],_,_,_,_,_,e,_=>by simp at e
 |_::_,[],h,_,_,_,_,_=>by simp[Da]at h
 |y::r,o::os,h,j,x,i,e1,e2=>by
  simp only[Da,Bool.and_eq_true]at h;cases j with
  |zero =>
   simp only[List.getElem?_cons_zero,Option.some.injEq]at e1 e2;subst e1 e2;have h1:=h.1;simp only[S8,Bool.and_eq_true,decide_eq_true_eq]at h1;exact h1
  |succ j =>
   simp only[List.getElem?_cons_succ]at e1 e2;exact Ir h.2 j x i e1 e2
def aY.of {jG sc:Scope}{N':Xa}{ix:List (Option Nat)} (h:Iq jG sc N N' ix=true):aY jG sc N N' ix:=by
 simp only[Iq,Bool.and_eq_true,decide_eq_true_eq,List.all_eq_true,Bool.or_eq_true]at h;obtain⟨⟨h1,h2⟩,h3⟩:=h;refine⟨h1,λy hy=>(h2 y hy).1.1,λy hy e=>?_,λy hy e=>?_,HS h3,Ir h3⟩
 ·rcases (h2 y hy).1.2 with (z |z) |z
  ·exact absurd e z
  ·exact .inl z
  ·exact .inr z
 ·rcases (h2 y hy).2 with z |z
  ·exact absurd e z
  ·exact z
noncomputable abbrev Em (env:Env):Str×NameKind->Str×NameKind:=λ(n,k)=>if (k==NameKind.free&&env.scope.kind == .function&&env.kindOf n==some .cell)then (n,NameKind.cell)else (n,k)
def KU (env:Env) (y:Str×NameKind):(Em env y).1=y.1:=by
 obtain⟨n,k⟩:=y;simp only[Em];split <;> rfl
def OP (env:Env) (n:Str):(Em env (n,.free)).2=.cell\/(Em env (n,.free)).2=.free:=by
 simp only[Em];split
 ·exact .inl rfl
 ·exact .inr rfl
def Rb (env:Env) (y:Str×NameKind) (h:y.2≠ .free):Em env y=y:=by
 obtain⟨n,k⟩:=y;have e:(k==NameKind.free)=false:=by simpa using h
 simp only[Em,e,Bool.false_and,Bool.false_eq_true,if_false]
def Eb {env:Env}:∀ {names:List (Str×NameKind)}{x:Str},names.lookup x=some .free->(names.map (Em env)).lookup x=some .cell\/(names.map (Em env)).lookup x=some .free
  | [],_,h=>by simp at h
  | (n,k)::r,x,h=>by
    rw[map_cons]
    have e:Em env (n,k)=(n,(Em env (n,k)).2):=by
      have:=KU env (n,k);exact Prod.ext this rfl
    rw[e];cases hx:x==n with
    |true =>
      simp only[ZA,hx]at h ⊢;cases h;rcases OP env n with z |z
      · rw[z];exact .inl rfl
      · rw[z];exact .inr rfl
    |false =>
      simp only[ZA,hx]at h ⊢;exact Eb h
def Gn {env:Env}:∀ {names:List (Str×NameKind)}{x:Str},(∀y∈names,y.2≠ .cell)->((names.map (Em env)).lookup x=some .cell\/(names.map (Em env)).lookup x=some .free)->(x,NameKind.free)∈names
  | [],_,_,h=>by simp at h
  | (n,k)::r,x,hc,h=>by
    rw[map_cons]at h;have e:Em env (n,k)=(n,(Em env (n,k)).2):=Prod.ext (KU env (n,k)) rfl;rw[e]at h;cases hx:x==n with
    |true =>
      simp only[ZA,hx]at h;have exn:x=n:=by simpa using hx
      subst exn;by_cases hk:k=.free
      · subst hk;exact ZJ
      · rw[Rb env (x,k) hk]at h
        rcases h with z |z
        · have:k=.cell:=by simpa using z
          exact absurd this (hc (x,k) ZJ)
        · have:k=.free:=by simpa using z
          exact absurd this hk
    |false =>
      simp only[ZA,hx]at h;exact ZR _ (Gn (λy hy=>hc y (ZR _ hy)) h)
def Ji {env:Env}{f:Str×NameKind->List (Str×Xd)->Sem (ForInStep (List (Str×Xd)))}
  (h1:∀y acc,y.2≠ .free->f y acc=pure (.yield acc)) (h2:∀y acc c,y.2=.free->env.cells.lookup y.1=some c->f y acc=pure (.yield ((y.1,c)::acc))) :
  ∀(names:List (Str×NameKind)) (acc:List (Str×Xd)),(∀y∈names,y.2=.free->∃c,env.cells.lookup y.1=some c)->(∀x c,acc.lookup x=some c->env.cells.lookup x=some c) ->
   ∃cl,forIn names acc f=(pure cl:Sem _)/\(∀x c,cl.lookup x=some c->env.cells.lookup x=some c)/\(∀y∈names,y.2=.free->∃c,cl.lookup y.1=some c)/\∀x c,acc.lookup x=some c->∃c',cl.lookup x=some c'
 | [],acc,_,ha=>⟨acc,rfl,ha,λ_ hy=>(nomatch hy),λx c e=>⟨c,e⟩⟩
 |y::r,acc,hn,ha=>by
  have hr:∀z∈r,z.2=.free->∃c,env.cells.lookup z.1=some c:=λz hz=>hn z (ZR _ hz);by_cases hy:y.2=.free
  ·obtain⟨c,hc⟩:=hn y ZJ hy
   obtain⟨cl,e,p1,p2,p3⟩:=Ji h1 h2 r ((y.1,c)::acc) hr λx d e=>by
    cases hx:x==y.1 with
    |true =>
     simp only[ZA,hx,Option.some.injEq]at e;have:x=y.1:=by simpa using hx
     rw[this,←e];exact hc
    |false =>
     simp only[ZA,hx]at e;exact ha x d e
   refine⟨cl,by rw[List.forIn_cons,h2 y acc c hy hc,pure_bind];exact e,p1,λz hz hf=>?_,λx d e=>?_⟩
   ·rcases mem_cons.mp hz with rfl |hz
    ·exact p3 z.1 c (by simp[ZA])
    ·exact p2 z hz hf
   ·cases hx:x==y.1 with
    |true=>exact p3 x c (by simp[ZA,hx])
    |false=>exact p3 x d (by simp only[ZA,hx];exact e)
  ·obtain⟨cl,e,p1,p2,p3⟩:=Ji h1 h2 r acc hr ha;refine⟨cl,by rw[List.forIn_cons,h1 y acc hy,pure_bind];exact e,p1,λz hz hf=>?_,p3⟩;rcases mem_cons.mp hz with rfl |hz
   ·exact absurd hf hy
   ·exact p2 z hz hf
def Na {env:Env}{scope:Scope} (hn:∀y∈scope.names,y.2=.free->∃c,env.cells.lookup y.1=some c) :
  ∃cl,closureFor scope env=pure cl/\(∀x c,cl.lookup x=some c->env.cells.lookup x=some c)/\∀y∈scope.names,y.2=.free->∃c,cl.lookup y.1=some c:=by
 obtain⟨cl,e,p1,p2,_⟩:=Ji (env:=env) (f:=λ(x:Str×NameKind) (r:List (Str×Xd))=>if (x.2==NameKind.free)=true then (cellOf env x.1 >>= λa=>pure (ForInStep.yield ((x.1,a)::r)))else pure (ForInStep.yield r)) (λy acc hy=>by
  have:(y.2==NameKind.free)=false:=by simpa using hy
  rw[this,Zr Bool.false_ne_true]) (λy acc c hy hc=>by
  have h0:(y.2==NameKind.free)=true:=by rw[hy];rfl
  rw[Zq h0];simp only[cellOf,hc]
  rfl) scope.names [] hn λx c e=>by simp at e
 refine⟨cl,?_,p1,p2⟩;have e0:closureFor scope env=(forIn scope.names [] (λ(x:Str×NameKind) (r:List (Str×Xd))=>if (x.2==NameKind.free)=true then (cellOf env x.1 >>= λa=>pure (ForInStep.yield ((x.1,a)::r)))else pure (ForInStep.yield r)) >>= λcs=>pure cs):=rfl;rw[e0,e];rfl
noncomputable def Al (X:Cx) (N':Xa) (scope:Scope) (cl:List (Str×Xd)) (s:Xe) (H:Hp) (C:Xd) (fp:List Xd) (pn:LO):Cx where
 prog:=X.prog
 w:=X.w
 K:=X.K
 mg:=X.mg
 base:=X.base
 A:=X.A
 N:=N'
 aX:=s
 eV:=H
 env:=compEnvC scope cl C X.env
 outer:=X.stack
 stack:=X.stack
 ex:=fp
 fn:=λ_=>false
 calm:=X.calm
 pn:=pn
 xe:=λ_ _=>False
noncomputable def Cc (ix:List (Option Nat)) (σ:St):St:=ix.map λo=>o.bind λi=>(σ[i]?).join
def Rc {ix:List (Option Nat)}{j:Nat}{v:V} (h:(Cc ix σ)[j]?=some (some v)):∃i,ix[j]?=some (some i)/\σ[i]?=some (some v):=by
 unfold Cc at h;rw[ZF]at h;cases e:ix[j]? with
 |none=>rw[e]at h;cases h
 |some o =>
  rw[e]at h;simp only[Option.map_some,Option.some.injEq]at h;cases o with
  |none=>cases h
  |some i =>
   refine⟨i,rfl,?_⟩;simp only[Option.bind_some]at h;cases q:σ[i]? with
   |none=>rw[q]at h;cases h
   |some u=>rw[q]at h;simp only[Option.join_some]at h;rw[h]
section
variable {N':Xa}{ix:List (Option Nat)}{scope:Scope}{cl:List (Str×Xd)}{fp:List Xd}
def Re (I:Inv X aa σ H s) (hf:aY X.env.scope scope X.N N' ix) (c1:∀x c,cl.lookup x=some c->X.env.cells.lookup x=some c) (c2:∀y∈scope.names,y.2=.free->∃c,cl.lookup y.1=some c)
  (hC:s.heap.objs.size<=C) (ie:∀b∈fp,Ef X aa H b) (aL:∀b∈fp,b<s.heap.objs.size):(Al X N' scope cl s H C fp (X.pn++aa)).Ok where
 mod:=I.mod
 kind:=hf.kind
 glob:=I.ok.glob
 blt:=I.ok.blt
 above:=hC
 inj:=λx y c e1 e2=>I.ok.inj x y c (c1 x c e1) (c1 y c e2)
 has:=λx h=>by
  have hm:(x,NameKind.free)∈scope.names:=Gn (env:=X.env) hf.nocell h;exact c2 (x,.free) hm rfl
 iZ:=λx c h=>by cases h
 hd:=I.ok.hd
 frames:=I.ok.frames
 gA:=.inl rfl
 exf:=λb hb=>⟨ZD (Z1 (aL b hb) hC),λx c e=>(ie b hb).2.2.2.2.1 x c (c1 x c e)⟩
 bs:=I.bs
 gK:=Nat.le_trans I.ok.gK I.sz
 gj:=λb o e hb=>by
  rcases (ie b hb).2.2.2.1 with z |z
  ·exact I.ok.gj b o e z
  ·exact absurd (Z1 (Z1 (lt_size e) I.ok.gK) z) (ZG _)
 fZ:=λb hb z=>by
  rcases mem_cons.mp (I.d7 b z)with e |e
  ·exact(ie b hb).2.1 e
  ·exact(ie b hb).2.2.1 e
 df:=I.stack
 ig:=I.stkFree
def HU (I:Inv X aa σ H s) (hf:aY X.env.scope scope X.N N' ix) (c1:∀x c,cl.lookup x=some c->X.env.cells.lookup x=some c) (c2:∀y∈scope.names,y.2=.free->∃c,cl.lookup y.1=some c)
  (hC:s.heap.objs.size<=C) (ie:∀b∈fp,Ef X aa H b) (aL:∀b∈fp,b<s.heap.objs.size) {eF:Heap}{tk:Nat}{m:SV} (old:∀b o,s.heap.get? b=some o->eF.get? b=some o) (jI:eF.Ns C m) :
  Inv (Al X N' scope cl s H C fp (X.pn++aa)) [] (Cc ix σ) H { s with heap:=eF,toks:=tk } where
 ok:=Re I hf c1 c2 hC ie aL
 os:=rfl
 bare:=I.bare
 base:=Un.kept old
 loc:=⟨m,jI,λj x v e1 e2 e3=>by
  obtain⟨i,ei,ev⟩:=Rc e2;obtain⟨hN,b8⟩:=hf.slot j x i e1 ei;obtain⟨mX,_,hl⟩:=I.loc
  have hm:(x,NameKind.free)∈scope.names:=by
   have:∀ {l:List (Str×NameKind)}{k:NameKind},l.lookup x=some k->(x,k)∈l:=λ{l k}=>by
    induction l with
    |nil=>intro e;simp at e
    |cons y r ih =>
     intro e;obtain⟨n,kk⟩:=y;cases hx:x==n with
     |true =>
      simp only[ZA,hx,Option.some.injEq]at e;have:x=n:=by simpa using hx
      subst this e;exact ZJ
     |false =>
      simp only[ZA,hx]at e;exact ZR _ (ih e)
   exact this b8
  have hk:=hf.free _ hm rfl;obtain⟨u,r,q⟩:=hl i x v hN ev (.inr hk);refine⟨u,r,.inr ⟨Eb (env:=X.env) b8,?_⟩⟩;obtain⟨c,hc⟩:=c2 _ hm rfl;refine⟨c,hc,?_⟩;rcases q with⟨k,_⟩ |⟨_,c',iU,z⟩
  ·have k':X.env.scope.names.lookup x=some .local:=k;rcases hk with a |a <;> (rw[k']at a;cases a)
  ·rw[c1 x c hc]at iU;cases iU
   exact z.keeps old⟩
 cell:=λx c e=>by
  obtain⟨v,z⟩:=I.cell x c (c1 x c e);exact⟨v,z.keeps old⟩
 free:=I.aF.fresh hC
 cJ:=λx c e=>I.cJ x c (c1 x c e)
 pin:=λp hp=>by
  have hp':p∈X.pn++aa:=by
   have z:=hp;rw[Zu]at z;exact z
  obtain⟨e,n,ne,nf,d⟩:=I.pin p hp';refine⟨old _ _ e,n,ZD (Z1 (lt_size e) hC),λz=>?_,d⟩;rcases mem_cons.mp (I.d7 p.1 z)with q |q
  ·exact ne q
  ·exact nf q
 aF:=I.aF.kept old
 len:=by
  show(Cc ix σ).length=N'.length;unfold Cc;rw[AS];exact hf.len
def Iu {pins':LO}{aJ:St}{s':Xe} (I:Inv X aa σ H s) (ie:∀b∈fp,Ef X aa H b) (J:Inv (Al X N' scope cl s H C fp (X.pn++aa)) pins' aJ H' s'):Inv X aa σ H' s' :=
 I.call' (ch:=fp) J.os J.base J.aF J.bare λb hb=>⟨(ie b hb).2.2.2.1,(ie b hb).2.1,(ie b hb).2.2.2.2.1,(ie b hb).2.2.2.2.2⟩
end
def i5 (X:Cx) (ifs:List Expr) (t:TT):Prop :=
 ∀(aa:LO) (s:Xe) (σ:St) (H:Hp) (Q:Bool->Hp->Prop),Inv X aa σ H s->t σ H Q ->
  wpAny (model X.prog X.w) X.A (forIn ifs true λc r=>if r=true then do let ok ←isTrue c X.env (eval c X.env);pure (ForInStep.yield ok)else pure (ForInStep.yield r)) (TP X aa σ Q) X.xe s
def Ws:TT:=λ_ H Q=>Q true H
def Cl:i5 X [] Ws:=λaa s σ H Q I h=>wpAny_tests_nil ⟨H,I,h⟩
def Rf {c:Expr}{t:TT} (h:PT X c t):i5 X [c] t:=λaa s σ H Q I q=>wpAny_tests_one (h aa s σ H Q I q)
def F2 (wi:TI) (g:TG) (tt:TT) (te:TE) (ix:List (Option Nat)) (R:Xc->Hp->Prop):St->Hp->Prop:=λσ H=>wi σ H λJ H1=>∃W:Nat->Nat->Xc->Hp->Prop,(∃m,W 0 m [] H1)/\∀i m ys H,W i m ys H ->
 (J.stop i H/\ys.length<=sizeLine/\R ys H) \/
 (J.go i H/\∃N:Xc->Hp->Prop,(∀cX H',N cX H'->cX.length<=sizeLine/\∃m',m'<m/\W (i+1) m' cX H') /\
  ∀x H',J.g8 i H x H'->g x (Cc ix σ) H' λcK H2=>tt cK H2 λb H3=>if b=true then te cK H3 λy H4=>N (ys++[y]) H4 else N ys H3)
def PGk (X:Cx) (tg:Expr) (ix:List (Option Nat)) (g:TG):Prop :=
 ∀(aa:LO) (s:Xe) (σ:St) (H:Hp) (v:V) (u:Value) (Q:St->Hp->Prop),Inv X aa (Cc ix σ) H s->RelV v u->g v (Cc ix σ) H Q ->
  wpAny (model X.prog X.w) X.A (assign tg X.env u) (λ_ s'=>∃aJ H',Inv X aa aJ H' s'/\(∀(j:Nat) (v:V),(Cc ix σ)[j]?=some (some v)->aJ[j]?=some (some v))/\Q aJ H') X.xe s
def HV {gO:List (Option Nat)} (h:PG X (.Name x pos) (Cy 0)):PGk X (.Name x pos) (none::gO) (Cy 0):=by
 intro aa s σ H v u Q I r q;refine aG (h aa s _ H v u (λaJ H'=>(∀(j:Nat) (v:V),(Cc (none::gO) σ)[j]?=some (some v)->aJ[j]?=some (some v))/\Q aJ H') I r ⟨λj w e=>?_,q⟩) λ_ s' ⟨aJ,H',I',k,q⟩=>⟨aJ,H',I',k,q⟩;cases j with
 |zero=>cases e
 |succ j=>exact e
def Pl {tg:Expr}{gO:List (Option Nat)} (h:PG X tg (RH K 2 (HI (Cy 0) (HI (Cy 1) RG)))):PGk X tg (none::none::gO) (RH K 2 (HI (Cy 0) (HI (Cy 1) RG))):=by
 intro aa s σ H v u Q I r q;obtain⟨a,xs,e1,e2,e3,v1,r1,e4,v2,r2,e5,e6,q⟩:=q;refine aG (h aa s _ H v u (λaJ H'=>(∀(j:Nat) (v:V),(Cc (none::none::gO) σ)[j]?=some (some v)->aJ[j]?=some (some v))/\Q aJ H') I r ⟨a,xs,e1,e2,e3,v1,r1,e4,v2,r2,e5,e6,λj w e=>?_,q⟩) λ_ s' ⟨aJ,H',I',k,q⟩=>⟨aJ,H',I',k,q⟩
 match j with
 |0=>cases e
 |1=>cases e
 |j+2=>exact e
structure S9 (RD:Cx->Prop) (P:Program) (w:World) (K:FG) (tg:Expr) (J:It) (fp:List Xd) (it:Xd) (tn:Nat->Heap->Prop):Prop where
 obj:∀i h,tn i h->∀b∈fp,∃o,h.get? b=some o/\∀v,o.data≠ .cell v
 keep:∀i h h',tn i h->(∀b∈fp,∀o,h.get? b=some o->h'.get? b=some o)->tn i h'
 item:∀(X:Cx),X.prog=P->X.w=w->X.K=K->RD X->∀(i:Nat) (aa:LO) (s:Xe) (σ:St) (H:Hp) (E:VS),Inv X aa σ H s->(∀b∈fp,Ef X aa H b)->tn i s.heap->J.go i H ->
  wpAny (model P w) X.A (pyNext (.ref it)) (λr s1=>∃u,r=some u/\wpAny (model P w) X.A (letOwnedTupleGo tg (.ref it) u) (λ_ s2=>∃x H',Inv X aa σ H' s2/\RelV x u/\J.g8 i H x H'/\tn (i+1) s2.heap/\∀b∈fp,H' b=none) E s1) E s
 done:∀(X:Cx),X.prog=P->X.w=w->X.K=K->RD X->∀(i:Nat) (aa:LO) (s:Xe) (σ:St) (H:Hp) (E:VS),Inv X aa σ H s->(∀b∈fp,Ef X aa H b)->tn i s.heap->J.stop i H ->
  wpAny (model P w) X.A (pyNext (.ref it)) (λr s1=>r=none/\Inv X aa σ H s1) E s
 self:∀(A:Around) (i:Nat) (s:Xe) (Q:VS) (E:VS),tn i s.heap->Q (.ref it) s->wpAny (model P w) A (pyIter (.ref it)) Q E s
def PIg (RD:Cx->Prop) (X:Cx) (tg iter:Expr) (wi:TI):Prop:=∀(aa:LO) (s:Xe) (σ:St) (H:Hp) (R:It->Hp->Prop),Inv X aa σ H s->wi σ H R ->
 wpAny (model X.prog X.w) X.A (eval iter X.env) (λv s1=>wpAny (model X.prog X.w) X.A (pyIter v) (λitv s2=>∃(it:Xd) (fp:List Xd) (tn:Nat->Heap->Prop) (J:It) (H':Hp),itv=.ref it/\Inv X aa σ H' s2/\S9 RD X.prog X.w X.K tg J fp it tn/\tn 0 s2.heap/\(∀b∈fp,Ef X aa H' b)/\R J H') X.xe s1) X.xe s
def PI.g {tg iter:Expr}{wi:TI} (h:PI X tg iter wi):PIg (λX=>X.calm=true) X tg iter wi:=λaa s σ H R I q =>
 aG (h aa s σ H R I q) λv s1 z=>aG z λitv s2 ⟨it,fp,tn,J,H',e,I',T,r⟩=>⟨it,fp,tn,J,H',e,I',⟨T.obj,T.keep,T.item,T.done,T.self⟩,r⟩
section
variable {tg iter elt:Expr}{ifs:List Expr}{scope:Scope}{pos':Pos}{N':Xa}{ix:List (Option Nat)}{wi:TI}{g:TG}{tt:TT}
def DN {α:Type}{M:Model}{t:Sem α}{Q:α->Xe->Prop} (h:wpAny M A t Q (λ_ _=>False) s):wpAny M A t Q E s :=
 Zw h (λ_ _ q=>q) λ_ _ z=>z.elim
def OQ {RD:Cx->Prop}{use:Option (Value->Sem Unit)}{Qv:VS} (hf:aY X.env.scope scope X.N N' ix) (hc:∀cl s H C fp aa,RD (Al X N' scope cl s H C fp (X.pn++aa))) (hi:PIg RD X tg iter wi)
  (hg:∀cl s H C fp pn,PGk (Al X N' scope cl s H C fp pn) tg ix g) (ht:∀cl s H C fp pn,i5 (Al X N' scope cl s H C fp pn) ifs tt) (he:∀cl s H C fp pn,PE (Al X N' scope cl s H C fp pn) elt te)
  (hs:∀x,foldedSetIterable iter X.env x=pure x) {aa:LO}{s:Xe}{σ:St}{H:Hp}{R:Xc->Hp->Prop} (I:Inv X aa σ H s) (h:F2 wi g tt te ix R σ H)
  (cy:∀s' ys H' D C m,Inv X aa σ (upd H' D (.lst ys)) s'->R ys H'->H' D=none->s'.heap.Ns C m->X.aX.heap.objs.size<=C->C≠X.env.locals->(∀x c,X.env.cells.lookup x=some c->c≠C)->(∀p∈X.pn++aa,p.1≠C) ->
   upd H' D (.lst ys) C=none->compPost (model X.prog X.w) X.A X.xe use Qv (.ref D) C (.ok .next) s') :
  wpAny (model X.prog X.w) X.A (comprehension (.ListComp elt [⟨tg,iter,ifs,0⟩] scope pos) scope X.env pos' (newList []) false (eval iter X.env) use) Qv X.xe s:=by
 obtain⟨cl,cz,c1,c2⟩:=Na (env:=X.env) (scope:=scope) λy hy hyf=>by
  have:=hf.free y hy hyf;exact I.ok.has y.1 this
 refine wpAny_comprehension_free (use:=use) Zj hs cz hf.kind hf.loc (aG (hi aa s σ H _ I h) λv s1 h1=>aG h1 λitv s2 h2=>?_);obtain⟨it,fp,tn,J,H2,e,I2,T,jj,f2,W,⟨m0,w0⟩,turn⟩:=h2;subst e
 have aL:∀b∈fp,b<s2.heap.objs.size:=λb hb=>by
  obtain⟨o,e,_⟩:=T.obj _ _ jj b hb;exact lt_size e
 refine wpAny_newObj_type (wpAny_newFunctionEnv hf.nocell (by intro y hy;simp at hy) (λeF hns₁ dQ=>?_) hf.kind)
 dsimp only at hns₁ dQ ⊢
 generalize hH2:s2.heap.push { cls:=.type "list", dict:=none,data:=.seq ([]:Xb).toArray }=HP at hns₁ dQ ⊢;have hC:HP.objs.size=s2.heap.objs.size+1:=by rw[←hH2,Heap.size_push]
 have iV:s2.heap.objs.size≠HP.objs.size:=by rw[hC];exact ZD (Nat.lt_succ_self _)
 have eT:s2.heap.objs.size<=HP.objs.size:=by rw[hC];exact Nat.le_succ _
 have hCne:∀b,b<s2.heap.objs.size->b≠HP.objs.size:=λb hb=>by rw[hC];exact ZD (Nat.lt_succ_of_lt hb)
 have old:∀b o,s2.heap.get? b=some o->eF.get? b=some o:=λb o e=>dQ.extBut b o (hCne b (lt_size e)) (ZW _ (hH2 ▸ ZW _ e));have bv:eF.get? s2.heap.objs.size=some { cls:=.type "list", dict:=none,data:=.seq ([]:Xb).toArray }:=dQ.extBut _ _ iV (ZW _ (hH2 ▸ ZO _ rfl));generalize hCC:HP.objs.size=C at *;generalize gm:s2.heap.objs.size=D at *;have IX:=HU (N':=N') (fp:=fp) I2 hf c1 c2 (by rw[gm];exact eT) f2 (by rw[gm];exact aL) (tk:=s2.toks+([]:List (Str×Value)).length) old hns₁;have hDn:H2 D=none:=I2.aF.fresh (by rw[gm];exact Zz _)
 have hDfs:D∉ dn X.stack:=λz=>by
  rcases mem_cons.mp (I2.d7 D z)with q |q
  ·have:=I2.lt;rw[←q,gm]at this;exact ZG _ this
  ·exact I2.nofs (by rw[gm];exact Zz _) q
 have cellLt:∀x c,X.env.cells.lookup x=some c->c<D:=λx c e=>by
  obtain⟨v,z⟩:=I2.cell x c e;rw[←gm];exact z.lt
 have pinLt:∀p∈X.pn++aa,p.1<D:=λp hp=>by rw[←gm];exact lt_size (I2.pin p hp).1
 have s0D:X.aX.heap.objs.size<=D:=by rw[←gm];exact I2.sz
 have locLt:X.env.locals<D:=by rw[←gm];exact I2.lt
 let X':Cx:=Al X N' scope cl s2 H2 C fp (X.pn++aa)
 have fQ:∀ {H':Hp}{ob:Obj},(∀b∈fp,H' b=none)->∀b∈fp,Ef X' [(D,ob)] H' b:=λ{H' ob} hn b hb=>by
  refine⟨hn b hb,ZD (Z1 (aL b hb) eT),λz=>?_,.inl hb,λx c e=>(f2 b hb).2.2.2.2.1 x c (c1 x c e),λp hp=>?_⟩
  ·exact IX.ok.fZ b hb z
  ·rcases mem_append.mp hp with z |z
   ·exact(f2 b hb).2.2.2.2.2 p z
   ·have e:p=(D,ob):=by simpa using z
    subst e;exact Nat.ne_of_gt (aL b hb)
 have pinD:∀ {aJ:St}{H':Hp}{s':Xe}{ob:Obj},Inv X' [] aJ H' s'->s'.heap.get? D=some ob->H' D=none->(∀v,ob.data≠ .cell v)->Inv X' [(D,ob)] aJ H' s':=λ{aJ H' s' ob} Ia e n d =>
  Ia.cS λp hp=>by
   have q:p=(D,ob):=by simpa using hp
   subst q;exact⟨e,n,iV,hDfs,d⟩
 have loop:∀s3:Xe,s3={ s2 with heap:=eF,toks:=s2.toks+([]:List (Str×Value)).length } ->
   codeAny (model X.prog X.w) X.A (.compLoop (.ListComp elt [⟨tg,iter,ifs,0⟩] scope pos) 0 (.ref it) (.ref D) (compEnvC scope cl C X.env)) (compPost (model X.prog X.w) X.A X.xe use Qv (.ref D) C) s3:=by
  rintro s3 rfl
  refine codeAny_loop Zj (λn s'=>∃i ys its k H',Inv X' [(D,({ cls:=.type "list", data:=.seq (List.toArray its) k }:Obj))] (Cc ix σ) H' s'/\tn i s'.heap/\(∀b∈fp,H' b=none)/\W i n ys H'/\Vals ys its)
   (λn s4 hI=>?_) m0 ⟨0,[],[],_,H2,pinD IX bv hDn (λv z=>by cases z),T.keep _ _ _ jj (λb _ o e=>old b o e),λb hb=>(f2 b hb).1,w0,.nil⟩
  obtain⟨i,ys,its,k,H4,I4,st4,fr4,w4,rv⟩:=hI;show wpAny _ X.A ((compTurn (.ListComp elt [⟨tg,iter,ifs,0⟩] scope pos) 0 (.ref it) (.ref D) (compEnvC scope cl C X.env)).onRaise (λx=>do noteFrame x (compEnvC scope cl C X.env);theTreesLotGoes x)) _ _ s4;refine wpAny_noted ?_;rw[compTurn_list];refine DN ?_;rcases turn i n ys H4 w4 with⟨stop,hz,r⟩ |⟨go,N,hN,step⟩
  ·refine Zy (ZK (Zy (aG (T.done X' Zj Zj Zj (hc _ _ _ _ _ _) i _ s4 _ H4 _ I4 (fQ fr4) st4 stop) λr' s5 ⟨hr,I5⟩=>?_)));subst hr;have pD:=I5.pin (D,_) (ZS _ ZJ);have Ib:Inv X aa σ H4 s5:=Iu I2 f2 I5;have Ic:Inv X aa σ (upd H4 D (.lst ys)) s5:=Ib.track pD.2.1 (Nat.ne_of_gt locLt) (.inr s0D) (λx c e=>ZD (cellLt x c e)) (λp hp=>ZD (pinLt p hp)) ⟨hz,its,k,rv,pD.1⟩;obtain⟨m5,n5,_⟩:=I5.loc
   refine Zx (cy s5 ys H4 D C m5 Ic r pD.2.1 n5 (Nat.le_trans s0D eT) (Nat.ne_of_gt (Z1 locLt eT)) (λx c e=>ZD (Z1 (cellLt x c e) eT))
    (λp hp=>ZD (Z1 (pinLt p hp) eT)) ?_)
   rw[AH (Ne.symm iV)];exact I5.free
  ·refine Zy (ZK (Zy (aG (T.item X' Zj Zj Zj (hc _ _ _ _ _ _) i _ s4 _ H4 _ I4 (fQ fr4) st4 go) λr' s5 ⟨u,hr,h5⟩=>?_)));subst hr;refine Zy (aG h5 λ_ s6 ⟨x,H6,I6,r6,y6,st6,fr6⟩=>?_);have I6':=I6.pinned (fQ fr6) (T.obj _ _ st6);refine Zy (aG (hg _ _ _ _ _ _ _ s6 _ H6 x u _ I6' r6 (step x H6 y6)) λ_ s7 ⟨fH,H7,I7,k7,q7⟩=>?_);refine Zy (aG (ht _ _ _ _ _ _ _ s7 fH H7 _ I7 q7) λb s8 ⟨H8,I8,q8⟩=>?_)
   have again:∀ {H9:Hp}{s9:Xe}{cX:Xc}{its':Xb}{k':Nat},Inv X' ([(D,({ cls:=.type "list", data:=.seq (List.toArray its') k' }:Obj))]++Cq fp s6.heap) fH H9 s9->Vals cX its' ->
     (∃m',m'<n/\W (i+1) m' cX H9)->∃m,m<n/\∃i ys its k H',Inv X' [(D,({ cls:=.type "list", data:=.seq (List.toArray its) k }:Obj))] (Cc ix σ) H' s9/\tn i s9.heap/\(∀b∈fp,H' b=none)/\W i m ys H'/\Vals ys its:=by
    intro H9 s9 cX its' k' I9 rv' ⟨m',hm,w9⟩;refine⟨m',hm,i+1,cX,its',k',H9,I9.unpinned.weak (I4.len.trans I9.len.symm) k7,T.keep _ _ _ st6 λb hb o e=>(I9.pin (b,o) (ZS _ (ZS _ (CK hb e)))).1,λb hb=>?_,w9,rv'⟩;obtain⟨o,e,d⟩:=T.obj _ _ st6 b hb;exact(I9.pin (b,o) (ZS _ (ZS _ (CK hb e)))).2.1
   cases b with
   |false =>
    rw[Zr Bool.false_ne_true]at q8;exact Zx ⟨Zj,again I8 rv (hN _ _ q8).2⟩
   |true =>
    rw[Zq rfl]at q8;refine Zy (Zy (aG (he _ _ _ _ _ _ _ s8 fH H8 _ I8 q8) λy s9 ⟨z,H9,I9,r9,q9⟩=>?_))
    have hz:ys.length<sizeLine:=by
     have:=(hN _ _ q9).1;rw[ZI,length_singleton]at this;omega
    have pD:=I9.pin (D,_) (ZS _ (ZQ _ ZJ));have ba:=rv.length;refine Zy (call_meets F.slot_list_append ⟨_,pD.1,Zj⟩ F.entry_list_append (F.args_list_append_2 _ _) (PySem.list_append D its.toArray k y (by rw[size_toArray];omega)) ⟨pD.1,Zx (Zx ⟨Zj,?_⟩)⟩);have eq':its.toArray.push y=(its++[y]).toArray:=by simp
    obtain⟨k',q⟩:∃k',(s9.heap.update D (Obj.mapSeq (·.push y))).get? D=some { cls:=.type "list", data:=.seq (its++[y]).toArray k' }:=⟨_,by rw[←eq'];exact PySem.IsL.update pD.1 (·.push y)⟩;have Iw:Inv X' (Cq fp s6.heap) fH H9 s9:=I9.cS λp hp=>I9.pin p (ZS _ (ZS _ hp))
    have It:Inv X' (Cq fp s6.heap) fH H9 { s9 with heap:=s9.heap.update D (Obj.mapSeq (·.push y)),toks:=s9.toks }:=Iw.turned (it:=D) (λb o hb e=>(ZV s9.heap (Obj.mapSeq (·.push y)) (Ne.symm hb)).trans e) pD.2.1 iV
     (.inr (by show s2.heap.objs.size<=D;rw[gm];exact Zz _)) (λx c e=>ZD (cellLt x c (c1 x c e))) (λp hp=>by
      rcases mem_append.mp hp with z' |z'
      ·exact ZD (pinLt p z')
      ·exact ZD (aL p.1 (Fu z').1))
    refine again (its':=its++[y]) (k':=k') (It.cS λp hp=>?_) (rv.append (.cons r9 .nil)) (hN _ _ q9).2;rcases mem_append.mp hp with z' |z'
    ·have e:p=(D,({ cls:=.type "list", data:=.seq (its++[y]).toArray k' }:Obj)):=by simpa using z'
     subst e;exact⟨q,pD.2.1,iV,hDfs,λv z=>by cases z⟩
    ·exact It.pin p (ZS _ z')
 exact codeAny_compStart_list (loop _ Zj) (T.self _ 0 _ _ _ (T.keep _ _ _ jj λb _ o e=>old b o e) (loop _ Zj))
def Iv {RD:Cx->Prop} (hf:aY X.env.scope scope X.N N' ix) (hc:∀cl s H C fp aa,RD (Al X N' scope cl s H C fp (X.pn++aa))) (hi:PIg RD X tg iter wi)
  (hg:∀cl s H C fp pn,PGk (Al X N' scope cl s H C fp pn) tg ix g) (ht:∀cl s H C fp pn,i5 (Al X N' scope cl s H C fp pn) ifs tt) (he:∀cl s H C fp pn,PE (Al X N' scope cl s H C fp pn) elt te)
  (hs:∀x,foldedSetIterable iter X.env x=pure x:=by intro _;rfl) :
  PE X (.ListComp elt [⟨tg,iter,ifs,0⟩] scope pos) (λσ H Q=>F2 wi g tt te ix (λys H'=>∀p,H' p=none->Q (.ref p) (upd H' p (.lst ys))) σ H):=by
 intro aa s σ H Q I h;rw[eval_ListComp];refine OQ (use:=none) hf hc hi hg ht he hs I h λs' ys H' D C m I' r hD hn h1 h2 h3 h4 h5=>?_;refine⟨m,hn,λh'' hs''=>⟨.ref D,_,I'.turned (it:=C) (t':=s'.toks) (λb o hb e=>(hs''.2 b hb).trans e) h5 h2 (.inr h1) h3 h4,Zj,r D hD⟩⟩
def KW (hf:aY X.env.scope scope X.N N' ix) (hc:X.calm=true) (hi:PI X tg iter wi)
  (hg:∀cl s H C fp pn,PGk (Al X N' scope cl s H C fp pn) tg ix g) (ht:∀cl s H C fp pn,i5 (Al X N' scope cl s H C fp pn) ifs tt) (he:∀cl s H C fp pn,PE (Al X N' scope cl s H C fp pn) elt te)
  (hs:∀x,foldedSetIterable iter X.env x=pure x:=by intro _;rfl) :
  PE X (.ListComp elt [⟨tg,iter,ifs,0⟩] scope pos) (λσ H Q=>F2 wi g tt te ix (λys H'=>∀p,H' p=none->Q (.ref p) (upd H' p (.lst ys))) σ H):=Iv hf (λ_ _ _ _ _ _=>hc) hi.g hg ht he hs
end
abbrev g2 (K:FG):TG:=RH K 2 (HI (Cy 0) (HI (Cy 1) RG))
section
variable {iter elt:Expr}{ifs:List Expr}{scope:Scope}{px py pt:Pos}{wi:TI}{tt:TT}{y:Str}{kt:Nat}
def DP (Nc:Xa) (gO:List (Option Nat)) (hf:Iq X.env.scope scope X.N (x::Nc) (none::gO)=true) (ja:(x::Nc).Nodup) (hx:scope.names.lookup x=some .local) (hc:X.calm=true) (hi:PI X (.Name x px) iter wi)
  (ht:∀cl s H C fp pn,i5 (Al X (x::Nc) scope cl s H C fp pn) ifs tt) (he:∀cl s H C fp pn,PE (Al X (x::Nc) scope cl s H C fp pn) elt te) (hs:∀x,foldedSetIterable iter X.env x=pure x:=by intro _;rfl) :
  PE X (.ListComp elt [⟨.Name x px,iter,ifs,0⟩] scope pos) (λσ H Q=>F2 wi (Cy 0) tt te (none::gO) (λys H'=>∀p,H' p=none->Q (.ref p) (upd H' p (.lst ys))) σ H) :=
 KW (aY.of hf) hc hi (λcl s H C fp pn=>HV (AZ (i:=0) ja rfl (.inl (Z5 hx)) (.inr (Z5 hx)))) ht he hs
def KY (Nc:Xa) (gO:List (Option Nat)) (hf:Iq X.env.scope scope X.N (x::y::Nc) (none::none::gO)=true) (ja:(x::y::Nc).Nodup) (hx:scope.names.lookup x=some .local) (hy:scope.names.lookup y=some .local) (hc:X.calm=true)
  (hi:PI X (.Tuple [.Name x px,.Name y py] kt pt) iter wi)
  (ht:∀cl s H C fp pn,i5 (Al X (x::y::Nc) scope cl s H C fp pn) ifs tt) (he:∀cl s H C fp pn,PE (Al X (x::y::Nc) scope cl s H C fp pn) elt te) (hs:∀x,foldedSetIterable iter X.env x=pure x:=by intro _;rfl) :
  PE X (.ListComp elt [⟨.Tuple [.Name x px,.Name y py] kt pt,iter,ifs,0⟩] scope pos) (λσ H Q=>F2 wi (g2 X.K) tt te (none::none::gO) (λys H'=>∀p,H' p=none->Q (.ref p) (upd H' p (.lst ys))) σ H) :=
 KW (aY.of hf) hc hi (λcl s H C fp pn=>Pl (Ch (X:=Al X (x::y::Nc) scope cl s H C fp pn) hc (Ai (AZ (i:=0) ja rfl (.inl (Z5 hx)) (.inr (Z5 hx)))
  (Ai (AZ (i:=1) ja rfl (.inl (Z5 hy)) (.inr (Z5 hy))) Br)))) ht he hs
end
def F3 {g:TG}{tt:TT}{ix:List (Option Nat)}{R:Xc->Hp->Prop}{H1:Hp} (Pv:Nat->Xc->Hp->Prop) (h0:Pv 0 [] H1) (hl:∀i ys H,i<=xs.length->Pv i ys H->aN K H a xs) (hz:∀i ys H,Pv i ys H->ys.length<=1000)
  (hs:∀i x ys H,xs[i]?=some x->Pv i ys H->g x (Cc ix σ) H λcK H2=>tt cK H2 λb H3=>if b=true then te cK H3 λy H4=>Pv (i+1) (ys++[y]) H4 else Pv (i+1) ys H3) (hd:∀ys H,Pv xs.length ys H->R ys H) :
  ∃W:Nat->Nat->Xc->Hp->Prop,(∃m,W 0 m [] H1)/\∀i m ys H,W i m ys H ->
   ((iK K a).stop i H/\ys.length<=sizeLine/\R ys H) \/
   ((iK K a).go i H/\∃N:Xc->Hp->Prop,(∀cX H',N cX H'->cX.length<=sizeLine/\∃m',m'<m/\W (i+1) m' cX H') /\
    ∀x H',(iK K a).g8 i H x H'->g x (Cc ix σ) H' λcK H2=>tt cK H2 λb H3=>if b=true then te cK H3 λy H4=>N (ys++[y]) H4 else N ys H3):=by
 refine⟨λi m ys H=>m=xs.length - i/\i<=xs.length/\Pv i ys H,⟨_,Zj,Nat.zero_le _,h0⟩,?_⟩;rintro i m ys H ⟨rfl,hi,hp⟩;by_cases aL:i<xs.length
 ·have hx:xs[i]?=some xs[i]:=Z7 aL;refine .inr ⟨⟨xs,xs[i],hl i ys H hi hp,hx⟩,Pv (i+1),λcX H' q=>⟨Nat.le_of_lt (AK (hz _ cX H' q)),xs.length - (i+1),qe,Zj,aL,q⟩,?_⟩;rintro x H' ⟨rfl,hy⟩
  have ex:x=xs[i]:=by
   have:=hy xs (hl i ys H' hi hp);rw[hx]at this;exact(Option.some.inj this).symm
  subst ex;exact hs i xs[i] ys H' hx hp
 ·have e:i=xs.length:=by omega
  subst e;exact .inl ⟨⟨xs,hl _ ys H hi hp,Zz _⟩,Nat.le_of_lt (AK (hz _ ys H hp)),hd ys H hp⟩
def KZ {g:TG}{tt:TT}{ix:List (Option Nat)}{R:Xc->Hp->Prop}{H1:Hp} (Pv:Nat->Xc->Hp->Prop) (h0:Pv 0 [] H1) (hl:∀i ys H,i<=xs.length->Pv i ys H->bH K H a xs) (hz:∀i ys H,Pv i ys H->ys.length<=1000)
  (hs:∀i x ys H,xs[i]?=some x->Pv i ys H->g x (Cc ix σ) H λcK H2=>tt cK H2 λb H3=>if b=true then te cK H3 λy H4=>Pv (i+1) (ys++[y]) H4 else Pv (i+1) ys H3) (hd:∀ys H,Pv xs.length ys H->R ys H) :
  ∃W:Nat->Nat->Xc->Hp->Prop,(∃m,W 0 m [] H1)/\∀i m ys H,W i m ys H ->
   ((Itt K a).stop i H/\ys.length<=sizeLine/\R ys H) \/
   ((Itt K a).go i H/\∃N:Xc->Hp->Prop,(∀cX H',N cX H'->cX.length<=sizeLine/\∃m',m'<m/\W (i+1) m' cX H') /\
    ∀x H',(Itt K a).g8 i H x H'->g x (Cc ix σ) H' λcK H2=>tt cK H2 λb H3=>if b=true then te cK H3 λy H4=>N (ys++[y]) H4 else N ys H3):=by
 refine⟨λi m ys H=>m=xs.length - i/\i<=xs.length/\Pv i ys H,⟨_,Zj,Nat.zero_le _,h0⟩,?_⟩;rintro i m ys H ⟨rfl,hi,hp⟩;by_cases aL:i<xs.length
 ·have hx:xs[i]?=some xs[i]:=Z7 aL;refine .inr ⟨⟨xs,xs[i],hl i ys H hi hp,hx⟩,Pv (i+1),λcX H' q=>⟨Nat.le_of_lt (AK (hz _ cX H' q)),xs.length - (i+1),qe,Zj,aL,q⟩,?_⟩;rintro x H' ⟨rfl,hy⟩
  have ex:x=xs[i]:=by
   have:=hy xs (hl i ys H' hi hp);rw[hx]at this;exact(Option.some.inj this).symm
  subst ex;exact hs i xs[i] ys H' hx hp
 ·have e:i=xs.length:=by omega
  subst e;exact .inl ⟨⟨xs,hl _ ys H hi hp,Zz _⟩,Nat.le_of_lt (AK (hz _ ys H hp)),hd ys H hp⟩
def HW {lo:Int}{n:Nat}{g:TG}{tt:TT}{ix:List (Option Nat)}{R:Xc->Hp->Prop}{H1:Hp} (Pv:Nat->Xc->Hp->Prop) (h0:Pv 0 [] H1) (hz:∀i ys H,Pv i ys H->ys.length<=1000)
  (hs:∀(i:Nat) ys H,i<n->Pv i ys H->g (.int (lo+i)) (Cc ix σ) H λcK H2=>tt cK H2 λb H3=>if b=true then te cK H3 λy H4=>Pv (i+1) (ys++[y]) H4 else Pv (i+1) ys H3) (hd:∀ys H,Pv n ys H->R ys H) :
  ∃W:Nat->Nat->Xc->Hp->Prop,(∃m,W 0 m [] H1)/\∀i m ys H,W i m ys H ->
   ((jB lo n).stop i H/\ys.length<=sizeLine/\R ys H) \/
   ((jB lo n).go i H/\∃N:Xc->Hp->Prop,(∀cX H',N cX H'->cX.length<=sizeLine/\∃m',m'<m/\W (i+1) m' cX H') /\
    ∀x H',(jB lo n).g8 i H x H'->g x (Cc ix σ) H' λcK H2=>tt cK H2 λb H3=>if b=true then te cK H3 λy H4=>N (ys++[y]) H4 else N ys H3):=by
 refine⟨λi m ys H=>m=n - i/\i<=n/\Pv i ys H,⟨_,Zj,Nat.zero_le _,h0⟩,?_⟩;rintro i m ys H ⟨rfl,hi,hp⟩;by_cases aL:i<n
 ·refine .inr ⟨aL,Pv (i+1),λcX H' q=>⟨Nat.le_of_lt (AK (hz _ cX H' q)),n - (i+1),qe,Zj,aL,q⟩,?_⟩;rintro x H' ⟨rfl,rfl⟩;exact hs i ys H' aL hp
 ·have e:i=n:=by omega
  subst e;exact .inl ⟨Zz _,Nat.le_of_lt (AK (hz _ ys H hp)),hd ys H hp⟩
section
variable {o:Obj}{kvs:LK}
def Inv.newOk (I:Inv X aa σ H s) {p:Xd} (hp:s.heap.objs.size<=p):H p=none/\p≠X.env.locals/\X.aX.heap.objs.size<=p/\(∀x c,X.env.cells.lookup x=some c->c≠p)/\∀q∈X.pn++aa,q.1≠p :=
 ⟨I.aF.fresh hp,Nat.ne_of_gt (Z1 I.lt hp),Nat.le_trans I.sz hp,λx c e=>by
  obtain⟨v,z⟩:=I.cell x c e
  exact ZD (Z1 z.lt hp),λq hq=>ZD (Z1 (lt_size (I.pin q hq).1) hp)⟩
def Inv.freeze (I:Inv X aa σ H s) (h:H a=some (.dK kvs)):∃o,Inv X aa σ (upd H a (.cZ o (.dK kvs))) s:=by
 obtain⟨z,y,vs,r,ob,es,ep,e,rest⟩:=I.aF a _ h;refine⟨ob,?_⟩;exact I.write (x:=a) (e:=a) (o:=.cZ ob (.dK kvs)) (h':=s.heap) (t':=s.toks) (by rw[h];exact trivial) (.inl Zj) (λb u _ q=>q) ⟨ob,e⟩ ⟨e,z,y,vs,r,ob,es,ep,e,rest⟩
def HX {sts:List Stmt}{t:TS} (h:eE X sts t):eE X sts (λD σ H=>∃a kvs,H a=some (.dK kvs)/\∀o,t D σ (upd H a (.cZ o (.dK kvs)))):=by
 intro aa s σ H D I ⟨a,kvs,e,k⟩;obtain⟨o,I'⟩:=I.freeze e;exact h aa s σ _ D I' (k o)
noncomputable def Pm (o:Obj):Nat:=match o.data with
 | .dict _ ep=>ep
 |_=>0
def HY (I:Inv X aa σ H s) (h:H a=some (.cZ o (.dK kvs))):kvs.length<=sizeLine/\(a==sysModules)=false/\∃vs,KV kvs vs/\s.heap.DictAt (AY X.prog X.w) a vs (Pm o):=by
 obtain⟨e,z,y,vs,r,ob,es,ep,e2,ex,d,rest⟩:=I.aF a _ h;rw[e]at e2;cases e2;refine⟨z,y,vs,r,o,es,e,ex,?_,rest⟩;show o.data=.dict es (Pm o);unfold Pm;rw[d]
end
def KV.get {κ:Type}:∀ {kvs:List (κ×V)}{vs:List (κ×Value)}{i:Nat}{kv:κ×V},KV kvs vs->kvs[i]?=some kv->∃v,vs[i]?=some (kv.1,v)/\RelV kv.2 v
 |_,_,_,_,.nil,e=>by simp at e
 |_,_,0,_,.cons r _,e=>by
  simp only[List.getElem?_cons_zero,Option.some.injEq]at e;subst e;rename_i q _ _ _;exact⟨q.2,by rw[r.1];rfl,r.2⟩
 |_,_,i+1,kv,.cons _ t,e=>by
  obtain⟨u,h1,h2⟩:=KV.get (i:=i) (kv:=kv) (show KV _ _ from t) (by simpa using e);exact⟨u,by simpa using h1,h2⟩
def Jj {k:Key} (h:(AY P w).is k u=true):RelV (kV k) u:=by
 rcases A5 (show HG k u=true from h)with⟨i,t,rfl,rfl⟩ |⟨x,t,rfl,rfl⟩
 ·exact⟨t,Zj⟩
 ·exact⟨t,Zj⟩
noncomputable def Iti (a:Xd) (o:Obj) (kvs:LK):It:=⟨λi H=>H a=some (.cZ o (.dK kvs))/\i<kvs.length,λi H x H'=>∃p kv,H p=none/\x=.ref p/\kvs[i]?=some kv/\H'=upd H p (.tup [kV kv.1,kv.2]),
 λi H=>H a=some (.cZ o (.dK kvs))/\kvs.length<=i⟩
def MD {elts:List Expr}{k0:Nat} (a it:Xd) (o:Obj) (kvs:LK) :
  KK P w K (.Tuple elts k0 pos) (Iti a o kvs) [it] it (λi h=>∃ok ov,IsItemIter h it a i kvs.length (Pm o) ok ov) where
 mem:=by simp
 obj:=λi h st b hb=>by
  have e:b=it:=by simpa using hb
  subst e;obtain⟨ok,ov,e⟩:=st;exact⟨_,e,λv z=>by cases z⟩
 keep:=λi h h' st k=>by
  obtain⟨ok,ov,e⟩:=st;exact⟨ok,ov,k it (by simp) _ e⟩
 item:=by
  intro X hP hw hK hc i aa s σ H E I hf st hg;subst hP hw hK;obtain⟨jJ,hi⟩:=hg;obtain⟨z,y,vs,rel,dd⟩:=HY I jJ;obtain⟨ok,ov,st⟩:=st;have ba:=rel.length;obtain⟨kv,hkv⟩:∃kv,kvs[i]?=some kv:=⟨_,Z7 hi⟩;obtain⟨v,hv,rv⟩:=KV.get rel hkv;obtain⟨f0,f1,f2,f3,f4,f5⟩:=hf it (by simp);rw[ba]at st;have aL:it<s.heap.objs.size:=lt_size st;refine wpAny_pyNext_items_item st dd hv λkey h' cv fV hp hsz keep=>?_;have I1:Inv X aa σ H { s with heap:=h' }:=I.turned (t':=s.toks) keep f0 f1 f3 f4 f5;obtain⟨n1,n2,n3,n4,n5⟩:=I.newOk (Zz s.heap.objs.size);have I2:Inv X aa σ (upd H s.heap.objs.size (.tup [kV kv.1,kv.2])) { s with heap:=h' }:=I1.track n1 n2 (.inr n3) n4 n5 ⟨by show 2<=sizeLine;decide,[key,v],.cons (Jj cv) (.cons rv .nil),_,hp,rfl,_,rfl⟩;have fi:(upd H s.heap.objs.size (.tup [kV kv.1,kv.2])) it=none:=by rw[AH (ZD aL)];exact f0
  refine⟨.ref s.heap.objs.size,Zj,wpAny_letOwnedTupleGo_items fV λh'' st'' sb=>?_⟩;refine⟨.ref s.heap.objs.size,_,I2.turned (it:=it) (t':=s.toks) (λb o hb e=>(sb.2 b hb).trans e) fi f1 f3 f4 f5,Zj,⟨_,kv,n1,Zj,hkv,Zj⟩,⟨key,v,by rw[ba];exact st''⟩,λb hb=>?_⟩;have e:b=it:=by simpa using hb
  rw[e];exact fi
 done:=by
  intro X hP hw hK hc i aa s σ H E I hf st hg;subst hP hw hK;obtain⟨jJ,hi⟩:=hg;obtain⟨z,y,vs,rel,dd⟩:=HY I jJ;obtain⟨ok,ov,st⟩:=st;have ba:=rel.length;rw[ba]at st;obtain⟨f0,f1,f2,f3,f4,f5⟩:=hf it (by simp);exact wpAny_pyNext_items_end (I.ok.hd hc) st dd (List.getElem?_eq_none_iff.mpr qe) λh' eb=>⟨Zj,I.turned (t':=s.toks) (λb o hb e=>eb b o hb e) f0 f1 f3 f4 f5⟩
 self:=λ_ _ _ _ _ st h=>by
  obtain⟨ok,ov,e⟩:=st;exact W.kcp_self e h
def Tz (to:TE):TI:=λσ H R=>to σ H λx H1=>∃a o kvs,x=.ref a/\H1 a=some (.cZ o (.dK kvs))/\R (Iti a o kvs) H1
def Pn {elts:List Expr}{k0:Nat}{o:Expr}{to:TE}{apos dr:Pos} (ho:PE X o to) (bo:attributeBase o "items" X.env (eval o X.env)=eval o X.env:=by rfl) (bq:(apos.endLine==dr.line)=true:=by rfl) :
  PI X (.Tuple elts k0 pos) (.Call (.Attribute o "items" apos) [] [] dr) (Tz to):=by
 intro aa s σ H R I h;refine wpAny_Call_method0_late bo bq (aG (ho aa s σ H _ I h) λv s1 ⟨x,H1,I1,r1,a,ob,kvs,ex,jJ,q⟩=>?_);subst ex;cases r1;obtain⟨t1,t2,_⟩:=Pj I1 (.inl ⟨kvs,.inr ⟨ob,jJ⟩⟩);obtain⟨z,y,vs,rel,dd⟩:=HY I1 jJ;refine⟨"dict", "dict.items", PySem.F.plainAttrs_dict,PySem.F.slot_dict_items,PySem.F.type_dict_items,t1,t2,Calls.callWith_builtin rfl (PySem.evalArgs_none (call_meetsIn PySem.F.slot_dict_items t1 PySem.F.entry_dict_items (PySem.F.args_dict_items_1 _) (meets_dict_items (AY X.prog X.w) a y) ⟨⟨vs,dd.dictOf⟩,?_⟩))⟩;have I2:Inv X aa σ H1 { s1 with heap:=s1.heap.push { cls:=.type "dict_items", data:=.fields #[.ref a] } }:=I1.kept (t':=s1.toks) λb o e=>ZW _ e;refine wpAny_pyIter_items (knd:=AY X.prog X.w) (d:=a) (kvs:=vs) (ep:=Pm ob) ⟨_,ZO _ rfl,rfl,rfl⟩ (dd.push _) ?_;refine⟨_,[_],_,_,H1,rfl,I2.kept (t':=s1.toks) λb o e=>ZW _ e,MD a _ ob kvs,⟨.none,.none,by rw[rel.length];exact ZO _ rfl⟩,λb hb=>?_,q⟩;have e:b=(s1.heap.push { cls:=.type "dict_items", data:=.fields #[.ref a] }).objs.size:=by simpa using hb
 subst e;exact I2.gp (Zz _) (I2.aF.fresh (Zz _))
noncomputable def Ite (K:FG) (a:Xd):It:=⟨λi H=>∃xs x,aN K H a xs/\xs[i]?=some x,λi H x H'=>∃p y,H p=none/\x=.ref p/\(∀xs,aN K H a xs->xs[i]?=some y)/\H'=upd H p (.tup [.int i,y]),λi H=>∃xs,aN K H a xs/\xs.length<=i⟩
def OR {elts:List Expr}{k0:Nat} (a e it:Xd) (ax:e≠it) :
  KK P w K (.Tuple elts k0 pos) (Ite K a) [e,it] e (λi h=>∃old,IsEnum h e it i old/\h.IsListIter it a i) where
 mem:=by simp
 obj:=λi h st b hb=>by
  obtain⟨old,e1,o,e2,c,d⟩:=st;have f9:b=e\/b=it:=by simpa using hb
  rcases f9 with rfl |rfl
  ·exact⟨_,e1,λv z=>by cases z⟩
  ·exact⟨o,e2,λv z=>by rw[d]at z;cases z⟩
 keep:=λi h h' st k=>by
  obtain⟨old,e1,e2⟩:=st;exact⟨old,k e (by simp) _ e1,e2.at λo q=>k it (by simp) o q⟩
 item:=by
  intro X hP hw hK hc i aa s σ H E I hf st hg;subst hP hw hK;obtain⟨xs,x,hq,hx⟩:=hg;obtain⟨its,rv,p,hz⟩:=I.list hq;obtain⟨u,hu,ru⟩:=rv.get hx;obtain⟨old,s1,s2⟩:=st;obtain⟨f0,f1,f2,f3,f4,f5⟩:=hf e (by simp);obtain⟨g0,g1,g2,g3,g4,g5⟩:=hf it (by simp);have aL:e<s.heap.objs.size:=lt_size s1;have c8:it<s.heap.objs.size:=by obtain⟨o,q,_⟩:=id s2;exact lt_size q
  refine wpAny_pyNext_enum_item s1 s2 p.isList (x:=u) (by simpa using hu) ax λh' fV st2' hp hsz keep=>?_
  have I1:Inv X aa σ H { s with heap:=h',toks:=s.toks+1 }:=by
   refine I.step (H':=H) (g':=s.gens) (d':=s.drawn) (ch:=[e,it]) (λb hb=>?_) (λb o _ _ hb q _=>keep b o (by simp at hb;exact hb.1) (by simp at hb;exact hb.2) q) (λb o _ _ hb q _=>⟨o.slots,keep b o (by simp at hb;exact hb.1) (by simp at hb;exact hb.2) q⟩)
    (λ_ _ _ _ n=>n) (λb o hb q=>⟨o,keep b o (by simp at hb;exact hb.1) (by simp at hb;exact hb.2) q⟩) (λ_ _ q=>q) (λ_ _ _ q=>q) (λb ps q=>⟨#[],by rw[q];simp⟩) (λm hm=>?_) (λb u q=>?_) I.bare
   ·have f9:b=e\/b=it:=by simpa using hb
    rcases f9 with rfl |rfl
    ·exact⟨f3,f1,f4,f5⟩
    ·exact⟨g3,g1,g4,g5⟩
   ·obtain⟨oL,es,ep,i9,r⟩:=hm;exact⟨oL,es,ep,keep _ oL (Ne.symm f1) (Ne.symm g1) i9,r⟩
   ·have ne1:∀c v,H c=some v->c≠e/\c≠it:=λc v q=>⟨AJ q f0,AJ q g0⟩;refine(I.aF b u q).eR (λc v hc q'=>keep c v ?_ ?_ q') (λ_ q=>q) λ_ _ q=>q
    ·rcases hc with z |z
     ·rw[z];exact(ne1 b u q).1
     ·exact(ne1 c _ z).1
    ·rcases hc with z |z
     ·rw[z];exact(ne1 b u q).2
     ·exact(ne1 c _ z).2
  obtain⟨n1,n2,n3,n4,n5⟩:=I.newOk (Zz s.heap.objs.size);have I2:Inv X aa σ (upd H s.heap.objs.size (.tup [.int i,x])) { s with heap:=h',toks:=s.toks+1 }:=I1.track n1 n2 (.inr n3) n4 n5 ⟨by show 2<=sizeLine;decide,[.int i s.toks,u],.cons ⟨_,rfl⟩ (.cons ru .nil),_,hp,rfl,_,rfl⟩;have fe:(upd H s.heap.objs.size (.tup [.int i,x])) e=none:=by rw[AH (ZD aL)];exact f0
  have fi:(upd H s.heap.objs.size (.tup [.int i,x])) it=none:=by rw[AH (ZD c8)];exact g0
  refine⟨.ref s.heap.objs.size,Zj,wpAny_letOwnedTupleGo_enum fV λh'' st'' sb=>?_⟩;refine⟨.ref s.heap.objs.size,_,I2.turned (it:=e) (t':=s.toks+1) (λb o hb q=>(sb.2 b hb).trans q) fe f1 f3 f4 f5,Zj,⟨_,x,n1,Zj,λys hy=>by rw[I.list_inj hy hq];exact hx,Zj⟩,⟨_,by exact_mod_cast st'',st2'.extBut sb.extBut (Ne.symm ax)⟩,λb hb=>?_⟩;have f9:b=e\/b=it:=by simpa using hb
  rcases f9 with rfl |rfl
  ·exact fe
  ·exact fi
 done:=by
  intro X hP hw hK hc i aa s σ H E I hf st hg;subst hP hw hK;obtain⟨xs,hq,hx⟩:=hg;obtain⟨its,rv,p,hz⟩:=I.list hq;obtain⟨old,s1,s2⟩:=st;obtain⟨g0,g1,g2,g3,g4,g5⟩:=hf it (by simp);have hl:=rv.length;exact wpAny_pyNext_enum_end (I.ok.hd hc) s1 s2 p.isList (by simp;omega) λh' eb=>⟨Zj,I.turned (t':=s.toks) (λb o hb e=>eb b o hb e) g0 g1 g3 g4 g5⟩
 self:=λ_ _ _ _ _ st h=>by
  obtain⟨old,e1,_⟩:=st;exact wpAny_pyIter_enum e1 h
def VZ (K:FG) (tl:TA):TI:=λσ H R=>tl σ H λvs H1=>∃a,vs=[.ref a]/\(∃xs,aN K H1 a xs)/\R (Ite K a) H1
def Rg {elts:List Expr}{k0:Nat}{p dr:Pos}{l:Expr}{tl:TA} (hg:Gl X "enumerate") (hm:X.mg "enumerate" = none) (hl:PA X [l] tl) (hs:starEach [l] X.env=[(false,eval l X.env)]:=by rfl) :
  PI X (.Tuple elts k0 pos) (.Call (.Name "enumerate" p) [l] [] dr) (VZ X.K tl):=by
 intro aa s σ H R I h;refine Z2 (Du (u:=.type "enumerate") I hg hm qb ?_);refine PyProof.Rows.callWith_type1 (aG (hl dr aa s σ H _ I h) λus s1 ⟨vs,H1,I1,r1,a,ev,⟨xs,hq⟩,q⟩=>?_) hs rfl;subst ev;obtain⟨u,rfl,ru⟩:=CI r1;cases ru;obtain⟨its,rv,pl,hz⟩:=I1.list hq;refine call_enumerate_list pl.isList λh' he hi hsz keep=>?_;refine wpAny_pyIter_enum he ?_;have I2:Inv X aa σ H1 { s1 with heap:=h' }:=I1.kept (t':=s1.toks) keep;refine⟨_,[s1.heap.objs.size+1,s1.heap.objs.size],_,_,H1,rfl,I2,OR a _ _ (Nat.succ_ne_self _),⟨_,he,hi⟩,λb hb=>?_,q⟩;have f9:b=s1.heap.objs.size+1\/b=s1.heap.objs.size:=by simpa using hb
 rcases f9 with rfl |rfl
 ·exact I1.gp (Nat.le_succ _) (I1.aF.fresh (Nat.le_succ _))
 ·exact I1.gp (Zz _) (I1.aF.fresh (Zz _))
noncomputable def Its (x:Str):It:=⟨λi _=>i<x.cps.size,λi H v H'=>H'=H/\∃c,x.cps[i]?=some c/\v=.str ⟨#[c]⟩,λi _=>x.cps.size<=i⟩
def Po {n:Str} (it:Xd) (x:Str) (t:Tok) :
  KK P w K (.Name n pos) (Its x) [it] it (λi h=>h.IsStrIter it "str_ascii_iterator" x t i) where
 mem:=by simp
 obj:=λi h st b hb=>by
  have e:b=it:=by simpa using hb
  subst e;obtain⟨o,e,c,d⟩:=st;exact⟨o,e,λv z=>by rw[d]at z;cases z⟩
 keep:=λi h h' st k=>by
  obtain⟨o,e,r⟩:=st;exact⟨o,k it (by simp) o e,r⟩
 item:=by
  intro X hP hw hK hc i aa s σ H E I hf st hg;subst hP hw hK;have hi:i<x.cps.size:=hg;obtain⟨f0,f1,f2,f3,f4,f5⟩:=hf it (by simp);refine wpAny_pyNext_ascii_item st (Array.getElem?_eq_getElem hi) λh' fV sb=>?_;refine⟨_,Zj,Zx ⟨.str ⟨#[x.cps[i]]⟩,H,I.turned (t':=s.toks+1) (λb o hb e=>(sb.2 b hb).trans e) f0 f1 f3 f4 f5,⟨_,Zj⟩,⟨Zj,_,Array.getElem?_eq_getElem hi,Zj⟩,fV,λb hb=>(hf b hb).1⟩⟩
 done:=by
  intro X hP hw hK hc i aa s σ H E I hf st hg;subst hP hw hK;have hi:x.cps.size<=i:=hg;obtain⟨f0,f1,f2,f3,f4,f5⟩:=hf it (by simp);exact wpAny_pyNext_ascii_end (I.ok.hd hc) st (Array.getElem?_eq_none hi) λh' eb=>⟨Zj,I.turned (t':=s.toks) (λb o hb e=>eb b o hb e) f0 f1 f3 f4 f5⟩
 self:=λ_ _ _ _ _ st h=>wpAny_pyIter_striter_ascii st h
def Wt (ts:TE):TI:=λσ H R=>ts σ H λv H1=>∃x,v=.str x/\x.cps.all (· < 128)=true/\R (Its x) H1
def Pp {n:Str}{ts:TE} (he:PE X e ts):PI X (.Name n pos) e (Wt ts):=by
 intro aa s σ H R I h;refine aG (he aa s σ H _ I h) λv s1 ⟨z,H1,I1,r1,x,ez,ha,q⟩=>?_;subst ez;obtain⟨t,rfl⟩:=r1;refine wpAny_pyIter_ascii ha ?_;refine⟨s1.heap.objs.size,[s1.heap.objs.size],_,_,H1,Zj,I1.kept (t':=s1.toks) λb o e=>ZW _ e,Po _ x t,⟨_,ZO _ Zj,Zj,Zj⟩,λb hb=>?_,q⟩;have e:b=s1.heap.objs.size:=by simpa using hb
 subst e;exact I1.gp (Zz _) (I1.aF.fresh (Zz _))
def IQ:entryFor table "proto.unchain" = some Builtin.«proto.unchain»:=entryFor_of_tree qd
section
variable {prog:Program}
def Rh {α:Type}{c e:Xd}{oc oe:Obj}{vc ve:Array Value}{Q:α->Xe->Prop} (hh:A.handled=some (.ref c)) (hce:c≠e) (hc:s.heap.get? c=some oc) (jK:oc.data=.fields vc) (h2:vc[2]?=some .none)
  (he:s.heap.get? e=some oe) (hde:oe.data=.fields ve) (hz:2<ve.size) (h:E (.ref e) { s with heap:=s.heap.update e (Obj.mapFields (·.setIfInBounds 2 (.ref c))) }):wpAny (model prog w) A (raiseNew (.ref e):Sem α) Q E s:=by
 unfold raiseNew;refine Zy (wpAny_handled ?_);rw[hh]
 dsimp only
 rw[Zq (show(Value.ref c != Value.ref e)=true by simp[hce])];refine Zy (ZL (wpAny_runValue (codeAny_builtin IQ ?_)));unfold Builtin.«proto.unchain»
 dsimp only
 refine Zy (wpAny_field hc jK h2 ?_);rw[Zq qc];refine Zx ?_;show wpAny _ _ _ _ _ _;have up:=wpAny_setField (M:=model prog w) (A:=A) (E:=E) (x:=Value.ref c) (Q:=λ_ s'=>E (.ref e) s') he hde hz h;unfold setField at up;exact Zy (Zw up (λ_ s' z=>wpAny_throw z) λ_ _ z=>z)
def Dk {it l c:Xd}{i:Nat}{xs:Array Value}{oc:Obj}{vc:Array Value}{Q:Option Value->Xe->Prop} (hh:A.handled=some (.ref c)) (hc:s.heap.get? c=some oc) (jK:oc.data=.fields vc) (h2:vc[2]?=some .none) (hci:c≠it)
  (hI:s.heap.IsListIter it l i) (hL:s.heap.IsList l xs) (hx:xs[i]?=none) (fin:∀h',Heap.ExtBut it s.heap h'->Q none { s with heap:=h' }):wpAny (model prog w) A (pyNext (.ref it)) Q E s:=by
 obtain⟨o,ho,oc1,hd⟩:=id hI;obtain⟨ol,hol,_,nl,hdl⟩:=hL;unfold pyNext;refine Zy (wpAny_attempt (wpAny_callSpecial?_slot (name:=Str.ofString "__next__") hI.typeIs slot_listiter_next (wpAny_call_entry slot_listiter_next hI.typeIs entry_listiter_next ?_ (args_listiter_next _))));show wpAny _ _ (field (.ref it) 0 >>= _) _ _ s;refine Zy (wpAny_field (x:=.ref l) ho hd Zj ?_);show wpAny _ _ (if (Value.ref l==Value.none)=true then _ else _) _ _ s;rw[Zr (by simp:¬ (Value.ref l==Value.none)=true)];show wpAny _ _ (field (.ref it) 1 >>= _) _ _ s;refine Zy (wpAny_field (x:=.int i 0) ho hd Zj ?_);show wpAny _ _ (seqItems? (.ref l) >>= _) _ _ s;refine Zy (wpAny_seqItems hol hdl ?_);simp only[Int.toNat_natCast,hx];refine Zy (wpAny_rule (Zy (wpAny_setField ho hd (by simp) ?_)));show wpAny _ _ (newExc (.type "StopIteration") [] >>= raiseNew) _ _ _;refine Zy ?_;simp only[newExc,newTuple];refine Zy (wpAny_newObj_type ?_ (by size_fits));refine Zy (m:=firstArgMember _ _) (wpAny_of_eq (a:=Value.none) (by first |rfl | (simp only[firstArgMember];rfl)) (wpAny_newObj_type ?_ (by size_fits)));have k1:=(ZV s.heap (Obj.mapFields (·.setIfInBounds 0 Value.none)) (Ne.symm hci)).trans hc;refine Rh (c:=c) (show A.in1.handled=_ from hh) (λz=>?_) (ZW _ (ZW _ k1)) jK h2 (ZO _ Zj) Zj (by simp;omega) ?_
 ·have:=lt_size (ZW { cls:=.type "tuple", data:=.seq #[] } k1);rw[z]at this;exact absurd this (ZG _)
 ·refine Zy (wpAny_isInstance (T := "StopIteration") (b:=true) ⟨_,ZT _ (ZO _ Zj) Zj,Zj⟩ isSubtype_stop ?_);refine Zx (fin _ λb u hb z=>?_);have z1:=(ZV s.heap (Obj.mapFields (·.setIfInBounds 0 Value.none)) (Ne.symm hb)).trans z;have z2:=ZW { cls:=.type "tuple", data:=.seq #[] } z1;rw[ZV _ _ (Nat.ne_of_gt (lt_size z2))];exact ZW _ z2
end
def Sft (X:Cx):Prop:=∃e oe vs,X.A.handled=some (.ref e)/\(e,oe)∈X.pn/\oe.data=.fields vs/\vs[2]?=some .none
def iJ (X:Cx):Prop:=X.calm=true\/Sft X
def iJ.comp {N':Xa}{scope:Scope}{cl:List (Str×Xd)}{fp:List Xd} (h:iJ X):iJ (Al X N' scope cl s H C fp (X.pn++aa)):=by
 rcases h with h |⟨e,oe,vs,a,b,c,d⟩
 ·exact .inl h
 ·exact .inr ⟨e,oe,vs,a,ZQ _ b,c,d⟩
section
def Pq {it l:Xd}{i:Nat}{xs:Array Value}{Q:Option Value->Xe->Prop} (hc:iJ X) (I:Inv X aa σ H s) (hf:Ef X aa H it) (hI:s.heap.IsListIter it l i) (hL:s.heap.IsList l xs) (hx:xs[i]?=none)
  (fin:∀h',Heap.ExtBut it s.heap h'->Q none { s with heap:=h' }):wpAny (model X.prog X.w) X.A (pyNext (.ref it)) Q E s:=by
 rcases hc with hc |⟨e,oe,vs,a,b,c,d⟩
 ·exact wpAny_pyNext_list_end (I.ok.hd hc) hI hL hx fin
 ·exact Dk a (I.pin (e,oe) (ZQ _ b)).1 c d (hf.2.2.2.2.2 (e,oe) (ZQ _ b)) hI hL hx fin
end
def MF {tg:Expr} (a it:Xd):S9 iJ P w K tg (iK K a) [it] it (λi h=>h.IsListIter it a i):=by
 have T:=IY (P:=P) (w:=w) (K:=K) (tg:=tg) a it;refine⟨T.obj,T.keep,?_,?_,T.self⟩
 ·intro X hP hw hK hc i aa s σ H E I hf st hg;subst hP hw hK;obtain⟨xs,x,hq,hx⟩:=hg;obtain⟨its,rv,p,hz⟩:=I.list hq;obtain⟨u,hu,ru⟩:=rv.get hx;obtain⟨f0,f1,f2,f3,f4,f5⟩:=hf it (by simp);refine wpAny_pyNext_list_item st p.isList (x:=u) (by simpa using hu) λh' fV sb=>?_;obtain⟨o,e,c,d⟩:=id fV;exact⟨u,Zj,NN (s:={ s with heap:=h' }) e c d qc ⟨x,H,I.turned (t':=s.toks) (λb o hb e=>(sb.2 b hb).trans e) f0 f1 f3 f4 f5,ru,⟨Zj,λys hy=>by rw[I.list_inj hy hq];exact hx⟩,fV,λb hb=>(hf b hb).1⟩⟩
 ·intro X hP hw hK hc i aa s σ H E I hf st hg;subst hP hw hK;obtain⟨xs,hq,hx⟩:=hg;obtain⟨its,rv,p,hz⟩:=I.list hq;have f:=hf it (by simp);have hl:=rv.length;exact Pq hc I f st p.isList (by simp;omega) λh' eb=>⟨Zj,I.turned (t':=s.toks) (λb o hb e=>eb b o hb e) f.1 f.2.1 f.2.2.2.1 f.2.2.2.2.1 f.2.2.2.2.2⟩
section
variable {iter elt:Expr}{ifs:List Expr}{scope:Scope}{px:Pos}{wi:TI}{tt:TT}
def Pr {tg l:Expr}{tl:TE} (hl:PE X l tl):PIg iJ X tg l (PP X.K tl):=by
 intro aa s σ H R I h;refine aG (hl aa s σ H _ I h) λv s1 ⟨x,H1,I1,r1,a,e,⟨xs,hq⟩,q⟩=>?_;subst e;cases r1;obtain⟨its,rv,p,hz⟩:=I1.list hq;refine wpAny_pyIter_list p.isList ⟨s1.heap.objs.size,[s1.heap.objs.size],_,_,H1,Zj,I1.kept (t':=s1.toks) λb o e=>ZW _ e,MF a _,⟨_,ZO _ Zj,Zj,Zj⟩,λb hb=>?_,q⟩;obtain rfl:b=s1.heap.objs.size:=by simpa using hb
 exact I1.gp (Zz _) (I1.aF.fresh (Zz _))
def OS (Nc:Xa) (gO:List (Option Nat)) (hf:Iq X.env.scope scope X.N (x::Nc) (none::gO)=true) (ja:(x::Nc).Nodup) (hx:scope.names.lookup x=some .local) (hc:iJ X) (hi:PIg iJ X (.Name x px) iter wi)
  (ht:∀cl s H C fp pn,i5 (Al X (x::Nc) scope cl s H C fp pn) ifs tt) (he:∀cl s H C fp pn,PE (Al X (x::Nc) scope cl s H C fp pn) elt te) (hs:∀x,foldedSetIterable iter X.env x=pure x:=by intro _;rfl) :
  PE X (.ListComp elt [⟨.Name x px,iter,ifs,0⟩] scope pos) (λσ H Q=>F2 wi (Cy 0) tt te (none::gO) (λys H'=>∀p,H' p=none->Q (.ref p) (upd H' p (.lst ys))) σ H) :=
 Iv (aY.of hf) (λ_ _ _ _ _ _=>hc.comp) hi (λcl s H C fp pn=>HV (AZ (i:=0) ja rfl (.inl (Z5 hx)) (.inr (Z5 hx)))) ht he hs
end
def MH {p:Xd}{its:Xb} (hc:iJ X) (I:Inv X aa σ H s) (pl:s.heap.IsList p its.toArray):∃fp St,Walks X.prog X.w X.A.in1 s.heap.objs.size fp [s.heap.objs.size] its.toArray.size (λi v=>its.toArray[i]?=some v) St /\
  St 0 (s.heap.push { cls:=.type "list_iterator", data:=.fields #[.ref p,.int 0 0] })/\∀b∈fp,b<s.heap.objs.size+1:=by
 have hp:p<s.heap.objs.size:=by obtain⟨o,e,_⟩:=id pl;exact lt_size e
 have jF:(s.heap.push { cls:=.type "list_iterator", data:=.fields #[.ref p,.int 0 0] }).IsListIter s.heap.objs.size p 0/\(s.heap.push { cls:=.type "list_iterator", data:=.fields #[.ref p,.int 0 0] }).IsList p its.toArray :=
  ⟨⟨_,ZO _ rfl,rfl,rfl⟩,pl.at λo e=>ZW _ e⟩
 rcases hc with hc |⟨e,oe,vs,a,b,c,d⟩
 ·refine⟨_,_,Walks.list (A:=X.A.in1) (show X.A.in1.handled=none from I.ok.hd hc) _ p (ZD hp) its.toArray,jF,λb hb=>?_⟩;have z:b=s.heap.objs.size\/b=p:=by simpa using hb
  rcases z with rfl |rfl
  ·exact Nat.lt_succ_self _
  ·exact Nat.lt_succ_of_lt hp
 ·have he:=(I.pin (e,oe) (ZQ _ b)).1;have aL:=lt_size he;refine⟨[s.heap.objs.size,p,e],λi h=>(h.IsListIter s.heap.objs.size p i/\h.IsList p its.toArray)/\h.get? e=some oe,⟨λb hb=>by simp at hb;simp[hb],λi h h' st k=>⟨⟨st.1.1.at λo z=>k _ (by simp) o z,st.1.2.at λo z=>k _ (by simp) o z⟩,k e (by simp) oe st.2⟩,?_,?_,λ_ _ _ _ st hQ=>wpAny_pyIter_listiter st.1.1 hQ⟩,⟨jF,ZW _ he⟩,λb hb=>?_⟩
  ·intro i s1 Q E hi st hQ;refine wpAny_pyNext_list_item st.1.1 st.1.2 (x:=its.toArray[i]) (by simp[hi]) λh' t1 t2=>?_;exact hQ _ h' s1.toks (by simp[hi]) ⟨⟨t1,st.1.2.extBut t2.extBut (ZD hp)⟩,t2.extBut e oe (ZD aL) st.2⟩ λb o hb z=>t2.extBut b o (λy=>hb (by simp[y])) z
  ·intro s1 Q E st hQ;exact Dk (show X.A.in1.handled=_ from a) st.2 c d (ZD aL) st.1.1 st.1.2 (by simp) λh' z=>hQ h' s1.toks λb o hb y=>z b o (λy'=>hb (by simp[y'])) y
  ·have z:b=s.heap.objs.size\/b=p\/b=e:=by simpa using hb
   rcases z with rfl |rfl |rfl
   ·exact Nat.lt_succ_self _
   ·exact Nat.lt_succ_of_lt hp
   ·exact Nat.lt_succ_of_lt aL
noncomputable def Ps (a p:Xd):HO:=.ext λh=>h.IsValuesView p a
section
variable {o:Expr}{to:TE}{name:Str}{apos dr:Pos}{id:String}{r:V->Xc->Hp->VK->Prop}
def T4 (slot:Slot "dict" name id) (hty:typeOf (.builtin id)=pure (.type "method_descriptor")) (hm:MtR X id r) (ho:PE X o to)
  (bo:attributeBase o name X.env (eval o X.env)=eval o X.env:=by rfl) (bq:(apos.endLine==dr.line)=true:=by rfl) :
  PE X (.Call (.Attribute o name apos) [] [] dr) (λσ H Q=>to σ H λx H1=>∃a,x=.ref a/\IsD H1 a/\r x [] H1 Q):=by
 intro aa s σ H Q I h;refine wpAny_Call_method0_late bo bq (aG (ho aa s σ H _ I h) λv s1 ⟨x,H1,I1,r1,a,ex,d,q1⟩=>?_);subst ex;cases r1;obtain⟨t1,t2,_⟩:=Pj I1 d;exact⟨"dict", id,PySem.F.plainAttrs_dict,slot,hty,t1,t2,Calls.callWith_builtin Zj (PySem.evalArgs_none (hm aa s1 σ H1 (.ref a) [] (.ref a) [] Q I1 Zj .nil q1))⟩
def OT:MtR X "dict.values" (λx xs H Q=>∃a kvs,x=.ref a/\xs=[]/\Rd H a (.dK kvs)/\∀p,H p=none->Q (.ref p) (upd H p (Ps a p))):=by
 intro aa s σ H x xs v us Q I rx rs h;obtain⟨a,kvs,rfl,rfl,hd,q⟩:=h;cases rx;cases rs;obtain⟨z,y,vs,rel,dd⟩:=Gm I.aF hd;refine call_meetsIn PySem.F.slot_dict_values dd.typeIs PySem.F.entry_dict_values (PySem.F.args_dict_values_1 _) (meets_dict_values (AY X.prog X.w) a y) ⟨⟨vs,dd⟩,?_⟩;refine⟨.ref s.heap.objs.size,_,I.laid (t':=s.toks) (o:=Ps a s.heap.objs.size) (λb o e=>ZW _ e) (Zz _) ⟨⟨_,ZO _ Zj,Zj,Zj⟩,⟨_,ZO _ Zj⟩,λh1 h2 z k=>?_⟩,Zj,q _ (I.aF.fresh (Zz _))⟩;obtain⟨ob,e,r⟩:=z;exact⟨ob,k ob e,r⟩
def F4 {α β:Type}{F:α->β->Prop}:∀ {xs:List α}{ys:List β},xs.length=ys.length->(∀(j:Nat) x y,xs[j]?=some x->ys[j]?=some y->F x y)->Paired F xs ys
 | [],[],_,_=>.nil
 | [],_::_,h,_=>by simp at h
 |_::_,[],h,_=>by simp at h
 |x::xs,y::ys,h,k=>.cons (k 0 x y rfl rfl) (F4 (by simpa using h) λj a b ea eb=>k (j+1) a b (by simpa using ea) (by simpa using eb))
def MJ (hc:X.calm=true):bQ X (.type "list") (λxs H Q=>∃a kvs,xs=[.ref a]/\Rd H a (.dK kvs)/\∀l,H l=none->Q (.ref l) (upd H l (.lst (kvs.map λkv=>kV kv.1)))):=by
 intro aa s σ H xs us Q I r h;obtain⟨a,kvs,rfl,hd,q⟩:=h;obtain⟨u,rfl,ru⟩:=CI r;cases ru;obtain⟨z,y,vs,rel,dd⟩:=Gm I.aF hd;obtain⟨ep,da⟩:=dd.dictAt;have hl:=rel.length;refine W.kdl_call (W.kdl_dict (knd:=AY X.prog X.w) (kvs:=vs) (ep:=ep) y) (I.ok.hd hc) da (by rw[←hl];exact z) λh' tk acc c' keep e hit=>?_;refine⟨.ref s.heap.objs.size,_,I.laid (t':=tk) keep (Zz _) (show aQ X.prog X.w _ h' _ (.lst (kvs.map λkv=>kV kv.1))from⟨by rw[AS];exact z,acc.toList,c',?_,by rw[Array.toArray_toList];exact e⟩),Zj,q _ (I.aF.fresh (Zz _))⟩
 refine F4 (by have e0:acc.toList.length=acc.size:=by simp
               rw[AS,e0,hit.1,hl]) λj v w' ev ew=>?_
 rw[Array.getElem?_toList]at ew;obtain⟨k,x,ex,hk⟩:=hit.2 j w' ew;rw[ZF]at ev;cases e2:kvs[j]? with
 |none=>rw[e2]at ev;cases ev
 |some kv =>
  rw[e2]at ev;simp only[Option.map_some,Option.some.injEq]at ev;obtain⟨v2,ff,_⟩:=KV.get rel e2;rw[ex]at ff;simp only[Option.some.injEq,Prod.mk.injEq]at ff;rw[←ev,←ff.1];exact Jj hk
def ML (hc:X.calm=true):bQ X (.type "list") (λxs H Q=>∃p a kvs,xs=[.ref p]/\H p=some (Ps a p)/\Rd H a (.dK kvs)/\∀l,H l=none->Q (.ref l) (upd H l (.lst (kvs.map (·.2))))):=by
 intro aa s σ H xs us Q I r h;obtain⟨p,a,kvs,rfl,hp,hd,q⟩:=h;obtain⟨u,rfl,ru⟩:=CI r;cases ru;obtain⟨z,y,vs,rel,dd⟩:=Gm I.aF hd;obtain⟨ep,da⟩:=dd.dictAt;obtain⟨hv,_⟩:=I.aF p _ hp;have hl:=rel.length;refine W.kdl_call (W.kdl_values (knd:=AY X.prog X.w) (d:=a) (kvs:=vs) (ep:=ep)) (I.ok.hd hc) ⟨hv,da⟩ (by rw[←hl];exact z) λh' tk acc c' keep e hit=>?_;refine⟨.ref s.heap.objs.size,_,I.laid (t':=tk) keep (Zz _) (show aQ X.prog X.w _ h' _ (.lst (kvs.map (·.2)))from⟨by rw[AS];exact z,acc.toList,c',?_,by rw[Array.toArray_toList];exact e⟩),Zj,q _ (I.aF.fresh (Zz _))⟩
 refine F4 (by have e0:acc.toList.length=acc.size:=by simp
               rw[AS,e0,hit.1,hl]) λj v w' ev ew=>?_
 rw[Array.getElem?_toList]at ew;obtain⟨k,ex⟩:=hit.2 j w' ew;rw[ZF]at ev;cases e2:kvs[j]? with
 |none=>rw[e2]at ev;cases ev
 |some kv =>
  rw[e2]at ev;simp only[Option.map_some,Option.some.injEq]at ev;obtain⟨v2,ff,rv2⟩:=KV.get rel e2;rw[ex]at ff;simp only[Option.some.injEq,Prod.mk.injEq]at ff;rw[←ev,ff.2];exact rv2
end
section
def HZ (hc:X.calm=true):bQ X (.builtin "all") (λxs H Q=>∃(p:Xd) (bs:List Bool),xs=[.ref p]/\aN X.K H p (bs.map V.bl)/\Q (.bl (bs.all id)) H):=by
 intro aa s σ H xs us Q I r h;obtain⟨p,bs,rfl,hq,q⟩:=h;obtain⟨u,rfl,ru⟩:=CI r;cases ru;obtain⟨its,rv,pl,hz⟩:=I.list hq;have hp:p<s.heap.objs.size:=by obtain⟨o,n,e,_⟩:=id pl;exact lt_size e
 have ba:bs.length=its.length:=by have:=rv.length;rw[AS]at this;exact this
 refine call_all_walk (wpAny_pyIter_list pl.isList ?_);refine⟨_,_,_,_,_,_,λi=>bs.getD i false,Zj,Walks.list (A:=X.A.in1) (show X.A.in1.handled=none from I.ok.hd hc) _ p (ZD hp) its.toArray,⟨⟨_,ZO _ Zj,Zj,Zj⟩,pl.isList.at λo e=>ZW _ e⟩,λi v s' Q' E' hP hQ=>?_,λh' tk keep=>?_⟩
 ·have hv:its[i]?=some v:=by simpa using hP
  have hi:i<its.length:=(Z8.mp hv).1;have hb:bs[i]?=some (bs[i]'qe):=Z7 qe;obtain⟨u',hu',ru'⟩:=rv.get (i:=i) (x:=V.bl (bs[i]'qe)) (by rw[ZF,hb];rfl);rw[hv]at hu';cases hu';cases (show v=Value.bool _ from ru');refine ZY ?_;have hQ':Q' (bs.getD i false) s':=hQ;rw[getD_eq_getElem?_getD,hb]at hQ';exact hQ'
 ·have I1:Inv X aa σ H { s with heap:=h',toks:=tk }:=I.kept λb o e=>keep b o (by simp;exact ZD (lt_size e)) (ZW _ e);refine⟨.bl _,H,I1,Zj,?_⟩
  have e:(List.range its.toArray.size).all (λi=>bs.getD i false)=bs.all id:=by
   rw[size_toArray,←ba,Bool.eq_iff_iff,List.all_eq_true,List.all_eq_true];constructor
   ·intro h b hb;obtain⟨i,hi,rfl⟩:=List.mem_iff_getElem.mp hb;have:=h i (mem_range.mpr hi);rw[getD_eq_getElem?_getD,Z7 hi]at this;exact this
   ·intro h i hi;have hi':=mem_range.mp hi;rw[getD_eq_getElem?_getD,Z7 hi'];exact h _ (getElem_mem hi')
  rw[e];exact q
def D0 (ns:List Int):∀k,k<=ns.length->preSum (λi=>ns.getD i 0) k=(ns.take k).sum
 |0,_=>by simp[preSum]
 |k+1,h=>by
  have ih:=D0 ns k qe;have hk:k<ns.length:=by omega
  simp only[preSum,ih];rw[ZE,Z7 hk,sum_append];simp[getD_eq_getElem?_getD,Z7 hk]
def OU (hc:iJ X):bQ X (.builtin "sum") (λxs H Q=>∃(p:Xd) (ns:List Int),xs=[.ref p]/\aN X.K H p (ns.map V.int)/\(∀n∈ns,0<=n)/\ns.sum<2 ^ 62/\Q (.int ns.sum) H):=by
 intro aa s σ H xs us Q I r h;obtain⟨p,ns,rfl,hq,iQ,hsum,q⟩:=h;obtain⟨u,rfl,ru⟩:=CI r;cases ru;obtain⟨its,rv,pl,hz⟩:=I.list hq;have hp:p<s.heap.objs.size:=by obtain⟨o,n,e,_⟩:=id pl;exact lt_size e
 have ba:ns.length=its.length:=by have:=rv.length;rw[AS]at this;exact this
 have tk0:∀k,0<=(ns.take k).sum:=λk=>by
  have:∀l:List Int,(∀n∈l,0<=n)->0<=l.sum:=λl=>by
   induction l with
   |nil=>intro _;simp
   |cons a r ih=>intro h;rw[List.sum_cons];have:=h a ZJ;have:=ih λn hn=>h n (ZR _ hn);omega
  exact this _ λn hn=>iQ n (mem_of_mem_take hn)
 have tkle:∀k,(ns.take k).sum<=ns.sum:=λk=>by
  have e:ns.sum=(ns.take k).sum+(ns.drop k).sum:=by rw[←sum_append,List.take_append_drop]
  have:∀l:List Int,(∀n∈l,0<=n)->0<=l.sum:=λl=>by
   induction l with
   |nil=>intro _;simp
   |cons a r ih=>intro h;rw[List.sum_cons];have:=h a ZJ;have:=ih λn hn=>h n (ZR _ hn);omega
  have:=this _ λn hn=>iQ n (List.mem_of_mem_drop (i:=k) hn);omega
 refine call_sum_walk (wpAny_pyIter_list pl.isList ?_);obtain⟨fp,St,W,jF,ie⟩:=MH hc I pl.isList;refine⟨_,_,_,_,_,_,λi=>ns.getD i 0,Zj,W,jF,λb hb=>?_,λi v hP=>?_,λj hj=>?_,λh' tk t' keep=>?_⟩
 ·have hs:(s.heap.push { cls:=.type "list_iterator", data:=.fields #[.ref p,.int 0 0] }).objs.size=s.heap.objs.size+1:=Heap.size_push ..;show b<(s.heap.push { cls:=.type "list_iterator", data:=.fields #[.ref p,.int 0 0] }).objs.size;rw[hs];exact ie b hb
 ·have hv:its[i]?=some v:=by simpa using hP
  have hi:i<its.length:=(Z8.mp hv).1;have hb:ns[i]?=some (ns[i]'qe):=Z7 qe;obtain⟨u',hu',t,ru'⟩:=rv.get (i:=i) (x:=V.int (ns[i]'qe)) (by rw[ZF,hb];rfl);rw[hv]at hu';cases hu';refine⟨t,?_⟩;show v=Value.int (ns.getD i 0) t;rw[ru',getD_eq_getElem?_getD,hb];rfl
 ·have hj':j<ns.length:=by rw[size_toArray]at hj;omega
  rw[D0 ns (j+1) qe];have h1:=tk0 (j+1);have h2:=tkle (j+1);have h3:ns.getD j 0=ns[j]:=by rw[getD_eq_getElem?_getD,Z7 hj'];rfl
  have h4:=iQ _ (getElem_mem hj');have h5:(ns.take (j+1)).sum=(ns.take j).sum+ns[j]:=by rw[ZE,Z7 hj',sum_append];simp
  have h6:=tk0 j;show InLong (ns.getD j 0)/\InLong _;unfold InLong;rw[h3];omega
 ·have I1:Inv X aa σ H { s with heap:=h',toks:=tk }:=I.kept λb o e=>keep b o (by simp;exact ZD (lt_size e)) (ZW _ e);refine⟨.int ns.sum,H,I1,⟨t',?_⟩,q⟩;rw[size_toArray,←ba,D0 ns ns.length (Zz _),ZC]
def Jk:MtR X "int.bit_length" (λx xs H Q=>∃i,x=.int i/\xs=[]/\Q (.int (Builtin.Int.intBits i)) H):=by
 intro aa s σ H x xs v us Q I rx rs h;obtain⟨i,rfl,rfl,q⟩:=h;obtain⟨t,rfl⟩:=rx;cases rs;exact call_int_bit_length ⟨.int _,H,I.tok _,⟨_,Zj⟩,q⟩
def Av:cV X (compareOp .LtE) (λx y H Q=>∃i j,x=.str i/\y=.str j/\Q (.bl (!decide (j.cps.toList<i.cps.toList))) H):=by
 intro aa s σ H x y v u Q I rx ry h;obtain⟨i,j,rfl,rfl,q⟩:=h;obtain⟨t,rfl⟩:=rx;obtain⟨t',rfl⟩:=ry;exact PySem.P.le_str (Aq I q Zj)
def IR:MtR X "dict.setdefault" (λx xs H Q=>∃a kvs k v,x=.ref a/\xs=[kV k,v]/\H a=some (.dK kvs)/\kvs.length<sizeLine /\
  (∀w,BW kvs k=some w->Q w H)/\(BW kvs k=none->Q v (upd H a (.dK (C9 kvs k v))))):=by
 intro aa s σ H x xs u us Q I rx rs h;obtain⟨a,kvs,k,v,rfl,rfl,hd,hl,q1,q2⟩:=h;cases rx;obtain⟨uk,uv,rfl,rk,rv⟩:=Ie rs;obtain⟨z,y,vs,rel,dd⟩:=Pg I.aF hd;refine call_meetsIn PySem.F.slot_dict_setdefault dd.typeIs PySem.F.entry_dict_setdefault (PySem.F.args_dict_setdefault_3 _ _ _) (PySem.kt_meets_setdefault (AY X.prog X.w) a (HN rk) y uv) ⟨vs,dd,by rw[←rel.length];exact z,λw' hw=>?_,λhn h' g6 hs=>?_⟩
 ·have rr:=rel.val k;rw[hw]at rr;cases e:BW kvs k with
  |none=>rw[e]at rr;exact False.elim rr
  |some w=>rw[e]at rr;exact⟨w,H,I.tok _,rr,q1 w e⟩
 ·have rr:=rel.val k;rw[hn]at rr
  have e:BW kvs k=none:=by
   cases e:BW kvs k with
   |none=>rfl
   |some w=>rw[e]at rr;exact False.elim rr
  have he:∃q,h'.get? a=some q:=let ⟨q,_,_,hq,_⟩:=g6;⟨q,hq⟩
  have hl':(C9 kvs k v).length<=sizeLine:=by have:=C0 kvs k v;omega
  exact⟨v,_,HA I (by rw[hd];exact True.intro) hs he (MB hl' y (rel.put k rv) g6),rv,q2 e⟩
def Pt:bQ X (.builtin "isinstance") (λxs H Q=>∃v T t b,xs=[v,.ty T]/\d4 X.K H v t/\W.kitOne X.K t (.type T)=some b/\Q (.bl b) H):=by
 intro aa s σ H xs us Q I r h;obtain⟨v,T,t,b,rfl,ty,hk,q⟩:=h;obtain⟨u,uT,rfl,ru,ruT⟩:=Ie r;cases (show uT=Value.type T from ruT);exact Ii I ru ty hk λtk=>⟨.bl b,H,I.tok tk,Zj,q⟩
end
noncomputable def Ka (d:Int):List Int->Int
 | []=>d
 |n::r=>r.foldl max n
def Ix (d:Int) (ns:List Int) (n:Int) (h:ns≠ []):Ka d (ns++[n])=max (Ka d ns) n:=by
 cases ns with
 |nil=>exact absurd rfl h
 |cons a r=>show(r++[n]).foldl max a=_;rw[foldl_append];rfl
def OV (a v:Value):argsOk "max" ⟨[a],[(Str.ofString "default", v)]⟩:=by unfold argsOk;kernel_rfl
section
variable {prog:Program}{R:Result->Xe->Prop}{p I S:Xd}{its:Xb}{ns:List Int}{d:Value}
noncomputable def Pu:Option (Int×Tok)->Array Value
 |none=>#[]
 |some (m,t)=>#[.int m t,.int m t]
def OW (hh:A.handled=none) (bx:IntsAre its ns) (hpI:p≠I) (hSI:S≠I) (hpS:p≠S)
  (hR:∀h' tk v,(∀b o,b≠I->b≠S->s.heap.get? b=some o->h'.get? b=some o)->(ns=[]->v=d)->(ns≠ []->∃t,v=.int (Ka 0 ns) t)->R (.ok (.ret v)) { s with heap:=h',toks:=tk }) :
  ∀(k i:Nat) (h:Heap) (tk c:Nat) (b:Option (Int×Tok)),its.length - i=k->i<=its.length->h.IsListIter I p i->h.IsList p its.toArray->h.get? S=some { cls:=.type "list", data:=.seq (Pu b) c } ->
   (b=none->i=0)->(∀m t,b=some (m,t)->0<i/\m=Ka 0 (ns.take i))->(∀b' o,b'≠I->b'≠S->s.heap.get? b'=some o->h.get? b'=some o) ->
   codeAny (model prog w) A (.builtin "max.loop" ⟨[.ref I,.none,.ref S],[(Str.ofString "default", d)]⟩) R { s with heap:=h,toks:=tk }:=by
 have b9:(toString "max" ++ toString ".loop" : String) = "max.loop" := by decide
 have ba:=bx.length;intro k;induction k with
 |zero =>
  intro i h tk c b hk hi hit hl hS hb0 hb1 keep;have e:i=its.length:=by omega
  refine codeAny_builtin PySem.F.entry_max_loop ?_;rw[Around.under_plainId PySem.F.plain_max_loop _];show wpAny _ A.in1 (seqItems? (.ref S) >>= _) _ _ _;refine Zy (wpAny_seqItems hS rfl ?_);show wpAny _ A.in1 (tryCatch (pyNext (.ref I)) _ >>= _) _ _ _;refine Zy (wpAny_tryCatch (wpAny_pyNext_list_end (show A.in1.handled=none from hh) hit hl (by simp;omega) λh' eb=>?_));cases b with
  |none =>
   have hn:ns=[]:=by
    have:=hb0 rfl;exact List.eq_nil_of_length_eq_zero qe
   exact Zy (wpAny_rule (Zx (hR h' tk d (λb o h1 h2 q=>eb b o h1 (keep b o h1 h2 q)) (λ_=>rfl) λz=>absurd hn z)))
  |some mt =>
   obtain⟨m,t⟩:=mt;obtain⟨ci,hm⟩:=hb1 m t rfl
   have ax:ns≠ []:=λz=>by
    have:its.length=0:=by rw[ba,z];rfl
    omega
   show wpAny _ A.in1 (updateSeq S (λ_=>#[]) >>= _) _ _ _;refine Zy (wpAny_updateSeq (eb S _ hSI hS) Zj (Zy (wpAny_letGo (Zx ?_))) fc);refine hR _ tk _ (λb o h1 h2 q=>(ZV _ _ (Ne.symm h2)).trans (eb b o h1 (keep b o h1 h2 q))) (λz=>absurd z ax) λ_=>⟨t,?_⟩;rw[hm,e,ba,ZC]
 |succ k ih =>
  intro i h tk c b hk hi hit hl hS hb0 hb1 keep;have aL:i<its.length:=by omega
  have hv:its[i]?=some its[i]:=Z7 aL
  obtain⟨n,t,hn,hvt⟩:∃n t,ns[i]?=some n/\its[i]=.int n t:=by
   have js:i<ns.length:=by omega
   obtain⟨u,hu,t,ru⟩:=(F1 bx).get (i:=i) (x:=V.int ns[i]) (by rw[ZF,Z7 js];rfl);rw[hv]at hu;exact⟨ns[i],t,Z7 js,(Option.some.inj hu).trans ru⟩
  refine codeAny_builtin PySem.F.entry_max_loop ?_;rw[Around.under_plainId PySem.F.plain_max_loop _];show wpAny _ A.in1 (seqItems? (.ref S) >>= _) _ _ _;refine Zy (wpAny_seqItems hS Zj ?_);show wpAny _ A.in1 (tryCatch (pyNext (.ref I)) _ >>= _) _ _ _;refine Zy (wpAny_tryCatch (wpAny_pyNext_list_item hit hl (x:=.int n t) (by simpa[hvt]using hv) λh' gk sb=>?_));have hS':h'.get? S=some { cls:=.type "list", data:=.seq (Pu b) c }:=(sb.2 S hSI).trans hS;have hl':h'.IsList p its.toArray:=hl.at λo q=>(sb.2 p hpI).trans q;have keep':∀b' o,b'≠I->b'≠S->s.heap.get? b'=some o->h'.get? b'=some o:=λb' o h1 h2 q=>(sb.2 b' h1).trans (keep b' o h1 h2 q);have etk:ns.take (i+1)=ns.take i++[n]:=by rw[ZE,hn];rfl
  have store:∀c0,(∀v,v=Value.int n t->(h'.update S (Obj.mapSeq λ_=>#[v,v])).get? S=some { cls:=.type "list", data:=.seq (Pu (some (n,t))) c0 })->n=Ka 0 (ns.take (i+1)) ->
    codeAny (model prog w) A (.builtin "max.loop" ⟨[.ref I,.none,.ref S],[(Str.ofString "default", d)]⟩) R { s with heap:=h'.update S (Obj.mapSeq λ_=>#[.int n t,.int n t]),toks:=tk }:=λc0 e0 em =>
   ih (i+1) _ tk c0 (some (n,t)) qe aL (gk.at λo q=>(ZV _ _ hSI).trans q) (hl'.at λo q=>(ZV _ _ (Ne.symm hpS)).trans q) (e0 _ rfl) (λz=>by cases z)
    (λm t' z=>by cases z;exact⟨Nat.succ_pos _,em⟩) λb' o h1 h2 q=>(ZV _ _ (Ne.symm h2)).trans (keep' b' o h1 h2 q)
  cases b with
  |none =>
   have hi0:=hb0 rfl;show wpAny _ A.in1 (updateSeq S (λ_=>#[Value.int n t,Value.int n t]) >>= _) _ _ _;refine Zy (wpAny_updateSeq hS' Zj ?_);rw[b9];refine Zx ⟨plainId_quiet PySem.F.plain_max_loop _,store _ (λv e=>by subst e;exact get?_update_seq hS' λ_=>#[_,_]) ?_⟩;rw[etk,hi0];rfl
  |some mt =>
   obtain⟨m,t0⟩:=mt;obtain⟨ci,hm⟩:=hb1 m t0 rfl
   have ax:ns.take i≠ []:=λz=>by
    have:=congrArg List.length z;rw[ZB,length_nil]at this;omega
   show wpAny _ A.in1 (tryCatch (holding [Value.int n t,Value.int n t] (richCompare .Gt (.int n t) (.int m t0) >>= _)) _ >>= _) _ _ _
   refine Zy (wpAny_tryCatch (ZL (Zy (CmpOf.ints_gt (P:=λi v=>(i=0/\v=.int n t)\/(i=1/\v=.int m t0)) (λi=>if i=0 then n else m) (λi v h=>by
    rcases h with⟨rfl,rfl⟩ |⟨rfl,rfl⟩
    ·exact⟨t,Zj⟩
    ·exact⟨t0,Zj⟩) 0 1 _ _ _ _ _ (.inl ⟨Zj,Zj⟩) (.inr ⟨Zj,Zj⟩) ?_))))
   refine Zy (ZL (ZY ?_));refine Zy (wpAny_letGo (Zx ?_));by_cases hgt:n>m
   ·have e1:(λ(i j:Nat)=>decide ((if i=0 then n else m)>if j=0 then n else m)) 0 1=true:=ZM hgt;rw[e1];simp only[if_true];refine Zy (wpAny_updateSeq hS' Zj (Zy (wpAny_letGo ?_)) fc);rw[b9];refine Zx ⟨plainId_quiet PySem.F.plain_max_loop _,store _ (λv e=>by subst e;exact get?_update_seq hS' λ_=>#[_,_]) ?_⟩;rw[etk,Ix 0 _ n ax,←hm];omega
   ·have e1:(λ(i j:Nat)=>decide ((if i=0 then n else m)>if j=0 then n else m)) 0 1=false:=ZP hgt;rw[e1];simp only[Bool.false_eq_true,if_false];refine Zy (wpAny_letGo ?_);rw[b9]
    refine Zx ⟨plainId_quiet PySem.F.plain_max_loop _,ih (i+1) _ tk c (some (m,t0)) qe aL gk hl' hS' (λz=>by cases z) (λm' t' z=>by
     cases z;refine⟨Nat.succ_pos _,?_⟩;rw[etk,Ix 0 _ n ax,←hm]
     omega) keep'⟩
end
section
variable {c:Expr}{tc:TE}{p kp:Pos}
def Nb (hc:X.calm=true) (hg:Gl X "max") (hm:X.mg "max" = none) (he:PE X e te) (hcc:PE X c tc) (hs:starEach [e] X.env=(false,eval e X.env)::starEach [] X.env:=by rfl)
  (jo:backTo pos (starEach [e] X.env)=(false,eval e X.env)::backTo pos (starEach [] X.env):=by rfl) :
  PE X (.Call (.Name "max" p) [e] [⟨some "default", c,kp⟩] pos) (λσ H Q=>te σ H λx H1=>tc σ H1 λy H2=>∃(a:Xd) (ns:List Int) (d:Int),x=.ref a/\y=.int d/\aN X.K H2 a (ns.map V.int)/\(ns=[]->Q (.int d) H2)/\(ns≠ []->Q (.int (Ka 0 ns)) H2)):=by
 intro aa s σ H Q I h;refine Z2 (Du (u:=.builtin "max") I hg hm boot_max ?_)
 let R3:V->V->Hp->Prop:=λx y H2=>∃(a:Xd) (ns:List Int) (d:Int),x=.ref a/\y=.int d/\aN X.K H2 a (ns.map V.int)/\(ns=[]->Q (.int d) H2)/\(ns≠ []->Q (.int (Ka 0 ns)) H2)
 refine callWith_kw (aG ((AA he AC hs:PA X [e] (Ab te B3)) pos aa s σ H (λvs H1=>match vs with | [x]=>tc σ H1 (λy H2=>R3 x y H2) |_=>False) I h) λus s1 ⟨vs,H1,I1,r1,q1⟩=>?_) jo (by rw[jo];rfl)
 match vs,r1,q1 with
 | [x],r1,q1 =>
  refine aG ((Jd (nm:=some "default") (kpos:=kp) hcc Ly:PK X [⟨some "default", c,kp⟩] (Ab tc B3)) pos aa s1 σ H1 (λvs H2=>match vs with | [y]=>R3 x y H2 |_=>False) I1 q1) λus2 s2 ⟨vs2,H2,I2,r2,q2⟩=>?_
  match vs2,r2,q2 with
  | [y],r2,q2 =>
   obtain⟨a,ns,d,rfl,rfl,hq,k1,k2⟩:=q2;obtain⟨u,rfl,ru⟩:=CI r1;cases ru;obtain⟨ud,rfl,td,rud⟩:=CI r2;subst rud;obtain⟨its,rv,pl,hz⟩:=I2.list hq;have hp:a<s2.heap.objs.size:=by obtain⟨o,n,e,_⟩:=id pl;exact lt_size e
   show wpAny _ _ (call (.builtin "max") [.ref a] [(Str.ofString "default", .int d td)]) _ _ _;refine PyProof.Rows.kmk_tree PySem.F.kind_max PySem.F.plain_max PySem.F.entry_max (OV _ _) ?_;show wpAny _ X.A.in1 (Builtin.Builtins.bindParams "max" ["key", "default"] 0 ⟨[],[(Str.ofString "default", .int d td)]⟩ >>= _) _ _ _;refine Zy (wpAny_of_eq (show Builtin.Builtins.bindParams "max" ["key", "default"] 0 ⟨[],[(Str.ofString "default", Value.int d td)]⟩=pure [none,some (.int d td)]from Zj) ?_);refine Zy (Zx ?_);refine Zy (wpAny_pyIter_list pl.isList ?_);refine Zy (wpAny_newList ?_ (Nat.zero_le _));have b9:(toString "max" ++ toString ".loop" : String) = "max.loop" := by decide
   rw[b9];have hS:(s2.heap.push { cls:=.type "list_iterator", data:=.fields #[.ref a,.int 0 0] }).objs.size=s2.heap.objs.size+1:=Heap.size_push ..
   refine Zx ⟨plainId_quiet PySem.F.plain_max_loop _,OW (its:=its) (ns:=ns) (s:=s2) (I.ok.hd hc) (El rv) (ZD hp) (by rw[hS];exact Nat.succ_ne_self _) (by rw[hS];exact ZD (Nat.lt_succ_of_lt hp))
    (λh' tk v keep e1 e2=>?_) _ 0 _ _ 0 none rfl (Nat.zero_le _) ⟨_,ZW _ (ZO _ rfl),rfl,rfl⟩ (pl.isList.at λo q=>ZW _ (ZW _ q)) (ZO _ rfl) (λ_=>rfl) (λm t z=>by cases z) λb o h1 h2 q=>ZW _ (ZW _ q)⟩
   have I3:Inv X aa σ H2 { s2 with heap:=h',toks:=tk }:=I2.kept λb o q=>keep b o (ZD (lt_size q)) (by rw[hS];exact ZD (Nat.lt_succ_of_lt (lt_size q))) q;by_cases hn:ns=[]
   ·rw[e1 hn];exact⟨.int d,H2,I3,⟨td,Zj⟩,k1 hn⟩
   ·obtain⟨t,ev⟩:=e2 hn;rw[ev];exact⟨.int _,H2,I3,⟨t,Zj⟩,k2 hn⟩
end
def bV (H:Hp):List Xd->List (V×V)->Prop:=Paired λb p=>H b=some (.tup [p.1,p.2])
mutual
def BZ (K:FG) (H:Hp):PyData->V->Prop
 | .none,v=>v=.aI
 | .bool b,v=>v=.bl b
 | .int i,v=>v=.int i
 | .str x,v=>v=.str x
 | .list ds,v=>∃a xs,v=.ref a/\aN K H a xs/\Aw K H ds xs
 | .tuple ds,v=>∃a xs,v=.ref a/\bH K H a xs/\Aw K H ds xs
 | .dict _,_=>False
def Aw (K:FG) (H:Hp):List PyData->Xc->Prop
 | [],xs=>xs=[]
 |d::ds,xs=>∃x r,xs=x::r/\BZ K H d x/\Aw K H ds r
end
section
mutual
def Inv.reads (I:Inv X aa σ H s):∀(d:PyData) (v:V) (u:Value),RelV v u->BZ X.K H d v->∃as,Reads s.heap u d as
 | .none,v,u,r,h=>by
  have e:v=.aI:=by simpa[BZ]using h
  subst e;cases r;exact⟨_,.none⟩
 | .bool b,v,u,r,h=>by
  have e:v=.bl b:=by simpa[BZ]using h
  subst e;cases r;exact⟨_,.bool b⟩
 | .int i,v,u,r,h=>by
  have e:v=.int i:=by simpa[BZ]using h
  subst e;obtain⟨t,rfl⟩:=r;exact⟨_,.int i t⟩
 | .str x,v,u,r,h=>by
  have e:v=.str x:=by simpa[BZ]using h
  subst e;obtain⟨t,rfl⟩:=r;exact⟨_,.str x t⟩
 | .list ds,v,u,r,h=>by
  rw[BZ]at h;obtain⟨a,xs,rfl,hq,hd⟩:=h;cases r;obtain⟨its,rv,⟨o,n,e,c,_,dd⟩,_⟩:=I.list hq;obtain⟨as,hr⟩:=I.readsAll ds xs its rv hd;exact⟨_,.list e c dd (by simpa using hr)⟩
 | .tuple ds,v,u,r,h=>by
  rw[BZ]at h;obtain⟨a,xs,rfl,hq,hd⟩:=h;cases r;obtain⟨its,rv,⟨o,e,c,n,dd⟩,_⟩:=I.tuple hq;obtain⟨as,hr⟩:=I.readsAll ds xs its rv hd;exact⟨_,.tuple e c dd (by simpa using hr)⟩
 | .dict kvs,v,u,r,h=>by
  rw[BZ]at h;exact h.elim
def Inv.readsAll (I:Inv X aa σ H s):∀(ds:List PyData) (xs:Xc) (us:Xb),Vals xs us->Aw X.K H ds xs->∃as,ReadsAll s.heap us ds as
 | [],xs,us,r,h=>by
  have e:xs=[]:=by simpa[Aw]using h
  subst e;cases r;exact⟨_,.nil⟩
 |d::ds,xs,us,r,h=>by
  rw[Aw]at h;obtain⟨x,xr,rfl,h1,h2⟩:=h;cases r with
  |cons p q =>
   obtain⟨as,h3⟩:=I.reads d x _ p h1;obtain⟨bs,h4⟩:=I.readsAll ds xr _ q h2;exact⟨_,.cons h3 h4⟩
end
end
section
def MM (K:FG) (hK:X.K=K) (hu:X.A.units+64<cLine):cV X (compareOp .Eq) (λx y H Q=>∃dx dy,BZ K H dx x/\BZ K H dy y/\SeqAt.shaped dx=true/\SeqAt.shaped dy=true/\Q (.bl (PyData.eqv dx dy)) H):=by
 subst hK;intro aa s σ H x y v u Q I rx ry h;obtain⟨dx,dy,h1,h2,s1,s2,q⟩:=h;obtain⟨as,r1⟩:=I.reads dx x v rx h1;obtain⟨bs,r2⟩:=I.reads dy y u ry h2;exact eq_dataH r1 r2 s1 s2 hu ⟨.bl _,H,I,Zj,q⟩
def He (K:FG) (hK:X.K=K) (hu:X.A.units+64<cLine):cV X (compareOp .NotEq) (λx y H Q=>∃dx dy,BZ K H dx x/\BZ K H dy y/\SeqAt.shaped dx=true/\SeqAt.shaped dy=true/\Q (.bl (!PyData.eqv dx dy)) H):=by
 subst hK;intro aa s σ H x y v u Q I rx ry h;obtain⟨dx,dy,h1,h2,s1,s2,q⟩:=h;obtain⟨as,r1⟩:=I.reads dx x v rx h1;obtain⟨bs,r2⟩:=I.reads dy y u ry h2;exact ne_dataH r1 r2 s1 s2 hu ⟨.bl _,H,I,Zj,q⟩
def T5 (K:FG) (hK:X.K=K) (hu:X.A.units+64<cLine):cV X (compareOp .Eq) (λx y H Q=>∃(a b:Xd) (ns ms:List Int),x=.ref a/\y=.ref b/\aN K H a (ns.map V.int)/\aN K H b (ms.map V.int)/\Q (.bl (decide (ns=ms))) H):=by
 subst hK;intro aa s σ H x y v u Q I rx ry h;obtain⟨a,b,ns,ms,rfl,rfl,h1,h2,q⟩:=h;cases rx;cases ry;obtain⟨is1,r1,p1,_⟩:=I.list h1;obtain⟨is2,r2,p2,_⟩:=I.list h2;exact W.ke_eq_ints p1.isList p2.isList (El r1) (El r2) hu ⟨.bl _,H,I,Zj,q⟩
def T6 (C:Xd) (sp:Sp) (gV:Xc->Xc->Xc) (E:XK) (t tk:TA):TE:=λσ H Q=>t σ H λvs H1=>tk σ H1 λzs H2=>∀x dx,H2 x=none->H2 dx=none->dx≠x ->
 sp (gV (.ref x::vs) zs) (upd (upd H2 dx (.own x)) x (.ins C dx [])) (λv H3=>v=.aI/\Q (.ref x) H3) E
variable {k:Nat}{f:Xd}{fd:FuncData}{ps ks:Xa}{sp:Sp}{p:Pos}{es:List Expr}{gY:List Keyword}{t tk:TA}{g:Xb->Xb->Xb}{gV:Xc->Xc->Xc}
def Pw (M:Mk X.K C f) (F:AU X.prog X.w X.K X.mg X.base aK k f fd ps sp) (hr:aE (k+1) X.A) (hg:Gl X x) (hm:X.mg x=some (.ref C)) (hb:Ek X.K fd ps ks g gV)
  (ha:PA X (e::es) t) (jr:PK X gY tk) (bf:(backToKw pos (keywordEach gY X.env)).all (·.1.isSome)=true:=by rfl) (hks:(backToKw pos (keywordEach gY X.env)).filterMap (·.1)=ks:=by rfl)
  (eI:(x==("__debug__" : Str))=false:=by decide) (he:starEach (e::es) X.env=(false,eval e X.env)::starEach es X.env:=by rfl)
  (hpl:((backTo pos (starEach (e::es) X.env)).any (·.1)||(backToKw pos (keywordEach gY X.env)).any (·.1.isNone))=false:=by rfl) :
  PE X (.Call (.Name x p) (e::es) gY pos) (T6 C sp gV E0 t tk):=by
 intro aa s σ H Q I h;refine Z2 (Bq I hg hm ?_ eI);refine W.callWith_KW (h₀:=X.base) I.ok.mod.kin M.kp bf (aG (ha pos aa s σ H _ I h) λus s1 ⟨vs,H1,I1,r,q⟩=>?_) hpl he;refine aG (jr pos aa s1 σ H1 _ I1 q) λws s2 ⟨zs,H2,I2,rz,q2⟩=>⟨I2.cW,?_⟩;rw[hks];have hq:=q2 (s2.heap.objs.size+1) s2.heap.objs.size (I2.aF.fresh (Nat.le_succ _)) (I2.aF.fresh (Zz _)) (ZD (Nat.lt_succ_self _));have I3:=Inv.made (C:=C) I2;have r2:Vals (gV (V.ref (s2.heap.objs.size+1)::vs) zs) (g (Value.ref (s2.heap.objs.size+1)::us) ws):=hb.rel (.cons rfl r) rz;have hl:(g (Value.ref (s2.heap.objs.size+1)::us) ws).length=ps.length:=by rw[←r2.length];exact F.len _ _ _ _ hq
 refine wpAny_call (KL (f:=f) I2.cW M.makes M.init (beq_iff_eq.mp M.fn) (codeAny_mono (F.run _ X.stack _ _ ⟨Value.ref (s2.heap.objs.size+1)::us,ks.zip ws⟩ _ _ _ E0 (hr.make C us (ks.zip ws)) (I3.gq.make C us (ks.zip ws)) (hb.to _ _ _ I3.cW hl) r2 hq) λr' s' fv=>?_));cases r' with
 |error e=>exact fv.elim
 |ok fl =>
  cases fl with
  |ret u =>
   obtain⟨v,H',I4,rv,ev,q3⟩:=I3.after fv;subst ev;exact⟨rv,⟨V.ref (s2.heap.objs.size+1),H',I4,Zj,q3⟩⟩
  |next=>exact False.elim fv
  |brk=>exact False.elim fv
  |cont=>exact False.elim fv
def Wu (i j:Int):Prop:=Builtin.Int.intBits i<=2 ^ 20/\Builtin.Int.intBits j<=2 ^ 20
def Jl:cV X (binaryOp .Mult) (rI Wu λi j=>.int (i*j)):=opI λ_ _ _ _ _ _ _ hc q=>mul_int q (IntMulOk.of_bits hc.1 hc.2)
def Va (i j:Int):Prop:=0<j/\Builtin.divisionGoesByPylong i j=false
def Kb:cV X (binaryOp .FloorDiv) (rI Va λi j=>.int (i / j)):=opI λi j _ _ _ _ _ hc q=>by
 have h1:(0:Int)<j:=hc.1;exact floordiv_int qe (by rw[Int.fdiv_eq_ediv_of_nonneg i qe];exact q) (.inl hc.2)
end
section
variable {prog:Program}{x y f:Xd}{ox oy:Obj}{od od':Option Obj}
def Jm {M:Model}{args:Xb}{Q:Option Value->Xe->Prop} (X:K.In s.heap) (I:W.InstAt s.heap x ox C od) (hs:W.findIn K (.ref C) "__ne__" = some (some (.builtin "object.__ne__")))
  (h:wpAny M A (call (.builtin "object.__ne__") (.ref x::args)) (λv=>Q (some v)) E s):wpAny M A (callSpecialIfBound? (.ref x) "__ne__" args) Q E s:=by
 simp only[callSpecialIfBound?,bindSpecialIfBound?];refine ZL (Zy (Zy (Zy (I.type.here ((W.looks_findIn X hs).here ?_)))));simp only[PySem.F.cmp_object.ne.bind];refine Zy (wpAny_askSetting (wpAny_ite ?_));have fin:wpAny M A (call (.builtin "object.__ne__") ([.ref x]++args) >>= λv=>pure (some v)) Q E s:=Zy (Zw h (λv s' h'=>Zx h') λ_ _ h'=>h');split
 ·exact Zy (Zx (Zx fin))
 ·exact wpAny_tryCatch (Zy (Zx (Zx fin)))
def Kc {Q:VS} (hu:A.units+1<cLine) (X:K.In s.heap) (I:W.InstAt s.heap x ox C od) (hm:W.mroIn K C (.type "object")=some true) (hr:W.findIn K (.ref C) "__eq__" = some (some (.ref f))) (hf:W.isFn K (.ref f)=true)
    (h:wpAny (model prog w) A.in1 (call (.ref f) [.ref x,.ref y]) (λv s'=>∃b,v=.bool b/\Q (.bool (!b)) s') E s):wpAny (model prog w) A (call (.builtin "object.__ne__") [.ref x,.ref y]) Q E s:=by
  refine wpAny_call (codeAny_call_builtin PySem.F.cmp_object.ne.plain PySem.F.cmpEntry_ne (W.check_slot (i := "object.__ne__") (owner := "object") (n := "__ne__") qb qb (I.type.andThen (W.looks_mroIn X hm)) (PySem.F.cmpArgs_ne _ _) ?_));unfold Builtin.«object.__ne__»
  repeat (first
    |with_reducible refine wpAny_cRoomFor (by show A.in1.units<cLine;exact hu) ?_
    | (refine Zy (m:=callSpecialIfBound? (.ref x) (Str.ofString "__eq__") [.ref y])
        (W.ifBound_K X I hr hf (Zw h (λr s' hr=>by
          obtain⟨b,rfl,hq⟩:=hr
          repeat (first |exact hq |exact⟨_,rfl,hq⟩ |exact Zx ⟨_,rfl,hq⟩ | (refine Zy (m:=truthy (.bool _)) (ZY ?_)) |wp_step)) λ_ _ e=>e)))
    |wp_step)
end
section
variable {k:Nat}{f:Xd}{fd:FuncData}{sp:Sp}
def T7 (sp:Sp) (a b:Xd) (H:Hp) (Q:VK):Prop:=sp [.ref a,.ref b] H (λv H'=>∃t:Bool,v=.bl t/\Q (.bl t) H') E0
def Px {b:Xd}{Q:VK} (F:AU X.prog X.w X.K X.mg X.base aK k f fd ["self", "other"] sp) (hr:aE k A) (hA:eh X.prog X.w X.K X.mg X.base A X.stack s H) (hb:Binds X.K fd ["self", "other"] []) (I:Inv X aa σ H s) (h:T7 sp a b H Q) :
  wpAny (model X.prog X.w) A (call (.ref f) [.ref a,.ref b]) (λv s'=>∃t:Bool,v=.bool t/\EP X aa σ Q (.bool t) s') E s:=by
 refine wpAny_call (codeAny_mono (F.run A X.stack s H ⟨[.ref a,.ref b],[]⟩ [.ref a,.ref b] [.ref a,.ref b] _ E0 hr hA (hb s [.ref a,.ref b] I.cW rfl) (.cons rfl (.cons rfl .nil)) h) λr' s' hq=>?_);cases r' with
 |error e=>exact hq.elim
 |ok fl =>
  cases fl with
  |ret u =>
   obtain⟨v,H',I',rv,t,ev,q'⟩:=I.after hq;subst ev;cases rv;exact⟨t,Zj,.bl t,H',I',Zj,q'⟩
  |next=>exact False.elim hq
  |brk=>exact False.elim hq
  |cont=>exact False.elim hq
end
structure Hf (fs:List Xd) (e:Xd) (oe:Obj) (vs:Array Value) (old:Xd->Prop) (h h':Heap):Prop where
 tb:∃T oT ts,h.objs.size<=T/\h'.get? T=some oT/\oT.data=.fields ts/\ts[3]?=some .none/\h'.get? e=some { oe with data:=.fields (vs.setIfInBounds 1 (.ref T)) }
 keep:∀b o,h.get? b=some o->b≠e->¬ old b->b∉ fs->h'.get? b=some o
 slot:∀b o,h.get? b=some o->b≠e->¬ old b->b∈fs->∃sl,h'.get? b=some { o with slots:=sl }
 there:∀b o,h.get? b=some o->∃o',h'.get? b=some o'
section
variable {M:Model}
def En {o:Obj}{vs:Array Value} (hd:o.data=.fields vs) (f:Array Value->Array Value):Obj.mapFields f o={ o with data:=.fields (f vs) }:=by
 obtain⟨c,d,dt,sl⟩:=o;cases hd;rfl
def OX {b:Xd}{f:Obj->Obj} (hf:∀o,h.get? a=some o->(f o).isFreed=false):∀o,h.get? b=some o->∃o',(h.update a f).get? b=some o':=λo ho=>by
 by_cases q:b=a
 ·subst q;exact⟨_,ZT f ho (hf o ho)⟩
 ·exact⟨o,(ZV _ _ (Ne.symm q)).trans ho⟩
def Nd {env:Env}{outer:List Env}{L e:Xd}{oe:Obj}{vs:Array Value}{head:Value}{hadNext:Bool}{Q:Unit->Xe->Prop}
  (hfr:A.frames=some (env::outer)) (hl:s.heap.FunFrames base (env::outer)) (hf:env.frame=some L) (he:s.heap.get? e=some oe) (hd:oe.data=.fields vs) (hsz:1<vs.size)
  (h:∀h',Hf (dn (env::outer)) e oe vs (λ_=>False) s.heap h'->Q () { s with heap:=h' }) :
  wpAny M A (do let a ←frameOf env;let pl ←entryPlaceOf L hadNext;let b ←EntryCells.newEntry head a .none (rawInt L) .none pl;setField (.ref e) 1 b) (λ_ s'=>wpAny M A (setFlight (.ref e) none) Q E s') E s:=by
 have hene:e∉ dn (env::outer):=λhm=>by
  obtain⟨_,o,ho,hnf⟩:=hl.mem hm;rw[he]at ho;cases ho;exact hnf vs hd
 refine Zy (wpAny_frameOf_fun hfr hl hf λh1 x1=>Zy (wpAny_entryPlaceOf λpl hpl=>?_));unfold EntryCells.newEntry newFields;refine Zy (wpAny_newObj_type ?_ (hpl.sizeOk5 _ _ _ _ _));generalize hpg:([head,Value.ref L,.none,rawInt L,.none]++(if pl.isEmpty then List.replicate 6 Value.none else pl)).toArray=pg;have iH:3<pg.size:=by rw[←hpg];simp only[size_toArray,ZI,length_cons,length_nil];omega
 have e1:h1.get? e=some oe:=(x1.2.1 e hene).trans he;have e2:=ZW (h:=h1) ⟨.type "traceback", none,.fields pg,#[]⟩ e1;refine wpAny_setField e2 hd hsz ?_;have ne:h1.objs.size≠e:=Nat.ne_of_gt (lt_size e1);have d3:=Obj.data_mapFields hd (·.setIfInBounds 1 (Value.ref h1.objs.size));have e3:=ZT (Obj.mapFields (·.setIfInBounds 1 (Value.ref h1.objs.size))) e2 (Obj.isFreed_of_fields d3);have t3:=(ZV (h1.push ⟨.type "traceback", none,.fields pg,#[]⟩) (Obj.mapFields (·.setIfInBounds 1 (Value.ref h1.objs.size))) (Ne.symm ne)).trans (ZO h1 rfl);unfold setFlight;refine Zy (wpAny_field e3 d3 (x:=.ref h1.objs.size) (by simp[hsz]) ?_);rw[Zq (show(Value.ref h1.objs.size != Value.none)=true from by simp)];refine wpAny_setField t3 Zj iH (h _ ?_)
 have other:∀b o,b≠e->h1.get? b=some o->∀(g:Obj->Obj),(((h1.push ⟨.type "traceback", none,.fields pg,#[]⟩).update e (Obj.mapFields (·.setIfInBounds 1 (Value.ref h1.objs.size)))).update h1.objs.size g).get? b=some o:=λb o hb aL g=>by
  rw[ZV _ _ (Nat.ne_of_gt (lt_size aL)),ZV _ _ (Ne.symm hb)];exact ZW _ aL
 refine⟨⟨h1.objs.size,_,_,Nat.le_of_eq x1.1.symm,ZT _ t3 (Obj.isFreed_of_fields (Obj.data_mapFields Zj _)),Obj.data_mapFields Zj _,by simp[iH],?_⟩,λb o hb n1 _ n3=>?_,λb o hb n1 _ n3=>?_,λb o hb=>?_⟩
 ·rw[ZV _ _ ne,e3,En hd]
 ·have hb1:h1.get? b=some o:=(x1.2.1 b n3).trans hb;exact other b o n1 hb1 _
 ·obtain⟨sl,hs⟩:=x1.2.2 b o hb;exact⟨sl,other b _ n1 hs _⟩
 ·obtain⟨sl,hs⟩:=x1.2.2 b o hb;by_cases q:b=e
  ·subst q;exact⟨_,(ZV _ _ ne).trans e3⟩
  ·exact⟨_,other b _ q hs _⟩
def Kd {env:Env}{outer:List Env}{L e:Xd}{oe:Obj}{vs:Array Value}{Q:Unit->Xe->Prop}
  (hfr:A.frames=some (env::outer)) (hl:s.heap.FunFrames base (env::outer)) (hf:env.frame=some L) (he:s.heap.get? e=some oe) (hd:oe.data=.fields vs) (h1:vs[1]?=some .none)
  (h:∀h',Hf (dn (env::outer)) e oe vs (λ_=>False) s.heap h'->Q () { s with heap:=h' }):wpAny M A (leaving env (.ref e)) Q E s:=by
 unfold leaving noteFrame;simp only[hf];refine Zy (Zy (wpAny_field he hd h1 ?_));rw[Zr qc];exact Nd hfr hl hf he hd (Z9.mp h1).1 h
def Iy {env:Env}{outer:List Env}{L e T:Xd}{oe oT:Obj}{vs ts:Array Value}{Q:Unit->Xe->Prop}
  (hfr:A.frames=some (env::outer)) (hl:s.heap.FunFrames base (env::outer)) (hf:env.frame=some L) (he:s.heap.get? e=some oe) (hd:oe.data=.fields vs) (h1:vs[1]?=some (.ref T)) (hTe:T≠e)
  (hT:s.heap.get? T=some oT) (iR:oT.data=.fields ts) (h3:ts[3]?=some .none)
  (h:∀h',Hf (dn (env::outer)) e oe vs (·=T) s.heap h'->Q () { s with heap:=h' }):wpAny M A (noteFrame (.ref e) env) (λ_ s2=>wpAny M A (setFlight (.ref e) none) Q E s2) E s:=by
 unfold noteFrame;simp only[hf];refine Zy (wpAny_field he hd h1 ?_);rw[Zq (show(Value.ref T != Value.none)=true from by simp)];refine Zy (wpAny_field hT iR h3 ?_);rw[Zr (show ¬ ((Value.none==rawInt L)=true)from by simp[rawInt])];refine Zy (wpAny_setField hT iR (Z9.mp h3).1 ?_);have far:∀b,b≠T->(s.heap.update T (Obj.mapFields (·.setIfInBounds 3 Value.none))).get? b=s.heap.get? b:=λb hb=>ZV _ _ (Ne.symm hb)
 have nr:∀b o,s.heap.get? b=some o->(∀vs,o.data≠ .fields vs)->b≠T:=λb o hb hn q=>by
  subst q;rw[hT]at hb;cases hb;exact hn ts iR
 refine Nd (hfr:=hfr) (hl.of_keeps λb o hb hn=>⟨o,(far b (nr b o hb hn)).trans hb,Zj⟩) hf ((far e (Ne.symm hTe)).trans he) hd (Z9.mp h1).1 λh' x=>h h' ?_
 have fr:∀o,s.heap.get? T=some o->(Obj.mapFields (·.setIfInBounds 3 Value.none) o).isFreed=false:=λo ho=>by
  rw[hT]at ho;cases ho;exact Obj.isFreed_of_fields (Obj.data_mapFields iR _)
 obtain⟨T',oT',ts',a1,a2⟩:=x.tb;refine⟨⟨T',oT',ts',by rw[Heap.size_update]at a1;exact a1,a2⟩,λb o hb n1 n2 n3=>x.keep b o ((far b n2).trans hb) n1 (λz=>z) n3,λb o hb n1 n2 n3=>x.slot b o ((far b n2).trans hb) n1 (λz=>z) n3,λb o hb=>?_⟩;obtain⟨o',gZ⟩:=OX fr o hb;exact x.there b o' gZ
def MO {env:Env}{outer:List Env}{L e T:Xd}{oe oT:Obj}{vs ts:Array Value}{Q:Unit->Xe->Prop}
  (hfr:A.frames=some (env::outer)) (hl:s.heap.FunFrames base (env::outer)) (hf:env.frame=some L) (he:s.heap.get? e=some oe) (hd:oe.data=.fields vs) (h1:vs[1]?=some (.ref T)) (hTe:T≠e)
  (hT:s.heap.get? T=some oT) (iR:oT.data=.fields ts) (h3:ts[3]?=some .none)
  (h:∀h',Hf (dn (env::outer)) e oe vs (·=T) s.heap h'->Q () { s with heap:=h' }):wpAny M A (leaving env (.ref e)) Q E s:=by
 unfold leaving;exact Zy (Iy hfr hl hf he hd h1 hTe hT iR h3 h)
end
noncomputable def F5 (e C:Xd) (dx:Option Xd):HO:=.ext λh=>∃oe vs,h.get? e=some oe/\oe.cls=.ref C/\oe.dict=dx/\oe.data=.fields vs/\5<vs.size/\vs[2]?=some .none
structure Py (P:Program) (w:World) (l:List Env) (H:Hp) (s:Xe) (e C:Xd) (dx:Option Xd) (H':Hp) (s':Xe):Prop where
 os:s'.os=s.os
 bare:AllBare s'.gens
 un:Un (dn l) [] H H' s.heap s'.heap
 aF:du P w H' s'.heap
 at_:H' e=some (F5 e C dx)
def Tb0 (e:Xd) (s':Xe):Prop:=∃oe vs,s'.heap.get? e=some oe/\oe.data=.fields vs/\vs[1]?=some .none
def Tb1 (e:Xd) (H':Hp) (s s':Xe) (fl:Value):Prop:=∃oe vs T oT ts,s'.heap.get? e=some oe/\oe.data=.fields vs/\vs[1]?=some (.ref T)/\T≠e/\s'.heap.get? T=some oT/\oT.data=.fields ts/\ts[3]?=some fl/\H' T=none/\s.heap.get? T=none
def Fly (P:Program) (w:World) (l:List Env) (H:Hp) (s:Xe) (e C:Xd) (dx:Option Xd) (H':Hp) (s':Xe):Prop:=Py P w l H s e C dx H' s'/\Tb1 e H' s s' .none
def eB (P:Program) (w:World):gL:=λouter H s E e s'=>∃ea C dx H',e=.ref ea/\Fly P w outer H s ea C dx H' s'/\E (.ref C) dx H'
def Nf {base h h':Heap}{fs:List Xd}{H H':Hp} (u:Un fs [] H H' h h'):∀ {l:List Env},(∀b∈dn l,b∈fs)->(∀b∈dn l,H b=none)->h.FunFrames base l->h'.FunFrames base l
 | [],_,_,_=>trivial
 |env::r,hs,hn,⟨hk,⟨L,o,hf,hb,ho,hd⟩,hr⟩=>by
  have hL:L∈dn (env::r):=by unfold dn;rw[ZN,hf];exact ZJ
  have sub:∀b∈dn r,b∈dn (env::r):=λb z=>by unfold dn;rw[ZN,hf];exact ZR _ z
  obtain⟨sl,e⟩:=u.slot L o ho (hn L hL) (hs L hL) (by simp);exact⟨hk,⟨L,_,hf,hb,e,hd⟩,Nf u (λb z=>hs b (sub b z)) (λb z=>hn b (sub b z)) hr⟩
section
variable {H1 H2:Hp}{s1 s2:Xe}{e:Xd}{dx:Option Xd}
structure MP (X:Cx):Prop where
 gA:X.stack=X.env::X.outer
 fr:X.env.frame=some X.env.locals
 ex:X.ex=[]
def Ke {fs:List Xd}{oe:Obj}{vs:Array Value}{old:Xd->Prop}{h':Heap} (ok:du P w H2 h) (L:Hf fs e oe vs old h h') (hf:∀b∈fs,H2 b=none) (ho:∀b,old b->H2 b=none)
  (he:h.get? e=some oe) (hd:oe.data=.fields vs) (at_:H2 e=some (F5 e C dx)):du P w H2 h':=λb u q=>by
 have kp:∀c v,c≠e->(∃z,H2 c=some z)->h.get? c=some v->h'.get? c=some v:=λc v n ⟨z,hz⟩ hv=>L.keep c v hv n (λy=>by rw[ho c y]at hz;cases hz) λy=>by rw[hf c y]at hz;cases hz
 by_cases hb:b=e
 ·subst hb;rw[at_]at q;cases q;obtain⟨⟨oe',vs',a1,a2,a3,a4,a5,a6⟩,_,st⟩:=ok _ _ at_;rw[he]at a1;cases a1;rw[hd]at a4;cases a4;obtain⟨T,oT,ts,b1,b2,b3,b4,b5⟩:=L.tb;exact⟨⟨_,_,b5,a2,a3,Zj,by rw[Array.size_setIfInBounds];exact a5,by rw[Array.getElem?_setIfInBounds_ne qc];exact a6⟩,⟨_,b5⟩,st⟩
 ·refine(ok b u q).eR (λc v hc r=>?_) (λ_ z=>z) λ_ _ z=>z;rcases hc with rfl |hc
  ·exact kp c v hb ⟨u,q⟩ r
  ·refine kp c v (λz=>?_) ⟨_,hc⟩ r;subst z;rw[at_]at hc;cases hc
def Kh {oe:Obj}{vs:Array Value}{old:Xd->Prop}{h':Heap} (O:MP X) (I:Inv X aa σ H1 s1) (F:Py X.prog X.w X.stack H1 s1 e C dx H2 s2) (he:s2.heap.get? e=some oe) (hd:oe.data=.fields vs) (h1:1<vs.size)
  (hold:∀b,old b->H2 b=none/\s1.heap.get? b=none) (L:Hf (dn X.stack) e oe vs old s2.heap h'):Fly X.prog X.w X.outer X.eV X.aX e C dx H2 { s2 with heap:=h' }:=by
 have b0:Un (dn X.outer) [] X.eV H1 X.aX.heap s1.heap:=by have:=I.base;rw[O.ex]at this;exact this
 have free2:∀b∈dn X.stack,H2 b=none:=λb hb=>by
  obtain⟨_,o,ho,_⟩:=I.stack.mem hb;exact F.un.free b o ho (I.stkFree b hb) (by simp)
 have ne:∀b,H2 b=none->b≠e:=λb n z=>by subst z;rw[F.at_]at n;cases n
 have out:∀b o,X.aX.heap.get? b=some o->b∉ dn X.outer->b∉ dn X.stack:=λb o hb hn z=>by
  rw[O.gA]at z;unfold dn at z;rw[ZN,O.fr]at z;rcases mem_cons.mp z with z |z
  ·exact absurd (Z1 (lt_size hb) I.ok.above) (by rw[z];exact ZG _)
  ·exact hn z
 have up:∀b,b∈dn X.outer->b∈dn X.stack:=λb hb=>by
  rw[O.gA];unfold dn;rw[ZN,O.fr];exact ZR _ hb
 have nold:∀b o,X.aX.heap.get? b=some o->¬ old b:=λb o hb z=>by
  obtain⟨o',gZ⟩:=b0.there b o hb (by simp);rw[(hold b z).2]at gZ;cases gZ
 have und:Un (dn X.outer) [] X.eV H2 X.aX.heap h':=by
  refine⟨λb o q n hb _=>?_,λb o q n hb _=>?_,λb o q n _=>?_,λb o q _=>?_,λb xs q=>F.un.eZ b xs (b0.eZ b xs q),λb o xs q=>F.un.eU b o xs (b0.eU b o xs q),λb ps q=>?_⟩
  ·have q1:=b0.keep b o q n hb (by simp);have n1:=b0.free b o q n (by simp);have q2:=F.un.keep b o q1 n1 (out b o q hb) (by simp);exact L.keep b o q2 (ne b (F.un.free b o q1 n1 (by simp))) (nold b o q) (out b o q hb)
  ·obtain⟨sl,q1⟩:=b0.slot b o q n hb (by simp);have n1:=b0.free b o q n (by simp);obtain⟨fc,q2⟩:=F.un.slot b _ q1 n1 (up b hb) (by simp);obtain⟨gU,q3⟩:=L.slot b _ q2 (ne b (F.un.free b _ q1 n1 (by simp))) (nold b o q) (up b hb);exact⟨gU,q3⟩
  ·obtain⟨o1,q1⟩:=b0.there b o q (by simp);exact F.un.free b o1 q1 (b0.free b o q n (by simp)) (by simp)
  ·obtain⟨o1,q1⟩:=b0.there b o q (by simp);obtain⟨o2,q2⟩:=F.un.there b o1 q1 (by simp);exact L.there b o2 q2
  ·obtain⟨m1,e1⟩:=b0.eQ b ps q;obtain⟨m2,e2⟩:=F.un.eQ b _ e1;exact⟨m1++m2,by rw[e2,Array.append_assoc]⟩
 refine⟨⟨F.os.trans I.os,F.bare,und,Ke F.aF L free2 (λb z=>(hold b z).1) he hd F.at_,F.at_⟩,?_⟩;obtain⟨T,oT,ts,b1,b2,b3,b4,b5⟩:=L.tb;have hT:s2.heap.get? T=none:=Heap.get?_none_of_le b1;refine⟨_,_,T,oT,ts,b5,Zj,by simp[h1],λz=>?_,b2,b3,b4,F.aF.fresh b1,?_⟩
 ·subst z;rw[he]at hT;cases hT
 ·cases q:X.aX.heap.get? T with
  |none=>rfl
  |some o =>
   obtain⟨o1,q1⟩:=b0.there T o q (by simp);obtain⟨o2,q2⟩:=F.un.there T o1 q1 (by simp);rw[hT]at q2;cases q2
def Eo (I:Inv X aa σ H1 s1) (F:Py X.prog X.w X.stack H1 s1 e C dx H2 s2):s2.heap.FunFrames X.base X.stack:=Nf F.un (λ_ z=>z) I.stkFree I.stack
def Hg {E':VS} (O:MP X) (I:Inv X aa σ H1 s1) (F:Fly X.prog X.w X.stack H1 s1 e C dx H2 s2) :
  wpAny (model X.prog X.w) X.A (leaving X.env (.ref e)) (λ_ s3=>Fly X.prog X.w X.outer X.eV X.aX e C dx H2 s3) E' s2:=by
 obtain⟨B,oe,vs,T,oT,ts,a1,a2,a3,a4,a5,a6,a7,a8,a9⟩:=F;have fr:=Eo I B;have hA:=I.ok.frames;rw[O.gA]at fr hA;refine MO hA fr O.fr a1 a2 a3 a4 a5 a6 a7 λh' L=>?_;rw[←O.gA]at L;exact Kh O I B a1 a2 (Z9.mp a3).1 (λb z=>by subst z;exact⟨a8,a9⟩) L
def MQ {E':VS} (O:MP X) (I:Inv X aa σ H1 s1) (B:Py X.prog X.w X.stack H1 s1 e C dx H2 s2) (T:Tb0 e s2) :
  wpAny (model X.prog X.w) X.A (leaving X.env (.ref e)) (λ_ s3=>Fly X.prog X.w X.outer X.eV X.aX e C dx H2 s3) E' s2:=by
 obtain⟨oe,vs,a1,a2,a3⟩:=T;have fr:=Eo I B;have hA:=I.ok.frames;rw[O.gA]at fr hA;refine Kd hA fr O.fr a1 a2 a3 λh' L=>?_;rw[←O.gA]at L;exact Kh O I B a1 a2 (Z9.mp a3).1 (λb z=>z.elim) L
end
def T8 {CX:gL}{qual:Str}{scope:Scope}{f:Xd}{cd:Value}{outer:List Env}{E:XK} :
  MP (Ao CX P w K mg base N qual scope f cd A outer s H E):=⟨rfl,rfl,rfl⟩
def Iz {qual:Str}{scope:Scope}{f:Xd}{cd:Value}{outer:List Env}{E:XK} :
  BN (eB P w) (Ao (eB P w) P w K mg base N qual scope f cd A outer s H E) E:=by
 rintro aa σ H1 s1 e s2 I ⟨ea,C,dx,H2,rfl,F,q⟩;exact Zw (Hg (X:=Ao (eB P w) P w K mg base N qual scope f cd A outer s H E) T8 I F) (λ_ s3 G=>⟨ea,C,dx,H2,Zj,G,q⟩) λ_ _ z=>z
def Pz (X:Cx) (E:XK):Prop:=∀(aa:LO) (σ:St) (H:Hp) (s:Xe) (e C:Xd) (dx:Option Xd) (H':Hp) (s':Xe),Inv X aa σ H s->Py X.prog X.w X.stack H s e C dx H' s'->Tb0 e s'->E (.ref C) dx H'->X.xe (.ref e) s'
def Ng {qual:Str}{scope:Scope}{f:Xd}{cd:Value}{outer:List Env}{E:XK} :
  Pz (Ao (eB P w) P w K mg base N qual scope f cd A outer s H E) E:=by
 intro aa σ H1 s1 ea C dx H2 s2 I F T q;exact Zw (MQ (X:=Ao (eB P w) P w K mg base N qual scope f cd A outer s H E) T8 I F T) (λ_ s3 G=>⟨ea,C,dx,H2,Zj,G,q⟩) λ_ _ z=>z
structure Ki (B:String) (bm:Xb):Prop where
 b:bm.contains (.type B)=true
 base:bm.contains (.type "BaseException")=true
 na:bm.contains (.type "AttributeError")=false
 nn:bm.contains (.type "NameError")=false
section
variable {M:Model}{g:Array GenState}{d:Drawn}{t:Nat}{os:OsState}
variable {nm qn:Str}{N:Xd}{bs bm jQ:Xb}{bc:Bool}{sn:Xa}{sub:Xb}{ab:Bool}{col:Option Bool}{dd:Option Xd}{k0 k1 k2 k3 k5:Option Value}{B newId dm:String}
def MR (F:ExcBaseFacts B newId dm jQ) (T:Ki B bm) {rest:Xb}{Q:Unit->Xe->Prop} (oC:h.get? C=some (excClassObj nm qn C N bs bm bc sn sub ab col dd k0 k1 k2 k3 k5 newId))
  (fin:Q () ⟨h,g,d,t,os⟩):wpAny M A (checkBuiltinCall newId ⟨.ref C::rest,[]⟩) Q E ⟨h,g,d,t,os⟩:=by
 have c1:(Value.ref C::bm).contains (.type B)=true:=by rw[contains_cons,T.b];simp
 have st:=F.noStar;simp only[checkBuiltinCall,F.newKind,F.newSplit,F.newRow]
 repeat (first |refine ZX oC ?_ | (refine Z3 oC ?_;rw[c1]) |refine wpAny_staticBase_exc oC ?_ |refine wpAny_madeBy_exc oC ?_ |simp only[bne_self_eq_false,Bool.false_eq_true,if_false] |wp_step)
 exact fin
end
section
variable {prog:Program}{R:Result->Xe->Prop}{g:Array GenState}{d:Drawn}{t:Nat}{os:OsState}
variable {nm qn:Str}{N:Xd}{bs bm jQ:Xb}{bc:Bool}{sn:Xa}{sub:Xb}{ab:Bool}{col:Option Bool}{dd:Option Xd}{k0 k1 k2 k3 k5:Option Value}{B newId dm:String}
noncomputable abbrev MS (C:Xd) (h:Heap):Obj:={ cls:=.ref C,data:=.fields #[.ref h.objs.size,.none,.none,.none,.bool false,.none] }
noncomputable abbrev D1 (C:Xd) (rest:Xb) (h:Heap):Heap:=(h.push { cls:=.type "tuple", data:=.seq rest.toArray }).push (MS C h)
def P1 (F:ExcBaseFacts B newId dm jQ) (T:Ki B bm) {rest:Xb} (oC:h.get? C=some (excClassObj nm qn C N bs bm bc sn sub ab col dd k0 k1 k2 k3 k5 newId))
  (fin:R (.ok (.ret (.ref (h.objs.size+1)))) ⟨D1 C rest h,g,d,t,os⟩) (hz:rest.length<=sizeLine):codeAny (model prog w) A (.builtin newId ⟨.ref C::rest,[]⟩) R ⟨h,g,d,t,os⟩:=by
 have e1:=F.ends;have c1:(Value.ref C::bm).contains (.type B)=true:=by rw[contains_cons,T.b];simp
 have c2:(Value.ref C::bm).contains (.type "AttributeError")=false:=by rw[contains_cons,T.na];rfl
 have c3:(Value.ref C::bm).contains (.type "NameError")=false:=by rw[contains_cons,T.nn];rfl
 refine codeAny_builtinAt F.entry ?_;unfold Builtin.«BaseException.__new__»;refine PySem.wpAt_bind ?_;show PySem.wpAt _ _ _ (stack >>= _) _ _ _;refine PySem.wpAt_bind (PySem.wpAt_stack λp below=>PySem.wpAt_of_wpAny ?_)
 wp_walk
 refine PySem.wpAt_of_wpAny ?_;rw[F.owner]
 repeat (first |with_reducible refine wpAny_madeHere_exc F.canon oC ?_ |with_reducible refine ZX oC ?_ | (with_reducible refine Z3 oC ?_;first |rw[c1] |rw[c2] |rw[c3]) |wp_step)
 show R _ _;rw[Heap.size_push];exact fin
def MU (F:ExcBaseFacts B newId dm jQ) (T:Ki B bm) {rest:Xb}{fI:Xd}{oI:Obj}{Q:Fin->Xe->Prop}
  (oC:h.get? C=some (excClassObj nm qn C N bs bm bc sn sub ab col dd k0 k1 k2 k3 k5 newId)) (li:W.Looks (model prog w) h (typeLookup (.ref C) "__init__") (some (.ref fI))) (oF:h.get? fI=some oI) (cF:oI.cls=.type "function") (hz:rest.length<=sizeLine)
  (fin:wpAny (model prog w) A (call (.ref fI) (.ref (h.objs.size+1)::rest)) (λr s'=>r=.none/\Q (.done (.ret (.ref (h.objs.size+1)))) s') E ⟨D1 C rest h,g,d,t,os⟩) :
  wpAny (model prog w) A (Builtin.«type.__call__» ⟨.ref C::rest,[]⟩) Q E ⟨h,g,d,t,os⟩:=by
 repeat (first |with_reducible refine ZX oC ?_ |with_reducible refine wpAny_madeBy_exc oC ?_ |wp_step)
 refine codeAny_call_builtin_code (Code.quiet_builtin _ F.quiet) (MR F T oC (P1 F T oC ?_ hz));show wpAny _ _ _ _ _ _;have kp:∀b o,h.get? b=some o->(D1 C rest h).get? b=some o:=λb o z=>ZW _ (ZW _ z);have oC1:=kp _ _ oC;have ge:(D1 C rest h).get? (h.objs.size+1)=some (MS C h):=by unfold D1;heap_get
 have c1:(Value.ref C::bm).contains (.ref C)=true:=by simp
 unfold isInstance
 repeat (first |with_reducible refine ZX ge ?_ | (with_reducible refine Z3 oC1 ?_;rw[c1]) |wp_step)
 refine li A _ E ⟨D1 C rest h,g,d,t,os⟩ kp ?_;refine ZL (Zy ?_);unfold bindSpecial;refine Zy (wpAny_typeOf (T := "function") ⟨_,kp _ _ oF,cF⟩ ?_);rw[Zq qc];refine Zx (Zy (Zw fin (λr s' z=>?_) λ_ _ x=>x));obtain⟨rfl,hQ⟩:=z
 wp_walk
 exact hQ
def OY (F:ExcBaseFacts B newId dm jQ) (T:Ki B bm) {rest:Xb}{fI:Xd}{oI:Obj}{Q:VS}
  (oC:h.get? C=some (excClassObj nm qn C N bs bm bc sn sub ab col dd k0 k1 k2 k3 k5 newId)) (li:W.Looks (model prog w) h (typeLookup (.ref C) "__init__") (some (.ref fI))) (oF:h.get? fI=some oI) (cF:oI.cls=.type "function") (hz:rest.length<=sizeLine)
  (fin:wpAny (model prog w) (A.under (.builtin "type.__call__" ⟨.ref C::rest,[]⟩)) (call (.ref fI) (.ref (h.objs.size+1)::rest)) (λr s'=>r=.none/\Q (.ref (h.objs.size+1)) s') E ⟨D1 C rest h,g,d,t,os⟩) :
  wpAny (model prog w) A (call (.ref C) rest) Q E ⟨h,g,d,t,os⟩:=by
 have f1:=tc_lookup;have f2:=tc_bind (.ref C);have hT:(⟨h,g,d,t,os⟩:Xe).TypeIs (.ref C) "type" := ⟨_,oC,rfl⟩;refine wpAny_call (codeAny_of_tree ?_);show wpAny _ _ (callAny (.ref C) _) _ _ _
 repeat (any_goals (first |assumption |with_reducible refine ZX oC ?_ |wp_step))
 refine⟨Zj,?_⟩;exact codeAny_call_builtin_at (Code.quiet_builtin _ qb) entry_typeCall (wpAny_check_type_call_sub oC (MU F T oC li oF cF hz fin))
end
noncomputable def FO (e C:Xd) (dx:Option Xd):HO:=.ext λh=>∃oe vs,h.get? e=some oe/\oe.cls=.ref C/\oe.dict=dx/\oe.data=.fields vs/\vs.size=6/\vs[1]?=some .none/\vs[2]?=some .none
noncomputable def A9 (K:FG) (C:Xd):Bool:=match K.lookup C with
 |some ⟨.type "type", _,.cls cd,sl⟩=>(match cd.mro,sl.toList with
  | .ref C'::bm,[_,_,_,_,some (.builtin n),_]=>C'==C && !cd.hasDel&&n == "ValueError.__new__" && bm.contains (.type "BaseException")&&bm.contains (.type "ValueError") && !bm.contains (.type "AttributeError") && !bm.contains (.type "NameError")
  |_,_=>false)
 |_=>false
def HB (X:K.In h) (q:A9 K C=true):∃nm qn N bs bm bc sn sub ab col dd k0 k1 k2 k3 k5,h.get? C=some (excClassObj nm qn C N bs bm bc sn sub ab col dd k0 k1 k2 k3 k5 "ValueError.__new__")/\Ki "ValueError" bm:=by
 unfold A9 at q;split at q
 ·rename_i dd cd sl ho;split at q
  ·rename_i C' bm k0 k1 k2 k3 n k5 hm hs;simp only[Bool.and_eq_true,beq_iff_eq,Bool.not_eq_true']at q;obtain⟨⟨⟨⟨⟨⟨rfl,hdel⟩,rfl⟩,hb⟩,ht⟩,ha⟩,hn⟩:=q;obtain⟨nm,bs,mro,ns,qn,hd,sn,sub,ab,col,del⟩:=cd
   dsimp only at hm hdel
   subst hm hdel;obtain⟨l⟩:=sl;simp only at hs;subst hs;exact⟨nm,qn,ns,bs,bm,hd,sn,sub,ab,col,dd,k0,k1,k2,k3,k5,X _ _ ho,⟨ht,hb,ha,hn⟩⟩
  ·cases q
 ·cases q
structure MkX (K:FG) (C f:Xd):Prop where
 cls:A9 K C=true
 init:W.findIn K (.ref C) "__init__" = some (some (.ref f))
 fn:W.isFn K (.ref f)=true
 fo:∃o,K.lookup f=some o/\o.cls=.type "function"
 kp:W.keepIn K (.ref C)=true
section
variable {CX:gL}{k:Nat}{f:Xd}{fd:FuncData}{ps:Xa}{sp:Sp}{d0:Xc}{ds:Xb}{E:XK}{m:Str}{p apos:Pos}{o:Expr}{es:List Expr}{t:TA}
def OZ (C:Xd) (rest:Xb) (h:Heap):(D1 C rest h).get? (h.objs.size+1)=some (MS C h):=by unfold D1;heap_get
def Inv.madeX (I:Inv X aa σ H s) (rest:Xb):Inv X aa σ (upd H (s.heap.objs.size+1) (FO (s.heap.objs.size+1) C none)) { s with heap:=D1 C rest s.heap }:=by
 have kp:∀b o,s.heap.get? b=some o->(D1 C rest s.heap).get? b=some o:=λb o z=>ZW _ (ZW _ z);refine I.laid (t':=s.toks) kp (Nat.le_succ _) ?_;have ge:=OZ C rest s.heap;exact⟨⟨_,_,ge,Zj,Zj,Zj,Zj,Zj,Zj⟩,⟨_,ge⟩,λh1 h2 ⟨oe,vs,a,r⟩ k=>⟨oe,vs,k _ a,r⟩⟩
def Oa {Q:VK}{vs:Xc} (M:MkX X.K C f) (F:AU X.prog X.w X.K X.mg X.base CX k f fd ps sp) (hr:aE (k+1) X.A) (hb:Binds X.K fd ps ds) (hd:Vals d0 ds) (hx:BN CX X E) (I:Inv X aa σ H s) (r:Vals vs us) (hz:vs.length<=1000)
  (h:∀x,H x=none->sp (.ref x::(vs++d0)) (upd H x (FO x C none)) (λv H2=>v=.aI/\Q (.ref x) H2) E):wpAny (model X.prog X.w) X.A (call (.ref C) us) (EP X aa σ Q) X.xe s:=by
 have hq:=h (s.heap.objs.size+1) (I.aF.fresh (Nat.le_succ _));have I2:=Inv.madeX (C:=C) I us;have r2:Vals (V.ref (s.heap.objs.size+1)::(vs++d0)) (Value.ref (s.heap.objs.size+1)::(us++ds)):=.cons rfl (r.append hd)
 have hl:(Value.ref (s.heap.objs.size+1)::us++ds).length=ps.length:=by
  have e:=r2.length;rw[F.len _ _ _ _ hq]at e;exact e.symm
 obtain⟨nm,qn,N,bs,bm,bc,sn,sub,ab,col,dd,k0,k1,k2,k3,k5,oC,T⟩:=HB I.cW M.cls;obtain⟨oF,lF,cF⟩:=M.fo;obtain⟨hh,g,d,tk,os⟩:=s;refine OY PySem.F.excBase_ValueError T oC (W.looks_findIn I.cW M.init) (I.cW _ _ lF) cF (by rw[←r.length];exact Nat.le_of_lt (AK hz)) ?_;refine wpAny_call (codeAny_mono (F.run _ X.stack _ _ ⟨_,[]⟩ (Value.ref (hh.objs.size+1)::(us++ds)) _ _ E (hr.make C us []) (I2.gq.make C us []) (hb _ (Value.ref (hh.objs.size+1)::us) I2.cW hl) r2 hq) λr s' fv=>?_);cases r with
 |error e=>exact hx aa σ _ _ e s' I2 fv
 |ok fl =>
  cases fl with
  |ret u =>
   obtain⟨v,H',I3,rv,ev,q3⟩:=I2.after fv;subst ev;exact⟨rv,⟨V.ref (hh.objs.size+1),H',I3,Zj,q3⟩⟩
  |next=>exact False.elim fv
  |brk=>exact False.elim fv
  |cont=>exact False.elim fv
def MV (C:Xd) (sp:Sp) (d0:Xc) (E:XK) (t:TA):TE:=λσ H Q=>t σ H λvs H1=>vs.length<=1000/\∀x,H1 x=none->sp (.ref x::(vs++d0)) (upd H1 x (FO x C none)) (λv H2=>v=.aI/\Q (.ref x) H2) E
def FP (M:MkX X.K C f) (F:AU X.prog X.w X.K X.mg X.base CX k f fd ps sp) (hr:aE (k+1) X.A) (hg:Gl X x) (hm:X.mg x=some (.ref C)) (hb:Binds X.K fd ps ds) (hd:Vals d0 ds) (hx:BN CX X E)
  (ha:PA X (e::es) t) (eI:(x==("__debug__" : Str))=false:=by decide) (he:starEach (e::es) X.env=(false,eval e X.env)::starEach es X.env:=by rfl) (hpl:(backTo pos (starEach es X.env)).any (·.1)=false:=by rfl) :
  PE X (.Call (.Name x p) (e::es) [] pos) (MV C sp d0 E t):=by
 intro aa s σ H Q I h;refine Z2 (Bq I hg hm ?_ eI);refine W.callWith_K (h₀:=X.base) I.ok.mod.kin M.kp (aG (ha pos aa s σ H _ I h) λus s1 ⟨vs,H1,I1,r,q⟩=>⟨I1.cW,?_⟩) he hpl;exact Oa M F hr hb hd hx I1 r q.1 q.2
def MW (C:Xd) (te:TE) (E:XK):TS:=λ_ σ H=>te σ H λv H1=>∃e dx,v=.ref e/\H1 e=some (FO e C dx)/\E (.ref C) dx (upd H1 e (F5 e C dx))
def Ob {H1:Hp}{e:Xd}{dx:Option Xd} (ok:du P w H1 h) (at_:H1 e=some (FO e C dx)):du P w (upd H1 e (F5 e C dx)) h:=by
 obtain⟨⟨oe,vs,a1,a2,a3,a4,a5,a6,a7⟩,_,_⟩:=ok _ _ at_;refine ok.write (x:=e) (e:=e) (by rw[at_];exact True.intro) (.inl Zj) (λb u _ q=>q) ⟨_,a1⟩ ⟨⟨oe,vs,a1,a2,a3,a4,qe,a7⟩,⟨_,a1⟩,λh1 h2 ⟨oe,vs,a,r⟩ k=>⟨oe,vs,k _ a,r⟩⟩
end
section
variable {M:Model}{env:Env}
def Kj {x:Sem Value}{Q:Flow->Xe->Prop} (hh:A.handled=none)
  (h:wpAny M A x (λv s1=>∃e oe vs,v=.ref e/\s1.heap.get? e=some oe/\oe.cls=.ref C/\oe.data=.fields vs/\vs[1]?=some .none /\
   (∃nm qn N bs bm bc sn sub ab col dd k0 k1 k2 k3 k5 nid,s1.heap.get? C=some (excClassObj nm qn C N bs bm bc sn sub ab col dd k0 k1 k2 k3 k5 nid)/\bm.contains (.type "BaseException")=true)/\E (.ref e) s1) E s) :
  wpAny M A (raiseStmt env (some x) none) Q E s:=by
 unfold raiseStmt;refine Zy (Zw h (λv s1 z=>?_) λ_ _ y=>y);obtain⟨e,oe,vs,rfl,he,bi,hd,h1,⟨nm,qn,N,bs,bm,bc,sn,sub,ab,col,dd,k0,k1,k2,k3,k5,nid,oC,hb⟩,hE⟩:=z;have c1:(Value.ref C::bm).contains (.type "BaseException")=true:=by rw[contains_cons,hb,Bool.or_true]
 obtain⟨hp,g,d,tk,os⟩:=s1
 repeat (first | (with_reducible refine ZX he ?_;rw[bi]) |with_reducible refine ZX oC ?_ | (with_reducible refine Z3 oC ?_;rw[c1]) |wp_step)
 rw[hd];refine Zx ?_;rw[h1];refine Zx ?_;rw[Zr qc];exact Zx (wpAny_raiseNew_none hh hE)
end
section
variable {E:XK}{o:Expr}
def FQ (hR:Pz X E) (hc:X.calm=true) (hC:A9 X.K C=true) (he:PE X o te):PS X (.Raise (some o) none pos) (MW C te E):=by
 intro aa s σ H D I h;rw[arm_exec_Raise];refine Zy (ZK (Kj (C:=C) (I.ok.hd hc) (Zy (Zw (he aa s σ H _ I h) (λv s1 z=>Zy (ZK (Zx ?_))) λ_ _ y=>y))));obtain⟨u,H1,I1,ru,e,dx,rfl,at_,q⟩:=z;obtain rfl:v=.ref e:=ru;obtain⟨⟨oe,vs,a1,a2,a3,a4,a5,a6,a7⟩,_,_⟩:=I1.aF _ _ at_;obtain⟨nm,qn,N,bs,bm,bc,sn,sub,ab,col,dd,k0,k1,k2,k3,k5,oC,T⟩:=HB I1.cW hC;refine⟨e,oe,vs,Zj,a1,a2,a4,a6,⟨nm,qn,N,bs,bm,bc,sn,sub,ab,col,dd,k0,k1,k2,k3,k5,_,oC,T.base⟩,?_⟩;refine hR aa σ H1 s1 e C dx _ s1 I1 ⟨Zj,I1.bare,Un.write (x:=e) (e:=e) (by rw[at_];exact True.intro) (.inl Zj) (λb u _ r=>r) ⟨_,a1⟩,Ob I1.aF at_,AB⟩ ⟨oe,vs,a1,a4,a6⟩ q
end
section
variable {prog:Program}{g:Array GenState}{d:Drawn}{t:Nat}{os:OsState}
variable {nm qn:Str}{N:Xd}{bs bm jQ:Xb}{bc:Bool}{sn:Xa}{sub:Xb}{ab:Bool}{col:Option Bool}{dd:Option Xd}{k0 k1 k2 k3 k5:Option Value}{B newId dm:String}
def Kk (F:ExcBaseFacts B newId dm jQ) (T:Ki B bm) {M:Model}{e:Xd}{oe:Obj}{rest:Xb}{Q:Unit->Xe->Prop}
  (oC:h.get? C=some (excClassObj nm qn C N bs bm bc sn sub ab col dd k0 k1 k2 k3 k5 newId)) (he:h.get? e=some oe) (bi:oe.cls=.ref C) (fin:Q () ⟨h,g,d,t,os⟩) :
  wpAny M A (checkBuiltinCall dm ⟨.ref e::rest,[]⟩) Q E ⟨h,g,d,t,os⟩:=by
 have c1:(Value.ref C::bm).contains (.type B)=true:=by rw[contains_cons,T.b];simp
 have st:=F.noStar;simp only[checkBuiltinCall,F.initKind,F.initSplit,F.initRow]
 repeat (first | (with_reducible refine ZX he ?_;rw[bi]) |with_reducible refine ZX oC ?_ | (with_reducible refine Z3 oC ?_;rw[c1]) |wp_step)
 refine wpAny_onRaise ?_;rw[show ∀(a b:String) (n:Nat),Bind.check ⟨.positional, "*", B,.self,[⟨"args", .varPos,false⟩]⟩ a b n (List.map (λx=>x.fst) ({ pos:=Value.ref e::rest }:Args).kw)=pure ()from λa b n=>check_star_args _ _ _ _ _ _];exact Zx fin
def MY (F:ExcBaseFacts B newId dm jQ) (T:Ki B bm) {e:Xd}{oe:Obj}{vs:Array Value}{v0:Value}{rest:Xb}{Q:VS}
  (oC:h.get? C=some (excClassObj nm qn C N bs bm bc sn sub ab col dd k0 k1 k2 k3 k5 newId)) (he:h.get? e=some oe) (bi:oe.cls=.ref C) (hd:oe.data=.fields vs) (h0:vs[0]?=some v0) (hz:rest.length<=sizeLine)
  (fin:Q .none ⟨(h.push { cls:=.type "tuple", data:=.seq rest.toArray }).update e (Obj.mapFields (·.setIfInBounds 0 (.ref h.objs.size))),g,d,t,os⟩) :
  wpAny (model prog w) A (call (.builtin dm) (.ref e::rest)) Q E ⟨h,g,d,t,os⟩:=by
 refine wpAny_call (codeAny_call_builtin F.init.plain F.initEntry (Kk F T oC he bi ?_));have e1:=ZW { cls:=.type "tuple", data:=.seq rest.toArray } he;unfold Builtin.«BaseException.__init__»
 wp_walk
 rw[hd];refine Zx ?_;rw[h0];refine Zx (Zy (wpAny_setField e1 hd (Z9.mp h0).1 ?_))
 have done:∀ {E':VS},wpAny (model prog w) A.in1 (match v0 with |Value.ref _=>letGo [v0] |_=>pure ()) (λ_ s'=>Q .none s') E' ⟨(h.push { cls:=.type "tuple", data:=.seq rest.toArray }).update e (Obj.mapFields (·.setIfInBounds 0 (.ref h.objs.size))),g,d,t,os⟩:=λ{E'}=>by
  cases v0 <;> first |exact Zx fin | (wp_walk;exact fin)
 exact Zw done (λ_ s' q=>Zx q) λ_ _ z=>z
end
def P2 {o:HO} (h:H a=some o):upd H a o=H:=by
 funext b;unfold upd;split
 ·rename_i e;rw[e,h]
 ·rfl
def Oc {x:V}:∀ {us:Xb},Vals (x::xs) us->∃u ls,us=u::ls/\RelV x u/\Vals xs ls
 |_::_,.cons a b=>⟨_,_,rfl,a,b⟩
section
variable {es:List Expr}{t:TA}{np apos:Pos}
def T9 (K:FG) (t:TA):TE:=λσ H Q=>t σ H λvs H1=>∃a C dx rest,vs=.ref a::rest/\rest.length<=1000/\A9 K C=true/\H1 a=some (FO a C dx)/\Q .aI H1
def Ri:typeOf (.type "ValueError")=pure (.type "type"):=by kernel_rfl
def Rj:Manifest.isStub "ValueError" = false:=by decide +kernel
def Rk (K:FG):W.findCls K (.type "ValueError") (.type "type") "__init__" = some (.val (.builtin "ValueError.__init__")):=by kernel_rfl
def Rm:W.handedIn (.builtin "ValueError.__init__")=true:=by decide +kernel
def Nh:bootBuiltins "ValueError" = some (.type "ValueError"):=by decide +kernel
def P3 {pl:Sem Bool} (hg:Gl X "ValueError") (hm:X.mg "ValueError" = none) (ha:PA X (e::es) t) (he:starEach (e::es) X.env=(false,eval e X.env)::starEach es X.env:=by rfl) (hpl:(backTo pos (starEach es X.env)).any (·.1)=false:=by rfl)
  (ht:eval (.Call (.Attribute (.Name "ValueError" np) "__init__" apos) (e::es) [] pos) X.env=(do
   let ov ←eval (.Name "ValueError" np) X.env
   standAt apos.atName
   let (f,first) ←holding [ov] (getMethod ov "__init__" pl)
   callWith pos f first (backTo pos (starEach (e::es) X.env)) (backToKw pos (keywordEach [] X.env))):=by rfl) :
  PE X (.Call (.Attribute (.Name "ValueError" np) "__init__" apos) (e::es) [] pos) (T9 X.K t):=by
 intro aa s σ H Q I h;refine W.methodCall_KW (pl:=pl) ?_ ht;refine Du (u:=.type "ValueError") I hg hm Nh ?_;obtain⟨m,Fm⟩:=I.fr;have L1:=λ(Q':Value×Xb->Xe->Prop) hq=>W.method_type (prog:=X.prog) (w:=X.w) (A:=X.A) (E:=X.xe) (K:=X.K) (T := "ValueError") (name := "__init__") (pl:=pl) (v:=.builtin "ValueError.__init__") (Q:=Q') Fm I.ok.mod.kin Ri Rj (Rk X.K) Rm hq;refine L1 _ ?_;refine PyProof.Rows.callWith_builtin1 (aG (ha pos aa _ σ H _ (I.tok _) h) λus s1 ⟨vs,H1,I1,r1,a,C,dx,rest,ev,hz,hC,at_,q⟩=>?_) he hpl;subst ev;obtain⟨nm,qn,N,bs,bm,bc,sn,sub,ab,col,dd,k0,k1,k2,k3,k5,oC,T⟩:=HB I1.cW hC;obtain⟨⟨oe,ws,a1,a2,a3,a4,a5,a6,a7⟩,_,st⟩:=I1.aF _ _ at_;obtain⟨u0,ls,eu,ra,rr⟩:=Oc r1;subst eu
 ·obtain rfl:=ra;obtain⟨hp,g,d,tk,os⟩:=s1;refine MY PySem.F.excBase_ValueError T oC a1 a2 a4 (v0:=ws[0]'qe) (by rw[Array.getElem?_eq_getElem]) (by rw[←rr.length];exact Nat.le_of_lt (AK hz)) ?_;have J:=I1.kept (h':=hp.push { cls:=.type "tuple", data:=.seq ls.toArray }) (t':=tk) λb u z=>ZW _ z;have e1:=ZW { cls:=.type "tuple", data:=.seq ls.toArray } a1;have e2:=ZT (Obj.mapFields (·.setIfInBounds 0 (.ref hp.objs.size))) e1 (Obj.isFreed_of_fields (Obj.data_mapFields a4 _));rw[En a4]at e2
  have J2:=J.write (x:=a) (e:=a) (o:=FO a C dx) (t':=tk) (by rw[at_];exact True.intro) (.inl rfl) (λb u n z=>(ZV _ _ (Ne.symm n)).trans z) ⟨_,e2⟩
   ⟨⟨_,_,e2,a2,a3,rfl,by rw[Array.size_setIfInBounds];exact a5,by rw[Array.getElem?_setIfInBounds_ne qc];exact a6,by rw[Array.getElem?_setIfInBounds_ne qc];exact a7⟩,⟨_,e2⟩,st⟩
  rw[P2 at_]at J2;exact⟨.aI,H1,J2,Zj,q⟩
end
noncomputable def Hh (P:Program) (w:World) (K:FG) (mg:SV) (base:Heap) (N:Xa) (qual:Str) (scope:Scope) (f:Xd) (cd:Value) (A:Around) (outer:List Env) (s:Xe) (H:Hp) (e:Xd) (oe:Obj):Cx :=
 { Ao aK P w K mg base N qual scope f cd A outer s H (λ_ _ _=>False)with calm:=false,pn:=[(e,oe)],xe:=λ_ _=>False }
structure RoomS (k:Nat) (A:Around):Prop where
 dp:A.depth+3*k+5<recursionLimit
 un:A.units+16*k+200<cLine
def RoomS.deeper {k:Nat}{A:Around} (r:RoomS (k+1) A) (env:Env):RoomS k (A.deeper env):=⟨by have:=r.dp;show A.depth+1+3*k+5<_;omega,by have:=r.un;show A.units+3+16*k+200<_;omega⟩
def MZ {ps:Xa}{qual:Str}{scope:Scope}{f:Xd}{cd:Value}{outer:List Env}{s1:Xe}{vs:Xc}{e:Xd}{oe:Obj}
  (S:AN N ps scope) (e0:eh P w K mg base A outer s H) (hl:vs.length=ps.length) (r:Vals vs us) (he:s.heap.get? e=some oe) (hn:H e=none) (ho:e∉ dn outer) (hd:∀v,oe.data≠ .cell v)
  (x:InCallC s s.heap.objs.size (bindL (envOfC qual scope s.heap.objs.size f cd).kindOf (ps.zip us) λ_=>none) (cellsFrom (s.heap.objs.size+1) scope.names []) (bindC (envOfC qual scope s.heap.objs.size f cd).kindOf (ps.zip us) λ_=>none) s1) :
  Inv (Hh P w K mg base N qual scope f cd A outer s H e oe) [] (Bw N vs) H s1:=by
 have A0:∃A0:Around,A0.handled=none/\A0.frames=A.frames:=⟨{ A with handled:=none },rfl,rfl⟩;obtain⟨A0,h1,h2⟩:=A0;have I:=Fy (CX:=aK) (E:=λ_ _ _=>False) (A:=A0) S h1 ⟨h2.trans e0.frames,e0.mod,e0.bs,e0.gK,e0.df,e0.ig,e0.aF,e0.bare⟩ hl r x;obtain⟨hh,tk,rfl,hk⟩:=x.done;have ok:=I.ok;refine⟨⟨ok.mod,ok.kind,ok.glob,ok.blt,ok.above,ok.inj,ok.has,ok.iZ,(λz=>by cases (show false=true from z)),Around.frames_deeper e0.frames,ok.gA,ok.exf,ok.bs,ok.gK,ok.gj,ok.fZ,ok.df,ok.ig⟩,I.os,I.bare,I.base,I.loc,I.cell,I.free,I.cJ,λp hp=>?_,I.aF,I.len⟩;have q:p=(e,oe):=by simpa[Hh]using hp
 subst q;exact⟨hk _ _ he,hn,ZD (lt_size he),ho,hd⟩
abbrev SpS:=Xd->Obj->Xc->Hp->VK->Prop
structure Ni (P:Program) (w:World) (K:FG) (mg:SV) (base:Heap) (k:Nat) (f:Xd) (fd:FuncData) (ps:Xa) (sp:SpS):Prop where
 len:∀e oe vs H Q,sp e oe vs H Q->vs.length=ps.length
 run:∀(A:Around) (outer:List Env) (s:Xe) (H:Hp) (args:Args) (us:Xb) (vs:Xc) (Q:VK) (e:Xd) (oe:Obj),RoomS k A->eh P w K mg base A outer s H->A.handled=some (.ref e)->s.heap.get? e=some oe->H e=none->e∉ dn outer->(∀v,oe.data≠ .cell v) ->
  BindsTo s fd args (ps.zip us)->Vals vs us->sp e oe vs H Q->codeAny (model P w) A (.call (.ref f) args) (CR aK outer P w H s Q λ_ _ _=>False) s
section
def aV.okS {qual:Str}{st:Stmt}{f:Xd}{fd:FuncData}{ps:Xa}{k:Nat}{sp:SpS} (F:aV K x qual st f fd) (S:AN N ps (defScope st)) (len:∀e oe vs H Q,sp e oe vs H Q->vs.length=ps.length)
  (bg:∀(ad:Value) (A:Around) (outer:List Env) (s:Xe) (H:Hp) (vs:Xc) (Q:VK) (e:Xd) (oe:Obj),A.handled=some (.ref e)->RoomS k (A.deeper (envOfC qual (defScope st) s.heap.objs.size f ad))->sp e oe vs H Q ->
   ∃t,eE (Hh P w K mg base N qual (defScope st) f ad A outer s H e oe) (defBody st) t/\t { nx:=λ_ H'=>Q .aI H',rt:=Q } (Bw N vs) H):Ni P w K mg base (k+1) f fd ps sp:=by
 obtain⟨oc,od,kV,doc,pm,an,ad,ct,gB,rfl,lk,fh⟩:=F.ex;refine⟨len,λA outer s H args us vs Q e oe hr e0 hh he hn ho hd hb r gP=>?_⟩;have hl:=len _ _ _ _ _ gP;have KX:K.In s.heap:=e0.mod.kin.keeps λb o z=>(e0.bs b o z).1;have lim:s.heap.NoLimit:=e0.mod.nolimit.keeps λb o z=>(e0.bs b o z).1
 have hk:∀y∈ps.zip us,(defScope st).names.lookup y.1=some .local\/((defScope st).names.lookup y.1=some .cell/\((cellsFrom (s.heap.objs.size+1) (defScope st).names []).lookup y.1).isSome=true):=λ⟨n,v⟩ hy=>by
  rcases S.par n (of_mem_zip hy).1 with q |q
  ·exact .inl q
  ·exact .inr ⟨q,W.cellsFrom_some _ _ _ (.inl q)⟩
 refine codeAny_call_function (by have:=hr.dp;omega) (KX _ _ lk) rfl S.co S.gen rfl (W.codeRec_of KX fh) (hb _ _ _ _ (wpAny_newFunctionEnv_cells S.kind hk λenv ee s1 x=>?_));subst ee;refine⟨lim.keeps x.toInCall.keep,codeAny_func ?_⟩;obtain⟨t,ht,hq⟩:=bg ad A outer s H vs Q e oe hh (hr.deeper _) gP;have I:Inv (Hh P w K mg base N qual (defScope st) f ad A outer s H e oe) [] (Bw N vs) H s1:=MZ S e0 hl r he hn ho hd x;refine Zw (ht [] s1 (Bw N vs) H _ I hq) (λfl s' z=>?_) λ_ _ z=>z.elim;cases fl with
 |ret u =>
  obtain⟨v,aJ,H',J,rv,q⟩:=z;exact⟨v,H',J.os,J.bare,J.base,J.aF,rv,q⟩
 |next =>
  obtain⟨aJ,H',J,q⟩:=z;exact⟨.aI,H',J.os,J.bare,J.base,J.aF,Zj,q⟩
 |brk =>
  obtain⟨_,_,_,q⟩:=z;exact q.elim
 |cont =>
  obtain⟨_,_,_,q⟩:=z;exact q.elim
def Ro {qual:Str}{scope:Scope}{f:Xd}{cd:Value}{outer:List Env}{e:Xd}{oe:Obj}{vs:Array Value} (hh:A.handled=some (.ref e)) (hd:oe.data=.fields vs) (h2:vs[2]?=some .none) :
  iJ (Hh P w K mg base N qual scope f cd A outer s H e oe):=.inr ⟨e,oe,vs,hh,ZJ,hd,h2⟩
end
noncomputable def del (H:Hp) (a:Xd):Hp:=λb=>if b=a then none else H b
def Kl:del H a a=none:=Zq rfl
def D3 {b:Xd} (h:b≠a):del H a b=H b:=Zr h
section
variable {H1 H2:Hp}{s1 s2:Xe}{e:Xd}{dx:Option Xd}
def P4 {fs:List Xd}{oe:Obj}{vs:Array Value}{old:Xd->Prop}{h2 h':Heap} (u:Un fs [] H1 H2 h h2) (L:Hf fs e oe vs old h2 h') (at_:H2 e=some (F5 e C dx)) (hold:∀b,old b->H2 b=none/\h.get? b=none):Un fs [] H1 (del H2 e) h h':=by
 have ne:∀b,H2 b=none->b≠e:=λb n z=>by subst z;rw[at_]at n;cases n
 have nold:∀b o,h.get? b=some o->¬ old b:=λb o hb z=>by rw[(hold b z).2]at hb;cases hb
 have ne2:∀b v,H2 b=some v->(∀φ,v≠ .ext φ)->b≠e:=λb v hv hn z=>by subst z;rw[at_]at hv;cases hv;exact hn _ rfl
 refine⟨λb o q n hb _=>?_,λb o q n hb _=>?_,λb o q n _=>?_,λb o q _=>?_,λb xs q=>?_,λb o xs q=>?_,λb ps q=>?_⟩
 ·exact L.keep b o (u.keep b o q n hb (by simp)) (ne b (u.free b o q n (by simp))) (nold b o q) hb
 ·obtain⟨sl,q1⟩:=u.slot b o q n hb (by simp);obtain⟨fc,q2⟩:=L.slot b _ q1 (ne b (u.free b o q n (by simp))) (nold b o q) hb;exact⟨fc,q2⟩
 ·have z:=u.free b o q n (by simp);rw[D3 (ne b z)];exact z
 ·obtain⟨o1,q1⟩:=u.there b o q (by simp);exact L.there b o1 q1
 ·have z:=u.eZ b xs q;rw[D3 (ne2 b _ z λ_ y=>nomatch y)];exact z
 ·have z:=u.eU b o xs q;rw[D3 (ne2 b _ z λ_ y=>nomatch y)];exact z
 ·obtain⟨m,z⟩:=u.eQ b ps q;exact⟨m,by rw[D3 (ne2 b _ z λ_ y=>nomatch y)];exact z⟩
def Rp (ok:du P w H2 h) (at_:H2 e=some (F5 e C dx)):du P w (del H2 e) h:=λb u q=>by
 have hb:b≠e:=λz=>by subst z;rw[Kl]at q;cases q
 rw[D3 hb]at q;have ne2:∀c v,H2 c=some v->(∀φ,v≠ .ext φ)->c≠e:=λc v hv hn z=>by subst z;rw[at_]at hv;cases hv;exact hn _ rfl
 exact(ok b u q).eR (λ_ _ _ z=>z) (λc z=>by rw[D3 (ne2 c _ z λ_ y=>nomatch y)];exact z) λc xs z=>by rw[D3 (ne2 c _ z λ_ y=>nomatch y)];exact z
structure Cgt (C:Xd) (dx:Option Xd) (e:Xd) (oe:Obj) (T:Xd) (oT:Obj):Prop where
 cls:oe.cls=.ref C
 dict:oe.dict=dx
 fld:∃vs,oe.data=.fields vs/\vs[1]?=some (.ref T)/\vs[2]?=some .none
 tb:∃ts,oT.data=.fields ts/\ts[3]?=some .none
def UA {E':VS}{Q:Unit->Xe->Prop} (O:MP X) (I:Inv X aa σ H1 s1) (F:Fly X.prog X.w X.stack H1 s1 e C dx H2 s2)
  (h:∀s3 oe T oT,Cgt C dx e oe T oT->Inv X ((e,oe)::(T,oT)::aa) σ (del H2 e) s3->Q () s3) :
  wpAny (model X.prog X.w) X.A (noteFrame (.ref e) X.env) (λ_ s3=>wpAny (model X.prog X.w) X.A (setFlight (.ref e) none) Q E' s3) E' s2:=by
 obtain⟨B,oe,vs,T,oT,ts,a1,a2,a3,a4,a5,a6,a7,a8,a9⟩:=F;have fr:=Eo I B;have hA:=I.ok.frames;rw[O.gA]at fr hA;refine Iy hA fr O.fr a1 a2 a3 a4 a5 a6 a7 λh' L=>?_;rw[←O.gA]at L;have hold:∀b,b=T->H2 b=none/\s1.heap.get? b=none:=λb z=>by subst z;exact⟨a8,a9⟩
 have free2:∀b∈dn X.stack,H2 b=none:=λb hb=>by
  obtain⟨_,o,ho,_⟩:=I.stack.mem hb;exact B.un.free b o ho (I.stkFree b hb) (by simp)
 have ok3:=Ke B.aF L free2 (λb z=>(hold b z).1) a1 a2 B.at_;obtain⟨T',oT',ts',b1,b2,b3,b4,b5⟩:=L.tb;obtain⟨⟨oe',vs',c1,c2,c3,c4,c5,c6⟩,_,_⟩:=B.aF _ _ B.at_;rw[a1]at c1;cases c1;rw[a2]at c4;cases c4;have I3:Inv X aa σ (del H2 e) { s2 with heap:=h' }:=I.call' (ch:=[]) B.os (P4 B.un L B.at_ hold) (Rp ok3 B.at_) B.bare λb z=>nomatch z;have hT0:s2.heap.get? T'=none:=Heap.get?_none_of_le b1;have hTH:H2 T'=none:=B.aF.fresh b1;have hTe:T'≠e:=λz=>by subst z;rw[a1]at hT0;cases hT0
 have locs:∃o,s2.heap.get? X.env.locals=some o:=by
  obtain⟨m,⟨o,_,_,ho,_⟩,_⟩:=id I.loc;exact B.un.there _ o ho (by simp)
 have fsIn:∀b∈X.fs,∃o,s2.heap.get? b=some o:=λb hb=>by
  obtain⟨_,o,ho,_⟩:=I.df.mem hb;exact B.un.there b o ho (by simp)
 have upfs:∀b∈X.fs,b∈dn X.stack:=λb hb=>by
  rw[O.gA];unfold dn;rw[ZN,O.fr];exact ZR _ hb
 refine h _ { oe with data:=.fields (vs.setIfInBounds 1 (.ref T')) } T' oT' ⟨c2,c3,⟨vs.setIfInBounds 1 (.ref T'),rfl,by simp[(Z9.mp a3).1],by rw[Array.getElem?_setIfInBounds_ne qc];exact c6⟩,⟨ts',b3,b4⟩⟩ (I3.cS λp hp=>?_);rcases mem_cons.mp hp with z |z
 ·subst z;refine⟨b5,Kl,λz=>?_,λz=>?_,λv z=>by cases z⟩
  ·obtain⟨m,⟨o,_,_,ho,_⟩,_⟩:=id I.loc;have n1:=B.un.free _ _ ho I.free (by simp);rw[←z,B.at_]at n1;cases n1
  ·have n1:=free2 e (upfs e z);rw[B.at_]at n1;cases n1
 rcases mem_cons.mp z with z |z
 ·subst z;refine⟨b2,by rw[D3 hTe];exact hTH,λz=>?_,λz=>?_,λv z=>by rw[b3]at z;cases z⟩
  ·obtain⟨o,ho⟩:=locs;rw[←z,hT0]at ho;cases ho
  ·obtain⟨o,ho⟩:=fsIn _ z;rw[hT0]at ho;cases ho
 ·exact I3.pin p (ZS _ z)
end
noncomputable def Dr (K:FG) (C:Xd):Xb:=match K.lookup C with
 |some ⟨_,_,.cls cd,_⟩=>cd.mro
 |_=>[]
def Km (X:K.In h) (q:A9 K C=true):∃nm qn N bs bm bc sn sub ab col dd k0 k1 k2 k3 k5,h.get? C=some (excClassObj nm qn C N bs bm bc sn sub ab col dd k0 k1 k2 k3 k5 "ValueError.__new__")/\Ki "ValueError" bm/\Dr K C=.ref C::bm:=by
 obtain⟨nm,qn,N,bs,bm,bc,sn,sub,ab,col,dd,k0,k1,k2,k3,k5,oC,T⟩:=HB X q;refine⟨nm,qn,N,bs,bm,bc,sn,sub,ab,col,dd,k0,k1,k2,k3,k5,oC,T,?_⟩;unfold A9 at q;unfold Dr;split at q
 ·rename_i g6 cd sl ho;rw[ho];have e:=X _ _ ho;rw[oC]at e;have e1:=Option.some.inj e;have e3:=congrArg Obj.data e1;injection e3 with e2
  rw[←e2]
 ·cases q
section
variable {M:Model}{g:Array GenState}{d:Drawn}{t:Nat}{os:OsState}
variable {nm qn nm' qn':Str}{N D N':Xd}{bs bm bs' bm':Xb}{bc hdct':Bool}{sn sn':Xa}{sub sub':Xb}{ab ab':Bool}{col col':Option Bool}{dd g6:Option Xd}{k0 k1 k2 k3 k5 l0 l1 l2 l3 l5:Option Value}{newId newId':String}
def Jn {e:Xd}{oe:Obj}{Q:Bool->Xe->Prop} (oC:h.get? C=some (excClassObj nm qn C N bs bm bc sn sub ab col dd k0 k1 k2 k3 k5 newId)) (oD:h.get? D=some (excClassObj nm' qn' D N' bs' bm' hdct' sn' sub' ab' col' g6 l0 l1 l2 l3 l5 newId'))
  (he:h.get? e=some oe) (bi:oe.cls=.ref C) (bo:bm'.contains (.type "BaseException")=true) (hq:Q ((Value.ref C::bm).contains (.ref D)) ⟨h,g,d,t,os⟩):wpAny M A (excMatches (.ref e) (.ref D)) Q E ⟨h,g,d,t,os⟩:=by
 have hcB:(Value.ref D::bm').contains (.type "BaseException")=true:=by rw[contains_cons,bo,Bool.or_true]
 have f:=tc_notTuple;unfold excMatches;generalize hb:(Value.ref C::bm).contains (.ref D)=b at hq
 repeat (first | (with_reducible refine ZX he ?_;rw[bi]) |with_reducible refine ZX oD ?_ | (with_reducible refine Z3 oD ?_;rw[hcB]) | (with_reducible refine Z3 oC ?_;rw[hb]) |wp_step)
 cases b <;> (wp_walk;exact hq)
end
noncomputable def Ba (X:Cx) (e:Xd) (oe:Obj) (T:Xd) (oT:Obj):Cx:={ X with A:=X.A.mark (some (.ref e)),calm:=false,pn:=X.pn++[(e,oe),(T,oT)],xe:=λ_ _=>False }
section
variable {e T:Xd}{oe oT:Obj}
def Inv.mark (I:Inv X ((e,oe)::(T,oT)::aa) σ H s):Inv (Ba X e oe T oT) aa σ H s :=
 ⟨⟨I.ok.mod,I.ok.kind,I.ok.glob,I.ok.blt,I.ok.above,I.ok.inj,I.ok.has,I.ok.iZ,(λz=>by cases (show false=true from z)),I.ok.frames,I.ok.gA,I.ok.exf,I.ok.bs,I.ok.gK,I.ok.gj,I.ok.fZ,I.ok.df,I.ok.ig⟩,I.os,I.bare,I.base,I.loc,I.cell,I.free,I.cJ,
  λp hp=>I.pin p (by simpa[Ba]using hp),I.aF,I.len⟩
def Inv.unmark (ok:X.Ok) (I:Inv (Ba X e oe T oT) aa σ H s):Inv X ((e,oe)::(T,oT)::aa) σ H s :=
 ⟨ok,I.os,I.bare,I.base,I.loc,I.cell,I.free,I.cJ,λp hp=>I.pin p (by simpa[Ba]using hp),I.aF,I.len⟩
def Inv.less {q:LO} (I:Inv X (q++aa) σ H s):Inv X aa σ H s:=I.cS λp hp=>I.pin p (ZS _ (ZS _ hp))
def Inv.nameless {h':Heap}{m':SV}{tk:Nat} (I:Inv X aa σ H s) (hn:h'.Ns X.env.locals m') (hs:Heap.SameBut X.env.locals s.heap h'):Inv X aa (List.replicate σ.length none) H { s with heap:=h',toks:=tk }:=by
 obtain⟨m,⟨oL,_,_,i9,_⟩,_⟩:=id I.loc;refine⟨I.ok,I.os,I.bare,⟨λb o e n hb hx=>?_,λb o e n hb hx=>?_,I.base.free,λb o e hx=>?_,I.base.eZ,I.base.eU,I.base.eQ⟩,⟨_,hn,λj y v' e1 e2 e3=>?_⟩,λy c e=>?_,I.free,I.cJ,λp hp=>?_,λb ob e=>?_,by simpa using I.len⟩
 ·exact(hs.2 b (ZD (Z1 (lt_size e) I.ok.above))).trans (I.base.keep b o e n hb hx)
 ·obtain⟨sl,e1⟩:=I.base.slot b o e n hb hx;exact⟨sl,(hs.2 b (ZD (Z1 (lt_size e) I.ok.above))).trans e1⟩
 ·obtain⟨o',e1⟩:=I.base.there b o e hx;exact⟨o',(hs.2 b (ZD (Z1 (lt_size e) I.ok.above))).trans e1⟩
 ·rw[List.getElem?_replicate]at e2;split at e2 <;> cases e2
 ·obtain⟨w',z⟩:=I.cell y c e;exact⟨w',z.sameBut hs (I.jy y c e)⟩
 ·obtain⟨e,n,ne,nf,d⟩:=I.pin p hp;exact⟨(hs.2 p.1 ne).trans e,n,ne,nf,d⟩
 ·refine(I.aF b ob e).eR (λc w' hc q=>(hs.2 c ?_).trans q) (λ_ q=>q) λ_ _ q=>q;intro z;subst z;rcases hc with z |hc
  ·rw[←z,I.free]at e;cases e
  ·rw[I.free]at hc;cases hc
end
def PH (X:Cx) (C:Xd) (dx:Option Xd) (hs:List ExceptHandler) (t:Xd->TS):Prop :=
 ∀(aa:LO) (s:Xe) (σ:St) (H:Hp) (D:Dq) (e:Xd) (oe:Obj) (T:Xd) (oT:Obj),Cgt C dx e oe T oT->Inv X ((e,oe)::(T,oT)::aa) σ H s->t e D σ H->wpAny (model X.prog X.w) X.A (handleBy (.ref e) X.env hs) (SP X aa D) X.xe s
section
variable {Dn:Xd}{dx:Option Xd}{hs:List ExceptHandler}{t:Xd->TS}{np:Pos}{name:Option Str}{body:List Stmt}
def I0 (e:Xd):Value.ref e≠byPass:=by intro q;cases q
def JA {e T:Xd}{oe oT:Obj} (hC:A9 X.K C=true) (hD:A9 X.K Dn=true) (c:Cgt C dx e oe T oT) (I:Inv X ((e,oe)::(T,oT)::aa) σ H s) {Q:Bool->Xe->Prop}
  (h:Q ((Dr X.K C).contains (.ref Dn)) s):wpAny (model X.prog X.w) A (excMatches (.ref e) (.ref Dn)) Q E s:=by
 obtain⟨nm,qn,N,bs,bm,bc,sn,sub,ab,col,dd,k0,k1,k2,k3,k5,oC,T1,e1⟩:=Km I.cW hC;obtain⟨nm',qn',N',bs',bm',hdct',sn',sub',ab',col',g6,l0,l1,l2,l3,l5,oD,T2,e2⟩:=Km I.cW hD;have he:=(I.pin (e,oe) (by simp)).1;rw[e1]at h;obtain⟨hp,g,d,tk,os⟩:=s;exact Jn oC oD he c.cls T2.base h
def CQ (hC:A9 X.K C=true) (hD:A9 X.K Dn=true) (hg:Gl X x) (hm:X.mg x=some (.ref Dn)) (hs':(Dr X.K C).contains (.ref Dn)=false) (hr:PH X C dx hs t) (eI:(x==("__debug__" : Str))=false:=by decide) :
  PH X C dx (.ExceptHandler (some (.Name x np)) name body pos::hs) t:=by
 intro aa s σ H D e oe T oT c I h;refine wpAny_handleBy_cons (codeAny_handlers_test ?_) (I0 e);refine Bq (X:=Ba X e oe T oT) I.mark hg hm ?_ eI;refine JA hC hD c I ?_;rw[hs'];exact hr aa s σ H D e oe T oT c I h
def Nj (i:Nat) (tb:TS):Xd->TS:=λe D σ H=>tb { nx:=λ_ _=>False,rt:=D.rt } (σ.set i (some (.ref e))) H
def Nk {n:Str}{b₀:Stmt}{i:Nat}{tb:Xd->TS} (hN:X.N.Nodup) (hi:X.N[i]?=some n) (hl:X.env.scope.names.lookup n=some .local) (hC:A9 X.K C=true) (hD:A9 X.K Dn=true) (hg:Gl X x) (hm:X.mg x=some (.ref Dn)) (hs':(Dr X.K C).contains (.ref Dn)=true)
  (hb:∀e oe T oT,Cgt C dx e oe T oT->eE (Ba X e oe T oT) (b₀::body) (tb e)) (eI:(x==("__debug__" : Str))=false:=by decide) :
  PH X C dx (.ExceptHandler (some (.Name x np)) (some n) (b₀::body) pos::hs) (λe=>Nj i (tb e) e):=by
 intro aa s σ H D e oe T oT c I h;refine wpAny_handleBy_cons (codeAny_handlers_test ?_) (I0 e);refine Bq (X:=Ba X e oe T oT) I.mark hg hm ?_ eI;refine JA hC hD c I ?_;rw[hs'];refine codeAny_handlers_suite_as ?_;obtain⟨vs,hd,h1,h2⟩:=c.fld;obtain⟨ts,iR,h3⟩:=c.tb;have he:=(I.pin (e,oe) (by simp)).1;have hT:=(I.pin (T,oT) (by simp)).1;refine wpAny_setFlight_none he hd h1 hT iR (Z9.mp h3).1 ?_
 have I1:Inv X ((e,oe)::(T,oT)::aa) σ H { s with heap:=s.heap.update T (Obj.mapFields (·.setIfInBounds 3 .none)) }:=I.kept (t':=s.toks) λb u q=>by
  by_cases z:b=T
  ·subst z;have e1:=ZT (Obj.mapFields (·.setIfInBounds 3 Value.none)) hT (Obj.isFreed_of_fields (Obj.data_mapFields iR _));rw[En iR]at e1
   have e2:ts.setIfInBounds 3 Value.none=ts:=by
    obtain⟨l1,l2⟩:=Z9.mp h3;rw[Array.setIfInBounds,dif_pos l1]
    conv=>lhs;rw[←l2]
    exact Array.set_getElem_self l1
   rw[e2,←iR]at e1;rw[show s.heap.get? b=some oT from hT]at q;cases q;exact e1
  ·exact(ZV _ _ (Ne.symm z)).trans q
 refine DE (X:=Ba X e oe T oT) (v:=.ref e) I1.mark hN hi (.inl hl) rfl (λs2 I2=>?_) (.inr hl);refine Zw (hb e oe T oT c aa s2 _ H _ I2 h) (λfl s3 z=>?_) λ_ _ z=>z.elim;cases fl with
 |ret u =>
  obtain⟨v,aJ,H',J,rv,q⟩:=z;have J':=J.unmark I.ok;obtain⟨m,hn,_⟩:=id J'.loc;have bi:(X.env.scope.kind == .class||(X.env.scope.kind == .module&&X.env.locals != X.env.globals))=false:=by rw[I.ok.kind];rfl
  exact wpAny_nameGoes hl hn bi λh' m' hn' hs'=>⟨v,_,H',(J'.nameless hn' hs').less (q:=[(e,oe),(T,oT)]),rv,q⟩
 |next =>
  obtain⟨_,_,_,q⟩:=z;exact q.elim
 |brk =>
  obtain⟨_,_,_,q⟩:=z;exact q.elim
 |cont =>
  obtain⟨_,_,_,q⟩:=z;exact q.elim
end
noncomputable def FR (X:Cx) (P0:LO) (xe:VS):Cx:={ X with pn:=X.pn++P0,xe:=xe }
section
variable {P0:LO}{xe:VS}
def Cx.Ok.tr (ok:X.Ok):(FR X P0 xe).Ok:=⟨ok.mod,ok.kind,ok.glob,ok.blt,ok.above,ok.inj,ok.has,ok.iZ,ok.hd,ok.frames,ok.gA,ok.exf,ok.bs,ok.gK,ok.gj,ok.fZ,ok.df,ok.ig⟩
def Cx.Ok.untr (ok:(FR X P0 xe).Ok):X.Ok:=⟨ok.mod,ok.kind,ok.glob,ok.blt,ok.above,ok.inj,ok.has,ok.iZ,ok.hd,ok.frames,ok.gA,ok.exf,ok.bs,ok.gK,ok.gj,ok.fZ,ok.df,ok.ig⟩
def Inv.tr (I:Inv X P0 σ H s):Inv (FR X P0 xe) [] σ H s:=⟨I.ok.tr,I.os,I.bare,I.base,I.loc,I.cell,I.free,I.cJ,λp hp=>I.pin p (by simpa[FR]using hp),I.aF,I.len⟩
def Inv.untr (I:Inv (FR X P0 xe) aa σ H s):Inv X P0 σ H s:=⟨I.ok.untr,I.os,I.bare,I.base,I.loc,I.cell,I.free,I.cJ,λp hp=>I.pin p (by
 rcases mem_append.mp hp with z |z
 ·exact ZQ _ (ZQ _ z)
 ·exact ZQ _ (ZS _ z)),I.aF,I.len⟩
end
def Rq (n:Nat) (th:Xd->Option Xd->Xd->TS) (D:Dq):XK:=λCv dx H2=>∃C,Cv=.ref C/\∀e,H2 e=some (F5 e C dx)->th C dx e D (List.replicate n none) (del H2 e)
def Wv (n:Nat) (tb:XK->TS) (th:Xd->Option Xd->Xd->TS):TS:=λD σ H=>tb (Rq n th D) { D with nx:=D.nx } σ H
section
variable {body:List Stmt}{h₀:ExceptHandler}{hs:List ExceptHandler}{tb:XK->TS}{th:Xd->Option Xd->Xd->TS}{Cs:Xd->Prop}
def UB (O:MP X) (hb:∀P0 xe E,BN (eB X.prog X.w) (FR X P0 xe) E->eE (FR X P0 xe) body (tb E)) (hh:∀C dx,PH X C dx (h₀::hs) (th C dx)) :
  PS X (.Try body (h₀::hs) [] [] pos) (Wv X.N.length tb th):=by
 intro aa s σ H D I h;refine wpAny_Try_except ?_
 let E:XK:=Rq X.N.length th D
 let xe:Value->Xe->Prop:=λev s2=>∃iO H1 s1 ea C dx H2,ev=.ref ea/\Inv X aa iO H1 s1/\Fly X.prog X.w X.stack H1 s1 ea C dx H2 s2/\E (.ref C) dx H2
 have hp:BN (eB X.prog X.w) (FR X aa xe) E:=by
  rintro pins' iO H1 s1 ev s2 I1 ⟨ea,C,dx,H2,rfl,F,q⟩;exact⟨iO,H1,s1,ea,C,dx,H2,Zj,I1.untr,F,q⟩
 have ok:=I.ok;refine Zw (hb aa xe E hp [] s σ H _ I.tr h) (λfl s1 z=>?_) λev s2 z=>?_
 ·cases fl with
  |next =>
   obtain⟨aJ,H',J,q⟩:=z;exact wpAny_execs_nil ⟨aJ,H',J.untr,q⟩
  |brk=>obtain⟨aJ,H',J,q⟩:=z;exact⟨aJ,H',J.untr,q⟩
  |cont=>obtain⟨aJ,H',J,q⟩:=z;exact⟨aJ,H',J.untr,q⟩
  |ret u=>obtain⟨v,aJ,H',J,r,q⟩:=z;exact⟨v,aJ,H',J.untr,r,q⟩
 ·obtain⟨iO,H1,s1,ea,C,dx,H2,rfl,I1,F,C',eC,q⟩:=z;cases eC;refine UA O I1 F λs3 oe T oT c I3=>?_
  have I4:Inv X ((ea,oe)::(T,oT)::aa) (List.replicate X.N.length none) (del H2 ea) s3:=I3.weak (by rw[List.length_replicate,I3.len]) λi v z=>by
   rw[List.getElem?_replicate]at z;split at z <;> cases z
  exact hh C dx aa s3 _ _ D ea oe T oT c I4 (q ea F.1.at_)
end
structure Ep (K:FG) (C:Xd):Prop where
 ga:W.findIn K (.ref C) "__getattribute__" = some (some (.builtin "BaseException.__getattribute__"))
 gr:W.findIn K (.ref C) "__getattr__" = some none
 mb:W.mroIn K C (.type "BaseException")=some true
section
variable {prog:Program}{x:Xd}{ox:Obj}{od:Option Obj}{name:Str}{g:Array GenState}{d:Drawn}{t:Nat}{os:OsState}
def Od {M:Model}{nameV:Value}{Q:Unit->Xe->Prop} (p:Ep K C) (X:K.In h) (I:W.InstAt h x ox C od) (hq:Q () ⟨h,g,d,t,os⟩):wpAny M A (checkBuiltinCall "BaseException.__getattribute__" ⟨[.ref x,nameV],[]⟩) Q E ⟨h,g,d,t,os⟩:=by
 have hk:builtinKind "BaseException.__getattribute__" = some .slot:=by decide +kernel
 have hsplit:splitId "BaseException.__getattribute__" = some ("BaseException", "__getattribute__"):=by decide +kernel
 have ha:=F.args_bexc_ga (.ref x) nameV;have L0:=I.type (M:=M);have L1:=W.looks_mroIn (M:=M) X p.mb;simp only[checkBuiltinCall,hk,hsplit];refine Zy ?_
 ·unfold isInstance
  repeat (first |with_reducible refine L0.at ?_ |with_reducible refine L1.at ?_ |wp_step)
  exact hq
def Oe {v:Value}{tk:Tok}{Q:Fin->Xe->Prop} (X:K.In h) (I:W.InstAt h x ox C od) (hf:W.findObj K C od name=some (.value v)) (hq:Q (.done (.ret v)) ⟨h,g,d,t,os⟩) :
  wpAny (model prog w) A (Builtin.«object.__getattribute__» ⟨[.ref x,.str name tk],[]⟩) Q E ⟨h,g,d,t,os⟩:=by
 have L0:=I.type (M:=model prog w);have L1:=W.looks_find (M:=model prog w) X I hf
 repeat (any_goals (first |assumption |with_reducible refine L0.at ?_ |with_reducible refine L1.at ?_ |wp_step))
def Of {tk:Tok}{Q:Fin->Xe->Prop} (X:K.In h) (I:W.InstAt h x ox C od) (hf:W.findObj K C od name=some (.bind (.builtin "getset_descriptor.__get__") (.builtin "object.__class__"))) (hm:W.mroIn K C (.type "object")=some true)
  (hq:Q (.done (.ret (.ref C))) ⟨h,g,d,t,os⟩) :
  wpAny (model prog w) A (Builtin.«object.__getattribute__» ⟨[.ref x,.str name tk],[]⟩) Q E ⟨h,g,d,t,os⟩:=by
 have L0:=I.type (M:=model prog w);have L1:=W.looks_find (M:=model prog w) X I hf
 repeat (any_goals (first |assumption |with_reducible refine L0.at ?_ |with_reducible refine L1.at ?_ |wp_step))
 exact W.class_get X I hm (Zx hq)
def P5 {tk:Tok}{v:Value}{R:Result->Xe->Prop} (p:Ep K C) (X:K.In h) (I:W.InstAt h x ox C od)
  (hb:∀(A':Around) (E':VS) (Q:Fin->Xe->Prop),Q (.done (.ret v)) ⟨h,g,d,t,os⟩->wpAny (model prog w) A' (Builtin.«object.__getattribute__» ⟨[.ref x,.str name tk],[]⟩) Q E' ⟨h,g,d,t,os⟩) (hq:R (.ok (.ret v)) ⟨h,g,d,t,os⟩) :
  codeAny (model prog w) A (.call (.builtin "BaseException.__getattribute__") ⟨[.ref x,.str name tk],[]⟩) R ⟨h,g,d,t,os⟩ :=
 codeAny_call_builtin F.excAttr_ValueError.ga.plain F.entry_bexc_ga (Od p X I (hb _ _ _ hq))
def P6 {tk:Tok}{v:Value}{fill expr:Bool}{Q:VS} (p:Ep K C) (X:K.In h) (I:W.InstAt h x ox C od) (hh:W.handedIn v=true)
  (hb:∀(A':Around) (E':VS) (Q:Fin->Xe->Prop),Q (.done (.ret v)) ⟨h,g,d,t,os⟩->wpAny (model prog w) A' (Builtin.«object.__getattribute__» ⟨[.ref x,.str name tk],[]⟩) Q E' ⟨h,g,d,t,os⟩) (hq:Q v ⟨h,g,d,t,os⟩) :
  wpAny (model prog w) A (getAttrBy (.ref x) (.str name tk) fill expr) Q E ⟨h,g,d,t,os⟩:=by
 have L0:=I.type (M:=model prog w);have L1:=W.looks_findIn (M:=model prog w) X p.ga;have L2:=W.looks_findIn (M:=model prog w) X p.gr;have f3:=F.excAttr_ValueError.ga.bind (.ref x);have hx0:(expr&&onTheHeap (Value.builtin "BaseException.__getattribute__"))=false:=by cases expr <;> rfl
 have hx2:(Value.builtin "BaseException.__getattribute__" == Value.builtin "object.__getattribute__")=false:=by decide +kernel
 have hx1:(onTheHeap (Value.ref C)&&Value.builtin "BaseException.__getattribute__" == Value.builtin "object.__getattribute__")=false:=by rw[hx2];rfl
 have ho:=W.handedOut_of hh
 repeat (any_goals (first |assumption |with_reducible refine L0.at ?_ |with_reducible refine L1.at ?_ |with_reducible refine L2.at ?_ |wp_step))
 refine P5 p X I hb ?_
 repeat (any_goals (first |assumption | (rw[ho];exact Zx hq) |wp_step))
def P7 {v:Value}{expr:Bool}{Q:VS} (p:Ep K C) (X:K.In h) (I:W.InstAt h x ox C od) (hf:W.findObj K C od name=some (.value v)) (hh:W.handedIn v=true) (hq:Q v ⟨h,g,d,t+1,os⟩) :
  wpAny (model prog w) A (getAttr (.ref x) name expr) Q E ⟨h,g,d,t,os⟩:=by
 unfold getAttr;refine Zy (wpAny_mkText ?_);exact P6 p X I hh (λA' E' Q' z=>Oe X I hf z) hq
def Kn {Q:Option Value->Xe->Prop} (p:Ep K C) (X:K.In h) (I:W.InstAt h x ox C od) (hf:W.findObj K C od "__class__" = some (.bind (.builtin "getset_descriptor.__get__") (.builtin "object.__class__"))) (hm:W.mroIn K C (.type "object")=some true)
  (hq:Q (some (.ref C)) ⟨h,g,d,t+1,os⟩):wpAny (model prog w) A (getAttr? (.ref x) "__class__") Q E ⟨h,g,d,t,os⟩:=by
 unfold getAttr? getAttrBy?;refine Zy (wpAny_mkText (Zy (wpAny_attempt ?_)));exact P6 (v:=.ref C) p X I Zj (λA' E' Q' z=>Of X I hf hm z) (Zx hq)
end
def IS {name:Str}{od:Option Obj}{a g:Value} (hc:(W.clsIn K C).isSome=true) (ha:W.findIn K (.ref C) name=some (some a)) (hg:W.specialIn K a "__get__" = some (some g)) (ht:W.takesIn K a=some true):W.findObj K C od name=some (.bind g a):=by
 obtain⟨cd,hc⟩:=Option.isSome_iff_exists.mp hc;unfold W.findObj;rw[hc,Option.bind_some,ha,Option.bind_some];simp[hg,ht]
structure Rr (K:FG) (C:Xd):Prop where
 hg:Ep K C
 hc:(W.clsIn K C).isSome=true
 ha:W.findIn K (.ref C) "__class__" = some (some (.builtin "object.__class__"))
 hn:W.specialIn K (.builtin "object.__class__") "__get__" = some (some (.builtin "getset_descriptor.__get__"))
 htk:W.takesIn K (.builtin "object.__class__")=some true
 hm:W.mroIn K C (.type "object")=some true
def P8 {x D:Xd}{ox:Obj}{od:Option Obj} (k:Rr K D):W.KitX K (.ref x) (.ref D) (λh=>W.InstAt h x ox D od) where
 ty:=λ_ _ _ I=>I.type
 it:=λ_ _ X _=>by
  have iT:=k.hc;unfold W.clsIn at iT;split at iT
  ·rename_i c' d' cd' sl' ho;intro A' Q' E' s' k q;unfold isType loadHead;exact Zy (wpAny_loadPart (k _ _ (X _ _ ho)) (Zx q))
  ·cases iT
 ne:=λh tp dd its n sl X gJ=>by
  have iT:=k.hc;refine Bool.eq_false_iff.mpr λq=>?_;have e:D=tp:=Value.ref.inj (beq_iff_eq.mp q);subst e;unfold W.clsIn at iT;split at iT
  ·rename_i c' d' cd' sl' ho;have z:=(X _ _ ho).symm.trans gJ;cases z
  ·cases iT
 ca:=λ{prog w A E Q s} X I h=>by
  obtain⟨hh,g,d,t,os⟩:=s;exact Kn k.hg X I (IS k.hc k.ha k.hn k.htk) k.hm h
structure ExcP (X:Cx) (e:Xd) (oe:Obj) (C:Xd):Prop where
 at_:(e,oe)∈X.pn
 cls:oe.cls=.ref C
 fld:∃vs,oe.data=.fields vs
section
variable {e:Xd}{oe:Obj}
def ExcP.inst (p:ExcP X e oe C) (I:Inv X aa σ H s) (hd:oe.dict=none\/∃d u,oe.dict=some d/\H d=some u):∃od,W.InstAt s.heap e oe C od:=by
 have he:=(I.pin (e,oe) (ZQ _ p.at_)).1;obtain⟨vs,hv⟩:=p.fld;have no:W.notCls oe=true:=by unfold W.notCls;rw[hv]
 rcases hd with z |⟨d,u,z,hu⟩
 ·exact⟨none,he,p.cls,no,by rw[z];trivial⟩
 ·have aL:=(I.aF d u hu).lt
  have:∃o,s.heap.get? d=some o:=by
   have q:=(I.aF d u hu);cases u with
   |lst xs=>obtain⟨_,_,_,_,e⟩:=q;exact⟨_,e⟩
   |tup xs=>obtain⟨_,_,_,o,e,_⟩:=q;exact⟨o,e⟩
   |dK kvs=>obtain⟨_,_,_,_,o,_,_,e,_⟩:=q;exact⟨o,e⟩
   |dT kvs=>obtain⟨_,_,_,_,o,_,_,e,_⟩:=q;exact⟨o,e⟩
   |set S n=>obtain⟨o,_,_,_,e,_⟩:=q;exact⟨o,e⟩
   |ins C dx fs=>obtain⟨_,_,_,e,_⟩:=q;exact⟨_,e⟩
   |own y=>exact q
   |xd fs=>obtain⟨_,⟨o,_,_,e,_⟩,_⟩:=q;exact⟨o,e⟩
   |rng lo hi=>obtain⟨_,_,_,e⟩:=q;exact⟨_,e⟩
   |cZ ob u=>exact⟨_,q.1⟩
   |fb ps=>exact⟨_,(show s.heap.get? d=some _ from q)⟩
   |met f y=>exact⟨_,(show s.heap.get? d=some _ from q)⟩
   |ext φ=>exact q.2.1
  obtain⟨o,ho⟩:=this;exact⟨some o,he,p.cls,no,by rw[z];exact ho⟩
def JB (p:ExcP X e oe C) (k:Rr X.K C):bQ X (.builtin "isinstance") (λxs H Q=>∃v c b,xs=[.ref e,v]/\((∃D,v=.ref D/\c=.ref D)\/∃T,v=.ty T/\c=.type T)/\(oe.dict=none\/∃d u,oe.dict=some d/\H d=some u)/\W.kitOne X.K (.ref C) c=some b/\Q (.bl b) H):=by
 intro aa s σ H xs us Q I r h;obtain⟨v,c,b,rfl,hv,hd,hk,q⟩:=h;obtain⟨u,uT,rfl,ru,ruT⟩:=Ie r;cases (show u=Value.ref e from ru);obtain⟨od,J⟩:=p.inst I hd
 have hc:uT=c:=by
  rcases hv with⟨D,rfl,rfl⟩ |⟨T,rfl,rfl⟩
  ·exact ruT
  ·exact ruT
 subst hc;exact W.kia_one (P8 k) I.cW J hk (λz=>nomatch z) λtk=>⟨.bl b,H,I.tok tk,rfl,q⟩
end
section
variable {k:Nat}{f e:Xd}{oe:Obj}{fd:FuncData}{ps:Xa}{sp:SpS}{p:Pos}{a:Expr}{es:List Expr}{t:TA}
def Jo (sp:SpS) (e:Xd) (oe:Obj) (t:TA):TE:=λσ H Q=>t σ H λvs H1=>sp e oe vs H1 Q
def Ko (F:Ni X.prog X.w X.K X.mg X.base k f fd ps sp) (hr:RoomS k X.A) (hh:X.A.handled=some (.ref e)) (at_:(e,oe)∈X.pn) (hg:Gl X x) (hm:X.mg x=some (.ref f)) (hk:W.keepIn X.K (.ref f)=true) (hb:Binds X.K fd ps [])
  (ha:PA X (a::es) t) (eI:(x==("__debug__" : Str))=false:=by decide) (he:starEach (a::es) X.env=(false,eval a X.env)::starEach es X.env:=by rfl) (hpl:(backTo pos (starEach es X.env)).any (·.1)=false:=by rfl) :
  PE X (.Call (.Name x p) (a::es) [] pos) (Jo sp e oe t):=by
 intro aa s σ H Q I h;refine Z2 (Bq I hg hm ?_ eI);refine W.callWith_K (h₀:=X.base) I.ok.mod.kin hk (aG (ha pos aa s σ H _ I h) λus s1 ⟨vs,H1,I1,r,q⟩=>⟨I1.cW,?_⟩) he hpl;obtain⟨e1,e2,e3,e4,e5⟩:=I1.pin (e,oe) (ZQ _ at_);have hl:(us++[]).length=ps.length:=by rw[Zu,←r.length];exact F.len _ _ _ _ _ q
 have bb:=hb s1 us I1.cW hl;rw[Zu]at bb;refine wpAny_call (codeAny_mono (F.run X.A X.stack s1 H1 ⟨us,[]⟩ us vs Q e oe hr I1.gq hh e1 e2 (λz=>(mem_cons.mp (I1.d7 e z)).elim e3 e4) e5 bb r q) λr s' hq=>?_);cases r with
 |error e=>exact False.elim hq
 |ok fl =>
  cases fl with
  |ret u=>exact I1.after hq
  |next=>exact False.elim hq
  |brk=>exact False.elim hq
  |cont=>exact False.elim hq
end
def P9 (a b:Bool):MeetsSeq.EqGives (.bool a) (.bool b) (a==b):=λprog w A E s Q h=>SeqAt.EqAt.bool_bool a b prog w E Q h
def JC:∀ {bs:List Bool}{us:Xb},Vals (bs.map V.bl) us->us=bs.map Value.bool
 | [],_,.nil=>rfl
 |_::_,_,.cons r t=>by rw[map_cons,←JC t];cases r;rfl
def Rs:V->Xc->Hp->VK->Prop:=λx vs H Q=>∃(l:Xd) (bs:List Bool) (j:Nat),x=.ref l/\vs=[.bl true]/\H l=some (.lst (bs.map V.bl))/\bs[j]?=some true/\(∀m,m<j->bs[m]?=some false)/\Q (.int (j:Nat)) H
section
def Og:MtM X "list.index" Rs:=by
 intro aa s σ H x vs v us Q I rx rv h;obtain⟨l,bs,j,rfl,rfl,hH,hj,hno,q⟩:=h;cases rx;obtain⟨u,rfl,ru⟩:=rv.one;obtain rfl:u=Value.bool true:=ru;obtain⟨z,its,n,r,hl,e⟩:=I.lstM hH;have ei:=JC r;subst ei;have hjs:j<bs.length:=(Z8.mp hj).1
 have hz:(j:Int)<2 ^ 63 - 1:=by
  have hs:sizeLine<2 ^ 62:=by decide
  rw[AS]at z;omega
 refine call_meets F.slot_list_index ⟨_,e,Zj⟩ F.entry_list_index (F.args_list_index_2 _ _)
  (MeetsSeq.list_index l (bs.map Value.bool).toArray n (.bool true) (λy=>match y with | .bool a=>a==true |_=>false) (λy hy=>?_) j (by simpa using hjs) hz ?_ λm hm aL=>?_) ⟨e,?_⟩
 ·obtain⟨a,_,rfl⟩:=Zs.mp (List.mem_toArray.mp hy);exact P9 a true
 ·have:=(Z8.mp hj).2;simp[this]
 ·have:=(Z8.mp (hno m aL)).2;simp[this]
 ·exact⟨.int (j:Nat),H,I.tok _,⟨_,Zj⟩,q⟩
end
noncomputable def jC (f:Xd) (o:Obj):HO:=.ext λh=>h.get? f=some o
noncomputable def FS (c:Xd) (qual:Str):HO:=.ext λh=>h.CodeRec (.ref c) qual
noncomputable def Ec (P:Program) (w:World) (K:FG) (mg:SV) (base:Heap) (N:Xa) (qual:Str) (scope:Scope) (f:Xd) (cd:Value) (cl:List (Str×Xd)) (A:Around) (outer:List Env) (s:Xe) (H:Hp) (E:XK):Cx where
 prog:=P
 w:=w
 K:=K
 mg:=mg
 base:=base
 A:=A.deeper (W.envX qual scope s.heap.objs.size f cd cl)
 N:=N
 aX:=s
 eV:=H
 env:=W.envX qual scope s.heap.objs.size f cd cl
 outer:=outer
 stack:=W.envX qual scope s.heap.objs.size f cd cl::outer
 ex:=[]
 calm:=true
 fn:=λ_=>false
 pn:=[]
 xe:=λe s'=>wpAny (model P w) (A.deeper (W.envX qual scope s.heap.objs.size f cd cl)) (leaving (W.envX qual scope s.heap.objs.size f cd cl) e) (λ_ s''=>eB P w outer H s E e s'') (λe' s''=>eB P w outer H s E e' s'') s'
structure Hi (N:Xa) (scope:Scope) (cl:List (Str×Xd)) (σ:St) (H:Hp) (h:Heap):Prop where
 inj:∀x y c,cl.lookup x=some c->cl.lookup y=some c->x=y
 has:∀x,(scope.names.lookup x=some .cell\/scope.names.lookup x=some .free)->∃c,cl.lookup x=some c
 cell:∀x c,cl.lookup x=some c->(∃v,h.IsCell c v)/\H c=none
 val:∀(i:Nat) x v,N[i]?=some x->σ[i]?=some (some v)->scope.names.lookup x=some .free/\∃u c,RelV v u/\cl.lookup x=some c/\h.IsCell c (some u)
 len:σ.length=N.length
section
variable {qual name:Str}{scope:Scope}{f c':Xd}{cd:Value}{cl:List (Str×Xd)}{outer:List Env}{E:XK}
def Ww:MP (Ec P w K mg base N qual scope f cd cl A outer s H E):=⟨rfl,rfl,rfl⟩
def Ed:BN (eB P w) (Ec P w K mg base N qual scope f cd cl A outer s H E) E:=by
 rintro aa σ H1 s1 e s2 I ⟨ea,C,dx,H2,rfl,F,q⟩;exact Zw (Hg (X:=Ec P w K mg base N qual scope f cd cl A outer s H E) Ww I F) (λ_ s3 G=>⟨ea,C,dx,H2,Zj,G,q⟩) λ_ _ z=>z
def Ma {h1:Heap}{m0:SV}{tk:Nat} (hk0:scope.kind=.function) (hd:A.handled=none) (e0:eh P w K mg base A outer s H) (C:Hi N scope cl σ H s.heap) (jI:h1.Ns s.heap.objs.size m0) (hk:∀b o,s.heap.get? b=some o->h1.get? b=some o) :
  Inv (Ec P w K mg base N qual scope f cd cl A outer s H E) [] σ H { s with heap:=h1,toks:=tk }:=by
 have jl:∀b:Xd,b∉ (Ec P w K mg base N qual scope f cd cl A outer s H E).ex:=λb z=>absurd (show b∈([]:List Xd)from z) (by simp);have cellK:∀ {c:Xd}{v:Option Value},s.heap.IsCell c v->h1.IsCell c v:=λ{c v} ⟨o,ho,hd⟩=>⟨o,hk _ _ ho,hd⟩
 refine⟨⟨e0.mod,hk0,Zj,Zj,Zz _,C.inj,C.has,λy c z _=>(by cases (show false=true from z)),λ_=>hd,Around.frames_deeper e0.frames,.inr ⟨Zj,Zj⟩,λb z=>absurd z (jl b),e0.bs,e0.gK,λb _ _=>jl b,λb z=>absurd z (jl b),e0.df,e0.ig⟩,
  rfl,e0.bare,Un.kept hk,⟨m0,jI,λi x v h1 h2 h3=>?_⟩,λy c h=>?_,e0.aF.fresh (Zz _),λy c h=>(C.cell y c h).2,λp hp=>absurd (show p∈([]:LO)from hp) (by simp),e0.aF.kept hk,C.len⟩
 ·obtain⟨k,u,c,r,e,z⟩:=C.val i x v h1 h2;exact⟨u,r,.inr ⟨.inr k,c,e,cellK z⟩⟩
 ·obtain⟨⟨v,z⟩,_⟩:=C.cell y c h;exact⟨v,cellK z⟩
def QA {k:Nat}{params:Arguments}{body:Expr}{pm eA:Value}{Q:VK}{tb:TE} (hr:aE k A) (e0:eh P w K mg base A outer s H) (C:Hi N scope cl σ H s.heap)
  (ho:s.heap.get? f=some (W.kla_obj name qual params body scope cl pm c' eA)) (fh:s.heap.CodeRec (.ref c') qual) (bp:bindArgs (W.kla_fn name qual params body scope cl pm (.ref c') eA) ⟨[],[]⟩=pure [])
  (hco:scope.isCoroutine=false) (bw:scope.isGenerator=false) (hk:scope.kind=.function) (bh:∀x∈scope.names,x.2≠ .cell)
  (hb:PE (Ec P w K mg base N qual scope f (.ref c') cl A outer s H E) body tb) (h:tb σ H Q):codeAny (model P w) A (.call (.ref f) ⟨[],[]⟩) (CR (eB P w) outer P w H s Q E) s:=by
 have lim:s.heap.NoLimit:=e0.mod.nolimit.keeps λb o e=>(e0.bs b o e).1;refine W.kla_callFunE hr.depth ho rfl hco bw rfl fh ?_;rw[bp];refine Zx (wpAny_newFunctionEnv bh (λy hy=>nomatch hy) (λeF jI hsb=>⟨lim.fresh _ hsb,?_⟩) hk);show codeAny _ _ (.expr body (W.envX qual scope s.heap.objs.size f (.ref c') cl)) _ _;have hk₁:∀b o,s.heap.get? b=some o->eF.get? b=some o:=λb o e=>hsb.extBut b o (ZD (lt_size e)) (ZW _ e);have I:Inv (Ec P w K mg base N qual scope f (.ref c') cl A outer s H E) [] σ H _:=Ma (tk:=s.toks+([]:List (Str×Value)).length) hk hr.hd e0 C jI hk₁;exact W.kla_codeExpr (Zw (hb [] _ σ H Q I h) (λv s' ⟨x,H',J,rv,q⟩=>⟨x,H',J.os,J.bare,J.base,J.aF,rv,q⟩) λe s' z=>z)
end
section
def Inv.cells {scope:Scope}{cl:List (Str×Xd)}{iM:St} (I:Inv X aa σ H s) (C:Hi N scope cl iM X.eV X.aX.heap) (jb:∀x c,cl.lookup x=some c->c∉ X.fs) (hex:X.ex=[]):Hi N scope cl iM H s.heap:=by
 have kp:∀x c v,cl.lookup x=some c->X.aX.heap.IsCell c v->s.heap.IsCell c v:=λx c v e ⟨o,ho,hd⟩=>⟨o,I.base.keep c o ho (C.cell x c e).2 (jb x c e) (by rw[hex];simp),hd⟩;refine⟨C.inj,C.has,λx c e=>?_,λi x v h1 h2=>?_,C.len⟩
 ·obtain⟨⟨v,z⟩,n⟩:=C.cell x c e;obtain⟨o,ho,_⟩:=id z;exact⟨⟨v,kp x c v e z⟩,I.base.free c o ho n (by rw[hex];simp)⟩
 ·obtain⟨k,u,c,r,e,z⟩:=C.val i x v h1 h2;exact⟨k,u,c,r,e,kp x c _ e z⟩
def Kp (i:Nat) (f c':Xd) (qual:Str) (o:Obj) (iM:St) (tb:TE):TE:=λσ H Q=>σ[i]?=some (some (.ref f))/\H f=some (jC f o)/\H c'=some (FS c' qual)/\tb iM H Q
def Mb {i k:Nat}{name qual:Str}{p:Pos}{Nl:Xa}{scope:Scope}{cl:List (Str×Xd)}{iM:St}{f c':Xd}{params:Arguments}{body:Expr}{pm eA:Value}{tb:TE}{E:XK}
  (hN:X.N[i]?=some x) (hv:Vis X.env.scope x) (hr:aE k X.A) (C:Hi Nl scope cl iM X.eV X.aX.heap) (jb:∀x c,cl.lookup x=some c->c∉ X.fs) (hex:X.ex=[]) (hx:BN (eB X.prog X.w) X E)
  (bp:bindArgs (W.kla_fn name qual params body scope cl pm (.ref c') eA) ⟨[],[]⟩=pure [])
  (hco:scope.isCoroutine=false) (bw:scope.isGenerator=false) (hk:scope.kind=.function) (bh:∀x∈scope.names,x.2≠ .cell)
  (hb:∀s H,PE (Ec X.prog X.w X.K X.mg X.base Nl qual scope f (.ref c') cl X.A X.stack s H E) body tb) (hd:(x==("__debug__" : Str))=false:=by decide) (fh:(x==("__classdict__" : Str))=false:=by decide) :
  PE X (.Call (.Name x p) [] [] pos) (Kp i f c' qual (W.kla_obj name qual params body scope cl pm c' eA) iM tb):=by
 intro aa s σ H Q I h;obtain⟨h1,h2,h3,h4⟩:=h;refine Z2 (aG (PJ hN hv hd fh aa s σ H (λv H'=>v=.ref f/\H'=H) I ⟨_,h1,rfl,rfl⟩) λu s1 ⟨v,H1,I1,r,ev,eH⟩=>?_);subst ev eH;obtain rfl:u=Value.ref f:=r;obtain⟨ho,_,_⟩:=I1.aF _ _ h2;obtain⟨hc,_,_⟩:=I1.aF _ _ h3;refine callWith_meth0 rfl ho (wpAny_call (codeAny_mono (QA hr I1.gq (I1.cells C jb hex) ho hc bp hco bw hk bh (hb s1 H1) h4) λr s' hq=>?_));cases r with
 |error e=>exact hx aa σ H1 s1 e s' I1 hq
 |ok fl =>
  cases fl with
  |ret u=>exact I1.after hq
  |next=>exact False.elim hq
  |brk=>exact False.elim hq
  |cont=>exact False.elim hq
end
section
variable {CX:gL}
def aV.at {qual:Str}{st:Stmt}{f:Xd}{fd:FuncData}{ps:Xa}{k:Nat}{outer:List Env}{args:Args}{vs:Xc}{Q:VK}{E:XK} (F:aV K x qual st f fd) (S:AN N ps (defScope st)) (hl:vs.length=ps.length)
  (hr:aE (k+1) A) (e0:eh P w K mg base A outer s H) (hb:BindsTo s fd args (ps.zip us)) (r:Vals vs us)
  (bg:∀ad,aE k (A.deeper (envOfC qual (defScope st) s.heap.objs.size f ad))->∃t,eE (Ao CX P w K mg base N qual (defScope st) f ad A outer s H E) (defBody st) t/\t { nx:=λ_ H'=>Q .aI H',rt:=Q } (Bw N vs) H) :
  codeAny (model P w) A (.call (.ref f) args) (CR CX outer P w H s Q E) s:=by
 obtain⟨oc,od,kV,doc,pm,an,ad,ct,gB,rfl,lk,fh⟩:=F.ex;have KX:K.In s.heap:=e0.mod.kin.keeps λb o z=>(e0.bs b o z).1;have lim:s.heap.NoLimit:=e0.mod.nolimit.keeps λb o z=>(e0.bs b o z).1
 have hk:∀y∈ps.zip us,(defScope st).names.lookup y.1=some .local\/((defScope st).names.lookup y.1=some .cell/\((cellsFrom (s.heap.objs.size+1) (defScope st).names []).lookup y.1).isSome=true):=λ⟨n,v⟩ hy=>by
  rcases S.par n (of_mem_zip hy).1 with q |q
  ·exact .inl q
  ·exact .inr ⟨q,W.cellsFrom_some _ _ _ (.inl q)⟩
 refine codeAny_call_function hr.depth (KX _ _ lk) rfl S.co S.gen rfl (W.codeRec_of KX fh) (hb _ _ _ _ (wpAny_newFunctionEnv_cells S.kind hk λenv ee s1 x=>?_));subst ee;refine⟨lim.keeps x.toInCall.keep,codeAny_func ?_⟩;obtain⟨t,ht,hq⟩:=bg ad (hr.deeper _);have I:Inv (Ao CX P w K mg base N qual (defScope st) f ad A outer s H E) [] (Bw N vs) H s1:=Fy S hr.hd e0 hl r x;refine Zw (ht [] s1 (Bw N vs) H _ I hq) (λfl s' z=>?_) λ_ _ z=>z;cases fl with
 |ret u =>
  obtain⟨v,aJ,H',J,rv,q⟩:=z;exact⟨v,H',J.os,J.bare,J.base,J.aF,rv,q⟩
 |next =>
  obtain⟨aJ,H',J,q⟩:=z;exact⟨.aI,H',J.os,J.bare,J.base,J.aF,Zj,q⟩
 |brk =>
  obtain⟨_,_,_,q⟩:=z;exact q.elim
 |cont =>
  obtain⟨_,_,_,q⟩:=z;exact q.elim
end
def Gy {q:Pos}{c:Value} (ax:(q.line==pos.line&&q.col==pos.col)=false) (l:Xb) (h:TriplesOk l):codeAmong q (l++[rawInt pos.line,rawInt pos.col,c])=codeAmong q l:=by
 fun_induction TriplesOk l with
 |case1 =>
  have:((pos.line:Int)==(q.line:Int)&&(pos.col:Int)==(q.col:Int))=false:=by
   rw[Bool.and_eq_false_iff]at ax ⊢;rcases ax with z |z
   ·left;rw[beq_eq_false_iff_ne]at z ⊢;omega
   ·right;rw[beq_eq_false_iff_ne]at z ⊢;omega
  simp[codeAmong,rawInt,this]
 |case2 a t b u x rest ih =>
  simp only[List.cons_append,codeAmong];split
  ·rfl
  ·exact ih h
 |case3 l h1 h2=>exact h.elim
def aU (H:Hp) (P0:Xd) (qual:Str) (ls:List Pos):Prop:=∃ps,H P0=some (.fb ps)/\TriplesOk ps.toList/\∀q∈ls,codeAmong q ps.toList=none\/∃c',codeAmong q ps.toList=some (.ref c')/\H c'=some (FS c' qual)
def Hj (P0:Xd) (H H':Hp):Prop:=∀b u,b≠P0->H b=some u->H' b=some u
structure Mc (X:Cx) (c P0:Xd):Prop where
 code:X.env.code=.ref c
 hd:W.CodeHd X.base c P0
 bu:X.base.BuiltinsAt X.mg P0
section
variable {c P0:Xd}{ls:List Pos}{cH:Pos}
def Vb (P0:Xd) (qual:Str) (ls:List Pos) (o:Xd->Value->Obj):TE:=λσ H Q=>aU H P0 qual ls/\∀f c' eA H',H f=none->Hj P0 H H'->aU H' P0 qual ls->H' f=some (jC f (o c' eA))->H' c'=some (FS c' qual)->Q (.ref f) H'
def Rt {c':Xd}{qual:Str} (r:h.CodeRec (.ref c') qual):aQ P w H h c' (FS c' qual):=by
 obtain⟨c1,oc,vs,t,e,ho,hd,hq⟩:=id r;cases e;exact⟨r,⟨_,ho⟩,λh1 h2 ⟨c2,o2,v2,t2,e2,a,b⟩ k=>by cases e2;exact⟨_,o2,v2,t2,Zj,k _ a,b⟩⟩
def TB {f:Xd}{o:Obj} (r:h.get? f=some o):aQ P w H h f (jC f o):=⟨r,⟨_,r⟩,λh1 h2 a k=>k _ a⟩
def UC {params:Arguments}{body:Expr}{scope:Scope}{cC:List (Str×Xd)} (L:Mc X c P0) (hm:cH∈ls) (ax:∀q∈ls,q=cH\/(q.line==cH.line&&q.col==cH.col)=false)
  (af:closureFor scope X.env=pure cC) (c9:defaultsOf params X.env=([],[])) :
  PE X (.Lambda params body scope cH) (Vb P0 (X.env.qual ++ "<lambda>") ls (λc' eA=>W.kla_obj "<lambda>" (X.env.qual ++ "<lambda>") params body scope cC ((X.mg "__name__").getD .none) c' eA)):=by
 intro aa s σ H Q I h;obtain⟨⟨ps,hP,ht,hls⟩,k⟩:=h;have bk:∀b o,X.base.get? b=some o->s.heap.get? b=some o:=λb o e=>(I.bs b o e).1;have hPg:s.heap.get? P0=some (W.tabObj ps):=I.aF _ _ hP;have hgs:s.heap.Ns mainGlobals X.mg:=I.ok.mod.glob.keeps bk
 have hgP:mainGlobals≠P0:=λq=>by
  obtain⟨o,es,ep,e,_⟩:=I.ok.mod.glob;have n:=(I.bs _ _ e).2;rw[q,hP]at n;cases n
 have C:=L.hd.keeps bk
 have B:s.heap.BuiltinsAt X.mg P0:=by
  obtain⟨bm,o,a1,a2,a3,a4,a5,a6⟩:=L.bu;exact⟨bm,o,a1,a2,a3,a4,bk _ _ a5,a6⟩
 refine W.kla_eval c9 ?_;rcases hls cH hm with hn |⟨c',hf,iU⟩
 ·refine W.kla_makeFunction (mg:=X.mg) af I.ok.glob hgs L.code C hPg ht hn hgP B λc' eA h' tk hx hge aL hrec aw=>?_;have kp:∀b o,b≠P0->s.heap.get? b=some o->(h'.push (W.kla_obj "<lambda>" (X.env.qual ++ "<lambda>") params body scope cC ((X.mg "__name__").getD .none) c' eA)).get? b=some o:=λb o n e=>ZW _ (hx b o n e);have lt:∀b u,H b=some u->b<s.heap.objs.size:=λb u e=>I.aF.lt e;have jb:s.heap.objs.size<=h'.objs.size:=Nat.le_trans hge (Nat.le_of_lt aL);have hPl:P0<s.heap.objs.size:=lt _ _ hP;have hcP:c'≠P0:=λz=>by rw[z]at hge;exact absurd hPl (Nat.not_lt_of_le hge)
  have hfP:h'.objs.size≠P0:=λz=>by rw[z]at jb;exact absurd hPl (Nat.not_lt_of_le jb)
  have hcf:c'≠h'.objs.size:=ZD aL;generalize bt:upd (upd (upd H P0 (.fb (ps++#[rawInt cH.line,rawInt cH.col,.ref c']))) c' (FS c' (X.env.qual ++ "<lambda>"))) h'.objs.size (jC h'.objs.size (W.kla_obj "<lambda>" (X.env.qual ++ "<lambda>") params body scope cC ((X.mg "__name__").getD .none) c' eA))=H'
  have gH:∀b,b<s.heap.objs.size->b≠P0->H' b=H b:=λb hb n=>by
   rw[←bt,AH (ZD (Z1 hb jb)),AH (ZD (Z1 hb hge)),AH n]
  have atP:H' P0=some (.fb (ps++#[rawInt cH.line,rawInt cH.col,.ref c'])):=by rw[←bt,AH (Ne.symm hfP),AH (Ne.symm hcP),AB]
  have atc:H' c'=some (FS c' (X.env.qual ++ "<lambda>")):=by rw[←bt,AH hcf,AB]
  have atf:H' h'.objs.size=some (jC h'.objs.size (W.kla_obj "<lambda>" (X.env.qual ++ "<lambda>") params body scope cC ((X.mg "__name__").getD .none) c' eA)):=by rw[←bt,AB]
  have ntbl:∀b u,H b=some u->(∀qs,u≠ .fb qs)->b≠P0:=λb u e n z=>by subst z;rw[hP]at e;cases e;exact n _ rfl
  have un:Un X.fs [] H H' s.heap (h'.push (W.kla_obj "<lambda>" (X.env.qual ++ "<lambda>") params body scope cC ((X.mg "__name__").getD .none) c' eA)):=by
   have nP:∀b,H b=none->b≠P0:=λb n z=>by subst z;rw[hP]at n;cases n
   refine⟨λb o q n _ _=>kp b o (nP b n) q,λb o q n _ _=>⟨o.slots,kp b o (nP b n) q⟩,λb o q n _=>by rw[gH b (lt_size q) (nP b n)];exact n,λb o q _=>?_,λb xs e=>?_,λb o u e=>?_,λb qs e=>?_⟩
   ·by_cases z:b=P0
    ·subst z;exact⟨_,ZW _ aw⟩
    ·exact⟨o,kp b o z q⟩
   ·rw[gH b (lt _ _ e) (ntbl b _ e λ_ y=>nomatch y)];exact e
   ·rw[gH b (lt _ _ e) (ntbl b _ e λ_ y=>nomatch y)];exact e
   ·by_cases z:b=P0
    ·subst z;rw[hP]at e;cases e;exact⟨_,atP⟩
    ·exact⟨#[],by rw[gH b (lt _ _ e) z,e];simp⟩
  have aF:du X.prog X.w H' (h'.push (W.kla_obj "<lambda>" (X.env.qual ++ "<lambda>") params body scope cC ((X.mg "__name__").getD .none) c' eA)):=λb u e=>by
   by_cases z1:b=h'.objs.size
   ·subst z1;rw[atf]at e;cases e;exact TB (ZO _ Zj)
   by_cases z2:b=c'
   ·subst z2;rw[atc]at e;cases e;obtain⟨c1,oc,vs,t,ec,ho,hd⟩:=hrec;exact Rt ⟨c1,oc,vs,t,ec,ZW _ ho,hd⟩
   by_cases z3:b=P0
   ·subst z3;rw[atP]at e;cases e;exact ZW _ aw
   ·have e':H b=some u:=by rw[←bt,AH z1,AH z2,AH z3]at e;exact e
    refine(I.aF b u e').eR (λb2 o hb q=>kp b2 o ?_ q) (λb2 q=>?_) λb2 xs q=>?_
    ·rcases hb with z |z
     ·rw[z];exact z3
     ·exact ntbl b2 _ z λ_ y=>nomatch y
    ·rw[gH b2 (lt _ _ q) (ntbl b2 _ q λ_ y=>nomatch y)];exact q
    ·rw[gH b2 (lt _ _ q) (ntbl b2 _ q λ_ y=>nomatch y)];exact q
  have I':=I.un (t':=tk) un aF;refine⟨.ref h'.objs.size,H',I',Zj,k _ c' eA H' (I.aF.fresh jb) (λb u n e=>by rw[gH b (lt _ _ e) n];exact e) ⟨_,atP,?_,λq hq=>?_⟩ atf atc⟩
  ·rw[Array.toList_append];exact TriplesOk_snoc _ _ _ _ ht
  ·rw[Array.toList_append];rcases ax q hq with z |z
   ·subst z;exact .inr ⟨c',codeAmong_snoc _ ht hn,atc⟩
   ·show codeAmong q (ps.toList++[rawInt cH.line,rawInt cH.col,.ref c'])=none\/_;rw[Gy z _ ht];rcases hls q hq with y |⟨c2,y1,y2⟩
    ·exact .inl y
    ·exact .inr ⟨c2,y1,by rw[gH c2 (lt _ _ y2) (ntbl c2 _ y2 λ_ y=>nomatch y)];exact y2⟩
 ·refine W.kla_makeFunctionHit (mg:=X.mg) af I.ok.glob hgs L.code C hPg ht hf B λeA h' tk hk hsz=>?_;have I':=I.laid (t':=tk) (a:=h'.objs.size) (o:=jC h'.objs.size (W.kla_obj "<lambda>" (X.env.qual ++ "<lambda>") params body scope cC ((X.mg "__name__").getD .none) c' eA)) (λb o e=>ZW _ (hk b o e)) hsz (TB (ZO _ rfl));have fr:H h'.objs.size=none:=I.aF.fresh hsz
  have sm:∀b u,H b=some u->upd H h'.objs.size (jC h'.objs.size (W.kla_obj "<lambda>" (X.env.qual ++ "<lambda>") params body scope cC ((X.mg "__name__").getD .none) c' eA)) b=some u:=λb u e=>by
   rw[AH (AJ e fr)];exact e
  refine⟨.ref h'.objs.size,_,I',rfl,k _ c' eA _ fr (λb u _ e=>sm b u e) ⟨ps,sm _ _ hP,ht,λq hq=>?_⟩ AB (sm _ _ iU)⟩;rcases hls q hq with y |⟨c2,y1,y2⟩
  ·exact .inl y
  ·exact .inr ⟨c2,y1,sm _ _ y2⟩
end
section
def aV.okX {qual:Str}{st:Stmt}{f:Xd}{fd:FuncData}{ps:Xa}{k:Nat}{sp:Sp} (F:aV K x qual st f fd) (S:AN N ps (defScope st)) (len:∀vs H Q E,sp vs H Q E->vs.length=ps.length)
  (bg:∀(ad:Value) (A:Around) (outer:List Env) (s:Xe) (H:Hp) (vs:Xc) (Q:VK) (E:XK),aE k (A.deeper (envOfC qual (defScope st) s.heap.objs.size f ad))->sp vs H Q E ->
   ∃t,eE (Ao (eB P w) P w K mg base N qual (defScope st) f ad A outer s H E) (defBody st) t/\t { nx:=λ_ H'=>Q .aI H',rt:=Q } (Bw N vs) H):AU P w K mg base (eB P w) (k+1) f fd ps sp:=by
 obtain⟨oc,od,kV,doc,pm,an,ad,ct,gB,rfl,lk,fh⟩:=F.ex;exact NU lk fh S len λA outer s H vs Q E hr gP=>bg ad A outer s H vs Q E hr gP
structure BdX (P:Program) (w:World) (K:FG) (mg:SV) (base:Heap) (f:Xd) (qual:Str) (st:Stmt) (N ps:Xa) (k:Nat) (vs:Xc) (H:Hp) (Q:VK) (E:XK):Prop where
 len:vs.length=ps.length
 ok:∀(ad:Value) (A:Around) (outer:List Env) (s:Xe),aE k (A.deeper (envOfC qual (defScope st) s.heap.objs.size f ad)) ->
  ∃t,eE (Ao (eB P w) P w K mg base N qual (defScope st) f ad A outer s H E) (defBody st) t/\t { nx:=λ_ H'=>Q .aI H',rt:=Q } (Bw N vs) H
def aV.n {qual:Str}{st:Stmt}{f:Xd}{fd:FuncData}{ps:Xa}{k:Nat}{sp:Sp} (F:aV K x qual st f fd) (S:AN N ps (defScope st)) (h:∀vs H Q E,sp vs H Q E->BdX P w K mg base f qual st N ps k vs H Q E) :
  AU P w K mg base (eB P w) (k+1) f fd ps sp:=F.okX S (λvs H Q E q=>(h vs H Q E q).len) λc A o s H vs Q E r q=>(h vs H Q E q).ok c A o s r
structure FunD (K:FG) (x qual:Str) (st:Stmt) (f:Xd) (fd:FuncData):Prop where
 ex:∃(oc:Value) (od:Option Xd) (dV kV doc pm:Value) (an:Option Xd) (ad ct:Value) (gB:Array (Option Value)),
  fd=W.fnOf x qual (defArgs st) (defBody st) (defScope st) dV kV doc pm an ad ct/\K.lookup f=some ⟨oc,od,.func fd,gB⟩/\W.codeIn K ad qual=true
def FunD.ok {qual:Str}{st:Stmt}{f:Xd}{fd:FuncData}{ps:Xa}{k:Nat}{sp:Sp} (F:FunD K x qual st f fd) (S:AN N ps (defScope st)) (len:∀vs H Q E,sp vs H Q E->vs.length=ps.length)
  (bg:∀(ad:Value) (A:Around) (outer:List Env) (s:Xe) (H:Hp) (vs:Xc) (Q:VK) (E:XK),aE k (A.deeper (envOfC qual (defScope st) s.heap.objs.size f ad))->sp vs H Q E ->
   ∃t,eE (Ao aK P w K mg base N qual (defScope st) f ad A outer s H E).dH (defBody st) t/\t { nx:=λ_ H'=>Q .aI H',rt:=Q } (Bw N vs) H):AU P w K mg base aK (k+1) f fd ps sp:=by
 obtain⟨oc,od,dV,kV,doc,pm,an,ad,ct,gB,rfl,lk,fh⟩:=F.ex;refine NU lk fh S len λA outer s H vs Q E hr gP=>?_;obtain⟨t,h,q⟩:=bg ad A outer s H vs Q E hr gP;exact⟨t,h.dH,q⟩
end
end L2
end
section
namespace L2
open PySem PySem.Spec PyProof.Rows Builtin Builtin.ObjectAttr
noncomputable def Er (C M:Xd):Xb:=[.ref C,.ref M,.type "ValueError", .type "Exception", .type "BaseException", .type "object"]
section
variable {prog:Program}{x M:Xd}{ox:Obj}{vs:Array Value}{name:Str}{v:Value}{cd:ClassData}
def Ru {R:Result->Xe->Prop}{tk:Tok} (X:K.In s.heap) (hx:s.heap.get? x=some ox) (af:ox.cls=.ref C) (gE:ox.dict=none) (hf:ox.data=.fields vs) (hc:W.clsIn K C=some cd) (cb:cd.mro=Er C M) (bc:cd.hasDict=true) (hn:W.findIn K (.ref C) name=some none)
  (h:∀(h':Heap) (tk':Nat),h'.get? x=some { ox with dict:=some s.heap.objs.size }->h'.Ns1 s.heap.objs.size (λy=>if y=name then some v else none)->(∀b o,b≠x->s.heap.get? b=some o->h'.get? b=some o)->R (.ok (.ret .none)) { s with heap:=h',toks:=tk' }) :
  codeAny (model prog w) A (.call (.builtin "object.__setattr__") ⟨[.ref x,.str name tk,v],[]⟩) R s:=by
 have SF:=PySem.F.store_object;have I:W.InstAt s.heap x ox C none:=⟨hx,af,by unfold W.notCls;rw[hf],by rw[gE];trivial⟩;have ne:cd.mro.isEmpty=false:=by rw[cb];rfl
 have sub:W.Looks (model prog w) s.heap (isInstance (.ref x) (.type "object")) true:=I.type.andThen (W.looks_mroIn X (by unfold W.mroIn;rw[hc,Option.bind_some,Zr (by rw[ne];decide),cb];simp[Er]));refine codeAny_call_builtin SF.slot.plain SF.entry (@W.check_slot (model prog w) _ _ s "object.__setattr__" "object" "__setattr__" (.ref x) [.str name tk,v] [] _ SF.kind SF.split sub (SF.args (.ref x) (.str name tk) v) ?_);have hm:W.Looks (model prog w) s.heap (mroOf (.ref C)) cd.mro:=(W.looks_clsIn X hc).andThen .now;have L3:W.Looks (model prog w) s.heap (storeTaker? none) none:=.now;rw[W.osa_eq,refuse_eq];refine Zy (Zy (I.type.here (Zy (hm.here ?_))));rw[cb];unfold Er;rw[refuseLoop_ref,refuseLoop_ref,PySem.F.store_ValueError.passes];refine Zx (Zy (I.type.here (Zy ((W.looks_findIn X hn).here (Zy (L3.here ?_))))));obtain⟨oc,odi,oda,gB⟩:=ox
 dsimp only at af gE hf
 subst af gE hf;refine Zy (Zx (Zy (Zy (wpAny_loadPart hx (Zy ((W.looks_clsIn X hc).here ?_))))));rw[bc];have hx₁:(s.heap.push { cls:=.type "dict", data:=.dict #[] }).get? x=some _:=ZW _ hx;have hxs:x≠s.heap.objs.size:=ZD (lt_size hx);obtain⟨hp,g,d,t,os⟩:=s
 dsimp only at hx hx₁ hxs h ⊢
 rw[Zr qc,Zr (by simp[typeHasDict])];refine Zy (wpAny_alloc' ?_);refine Zy (wpAny_update' hx₁ ?_);refine Zx ?_
 have hgd:((hp.push { cls:=.type "dict", data:=.dict #[] }).update x λo=>{ cls:=o.cls,dict:=some hp.objs.size,data:=o.data,slots:=o.slots }).get? hp.objs.size=some { cls:=.type "dict", data:=.dict #[] } :=
  (Heap.get?_update_ne _ _ _ _ hxs.symm).trans (Heap.get?_push_at rfl rfl)
 have ja:((hp.push { cls:=.type "dict", data:=.dict #[] }).update x λo=>{ cls:=o.cls,dict:=some hp.objs.size,data:=o.data,slots:=o.slots }).Ns hp.objs.size (λ_=>none) :=
  ⟨_,#[],_,hgd,rfl,λe he=>absurd he (by simp),λ_=>rfl⟩
 show wpAny _ _ (storeInDict hp.objs.size (.str name tk) name v) _ _ _;unfold storeInDict newKeyGuard;refine Zy (Zx (Zy (wpAny_nsSet1 (Heap.Ns1.of_empty ja) λh' hn' hs=>?_)));obtain⟨oD,esD,epD,hoD,hdD,iT⟩:=hn'.count (Within.cons name v Within.nil);refine Zy (wpAny_lookBehind hoD (by rw[hdD];exact pastItsLine_dict (Nat.le_trans iT (by rw[length_cons,length_nil,sizeLine_eq];omega))) ?_)
 wp_walk
 have hx':h'.get? x=some { cls:=.ref C,dict:=some hp.objs.size,data:=.fields vs,slots:=gB }:=(hs.2 x hxs).trans (ZT _ hx₁ rfl);exact h h' _ hx' hn' λb ob hbx hb=>(hs.2 b (ZD (lt_size hb))).trans ((Heap.get?_update_ne _ _ _ _ hbx).trans (ZW _ hb))
def Rv {Q:Unit->Xe->Prop} (X:K.In s.heap) (hx:s.heap.get? x=some ox) (af:ox.cls=.ref C) (gE:ox.dict=none) (hf:ox.data=.fields vs) (hc:W.clsIn K C=some cd) (cb:cd.mro=Er C M) (bc:cd.hasDict=true) (hn:W.findIn K (.ref C) name=some none)
  (hs:W.findIn K (.ref C) "__setattr__" = some (some (.builtin "object.__setattr__")))
  (h:∀(h':Heap) (tk':Nat),h'.get? x=some { ox with dict:=some s.heap.objs.size }->h'.Ns1 s.heap.objs.size (λy=>if y=name then some v else none)->(∀b o,b≠x->s.heap.get? b=some o->h'.get? b=some o)->Q () { s with heap:=h',toks:=tk' }) :
  wpAny (model prog w) A (setAttr (.ref x) name v) Q E s:=by
 have I:W.InstAt s.heap x ox C none:=⟨hx,af,by unfold W.notCls;rw[hf],by rw[gE];trivial⟩;exact W.set_plain X I hs (Ru (s:={ s with toks:=s.toks+1 }) X hx af gE hf hc cb bc hn λh' tk' a b c=>h h' tk' a b c)
end
end L2
end
section
namespace L2
open PySem PySem.Spec PyProof.Rows
structure QB (K:FG) (C M:Xd) (f:Str):Prop where
 cls:∃cd,W.clsIn K C=some cd/\cd.mro=Er C M/\cd.hasDict=true
 nf:W.findIn K (.ref C) f=some none
 sa:W.findIn K (.ref C) "__setattr__" = some (some (.builtin "object.__setattr__"))
section
variable {o value:Expr}{ta tv:TE}{f:Str}{pos':Pos}{M:Xd}
def Vc (K:FG) (M:Xd) (ta tv:TE) (f:Str):TS:=λD σ H=>tv σ H λy H1=>ta σ H1 λx H2=>∃e C,x=.ref e/\H2 e=some (FO e C none)/\QB K C M f /\
 ∀d,H2 d=none->d≠e->D.nx σ (upd (upd H2 e (FO e C (some d))) d (.xd [(f,y)]))
def Rw (ha:PE X o ta) (hv:PE X value tv) (hs:swapsWith value (some (.Attribute o f pos')) pos.line X.env=pure false):PS X (.Assign [.Attribute o f pos'] value pos) (Vc X.K M ta tv f):=by
 intro aa s σ H D I h;refine plainObj_wpAny_Assign_Attribute (aG (hv aa s σ H _ I h) λu s1 ⟨y,H1,I1,ry,q⟩=>aG (ha aa s1 σ H1 _ I1 q) λov s2 ⟨x,H2,I2,rx,e,C,ex,ea,S,q2⟩=>?_) hs;subst ex;obtain rfl:ov=Value.ref e:=rx;obtain⟨⟨oe,vs,a1,a2,a3,a4,a5,a6,a7⟩,_,_⟩:=I2.aF _ _ ea;obtain⟨cd,hc,hm,hd⟩:=S.cls;refine Rv I2.cW a1 a2 a3 a4 hc hm hd S.nf S.sa λh' tk' hx hn hk=>?_;have hde:s2.heap.objs.size≠e:=Nat.ne_of_gt (lt_size a1);have gE:H2 s2.heap.objs.size=none:=I2.aF.fresh (Zz _);generalize hH':upd (upd H2 e (FO e C (some s2.heap.objs.size))) s2.heap.objs.size (.xd [(f,y)])=H';have lt:∀b u,H2 b=some u->b<s2.heap.objs.size:=λb u z=>I2.aF.lt z;have gH:∀b,b<s2.heap.objs.size->b≠e->H' b=H2 b:=λb hb n=>by rw[←hH',AH (ZD hb),AH n]
 have ate:H' e=some (FO e C (some s2.heap.objs.size)):=by rw[←hH',AH (Ne.symm hde),AB]
 have atd:H' s2.heap.objs.size=some (.xd [(f,y)]):=by rw[←hH',AB]
 have next:∀b u,H2 b=some u->(∀φ,u≠ .ext φ)->b≠e:=λb u z n w=>by subst w;rw[ea]at z;cases z;exact n _ rfl
 have nn:∀b,H2 b=none->b≠e:=λb z w=>by subst w;rw[ea]at z;cases z
 have un:Un X.fs [] H2 H' s2.heap h':=by
  refine⟨λb ob z n _ _=>hk b ob (nn b n) z,λb ob z n _ _=>⟨ob.slots,hk b ob (nn b n) z⟩,λb ob z n _=>by rw[gH b (lt_size z) (nn b n)];exact n,λb ob z _=>?_,λb xs z=>?_,λb ob w z=>?_,λb ps z=>⟨#[],?_⟩⟩
  ·by_cases w:b=e
   ·subst w;exact⟨_,hx⟩
   ·exact⟨ob,hk b ob w z⟩
  ·rw[gH b (lt _ _ z) (next b _ z λ_ w=>nomatch w)];exact z
  ·rw[gH b (lt _ _ z) (next b _ z λ_ w=>nomatch w)];exact z
  ·rw[gH b (lt _ _ z) (next b _ z λ_ w=>nomatch w),z];simp
 have aF:du X.prog X.w H' h':=λb w z=>by
  by_cases hb:b=s2.heap.objs.size
  ·subst hb;rw[atd]at z;cases z;refine⟨_,hn,λg=>?_⟩;by_cases hg:g=f
   ·subst hg;simp only[Zq rfl,ZA,beq_self_eq_true];exact ry
   ·have e1:(g==f)=false:=beq_eq_false_iff_ne.mpr hg;simp only[Zr hg,ZA,e1,List.lookup_nil];trivial
  by_cases hb2:b=e
  ·subst hb2;rw[ate]at z;cases z;exact⟨⟨_,vs,hx,a2,Zj,a4,a5,a6,a7⟩,⟨_,hx⟩,λh1 h2 ⟨oe,vs,a,r⟩ k=>⟨oe,vs,k _ a,r⟩⟩
  ·have z':H2 b=some w:=by rw[←hH',AH hb,AH hb2]at z;exact z
   refine(I2.aF b w z').eR (λb2 ob jM q=>hk b2 ob ?_ q) (λb2 q=>?_) λb2 xs q=>?_
   ·rcases jM with w2 |w2
    ·rw[w2];exact hb2
    ·exact next b2 _ w2 λ_ y=>nomatch y
   ·rw[gH b2 (lt _ _ q) (next b2 _ q λ_ y=>nomatch y)];exact q
   ·rw[gH b2 (lt _ _ q) (next b2 _ q λ_ y=>nomatch y)];exact q
 have I3:=I2.un (t':=tk') un aF;have q3:=q2 s2.heap.objs.size gE hde;rw[hH']at q3;exact⟨σ,H',I3,q3⟩
end
section
variable {CX:gL}{k:Nat}{f:Xd}{fd:FuncData}{ps:Xa}{sp:Sp}{d0:Xc}{ds:Xb}{E:XK}{name:Str}{np apos:Pos}{es:List Expr}{t:TA}{mc:Value}
def Md {pl:Sem Bool} (hg:Gl X x) (hm:X.mg x=some (.ref C)) (ga:W.specialIn X.K (.ref C) "__getattribute__" = some (some (.builtin "type.__getattribute__"))) (hr0:W.readsIn X.K C mc=true) (hf:W.findCls X.K (.ref C) mc name=some (.val (.ref f)))
  (F:AU X.prog X.w X.K X.mg X.base CX k f fd ps sp) (hr:aE k X.A) (hk:W.keepIn X.K (.ref f)=true) (hb:Binds X.K fd ps ds) (hd:Vals d0 ds) (hx:BN CX X E) (ha:PA X (e::es) t) (eI:(x==("__debug__" : Str))=false:=by decide)
  (he:starEach (e::es) X.env=(false,eval e X.env)::starEach es X.env:=by rfl) (hpl:(backTo pos (starEach es X.env)).any (·.1)=false:=by rfl)
  (ht:eval (.Call (.Attribute (.Name x np) name apos) (e::es) [] pos) X.env=(do
   let ov ←eval (.Name x np) X.env
   standAt apos.atName
   let (f,first) ←holding [ov] (getMethod ov name pl)
   callWith pos f first (backTo pos (starEach (e::es) X.env)) (backToKw pos (keywordEach [] X.env))):=by rfl) :
  PE X (.Call (.Attribute (.Name x np) name apos) (e::es) [] pos) (DI sp d0 E t):=by
 intro aa s σ H Q I h;refine W.methodCall_KW (pl:=pl) ?_ ht;refine Bq I hg hm ?_ eI;refine W.method_cls I.cW ga (W.cls_value I.cW hr0 hf Zj ?_);refine W.callWith_K (h₀:=X.base) I.ok.mod.kin hk (aG (ha pos aa _ σ H _ (I.tok _) h) λus s1 ⟨vs,H1,I1,r,q⟩=>⟨I1.cW,?_⟩) he hpl;exact Jc F hr hb hd hx I1 r q
end
section
variable {c:Str}{cp fp:Pos}{ck:Nat}
def Vd (c:Str) (te:TE):TE:=λσ H Q=>te σ H λx H1=>((∃i,x=.int i/\i.natAbs.log2<1920)\/(∃z,x=.str z/\z.length<=1000)\/x=.aI)/\∀z,Q (.str z) H1
def Ae (a b:Str):(a++b).length=a.length+b.length:=strLen_append a b
def Rx (hc:c.length<=1000) (he:PE X e te):PE X (.JoinedStr [.Constant (.str c) ck cp,.FormattedValue e (-1) none fp] pos) (Vd c te):=by
 intro aa s σ H Q I h;refine JoinedStr_many (joinParts_cons (Calls.Constant_str ?_));have l0:(Str.empty++c).length<=1000:=by rw[Ae];show 0+c.length<=1000;omega
 have sz:(3000:Nat)<=sizeLine:=by decide
 refine⟨Nat.le_trans l0 (Nat.le_trans qc sz),joinParts_cons ?_⟩;refine wpAny_FormattedValue_plain (aG (he aa _ σ H _ (I.tok _) h) λu s1 ⟨x,H1,I1,r,q,k⟩=>?_);rcases q with⟨i,rfl,hi⟩ |⟨z,rfl,hz⟩ |rfl
 ·obtain⟨t,rfl⟩:=r;refine PySem.wpAny_formatField_int hi ?_;have l1:(Str.ofString (toString i)).length<=1921:=by rw[PySem.ofString_length];exact int_text_length_le (k:=1920) qc hi
  have l2:((Str.empty++c)++Str.ofString (toString i)).length<=sizeLine:=by
   rw[Ae];omega
  exact⟨l2,joinParts_nil ⟨.str _,H1,(I1.tok _).tok _,⟨_,Zj⟩,k _⟩ l2⟩
 ·obtain⟨t,rfl⟩:=r
  have l2:((Str.empty++c)++z).length<=sizeLine:=by
   rw[Ae];omega
  have hz2:z.length<=sizeLine:=by omega
  exact PySem.wpAny_formatField_str ⟨l2,joinParts_nil ⟨.str _,H1,I1.tok _,⟨_,Zj⟩,k _⟩ l2⟩ ⟨l2,joinParts_nil ⟨.str _,H1,(I1.tok _).tok _,⟨_,Zj⟩,k _⟩ l2⟩ hz2
 ·obtain rfl:u=Value.none:=r
  have l2:((Str.empty++c)++("None" : Str)).length<=sizeLine:=by
   have:("None" : Str).length=4:=by decide +kernel
   rw[Ae];omega
  exact PySem.wpAny_formatField_none ⟨l2,joinParts_nil ⟨.str _,H1,(I1.tok _).tok _,⟨_,Zj⟩,k _⟩ l2⟩
end
structure Ve (K:FG) (C:Xd) (f:Str):Prop where
 hg:Ep K C
 hh:W.hasDictIn K C=true
 ha:W.findIn K (.ref C) f=some none
section
variable {e:Xd}{oe:Obj}{o:Expr}{f:Str}{ta:TE}
def QC (e:Xd) (oe:Obj) (f:Str) (ta:TE):TE:=λσ H Q=>ta σ H λx H1=>∃d fs v,x=.ref e/\oe.dict=some d/\H1 d=some (.xd fs)/\fs.lookup f=some v/\Q v H1
def Ry (p:ExcP X e oe C) (g:Ve X.K C f) (he:PE X o ta) (hb:attributeBase o f X.env (eval o X.env)=eval o X.env):PE X (.Attribute o f pos) (QC e oe f ta):=by
 intro aa s σ H Q I h;refine NT hb (aG (he aa s σ H _ I h) λu s1 ⟨x,H1,I1,rx,d,fs,v,ex,hd,hH,l,q⟩=>?_);subst ex;obtain rfl:u=Value.ref e:=rx;obtain⟨mA,hn,r⟩:=I1.aF _ _ hH;obtain⟨od,ho,hl⟩:=Ig hn;obtain⟨w,hw,il⟩:=ef.some_of (v:=v) (o:=mA f) (by rw[←l];exact r f);have hp:=(I1.pin (e,oe) (ZQ _ p.at_)).1;obtain⟨vs,hv⟩:=p.fld;have J:W.InstAt s1.heap e oe C (some od):=⟨hp,p.cls,by unfold W.notCls;rw[hv],by rw[hd];exact ho⟩;exact P7 g.hg I1.cW J (W.findObj_own g.hh g.ha Zj (by rw[hl,hw])) (Ih il) ⟨v,H1,I1.tok _,il,q⟩
end
section
variable {k:Nat}{f:Xd}{fd:FuncData}{sp:Sp}
def Oh (F:AU X.prog X.w X.K X.mg X.base aK k f fd ["self", "other"] sp) (hr:aE k X.A) (hb:Binds X.K fd ["self", "other"] []) (hm:Ls X.K C "__eq__" f) (hn:W.subIn X.K (.type "tuple") (.ref C)=some false) :
  cV X (compareOp .Eq) (λx y H Q=>∃a dx fs b xs,x=.ref a/\y=.ref b/\H a=some (.ins C dx fs)/\H b=some (.tup xs)/\T7 sp a b H Q):=by
 intro aa s σ H x y v u Q I rx ry h;obtain⟨a,dx,fs,b,xs,rfl,rfl,ha,hy,q⟩:=h;cases rx;cases ry;obtain⟨m,Fm⟩:=I.fr;obtain⟨mA,om,_⟩:=EM I.aF ha;obtain⟨od,ia,_⟩:=om.look;have run:=Px (E:=X.xe) F hr I.gq hb I q;have hu:X.A.units<cLine:=Nat.lt_of_le_of_lt (Nat.le_add_right _ 64) hr.units
 have run2:wpAny (model X.prog X.w) X.A (call (.ref f) [.ref a,.ref b]) (W.CmpBack (EP X aa σ Q)) X.xe s:=by
  refine aG run λv s' hv=>?_;obtain⟨t,rfl,q⟩:=hv;exact q
 show wpAny _ _ (richCompare .Eq (.ref a) (.ref b)) _ _ _;obtain⟨its,rv,⟨o,e,c,n,dd⟩,_⟩:=I.tuple (bH.of (K:=X.K) hy);have T:W.Looks (model X.prog X.w) s.heap (typeOf (.ref b)) (.type "tuple"):=c ▸ (W.Looks.ld e).andThen .now;exact W.cmp_K hu Fm I.mod.kin ia T (by simp[W.notFirst,hn]) hm.at_ hm.fn run2
end
structure eP (X:Cx) (e:Expr) (t:TE):Prop where
 h:PE X e t
structure PAw (X:Cx) (es:List Expr) (t:TA):Prop where
 h:PA X es t
section
variable {es:List Expr}{t:TA}
def Cd:PAw X [] B3:=⟨AC⟩
end
structure PSw (X:Cx) (st:Stmt) (t:TS):Prop where
 h:PS X st t
structure fj (X:Cx) (st:List Stmt) (t:TS):Prop where
 h:eE X st t
structure PIw (X:Cx) (tg e:Expr) (t:TI):Prop where
 h:PI X tg e t
section
variable {st:Stmt}{rest:List Stmt}{t u:TS}{tg l iter:Expr}{tl:TE}
def CL:fj X [] S0:=⟨AV⟩
def Es (a:PSw X st t) (b:fj X rest u):fj X (st::rest) (VD t u):=⟨AF a.h b.h⟩
def Ar (a:PSw X st t):fj X [st] t:=⟨AG a.h⟩
def Me (h:eP X l tl):PIw X tg l (PP X.K tl):=⟨DZ h.h⟩
def Kq {body:List Stmt}{wi:TI}{g:TG}{tb:TS} (hp:PassesOwn (model X.prog X.w) X.A X.env X.xe) (hc:X.calm=true) (hi:PIw X tg iter wi) (hg:PG X tg g) (hb:fj X body tb)
  (hs:∀x,foldedSetIterable iter X.env x=pure x:=by intro _;rfl):PSw X (.For tg iter body [] pos) (VJ wi g tb):=⟨Eg hp hc hi.h hg hb.h hs⟩
end
noncomputable def Itx (x:Str):It:=⟨λi _=>i<x.cps.size,λi H v H'=>∃p c,H p=none/\v=.ref p/\x.cps[i]?=some c/\H'=upd H p (.tup [.int i,.str ⟨#[c]⟩]),λi _=>i=x.cps.size⟩
def Mf {elts:List Expr}{k0:Nat} (x:Str) (t:Tok) (e it:Xd) (ax:e≠it) :
  KK P w K (.Tuple elts k0 pos) (Itx x) [e,it] e (λi h=>∃old,IsEnum h e it i old/\h.IsStrIter it "str_ascii_iterator" x t i) where
 mem:=by simp
 obj:=λi h st b hb=>by
  obtain⟨old,e1,o,e2,c,d⟩:=st;have f9:b=e\/b=it:=by simpa using hb
  rcases f9 with rfl |rfl
  ·exact⟨_,e1,λv z=>by cases z⟩
  ·exact⟨o,e2,λv z=>by rw[d]at z;cases z⟩
 keep:=λi h h' st k=>by
  obtain⟨old,e1,e2⟩:=st;obtain⟨o,q,r⟩:=e2;exact⟨old,k e (by simp) _ e1,o,k it (by simp) o q,r⟩
 item:=by
  intro X hP hw hK hc i aa s σ H E I hf st hg;subst hP hw hK;have hi:i<x.cps.size:=hg;obtain⟨old,s1,s2⟩:=st;obtain⟨f0,f1,f2,f3,f4,f5⟩:=hf e (by simp);obtain⟨g0,g1,g2,g3,g4,g5⟩:=hf it (by simp);have aL:e<s.heap.objs.size:=lt_size s1;have c8:it<s.heap.objs.size:=by obtain⟨o,q,_⟩:=id s2;exact lt_size q
  refine wpAny_pyNext_enum_itemD (Draws.strAscii (show X.A.in1.handled=none from I.ok.hd hc) it x t) s1 s2 hi ax (by simpa using ax) λv h' tk hv fV st2' hp hsz keep=>?_;obtain⟨c,u,hx,rfl⟩:=hv
  have I1:Inv X aa σ H { s with heap:=h',toks:=tk+1 }:=by
   refine I.step (H':=H) (g':=s.gens) (d':=s.drawn) (ch:=[e,it]) (λb hb=>?_) (λb o _ _ hb q _=>keep b o (by simp at hb;exact hb.1) (by simp at hb;exact hb.2) q) (λb o _ _ hb q _=>⟨o.slots,keep b o (by simp at hb;exact hb.1) (by simp at hb;exact hb.2) q⟩)
    (λ_ _ _ _ n=>n) (λb o hb q=>⟨o,keep b o (by simp at hb;exact hb.1) (by simp at hb;exact hb.2) q⟩) (λ_ _ q=>q) (λ_ _ _ q=>q) (λb ps q=>⟨#[],by rw[q];simp⟩) (λm hm=>?_) (λb u q=>?_) I.bare
   ·have f9:b=e\/b=it:=by simpa using hb
    rcases f9 with rfl |rfl
    ·exact⟨f3,f1,f4,f5⟩
    ·exact⟨g3,g1,g4,g5⟩
   ·obtain⟨oL,es,ep,i9,r⟩:=hm;exact⟨oL,es,ep,keep _ oL (Ne.symm f1) (Ne.symm g1) i9,r⟩
   ·have ne1:∀c v,H c=some v->c≠e/\c≠it:=λc v q=>⟨AJ q f0,AJ q g0⟩;refine(I.aF b u q).eR (λc v hc q'=>keep c v ?_ ?_ q') (λ_ q=>q) λ_ _ q=>q
    ·rcases hc with z |z
     ·rw[z];exact(ne1 b u q).1
     ·exact(ne1 c _ z).1
    ·rcases hc with z |z
     ·rw[z];exact(ne1 b u q).2
     ·exact(ne1 c _ z).2
  obtain⟨n1,n2,n3,n4,n5⟩:=I.newOk (Zz s.heap.objs.size);have I2:Inv X aa σ (upd H s.heap.objs.size (.tup [.int i,.str ⟨#[c]⟩])) { s with heap:=h',toks:=tk+1 }:=I1.track n1 n2 (.inr n3) n4 n5 ⟨by show 2<=sizeLine;decide,[.int i tk,.str ⟨#[c]⟩ u],.cons ⟨_,rfl⟩ (.cons ⟨_,rfl⟩ .nil),_,hp,rfl,_,rfl⟩;have fe:(upd H s.heap.objs.size (.tup [.int i,.str ⟨#[c]⟩])) e=none:=by rw[AH (ZD aL)];exact f0
  have fi:(upd H s.heap.objs.size (.tup [.int i,.str ⟨#[c]⟩])) it=none:=by rw[AH (ZD c8)];exact g0
  refine⟨.ref s.heap.objs.size,Zj,wpAny_letOwnedTupleGo_enum fV λh'' st'' sb=>?_⟩;refine⟨.ref s.heap.objs.size,_,I2.turned (it:=e) (t':=tk+1) (λb o hb q=>(sb.2 b hb).trans q) fe f1 f3 f4 f5,Zj,⟨_,c,n1,Zj,hx,Zj⟩,⟨_,by exact_mod_cast st'',st2'.extBut sb.extBut (Ne.symm ax)⟩,λb hb=>?_⟩;have f9:b=e\/b=it:=by simpa using hb
  rcases f9 with rfl |rfl
  ·exact fe
  ·exact fi
 done:=by
  intro X hP hw hK hc i aa s σ H E I hf st hg;subst hP hw hK;obtain rfl:i=x.cps.size:=hg;obtain⟨old,s1,s2⟩:=st;obtain⟨g0,g1,g2,g3,g4,g5⟩:=hf it (by simp);exact wpAny_pyNext_enum_endD (Draws.strAscii (show X.A.in1.handled=none from I.ok.hd hc) it x t) s1 s2 λh' eb=>⟨Zj,I.turned (t':=s.toks) (λb o hb e=>eb b o hb e) g0 g1 g3 g4 g5⟩
 self:=λ_ _ _ _ _ st h=>by
  obtain⟨old,e1,_⟩:=st;exact wpAny_pyIter_enum e1 h
def UD (tl:TA):TI:=λσ H R=>tl σ H λvs H1=>∃x,vs=[.str x]/\x.cps.all (· < 128)=true/\R (Itx x) H1
def QD {elts:List Expr}{k0:Nat}{p dr:Pos}{l:Expr}{tl:TA} (hg:Gl X "enumerate") (hm:X.mg "enumerate" = none) (hl:PA X [l] tl) (hs:starEach [l] X.env=[(false,eval l X.env)]:=by rfl) :
  PI X (.Tuple elts k0 pos) (.Call (.Name "enumerate" p) [l] [] dr) (UD tl):=by
 intro aa s σ H R I h;refine Z2 (Du (u:=.type "enumerate") I hg hm qb ?_);refine PyProof.Rows.callWith_type1 (aG (hl dr aa s σ H _ I h) λus s1 ⟨vs,H1,I1,r1,x,ev,ha,q⟩=>?_) hs rfl;subst ev;obtain⟨u,rfl,t,rfl⟩:=CI r1;refine call_enumerate_str λh' he hi hsz keep=>?_;have et:strIterType x = "str_ascii_iterator" := by unfold strIterType;rw[Zq ha]
 rw[et]at hi;refine wpAny_pyIter_enum he ?_;have I2:Inv X aa σ H1 { s1 with heap:=h' }:=I1.kept (t':=s1.toks) keep;refine⟨_,[s1.heap.objs.size+1,s1.heap.objs.size],_,_,H1,Zj,I2,Mf x t _ _ (Nat.succ_ne_self _),⟨_,he,hi⟩,λb hb=>?_,q⟩;have f9:b=s1.heap.objs.size+1\/b=s1.heap.objs.size:=by simpa using hb
 rcases f9 with rfl |rfl
 ·exact I1.gp (Nat.le_succ _) (I1.aF.fresh (Nat.le_succ _))
 ·exact I1.gp (Zz _) (I1.aF.fresh (Zz _))
def Oi {g:TG}{tb:TS}{D:Dq} (Pv:Nat->St->Hp->Prop) (h0:Pv 0 σ H)
  (hs:∀i c σ H p,x.cps.toList[i]?=some c->Pv i σ H->H p=none->g (.ref p) σ (upd H p (.tup [.int i,.str ⟨#[c]⟩])) λcK H2=>tb { D with nx:=Pv (i+1),ct:=Pv (i+1),bk:=D.nx } cK H2) (hd:∀σ H,Pv x.cps.size σ H->D.nx σ H) :
  ∃W:Nat->Nat->St->Hp->Prop,(∃m,W 0 m σ H)/\∀i m σ H,W i m σ H ->
   ((Itx x).stop i H/\D.nx σ H)\/((Itx x).go i H/\∃N:St->Hp->Prop,(∀aJ H',N aJ H'->∃m',m'<m/\W (i+1) m' aJ H')/\∀v H',(Itx x).g8 i H v H'->g v σ H' λcK H2=>tb { D with nx:=N,ct:=N,bk:=D.nx } cK H2):=by
 refine⟨λi m σ H=>m=x.cps.size - i/\i<=x.cps.size/\Pv i σ H,⟨_,Zj,Nat.zero_le _,h0⟩,?_⟩;rintro i m σ H ⟨rfl,hi,hp⟩;by_cases aL:i<x.cps.size
 ·refine .inr ⟨aL,Pv (i+1),λaJ H' q=>⟨x.cps.size - (i+1),qe,Zj,aL,q⟩,?_⟩;rintro v H' ⟨p,c,hn,rfl,hc,rfl⟩;exact hs i c σ H p (by rw[Array.getElem?_toList];exact hc) hp hn
 ·have e:i=x.cps.size:=by omega
  subst e;exact .inl ⟨Zj,hd σ H hp⟩
section
variable {prog:Program}{x y f:Xd}{ox:Obj}{od:Option Obj}
def Rz {Q:VS} (hu:A.units+1<cLine) (X:K.In s.heap) (I:W.InstAt s.heap x ox C od) (T:W.Looks (model prog w) s.heap (typeOf (.ref y)) (.type "tuple")) (hs:W.subIn K (.type "tuple") (.ref C)=some false) (hm:W.mroIn K C (.type "object")=some true)
  (hn:W.findIn K (.ref C) "__ne__" = some (some (.builtin "object.__ne__"))) (hr:W.findIn K (.ref C) "__eq__" = some (some (.ref f))) (hf:W.isFn K (.ref f)=true)
  (h:wpAny (model prog w) A.in1 (call (.ref f) [.ref x,.ref y]) (λv s'=>∃b,v=.bool b/\Q (.bool (!b)) s') E s):wpAny (model prog w) A (compareOp .NotEq (.ref x) (.ref y)) Q E s:=by
 show wpAny _ _ (richCompare .NotEq (.ref x) (.ref y)) _ _ _
 have one:wpAny (model prog w) A (tryCompare (.ref x) (cmpInfo .NotEq).2.1 (.ref y)) (λr s'=>∃v,r=some v/\Q v s') E s:=by
  unfold tryCompare;refine Zy (Jm X I hn (Kc hu X I hm hr hf (Zw h (λv s' hv=>?_) λ_ _ e=>e)));obtain⟨b,rfl,hq⟩:=hv;exact⟨b,Zj,Zx ⟨_,Zj,hq⟩⟩
 unfold richCompare;simp only[oneThing_ref];refine ZL (Zy (wpAny_cRoomFor (Nat.lt_of_succ_lt hu) ?_));refine Zy (I.type.here (Zy (T.here ?_)));split
 ·refine Zy ((W.looks_subIn X hs).here ?_);simp only[Bool.false_eq_true,if_false];refine Zy (Zw one (λr s' z=>?_) λ_ _ e=>e);obtain⟨v,rfl,hq⟩:=z;exact Zx hq
 ·refine Zy (Zx ?_);simp only[Bool.false_eq_true,if_false];refine Zy (Zw one (λr s' z=>?_) λ_ _ e=>e);obtain⟨v,rfl,hq⟩:=z;exact Zx hq
end
section
variable {k:Nat}{f:Xd}{fd:FuncData}{sp:Sp}
def Oj (F:AU X.prog X.w X.K X.mg X.base aK k f fd ["self", "other"] sp) (hr:aE (k+1) X.A) (hb:Binds X.K fd ["self", "other"] []) (hm:Ls X.K C "__eq__" f) (ht:W.subIn X.K (.type "tuple") (.ref C)=some false) (hn:W.findIn X.K (.ref C) "__ne__" = some (some (.builtin "object.__ne__"))) (ho:W.mroIn X.K C (.type "object")=some true) :
  cV X (compareOp .NotEq) (λx y H Q=>∃a dx fs b xs,x=.ref a/\y=.ref b/\H a=some (.ins C dx fs)/\H b=some (.tup xs)/\T7 sp a b H (λv H'=>∃t:Bool,v=.bl t/\Q (.bl (!t)) H')):=by
 intro aa s σ H x y v u Q I rx ry h;obtain⟨a,dx,fs,b,xs,rfl,rfl,ha,hy,q⟩:=h;cases rx;cases ry;obtain⟨mA,om,_⟩:=EM I.aF ha;obtain⟨od,ia,_⟩:=om.look;obtain⟨its,rv,⟨o,e,c,n,dd⟩,_⟩:=I.tuple (bH.of (K:=X.K) hy);have T:W.Looks (model X.prog X.w) s.heap (typeOf (.ref b)) (.type "tuple"):=c ▸ (W.Looks.ld e).andThen .now;have run:=Px (E:=X.xe) F hr.in1 I.gq.in1 hb I q;have hu:X.A.units+1<cLine:=Nat.lt_of_le_of_lt (Nat.add_le_add_left qc _) hr.units;refine Rz hu I.cW ia T ht ho hn hm.at_ hm.fn (aG run λv s' hv=>?_);obtain⟨t,rfl,v',H',I',rv,t',e,q⟩:=hv;subst e;cases rv;exact⟨t,Zj,.bl _,H',I',Zj,q⟩
end
def Wx:V->Option Int->Option Int->Hp->VK->Prop:=λx lo hi H Q=>∃z,x=.str z/\z.length<=sizeLine/\Q (.str (Txt.slice z lo hi)) H
def Nm {v:Value}{o:Option Int} (h:IsPart v o):∃l:Option (Int×Tok),v=partValue l/\o=l.map (·.1):=by
 cases h with
 |none=>exact⟨none,rfl,rfl⟩
 |int i t=>exact⟨some (i,t),rfl,rfl⟩
def F6:SlR X Wx:=by
 intro aa s σ H x v vl vu lo hi sl Q I rx hs pl pu h;obtain⟨z,rfl,hz,q⟩:=h;obtain⟨t,rfl⟩:=rx;obtain⟨l,rfl,rfl⟩:=Nm pl;obtain⟨u,rfl,rfl⟩:=Nm pu;refine⟨"str", _,F.slot_str_getitem.lookup,typeIs_str s z t,?_⟩;exact wpAny_getItem_str_slice (l:=l) (u:=u) (st:=none) hs Zj (post_val_or_str ⟨Nat.le_trans (Txt.slice_le z _ _) hz,λt' k=>⟨.str (Txt.slice z _ _),H,I.tok k,⟨t',Zj⟩,q⟩⟩)
def DA:bQ X (.type "int") (λxs H Q=>∃x n,xs=[.str x]/\x.length<=640/\intText? x=some n/\Q (.int n) H):=by
 intro aa s σ H xs us Q I r h;obtain⟨x,n,rfl,hl,hn,q⟩:=h;obtain⟨u,rfl,t,rfl⟩:=CI r;exact W.KIN.call_text hn hl ⟨.int n,H,I.tok _,⟨_,Zj⟩,q⟩
section
def R5:cV X (binaryOp .Mult) (λx y H Q=>∃(i:Str) (n:Int),x=.str i/\y=.int n/\((n=0/\Q (.str "") H)\/(n=1/\Q (.str i) H))):=by
 intro aa s σ H x y v u Q I rx ry h;obtain⟨i,n,rfl,rfl,h⟩:=h;obtain⟨t,rfl⟩:=rx;obtain⟨t',rfl⟩:=ry;rcases h with⟨rfl,q⟩ |⟨rfl,q⟩
 ·refine PySem.P.mul_str Zj (λz _=>absurd qc z) (λz _=>absurd qc z) ?_;rw[Zq qc];exact⟨qc,.str "", H,I.tok _,⟨_,Zj⟩,q⟩
 ·refine PySem.P.mul_str Zj (λ_ z=>by simp at z) (λ_ z=>by simp at z) ?_;rw[Zr qc,Zq (by simp)];exact⟨.str i,H,I,⟨_,Zj⟩,q⟩
def Jp:bQ X (.type "str") (λxs H Q=>∃x,xs=[.str x]/\Q (.str x) H):=by
 intro aa s σ H xs us Q I r h;obtain⟨x,rfl,q⟩:=h;obtain⟨u,rfl,t,rfl⟩:=CI r;exact PySem.P.str_of_str ⟨.str x,H,I,⟨_,Zj⟩,q⟩
end
structure PTw (X:Cx) (e:Expr) (t:TT):Prop where
 h:PT X e t
section
variable {a b c:Expr}{ta tb:TE}{tc:TT}{st:Stmt}{s1 s2 rest:List Stmt}{t u:TS}{es:List Expr}{ts:TA}
def Bj {i:Nat}{pos':Pos} (hN:X.N.Nodup) (hi:X.N[i]?=some x) (hx:Loc X.env.scope x) (he:eP X e te) (hs:swapsWith e (some (.Name x pos')) pos.line X.env=pure false:=by rfl) (hf:X.fn x=true\/X.env.scope.names.lookup x=some .local:=by first |exact .inl rfl |exact .inr rfl) :
  PSw X (.Assign [.Name x pos'] e pos) (Tl te (Cy i)):=⟨Ag hN hi hx he.h hs hf⟩
def EY {op:Operator}{r:R2} (ho:cV X (binaryOp op) r) (ha:eP X a ta) (hb:eP X b tb):eP X (.BinOp a op b pos) (jE r ta tb):=⟨Af ho ha.h hb.h⟩
def Jq {r:R2} (hr:IxR X r) (ha:eP X a ta) (hb:eP X b tb) (hs:NY b):eP X (.Subscript a b pos) (jE r ta tb):=⟨BJ hr ha.h hb.h hs⟩
def Cr (hc:PTw X c tc) (ha:fj X s1 t) (hb:fj X s2 u):PSw X (.If c s1 s2 pos) (VF tc t u):=⟨Ak hc.h ha.h hb.h⟩
def Vf (hc:PTw X c tc) (ha:eP X a ta) (hb:eP X b tb):eP X (.IfExp c a b pos) (tIf tc ta tb):=⟨Bz hc.h ha.h hb.h⟩
def As (he:eP X e te) (h:PAw X es ts) (hs:starEach (e::es) X.env=(false,eval e X.env)::starEach es X.env:=by rfl):PAw X (e::es) (Ab te ts):=⟨AA he.h h.h hs⟩
def Bu {CX:gL}{k:Nat}{f:Xd}{fd:FuncData}{ps:Xa}{sp:Sp}{ds:Xb}{d0:Xc}{E:XK}{p:Pos} (F:AU X.prog X.w X.K X.mg X.base CX k f fd ps sp) (hr:aE k X.A) (hg:Gl X x) (hm:X.mg x=some (.ref f)) (hk:W.keepIn X.K (.ref f)=true) (hb:Binds X.K fd ps ds) (hd:Vals d0 ds) (hx:BN CX X E)
  (ha:PAw X (e::es) ts) (eI:(x==("__debug__" : Str))=false:=by decide) (he:starEach (e::es) X.env=(false,eval e X.env)::starEach es X.env:=by rfl) (hpl:(backTo pos (starEach es X.env)).any (·.1)=false:=by rfl) :
  eP X (.Call (.Name x p) (e::es) [] pos) (DI sp d0 E ts):=⟨AM F hr hg hm hk hb hd hx ha.h eI he hpl⟩
def TC (h:PAw X es ts):eP X (.List es pos) (Tt ts):=⟨A8 h.h⟩
end
abbrev DcE:=Str×Tok×Int×Tok
def TD (P:Params) (e:DcE):DictEntry:=⟨PyData.keyHash P e.1,.str e.1 e.2.1,.int e.2.2.1 e.2.2.2⟩
noncomputable def dcObj (P:Params) (l:List DcE) (ep:Nat):Obj:=⟨.type "dict", none,.dict (l.map (TD P)).toArray ep,#[]⟩
noncomputable def gS (l:List DcE):LK:=l.map λe=>(Sum.inr e.1,.int e.2.2.1)
def Vg {bd:Xd}{l:List DcE}{ep:Nat} (e:h.get? bd=some (dcObj w.params l ep)) (nd:(l.map (·.1)).Nodup):∃vs,KV (gS l) vs/\h.DictOf (AY P w) bd vs:=by
 refine⟨l.map λe=>(Sum.inr e.1,.int e.2.2.1 e.2.2.2),?_,_,_,_,e,⟨Zj,Zj,Zj⟩,Zj,λx hx=>?_,?_,?_⟩
 ·unfold gS;clear e nd;induction l with
  |nil=>exact .nil
  |cons a r ih=>exact .cons ⟨rfl,_,rfl⟩ ih
 ·obtain⟨a,_,rfl⟩:=Zs.mp (List.mem_toArray.mp hx);exact⟨Sum.inr a.1,Dt P w _ _,Zj⟩
 ·show Pairs _ (l.map (TD w.params)).toArray.toList _;rw[toList_toArray];clear e nd;induction l with
  |nil=>exact .nil
  |cons a r ih=>exact .cons (Dt P w _ _) rfl ih
 ·rw[map_map];have:(l.map ((λx:Key×Value=>x.1) ∘ λe:DcE=>((Sum.inr e.1:Key),Value.int e.2.2.1 e.2.2.2)))=(l.map (·.1)).map (λx=>(Sum.inr x:Key)):=by rw[map_map];rfl
  rw[this];exact List.Pairwise.map _ (λa b iE z=>iE (Sum.inr.inj z)) nd
def Mg {mb:SV}{CX:gL}{k:Nat}{fa c P0 bd:Xd}{l:List DcE}{ep:Nat}{fd:FuncData}{sp:Sp}{aH:Xe}{vs:Xb}{ns:List Int}
  (KX:K.In aH.heap) (jI:aH.heap.Ns mainGlobals mg) (hb:aH.heap.Ns builtinsNs mb) (hbb:∀x:Str,x≠ "__name__" -> mb x=bootBuiltins x) (hlim:aH.heap.NoLimit) (hg:aH.gens=#[])
  (ha:aH.heap.get? a=some { cls:=.type "list", data:=.seq vs.toArray }) (hi:IntsAre vs ns) (hl:ns.length<=sizeLine) (hr:aE k callerA)
  (hP:aH.heap.get? P0=some (W.tabObj #[])) (hKP:K.lookup P0=none) (hC:W.CodeHd aH.heap c P0) (hB:aH.heap.BuiltinsAt mg P0)
  (hD:aH.heap.get? bd=some (dcObj w.params l ep)) (hKD:K.lookup bd=none) (hb5:5<=bd) (hdl:l.length<=1000) (gE:(l.map (·.1)).Nodup)
  (F:∀base:Heap,K.In base->base.Ns mainGlobals mg->W.CodeHd base c P0->base.BuiltinsAt mg P0->AU P w K mg base CX k fa fd [x] sp) (bp:∀(s:Xe) (u:Value),BindsTo s fd ⟨[u],[]⟩ [(x,u)])
  (gP:∀H:Hp,H P0=some (.fb #[])->Rd H bd (.dK (gS l))->aN K H a (ns.map V.int)->sp [.ref a] H (λv _=>v=.bl true) λ_ _ _=>False)
  (hCX:∀H e s',CX [] H aH (λ_ _ _=>False) e s'->False) :
  codeAny (model P w) callerA (.call (.ref fa) ⟨[.ref a],[]⟩) (λr s'=>r=.ok (.ret (.bool true))/\OldK aH.heap s'.heap/\s'.os=aH.os/\AllBare s'.gens) aH:=by
 have rv:=F1 hi;have lenV:=hi.length;have haP:a≠P0:=λz=>by subst z;rw[ha]at hP;cases hP
 have iE:a≠bd:=λz=>by subst z;rw[ha]at hD;cases congrArg Obj.data (Option.some.inj hD)
 have hPb:P0≠bd:=λz=>by subst z;rw[hP]at hD;cases congrArg Obj.data (Option.some.inj hD)
 have okD:∀H:Hp,aQ P w H aH.heap bd (.cZ (dcObj w.params l ep) (.dK (gS l))):=λH=>⟨hD,by unfold gS;rw[AS];exact Nat.le_of_lt (AK hdl),by
  cases q:(bd==sysModules)with
  |false=>rfl
  |true =>
   rw[beq_iff_eq.mp q]at hb5
   exact absurd hb5 qc,Vg hD gE⟩
 have core:∀H:Hp,(∀b,H b=none\/(∃o u,H b=some (.cZ o u))\/b=P0)->H P0=some (.fb #[])->H bd=some (.cZ (dcObj w.params l ep) (.dK (gS l)))->aN K H a (ns.map V.int)->du P w H aH.heap->(∀b,H b≠none->b=a\/b=P0\/b=bd)->(H a≠none->K.lookup a=none)->(∀b o u,H b=some (.cZ o u)->aH.heap.get? b=some o) ->
   (∀(H':Hp) (s':Xe) (b:Xd) (o:Obj) (u:HO),H b=some (.cZ o u)->du P w H' s'.heap->H' b=some (.cZ o u)->s'.heap.get? b=some o) ->
   codeAny (model P w) callerA (.call (.ref fa) ⟨[.ref a],[]⟩) (λr s'=>r=.ok (.ret (.bool true))/\OldK aH.heap s'.heap/\s'.os=aH.os/\AllBare s'.gens) aH:=by
  intro H hO hHP hHD hS aF hA hK jJ hfz';have base_of:∀ {b:Xd}{o:Obj},aH.heap.get? b=some o->H b=none->(HH aH.heap H).get? b=some o:=λe n=>PF e n
  have noS:∀ {b:Xd}{o:Obj},aH.heap.get? b=some o->(∀xs n,o.data≠ .seq xs n)->(∀es n,o.data≠ .dict es n)->o.cls≠ .none->H b=none:=λ{b o} e d1 d3 d2=>by
   cases q:H b with
   |none=>rfl
   |some u =>
    rcases hA b (by rw[q];simp)with e' |e' |e'
    ·subst e';rw[ha]at e;cases e;exact absurd Zj (d1 _ _)
    ·subst e';rw[hP]at e;cases e;exact absurd Zj d2
    ·subst e';rw[hD]at e;cases e;exact absurd Zj (d3 _ _)
  have jl:∀ {b:Xd}{o:Obj}{es:Array DictEntry}{ep:Nat},b<5->aH.heap.get? b=some o->o.data=.dict es ep->H b=none:=λ{b o es ep} hb e d=>by
   cases q:H b with
   |none=>rfl
   |some u =>
    rcases hA b (by rw[q];simp)with e' |e' |e'
    ·subst e';rw[ha]at e;cases e;cases (show Data.seq vs.toArray _=Data.dict es ep from d)
    ·subst e';rw[hP]at e;cases e;cases (show Data.fields #[]=Data.dict es ep from d)
    ·subst e';exact absurd hb (Nat.not_lt.mpr hb5)
  have nsK:∀ {b:Xd}{m:SV},b<5->aH.heap.Ns b m->(HH aH.heap H).Ns b m:=λ{b m} hb ⟨o,es,ep,e,d,r⟩=>⟨o,es,ep,base_of e (jl hb e d),d,r⟩
  have hKb:K.In (HH aH.heap H):=λb o e=>base_of (KX b o e) (by
   cases q:H b with
   |none=>rfl
   |some u =>
    rcases hA b (by rw[q];simp)with e' |e' |e'
    ·subst e';rw[hK (by rw[q];simp)]at e;cases e
    ·subst e';rw[hKP]at e;cases e
    ·subst e'
     rw[hKD]at e;cases e)
  have hM:Mod K mg (HH aH.heap H):=⟨hKb,nsK qc jI,⟨mb,nsK qc hb,hbb⟩,let ⟨mc,h1,h2⟩:=hlim;⟨mc,nsK qc h1,h2⟩⟩
  have hCb:W.CodeHd (HH aH.heap H) c P0:=by
   obtain⟨o,vs',file,tf,flags,tg,inF,text,tt,e,af,hda,r⟩:=id hC;exact⟨o,vs',file,tf,flags,tg,inF,text,tt,base_of e (noS e (λxs n z=>by rw[hda]at z;cases z) (λxs n z=>by rw[hda]at z;cases z) (by rw[af];exact λz=>nomatch z)),af,hda,r⟩
  have hBb:(HH aH.heap H).BuiltinsAt mg P0:=by
   obtain⟨bm,o,a1,a2,a3,a4,a5,a6,a7,a8⟩:=id hB;exact⟨bm,o,a1,a2,a3,a4,base_of a5 (noS a5 (λxs n z=>by rw[a8]at z;cases z) (λxs n z=>by rw[a8]at z;cases z) (by rw[a6];exact λz=>nomatch z)),a6,a7,a8⟩
  have e0:eh P w K mg (HH aH.heap H) callerA [] aH H:=⟨rfl,hM,λb o e=>RF e,Nat.le_of_eq (OH _ _),trivial,λb hb=>absurd (show b∈([]:List Xd)from hb) (by simp),aF,.of_eq hg⟩;refine codeAny_mono ((F _ hKb (nsK qc jI) hCb hBb).run callerA [] aH H ⟨[.ref a],[]⟩ [.ref a] [.ref a] _ _ hr e0 (bp aH (.ref a)) (.cons rfl .nil) (gP H hHP (.inr ⟨_,hHD⟩) hS)) λr s' h=>?_;cases r with
  |error e=>exact(hCX H e s' h).elim
  |ok fl =>
   cases fl with
   |next=>exact False.elim h
   |brk=>exact False.elim h
   |cont=>exact False.elim h
   |ret u =>
    obtain⟨v,H',os,bare,un,fY,r',q⟩:=h;have q':v=.bl true:=q;subst q';obtain rfl:u=Value.bool true:=r'
    have tabNow:∃more,s'.heap.get? P0=some (W.tabObj (#[]++more)):=by
     obtain⟨more,e⟩:=un.eQ P0 #[] hHP;exact⟨more,fY _ _ e⟩
    have rest:∀b o,b≠P0->aH.heap.get? b=some o->s'.heap.get? b=some o:=λb o hb e=>by
     cases q:H b with
     |none=>exact un.keep b o e q (by intro z;exact absurd (show b∈([]:List Xd)from z) (by simp)) (by simp)
     |some u =>
      rcases hO b with z |⟨ob,xs,z⟩ |z
      ·rw[q]at z;cases z
      ·have z2:=un.eU b ob _ z;have e1:=jJ b ob _ z;rw[e]at e1;cases e1;exact hfz' H' s' b o xs z fY z2
      ·exact absurd z hb
    refine⟨Zj,⟨λb o e=>?_,λb o e=>?_⟩,os,bare⟩
    ·by_cases hb:b=P0
     ·subst hb;rw[hP]at e;cases e;obtain⟨more,e2⟩:=tabNow;exact .inr (.inl ⟨(hC.tab hP).isCodeTable,Zj,#[],more,Zj,e2⟩)
     ·exact .inl (rest b o hb e)
    ·by_cases hb:b=P0
     ·subst hb;obtain⟨more,e2⟩:=tabNow;exact⟨_,e2⟩
     ·exact⟨o,rest b o hb e⟩
 have fzD:∀(H':Hp) (s':Xe),du P w H' s'.heap->H' bd=some (.cZ (dcObj w.params l ep) (.dK (gS l)))->s'.heap.get? bd=some (dcObj w.params l ep):=λH' s' fY z=>by
  obtain⟨e1,_⟩:=fY bd _ z;exact e1
 have fzL:∀(H':Hp) (s':Xe),du P w H' s'.heap->H' a=some (.cZ { cls:=.type "list", data:=.seq vs.toArray } (.lst (ns.map V.int)))->s'.heap.get? a=some { cls:=.type "list", data:=.seq vs.toArray }:=λH' s' fY z=>by
  obtain⟨e1,_⟩:=fY a _ z;exact e1
 cases hk:K.lookup a with
 |some o =>
  have e:=KX a o hk;rw[ha]at e;cases e
  have cs:∀b u,(if b=P0 then some (HO.fb #[])else if b=bd then some (.cZ (dcObj w.params l ep) (.dK (gS l)))else none)=some u->(b=P0/\u=.fb #[])\/(b=bd/\u=.cZ (dcObj w.params l ep) (.dK (gS l))):=λb u z=>by
   by_cases h1:b=P0
   ·rw[Zq h1]at z;exact .inl ⟨h1,(Option.some.inj z).symm⟩
   ·rw[Zr h1]at z;by_cases h2:b=bd
    ·rw[Zq h2]at z;exact .inr ⟨h2,(Option.some.inj z).symm⟩
    ·rw[Zr h2]at z;cases z
  refine core (λb=>if b=P0 then some (.fb #[])else if b=bd then some (.cZ (dcObj w.params l ep) (.dK (gS l)))else none) (λb=>?_) (Zq Zj) ((Zr (Ne.symm hPb)).trans (Zq Zj)) (.inr ⟨_,vs.toArray,_,hk,Zj,Zj,Zj,by rw[size_toArray,lenV];exact hl,by simpa using rv⟩) (λb u z=>?_) (λb z=>?_) (λz=>absurd ((Zr haP).trans (Zr iE)) z) (λb o u z=>?_) (λH' s' b o u z fY z'=>?_)
  ·by_cases h1:b=P0
   ·exact .inr (.inr h1)
   ·by_cases h2:b=bd
    ·exact .inr (.inl ⟨_,_,(Zr h1).trans (Zq h2)⟩)
    ·exact .inl ((Zr h1).trans (Zr h2))
  ·rcases cs b u z with⟨rfl,rfl⟩ |⟨rfl,rfl⟩
   ·exact hP
   ·exact okD _
  ·cases q:(if b=P0 then some (HO.fb #[])else if b=bd then some (.cZ (dcObj w.params l ep) (.dK (gS l)))else none)with
   |none=>exact absurd q z
   |some u =>
    rcases cs b u q with⟨h,_⟩ |⟨h,_⟩
    ·exact .inr (.inl h)
    ·exact .inr (.inr h)
  ·rcases cs b _ z with⟨rfl,h⟩ |⟨rfl,h⟩
   ·cases h
   ·cases h;exact hD
  ·rcases cs b _ z with⟨rfl,h⟩ |⟨rfl,h⟩
   ·cases h
   ·cases h;exact fzD H' s' fY z'
 |none =>
  have cs:∀b u,(if b=P0 then some (HO.fb #[])else if b=bd then some (.cZ (dcObj w.params l ep) (.dK (gS l)))else if b=a then some (.cZ { cls:=.type "list", data:=.seq vs.toArray } (.lst (ns.map V.int)))else none)=some u->(b=P0/\u=.fb #[])\/(b=bd/\u=.cZ (dcObj w.params l ep) (.dK (gS l)))\/(b=a/\u=.cZ { cls:=.type "list", data:=.seq vs.toArray } (.lst (ns.map V.int))):=λb u z=>by
   by_cases h1:b=P0
   ·rw[Zq h1]at z;exact .inl ⟨h1,(Option.some.inj z).symm⟩
   ·rw[Zr h1]at z;by_cases h2:b=bd
    ·rw[Zq h2]at z;exact .inr (.inl ⟨h2,(Option.some.inj z).symm⟩)
    ·rw[Zr h2]at z;by_cases h3:b=a
     ·rw[Zq h3]at z;exact .inr (.inr ⟨h3,(Option.some.inj z).symm⟩)
     ·rw[Zr h3]at z;cases z
  refine core (λb=>if b=P0 then some (.fb #[])else if b=bd then some (.cZ (dcObj w.params l ep) (.dK (gS l)))else if b=a then some (.cZ { cls:=.type "list", data:=.seq vs.toArray } (.lst (ns.map V.int)))else none) (λb=>?_) (Zq Zj) ((Zr (Ne.symm hPb)).trans (Zq Zj)) (.inl (.inr ⟨{ cls:=.type "list", data:=.seq vs.toArray },(Zr haP).trans ((Zr iE).trans (Zq Zj))⟩)) (λb u z=>?_) (λb z=>?_) (λ_=>hk) (λb o u z=>?_) (λH' s' b o u z fY z'=>?_)
  ·by_cases h1:b=P0
   ·exact .inr (.inr h1)
   ·by_cases h2:b=bd
    ·exact .inr (.inl ⟨_,_,(Zr h1).trans (Zq h2)⟩)
    ·by_cases h3:b=a
     ·exact .inr (.inl ⟨_,_,(Zr h1).trans ((Zr h2).trans (Zq h3))⟩)
     ·exact .inl ((Zr h1).trans ((Zr h2).trans (Zr h3)))
  ·rcases cs b u z with⟨rfl,rfl⟩ |⟨rfl,rfl⟩ |⟨rfl,rfl⟩
   ·exact hP
   ·exact okD _
   ·exact⟨ha,by rw[AS];exact hl,vs,_,rv,ha⟩
  ·cases q:(if b=P0 then some (HO.fb #[])else if b=bd then some (.cZ (dcObj w.params l ep) (.dK (gS l)))else if b=a then some (.cZ { cls:=.type "list", data:=.seq vs.toArray } (.lst (ns.map V.int)))else none)with
   |none=>exact absurd q z
   |some u =>
    rcases cs b u q with⟨h,_⟩ |⟨h,_⟩ |⟨h,_⟩
    ·exact .inr (.inl h)
    ·exact .inr (.inr h)
    ·exact .inl h
  ·rcases cs b _ z with⟨rfl,h⟩ |⟨rfl,h⟩ |⟨rfl,h⟩
   ·cases h
   ·cases h;exact hD
   ·cases h;exact ha
  ·rcases cs b _ z with⟨rfl,h⟩ |⟨rfl,h⟩ |⟨rfl,h⟩
   ·cases h
   ·cases h;exact fzD H' s' fY z'
   ·cases h;exact fzL H' s' fY z'
def Ol {l:W.OpenLaw}{n k:Nat}{q:Program}{loose:Xa}{XP:(Str->Option Value)->Heap->Prop}{YP:World->Heap->Prop}{d:DefRec}{K:Params->FG}{CX:World->gL}{sp:World->Sp}{c P0 bd:Xd}{dl:List DcE}{ep:Nat}
  (hn:l.most=some n) (hn2:n<=sizeLine) (hdf:d.params.defaults=[]) (hr:aE k callerA) (hb5:5<=bd) (hdl:dl.length<=1000) (gE:(dl.map (·.1)).Nodup)
  (hY:∀(w:World) (h:Heap),YP w h->(K w.params).In h/\h.get? P0=some (W.tabObj #[])/\(K w.params).lookup P0=none/\W.CodeHd h c P0/\h.get? bd=some (dcObj w.params dl ep)/\(K w.params).lookup bd=none)
  (F:∀(w:World) (mg:SV) (fa:Xd) (h:Heap),(K w.params).In h->h.Ns mainGlobals mg->mg d.name=some (.ref fa) ->
   ∃fd:FuncData,(∀(s:Xe) (u:Value),BindsTo s fd ⟨[u],[]⟩ [(x,u)]) /\
    ∀base:Heap,(K w.params).In base->base.Ns mainGlobals mg->W.CodeHd base c P0->base.BuiltinsAt mg P0->AU l.prog w (K w.params) mg base (CX w) k fa fd [x] (sp w))
  (gP:∀(w:World) (H:Hp) (a:Xd) (ns:List Int),ns.length<=n->H P0=some (.fb #[])->Rd H bd (.dK (gS dl))->aN (K w.params) H a (ns.map V.int)->sp w [.ref a] H (λv _=>v=.bl true) λ_ _ _=>False)
  (hCX:∀(w:World) (H:Hp) (s:Xe) (e:Value) (s':Xe),CX w [] H s (λ_ _ _=>False) e s'->False) :
  W.WalkO q loose XP YP l.row.toRowW d [] (λf vs=>PySem.call f vs):=by
 refine Att.attach_call hn hdf λw aX aH mg mb fa o pm cd doc a vs ns G Y ho hd fh hmg cw bx ba hg=>?_;obtain⟨KX,hP,hKP,hC,hD,hKD⟩:=hY w _ Y;obtain⟨fd,hb,hF⟩:=F w mg fa _ KX G.T.g hmg
 have hB:aH.heap.BuiltinsAt mg P0:=by
  obtain⟨bm,ob,b1,b2,b3,b4,b5,b6⟩:=G.T.bmain;refine⟨bm,ob,b1,b2,λz=>?_,λz=>?_,b3,b4,b5,b6⟩
  ·obtain⟨o',es,ep,e,hd',_⟩:=G.T.g;rw[z,e]at b3;cases b3;rw[hd']at b6;cases b6
  ·rw[z,hP]at b3;cases b3;cases b4
 exact Mg KX G.T.g G.T.b G.T.builtins G.T.nolimit hg cw bx (Nat.le_trans ba hn2) hr hP hKP hC hB hD hKD hb5 hdl gE hF hb (λH hH hR hS=>gP w H a ns ba hH hR hS) λH e s'=>hCX w H aH e s'
def FU (xs:Array Nat):Prop:=∀i j (hi:i<xs.size) (hj:j<xs.size),i<j->xs[i]<xs[j]
structure BlS (xs:Array Nat) (j k:Nat):Prop where
 le:k<=xs.size
 lo:∀i (h:i<xs.size),i<k->xs[i]<j
 hi:∀i (h:i<xs.size),k<=i->j<=xs[i]
def Hk {xs:Array Nat} (hs:FU xs) (j:Nat):∀(fuel lo hi:Nat),lo<=hi->hi<=xs.size->hi - lo<=fuel->(∀i (h:i<xs.size),i<lo->xs[i]<j)->(∀i (h:i<xs.size),hi<=i->j<=xs[i])->BlS xs j (SetTable.below.go xs j fuel lo hi)
 |0,lo,hi,h1,h2,h3,h4,h5=>by
  rw[SetTable.below.go];have e:lo=hi:=by omega
  subst e;exact⟨h2,h4,h5⟩
 |fuel+1,lo,hi,h1,h2,h3,h4,h5=>by
  rw[SetTable.below.go];by_cases aL:lo<hi
  ·rw[Zq aL];have hm:(lo+hi) / 2<xs.size:=by omega
   have eg:xs.getD ((lo+hi) / 2) j=xs[(lo+hi) / 2]:=by
    rw[Array.getD_eq_getD_getElem?,Array.getElem?_eq_getElem hm];rfl
   show BlS xs j (if xs.getD ((lo+hi) / 2) j<j then _ else _);rw[eg];by_cases hc:xs[(lo+hi) / 2]<j
   ·rw[Zq hc];refine Hk hs j fuel _ _ qe h2 qe (λi hi' hl=>?_) h5;by_cases e:i=(lo+hi) / 2
    ·subst e;exact hc
    ·exact Nat.lt_trans (hs i ((lo+hi) / 2) hi' hm qe) hc
   ·rw[Zr hc];refine Hk hs j fuel _ _ qe qe qe h4 (λi hi' hl=>?_);by_cases e:i=(lo+hi) / 2
    ·subst e;omega
    ·have:=hs ((lo+hi) / 2) i hm hi' qe;omega
  ·rw[Zr aL];have e:lo=hi:=by omega
   subst e;exact⟨h2,h4,h5⟩
def FV {xs:Array Nat} (hs:FU xs) (j:Nat):BlS xs j (SetTable.below xs j):=by
 unfold SetTable.below;exact Hk hs j xs.size 0 xs.size (Nat.zero_le _) (Zz _) qe (λi _ h=>absurd h (Nat.not_lt_zero _)) (λi h h'=>absurd h qe)
def UE {xs:Array Nat} (hs:FU xs) {j:Nat} (h:SetTable.has xs j=false):∀i (h:i<xs.size),xs[i]≠j:=by
 intro i hi e;have B:=FV hs j;unfold SetTable.has at h
 have hk:SetTable.below xs j=i:=by
  rcases Nat.lt_trichotomy (SetTable.below xs j) i with z |z |z
  ·have h1:=B.hi _ qe (Zz (SetTable.below xs j));have h2:=hs (SetTable.below xs j) i qe hi z;omega
  ·exact z
  ·have:=B.lo i hi z;omega
 rw[hk,Array.getElem?_eq_getElem hi,e]at h;simp at h
def IT {α:Type} (xs:Array α) (p:Nat) (x:α):(SetTable.insertAt xs p x).toList=xs.toList.take p++x::xs.toList.drop p:=by
 unfold SetTable.insertAt;rw[Array.toList_append,Array.toList_push,Array.toList_extract,Array.toList_extract];simp[List.extract_eq_drop_take];exact take_of_length_le (by simp)
def QE (l:List Nat):Prop:=l.Pairwise (· < ·)
def Kr {xs:Array Nat}:FU xs ↔ QE xs.toList:=by
 unfold QE;rw[List.pairwise_iff_getElem];constructor
 ·intro h i j hi hj hij;exact h i j (by simpa using hi) (by simpa using hj) hij
 ·intro h i j hi hj hij;exact h i j (by simpa using hi) (by simpa using hj) hij
def Ks {xs:Array Nat} (hs:FU xs) {j:Nat} (hn:∀i (h:i<xs.size),xs[i]≠j):FU (SetTable.insertAt xs (SetTable.below xs j) j):=by
 have B:=FV hs j;rw[Kr]at hs ⊢;rw[IT];generalize SetTable.below xs j=k at B;unfold QE at hs ⊢;have hd:=hs;rw[←List.take_append_drop k xs.toList,List.pairwise_append]at hd;obtain⟨h1,h2,h3⟩:=hd;rw[List.pairwise_append,List.pairwise_cons];refine⟨h1,⟨λy hy=>?_,h2⟩,λa ha b hb=>?_⟩
 ·obtain⟨i,hi,rfl⟩:=List.getElem_of_mem hy;rw[length_drop]at hi;have hsz:k+i<xs.size:=by have:xs.toList.length=xs.size:=Array.length_toList;omega
  rw[List.getElem_drop];have:=B.hi (k+i) hsz qe;have ne:=hn (k+i) hsz;simp only[Array.getElem_toList];omega
 ·have haj:a<j:=by
   obtain⟨i,hi,rfl⟩:=List.getElem_of_mem ha;rw[ZB]at hi;have hsz:i<xs.size:=by have:xs.toList.length=xs.size:=Array.length_toList;omega
   rw[List.getElem_take];have:=B.lo i hsz qe;simpa using this
  rcases mem_cons.mp hb with rfl |hb
  ·exact haj
  ·exact h3 a ha b hb
def Mh (n:Nat):FU (Array.range n):=λi j hi hj h=>by simpa using h
structure FW (t:SetTable) (n:Nat):Prop where
 fits:t.fits n=true
 rise:FU t.place
 nod:t.dummies=#[]
def R6 {t:SetTable}{j:Nat} (h:t.slot j=.empty) (hs:FU t.place):∀i (h:i<t.place.size),t.place[i]≠j:=by
 refine UE hs ?_;unfold SetTable.slot at h;unfold SetTable.has;cases e:(t.place[SetTable.below t.place j]?==some j)with
 |false=>rfl
 |true =>
  simp only[e,if_true]at h;cases h
def Kt (j:Nat):SetTable.has #[] j=false:=by
 unfold SetTable.has;simp
def Mi {t:SetTable}{j:Nat} (hd:t.dummies=#[]):t.slot j≠ .dummy:=by
 unfold SetTable.slot;rw[hd,Kt];intro h;simp only[Bool.false_eq_true,if_false]at h;split at h <;> cases h
def Om (t:SetTable) (p:SetTable.Probe):(t.advance p).dummy=p.dummy:=by
 unfold SetTable.advance;split <;> rfl
def Ku {t:SetTable}{hashAt:Nat->Int}{h:Int} (hd:t.dummies=#[]):∀(fuel:Nat) (p:SetTable.Probe) {j:Nat}{d:Option Nat},p.dummy=none->SetTable.probe.go t hashAt h fuel p=some (.empty j d)->d=none/\t.slot j=.empty
 |0,p,j,d,hp,e=>by rw[SetTable.probe.go]at e;cases e
 |fuel+1,p,j,d,hp,e=>by
  rw[SetTable.probe.go]at e;cases hs:t.slot p.j with
  |empty =>
   rw[hs]at e;cases e;exact⟨hp,hs⟩
  |dummy=>exact absurd hs (Mi hd)
  |live i =>
   rw[hs]at e;simp only at e;split at e
   ·cases e
   ·exact Ku hd fuel _ (by rw[Om];exact hp) e
def R7 {t:SetTable}{h:Int}{j:Nat}{wd:Bool} (hs:FU t.place) (hd:t.dummies=#[]) (e:t.freeSlot h=some (j,wd)):(∀i (h:i<t.place.size),t.place[i]≠j)/\wd=false:=by
 unfold SetTable.freeSlot at e;cases q:t.probe (λ_=>h+1) h (t.probeStart h)with
 |none=>rw[q]at e;cases e
 |some m =>
  rw[q]at e;cases m with
  |candidate a b c=>cases e
  |empty a b =>
   unfold SetTable.probe at q;obtain⟨rfl,h2⟩:=Ku hd _ _ rfl q;cases e;exact⟨R6 h2 hs,Zj⟩
def FX (t:SetTable) (n:Nat):FW (t.standIn n) n/\(t.standIn n).led=t.led:=⟨⟨SetTable.standIn_fits t n,Mh n,rfl⟩,rfl⟩
def Mj {t:SetTable} (n:Nat) (hs:FU t.place) (hd:t.dummies=#[]):FW (t.orStandIn n) n/\(t.orStandIn n).led=t.led:=by
 unfold SetTable.orStandIn;split
 ·rename_i h;exact⟨⟨h,hs,hd⟩,Zj⟩
 ·exact FX t n
def On {t:SetTable}{es:Array (Int×Value)} (h:Int) (x:Value) (T:FW t es.size):FW (layNew t es h x).2.1 (layNew t es h x).1.size/\(layNew t es h x).2.1.led=t.led:=by
 unfold layNew;cases e:t.freeSlot h with
 |none =>
  have:=FX t (es.size+1);simpa using this
 |some q =>
  obtain⟨j,wd⟩:=q;obtain⟨h1,_⟩:=R7 T.rise T.nod e;have hr:=Ks T.rise h1
  exact Mj (t:=(t.put j).1) _ hr (by
   show(if SetTable.has t.dummies j=true then _ else t.dummies)=#[];rw[T.nod,Kt]
   rfl)
def Oo (f:Nat->Option Nat) (n:Nat):FU (((List.range n).filterMap λj=>(f j).map λx=>(j,x)).map (·.1)).toArray:=by
 rw[Kr];show List.Pairwise _ _;rw[toList_toArray,List.pairwise_map,List.pairwise_filterMap];refine List.Pairwise.imp ?_ (List.pairwise_lt_range (n:=n));intro a b iE p hp q hq;obtain⟨x,_,rfl⟩:=Z6.mp hp;obtain⟨y,_,rfl⟩:=Z6.mp hq;exact iE
def Kv {t:SetTable}{es:Array (Int×Value)} (n:Nat) (T:FW t es.size):FW (relayAll t es n).2.1 (relayAll t es n).1.size/\(relayAll t es n).2.1.led=t.led:=by
 unfold relayAll;cases e:t.relaid (es.map (·.1)) n with
 |none=>exact FX t es.size
 |some q =>
  obtain⟨t',order⟩:=q;simp only;split
  ·rename_i h;rw[Bool.and_eq_true]at h;unfold SetTable.relaid SetTable.laid at e;obtain⟨owner,_,e2⟩:=Option.bind_eq_some_iff.mp e;cases e2;exact⟨⟨h.2,Oo (λj=>owner.getD j none) _,Zj⟩,Zj⟩
  ·exact FX t es.size
def QF {t:SetTable}{n:Nat} (b:Bool) (T:FW t n):FW { t with plain:=b } n:=⟨T.fits,T.rise,T.nod⟩
def QG (a b:Nat) (led:Bool):FW (SetTable.fresh a b led) 0:=⟨by rfl,λi j hi _ _=>absurd hi (Nat.not_lt_zero _),rfl⟩
section
variable {prog:Program}{K:Type} [DecidableEq K]
structure jD (knd:KeyKind prog w K) (k:K) (e:Int×Value):Prop where
 is:knd.is k e.2=true
 hs:e.1=knd.hash k
 sc:e.2.scannable=true
def dh (knd:KeyKind prog w K) (h:Heap) (a:Xd) (ks:List K) (led:Bool):Prop :=
 ∃(o:Obj) (ar:Array (Int×Value)) (ep:Nat) (t:SetTable) (fq:List K),h.get? a=some o/\o.ExactSet/\o.data=.set ar ep t/\FW t ar.size/\t.led=led/\fq.Perm ks/\Paired (jD knd) fq ar.toList/\ar.size<scanBound
def Op {knd:KeyKind prog w K}{ks:List K}{es:List (Int×Value)} (h:Paired (jD knd) ks es):ElemsOf knd es:=by
 induction h with
 |nil=>intro e he;cases he
 |cons r t ih =>
  intro e he;rcases mem_cons.mp he with rfl |he
  ·exact⟨⟨_,r.is,r.hs⟩,r.sc⟩
  ·exact ih e he
def Kw {knd:KeyKind prog w K}{k:K}:∀ {ks:List K}{es:List (Int×Value)},Paired (jD knd) ks es->(es.findIdx? (λe=>knd.is k e.2)).isSome=decide (k∈ks)
 |_,_,.nil=>rfl
 |k'::ks,e::es,.cons r t=>by
  rw[List.findIdx?_cons]
  have hk:knd.is k e.2=decide (k=k'):=by
   cases q:knd.is k e.2 with
   |true=>rw[knd.inj _ _ _ q r.is,ZM rfl]
   |false =>
    symm
    refine ZP λz=>?_;rw[z,r.is]at q;cases q
  rw[hk];by_cases z:k=k'
  ·rw[ZM z,Zq rfl,z];simp
  ·rw[ZP z,Zr qc];have:=Kw (knd:=knd) (k:=k) t;simp only[Option.isSome_map,this,mem_cons,z,false_or]
def Kx {knd:KeyKind prog w K}{es jd:List (Int×Value)} (p:jd.Perm es):∀ {ks:List K},Paired (jD knd) ks es->∃fq,fq.Perm ks/\Paired (jD knd) fq jd:=by
 induction p with
 |nil=>intro ks h;exact⟨ks,List.Perm.refl _,h⟩
 |cons x p ih =>
  intro ks h;cases h with
  |cons r t =>
   obtain⟨fq,p',h'⟩:=ih t;exact⟨_::fq,p'.cons _,.cons r h'⟩
 |swap x y l =>
  intro ks h;cases h with
  |cons r t =>
   cases t with
   |cons r2 t=>exact⟨_::_::_,List.Perm.swap ..,.cons r2 (.cons r t)⟩
 |trans p1 p2 ih1 ih2 =>
  intro ks h;obtain⟨k1,q1,h1⟩:=ih2 h;obtain⟨k2,q2,h2⟩:=ih1 h1;exact⟨k2,q2.trans q1,h2⟩
def dh.put {knd:KeyKind prog w K}{o:Obj}{ar:Array (Int×Value)}{ep:Nat}{t:SetTable} (e:h.get? a=some o) (x:o.ExactSet) (d:o.data=.set ar ep t) {jR:Array (Int×Value)}{t':SetTable}{ks fq:List K}{led:Bool}
  (T:FW t' jR.size) (hl:t'.led=led) (p:fq.Perm ks) (pr:Paired (jD knd) fq jR.toList) (hs:jR.size<scanBound):dh knd (h.update a (Obj.putSet jR t')) a ks led:=by
 refine⟨_,jR,ep+1,t',fq,ZT _ e (by rw[putSet_of jR t' d];rfl),?_,?_,T,hl,p,pr,hs⟩
 ·rw[putSet_of jR t' d];exact⟨x.1,x.2.1,x.2.2⟩
 ·rw[putSet_of jR t' d]
def Wy {knd:KeyKind prog w K}{ks:List K}{led:Bool}{k:K}{x:Value}{Q:Bool->Xe->Prop} (hx:knd.is k x=true) (hsc:x.scannable=true) (hS:dh knd s.heap a ks led) (hn:ks.length+1<scanBound)
  (h1:k∈ks->Q false s) (h2:k∉ ks->∀h',Heap.SameBut a s.heap h'->dh knd h' a (k::ks) led->Q true { s with heap:=h' }):wpAny (model prog w) A (setAddHashed a x (knd.hash k)) Q E s:=by
 obtain⟨o,ar,ep,t,fq,e,xs,d,T,hl,p,pr,hs⟩:=hS;have el:=Op pr
 have ba:ar.size=ks.length:=by
  have:=pr.length;rw[←p.length_eq,this];simp
 unfold setAddHashed;refine ZL ?_;rw[setAddHashedIn.eq_def];refine Zy (wpAny_setState_of e d T.fits ?_);show wpAny _ _ (if byScan x ar=true then _ else _) _ _ _;rw[Zq (byScan_of hsc hs el)];refine Zy ?_;unfold setAddByScan;refine Zy ?_
 wp_step
 refine Zy (wpAny_setScan_of hx e d T.fits el ?_);have hf:=Kw (knd:=knd) (k:=k) pr;cases q:ar.toList.findIdx? (λe=>knd.is k e.2)with
 |some j =>
  rw[q]at hf;have hm:k∈ks:=p.mem_iff.mp (ZU hf.symm);exact Zx (Zx (h1 hm))
 |none =>
  rw[q]at hf;have hm:k∉ ks:=λz=>absurd (p.mem_iff.mpr z) (of_decide_eq_false hf.symm);obtain⟨T1,l1⟩:=On (knd.hash k) x T;have p1:=layNew_perm t ar (knd.hash k) x
  have hq:∃ksn,ksn.Perm (k::ks)/\Paired (jD knd) ksn (layNew t ar (knd.hash k) x).1.toList:=by
   have pr2:Paired (jD knd) (fq++[k]) (ar.push (knd.hash k,x)).toList:=by
    rw[Array.toList_push];exact Paired.snoc pr ⟨hx,Zj,hsc⟩
   obtain⟨k2,q2,jx⟩:=Kx p1 pr2;refine⟨k2,q2.trans ?_,jx⟩;exact(List.perm_append_comm).trans (p.cons k)
  have hsz:(layNew t ar (knd.hash k) x).1.size<scanBound:=by
   have:=p1.length_eq;rw[Array.length_toList,Array.length_toList,Array.size_push]at this;omega
  rw[hl]at l1
  dsimp only
  generalize layNew t ar (knd.hash k) x=L at T1 l1 hq hsz ⊢;obtain⟨eJ,t1,wd,gv⟩:=L;obtain⟨kn1,pk1,pr1⟩:=hq;have hsz:eJ.size<scanBound:=hsz
  have fin:∀t2:SetTable,FW t2 eJ.size->t2.led=led->∀g:Bool->Sem Unit,(∀b aH (Q':Unit->Xe->Prop),Q' () aH->wpAny (model prog w) A (g b) Q' E aH) ->
    wpAny (model prog w) A (do storeSet a eJ t2;if (!wd&&t2.tooFull)=true then (do g (relayAll t2 eJ (SetTable.grown eJ.size)).2.2;storeSet a (relayAll t2 eJ (SetTable.grown eJ.size)).1 (relayAll t2 eJ (SetTable.grown eJ.size)).2.1;pure (some true))else pure (some true)) (λb s'=>b=some true/\∃h',Heap.SameBut a s.heap h'/\dh knd h' a (k::ks) led/\s'={ s with heap:=h' }) E s:=λt2 T2 gQ g hg=>by
   refine Zy (wpAny_storeSet_of e d ?_ (fits_of_scanBound hsz));have S1:=dh.put (knd:=knd) e xs d T2 gQ pk1 pr1 hsz;have B1:Heap.SameBut a s.heap (s.heap.update a (Obj.putSet eJ t2)):=Heap.SameBut.update _ _ _;split
   ·refine Zy (hg _ _ _ ?_);have e1:(s.heap.update a (Obj.putSet eJ t2)).get? a=some (Obj.putSet eJ t2 o):=ZT _ e (by rw[putSet_of eJ t2 d];rfl);have d1:(Obj.putSet eJ t2 o).data=.set eJ (ep+1) t2:=by rw[putSet_of eJ t2 d]
    have x1:(Obj.putSet eJ t2 o).ExactSet:=by rw[putSet_of eJ t2 d];exact⟨xs.1,xs.2.1,xs.2.2⟩
    obtain⟨T3,l3⟩:=Kv (SetTable.grown eJ.size) T2;have p3:=relayAll_perm t2 eJ (SetTable.grown eJ.size)
    have hs3:(relayAll t2 eJ (SetTable.grown eJ.size)).1.size<scanBound:=by
     have:=p3.length_eq;rw[Array.length_toList,Array.length_toList]at this;omega
    obtain⟨k3,q3,pr3⟩:=Kx p3 pr1;refine Zy (wpAny_storeSet_of e1 d1 ?_ (fits_of_scanBound hs3));exact Zx ⟨Zj,_,B1.trans (Heap.SameBut.update _ _ _),dh.put e1 x1 d1 T3 (l3.trans gQ) (q3.trans pk1) pr3 hs3,Zj⟩
   ·exact Zx ⟨Zj,_,B1,S1,Zj⟩
  have out:∀ {b:Option Bool}{s':Xe},(b=some true/\∃h',Heap.SameBut a s.heap h'/\dh knd h' a (k::ks) led/\s'={ s with heap:=h' })->wpAny (model prog w) A (match b with |some added=>pure added |none=>setAddHashedIn a x (knd.hash k) 99999) Q E s':=λ{b s'} hb=>by
   obtain⟨rfl,h',B,S,rfl⟩:=hb;exact Zx (h2 hm h' B S)
  refine Zw (Q:=λb s'=>b=some true/\∃h',Heap.SameBut a s.heap h'/\dh knd h' a (k::ks) led/\s'={ s with heap:=h' }) ?_ (λb s' hb=>out hb) (λ_ _ z=>z)
  have gw:∀(b:Bool) (aH:Xe) (Q':Unit->Xe->Prop),Q' () aH->wpAny (model prog w) A (match b with |true=>rule "set.scan.the-table-gave-way" |false=>pure ()) Q' E aH:=λb aH Q' fv=>by
   cases b
   ·exact Zx fv
   ·show wpAny _ _ (rule _) _ _ _
    wp_step
    exact fv
  refine Zy (gw gv s _ ?_)
  have go:∀byv:Bool,wpAny (model prog w) A (do storeSet a eJ (if byv=true then t1 else { t1 with plain:=false });if (!wd&&(if byv=true then t1 else { t1 with plain:=false }).tooFull)=true then (do (match (relayAll (if byv=true then t1 else { t1 with plain:=false }) eJ (SetTable.grown eJ.size)).2.2 with |true=>rule "set.scan.the-table-gave-way" |false=>pure ());storeSet a (relayAll (if byv=true then t1 else { t1 with plain:=false }) eJ (SetTable.grown eJ.size)).1 (relayAll (if byv=true then t1 else { t1 with plain:=false }) eJ (SetTable.grown eJ.size)).2.1;pure (some true))else pure (some true)) (λb s'=>b=some true/\∃h',Heap.SameBut a s.heap h'/\dh knd h' a (k::ks) led/\s'={ s with heap:=h' }) E s:=λbyv=>by
   cases byv
   ·exact fin _ (QF false T1) l1 _ gw
   ·exact fin _ T1 l1 _ gw
  split
  ·rw[hashByValue_scannable 8 hsc];refine Zy (Zx ?_);exact go _
  ·exact go true
end
noncomputable abbrev FY (w:World):Bool:=!w.params.followText "set-order"
noncomputable def Jr (P:Program) (w:World) (a:Xd) (ks:List Key):HO:=.ext λh=>dh (AY P w) h a ks (FY w)
def UF {ks:List Key} (hs:dh (AY P w) h a ks (FY w)):aQ P w H h a (Jr P w a ks):=by
 refine⟨hs,?_,λh1 h2 s1 hk=>?_⟩
 ·obtain⟨o,_,_,_,_,e,_⟩:=hs;exact⟨o,e⟩
 ·obtain⟨o,ar,ep,t,fq,e,r⟩:=s1;exact⟨o,ar,ep,t,fq,hk _ e,r⟩
def UG {ks:List Key} (aF:du P w H h) (e:H a=some (Jr P w a ks)):dh (AY P w) h a ks (FY w):=(aF a _ e).1
open Classical in
noncomputable def Hl (acc:List Key) (k:Key):List Key:=if k∈acc then acc else k::acc
def QH {k:Key}{v:Value} (h:(AY P w).is k v=true):v.scannable=true:=by
 cases v <;> first |rfl | (cases k <;> cases h)
section
def Oq {d:Xd} (e:h.get? d=some { cls:=.type "set", data:=.set #[] 0 (SetTable.fresh 0 0 (FY w)) }):dh (AY P w) h d [] (FY w) :=
 ⟨_,#[],0,_,[],e,⟨rfl,rfl,rfl⟩,rfl,QG _ _ _,rfl,List.Perm.refl _,.nil,qc⟩
end
def aD:Slot "set_iterator" "__next__" "set_iterator.__next__" :=
 .of (owner := "set_iterator") (n := "__next__") (by rw[typeLookup_type,builtinLookup_eq_fast];kernel_rfl) qb qb qb
  (by first |exact .inl qb |exact .inr qb) (by rw[isSubtype_type];kernel_rfl)
def Bg:entryFor table "set_iterator.__next__" = some Builtin.«set_iterator.__next__»:=entryFor_of_tree qd
def Bs (a:Value):argsOk "set_iterator.__next__" ⟨[a],[]⟩:=by unfold argsOk;kernel_rfl
def Hm:entryFor table "set.__iter__" = some Builtin.«frozenset.__iter__»:=entryFor_alias (id' := "frozenset.__iter__") qd (by first |rfl |decide +kernel) qb qd
def Et {α:Type}:∀(xs:List α) (i:Nat) (h:i<xs.length),(xs[i]::xs.eraseIdx i).Perm xs
 | [],i,h=>absurd h (Nat.not_lt_zero _)
 |x::r,0,h=>List.Perm.refl _
 |x::r,i+1,h=>(List.Perm.swap ..).trans ((Et r i (Nat.lt_of_succ_lt_succ h)).cons x)
def g7 (h:Heap) (I a:Xd) (first:Value) (i n ep:Nat):Prop:=∃o,h.get? I=some o/\o.cls=.type "set_iterator" /\ o.data=.fields #[first,.int i 0,.ref a,.int n 0,.int ep 0]
def g7.typeIs {I a first i n ep} (x:g7 s.heap I a first i n ep):s.TypeIs (.ref I) "set_iterator" := let ⟨o,ho,hc,_⟩:=x;⟨o,ho,hc⟩
section
variable {prog:Program}
def Js {src:Source}{n:Nat}{Q:Nat->Xe->Prop} (hn:n≠0) (h:∀i d,i<n->Q i { s with drawn:=d }):wpAny (model prog w) A (choose src n) Q E s:=λΓ p hΓ=>⟨hn,h _ _ (Nat.mod_lt _ (Nat.pos_of_ne_zero hn))⟩
def Dl {α:Type}:∀(n:Nat) (xs:List α) (s:Xe) {Q:List α->Xe->Prop},xs.length<=n->(∀ys d,List.Perm ys xs->Q ys { s with drawn:=d })->wpAny (model prog w) A (drawOrder n xs) Q E s
 |0,xs,s,Q,hl,h=>by
  have e:xs=[]:=length_eq_zero_iff.mp (Nat.le_zero.mp hl);subst e;unfold drawOrder;exact Zx (h _ s.drawn (List.Perm.refl _))
 |n+1,[],s,Q,hl,h=>by
  unfold drawOrder;exact Zx (h _ s.drawn (List.Perm.refl _))
 |n+1,x::r,s,Q,hl,h=>by
  unfold drawOrder;refine Zy (Js (by simp) λi d hi=>?_);rw[Z7 hi]
  have ba:((x::r).eraseIdx i).length<=n:=by
   rw[List.length_eraseIdx,Zq hi];simp at hl ⊢;omega
  refine Zy (Dl n _ _ ba λys d' hp=>Zx (h _ d' ?_));exact(hp.cons _).trans (Et _ _ hi)
def Nn {α:Type} (next:Nat->Nat):∀(fuel k:Nat) (left:List α) (out:Array α),left.length<=fuel->(pickOrder.go next fuel k left out).toList.Perm (out.toList++left)
 |0,k,left,out,h=>by
  have e:left=[]:=length_eq_zero_iff.mp (Nat.le_zero.mp h);subst e;unfold pickOrder.go;simp
 |fuel+1,k,[],out,h=>by
  unfold pickOrder.go;simp
 |fuel+1,k,x::r,out,h=>by
  unfold pickOrder.go;have hi:next k % (x::r).length<(x::r).length:=Nat.mod_lt _ (by simp)
  rw[Z7 hi]
  have ba:((x::r).eraseIdx (next k % (x::r).length)).length<=fuel:=by
   rw[List.length_eraseIdx,Zq hi];simp at h ⊢;omega
  refine(Nn next fuel (k+1) _ _ ba).trans ?_;rw[Array.toList_push,List.append_assoc];exact(Et _ _ hi).append_left _
def JD {α:Type} (next:Nat->Nat) (xs:Array α):(pickOrder next xs).toList.Perm xs.toList:=by
 unfold pickOrder;exact(Nn next xs.size 0 xs.toList #[] (by simp)).trans (by simp)
section
variable {I:Xd}{slot nx i n ep:Nat}{o:Obj}{ar:Array (Int×Value)}{t:SetTable}{x:Value}{Q:Option Value->Xe->Prop}
def FZ (hit:g7 s.heap I a (.int slot 0) i n ep) (ho:s.heap.get? a=some o) (hd:o.data=.set ar ep t) (hf:t.fits ar.size=true) (hn:ar.size=n)
  (hN:∀ {A:Around}{E:VS}{Q:Option (Value×Nat)->Xe->Prop},Q (some (x,nx)) s->wpAny (model prog w) A (setNext a slot i ep) Q E s)
  (hQ:∀h',g7 h' I a (.int nx 0) (i+1) n ep->Heap.SameBut I s.heap h'->Q (some x) { s with heap:=h' }):wpAny (model prog w) A (pyNext (.ref I)) Q E s:=by
 obtain⟨oi,iq,hci,fG⟩:=id hit;unfold pyNext
 refine Zy (wpAny_attempt (wpAny_callSpecial?_slot (name:=Str.ofString "__next__") hit.typeIs aD
  (wpAny_call_entry aD hit.typeIs Bg ?_ (Bs _))))
 unfold Builtin.«set_iterator.__next__»;refine Zy (Zx ?_);refine Zy (wpAny_fieldsOf iq fG ?_);show wpAny _ _ (setEntries a >>= _) _ _ _;refine Zy (wpAny_setEntries_of ho hd hf ?_);rw[Zr (by rw[hn];simp)];show wpAny _ _ (setNext a slot i ep >>= _) _ _ _;refine Zy (hN ?_);show wpAny _ _ (setField (.ref I) 0 (rawInt nx) >>= _) _ _ _;refine Zy (wpAny_setField iq fG (by simp) ?_);have cj:=ZT (Obj.mapFields (·.setIfInBounds 0 (rawInt nx))) iq (Obj.isFreed_of_fields (Obj.data_mapFields fG _));have eS:=Obj.data_mapFields fG (·.setIfInBounds 0 (rawInt nx));show wpAny _ _ (setField (.ref I) 1 (rawInt ((i:Int)+1)) >>= _) _ _ _;refine Zy (wpAny_setField cj eS (by simp) ?_);refine Zx ⟨_,Zj,Zx (hQ _ ?_ ((Heap.SameBut.update ..).trans (Heap.SameBut.update ..)))⟩;exact⟨_,ZT _ cj (Obj.isFreed_of_fields (Obj.data_mapFields eS _)),(Obj.cls_mapFields ..).trans ((Obj.cls_mapFields ..).trans hci),by rw[Obj.data_mapFields eS];simp[rawInt]⟩
def Go (hh:A.handled=none) (hit:g7 s.heap I a (.int slot 0) i n ep) (ho:s.heap.get? a=some o) (hd:o.data=.set ar ep t) (hf:t.fits ar.size=true) (hn:ar.size=n)
  (hN:∀ {A:Around}{E:VS}{Q:Option (Value×Nat)->Xe->Prop},Q none s->wpAny (model prog w) A (setNext a slot i ep) Q E s)
  (hQ:∀h',Heap.ExtBut I s.heap h'->Q none { s with heap:=h' }):wpAny (model prog w) A (pyNext (.ref I)) Q E s:=by
 obtain⟨oi,iq,hci,fG⟩:=id hit;unfold pyNext
 refine Zy (wpAny_attempt (wpAny_callSpecial?_slot (name:=Str.ofString "__next__") hit.typeIs aD
  (wpAny_call_entry aD hit.typeIs Bg ?_ (Bs _))))
 unfold Builtin.«set_iterator.__next__»;refine Zy (Zx ?_);refine Zy (wpAny_fieldsOf iq fG ?_);show wpAny _ _ (setEntries a >>= _) _ _ _;refine Zy (wpAny_setEntries_of ho hd hf ?_);rw[Zr (by rw[hn];simp)];show wpAny _ _ (setNext a slot i ep >>= _) _ _ _;refine Zy (hN ?_);show wpAny _ _ (setField (.ref I) 2 .none >>= _) _ _ _;refine Zy (wpAny_setField iq fG (by simp) ?_);show wpAny _ _ (newExc (.type "StopIteration") [] >>= _) _ _ _;refine Zy ?_;simp only[newExc,newTuple];refine Zy (wpAny_newObj_type ?_ (by size_fits));refine Zy (m:=firstArgMember _ _) (wpAny_of_eq (a:=Value.none) (by first |rfl | (simp only[firstArgMember];rfl)) ?_);refine wpAny_newObj_type ?_ (by size_fits);simp only[raiseNew];refine Zy (wpAny_handled ?_);rw[show A.in1.handled=none from hh];refine Zy (Zx (wpAny_throw ?_));refine Zy (wpAny_isInstance (T := "StopIteration") (b:=true) ⟨_,ZO _ Zj,Zj⟩ isSubtype_stop ?_);exact Zx (hQ _ (((Heap.SameBut.update ..).extBut.push _).push _))
def Jt {T:Xd}{ot:Obj}{tp:Array Value}{m pl:Nat}{hx:Int} (hit:g7 s.heap I a (.ref T) i n ep) (ho:s.heap.get? a=some o) (hd:o.data=.set ar ep t) (hf:t.fits ar.size=true) (hn:ar.size=n)
  (hT:s.heap.get? T=some ot) (htd:ot.data=.seq tp m) (hi:tp[i]?=some (.int pl 0)) (he:ar[pl]?=some (hx,x))
  (hQ:∀h',g7 h' I a (.ref T) (i+1) n ep->Heap.SameBut I s.heap h'->Q (some x) { s with heap:=h' }):wpAny (model prog w) A (pyNext (.ref I)) Q E s:=by
 obtain⟨oi,iq,hci,fG⟩:=id hit;unfold pyNext
 refine Zy (wpAny_attempt (wpAny_callSpecial?_slot (name:=Str.ofString "__next__") hit.typeIs aD
  (wpAny_call_entry aD hit.typeIs Bg ?_ (Bs _))))
 unfold Builtin.«set_iterator.__next__»;refine Zy (Zx ?_);refine Zy (wpAny_fieldsOf iq fG ?_);show wpAny _ _ (setEntries a >>= _) _ _ _;refine Zy (wpAny_setEntries_of ho hd hf ?_);rw[Zr (by rw[hn];simp)];show wpAny _ _ (seqItems? (.ref T) >>= _) _ _ _;refine Zy ?_;unfold seqItems?;refine Zy (wpAny_load hT ?_);rw[htd];refine Zx ?_
 dsimp only
 rw[Int.toNat_natCast,hi]
 dsimp only
 unfold setNextDrawn;refine Zy (Zy (wpAny_setState_of ho hd hf ?_))
 dsimp only
 rw[Zr (by simp),Int.toNat_natCast,he];refine Zx ?_;show wpAny _ _ (setField (.ref I) 1 (rawInt ((i:Int)+1)) >>= _) _ _ _;refine Zy (wpAny_setField iq fG (by simp) ?_);refine Zx ⟨_,Zj,Zx (hQ _ ?_ (Heap.SameBut.update ..))⟩;exact⟨_,ZT _ iq (Obj.isFreed_of_fields (Obj.data_mapFields fG _)),(Obj.cls_mapFields ..).trans hci,by rw[Obj.data_mapFields fG];simp[rawInt]⟩
def Ky {T:Xd}{ot:Obj}{tp:Array Value}{m:Nat} (hh:A.handled=none) (hit:g7 s.heap I a (.ref T) i n ep) (ho:s.heap.get? a=some o) (hd:o.data=.set ar ep t) (hf:t.fits ar.size=true) (hn:ar.size=n)
  (hT:s.heap.get? T=some ot) (htd:ot.data=.seq tp m) (hi:tp[i]?=none)
  (hQ:∀h',Heap.ExtBut I s.heap h'->Q none { s with heap:=h' }):wpAny (model prog w) A (pyNext (.ref I)) Q E s:=by
 obtain⟨oi,iq,hci,fG⟩:=id hit;unfold pyNext
 refine Zy (wpAny_attempt (wpAny_callSpecial?_slot (name:=Str.ofString "__next__") hit.typeIs aD
  (wpAny_call_entry aD hit.typeIs Bg ?_ (Bs _))))
 unfold Builtin.«set_iterator.__next__»;refine Zy (Zx ?_);refine Zy (wpAny_fieldsOf iq fG ?_);show wpAny _ _ (setEntries a >>= _) _ _ _;refine Zy (wpAny_setEntries_of ho hd hf ?_);rw[Zr (by rw[hn];simp)];show wpAny _ _ (seqItems? (.ref T) >>= _) _ _ _;refine Zy ?_;unfold seqItems?;refine Zy (wpAny_load hT ?_);rw[htd];refine Zx ?_
 dsimp only
 rw[Int.toNat_natCast,hi]
 dsimp only
 refine Zy (wpAny_setField iq fG (by simp) ?_);have cj:=ZT (Obj.mapFields (·.setIfInBounds 0 (rawInt 0))) iq (Obj.isFreed_of_fields (Obj.data_mapFields fG _));have eS:=Obj.data_mapFields fG (·.setIfInBounds 0 (rawInt 0));refine Zy (wpAny_setField cj eS (by simp) ?_);show wpAny _ _ (newExc (.type "StopIteration") [] >>= _) _ _ _;refine Zy ?_;simp only[newExc,newTuple];refine Zy (wpAny_newObj_type ?_ (by size_fits));refine Zy (m:=firstArgMember _ _) (wpAny_of_eq (a:=Value.none) (by first |rfl | (simp only[firstArgMember];rfl)) ?_);refine wpAny_newObj_type ?_ (by size_fits);simp only[raiseNew];refine Zy (wpAny_handled ?_);rw[show A.in1.handled=none from hh];refine Zy (Zx (wpAny_throw ?_));refine Zy (wpAny_isInstance (T := "StopIteration") (b:=true) ⟨_,ZO _ Zj,Zj⟩ isSubtype_stop ?_);exact Zx (hQ _ ((((Heap.SameBut.update ..).trans (Heap.SameBut.update ..)).extBut.push _).push _))
end
end
def Dm:Slot "set_iterator" "__iter__" "set_iterator.__iter__" :=
 .of (owner := "set_iterator") (n := "__iter__") (by rw[typeLookup_type,builtinLookup_eq_fast];kernel_rfl) qb qb qb
  (by first |exact .inl qb |exact .inr qb) (by rw[isSubtype_type];kernel_rfl)
def F7:entryFor table "set_iterator.__iter__" = some Builtin.«dict_keyiterator.__iter__»:=entryFor_alias (id' := "dict_keyiterator.__iter__") qd (by first |rfl |decide +kernel) qb qd
def Gz (a:Value):argsOk "set_iterator.__iter__" ⟨[a],[]⟩:=by unfold argsOk;kernel_rfl
def g7.at {h':Heap}{I a first i n ep} (x:g7 h I a first i n ep) (e:∀o,h.get? I=some o->h'.get? I=some o):g7 h' I a first i n ep:=let ⟨o,ho,r⟩:=x;⟨o,e _ ho,r⟩
section
variable {prog:Program}{I T:Xd}{n ep:Nat}{o ot:Obj}{ar:Array (Int×Value)}{t:SetTable}
def Ml {first:Value}{i:Nat}{Q:VS} (hit:g7 s.heap I a first i n ep) (h:Q (.ref I) s):wpAny (model prog w) A (pyIter (.ref I)) Q E s:=by
 refine wpAny_pyIter_slot hit.typeIs Dm (wpAny_call_entry Dm hit.typeIs F7 ?_ (Gz _));show wpAny _ _ (ret (.ref I)) _ _ s;exact Zx ⟨_,Zj, "set_iterator", _,hit.typeIs,aD.lookup,h⟩
def F8 {G:Nat->Value->Prop}{vs:Xb} (jw:a≠I) (hTI:T≠I)
  (hIt:∀i (s:Xe) first,i<n->s.heap.get? a=some o->s.heap.get? T=some ot->g7 s.heap I a first i n ep->G i first->∀(Q:Option Value->Xe->Prop) (E:VS),(∀first' h' v,vs[i]?=some v->g7 h' I a first' (i+1) n ep->G (i+1) first'->Heap.SameBut I s.heap h'->Q (some v) { s with heap:=h' })->wpAny (model prog w) A (pyNext (.ref I)) Q E s)
  (hEn:∀(s:Xe) first,s.heap.get? a=some o->s.heap.get? T=some ot->g7 s.heap I a first n n ep->G n first->∀(Q:Option Value->Xe->Prop) (E:VS),(∀h',Heap.ExtBut I s.heap h'->Q none { s with heap:=h' })->wpAny (model prog w) A (pyNext (.ref I)) Q E s) :
  WalksS prog w A I [I,a,T] [I] (λa b=>b=a) n (λi v=>vs[i]?=some v) (λi s=>s.heap.get? a=some o/\s.heap.get? T=some ot/\∃first,g7 s.heap I a first i n ep/\G i first) where
 sub:=λb hb=>by simp at hb;simp[hb]
 grefl:=λ_=>rfl
 gtrans:=λ_ _ _ h1 h2=>h2.trans h1
 frame:=λi s h' tk st _ hk=>⟨hk a (by simp) _ st.1,hk T (by simp) _ st.2.1,let ⟨f,x,g⟩:=st.2.2;⟨f,x.at λo e=>hk I (by simp) o e,g⟩⟩
 item:=λi s Q E hi st hQ=>by
  obtain⟨ha,hT,first,hit,g⟩:=st;refine hIt i s first hi ha hT hit g Q E λfirst' h' v hv gk g' sb=>?_
  exact hQ v _ hv ⟨(sb.2 a jw).trans ha,(sb.2 T hTI).trans hT,first',gk,g'⟩ ⟨λb ob hb e=>(sb.2 b (λz=>hb (by simp[z]))).trans e,Zj,Zj,Zj,Zz _⟩
 done:=λs Q E st hQ=>by
  obtain⟨ha,hT,first,hit,g⟩:=st;exact hEn s first ha hT hit g Q E λh' eb=>hQ _ ⟨λb ob hb e=>eb b ob (λz=>hb (by simp[z])) e,Zj,Zj,Zj,Zz _⟩
 self:=λi s Q E st hQ=>let ⟨_,_,f,x,_⟩:=st;Ml x hQ
def Mm {xs:Array Nat} (hs:FU xs):SetTable.below xs 0=0:=by
 have B:=FV hs 0;rcases Nat.eq_zero_or_pos (SetTable.below xs 0)with h |h
 ·exact h
 ·exact absurd (B.lo 0 (Z1 h B.le) h) (Nat.not_lt_zero _)
def Mn {xs:Array Nat} (hs:FU xs) {i:Nat} (hi:i<xs.size):SetTable.below xs (xs[i]+1)=i+1:=by
 have B:=FV hs (xs[i]+1)
 have h1:i<SetTable.below xs (xs[i]+1):=by
  rcases Nat.lt_or_ge i (SetTable.below xs (xs[i]+1))with h |h
  ·exact h
  ·exact absurd (B.hi i hi h) qe
 have h2:SetTable.below xs (xs[i]+1)<=i+1:=by
  rcases Nat.lt_or_ge (i+1) (SetTable.below xs (xs[i]+1))with h |h
  ·have aL:=Z1 h B.le;have h3:=B.lo (i+1) aL h;have h4:=hs i (i+1) hi aL (Nat.lt_succ_self _);omega
  ·exact h
 omega
def JE {slot i:Nat}{Q:Option (Value×Nat)->Xe->Prop} (ho:s.heap.get? a=some o) (hd:o.data=.set ar ep t) (hf:t.fits ar.size=true) (hw:w.params.followText "set-order" = true)
  (h:Q ((pickOrder (w.params.setOrder a ep) ar)[i]?.map λe=>(e.2,slot)) s):wpAny (model prog w) A (setNext a slot i ep) Q E s:=by
 unfold setNext;refine Zy (wpAny_setState_of ho hd hf ?_);unfold setsByText;refine Zy (Zy (wpAny_askSetting (Zx ?_)));show wpAny _ _ (if w.params.followText "set-order" = true then _ else _) _ _ _;rw[Zq hw];show wpAny _ _ (if (ep != ep)=true then _ else _) _ _ _;rw[Zr (by simp)];unfold setWalk;refine Zy (Zy (wpAny_setState_of ho hd hf ?_));unfold setsByText;refine Zy (Zy (wpAny_askSetting (Zx ?_)));show wpAny _ _ (if w.params.followText "set-order" = true then _ else _) _ _ _;rw[Zq hw];refine Zy (wpAny_askSetting (Zx ?_));exact Zx h
def JF {slot i:Nat}{Q:Option (Value×Nat)->Xe->Prop} (ho:s.heap.get? a=some o) (hd:o.data=.set ar ep t) (hf:t.fits ar.size=true) (hw:w.params.followText "set-order" = false) (hl:t.led=true) (hp:(!t.plain&&decide (ar.size>1))=false)
  (h:Q (match ar[SetTable.below t.place slot]?,t.place[SetTable.below t.place slot]? with |some (_,x),some j=>some (x,j+1) |_,_=>none) s):wpAny (model prog w) A (setNext a slot i ep) Q E s:=by
 unfold setNext;refine Zy (wpAny_setState_of ho hd hf ?_);unfold setsByText;refine Zy (Zy (wpAny_askSetting (Zx ?_)));show wpAny _ _ (if w.params.followText "set-order" = true then _ else _) _ _ _;rw[Zr (by rw[hw];decide)];show wpAny _ _ (if (!t.plain&&decide (ar.size>1))=true then _ else _) _ _ _;rw[Zr (by rw[hp];decide)];show wpAny _ _ ((if (!t.led && !ar.isEmpty)=true then unsupported _ else pure ()) >>= _) _ _ _;rw[Zr (by rw[hl];simp)];exact Zy (Zx (Zx h))
end
section
variable {prog:Program}{ep:Nat}{o:Obj}{ar:Array (Int×Value)}{t:SetTable}
def Mo {α β:Type} (ar:Array α) (f:α->β) (z:β) {ys:List Nat} (hp:ys.Perm (List.range ar.size)):(ys.map λi=>(ar[i]?.map f).getD z).Perm (ar.toList.map f):=by
 refine(hp.map _).trans (List.Perm.of_eq ?_);refine List.ext_getElem (by simp) λi h1 h2=>?_;simp at h1 h2;simp[h2]
def Mp {Q:VS} (hx:o.ExactSet) (ho:s.heap.get? a=some o) (hd:o.data=.set ar ep t) (K:FW t ar.size) (hl:t.led=FY w) (hb:ar.size<scanBound)
  (hQ:∀(h':Heap) (d:Drawn) (I:Xd) (fp:List Xd) (vs:Xb) (St:Nat->Xe->Prop),vs.Perm (ar.toList.map (·.2))->(∀A:Around,A.handled=none->WalksS prog w A I fp [I] (λa b=>b=a) ar.size (λi v=>vs[i]?=some v) St)->St 0 { s with heap:=h',drawn:=d } ->
   (∀b o,s.heap.get? b=some o->h'.get? b=some o)->s.heap.objs.size<=I->(∀b∈fp,b=a\/s.heap.objs.size<=b)->Q (.ref I) { s with heap:=h',drawn:=d }) :
  wpAny (model prog w) A (pyIter (.ref a)) Q E s:=by
 have hT:s.TypeIs (.ref a) "set" := ⟨o,ho,hx.1⟩;have hal:a<s.heap.objs.size:=lt_size ho
 have hps:t.place.size=ar.size:=by
  have:=K.fits;unfold SetTable.fits at this;simp at this;exact this.1
 refine wpAny_pyIter_slot hT PySem.F.slot_set_iter (wpAny_call_entry PySem.F.slot_set_iter hT Hm ?_ (PySem.F.args_set_iter_1 _));unfold Builtin.«frozenset.__iter__»;refine Zy (m:=Builtin.Frozenset.slot0 _ _) (Zx ?_);unfold Builtin.Frozenset.sizeOf;refine Zy (Zy (wpAny_setEntries_of ho hd K.fits (Zx ?_)));unfold setDrawn;refine Zy (Zy (wpAny_setState_of ho hd K.fits ?_));unfold setsByText;refine Zy (Zy (wpAny_askSetting (Zx (Zx ?_))));show wpAny _ _ (if (!w.params.followText "set-order" && (!t.plain&&decide (ar.size>1)))=true then _ else _) _ _ _;cases hw:w.params.followText "set-order" with
 |true =>
  rw[Zr (by simp)];refine Zy (Zx ?_);refine Zy (wpAny_setEpoch_of ho hd K.fits ?_);refine Zy (wpAny_newObj_type (Zx ⟨_,Zj, "set_iterator", _,⟨_,ZO _ Zj,Zj⟩,aD.lookup,?_⟩));have jw:a≠s.heap.objs.size:=ZD hal
  have hsz:(pickOrder (w.params.setOrder a ep) ar).size=ar.size:=by
   have:=(JD (w.params.setOrder a ep) ar).length_eq;simpa using this
  refine hQ _ s.drawn _ [s.heap.objs.size,a,a] ((pickOrder (w.params.setOrder a ep) ar).toList.map (·.2)) _ ((JD _ ar).map _) (λA' hA'=>F8 (I:=s.heap.objs.size) (T:=a) (o:=o) (ot:=o) (n:=ar.size) (ep:=ep) (G:=λi f=>f=.int 0 0) jw jw ?_ ?_) ⟨ZW _ ho,ZW _ ho,_,⟨_,ZO _ Zj,Zj,Zj⟩,Zj⟩ (λb o e=>ZW _ e) (Zz _) ?_
  ·rintro i s1 first hi ha _ hit rfl Q1 E1 h1
   have hg:(pickOrder (w.params.setOrder a ep) ar)[i]?=some (pickOrder (w.params.setOrder a ep) ar)[i]:=Array.getElem?_eq_getElem qe;refine FZ (slot:=0) (nx:=0) (x:=(pickOrder (w.params.setOrder a ep) ar)[i].2) hit ha hd K.fits Zj (λ{A2 E2 Q2} h2=>JE ha hd K.fits hw ?_) (λh' gk sb=>h1 _ h' _ ?_ gk Zj sb)
   ·rw[hg];exact h2
   ·rw[ZF,Array.getElem?_toList,hg];rfl
  ·rintro s1 first ha _ hit rfl Q1 E1 h1
   have hg:(pickOrder (w.params.setOrder a ep) ar)[ar.size]?=none:=Array.getElem?_eq_none qe;refine Go (slot:=0) hA' hit ha hd K.fits Zj (λ{A2 E2 Q2} h2=>JE ha hd K.fits hw ?_) h1;rw[hg];exact h2
  ·intro b hb;simp at hb;rcases hb with h |h
   ·exact .inr (Nat.le_of_eq h.symm)
   ·exact .inl h
 |false =>
  have hled:t.led=true:=by rw[hl];show(!w.params.followText "set-order")=true;rw[hw];rfl
  cases hp:(!t.plain&&decide (ar.size>1))with
  |false =>
   rw[Zr (by simp)];refine Zy (Zx ?_);refine Zy (wpAny_setEpoch_of ho hd K.fits ?_);refine Zy (wpAny_newObj_type (Zx ⟨_,Zj, "set_iterator", _,⟨_,ZO _ Zj,Zj⟩,aD.lookup,?_⟩));have jw:a≠s.heap.objs.size:=ZD hal;refine hQ _ s.drawn _ [s.heap.objs.size,a,a] (ar.toList.map (·.2)) _ (List.Perm.refl _) (λA' hA'=>F8 (I:=s.heap.objs.size) (T:=a) (o:=o) (ot:=o) (n:=ar.size) (ep:=ep) (G:=λi f=>∃slot:Nat,f=.int slot 0/\SetTable.below t.place slot=i) jw jw ?_ ?_) ⟨ZW _ ho,ZW _ ho,_,⟨_,ZO _ Zj,Zj,Zj⟩,0,Zj,Mm K.rise⟩ (λb o e=>ZW _ e) (Zz _) ?_
   ·rintro i s1 first hi ha _ hit ⟨slot,rfl,hsl⟩ Q1 E1 h1
    have hg:ar[i]?=some ar[i]:=Array.getElem?_eq_getElem hi;have js:i<t.place.size:=by omega
    have hg2:t.place[i]?=some t.place[i]:=Array.getElem?_eq_getElem js;refine FZ (slot:=slot) (nx:=t.place[i]+1) (x:=ar[i].2) hit ha hd K.fits Zj (λ{A2 E2 Q2} h2=>JF ha hd K.fits hw hled hp ?_) (λh' gk sb=>h1 _ h' _ ?_ gk ⟨_,Zj,Mn K.rise js⟩ sb)
    ·rw[hsl,hg,hg2];exact h2
    ·rw[ZF,Array.getElem?_toList,hg];rfl
   ·rintro s1 first ha _ hit ⟨slot,rfl,hsl⟩ Q1 E1 h1
    refine Go (slot:=slot) hA' hit ha hd K.fits Zj (λ{A2 E2 Q2} h2=>JF ha hd K.fits hw hled hp ?_) h1;rw[hsl,Array.getElem?_eq_none (Zz _)];exact h2
   ·intro b hb;simp at hb;rcases hb with h |h
    ·exact .inr (Nat.le_of_eq h.symm)
    ·exact .inl h
  |true =>
   rw[Zq (by simp)];refine Zy (Dl _ _ _ (by simp) λys d bj=>?_);have hyl:ys.length=ar.size:=by rw[bj.length_eq];simp
   have h4:scanBound=4096:=rfl
   have ba:(ys.map λ(i:Nat)=>rawInt i).toArray.size<=sizeLine:=by
    have:sizeLine=2 ^ 24:=rfl;simp;omega
   refine Zy (wpAny_newObj_type ?_ (by size_fits));have ho1:(s.heap.push { cls:=.type "tuple", data:=.seq (ys.map λ(i:Nat)=>rawInt i).toArray }).get? a=some o:=ZW _ ho;refine Zy (wpAny_setEpoch_of ho1 hd K.fits ?_);refine Zy (wpAny_newObj_type (Zx ⟨_,Zj, "set_iterator", _,⟨_,ZO _ Zj,Zj⟩,aD.lookup,?_⟩));have hs1:(s.heap.push { cls:=.type "tuple", data:=.seq (ys.map λ(i:Nat)=>rawInt i).toArray }).objs.size=s.heap.objs.size+1:=Heap.size_push _ _;have jw:a≠(s.heap.push { cls:=.type "tuple", data:=.seq (ys.map λ(i:Nat)=>rawInt i).toArray }).objs.size:=by rw[hs1];exact ZD (Nat.lt_succ_of_lt hal)
   have hTI:s.heap.objs.size≠(s.heap.push { cls:=.type "tuple", data:=.seq (ys.map λ(i:Nat)=>rawInt i).toArray }).objs.size:=by rw[hs1];exact ZD (Nat.lt_succ_self _)
   refine hQ _ d _ [(s.heap.push { cls:=.type "tuple", data:=.seq (ys.map λ(i:Nat)=>rawInt i).toArray }).objs.size,a,s.heap.objs.size] (ys.map λi=>(ar[i]?.map (·.2)).getD .none) _ (Mo ar _ _ bj) (λA' hA'=>F8 (I:=(s.heap.push { cls:=.type "tuple", data:=.seq (ys.map λ(i:Nat)=>rawInt i).toArray }).objs.size) (T:=s.heap.objs.size) (o:=o) (ot:={ cls:=.type "tuple", data:=.seq (ys.map λ(i:Nat)=>rawInt i).toArray }) (n:=ar.size) (ep:=ep) (G:=λi f=>f=.ref s.heap.objs.size) jw hTI ?_ ?_) ⟨ZW _ ho1,ZW _ (ZO _ Zj),_,⟨_,ZO _ Zj,Zj,Zj⟩,Zj⟩ (λb o e=>ZW _ (ZW _ e)) (Nat.le_trans (Nat.le_succ _) (Nat.le_of_eq hs1.symm)) ?_
   ·rintro i s1 first hi ha hT1 hit rfl Q1 E1 h1
    have hyi:ys[i]?=some (ys[i]'qe):=Z7 qe
    have hyr:ys[i]'qe<ar.size:=by
     have:=bj.mem_iff.mp (getElem_mem (l:=ys) (n:=i) qe);simpa using this
    have hg:ar[ys[i]'qe]?=some (ar[ys[i]'qe]):=Array.getElem?_eq_getElem hyr;refine Jt (pl:=ys[i]'qe) (hx:=(ar[ys[i]'qe]).1) (x:=(ar[ys[i]'qe]).2) hit ha hd K.fits Zj hT1 Zj ?_ hg (λh' gk sb=>h1 _ h' _ ?_ gk Zj sb)
    ·rw[List.getElem?_toArray,ZF,hyi];rfl
    ·rw[ZF,hyi];simp[hyr]
   ·rintro s1 first ha hT1 hit rfl Q1 E1 h1
    refine Ky hA' hit ha hd K.fits Zj hT1 Zj ?_ h1;rw[List.getElem?_toArray,List.getElem?_eq_none (by simp[hyl])]
   ·intro b hb;simp at hb;rcases hb with h |h |h
    ·exact .inr (by rw[h];exact Nat.le_succ _)
    ·exact .inl h
    ·exact .inr (Nat.le_of_eq h.symm)
end
def Kz {α β:Type}{F:α->β->Prop}{es jd:List β} (p:jd.Perm es):∀ {ks:List α},Paired F ks es->∃fq,fq.Perm ks/\Paired F fq jd:=by
 induction p with
 |nil=>intro ks h;exact⟨ks,List.Perm.refl _,h⟩
 |cons x p ih =>
  intro ks h;cases h with
  |cons r t =>
   obtain⟨fq,p',h'⟩:=ih t;exact⟨_::fq,p'.cons _,.cons r h'⟩
 |swap x y l =>
  intro ks h;cases h with
  |cons r t =>
   cases t with
   |cons r2 t=>exact⟨_::_::_,List.Perm.swap ..,.cons r2 (.cons r t)⟩
 |trans p1 p2 ih1 ih2 =>
  intro ks h;obtain⟨k2,q2,h2⟩:=ih2 h;obtain⟨k1,q1,h1⟩:=ih1 h2;exact⟨k1,q1.trans q2,h1⟩
def Hn {P:Program}{w:World}:∀ {ks:List Key}{es:List (Int×Value)},Paired (jD (AY P w)) ks es->Paired (λk v=>RelV (kV k) v) ks (es.map (·.2))
 |_,_,.nil=>.nil
 |_,_,.cons r t=>.cons (Jj r.is) (Hn t)
section
variable {prog:Program}{ep:Nat}{o:Obj}{ar:Array (Int×Value)}{t:SetTable}
def R8:typeLookup (.type "set") "__len__" = pure (some (.builtin "set.__len__")):=by rw[typeLookup_type,builtinLookup_eq_fast];kernel_rfl
def K0 {Q:Xb->Xe->Prop} (hh:A.handled=none) (hx:o.ExactSet) (ho:s.heap.get? a=some o) (hd:o.data=.set ar ep t) (K:FW t ar.size) (hl:t.led=FY w) (hb:ar.size<scanBound)
  (hQ:∀s' acc,(∀b o,s.heap.get? b=some o->s'.heap.get? b=some o)->s'.gens=s.gens->s'.os=s.os->acc.Perm (ar.toList.map (·.2))->Q acc s') :
  wpAny (model prog w) A (collect (.ref a)) Q E s:=by
 have hal:a<s.heap.objs.size:=lt_size ho;have ax:a≠s.heap.objs.size:=ZD hal
 have hn:ar.size<=sizeLine:=by
  have h4:scanBound=4096:=rfl;have:sizeLine=2 ^ 24:=rfl;omega
 unfold collect;refine Zy (wpAny_runValue (codeAny_builtin PySem.F.entry_proto_collect ?_));rw[Around.under_plainId PySem.F.plain_proto_collect _];show wpAny _ A.in1 (newList [] >>= λl=>again (.builtin "list.__iadd__" ⟨[l,.ref a],[]⟩)) _ _ s;refine Zy (wpAny_newObj_type ?_);refine Zx ⟨plainId_quiet PySem.F.plain_list_iadd _,codeAny_builtin PySem.F.entry_list_iadd ?_⟩;rw[Around.under_plainId PySem.F.plain_list_iadd _];show wpAny _ A.in1 (Builtin.List.listExtendWith (.ref s.heap.objs.size) (.ref a) (.ref s.heap.objs.size)) _ _ _;unfold Builtin.List.listExtendWith;have ho1:(s.heap.push { cls:=.type "list", data:=.seq ([]:Xb).toArray }).get? a=some o:=ZW _ ho;have hT1:Shared.TypeIs { s with heap:=s.heap.push { cls:=.type "list", data:=.seq ([]:Xb).toArray } } (.ref a) "set" := ⟨o,ho1,hx.1⟩;refine Zy (wpAny_typeOf hT1 ?_);have h1:Builtin.List.listSameRef (.ref s.heap.objs.size) (.ref a)=false:=by simp[Builtin.List.listSameRef,Ne.symm ax]
 have h2:(Value.type "set" == Value.type "list")=false:=by decide
 have h3:(Value.type "set" == Value.type "tuple")=false:=by decide
 simp only[h1,h2,h3,Bool.or_false,Bool.false_eq_true,if_false];refine Zy (Mp hx ho1 hd K hl hb λh' d I fp vs St bj W hst keep hI ie=>?_);have hT2:Shared.TypeIs { s with heap:=h',drawn:=d } (.ref a) "set" := ⟨o,keep _ _ ho1,hx.1⟩;refine Zy (ZL ?_);unfold Builtin.List.listLengthHint;refine Zy (wpAny_specialOf hT2 R8 ?_)
 wp_delta
 refine Zy (wpAny_isInstance (b:=true) hT2 (by rw[isSubtype_type];kernel_rfl) ?_);show wpAny _ A.in1 (typeOf (Value.ref a) >>= _) _ _ _;refine Zy (wpAny_typeOf hT2 ?_);refine Zx ?_;rw[Zq qc];have hHs:(s.heap.push { cls:=.type "list", data:=.seq ([]:Xb).toArray }).objs.size=s.heap.objs.size+1:=Heap.size_push _ _
 have hSf:s.heap.objs.size∉ fp:=λhm=>by
  rcases ie _ hm with z |z
  ·exact ax z.symm
  ·exact absurd z (by show ¬ ((s.heap.push { cls:=.type "list", data:=.seq ([]:Xb).toArray }).objs.size<=s.heap.objs.size);rw[hHs];exact Nat.not_succ_le_self _)
 have hS:h'.get? s.heap.objs.size=some { cls:=.type "list", data:=.seq ([]:Xb).toArray }:=keep _ _ (ZO _ rfl);refine Zy (wpAny_rule ?_);refine Zy ?_;show wpAny _ A.in1 (updateSeq s.heap.objs.size (·.push .none) >>= λ_=>updateSeq s.heap.objs.size (·.pop)) _ _ _;refine Zy (wpAny_updateSeq hS Zj ?_);have hS₂:=ZT (Obj.mapSeq (·.push Value.none)) hS rfl;refine wpAny_updateSeq (hz:=by seq_fits) hS₂ Zj ?_;have hS₃:=ZT (Obj.mapSeq (·.pop)) hS₂ rfl
 have gH:∀b o,b≠s.heap.objs.size->h'.get? b=some o->((h'.update s.heap.objs.size (Obj.mapSeq (·.push Value.none))).update s.heap.objs.size (Obj.mapSeq (·.pop))).get? b=some o :=
  λb o hb e=>(ZV _ _ (Ne.symm hb)).trans ((ZV _ _ (Ne.symm hb)).trans e)
 refine Zx ⟨plainId_quiet PySem.F.plain_extend_loop _,codeAny_extend_loopS (W A.in1 hh) hn _ hSf _ ar.size 0 _ _ _ Zj (Nat.zero_le _) ((W A.in1 hh).frame 0 { s with heap:=h',drawn:=d } _ s.toks hst (Zz _) λb hb o e=>gH b o (λh=>hSf (h ▸ hb)) e) hS₃ (ItemsOf.nil _) λs' acc' c' hm hS' bv=>?_⟩;show wpAny _ A (load s.heap.objs.size >>= _) _ _ s';refine Zy (wpAny_load hS' ?_);refine Zx (hQ s' acc'.toList (λb ob e=>hm.heap b ob (λhb=>?_) (gH _ _ (ZD (lt_size e)) (keep _ _ (ZW _ e)))) hm.gens hm.os ?_)
 ·have aL:=lt_size e;rcases mem_cons.mp hb with h |h
  ·exact absurd aL (h ▸ ZG _)
  ·rw[ZH.mp h]at aL;have hI':s.heap.objs.size+1<=I:=by rw[←hHs];exact hI
   exact absurd (Z1 aL (Nat.le_of_succ_le hI')) (ZG _)
 ·have e:acc'.toList=vs:=by
   refine List.ext_getElem? λi=>?_;rw[Array.getElem?_toList];cases q:acc'[i]? with
   |none =>
    have hv:vs.length=ar.size:=by rw[bj.length_eq];simp
    rw[Array.getElem?_eq_none_iff,bv.1]at q;rw[List.getElem?_eq_none qe]
   |some v=>exact(bv.2 i v q).symm
  rw[e];exact bj
end
section
def Inv.went {s':Xe} (I:Inv X aa σ H s) (k:∀b u,s.heap.get? b=some u->s'.heap.get? b=some u) (hg:s'.gens=s.gens) (ho:s'.os=s.os):Inv X aa σ H s':=by
 have I1:=I.kept (t':=s'.toks) k;exact⟨I1.ok,ho.trans I.os,hg ▸ I.bare,I1.base,I1.loc,I1.cell,I1.free,I1.cJ,I1.pin,I1.aF,I1.len⟩
end
def No {h':Heap}{ks:List Key}{led:Bool} (e:∀o,h.get? a=some o->h'.get? a=some o) (x:dh (AY P w) h a ks led):dh (AY P w) h' a ks led :=
 let ⟨o,ar,ep,t,fq,q,r⟩:=x;⟨o,ar,ep,t,fq,e _ q,r⟩
def R9 (acc:List Key) (k:Key):acc.length<=(Hl acc k).length:=by
 unfold Hl;split
 ·exact Zz _
 ·exact Nat.le_succ _
def Ju (elt target iter:Expr) (ifs:List Expr) (scope:Scope) (pos:Pos) (it:Value) (D:Xd) (env:Env) :
  compTurn (.SetComp elt [⟨target,iter,ifs,0⟩] scope pos) 0 it (.ref D) env=(do
   standAt iter.pos
   match ←pyNext it with
   |none=>pure (.done .next)
   |some v =>
    letOwnedTupleGo target it v
    assign target env v
    let mut ok:=true
    for c in ifs do
     if ok then ok ←isTrue c env (eval c env)
    if ok then
     (do
      let v ←eval elt env
      standAt elt.pos
      let _ ←call (.builtin "set.add") [.ref D,v])
    again (.compLoop (.SetComp elt [⟨target,iter,ifs,0⟩] scope pos) 0 it (.ref D) env)):=by rfl
section
variable {prog:Program}{R:Result->Xe->Prop}
def Ds {elt target iter ifs rest scope pos it acc env}
    (h0:codeAny (model prog w) A (.compLoop (.SetComp elt (⟨target,iter,ifs,0⟩::rest) scope pos) 0 it acc env) R s)
    (h:wpAny (model prog w) A (pyIter it) (λit' s'=>codeAny (model prog w) A (.compLoop (.SetComp elt (⟨target,iter,ifs,0⟩::rest) scope pos) 0 it' acc env) R s')
      (notedBy (model prog w) A env λx s'=>R (.error x) s') s) :
    codeAny (model prog w) A (.compStart (.SetComp elt (⟨target,iter,ifs,0⟩::rest) scope pos) 0 it acc env) R s:=by
  refine codeAny_of_tree ?_;show wpAny _ A ((compStart (.SetComp elt (⟨target,iter,ifs,0⟩::rest) scope pos) 0 it acc env).onRaise (λx=>do noteFrame x env;standAt theWindowsPlace)) _ _ s;refine wpAny_notedAt ?_;unfold compStart;show wpAny _ A (ask >>= _) _ _ s;refine Zy (wpAny_askSetting (wpAny_ite ?_));split
  · first
      |exact Zy (Zx (Zx (And.intro rfl h0)))
      |exact Zx (And.intro rfl h0)
  · first
      |exact Zy (wpAny_rule (Zy (ZK (Zy (Zw h (λit' s' h'=>Zx (And.intro rfl h')) λ_ _ x=>x)))))
      | (refine Zy (wpAny_rule ?_);show wpAny _ _ (standAt iter.pos >>= _) _ _ s;exact Zy (ZK (Zy (Zw h (λit' s' h'=>Zx (And.intro rfl h')) λ_ _ x=>x))))
def K1 {ks:List Key}{k:Key}{x:Value}{led:Bool}{Q:VS} (hx:(AY prog w).is k x=true) (hS:dh (AY prog w) s.heap a ks led) (hn:ks.length+1<scanBound)
  (h1:k∈ks->Q .none { s with toks:=s.toks+1 }) (h2:k∉ ks->∀h',Heap.SameBut a s.heap h'->dh (AY prog w) h' a (k::ks) led->Q .none { s with heap:=h',toks:=s.toks+1 }) :
  wpAny (model prog w) A (call (.builtin "set.add") [.ref a,x]) Q E s:=by
 have hT:s.TypeIs (.ref a) "set" := by
  obtain⟨o,ar,ep,t,fq,e,ex,_⟩:=id hS;exact⟨o,e,ex.1⟩
 refine wpAny_call_entry PySem.F.slot_set_add hT PySem.F.entry_set_add ?_ (PySem.F.args_set_add_2 _ _);unfold Builtin.«set.add» Builtin.Frozenset.oneOther;simp only[List.isEmpty_nil,bind_assoc];unfold Builtin.Frozenset.addrOf setAdd;refine Zy (Zx ?_)
 try dsimp only
 refine Zy (Zx ?_)
 try dsimp only
 refine Zy ?_;refine ZL (Zy ((AY prog w).pyHash hx ?_));refine Wy hx (QH hx) hS hn (λhm=>?_) (λhm h' sb SX=>?_)
 ·exact Zx ⟨_,Zj,h1 hm⟩
 ·exact Zx ⟨_,Zj,h2 hm h' sb SX⟩
end
def Mq (wi:TI) (g:TG) (tt:TT) (te:TE) (ix:List (Option Nat)) (R:List Key->Hp->Prop):St->Hp->Prop:=λσ H=>wi σ H λJ H1=>∃W:Nat->Nat->List Key->Hp->Prop,(∃m,W 0 m [] H1)/\∀i m ys H,W i m ys H ->
 (J.stop i H/\ys.length<=1000/\R ys H) \/
 (J.go i H/\∃N:List Key->Hp->Prop,(∀cX H',N cX H'->cX.length<=1000/\∃m',m'<m/\W (i+1) m' cX H') /\
  ∀x H',J.g8 i H x H'->g x (Cc ix σ) H' λcK H2=>tt cK H2 λb H3=>if b=true then te cK H3 λy H4=>∃k,y=kV k/\N (Hl ys k) H4 else N ys H3)
section
variable {N':Xa}{ix:List (Option Nat)}{scope:Scope}{tg iter elt:Expr}{ifs:List Expr}{wi:TI}{g:TG}{tt:TT}{pos':Pos}
def Mr {RD:Cx->Prop}{use:Option (Value->Sem Unit)}{Qv:VS} (hf:aY X.env.scope scope X.N N' ix) (hc:∀cl s H C fp aa,RD (Al X N' scope cl s H C fp (X.pn++aa))) (hi:PIg RD X tg iter wi)
  (hg:∀cl s H C fp pn,PGk (Al X N' scope cl s H C fp pn) tg ix g) (ht:∀cl s H C fp pn,i5 (Al X N' scope cl s H C fp pn) ifs tt) (he:∀cl s H C fp pn,PE (Al X N' scope cl s H C fp pn) elt te)
  (hs:∀x,foldedSetIterable iter X.env x=pure x) {aa:LO}{s:Xe}{σ:St}{H:Hp}{R:List Key->Hp->Prop} (I:Inv X aa σ H s) (h:Mq wi g tt te ix R σ H)
  (cy:∀s' ys H' D C m,Inv X aa σ (upd H' D (Jr X.prog X.w D ys)) s'->R ys H'->H' D=none->s'.heap.Ns C m->X.aX.heap.objs.size<=C->C≠X.env.locals->(∀x c,X.env.cells.lookup x=some c->c≠C)->(∀p∈X.pn++aa,p.1≠C) ->
   upd H' D (Jr X.prog X.w D ys) C=none->compPost (model X.prog X.w) X.A X.xe use Qv (.ref D) C (.ok .next) s') :
  wpAny (model X.prog X.w) X.A (comprehension (.SetComp elt [⟨tg,iter,ifs,0⟩] scope pos) scope X.env pos' (newSet (.type "set")) false (eval iter X.env) use) Qv X.xe s:=by
 obtain⟨cl,cz,c1,c2⟩:=Na (env:=X.env) (scope:=scope) λy hy hyf=>by
  have:=hf.free y hy hyf;exact I.ok.has y.1 this
 refine wpAny_comprehension_free (use:=use) Zj hs cz hf.kind hf.loc (aG (hi aa s σ H _ I h) λv s1 h1=>aG h1 λitv s2 h2=>?_);obtain⟨it,fp,tn,J,H2,e,I2,T,jj,f2,W,⟨m0,w0⟩,turn⟩:=h2;subst e
 have aL:∀b∈fp,b<s2.heap.objs.size:=λb hb=>by
  obtain⟨o,e,_⟩:=T.obj _ _ jj b hb;exact lt_size e
 unfold newSet setsByText;refine Zy (Zy (wpAny_askSetting (Zx ?_)));show wpAny _ _ (newObj (.type "set") (.set #[] 0 (SetTable.fresh 0 0 (FY X.w)))) _ _ _;refine wpAny_newObj_type (wpAny_newFunctionEnv hf.nocell (by intro y hy;simp at hy) (λeF hns₁ dQ=>?_) hf.kind)
 dsimp only at hns₁ dQ ⊢
 generalize hH2:s2.heap.push { cls:=.type "set", data:=.set #[] 0 (SetTable.fresh 0 0 (FY X.w)) }=HP at hns₁ dQ ⊢;have hC:HP.objs.size=s2.heap.objs.size+1:=by rw[←hH2,Heap.size_push]
 have iV:s2.heap.objs.size≠HP.objs.size:=by rw[hC];exact ZD (Nat.lt_succ_self _)
 have eT:s2.heap.objs.size<=HP.objs.size:=by rw[hC];exact Nat.le_succ _
 have hCne:∀b,b<s2.heap.objs.size->b≠HP.objs.size:=λb hb=>by rw[hC];exact ZD (Nat.lt_succ_of_lt hb)
 have old:∀b o,s2.heap.get? b=some o->eF.get? b=some o:=λb o e=>dQ.extBut b o (hCne b (lt_size e)) (ZW _ (hH2 ▸ ZW _ e));have bv:eF.get? s2.heap.objs.size=some { cls:=.type "set", data:=.set #[] 0 (SetTable.fresh 0 0 (FY X.w)) }:=dQ.extBut _ _ iV (ZW _ (hH2 ▸ ZO _ rfl));generalize hCC:HP.objs.size=C at *;generalize gm:s2.heap.objs.size=D at *;have IX:=HU (N':=N') (fp:=fp) I2 hf c1 c2 (by rw[gm];exact eT) f2 (by rw[gm];exact aL) (tk:=s2.toks+([]:List (Str×Value)).length) old hns₁;have hDn:H2 D=none:=I2.aF.fresh (by rw[gm];exact Zz _)
 have hDfs:D∉ dn X.stack:=λz=>by
  rcases mem_cons.mp (I2.d7 D z)with q |q
  ·have:=I2.lt;rw[←q,gm]at this;exact ZG _ this
  ·exact I2.nofs (by rw[gm];exact Zz _) q
 have cellLt:∀x c,X.env.cells.lookup x=some c->c<D:=λx c e=>by
  obtain⟨v,z⟩:=I2.cell x c e;rw[←gm];exact z.lt
 have pinLt:∀p∈X.pn++aa,p.1<D:=λp hp=>by rw[←gm];exact lt_size (I2.pin p hp).1
 have s0D:X.aX.heap.objs.size<=D:=by rw[←gm];exact I2.sz
 have locLt:X.env.locals<D:=by rw[←gm];exact I2.lt
 let X':Cx:=Al X N' scope cl s2 H2 C fp (X.pn++aa)
 have fQ:∀ {H':Hp}{ob:Obj},(∀b∈fp,H' b=none)->∀b∈fp,Ef X' [(D,ob)] H' b:=λ{H' ob} hn b hb=>by
  refine⟨hn b hb,ZD (Z1 (aL b hb) eT),λz=>?_,.inl hb,λx c e=>(f2 b hb).2.2.2.2.1 x c (c1 x c e),λp hp=>?_⟩
  ·exact IX.ok.fZ b hb z
  ·rcases mem_append.mp hp with z |z
   ·exact(f2 b hb).2.2.2.2.2 p z
   ·have e:p=(D,ob):=by simpa using z
    subst e;exact Nat.ne_of_gt (aL b hb)
 have pinD:∀ {aJ:St}{H':Hp}{s':Xe}{ob:Obj},Inv X' [] aJ H' s'->s'.heap.get? D=some ob->H' D=none->(∀v,ob.data≠ .cell v)->Inv X' [(D,ob)] aJ H' s':=λ{aJ H' s' ob} Ia e n d =>
  Ia.cS λp hp=>by
   have q:p=(D,ob):=by simpa using hp
   subst q;exact⟨e,n,iV,hDfs,d⟩
 have loop:∀s3:Xe,s3={ s2 with heap:=eF,toks:=s2.toks+([]:List (Str×Value)).length } ->
   codeAny (model X.prog X.w) X.A (.compLoop (.SetComp elt [⟨tg,iter,ifs,0⟩] scope pos) 0 (.ref it) (.ref D) (compEnvC scope cl C X.env)) (compPost (model X.prog X.w) X.A X.xe use Qv (.ref D) C) s3:=by
  rintro s3 rfl
  refine codeAny_loop Zj (λn s'=>∃i ys ob H',Inv X' [(D,ob)] (Cc ix σ) H' s'/\tn i s'.heap/\(∀b∈fp,H' b=none)/\W i n ys H'/\dh (AY X.prog X.w) s'.heap D ys (FY X.w))
   (λn s4 hI=>?_) m0 ⟨0,[],_,H2,pinD IX bv hDn (λv z=>by cases z),T.keep _ _ _ jj (λb _ o e=>old b o e),λb hb=>(f2 b hb).1,w0,Oq bv⟩
  obtain⟨i,ys,ob,H4,I4,st4,fr4,w4,dd4⟩:=hI;show wpAny _ X.A ((compTurn (.SetComp elt [⟨tg,iter,ifs,0⟩] scope pos) 0 (.ref it) (.ref D) (compEnvC scope cl C X.env)).onRaise (λx=>do noteFrame x (compEnvC scope cl C X.env);theTreesLotGoes x)) _ _ s4;refine wpAny_noted ?_;rw[Ju];refine DN ?_;rcases turn i n ys H4 w4 with⟨stop,hz,r⟩ |⟨go,N,hN,step⟩
  ·refine Zy (ZK (Zy (aG (T.done X' Zj Zj Zj (hc _ _ _ _ _ _) i _ s4 _ H4 _ I4 (fQ fr4) st4 stop) λr' s5 ⟨hr,I5⟩=>?_)));subst hr;have pD:=I5.pin (D,_) (ZS _ ZJ);have Ib:Inv X aa σ H4 s5:=Iu I2 f2 I5;have pD4:=I4.pin (D,_) (ZS _ ZJ);have dd5:=No (h':=s5.heap) (λo e=>by rw[pD4.1]at e;cases e;exact pD.1) dd4;have Ic:Inv X aa σ (upd H4 D (Jr X.prog X.w D ys)) s5:=Ib.track pD.2.1 (Nat.ne_of_gt locLt) (.inr s0D) (λx c e=>ZD (cellLt x c e)) (λp hp=>ZD (pinLt p hp)) (UF dd5);obtain⟨m5,n5,_⟩:=I5.loc
   refine Zx (cy s5 ys H4 D C m5 Ic r pD.2.1 n5 (Nat.le_trans s0D eT) (Nat.ne_of_gt (Z1 locLt eT)) (λx c e=>ZD (Z1 (cellLt x c e) eT))
    (λp hp=>ZD (Z1 (pinLt p hp) eT)) ?_)
   rw[AH (Ne.symm iV)];exact I5.free
  ·refine Zy (ZK (Zy (aG (T.item X' Zj Zj Zj (hc _ _ _ _ _ _) i _ s4 _ H4 _ I4 (fQ fr4) st4 go) λr' s5 ⟨u,hr,h5⟩=>?_)));subst hr;refine Zy (aG h5 λ_ s6 ⟨x,H6,I6,r6,y6,st6,fr6⟩=>?_);have I6':=I6.pinned (fQ fr6) (T.obj _ _ st6);refine Zy (aG (hg _ _ _ _ _ _ _ s6 _ H6 x u _ I6' r6 (step x H6 y6)) λ_ s7 ⟨fH,H7,I7,k7,q7⟩=>?_);refine Zy (aG (ht _ _ _ _ _ _ _ s7 fH H7 _ I7 q7) λb s8 ⟨H8,I8,q8⟩=>?_)
   have again:∀ {H9:Hp}{s9:Xe}{cX:List Key}{ob':Obj},Inv X' ([(D,ob')]++Cq fp s6.heap) fH H9 s9->dh (AY X.prog X.w) s9.heap D cX (FY X.w) ->
     (∃m',m'<n/\W (i+1) m' cX H9)->∃m,m<n/\∃i ys ob H',Inv X' [(D,ob)] (Cc ix σ) H' s9/\tn i s9.heap/\(∀b∈fp,H' b=none)/\W i m ys H'/\dh (AY X.prog X.w) s9.heap D ys (FY X.w):=by
    intro H9 s9 cX ob' I9 g6 ⟨m',hm,w9⟩;refine⟨m',hm,i+1,cX,ob',H9,I9.unpinned.weak (I4.len.trans I9.len.symm) k7,T.keep _ _ _ st6 λb hb o e=>(I9.pin (b,o) (ZS _ (ZS _ (CK hb e)))).1,λb hb=>?_,w9,g6⟩;obtain⟨o,e,d⟩:=T.obj _ _ st6 b hb;exact(I9.pin (b,o) (ZS _ (ZS _ (CK hb e)))).2.1
   have pD4:=I4.pin (D,_) (ZS _ ZJ)
   have dAt:∀ {σ9:St}{H9:Hp}{s9:Xe},Inv X' ([(D,ob)]++Cq fp s6.heap) σ9 H9 s9->dh (AY X.prog X.w) s9.heap D ys (FY X.w):=λ{σ9 H9 s9} I9=>No (λo e=>by
    rw[pD4.1]at e;cases e
    exact(I9.pin (D,_) (ZS _ (ZQ _ ZJ))).1) dd4
   cases b with
   |false =>
    rw[Zr Bool.false_ne_true]at q8;exact Zx ⟨Zj,again I8 (dAt I8) (hN _ _ q8).2⟩
   |true =>
    rw[Zq rfl]at q8;refine Zy (Zy (aG (he _ _ _ _ _ _ _ s8 fH H8 _ I8 q8) λy s9 ⟨z,H9,I9,r9,kk,ek,q9⟩=>?_));subst ek;refine Zy (ZK ?_);have hz:(Hl ys kk).length<=1000:=(hN _ _ q9).1
    have hb:ys.length+1<scanBound:=by
     have h1:=R9 ys kk;have:(4096:Nat)=scanBound:=rfl;omega
    have pD:=I9.pin (D,_) (ZS _ (ZQ _ ZJ));refine Zy (K1 (HN r9) (dAt I9) hb (λhm=>?_) (λhm h2 sb2 dd2=>?_))
    ·have ea:Hl ys kk=ys:=by unfold Hl;rw[Zq hm]
     rw[ea]at q9;have I9':=I9.tok (s9.toks+1);exact Zx (Zx ⟨Zj,again I9' (dAt I9') (hN _ _ q9).2⟩)
    ·have ea:Hl ys kk=kk::ys:=by unfold Hl;rw[Zr hm]
     rw[ea]at q9;obtain⟨ob2,ar2,ep2,t2,ks2,q,ex2,dt2,rest2⟩:=id dd2;have Iw:Inv X' (Cq fp s6.heap) fH H9 s9:=I9.cS λp hp=>I9.pin p (ZS _ (ZS _ hp))
     have It:Inv X' (Cq fp s6.heap) fH H9 { s9 with heap:=h2,toks:=s9.toks+1 }:=Iw.turned (it:=D) (λb o hb e=>(sb2.2 b hb).trans e) pD.2.1 iV
      (.inr (by show s2.heap.objs.size<=D;rw[gm];exact Zz _)) (λx c e=>ZD (cellLt x c (c1 x c e))) (λp hp=>by
       rcases mem_append.mp hp with z' |z'
       ·exact ZD (pinLt p z')
       ·exact ZD (aL p.1 (Fu z').1))
     refine Zx (Zx ⟨rfl,again (ob':=ob2) (It.cS λp hp=>?_) dd2 (hN _ _ q9).2⟩);rcases mem_append.mp hp with z' |z'
     ·have e:p=(D,ob2):=by simpa using z'
      subst e;exact⟨q,pD.2.1,iV,hDfs,λv z=>by rw[dt2]at z;cases z⟩
     ·exact It.pin p (ZS _ z')
 exact Ds (loop _ Zj) (T.self _ 0 _ _ _ (T.keep _ _ _ jj λb _ o e=>old b o e) (loop _ Zj))
def QI (hf:aY X.env.scope scope X.N N' ix) (hc:X.calm=true) (hi:PI X tg iter wi)
  (hg:∀cl s H C fp pn,PGk (Al X N' scope cl s H C fp pn) tg ix g) (ht:∀cl s H C fp pn,i5 (Al X N' scope cl s H C fp pn) ifs tt) (he:∀cl s H C fp pn,PE (Al X N' scope cl s H C fp pn) elt te)
  (hs:∀x,foldedSetIterable iter X.env x=pure x:=by intro _;rfl) :
  PE X (.SetComp elt [⟨tg,iter,ifs,0⟩] scope pos) (λσ H Q=>Mq wi g tt te ix (λys H'=>∀p,H' p=none->Q (.ref p) (upd H' p (Jr X.prog X.w p ys))) σ H):=by
 intro aa s σ H Q I h;rw[arm_eval_SetComp];refine Mr (use:=none) hf (λ_ _ _ _ _ _=>hc) hi.g hg ht he hs I h λs' ys H' D C m I' r hD hn h1 h2 h3 h4 h5=>?_;refine⟨m,hn,λh'' hs''=>⟨.ref D,_,I'.turned (it:=C) (t':=s'.toks) (λb o hb e=>(hs''.2 b hb).trans e) h5 h2 (.inr h1) h3 h4,Zj,r D hD⟩⟩
variable {px:Pos}
def Os (Nc:Xa) (gO:List (Option Nat)) (hf:Iq X.env.scope scope X.N (x::Nc) (none::gO)=true) (ja:(x::Nc).Nodup) (hx:scope.names.lookup x=some .local) (hc:X.calm=true) (hi:PI X (.Name x px) iter wi)
  (ht:∀cl s H C fp pn,i5 (Al X (x::Nc) scope cl s H C fp pn) ifs tt) (he:∀cl s H C fp pn,PE (Al X (x::Nc) scope cl s H C fp pn) elt te)
  (hs:∀x,foldedSetIterable iter X.env x=pure x:=by intro _;rfl) :
  PE X (.SetComp elt [⟨.Name x px,iter,ifs,0⟩] scope pos) (λσ H Q=>Mq wi (Cy 0) tt te (none::gO) (λys H'=>∀p,H' p=none->Q (.ref p) (upd H' p (Jr X.prog X.w p ys))) σ H) :=
 QI (aY.of hf) hc hi (λcl s H C fp pn=>HV (AZ (i:=0) ja rfl (.inl (Z5 hx)) (.inr (Z5 hx)))) ht he hs
end
def Ms {ss:Xa}:∀ {us:Xb},Vals (ss.map V.str) us->StrsAre us ss:=by
 induction ss with
 |nil=>intro us r;rw[map_nil]at r;cases r;exact .nil
 |cons x ss ih =>
  intro us r;cases r with
  |cons h t =>
   obtain⟨tk,rfl⟩:=(show ∃t,_=Value.str x t from h);exact .cons x tk (ih t)
def Ho:∀ {vs:Xb}{ss:Xa},StrsAre vs ss->Vals (ss.map V.str) vs
 |_,_,.nil=>.nil
 |_,_,.cons x t h=>.cons ⟨t,rfl⟩ (Ho h)
section
def Jv (hc:X.calm=true):bQ X (.builtin "sorted") (λxs H Q=>∃(a:Xd) (ms:Xa),xs=[.ref a]/\H a=some (Jr X.prog X.w a (ms.map Sum.inr))/\ms.length<64 /\
  ∀(l:Xd) (ns:Xa),H l=none->ns.Perm ms->sortedS ns=true->Q (.ref l) (upd H l (.lst (ns.map V.str)))):=by
 intro aa s σ H xs us Q I r h;obtain⟨a,ms,rfl,hS,h64,q⟩:=h;obtain⟨u,rfl,ru⟩:=CI r;cases ru;obtain⟨o,ar,ep,t,fq,ho,hx,hd,K,hl,hp,hpr,hb⟩:=UG I.aF hS;have hA:X.A.handled=none:=I.ok.hd hc;refine Calls.call_function_entry kind_sorted plain_sorted entry_sorted (args_sorted1 _) ?_;unfold Builtin.«sorted»;refine Zy (m:=checkCount "sorted" 1 1 _) (Zx ?_);refine Zy (K0 (A:=X.A.in1) hA hx ho hd K hl hb λs' acc keep hg hos bj=>?_);obtain⟨k2,p2,h2⟩:=Kz bj (Hn hpr);have hk2:k2.Perm (ms.map Sum.inr):=p2.trans hp
 obtain⟨m2,e2⟩:∃m2:Xa,k2=m2.map Sum.inr:=by
  refine⟨k2.map λk=>match k with |Sum.inl i => "" |Sum.inr x=>x,?_⟩;rw[map_map];refine(List.map_id k2).symm.trans (List.map_congr_left λk hk=>?_);obtain⟨i,_,e⟩:=Zs.mp (hk2.mem_iff.mp hk);subst e;rfl
 subst e2
 have hm2:m2.Perm ms:=by
  have:=hk2.map (λk:Key=>match k with |Sum.inl i=>("" : Str) |Sum.inr x=>x);simpa[map_map,Function.comp_def]using this
 have ce:StrsAre acc m2:=by
  refine Ms (show Vals (m2.map V.str) acc from ?_)
  have:∀ {ms:Xa}{vs:Xb},Paired (λk v=>RelV (kV k) v) (ms.map Sum.inr) vs->Vals (ms.map V.str) vs:=by
   intro ms;induction ms with
   |nil=>intro vs h;cases h;exact .nil
   |cons x r ih=>intro vs h;cases h with |cons r t=>exact .cons r (ih t)
  exact this h2
 have hal:acc.length=ms.length:=by
  rw[←hm2.length_eq,←ce.strs,AS]
 have hz:acc.length<=sizeLine:=by
  have:sizeLine=2 ^ 24:=rfl;omega
 refine Zy (wpAny_newList ?_ hz);have I1:Inv X aa σ H s':=I.went keep hg hos;have i9:(s'.heap.push { cls:=.type "list", data:=.seq acc.toArray }).get? s'.heap.objs.size=some (seqObj "list" acc.toArray 0):=ZO _ rfl;refine Zy (ZL (wpAny_call_entry slot_list_sort ⟨_,i9,Zj⟩ entry_list_sort (list_sort_treeK strKind_oneLt i9 ce.keysOf (λv₁ v₂ rest e=>keyKind_strs (by rw[←e];exact ce)) (by rw[hal];exact h64) λfV hp' hs'=>⟨_,Zj,?_⟩) (args_list_sort _)));refine Zx ⟨_,Zj,?_⟩;obtain⟨ns',a1,a2,a3⟩:=sorted_out_str ce hp' hs';have hn:H s'.heap.objs.size=none:=I1.aF.fresh (Zz _);have ba:ns'.length=acc.length:=by rw[a2.length_eq,←ce.strs,AS]
 refine⟨.ref s'.heap.objs.size,_,I1.laid (t':=s'.toks) (o:=.lst (ns'.map V.str)) (h':=sortedHeap (s'.heap.push { cls:=.type "list", data:=.seq acc.toArray }) s'.heap.objs.size acc ((arrOf fV).map (·.2))) (λb o e=>?_) (Zz _) ⟨by rw[AS,ba];exact hz,((arrOf fV).map (·.2)).toList,?_⟩,Zj,q _ ns' hn (a2.trans hm2) a3⟩
 ·rw[sortedHeap_old (ZD (lt_size e)) (lt_size (ZW _ e))];exact ZW _ e
 ·obtain⟨c,hcx⟩:=sortedHeap_at (out:=(arrOf fV).map (·.2)) i9;exact⟨c,Ho a1,by rw[Array.toArray_toList];exact hcx⟩
end
end L2
end
section
namespace MK
open PySem
def HC (a b:Nat):Builtin.bitAnd (a:Int) (b:Int)=((a&&&b:Nat):Int):=by
 rw[PyProof.Rows.bitAnd_pp (Z0 _) (Z0 _)];simp
def F9 (a b:Nat):Builtin.bitOr (a:Int) (b:Int)=((a |||b:Nat):Int):=by
 have ha:¬ (0:Int)<=Builtin.bitNot (a:Int):=by unfold Builtin.bitNot;omega
 have hb:¬ (0:Int)<=Builtin.bitNot (b:Int):=by unfold Builtin.bitNot;omega
 unfold Builtin.bitOr;rw[PyProof.Rows.bitAnd_nn ha hb];have e:∀n:Nat,(Builtin.bitNot (Builtin.bitNot (n:Int))).toNat=n:=λn=>by unfold Builtin.bitNot;omega
 rw[e a,e b];unfold Builtin.bitNot;omega
def Hq (a b:Nat):Builtin.bitAnd (a:Int) (Builtin.bitNot (b:Int))=((a - (a&&&b):Nat):Int):=by
 rw[PyProof.Rows.bitAnd_not,HC];have:a&&&b<=a:=Nat.and_le_left;omega
noncomputable def B5 (l:List Nat):Nat:=l.foldl (· ||| ·) 0
def Fa (k:Nat):∀(l:List Nat) (a:Nat),(l.foldl (· ||| ·) a).testBit k=(a.testBit k ||l.any (·.testBit k))
 | [],a=>by simp
 |x::r,a=>by rw[foldl_cons,Fa k r,Nat.testBit_or,any_cons,Bool.or_assoc]
def EO (l:List Nat) (k:Nat):(B5 l).testBit k=l.any (·.testBit k):=by
 unfold B5;rw[Fa];simp
def K2 {l:List Nat}{m:Nat} (h:∀n∈l,n<2 ^ m):B5 l<2 ^ m:=by
 have:∀(l:List Nat) (a:Nat),a<2 ^ m->(∀n∈l,n<2 ^ m)->l.foldl (· ||| ·) a<2 ^ m:=by
  intro l;induction l with
  |nil=>intro a ha _;exact ha
  |cons x r ih=>intro a ha hl;exact ih _ (Nat.or_lt_two_pow ha (hl x ZJ)) λn hn=>hl n (ZR _ hn)
 exact this l 0 (Nat.two_pow_pos m) h
def Hr (l:List Nat) (n:Nat):B5 (l++[n])=B5 l |||n:=by unfold B5;rw[foldl_append];rfl
noncomputable def Bb (m:Nat):Nat:=2 ^ (Builtin.Int.intBits (m:Int))
def D4 {m:Nat} (h:0<m):Builtin.Int.intBits (m:Int)=m.log2+1:=by
 unfold Builtin.Int.intBits;have:((m:Int)==0)=false:=by rw[beq_eq_false_iff_ne];omega
 rw[this];simp
def K3 {m k:Nat} (h1:m<2 ^ k) (h2:k=0\/2 ^ (k - 1)<=m):2 ^ k=Bb m:=by
 unfold Bb;congr 1;rcases Nat.eq_zero_or_pos m with e |hm
 ·subst e
  have:k=0:=by
   rcases h2 with z |z
   ·exact z
   ·have:=Nat.two_pow_pos (k - 1);omega
  rw[this];rfl
 ·rw[D4 hm];rcases h2 with z |z
  ·subst z;simp at h1;omega
  ·have hk:0<k:=by rcases Nat.eq_zero_or_pos k with e |e
                   ·subst e;simp at h1;omega
                   ·exact e
   have e:m.log2=k - 1:=by
    apply Nat.le_antisymm
    ·have:m.log2<k:=(Nat.log2_lt qe).mpr h1;omega
    ·exact(Nat.le_log2 qe).mpr z
   omega
end MK
end
end
variable {P:PySem.Program}{w:PySem.World}{K:FG}{mg:SV}{base:PySem.Heap}{fd:PySem.FuncData}{H:L2.Hp}{H':L2.Hp}{aB:Aa}{ac:Aa}{C:PySem.Addr}{VC:PySem.Addr}{EC:PySem.Addr}
section
namespace Mk
open PySem L2 MK
noncomputable def top (i:Nat):Stmt:=PySem.Challenge.pw_markworks_k32_formulas_refused.main.body.getD i (.Pass ⟨0,0,0,0⟩)
noncomputable abbrev BA:Stmt:=inClass (top 1) 0
noncomputable abbrev Db:Stmt:=inClass (top 8) 0
noncomputable abbrev Fb:Stmt:=top 18
noncomputable abbrev Jw:Stmt:=top 19
noncomputable abbrev Hs:Stmt:=top 21
noncomputable abbrev Ht:Stmt:=top 22
noncomputable abbrev GG:Stmt:=top 24
noncomputable abbrev Eu:Stmt:=top 25
noncomputable abbrev Dc:Stmt:=top 26
noncomputable abbrev Ew:Stmt:=top 27
noncomputable abbrev GH:Stmt:=top 28
noncomputable abbrev D5:Stmt:=top 29
noncomputable abbrev CM:Stmt:=inClass (top 30) 0
noncomputable abbrev C1:Stmt:=inClass (top 30) 2
noncomputable abbrev Ex:Stmt:=inClass (top 30) 6
noncomputable abbrev GQ:Stmt:=inClass (top 30) 7
noncomputable abbrev EQ:Stmt:=top 33
noncomputable abbrev Jx:Stmt:=top 34
noncomputable abbrev Ey:Stmt:=inClass (top 35) 0
noncomputable abbrev Dd:Stmt:=inClass (top 35) 1
noncomputable abbrev Fc:Stmt:=inClass (top 35) 5
noncomputable abbrev QJ:Stmt:=top 36
noncomputable abbrev GV:Stmt:=top 41
noncomputable abbrev Ez:Stmt:=top 42
noncomputable abbrev Jy:Stmt:=top 43
noncomputable abbrev Hu:Stmt:=top 44
noncomputable abbrev De:Stmt:=inClass (top 45) 0
noncomputable abbrev CN:Stmt:=inClass (top 45) 1
noncomputable abbrev CO:Stmt:=inClass (top 45) 2
noncomputable abbrev CA:Stmt:=inClass (top 45) 3
noncomputable abbrev Bh:Stmt:=inClass (top 45) 4
noncomputable abbrev CB:Stmt:=inClass (top 45) 5
noncomputable abbrev Ct:Stmt:=inClass (top 45) 6
noncomputable abbrev Df:Stmt:=inClass (top 45) 7
noncomputable abbrev Bc:Stmt:=top 46
noncomputable abbrev E3:Stmt:=top 47
noncomputable abbrev Jz:Stmt:=top 48
noncomputable abbrev C2:Stmt:=top 49
noncomputable abbrev ER:Stmt:=top 50
noncomputable abbrev DQ:Stmt:=top 53
noncomputable abbrev Fd:Stmt:=top 54
noncomputable abbrev Hv:Stmt:=top 56
noncomputable abbrev Np:Stmt:=top 58
noncomputable abbrev Hw:Stmt:=top 60
noncomputable abbrev GY:Stmt:=top 61
noncomputable abbrev Fe:Stmt:=top 62
noncomputable abbrev E4:Stmt:=top 63
noncomputable abbrev D6:Stmt:=top 64
noncomputable abbrev Aj:Stmt:=top 65
noncomputable abbrev CP:Stmt:=top 66
noncomputable abbrev Ff:Stmt:=top 67
noncomputable abbrev C3:Stmt:=top 68
noncomputable abbrev D7:Stmt:=top 69
noncomputable abbrev GZ:Stmt:=top 70
noncomputable abbrev BR:Stmt:=top 71
structure Fn (P:Program) (w:World) (K:FG) (mg:SV) (base:Heap) (x:Str) (k:Nat) (ps:Xa) (sp:Sp):Prop where
 ex:∃f fd,AU P w K mg base aK k f fd ps sp/\mg x=some (.ref f)/\W.keepIn K (.ref f)=true/\Binds K fd ps []
structure Bl (mg:SV):Prop where
 len:mg "len" = none
 ft:mg "isinstance" = none
 max:mg "max" = none
 min:mg "min" = none
 range:mg "range" = none
 list:mg "list" = none
 tuple:mg "tuple" = none
 sorted:mg "sorted" = none
 sum:mg "sum" = none
 all:mg "all" = none
 enum:mg "enumerate" = none
 int:mg "int" = none
 bool:mg "bool" = none
 str:mg "str" = none
noncomputable def BM (ns:List Nat):Xc:=ns.map λ(n:Nat)=>V.int (n:Int)
section
inductive spUnionOf (K:FG) (vs:Xc) (H:Hp) (Q:VK) (_E:XK):Prop where
 |mk (a:Xd) (ns:List Nat) (cD:vs=[.ref a]) (cG:aN K H a (BM ns)) (cI:Q (.int (B5 ns:Nat)) H)
def scUnionOf:AN ["numbers", "bits", "number"] ["numbers"] (defScope Hs):=cQ
def SA {ns:List Nat}{i:Nat}{x:V} (h:(BM ns)[i]?=some x):∃n,ns[i]?=some n/\x=V.int (n:Int):=by
 unfold BM at h;rw[ZF]at h;cases e:ns[i]? with
 |none=>rw[e]at h;cases h
 |some n=>rw[e]at h;exact⟨n,Zj,(Option.some.inj h).symm⟩
def Mu {f:Xd} (F:aV K "union_of" "union_of" Hs f fd):AU P w K mg base aK 1 f fd ["numbers"] (spUnionOf K):=by
 refine F.m scUnionOf λvs H Q E h=>?_;obtain⟨a,ns,rfl,hS,k⟩:=h;refine⟨Zj,λad A outer s hr=>?_⟩
 refine⟨_,AF (Ag (i:=1) scUnionOf.nd Zj (Or.inl Zj) AE)
  (AF (Eg PassesOwn.never rfl (DZ (pv 0)) (AZ (i:=2) scUnionOf.nd rfl (Or.inl rfl))
   (AG (Ll (i:=1) scUnionOf.nd rfl (Or.inl rfl) (pv 2) (Tq:cV _ _ _))))
  (AG (AQ (pv 1)))),?_⟩
 refine⟨_,Zj,a,Zj,⟨_,hS⟩,DH (K:=K) (a:=a) (xs:=BM ns) (λi σ H2=>∃v:Option V,σ=[some (.ref a),some (.int (B5 (ns.take i):Nat)),v]/\H2=H) ⟨none,Zj,Zj⟩ (λi σ H2 _ ⟨_,_,e⟩=>e ▸ hS) ?_ ?_⟩
 ·rintro i x σ H2 hi ⟨v,rfl,rfl⟩;obtain⟨n,hn,rfl⟩:=SA hi;refine⟨_,Zj,_,Zj,_,_,Zj,Zj,?_⟩;refine⟨some (V.int (n:Int)),?_,Zj⟩;rw[ZE,hn,Option.toList_some,Hr];show [some (V.ref a),some (V.int (Builtin.bitOr (B5 (ns.take i):Nat) (n:Nat))),some (V.int (n:Int))]=_;rw[F9]
 ·rintro σ H2 ⟨v,rfl,rfl⟩;refine⟨_,Zj,?_⟩;have e:(BM ns).length=ns.length:=by unfold BM;rw[AS]
  rw[e,ZC];exact k
end
end Mk
end
section
namespace L2
open PySem
def K4 {x:Str}{g:TG}{tt:TT}{te:TE}{ix:List (Option Nat)}{R:Xc->Hp->Prop}{σ:St}{H1:Hp} (Pv:Nat->Xc->Hp->Prop) (h0:Pv 0 [] H1) (hz:∀i ys H,Pv i ys H->ys.length<=1000)
  (hs:∀(i c:Nat) ys H,x.cps[i]?=some c->Pv i ys H->g (.str ⟨#[c]⟩) (Cc ix σ) H λcK H2=>tt cK H2 λb H3=>if b=true then te cK H3 λy H4=>Pv (i+1) (ys++[y]) H4 else Pv (i+1) ys H3) (hd:∀ys H,Pv x.cps.size ys H->R ys H) :
  ∃W:Nat->Nat->Xc->Hp->Prop,(∃m,W 0 m [] H1)/\∀i m ys H,W i m ys H ->
   ((Its x).stop i H/\ys.length<=sizeLine/\R ys H) \/
   ((Its x).go i H/\∃N:Xc->Hp->Prop,(∀cX H',N cX H'->cX.length<=sizeLine/\∃m',m'<m/\W (i+1) m' cX H') /\
    ∀v H',(Its x).g8 i H v H'->g v (Cc ix σ) H' λcK H2=>tt cK H2 λb H3=>if b=true then te cK H3 λy H4=>N (ys++[y]) H4 else N ys H3):=by
 refine⟨λi m ys H=>m=x.cps.size - i/\i<=x.cps.size/\Pv i ys H,⟨_,Zj,Nat.zero_le _,h0⟩,?_⟩;rintro i m ys H ⟨rfl,hi,hp⟩;by_cases aL:i<x.cps.size
 ·refine .inr ⟨aL,Pv (i+1),λcX H' q=>⟨Nat.le_of_lt (AK (hz _ cX H' q)),x.cps.size - (i+1),qe,Zj,aL,q⟩,?_⟩;rintro v H' ⟨rfl,c,hc,rfl⟩;exact hs i c ys H' hc hp
 ·have e:i=x.cps.size:=by omega
  subst e;exact .inl ⟨Zz _,Nat.le_of_lt (AK (hz _ ys H hp)),hd ys H hp⟩
end L2
namespace Mk
open PySem L2 MK
def Mv:bootBuiltins "all" = some (.builtin "all"):=by decide +kernel
def Hx:bootBuiltins "isinstance" = some (.builtin "isinstance"):=by decide +kernel
def Ot:bootBuiltins "sorted" = some (.builtin "sorted"):=by decide +kernel
def UH:bootBuiltins "sum" = some (.builtin "sum"):=by decide +kernel
def UI:bootBuiltins "min" = some (.builtin "min"):=by decide +kernel
def UJ:bootBuiltins "max" = some (.builtin "max"):=by decide +kernel
def Ga:bootBuiltins "str" = some (.type "str"):=by decide +kernel
def E5:bootBuiltins "int" = some (.type "int"):=by decide +kernel
def SB:bootBuiltins "bool" = some (.type "bool"):=by decide +kernel
def Hy:bootBuiltins "tuple" = some (.type "tuple"):=by decide +kernel
def J0:bootBuiltins "list" = some (.type "list"):=by decide +kernel
def AD {H1:Hp}{p:Xd}{o:HO} (s:aA H H1) (hp:H1 p=none):aA H (upd H1 p o):=λb u e=>by
 have e':=s b u e;rw[AH (AJ e' hp)];exact e'
noncomputable def BC (c:Nat):Bool:=decide (65<=c)&&decide (c<=90)
noncomputable def Bv (x:Str):Bool:=(decide (1<=x.length)&&decide (x.length<=6))&&x.cps.toList.all BC
section
def CS {X:Cx}{e:Expr}{te:TE}{T:String}{x:Str}{p p2 pos:Pos} (K:FG) (hK:X.K=K) (hg:Gl X "isinstance") (hm:X.mg "isinstance" = none) (hgT:Gl X x) (hmT:X.mg x=none) (hvT:bootBuiltins x=some (.type T)) (he:PE X e te)
  (hn:x≠ "__name__" := by decide) (eI:(x==("__debug__" : Str))=false:=by decide)
  (hs:starEach [e,.Name x p2] X.env=(false,eval e X.env)::starEach [.Name x p2] X.env:=by rfl) (hpl:(backTo pos (starEach [.Name x p2] X.env)).any (·.1)=false:=by rfl) (jo:starEach [.Name x p2] X.env=(false,eval (.Name x p2) X.env)::starEach [] X.env:=by rfl) :
  PE X (.Call (.Name "isinstance" p) [e,.Name x p2] [] pos) (tCB (λxs H Q=>∃v T t b,xs=[v,.ty T]/\d4 K H v t/\W.kitOne K t (.type T)=some b/\Q (.bl b) H) (Ab te (Ab (tC (.ty T)) B3))):=by
 subst hK;exact AW Pt hg hm Hx (AA he (AA (NM hgT hmT hvT Zj hn eI) AC jo) hs) qc qc hs hpl
def Au {X:Cx} (K:FG) (hK:X.K=K):IxR X (VN K):=hK ▸ RU
def CT {X:Cx} (K:FG) (hK:X.K=K):IxR X (VP K):=hK ▸ Tv
def BV {X:Cx} (K:FG) (hK:X.K=K):bQ X (.builtin "len") (λxs H Q=>∃p ys,xs=[.ref p]/\(aN K H p ys\/bH K H p ys)/\Q (.int ys.length) H):=hK ▸ FM
inductive spIsName (vs:Xc) (H:Hp) (Q:VK) (_E:XK):Prop where
 |mk (x:Str) (cD:vs=[.str x]) (cG:x.cps.all (· < 128)=true) (cI:x.length<=1000) (cY:∀H',aA H H'->Q (.bl (Bv x)) H')
def QK:AN ["thing"] ["thing"] (defScope Jw):=cQ
def QL (c:Nat):(if (!decide ((⟨#[c]⟩:Str).cps.toList<("A" : Str).cps.toList))=true then (!decide (("Z" : Str).cps.toList<(⟨#[c]⟩:Str).cps.toList))else false)=BC c:=by
 have hA:("A" : Str).cps.toList=[65]:=by decide +kernel
 have hZ:("Z" : Str).cps.toList=[90]:=by decide +kernel
 rw[hA,hZ];show(if (!decide ([c]<[65]))=true then !decide ([90]<[c])else false)=BC c;unfold BC
 have e1:decide ([c]<[65])=decide (c<65):=by
  rw[Bool.eq_iff_iff,decide_eq_true_eq,decide_eq_true_eq,cons_lt_cons_iff];simp
 have e2:decide ([90]<[c])=decide (90<c):=by
  rw[Bool.eq_iff_iff,decide_eq_true_eq,decide_eq_true_eq,cons_lt_cons_iff];simp
 rw[e1,e2];by_cases h1:c<65 <;> by_cases h2:90<c <;> simp[h1,h2] <;> omega
def Ou {f:Xd}{t6:Tok} (F:aV K "is_name" "is_name" Jw f fd) (B:Bl mg) (hL:mg "LONGEST_NAME" = some (.int 6 t6)):AU P w K mg base aK 1 f fd ["thing"] spIsName:=by
 refine F.m QK λvs H Q E h=>?_;obtain⟨x,rfl,ha,hz,k⟩:=h;refine⟨Zj,λad A outer s hr=>?_⟩
 refine⟨_,AF (Ak (PW.pt (DF (BY (A3 (CS K Zj Zj B.ft Zj B.str Ga (pv 0)))) (CJ (BY (B2 EZ EZ AE (AW At Zj B.len PySem.boot_len (AA (pv 0) AC)) (BH (v:=.int 6) Zj hL ⟨t6,Zj⟩))))))
   (AG (AQ By)) AV)
  (AG (AQ (AW (HZ rfl) rfl B.all Mv (AA (DP [] [] qd qb qd rfl (Pp (pv 0)) (λ_ _ _ _ _ _=>Cl) (λ_ _ _ _ _ _=>FH Av Av AI (pv 0) AI)) AC)))),?_⟩
 refine⟨_,Zj,_,_,_,true,Zj,.str x,Zj,_,Zj,?_⟩;refine AT ?_;refine⟨_,Zj,x,Zj,Nat.le_of_lt (AK hz),_,_,Zj,Zj,_,Zj,?_⟩;refine B4 (λh1=>?_) (λh1=>?_)
 ·have h1':1<=x.length:=by have:=ZU h1;omega
  refine⟨_,_,Zj,Zj,_,Zj,?_⟩;refine B4 (λh2=>?_) (λh2=>?_)
  ·have jx:¬ x.length<=6:=by
    intro z;rw[ZM (show(x.length:Int)<=6 by omega)]at h2;cases h2
   have e:Bv x=false:=by unfold Bv;simp[jx]
   have:=k H (aA.refl H);rw[e]at this;exact this
  ·have jx:x.length<=6:=Decidable.byContradiction λz=>h2 (by rw[ZP (show ¬ (x.length:Int)<=6 by omega)];rfl);refine⟨_,Zj,x,Zj,ha,K4 (x:=x) (λi ys H2=>H2=H/\ys=(x.cps.toList.take i).map λc=>V.bl (BC c)) ⟨Zj,Zj⟩ (λi ys H2 ⟨_,e⟩=>?_) ?_ ?_⟩
   ·rw[e,AS,ZB];have:x.cps.toList.length=x.length:=by rw[Array.length_toList];rfl
    omega
   ·rintro i c ys H2 hc ⟨rfl,rfl⟩;refine⟨_,Zj,_,_,Zj,Zj,_,Zj,?_⟩
    have fin:∀b,b=BC c->(H2=H2/\(x.cps.toList.take i).map (λc=>V.bl (BC c))++[V.bl b]=(x.cps.toList.take (i+1)).map λc=>V.bl (BC c)):=λb hb=>by
     refine⟨Zj,?_⟩;have iU:x.cps.toList[i]?=some c:=by rw[Array.getElem?_toList];exact hc
     rw[ZE,iU,Zv,hb];rfl
    have hu:=QL c;refine B4 (λh3=>?_) (λh3=>?_)
    ·rw[Zq h3]at hu;exact⟨_,_,Zj,Zj,fin _ hu⟩
    ·rw[Zr h3]at hu;exact fin _ hu
   ·rintro ys H2 ⟨rfl,rfl⟩ p hp;have el:x.cps.toList.take x.cps.size=x.cps.toList:=take_of_length_le (by rw[Array.length_toList];exact Zz _);refine⟨p,x.cps.toList.map BC,Zj,aN.of (by rw[AB,el,map_map];rfl),?_⟩
    have e:Bv x=((x.cps.toList.map BC).all id):=by
     unfold Bv;rw[ZM h1',ZM jx,all_map];rfl
    rw[←e];exact k _ (AD (aA.refl _) hp)
 ·have h1':¬ 1<=x.length:=λz=>h1 (ZM qe);refine⟨_,Zj,?_⟩;refine Ac ?_;have e:Bv x=false:=by unfold Bv;simp[h1']
  have:=k H (aA.refl H);rw[e]at this;exact this
end
inductive Th where
 |aI |num (n:Nat) |jH (ns:Xa)
def gu (H:Hp) (v:V):Th->Prop
 | .aI=>v=.aI
 | .num n=>v=.int (n:Int)
 | .jH ns=>∃a,v=.ref a/\H a=some (.tup (ns.map V.str))
noncomputable def Do (ns:List Nat):Nat:=ns.foldl max 0
noncomputable def look (aB:Aa) (x:Str):Nat:=((aB.find? λp=>decide (p.1=x)).map (·.2)).getD 0
noncomputable def BB (aB:Aa):LK:=aB.map λp=>(Sum.inr p.1,V.int (p.2:Int))
noncomputable def C4 (aB:Aa):Th->Nat
 | .aI=>Bb (Do (aB.map (·.2)))
 | .num n=>n
 | .jH ns=>B5 (ns.map (look aB))
def E6 (x:Str):∀aB:Aa,BW (BB aB) (Sum.inr x)=(aB.find? λp=>decide (p.1=x)).map λp=>V.int (p.2:Int)
 | []=>rfl
 |p::r=>by
  show BW ((Sum.inr p.1,V.int (p.2:Int))::BB r) (Sum.inr x)=_;by_cases e:p.1=x
  ·rw[Dw (p:=(Sum.inr p.1,V.int (p.2:Int))) (by rw[←e]),List.find?_cons_of_pos (by simpa using e)];rfl
  ·rw[Dx (p:=(Sum.inr p.1,V.int (p.2:Int))) (λz=>e (Sum.inr.inj z)),List.find?_cons_of_neg (by simpa using e)];exact E6 x r
def Ov {x:Str} (h:x∈aB.map (·.1)):(aB.find? λp=>decide (p.1=x)).isSome=true:=by
 obtain⟨p,hp,e⟩:=Zs.mp h;rw[List.find?_isSome];exact⟨p,hp,by simpa using e⟩
def C5 {x:Str} (h:x∈aB.map (·.1)):BW (BB aB) (Sum.inr x)=some (V.int (look aB x:Int)):=by
 rw[E6];unfold look;obtain⟨p,hp⟩:=Option.isSome_iff_exists.mp (Ov h);rw[hp];rfl
def Dg {x:Str} (h:x∉ aB.map (·.1)):BW (BB aB) (Sum.inr x)=none:=by
 rw[E6]
 have:(aB.find? λp=>decide (p.1=x))=none:=by
  rw[List.find?_eq_none];intro p hp e;exact h (Zs.mpr ⟨p,hp,by simpa using e⟩)
 rw[this];rfl
def Fg {m:Nat}:∀(l:List Nat) (a:Nat),a<m->(∀n∈l,n<m)->l.foldl max a<m
 | [],a,h,_=>h
 |x::r,a,h,k=>Fg r (max a x) (by have:=k x ZJ;omega) λn hn=>k n (ZR _ hn)
def K5 {ns:List Nat}{m:Nat} (h0:0<m) (h:∀n∈ns,n<m):Do ns<m:=Fg ns 0 h0 h
def QM (a b:Nat):max (a:Int) (b:Int)=((max a b:Nat):Int):=by omega
def Hz:∀(r:List Nat) (a:Nat),(r.map λn:Nat=>(n:Int)).foldl max (a:Int)=((r.foldl max a:Nat):Int)
 | [],_=>rfl
 |x::r,a=>by rw[map_cons,foldl_cons,QM,Hz r];rfl
def K8 {ns:List Nat} (h:ns≠ []):Ka 0 (ns.map λn:Nat=>(n:Int))=(Do ns:Nat):=by
 cases ns with
 |nil=>exact absurd rfl h
 |cons a r =>
  show(r.map λn:Nat=>(n:Int)).foldl max (a:Int)=_;rw[Hz];unfold Do;rw[foldl_cons];have:max 0 a=a:=by omega
  rw[this]
def Mw {m:Nat} (h:m<2 ^ 20):Builtin.Int.intBits (m:Int)<=20:=by
 rcases Nat.eq_zero_or_pos m with e |hm
 ·subst e;decide
 ·rw[D4 hm];have:m.log2<20:=(Nat.log2_lt qe).mpr h;omega
section
inductive spNextMark (K:FG) (vs:Xc) (H:Hp) (Q:VK) (_E:XK):Prop where
 |mk (a:Xd) (ns:List Nat) (cD:vs=[.ref a]) (cG:aN K H a (BM ns)) (cI:(∀n∈ns,n<2 ^ 20)) (cY:Q (.int (Bb (Do ns):Nat)) H)
def Mx:AN ["numbers"] ["numbers"] (defScope GG):=cQ
def Nq (ns:List Nat):BM ns=(ns.map λn:Nat=>(n:Int)).map V.int:=by unfold BM;rw[map_map];rfl
def K9 {f:Xd} (F:aV K "next_mark" "next_mark" GG f fd) (B:Bl mg):AU P w K mg base aK 1 f fd ["numbers"] (spNextMark K):=by
 refine F.m Mx λvs H Q E h=>?_;obtain⟨a,ns,rfl,hS,aL,k⟩:=h;refine⟨Zj,λad A outer s hr=>?_⟩;refine⟨_,AG (AQ (Af Lp AE (HL PySem.F.plainAttrs_int PySem.F.slot_int_bit_length PySem.F.type_int_bit_length Jk (Nb Zj Zj B.max (pv 0) AE)))),?_⟩;have hm:=K5 (m:=2 ^ 20) qc aL
 have fin:∀m:Int,m=(Do ns:Nat)->tyV K "int" (.int m) H/\∃i,V.int m=.int i/\([]:Xc)=[]/\rI To (λi j=>V.int (i*2 ^ j.toNat)) (V.int 1) (V.int (Builtin.Int.intBits i:Nat)) H Q:=λm e=>by
  subst e;refine⟨Zj,_,Zj,Zj,1,_,Zj,Zj,⟨Z0 _,?_,qc⟩,?_⟩
  ·have:=Mw hm;omega
  ·have e:(1:Int)*2 ^ ((Builtin.Int.intBits (Do ns:Nat):Nat):Int).toNat=((Bb (Do ns):Nat):Int):=by
    unfold Bb;rw[Int.one_mul,Int.toNat_natCast];simp
   show Q (V.int (1*2 ^ ((Builtin.Int.intBits (Do ns:Nat):Nat):Int).toNat)) H;rw[e];exact k
 refine⟨_,Zj,a,ns.map (λn:Nat=>(n:Int)),0,Zj,Zj,by rw[←Nq];exact hS,λe=>?_,λe=>?_⟩
 ·have e':ns=[]:=List.map_eq_nil_iff.mp e;exact fin 0 (by rw[e'];rfl)
 ·have e':ns≠ []:=λz=>e (by rw[z];rfl);exact fin _ (K8 e')
def DR (K:FG):Sp:=λvs H Q _=>(∃(x:Str) (d:Xd) (kvs:LK),vs=[.str x,.ref d]/\Rd H d (.dK kvs)/\Q (.bl (BW kvs (Sum.inr x:Key)).isSome) H) \/
 (∃(x:Str) (t:Xd) (xs:Xa),vs=[.str x,.ref t]/\bH K H t (xs.map V.str)/\Q (.bl (dz (.str x) (xs.map V.str))) H)
def Ow:AN ["thing", "names"] ["thing", "names"] (defScope Ht):=cQ
def JG:∀xs:Xa,(xs.map V.str).all FJ=true
 | []=>rfl
 |_::r=>JG r
def My {f:Xd} (F:aV K "is_one_of" "is_one_of" Ht f fd) (B:Bl mg):AU P w K mg base aK 1 f fd ["thing", "names"] (DR K):=by
 refine F.ok Ow (λvs H Q E h=>?_) (λad A outer s H vs Q E hr h=>?_)
 ·rcases h with⟨x,d,kvs,rfl,_⟩ |⟨x,t,xs,rfl,_⟩ <;> rfl
 ·have hu:=Dz hr;rcases h with⟨x,d,kvs,rfl,hd,k⟩ |⟨x,t,xs,rfl,ht,k⟩
  ·refine⟨_,AG (AQ (C7 (CS K Zj Zj B.ft Zj B.str Ga (pv 0)) (DY (Tg (Pi hu (pv 0) (pv 1)))))),?_⟩;refine⟨_,Zj,_,_,_,true,Zj,.str x,Zj,_,Zj,?_⟩;exact⟨_,Zj,_,Zj,d,_,Zj,.inl ⟨kvs,Sum.inr x,hd,Zj,Zj⟩,k⟩
  ·refine⟨_,AG (AQ (C7 (CS K Zj Zj B.ft Zj B.str Ga (pv 0)) (DY (Bf DK (pv 0) (pv 1) (by with_unfolding_all rfl))))),?_⟩;refine⟨_,Zj,_,_,_,true,Zj,.str x,Zj,_,Zj,?_⟩;exact⟨_,Zj,_,Zj,t,_,Zj,.inr ht,Zj,JG xs,k⟩
inductive spIsNamesOf (vs:Xc) (H:Hp) (Q:VK) (_E:XK):Prop where
 |mk (a d:Xd) (ns:Xa) (kvs:LK) (cD:vs=[.ref a,.ref d]) (cG:H a=some (.tup (ns.map V.str))) (cI:ns.length<=1000) (cY:Rd H d (.dK kvs)) (d5:∀H',aA H H'->Q (.bl (decide (0<ns.length)&&ns.all λx=>(BW kvs (Sum.inr x:Key)).isSome)) H')
def LA:AN ["parts", "ahead"] ["parts", "ahead"] (defScope Eu):=cQ
def aA.rd {a:Xd}{u:HO} (s:aA H H') (h:Rd H a u):Rd H' a u:=by
 rcases h with h |⟨o,h⟩
 ·exact .inl (s _ _ h)
 ·exact .inr ⟨o,s _ _ h⟩
def J1 {f:Xd} (F:aV K "is_names_of" "is_names_of" Eu f fd) (B:Bl mg) (GO:Fn P w K mg base "is_one_of" 1 ["thing", "names"] (DR K)):AU P w K mg base aK 2 f fd ["parts", "ahead"] spIsNamesOf:=by
 obtain⟨fO,dO,GO,mO,kO,bO⟩:=GO.ex;refine F.m LA λvs H Q E h=>?_;obtain⟨a,d,ns,kvs,rfl,ha,hz,hd,k⟩:=h;refine⟨Zj,λad A outer s hr=>?_⟩;have hu:=Dz hr
 refine⟨_,AG (AQ (C7 (Bf FF (AW FM Zj B.len PySem.boot_len (AA (pv 0) AC)) AE (AO _))
  (DY (AW (HZ rfl) rfl B.all Mv (AA (DP ["ahead"] [some 1] qd qb qd rfl (PQ (pv 0)) (λ_ _ _ _ _ _=>Cl)
   (λ_ _ _ _ _ _=>AM GO hr rfl mO kO bO .nil AR (AA (pv 0) (AA (pv 1) AC)))) AC))))),?_⟩
 have hl:(ns.map V.str).length=ns.length:=AS _;refine⟨_,Zj,a,_,Zj,.inr (bH.of ha),_,_,Zj,Zj,_,Zj,?_⟩;refine B4 (λh1=>?_) (λh1=>?_)
 ·have h1':0<ns.length:=by have:=ZU h1;rw[hl]at this;omega
  refine⟨_,Zj,a,Zj,⟨_,bH.of ha⟩,KZ (K:=K) (a:=a) (xs:=ns.map V.str) (λi ys H2=>H2=H/\ys=(ns.take i).map λx=>V.bl (BW kvs (Sum.inr x:Key)).isSome) ⟨Zj,Zj⟩ (λi ys H2 _ ⟨e,_⟩=>e ▸ bH.of ha) (λi ys H2 ⟨_,e⟩=>?_) ?_ ?_⟩
  ·rw[e,AS,ZB];omega
  ·rintro i v ys H2 hi ⟨rfl,rfl⟩;rw[ZF]at hi
   obtain⟨x,hx,rfl⟩:∃x,ns[i]?=some x/\v=V.str x:=by
    cases e:ns[i]? with
    |none=>rw[e]at hi;cases hi
    |some x=>rw[e]at hi;exact⟨x,Zj,(Option.some.inj hi).symm⟩
   refine⟨_,Zj,_,Zj,.inl ⟨x,d,kvs,Zj,hd,Zj,?_⟩⟩;rw[ZE,hx,Zv];rfl
  ·rintro ys H2 ⟨rfl,rfl⟩ p hp;have el:ns.take (ns.map V.str).length=ns:=by rw[hl];exact ZC
   refine⟨p,ns.map λx=>(BW kvs (Sum.inr x:Key)).isSome,Zj,aN.of (by rw[AB,el,map_map];rfl),?_⟩
   have e:(decide (0<ns.length)&&ns.all λx=>(BW kvs (Sum.inr x:Key)).isSome)=(ns.map λx=>(BW kvs (Sum.inr x:Key)).isSome).all id:=by
    rw[ZM h1',Bool.true_and,all_map];rfl
   rw[←e];exact k _ (AD (aA.refl _) hp)
 ·have h1':¬ 0<ns.length:=λz=>h1 (ZM (by rw[hl];omega));have:=k H (aA.refl H);rw[ZP h1',Bool.false_and]at this;exact this
inductive spIsWhole (vs:Xc) (H:Hp) (Q:VK) (_E:XK):Prop where
 |mk (n:Int) (cD:vs=[.int n]) (cG:Q (.bl true) H)
def Ox:AN ["thing"] ["thing"] (defScope Fb):=cQ
structure D8 (aB:Aa):Prop where
 len:aB.length<=10
 lt:∀p∈aB,p.2<2 ^ 20
 nd:(aB.map (·.1)).Nodup
 nm:∀p∈aB,Bv p.1=true/\p.1.cps.all (· < 128)=true/\p.1.length<=1000
def SC (aB:Aa):Th->Prop
 | .aI=>True
 | .num _=>True
 | .jH ns=>ns≠ []/\ns.length<=10/\∀x∈ns,x∈aB.map (·.1)
inductive spThing (vs:Xc) (H:Hp) (Q:VK) (_E:XK):Prop where
 |mk (tv:V) (th:Th) (d:Xd) (aB:Aa) (cD:vs=[tv,.ref d]) (cG:gu H tv th) (cI:Rd H d (.dK (BB aB))) (cY:D8 aB) (d5:SC aB th) (fk:∀H',aA H H'->Q (.int (C4 aB th:Nat)) H')
def SD:AN ["thing", "ahead"] ["thing", "ahead"] (defScope Dc):=cQ
def QN (aB:Aa):(BB aB).map (·.2)=BM (aB.map (·.2)):=by unfold BB BM;rw[map_map,map_map];rfl
def QO {f:Xd} (F:aV K "thing_number" "thing_number" Dc f fd) (B:Bl mg) (GN:Fn P w K mg base "next_mark" 1 ["numbers"] (spNextMark K)) (GI:Fn P w K mg base "is_names_of" 2 ["parts", "ahead"] spIsNamesOf)
  (GU:Fn P w K mg base "union_of" 1 ["numbers"] (spUnionOf K)) (GW:Fn P w K mg base "is_whole" 1 ["thing"] spIsWhole):AU P w K mg base aK 3 f fd ["thing", "ahead"] spThing:=by
 obtain⟨fN,dN,GN,mN,kN,bN⟩:=GN.ex;obtain⟨fI,dI,GI,mI,kI,bI⟩:=GI.ex;obtain⟨fU,dU,GU,mU,kU,bU⟩:=GU.ex;obtain⟨fW,dW,GW,mW,kW,bW⟩:=GW.ex;refine F.m SD λvs H Q E h=>?_;obtain⟨tv,th,d,aB,rfl,hT,hd,DO,TO,k⟩:=h;refine⟨Zj,λad A outer s hr=>?_⟩;have hu:=Dz hr;have dZ:aE 1 _:=hr.mono qc
 refine⟨_,AF (Ak (JY (Lk (pv 0))) (AG (AQ (AM GN dZ Zj mN kN bN .nil AR (AA (BU (ML Zj) Zj B.list J0 (AA (T4 PySem.F.slot_dict_values PySem.F.type_dict_values OT (pv 1)) AC)) AC)))) AV)
  (AF (Ak (PW.pt (Bt (A3 (CS K rfl rfl B.ft rfl B.tuple Hy (pv 0))) (BX (A3 (AM GI hr rfl mI kI bI .nil AR (AA (pv 0) (AA (pv 1) AC)))))))
   (AG (AQ (AM GU dZ rfl mU kU bU .nil AR (AA (DP ["ahead"] [some 1] qd qb qd rfl (PQ (pv 0)) (λ_ _ _ _ _ _=>Cl) (λ_ _ _ _ _ _=>EN hu (pv 1) (pv 0) (λ_ _=>rfl))) AC)))) AV)
  (AF (Ak (A3 (AM GW dZ rfl mW kW bW .nil AR (AA (pv 0) AC))) (AG (AQ (pv 0))) AV)
  (AG An))),?_⟩
 refine⟨_,rfl,_,rfl,?_⟩;cases th with
 |aI =>
  have e:tv=.aI:=hT;subst e;refine B4 (λ_=>?_) (λz=>absurd Zj z);refine⟨_,Zj,d,Zj,.inl ⟨_,hd⟩,d,_,Zj,Zj,hd,λp hp=>?_⟩;refine⟨p,d,_,Zj,AB,aA.rd (AD (aA.refl _) hp) hd,λl hl=>?_⟩;refine⟨l,aB.map (·.2),Zj,aN.of (by rw[AB,QN]),λn hn=>?_,?_⟩
  ·obtain⟨q,hq,rfl⟩:=Zs.mp hn;exact DO.lt q hq
  ·exact k _ (AD (AD (aA.refl _) hp) hl)
 |num n =>
  have e:tv=.int (n:Int):=hT;subst e;refine B4 (λz=>absurd (ZU z) (by intro q;cases q)) (λ_=>?_);refine⟨_,Zj,_,_,_,false,Zj,.int _,qd,_,Zj,?_⟩;refine AT ?_;refine⟨_,Zj,n,Zj,_,Zj,?_⟩;refine Ac ?_;exact⟨_,Zj,k H (aA.refl H)⟩
 |jH ns =>
  obtain⟨a,rfl,ha⟩:=hT;obtain⟨ax,hln,ic⟩:=TO;refine B4 (λz=>absurd (ZU z) (by intro q;cases q)) (λ_=>?_);refine⟨_,Zj,_,_,_,true,Zj,.tup ha,Zj,_,Zj,?_⟩;have hl:(ns.map V.str).length=ns.length:=AS _;refine⟨_,Zj,_,Zj,a,d,ns,BB aB,Zj,ha,qe,hd,λH1 s1=>⟨_,Zj,?_⟩⟩
  have e1:(decide (0<ns.length)&&ns.all λx=>(BW (BB aB) (Sum.inr x:Key)).isSome)=true:=by
   rw[Bool.and_eq_true,decide_eq_true_eq,List.all_eq_true];refine⟨List.length_pos_iff.mpr ax,λx hx=>?_⟩;rw[C5 (ic x hx)];rfl
  rw[e1];refine Ac ?_;refine⟨_,Zj,a,Zj,⟨_,bH.of (s1 _ _ ha)⟩,KZ (K:=K) (a:=a) (xs:=ns.map V.str) (λi ys H2=>H2=H1/\ys=BM ((ns.take i).map (look aB))) ⟨Zj,Zj⟩ (λi ys H2 _ ⟨e,_⟩=>e ▸ bH.of (s1 _ _ ha)) (λi ys H2 ⟨_,e⟩=>?_) ?_ ?_⟩
  ·rw[e];unfold BM;rw[AS,AS,ZB];omega
  ·rintro i v ys H2 hi ⟨rfl,rfl⟩;rw[ZF]at hi
   obtain⟨x,hx,rfl⟩:∃x,ns[i]?=some x/\v=V.str x:=by
    cases e:ns[i]? with
    |none=>rw[e]at hi;cases hi
    |some x=>rw[e]at hi;exact⟨x,Zj,(Option.some.inj hi).symm⟩
   refine⟨_,Zj,_,Zj,d,_,Zj,.inl ⟨BB aB,Sum.inr x,aA.rd s1 hd,Zj,(C5 (ic x (Z4 hx))).symm⟩,Zj,?_⟩;rw[ZE,hx,Zv];unfold BM;rw[Zv];rfl
  ·rintro ys H2 ⟨rfl,rfl⟩ p hp;have el:ns.take (ns.map V.str).length=ns:=by rw[hl];exact ZC
   refine⟨p,ns.map (look aB),Zj,aN.of (by rw[AB,el]),?_⟩;exact k _ (AD s1 hp)
end
end Mk
end
section
namespace L2
open PySem
def QP {a:Xd}{xs:Xc}{g:TG}{tb:TS}{D:Dq}{σ:St} (Pv:Nat->St->Hp->Prop) (h0:Pv 0 σ H) (hl:∀i σ H,i<=xs.length->Pv i σ H->aN K H a xs)
  (hs:∀i x σ H p,xs[i]?=some x->Pv i σ H->H p=none->g (.ref p) σ (upd H p (.tup [.int i,x])) λcK H2=>tb { D with nx:=Pv (i+1),ct:=Pv (i+1),bk:=D.nx } cK H2) (hd:∀σ H,Pv xs.length σ H->D.nx σ H) :
  ∃W:Nat->Nat->St->Hp->Prop,(∃m,W 0 m σ H)/\∀i m σ H,W i m σ H ->
   ((Ite K a).stop i H/\D.nx σ H)\/((Ite K a).go i H/\∃N:St->Hp->Prop,(∀aJ H',N aJ H'->∃m',m'<m/\W (i+1) m' aJ H')/\∀x H',(Ite K a).g8 i H x H'->g x σ H' λcK H2=>tb { D with nx:=N,ct:=N,bk:=D.nx } cK H2):=by
 refine⟨λi m σ H=>m=xs.length - i/\i<=xs.length/\Pv i σ H,⟨_,Zj,Nat.zero_le _,h0⟩,?_⟩;rintro i m σ H ⟨rfl,hi,hp⟩;by_cases aL:i<xs.length
 ·have hx:xs[i]?=some xs[i]:=Z7 aL;refine .inr ⟨⟨xs,xs[i],hl i σ H hi hp,hx⟩,Pv (i+1),λaJ H' q=>⟨xs.length - (i+1),qe,Zj,aL,q⟩,?_⟩;rintro x H' ⟨p,y,hn,rfl,hy,rfl⟩
  have ex:y=xs[i]:=by
   have:=hy xs (hl i σ H hi hp);rw[hx]at this;exact(Option.some.inj this).symm
  subst ex;exact hs i xs[i] σ H p hx hp hn
 ·have e:i=xs.length:=by omega
  subst e;exact .inl ⟨⟨xs,hl _ σ H hi hp,Zz _⟩,hd σ H hp⟩
def Oy {a:Xd}{o:Obj}{kvs:LK}{g:TG}{tb:TS}{D:Dq}{σ:St} (Pv:Nat->St->Hp->Prop) (h0:Pv 0 σ H) (hl:∀i σ H,Pv i σ H->H a=some (.cZ o (.dK kvs)))
  (hs:∀i kv σ H p,kvs[i]?=some kv->Pv i σ H->H p=none->g (.ref p) σ (upd H p (.tup [kV kv.1,kv.2])) λcK H2=>tb { D with nx:=Pv (i+1),ct:=Pv (i+1),bk:=D.nx } cK H2) (hd:∀σ H,Pv kvs.length σ H->D.nx σ H) :
  ∃W:Nat->Nat->St->Hp->Prop,(∃m,W 0 m σ H)/\∀i m σ H,W i m σ H ->
   ((Iti a o kvs).stop i H/\D.nx σ H)\/((Iti a o kvs).go i H/\∃N:St->Hp->Prop,(∀aJ H',N aJ H'->∃m',m'<m/\W (i+1) m' aJ H')/\∀x H',(Iti a o kvs).g8 i H x H'->g x σ H' λcK H2=>tb { D with nx:=N,ct:=N,bk:=D.nx } cK H2):=by
 refine⟨λi m σ H=>m=kvs.length - i/\i<=kvs.length/\Pv i σ H,⟨_,Zj,Nat.zero_le _,h0⟩,?_⟩;rintro i m σ H ⟨rfl,hi,hp⟩;by_cases aL:i<kvs.length
 ·refine .inr ⟨⟨hl i σ H hp,aL⟩,Pv (i+1),λaJ H' q=>⟨kvs.length - (i+1),qe,Zj,aL,q⟩,?_⟩;rintro x H' ⟨p,kv,hn,rfl,hkv,rfl⟩;exact hs i kv σ H p hkv hp hn
 ·have e:i=kvs.length:=by omega
  subst e;exact .inl ⟨⟨hl _ σ H hp,Zz _⟩,hd σ H hp⟩
end L2
namespace Mk
open PySem L2 MK
def Vh (x:Str):Prop:=Bv x=true/\x.cps.all (· < 128)=true/\x.length<=1000
structure Nr (aB:Aa) (r:Str×Th):Prop where
 ahead:D8 aB
 few:aB.length<10
 nm:Vh r.1
 new:r.1∉ aB.map (·.1)
 th:SC aB r.2
 lt:C4 aB r.2<2 ^ 20
noncomputable def Am (rows:List (Str×Th)):Aa:=rows.foldl (λaB r=>aB++[(r.1,C4 aB r.2)]) []
def Gb (rows:List (Str×Th)) (r:Str×Th):Am (rows++[r])=Am rows++[(r.1,C4 (Am rows) r.2)]:=by unfold Am;rw[foldl_append];rfl
def E7 (rows:List (Str×Th)):Prop:=∀(i:Nat) r,rows[i]?=some r->Nr (Am (rows.take i)) r
inductive dY (H:Hp) (b:Xd) (r:Str×Th):Prop where
 |mk (tv:_) (cD:H b=some (.tup [.str r.1,tv])) (cG:gu H tv r.2)
inductive RowsAt (H:Hp) (l:Xd) (rows:List (Str×Th)):Prop where
 |mk (as:List Xd) (cD:H l=some (.lst (as.map V.ref))) (cG:Paired (dY H) as rows)
def gu.same {v:V}{th:Th} (s:aA H H') (h:gu H v th):gu H' v th:=by
 cases th with
 |aI=>exact h
 |num n=>exact h
 |jH ns=>obtain⟨a,e,h⟩:=h;exact⟨a,e,s _ _ h⟩
def dY.same {b:Xd}{r:Str×Th} (s:aA H H') (h:dY H b r):dY H' b r:=by
 obtain⟨tv,e,t⟩:=h;exact⟨tv,s _ _ e,t.same s⟩
def E8 {α β:Type}{F:α->β->Prop}:∀ {xs:List α}{ys:List β}{i:Nat}{x:α},Paired F xs ys->xs[i]?=some x->∃y,ys[i]?=some y/\F x y
 |_,_,_,_,.nil,e=>by simp at e
 |_,_,0,_,.cons r _,e=>by simp at e;subst e;exact⟨_,Zj,r⟩
 |_,_,i+1,x,.cons _ t,e=>by
  obtain⟨u,h1,h2⟩:=E8 (i:=i) (x:=x) t (by simpa using e);exact⟨u,by simpa using h1,h2⟩
def LB {H1:Hp}{d:Xd}{o:HO} (s:aA H H1) (hd:H d=none):aA H (upd H1 d o):=λb u e=>by
 rw[AH (AJ e hd)];exact s b u e
section
inductive spRow (vs:Xc) (H:Hp) (Q:VK) (_E:XK):Prop where
 |mk (b d:Xd) (r:Str×Th) (aB:Aa) (cD:vs=[.ref b,.ref d]) (cG:dY H b r) (cI:Rd H d (.dK (BB aB))) (cY:Nr aB r) (d5:∀H',aA H H'->Q (.int (C4 aB r.2:Nat)) H')
def scRow:AN ["row", "ahead", "name", "thing", "number"] ["row", "ahead"] (defScope Ew):=cQ
def UK {f:Xd}{tg:Tok} (F:aV K "row_number" "row_number" Ew f fd) (B:Bl mg) (hG:mg "GREATEST" = some (.int 1048575 tg)) (GN:Fn P w K mg base "is_name" 1 ["thing"] spIsName) (GT:Fn P w K mg base "thing_number" 3 ["thing", "ahead"] spThing) :
  AU P w K mg base aK 4 f fd ["row", "ahead"] spRow:=by
 obtain⟨fN,dN,GN,mN,kN,bN⟩:=GN.ex;obtain⟨fT,dT,GT,mT,kT,bT⟩:=GT.ex;refine F.m scRow λvs H Q E h=>?_;obtain⟨b,d,r,aB,rfl,⟨tv,hb,hT⟩,hd,RO,k⟩:=h;refine⟨Zj,λad A outer s hr=>?_⟩;have hu:=Dz hr;have dZ:aE 1 _:=hr.mono qc
 refine⟨_,AF (Ak (PW.pt (DF (BY (A3 (CS K Zj Zj B.ft Zj B.tuple Hy (pv 0)))) (CJ (AL Dj (AW (BV K Zj) Zj B.len PySem.boot_len (AA (pv 0) AC)) AE (AO _))))) (AG An) AV)
  (AF (Cp (pv 0) (Ch rfl (Ai (AZ (i:=2) scRow.nd rfl (Or.inl rfl)) (Ai (AZ (i:=3) scRow.nd rfl (Or.inl rfl)) Br))))
  (AF (Ak (PW.pt (DF (BY (A3 (AM GN dZ rfl mN kN bN .nil AR (AA (pv 2) AC)))) (CJ (JY (Pi hu (pv 2) (pv 1)))))) (AG An) AV)
  (AF (Ag (i:=4) scRow.nd rfl (Or.inl rfl) (AM GT hr rfl mT kT bT .nil AR (AA (pv 3) (AA (pv 1) AC))))
  (AF (Ak (PW.pt (DF (JY (Lk (pv 4))) (CJ (BY (B2 EZ EZ AE (pv 4) (BH (v:=.int 1048575) rfl hG ⟨tg,rfl⟩)))))) (AG An) AV)
  (AG (AQ (pv 4))))))),?_⟩
 refine⟨_,Zj,_,_,_,true,Zj,.tup hb,Zj,_,Zj,?_⟩;refine AT ?_;refine⟨_,Zj,b,_,Zj,.inr (bH.of hb),Zj,_,Zj,?_⟩;refine Pk Zj ?_;refine⟨_,Zj,b,_,Zj,bH.of hb,Zj,_,_,Zj,_,_,Zj,Zj,?_⟩;refine⟨_,Zj,r.1,Zj,RO.nm.2.1,RO.nm.2.2,λH1 s1=>⟨_,Zj,?_⟩⟩;rw[RO.nm.1];refine AT ?_;refine⟨_,Zj,_,Zj,d,_,Zj,.inl ⟨BB aB,Sum.inr r.1,aA.rd s1 hd,Zj,(Dg RO.new).symm⟩,_,Zj,?_⟩;refine AT ?_;refine⟨_,Zj,_,Zj,tv,r.2,d,aB,Zj,hT.same s1,aA.rd s1 hd,RO.ahead,RO.th,λH2 s2=>?_⟩;refine⟨_,Zj,_,Zj,?_⟩;refine B4 (λz=>absurd (ZU z) (by intro q;cases q)) (λ_=>?_);refine⟨_,Zj,_,_,Zj,Zj,_,Zj,?_⟩;refine B4 (λ_=>?_) (λz=>absurd (ZM (Z0 _)) z);refine⟨_,_,Zj,Zj,_,Zj,?_⟩;have aL:=RO.lt;refine Pk (show((C4 aB r.2:Nat):Int)<=1048575 by omega) ?_;exact⟨_,Zj,k _ (s1.trans s2)⟩
inductive spNumbered (vs:Xc) (H:Hp) (Q:VK) (_E:XK):Prop where
 |mk (l:Xd) (rows:List (Str×Th)) (cD:vs=[.ref l]) (cG:RowsAt H l rows) (cI:0<rows.length) (cY:rows.length<=10) (d5:E7 rows) (fk:∀d H',aA H H'->H d=none->H' d=some (.dK (BB (Am rows)))->Q (.ref d) H')
def scNumbered:AN ["rows", "numbers", "at", "row", "number"] ["rows"] (defScope GH):=cQ
def SE {x:Str}{n:Nat} (h:x∉ aB.map (·.1)):C9 (BB aB) (Sum.inr x:Key) (V.int (n:Int))=BB (aB++[(x,n)]):=by
 rw[KP _ (Dg h)];unfold BB;rw[Zv];rfl
def JH (aB:Aa):(BB aB).length=aB.length:=AS _
def Bm:∀rows:List (Str×Th),(Am rows).length=rows.length:=λrows=>by
 have:∀(l:List (Str×Th)) (a:Aa),(l.foldl (λaB r=>aB++[(r.1,C4 aB r.2)]) a).length=a.length+l.length:=by
  intro l;induction l with
  |nil=>intro a;rfl
  |cons x r ih=>intro a;rw[foldl_cons,ih,ZI,length_cons,length_cons,length_nil];omega
 have e:=this rows [];rw[length_nil]at e;unfold Am;omega
def LD {f:Xd}{tm:Tok} (F:aV K "numbered" "numbered" GH f fd) (B:Bl mg) (hM:mg "MOST_ROWS" = some (.int 10 tm)) (GR:Fn P w K mg base "row_number" 4 ["row", "ahead"] spRow):AU P w K mg base aK 5 f fd ["rows"] spNumbered:=by
 obtain⟨fR,dR,GR,mR,kR,bR⟩:=GR.ex;refine F.m scNumbered λvs H Q E h=>?_;obtain⟨l,rows,rfl,⟨as,hl,hP⟩,h0,iX,RO,k⟩:=h;refine⟨Zj,λad A outer s hr=>?_⟩;have hu:=Dz hr;have ba:as.length=rows.length:=hP.length
 refine⟨_,AF (Ak (PW.pt (DF (BY (A3 (CS K Zj Zj B.ft Zj B.list J0 (pv 0)))) (CJ (BY (B2 EZ EZ AE (AW (BV K Zj) Zj B.len PySem.boot_len (AA (pv 0) AC)) (BH (v:=.int 10) Zj hM ⟨tm,Zj⟩)))))) (AG An) AV)
  (AF (Ag (i:=1) scNumbered.nd rfl (Or.inl rfl) HQ)
  (AF (Eg PassesOwn.never rfl (Rg rfl B.enum (AA (pv 0) AC)) (Ch rfl (Ai (AZ (i:=2) scNumbered.nd rfl (Or.inl rfl)) (Ai (AZ (i:=3) scNumbered.nd rfl (Or.inl rfl)) Br)))
   (AF (Ag (i:=4) scNumbered.nd rfl (Or.inl rfl) (AM GR hr rfl mR kR bR .nil AR (AA (pv 3) (AA (pv 1) AC))))
   (AF (Ak (JY (Lk (pv 4))) (AG An) AV)
   (AG (RY hu (pv 1) (BJ (CT K rfl) (pv 3) AE (λ_ _=>rfl)) (pv 4) rfl)))))
  (AG (AQ (pv 1))))),?_⟩
 refine⟨_,Zj,_,_,_,true,Zj,.lst hl,Zj,_,Zj,?_⟩;refine AT ?_;have hll:(as.map V.ref).length=rows.length:=by rw[AS,ba]
 refine⟨_,Zj,l,_,Zj,.inl (aN.of hl),_,_,Zj,Zj,_,Zj,?_⟩;refine B4 (λ_=>?_) (λz=>absurd (ZM (by rw[hll];omega)) z);refine⟨_,_,Zj,Zj,_,Zj,?_⟩;refine Pk (show(((as.map V.ref).length:Nat):Int)<=10 by rw[hll];omega) ?_;intro d gE
 refine⟨_,Zj,l,Zj,⟨_,aN.of (AD (aA.refl _) gE _ _ hl)⟩,QP (K:=K) (a:=l) (xs:=as.map V.ref) (λi σ H2=>∃v1 v2 v3:Option V,σ=[some (.ref l),some (.ref d),v1,v2,v3]/\aA H H2/\H2 d=some (.dK (BB (Am (rows.take i)))))
  ⟨none,none,none,rfl,AD (aA.refl _) gE,AB⟩ (λi σ H2 _ ⟨_,_,_,_,s2,_⟩=>aN.of (s2 _ _ hl)) ?_ ?_⟩
 ·rintro i y σ H2 p hi ⟨v1,v2,v3,rfl,s2,hd2⟩ hp;rw[ZF]at hi
  obtain⟨b,hb,rfl⟩:∃b,as[i]?=some b/\y=V.ref b:=by
   cases e:as[i]? with
   |none=>rw[e]at hi;cases hi
   |some x=>rw[e]at hi;exact⟨x,Zj,(Option.some.inj hi).symm⟩
  obtain⟨r,i8,hra⟩:=E8 hP hb;have R1:=RO i r i8;have s3:aA H (upd H2 p (.tup [.int i,.ref b])):=AD s2 hp;have ju:(upd H2 p (.tup [.int i,.ref b])) d=some (.dK (BB (Am (rows.take i)))):=by rw[AH (AJ hd2 hp)];exact hd2
  refine⟨p,_,Zj,bH.of AB,Zj,_,_,Zj,_,_,Zj,Zj,?_⟩;refine⟨_,Zj,_,Zj,b,d,r,Am (rows.take i),Zj,hra.same s3,.inl ju,R1,λH4 s4=>?_⟩;refine⟨_,Zj,_,Zj,?_⟩;refine B4 (λz=>absurd (ZU z) (by intro q;cases q)) (λ_=>?_);obtain⟨tv,aj,_⟩:=hra.same (s3.trans s4);refine⟨_,Zj,_,Zj,_,Zj,b,_,0,.str r.1,Zj,Zj,bH.of aj,Zj,d,_,Zj,DPut.k (k:=Sum.inr r.1) (s4 _ _ ju) (AK (by rw[JH,Bm,ZB];omega)),?_⟩;refine⟨_,_,_,Zj,LB (s3.trans s4) gE,?_⟩;rw[AB,SE R1.new,ZE,i8,Option.toList_some,Gb]
 ·rintro σ H2 ⟨v1,v2,v3,rfl,s2,hd2⟩;rw[hll,ZC]at hd2;exact⟨_,Zj,k d H2 s2 gE hd2⟩
end
noncomputable def BD (aB:Aa):List (Nat×Str):=aB.foldl (λfs p=>if (fs.map (·.1)).contains p.2 then fs else fs++[(p.2,p.1)]) []
noncomputable def E9 (fs:List (Nat×Str)):LK:=fs.map λq=>(Sum.inl (q.1:Int),V.str q.2)
noncomputable def TF (fs:List (Nat×Str)) (n:Nat):Str:=((fs.find? λq=>decide (q.1=n)).map (·.2)).getD (Str.ofString "")
def Gp (aB:Aa) (p:Str×Nat):BD (aB++[p])=if ((BD aB).map (·.1)).contains p.2 then BD aB else BD aB++[(p.2,p.1)]:=by unfold BD;rw[foldl_append];rfl
def Gc (n:Nat):∀fs:List (Nat×Str),BW (E9 fs) (Sum.inl (n:Int):Key)=(fs.find? λq=>decide (q.1=n)).map λq=>V.str q.2
 | []=>rfl
 |q::r=>by
  show BW ((Sum.inl (q.1:Int),V.str q.2)::E9 r) (Sum.inl (n:Int))=_;by_cases e:q.1=n
  ·rw[Dw (p:=(Sum.inl (q.1:Int),V.str q.2)) (by rw[←e]),List.find?_cons_of_pos (by simpa using e)];rfl
  ·rw[Dx (p:=(Sum.inl (q.1:Int),V.str q.2)) (λz=>e (by have:=Sum.inl.inj z;omega)),List.find?_cons_of_neg (by simpa using e)];exact Gc n r
def Mz {fs:List (Nat×Str)}{n:Nat} (h:n∈fs.map (·.1)):(fs.find? λq=>decide (q.1=n)).isSome=true:=by
 obtain⟨q,hq,e⟩:=Zs.mp h;rw[List.find?_isSome];exact⟨q,hq,by simpa using e⟩
def QQ {fs:List (Nat×Str)}{n:Nat} (h:n∈fs.map (·.1)):BW (E9 fs) (Sum.inl (n:Int):Key)=some (V.str (TF fs n)):=by
 rw[Gc];unfold TF;obtain⟨q,hq⟩:=Option.isSome_iff_exists.mp (Mz h);rw[hq];rfl
def JI {fs:List (Nat×Str)}{n:Nat} (h:n∉ fs.map (·.1)):BW (E9 fs) (Sum.inl (n:Int):Key)=none:=by
 rw[Gc]
 have:(fs.find? λq=>decide (q.1=n))=none:=by
  rw[List.find?_eq_none];intro q hq e;exact h (Zs.mpr ⟨q,hq,by simpa using e⟩)
 rw[this];rfl
def QR {fs:List (Nat×Str)}{n:Nat}{x:Str} (h:n∉ fs.map (·.1)):C9 (E9 fs) (Sum.inl (n:Int):Key) (V.str x)=E9 (fs++[(n,x)]):=by
 rw[KP _ (JI h)];unfold E9;rw[Zv];rfl
def M0 (aB:Aa):(BD aB).length<=aB.length:=by
 have:∀(l:Aa) (a:List (Nat×Str)),(l.foldl (λfs p=>if (fs.map (·.1)).contains p.2 then fs else fs++[(p.2,p.1)]) a).length<=a.length+l.length:=by
  intro l;induction l with
  |nil=>intro a;exact Zz _
  |cons x r ih =>
   intro a;rw[foldl_cons];refine Nat.le_trans (ih _) ?_;split
   ·rw[length_cons];omega
   ·rw[ZI,length_cons,length_cons,length_nil];omega
 have e:=this aB [];rw[length_nil]at e;unfold BD;omega
def Gq (aB:Aa):∀(a:List (Nat×Str)),(a.map (·.1)).Nodup->(∀n∈a.map (·.1),n∈(aB.foldl (λfs p=>if (fs.map (·.1)).contains p.2 then fs else fs++[(p.2,p.1)]) a).map (·.1)) /\
  ((aB.foldl (λfs p=>if (fs.map (·.1)).contains p.2 then fs else fs++[(p.2,p.1)]) a).map (·.1)).Nodup/\(∀p∈aB,p.2∈(aB.foldl (λfs p=>if (fs.map (·.1)).contains p.2 then fs else fs++[(p.2,p.1)]) a).map (·.1)) /\
  (∀q∈aB.foldl (λfs p=>if (fs.map (·.1)).contains p.2 then fs else fs++[(p.2,p.1)]) a,q∈a\/(q.2,q.1)∈aB):=by
 induction aB with
 |nil=>intro a ha;exact⟨λn hn=>hn,ha,λp hp=>(nomatch hp),λq hq=>.inl hq⟩
 |cons p r ih =>
  intro a ha;rw[foldl_cons];by_cases hc:(a.map (·.1)).contains p.2=true
  ·rw[Zq hc];obtain⟨i1,i2,i3,i4⟩:=ih a ha;refine⟨i1,i2,λq hq=>?_,λq hq=>?_⟩
   ·rcases mem_cons.mp hq with rfl |hq
    ·exact i1 _ (by simpa using hc)
    ·exact i3 q hq
   ·rcases i4 q hq with z |z
    ·exact .inl z
    ·exact .inr (ZR _ z)
  ·rw[Zr hc];have hnot:p.2∉ a.map (·.1):=λz=>hc (by simpa using z);obtain⟨i1,i2,i3,i4⟩:=ih (a++[(p.2,p.1)]) (by rw[Zv];exact NZ ha hnot);refine⟨λn hn=>i1 n (by rw[Zv];exact ZQ _ hn),i2,λq hq=>?_,λq hq=>?_⟩
   ·rcases mem_cons.mp hq with rfl |hq
    ·exact i1 _ (by rw[Zv];exact ZS _ (by simp))
    ·exact i3 q hq
   ·rcases i4 q hq with z |z
    ·rcases mem_append.mp z with z |z
     ·exact .inl z
     ·have:q=(p.2,p.1):=by simpa using z
      subst this;exact .inr ZJ
    ·exact .inr (ZR _ z)
def Oz {p:Str×Nat} (h:p∈aB):p.2∈(BD aB).map (·.1):=(Gq aB [] nodup_nil).2.2.1 p h
def O0 {q:Nat×Str} (h:q∈BD aB):(q.2,q.1)∈aB:=by
 rcases (Gq aB [] nodup_nil).2.2.2 q h with z |z
 ·cases z
 ·exact z
section
inductive spFirsts (vs:Xc) (H:Hp) (Q:VK) (_E:XK):Prop where
 |mk (d:Xd) (o:Obj) (aB:Aa) (cD:vs=[.ref d]) (cG:H d=some (.cZ o (.dK (BB aB)))) (cI:aB.length<=100) (cY:∀e H',aA H H'->H e=none->H' e=some (.dK (E9 (BD aB)))->Q (.ref e) H')
def scFirsts:AN ["numbers", "firsts", "name", "number"] ["numbers"] (defScope D5):=cQ
def QS {i:Nat}{kv:Key×V} (h:(BB aB)[i]?=some kv):∃p,aB[i]?=some p/\kv=(Sum.inr p.1,V.int (p.2:Int)):=by
 unfold BB at h;rw[ZF]at h;cases e:aB[i]? with
 |none=>rw[e]at h;cases h
 |some p=>rw[e]at h;exact⟨p,Zj,(Option.some.inj h).symm⟩
def O1 {f:Xd} (F:aV K "first_names" "first_names" D5 f fd):AU P w K mg base aK 1 f fd ["numbers"] spFirsts:=by
 refine F.m scFirsts λvs H Q E h=>?_;obtain⟨d,o,aB,rfl,hd,hz,k⟩:=h;refine⟨Zj,λad A outer s hr=>?_⟩
 refine⟨_,AF (Ag (i:=1) scFirsts.nd Zj (Or.inl Zj) HQ)
  (AF (Eg PassesOwn.never rfl (Pn (pv 0)) (Ch rfl (Ai (AZ (i:=2) scFirsts.nd rfl (Or.inl rfl)) (Ai (AZ (i:=3) scFirsts.nd rfl (Or.inl rfl)) Br)))
   (AG (A4 (DL PySem.F.plainAttrs_dict PySem.F.slot_dict_setdefault PySem.F.type_dict_setdefault IR (pv 1) (AA (pv 3) (AA (pv 2) AC))))))
  (AG (AQ (pv 1)))),?_⟩
 intro e he
 refine⟨_,Zj,d,o,BB aB,Zj,AD (aA.refl _) he _ _ hd,Oy (a:=d) (o:=o) (kvs:=BB aB) (λi σ H2=>∃v1 v2:Option V,σ=[some (.ref d),some (.ref e),v1,v2]/\aA H H2/\H2 e=some (.dK (E9 (BD (aB.take i)))))
  ⟨none,none,rfl,AD (aA.refl _) he,AB⟩ (λi σ H2 ⟨_,_,_,s2,_⟩=>s2 _ _ hd) ?_ ?_⟩
 ·rintro i kv σ H2 p hkv ⟨v1,v2,rfl,s2,he2⟩ hp;obtain⟨pr,hpr,rfl⟩:=QS hkv;have s3:aA H (upd H2 p (.tup [.str pr.1,.int (pr.2:Int)])):=AD s2 hp;have he3:(upd H2 p (.tup [.str pr.1,.int (pr.2:Int)])) e=some (.dK (E9 (BD (aB.take i)))):=by rw[AH (AJ he2 hp)];exact he2
  have et:aB.take (i+1)=aB.take i++[pr]:=by rw[ZE,hpr];rfl
  have hle:(E9 (BD (aB.take i))).length<=100:=by
   unfold E9;rw[AS];have:=M0 (aB.take i);rw[ZB]at this;omega
  refine⟨p,_,Zj,bH.of AB,Zj,_,_,Zj,_,_,Zj,Zj,?_⟩;refine⟨_,Zj,.inr (.inr (.inl ⟨Zj,.inl ⟨_,he3⟩⟩)),_,Zj,_,Zj,e,_,Sum.inl (pr.2:Int),.str pr.1,Zj,Zj,he3,AK qe,λw' hw=>?_,λhn=>?_⟩
  ·refine⟨_,_,Zj,s3,?_⟩;have z:pr.2∈(BD (aB.take i)).map (·.1):=Decidable.byContradiction λz=>by rw[JI z]at hw;cases hw
   rw[et,Gp,Zq (by simpa using z)];exact he3
  ·have z:pr.2∉ (BD (aB.take i)).map (·.1):=λz=>by rw[QQ z]at hn;cases hn
   refine⟨_,_,Zj,LB s3 he,?_⟩;rw[AB,et,Gp,Zr (by simpa using z),QR z]
 ·rintro σ H2 ⟨v1,v2,rfl,s2,he2⟩;rw[JH,ZC]at he2;exact⟨_,Zj,k e H2 s2 he he2⟩
end
def n12:¬ (("numbers" : Str) = "firsts"):=by decide +kernel
def n13:¬ (("numbers" : Str) = "rule"):=by decide +kernel
def n23:¬ (("firsts" : Str) = "rule"):=by decide +kernel
noncomputable def IA (d1 d2:Xd) (r:Str):List (Str×V):=BQ "rule" (.str r) (BQ "firsts" (.ref d2) (BQ "numbers" (.ref d1) []))
def IB (d1 d2:Xd) (r:Str):(IA d1 d2 r).lookup ("numbers" : Str)=some (.ref d1):=by
 unfold IA;rw[AX,Zr n13,AX,Zr n12,AX,Zq rfl]
def QT (d1 d2:Xd) (r:Str):(IA d1 d2 r).lookup ("firsts" : Str)=some (.ref d2):=by
 unfold IA;rw[AX,Zr n23,AX,Zq rfl]
def O2 (d1 d2:Xd) (r:Str):(IA d1 d2 r).lookup ("rule" : Str)=some (.str r):=by
 unfold IA;rw[AX,Zq rfl]
def ES (d1 d2:Xd) (r:Str) {m:Str} (h1:¬ m = "rule" := by decide +kernel) (h2:¬ m = "firsts" := by decide +kernel) (h3:¬ m = "numbers" := by decide +kernel):(IA d1 d2 r).lookup m=none:=by
 unfold IA;rw[AX,Zr h1,AX,Zr h2,AX,Zr h3];rfl
def SG (d1:Xd):(BQ "numbers" (V.ref d1) []).lookup ("numbers" : Str)=some (.ref d1):=by rw[AX,Zq rfl]
structure aS (C:Xd) (H:Hp) (p:Xd) (aB:Aa) (r:Str):Prop where
 ex:∃dx d1 o1 d2 o2,H p=some (.ins C dx (IA d1 d2 r))/\H d1=some (.cZ o1 (.dK (BB aB)))/\H d2=some (.cZ o2 (.dK (E9 (BD aB))))
def aS.same {p:Xd}{r:Str} (s:aA H H') (h:aS C H p aB r):aS C H' p aB r:=by
 obtain⟨dx,d1,o1,d2,o2,a,b,c⟩:=h.ex;exact⟨⟨dx,d1,o1,d2,o2,s _ _ a,s _ _ b,s _ _ c⟩⟩
structure IC (K:FG) (C:Xd):Prop where
 cl:iz K C
 nN:cL K C "numbers"
 nF:cL K C "firsts"
 nR:cL K C "rule"
noncomputable def ruleNames:Xa:=["bar", "drop", "keep", "leave"]
section
inductive spInit (C:Xd) (vs:Xc) (H:Hp) (Q:VK) (_E:XK):Prop where
 |mk (p dx l:Xd) (rows:List (Str×Th)) (r:Str) (cD:vs=[.ref p,.ref l,.str r]) (cG:H p=some (.ins C dx [])) (cI:RowsAt H l rows) (cY:0<rows.length) (d5:rows.length<=10) (fk:E7 rows) (jh:r∈ruleNames) (z_7:∀H',(∀b o,H b=some o->b≠p->H' b=some o)->aS C H' p (Am rows) r->Q .aI H')
def UL:AN ["self", "rows", "rest"] ["self", "rows", "rest"] (defScope CM):=cQ
def QU {r:Str} (h:r∈ruleNames):dz (.str r) (ruleNames.map V.str)=true:=by
 unfold dz;rw[any_map,any_eq_true];exact⟨r,h,by show(r==r)=true;simp⟩
def SH {f aR:Xd} (F:aV K "__init__" "Kind.__init__" CM f fd) (B:Bl mg) (T:IC K C) (hR:mg "RULES" = some (.ref aR)) (hRT:∀H:Hp,bH K H aR (ruleNames.map V.str))
  (GN:Fn P w K mg base "numbered" 5 ["rows"] spNumbered) (GF:Fn P w K mg base "first_names" 1 ["numbers"] spFirsts) (GO:Fn P w K mg base "is_one_of" 1 ["thing", "names"] (DR K)):AU P w K mg base aK 6 f fd ["self", "rows", "rest"] (spInit C):=by
 obtain⟨fN,dN,GN,mN,kN,bN⟩:=GN.ex;obtain⟨fF,dF,GF,mF,kF,bF⟩:=GF.ex;obtain⟨fO,dO,GO,mO,kO,bO⟩:=GO.ex;refine F.m UL λvs H Q E h=>?_;obtain⟨p,dx,l,rows,r,rfl,hp,RA,h0,iX,RO,aq,k⟩:=h;refine⟨Zj,λad A outer s hr=>?_⟩;have dZ:aE 1 _:=hr.mono qc
 refine⟨_,AF (C8 (pv 0) (AM GN hr Zj mN kN bN .nil AR (AA (pv 1) AC)) Zj)
  (HX (AF (Ak (BY (A3 (AM GO dZ rfl mO kO bO .nil AR (AA (pv 2) (AA (BH (v:=.ref aR) rfl hR rfl) AC))))) (AG An) AV)
  (AF (C8 (pv 0) (AM GF dZ rfl mF kF bF .nil AR (AA (BI (pv 0) rfl) AC)) rfl)
  (HX (AG (C8 (pv 0) (pv 2) rfl)))))),?_⟩
 refine⟨_,Zj,l,rows,Zj,RA,h0,iX,RO,λd1 H1 s1 hd1n eS=>?_⟩;have npd:p≠d1:=AJ hp hd1n;refine⟨_,Zj,p,C,dx,[],Zj,s1 _ _ hp,T.cl,T.nN,(by show 0<1000;decide),?_⟩;refine⟨d1,BB (Am rows),by rw[AH (Ne.symm npd)];exact eS,λo1=>?_⟩;refine⟨_,Zj,.inr ⟨r,aR,ruleNames,Zj,hRT _,_,Zj,?_⟩⟩;rw[QU aq];refine AT ?_;have am:∀o,(upd (upd H1 p (.ins C dx (BQ "numbers" (.ref d1) []))) d1 o) p=some (.ins C dx (BQ "numbers" (.ref d1) [])):=λo=>by rw[AH npd,AB]
 refine⟨_,Zj,p,C,dx,_,_,Zj,am _,T.cl,T.nN,SG d1,d1,o1,Am rows,Zj,AB,by rw[Bm];omega,λd2 H2 s2 hd2n hd2=>?_⟩;have npd2:p≠d2:=AJ (am _) hd2n;have iH:=s2 _ _ (am _);refine⟨_,Zj,p,C,dx,_,Zj,iH,T.cl,T.nF,(by show 1<1000;decide),?_⟩;refine⟨d2,E9 (BD (Am rows)),by rw[AH (Ne.symm npd2)];exact hd2,λo2=>?_⟩;have hp4:∀o,(upd (upd H2 p (.ins C dx (BQ "firsts" (.ref d2) (BQ "numbers" (.ref d1) [])))) d2 o) p=some (.ins C dx (BQ "firsts" (.ref d2) (BQ "numbers" (.ref d1) []))):=λo=>by rw[AH npd2,AB]
 refine⟨_,Zj,_,Zj,p,C,dx,_,Zj,hp4 _,T.cl,T.nR,Nat.lt_of_le_of_lt (A6 _ _ _) (by show 2<1000;decide),?_⟩;have nd12:d1≠d2:=AJ (AB (H:=upd H1 p (.ins C dx (BQ "numbers" (.ref d1) []))) (o:=.cZ o1 (.dK (BB (Am rows))))) hd2n;refine k _ (λb o e hb=>?_) ⟨⟨dx,d1,o1,d2,o2,AB,?_,?_⟩⟩
 ·rw[AH hb,AH,AH hb]
  ·refine s2 _ _ ?_;rw[AH (AJ e hd1n),AH hb];exact s1 _ _ e
  ·intro z;subst z
   have:(upd (upd H1 p (.ins C dx (BQ "numbers" (.ref d1) []))) d1 (.cZ o1 (.dK (BB (Am rows))))) b=some o:=by
    rw[AH (AJ e hd1n),AH hb];exact s1 _ _ e
   rw[hd2n]at this;cases this
 ·rw[AH (Ne.symm npd),AH nd12,AH (Ne.symm npd)];exact s2 _ _ AB
 ·rw[AH (Ne.symm npd2),AB]
end
structure Mt (P:Program) (w:World) (K:FG) (mg:SV) (base:Heap) (C:Xd) (m:Str) (k:Nat) (ps:Xa) (sp:Sp):Prop where
 ex:∃f fd,AU P w K mg base aK k f fd ps sp/\Ls K C m f/\Binds K fd ps []
noncomputable def ID (aB:Aa):List (V×V):=aB.map λp=>(V.str p.1,V.int (p.2:Int))
section
inductive spKnown (C:Xd) (vs:Xc) (H:Hp) (Q:VK) (_E:XK):Prop where
 |mk (p:Xd) (aB:Aa) (r:Str) (cD:vs=[.ref p]) (cG:aS C H p aB r) (cI:∀H',aA H H'->Q (.int (B5 ((BD aB).map (·.1)):Nat)) H')
def SI:AN ["self"] ["self"] (defScope Ex):=cQ
def QV {f:Xd} (F:aV K "known" "Kind.known" Ex f fd) (B:Bl mg) (T:IC K C) (GU:Fn P w K mg base "union_of" 1 ["numbers"] (spUnionOf K)):AU P w K mg base aK 2 f fd ["self"] (spKnown C):=by
 obtain⟨fU,dU,GU,mU,kU,bU⟩:=GU.ex;refine F.m SI λvs H Q E h=>?_;obtain⟨p,aB,r,rfl,KA,k⟩:=h;refine⟨Zj,λad A outer s hr=>?_⟩;obtain⟨dx,d1,o1,d2,o2,hp,h1,h2⟩:=KA.ex;refine⟨_,AG (AQ (AM GU hr Zj mU kU bU .nil AR (AA (BU (MJ Zj) Zj B.list J0 (AA (BI (pv 0) Zj) AC)) AC))),?_⟩;refine⟨_,Zj,p,C,dx,_,_,Zj,hp,T.cl,T.nF,QT _ _ _,d2,_,Zj,.inr ⟨o2,h2⟩,λl hl=>?_⟩;refine⟨l,(BD aB).map (·.1),Zj,aN.of (by rw[AB];unfold E9 BM;rw[map_map,map_map];rfl),k _ (AD (aA.refl _) hl)⟩
end
def QW {as:List Xd}{ps:List (V×V)}{i:Nat}{b:Xd} (h:bV H as ps) (e:as[i]?=some b):∃p,ps[i]?=some p/\H b=some (.tup [p.1,p.2]):=E8 h e
section
def aS.ins {p:Xd}{r:Str} (h:aS C H p aB r):∃dx d1 d2,H p=some (.ins C dx (IA d1 d2 r)):=by
 obtain⟨dx,d1,o1,d2,o2,a,_⟩:=h.ex;exact⟨dx,d1,d2,a⟩
end
def Fh {x:Int}{n:Nat} (h0:0<=x) (h:x<2 ^ n):Builtin.Int.intBits x<=n:=by
 obtain⟨m,rfl⟩:=Int.eq_ofNat_of_zero_le h0;have hm:m<2 ^ n:=by exact_mod_cast h
 rcases Nat.eq_zero_or_pos m with e |hp
 ·subst e;exact Nat.zero_le _
 ·rw[D4 hp];exact(Nat.log2_lt qe).mpr hm
def IE {xs:Xc}{i:Int} (h0:0<=i) (h1:i<xs.length):∃v,gT xs i=some v/\xs[i.toNat]?=some v:=by
 have aL:i.toNat<xs.length:=by omega
 refine⟨xs[i.toNat],?_,Z7 aL⟩;unfold gT ib;rw[Zq h0,Zq h1];exact Z7 aL
structure aO (d:Xd) (H H':Hp):Prop where
 old:∀b o,H b=some o->b≠d->H' b=some o
 bY:∃a b:Int,H' d=some (.lst [.int a,.int b])
def aO.step {d:Xd}{H1 H2:Hp} (x:aO d H H1) (s:aA H1 H2):aO d H H2 :=
 ⟨λb o e hb=>s _ _ (x.old b o e hb),by obtain⟨a,b,e⟩:=x.bY;exact⟨a,b,s _ _ e⟩⟩
def aO.trans {d:Xd}{H1 H2:Hp} (x:aO d H H1) (y:aO d H1 H2):aO d H H2:=⟨λb o e hb=>y.old _ _ (x.old b o e hb) hb,y.bY⟩
section
inductive spCell (K:FG) (vs:Xc) (H:Hp) (Q:VK) (_E:XK):Prop where
 |mk (a:Xd) (ns:List Int) (k:Int) (cD:vs=[.ref a,.int k]) (cG:aN K H a (ns.map V.int)) (cI:ns.length<=63) (cY:0<=k) (d5:∀(v:Int) H',aA H H'->Q (.int v) H')
def UM:AN ["_law_script", "_law_k"] ["_law_script", "_law_k"] (defScope Hw):=cQ
def SJ {f:Xd} (F:aV K "_law_cell" "_law_cell" Hw f fd) (B:Bl mg):AU P w K mg base aK 1 f fd ["_law_script", "_law_k"] (spCell K):=by
 refine F.m UM λvs H Q E h=>?_;obtain⟨a,ns,kk,rfl,hS,h63,hk,k⟩:=h;refine⟨Zj,λad A outer s hr=>?_⟩;have hu:=hr.units
 refine⟨_,AF (Ak (AL (T5 K Zj hu) (pv 0) (A8 AC) (AO _)) (AG (AQ (Af HJ (pv 1) AE))) AV)
  (AG (AQ (Af B0 (BJ (Au K rfl) (pv 0) (Af Ei (pv 1) (AW (BV K rfl) rfl B.len PySem.boot_len (AA (pv 0) AC))) (λ_ _=>rfl))
   (Af HJ (Af NO (pv 1) (AW (BV K rfl) rfl B.len PySem.boot_len (AA (pv 0) AC))) AE)))),?_⟩
 refine⟨_,Zj,Nat.zero_le _,λp hp=>?_⟩;have s1:aA H (upd H p (.lst [])):=AD (aA.refl _) hp;refine⟨a,p,ns,[],Zj,Zj,s1.seq hS,aN.of AB,_,Zj,?_⟩;refine B4 (λh0=>?_) (λh0=>?_)
 ·exact⟨_,Zj,_,_,Zj,Zj,.inr ⟨qc,qc⟩,k _ _ s1⟩
 ·have ax:ns≠ []:=λz=>h0 (ZM z);have ci:0<ns.length:=List.length_pos_iff.mpr ax;have hl:(ns.map V.int).length=ns.length:=AS _;have hm0:0<=kk % ((ns.map V.int).length:Int):=Int.emod_nonneg _ (by rw[hl];omega);have hm1:kk % ((ns.map V.int).length:Int)<((ns.map V.int).length:Nat):=Int.emod_lt_of_pos _ (by rw[hl];omega);obtain⟨v,hv,ff⟩:=IE (xs:=ns.map V.int) hm0 hm1
  obtain⟨n,rfl⟩:∃n,v=V.int n:=by
   rw[ZF]at ff;cases e:ns[(kk % ((ns.map V.int).length:Int)).toNat]? with
   |none=>rw[e]at ff;cases ff
   |some n=>rw[e]at ff;exact⟨n,(Option.some.inj ff).symm⟩
  refine⟨_,Zj,_,Zj,_,Zj,a,_,Zj,.inl (s1.seq hS),_,_,Zj,Zj,(by rw[hl];omega),a,_,_,_,Zj,Zj,s1.seq hS,hv,?_⟩;exact⟨_,Zj,_,Zj,a,_,Zj,.inl (s1.seq hS),_,_,Zj,Zj,⟨by rw[hl];omega,by rw[hl];omega⟩,_,_,Zj,Zj,.inr ⟨qc,qc⟩,_,_,Zj,Zj,k _ _ s1⟩
inductive spDrawn (vs:Xc) (H:Hp) (Q:VK) (_E:XK):Prop where
 |mk (c k:Int) (cD:vs=[.int c,.int k]) (cG:∀r:Int,0<=r->Q (.int r) H)
def scDrawn:AN ["_law_cell_here", "_law_k", "_law_more"] ["_law_cell_here", "_law_k"] (defScope GY):=cQ
def QX {f:Xd} (F:aV K "_law_drawn" "_law_drawn" GY f fd):AU P w K mg base aK 1 f fd ["_law_cell_here", "_law_k"] spDrawn:=by
 refine F.m scDrawn λvs H Q E h=>?_;obtain⟨c,kk,rfl,k⟩:=h;refine⟨Zj,λad A outer s hr=>?_⟩
 refine⟨_,AF (Ag (i:=2) scDrawn.nd Zj (Or.inl Zj) (Af Ei (Af B0 (Af HJ (pv 0) AE) (Af HJ (Af B0 (pv 1) AE) AE)) AE))
  (AF (Ag (i:=2) scDrawn.nd rfl (Or.inl rfl) (Af Ei (Af Jl (pv 2) (pv 2)) AE))
  (AF (Ag (i:=2) scDrawn.nd rfl (Or.inl rfl) (Af Jl (Af Jl (Af B0 (Af Ei (pv 2) AE) AE) (Af B0 (Af Kb (pv 2) AE) AE)) (pv 2)))
  (AG (AQ (Af Ei (pv 2) AE))))),?_⟩
 refine⟨_,Zj,_,_,Zj,Zj,.inr ⟨qc,qc⟩,_,Zj,_,_,Zj,Zj,_,_,Zj,Zj,.inr ⟨qc,qc⟩,_,_,Zj,Zj,_,_,Zj,Zj,(by show(0:Int)<_;decide),?_⟩;generalize ha:(c*6364136223846793005+(kk+1)*1442695040888963407) % 340282366920938463463374607431768211507=m1
 have h1:0<=m1/\m1<2 ^ 130:=by
  rw[←ha];exact⟨Int.emod_nonneg _ qc,Int.lt_trans (Int.emod_lt_of_pos _ qc) qc⟩
 have b1:Builtin.Int.intBits m1<=2 ^ 20:=Nat.le_trans (Fh h1.1 h1.2) qc;subst ha;refine⟨_,Zj,_,Zj,_,_,Zj,Zj,⟨b1,b1⟩,_,_,Zj,Zj,(by show(0:Int)<_;decide),?_⟩;generalize hb:(c*6364136223846793005+(kk+1)*1442695040888963407) % 340282366920938463463374607431768211507*((c*6364136223846793005+(kk+1)*1442695040888963407) % 340282366920938463463374607431768211507) % 340282366920938463463374607431768211297=m2
 have h2:0<=m2/\m2<2 ^ 130:=by
  rw[←hb];exact⟨Int.emod_nonneg _ qc,Int.lt_trans (Int.emod_lt_of_pos _ qc) qc⟩
 have b2:Builtin.Int.intBits m2<=2 ^ 20:=Nat.le_trans (Fh h2.1 h2.2) qc
 have p1:0<=m2 % 18446744073709551557+1/\m2 % 18446744073709551557+1<2 ^ 65:=by
  have:=Int.emod_nonneg m2 (show(18446744073709551557:Int)≠0 by decide);have:=Int.emod_lt_of_pos m2 (show(0:Int)<18446744073709551557 by decide);omega
 have p2:0<=m2 / 18446744073709551557+1/\m2 / 18446744073709551557+1<2 ^ 131:=by
  have h3:=Int.ediv_nonneg h2.1 (show(0:Int)<=18446744073709551557 by decide);have h4:=Int.ediv_le_self (18446744073709551557) h2.1;omega
 have p3:0<=(m2 % 18446744073709551557+1)*(m2 / 18446744073709551557+1):=Int.mul_nonneg p1.1 p2.1
 have p4:(m2 % 18446744073709551557+1)*(m2 / 18446744073709551557+1)<2 ^ 196:=by
  have:=Int.mul_lt_mul' (Int.le_of_lt p1.2) p2.2 p2.1 (show(0:Int)<2 ^ 65 by decide);exact Int.lt_of_lt_of_le this qc
 have c1:Builtin.Int.intBits (m2 % 18446744073709551557+1)<=2 ^ 20:=Nat.le_trans (Fh p1.1 p1.2) qc;have c2:Builtin.Int.intBits (m2 / 18446744073709551557+1)<=2 ^ 20:=Nat.le_trans (Fh p2.1 p2.2) qc;have c3:Builtin.Int.intBits ((m2 % 18446744073709551557+1)*(m2 / 18446744073709551557+1))<=2 ^ 20:=Nat.le_trans (Fh p3 p4) qc;subst hb;refine⟨_,Zj,_,_,Zj,Zj,(by show(0:Int)<_;decide),_,_,Zj,Zj,_,Zj,_,_,Zj,Zj,⟨qc,PyProof.noPylong_of_log2 qb⟩,_,_,Zj,Zj,_,_,Zj,Zj,⟨c1,c2⟩,?_⟩;refine⟨_,Zj,_,_,Zj,Zj,⟨c3,b2⟩,?_⟩;exact⟨_,Zj,_,_,Zj,Zj,(by show(0:Int)<_;decide),k _ (Int.emod_nonneg _ qc)⟩
inductive d8 (vs:Xc) (H:Hp) (Q:VK) (_E:XK):Prop where
 |mk (d:Xd) (a b m:Int) (cD:vs=[.ref d,.int m]) (cG:H d=some (.lst [.int a,.int b])) (cI:0<m) (cY:m<1073741824) (d5:∀r a' b':Int,0<=r->r<m->Q (.int r) (upd H d (.lst [.int a',.int b'])))
def scRoll:AN ["_law_dice", "_law_many", "_law_told_here"] ["_law_dice", "_law_many"] (defScope Fe):=cQ
inductive spRollB (vs:Xc) (H:Hp) (Q:VK) (_E:XK):Prop where
 |mk (d:Xd) (a b m:Int) (cD:vs=[.ref d,.int m]) (cG:H d=some (.lst [.int a,.int b])) (cI:0<m) (cY:m.natAbs.log2<9000) (d5:∀r a' b':Int,0<=r->r<m->Q (.int r) (upd H d (.lst [.int a',.int b'])))
def QY {f:Xd} (F:aV K "_law_roll" "_law_roll" Fe f fd) (GD:Fn P w K mg base "_law_drawn" 1 ["_law_cell_here", "_law_k"] spDrawn):AU P w K mg base aK 2 f fd ["_law_dice", "_law_many"] spRollB:=by
 obtain⟨fD,dD,GD,mD,kD,bD⟩:=GD.ex;refine F.m scRoll λvs H Q E h=>?_;obtain⟨d,a,b,m,rfl,hd,m0,m1,k⟩:=h;refine⟨Zj,λad A outer s hr=>?_⟩
 refine⟨_,AF (Ak (AL Gk (BJ (Au K Zj) (pv 0) AE (λ_ _=>rfl)) (Af Ja AE AE) (AO _))
   (AF (Ag (i:=2) scRoll.nd rfl (Or.inl rfl) (Af Ei (BJ (Au K rfl) (pv 0) AE (λ_ _=>rfl)) (pv 1)))
   (AF (Cp (Af Kb (BJ (Au K rfl) (pv 0) AE (λ_ _=>rfl)) (pv 1)) (JZ (pv 0) AE FI))
   (AG (AQ (pv 2))))) AV)
  (AF (Cp (Af B0 (BJ (Au K rfl) (pv 0) AE (λ_ _=>rfl)) AE) (JZ (pv 0) AE FI))
  (AG (AQ (Af Ei (Af NO (AM GD hr rfl mD kD bD .nil AR (AA (BJ (Au K rfl) (pv 0) AE (λ_ _=>rfl)) (AA (BJ (Au K rfl) (pv 0) AE (λ_ _=>rfl)) AC))) AE) (pv 1))))),?_⟩
 refine⟨_,Zj,d,_,0,.int a,Zj,Zj,aN.of hd,BO (j:=0) Zj,_,_,Zj,Zj,⟨qc,qc,qc⟩,_,_,Zj,Zj,_,Zj,?_⟩;refine B4 (λ_=>?_) (λ_=>?_)
 ·refine⟨_,Zj,d,_,0,.int a,Zj,Zj,aN.of hd,BO (j:=0) Zj,_,Zj,_,_,Zj,Zj,m0,?_⟩;refine⟨_,Zj,d,_,0,.int a,Zj,Zj,aN.of hd,BO (j:=0) Zj,_,Zj,_,_,Zj,Zj,⟨m0,PyProof.noPylong_of_log2 m1⟩,_,Zj,d,_,0,0,Zj,Zj,hd,Zj,?_⟩;exact⟨_,Zj,k _ (a / m) b (Int.emod_nonneg _ qe) (Int.emod_lt_of_pos _ m0)⟩
 ·refine⟨_,Zj,d,_,1,.int b,Zj,Zj,aN.of hd,BO (j:=1) Zj,_,_,Zj,Zj,_,Zj,d,_,1,1,Zj,Zj,hd,Zj,?_⟩;have hd2:(upd H d (.lst ([V.int a,V.int b].set 1 (V.int (b+1))))) d=some (.lst [.int a,.int (b+1)]):=AB;refine⟨_,Zj,d,_,0,.int a,Zj,Zj,aN.of hd2,BO (j:=0) Zj,_,Zj,d,_,1,.int (b+1),Zj,Zj,aN.of hd2,BO (j:=1) Zj,_,_,Zj,λr hr0=>?_⟩;refine⟨_,_,Zj,Zj,⟨qc,qc⟩,_,Zj,_,_,Zj,Zj,m0,?_⟩;exact k _ a (b+1) (Int.emod_nonneg _ qe) (Int.emod_lt_of_pos _ m0)
def QZ {CX:gL}{k:Nat}{f:Xd}{ps:Xa}{sp sp':Sp} (F:AU P w K mg base CX k f fd ps sp) (h:∀vs H Q E,sp' vs H Q E->sp vs H Q E):AU P w K mg base CX k f fd ps sp' :=
 ⟨λvs H Q E q=>F.len _ _ _ _ (h _ _ _ _ q),λA outer s H args us vs Q E hr he hb hv q=>F.run A outer s H args us vs Q E hr he hb hv (h _ _ _ _ q)⟩
def SK {f:Xd} (F:aV K "_law_roll" "_law_roll" Fe f fd) (GD:Fn P w K mg base "_law_drawn" 1 ["_law_cell_here", "_law_k"] spDrawn):AU P w K mg base aK 2 f fd ["_law_dice", "_law_many"] d8:=QZ (QY F GD) λvs H Q E h=>by
 obtain⟨d,a,b,m,e,hd,h0,h1,q⟩:=h;refine⟨d,a,b,m,e,hd,h0,?_,q⟩
 have:m.natAbs<2 ^ 30:=by
  have:(2:Nat) ^ 30=1073741824:=by decide
  omega
 have:=(Nat.log2_lt (n:=m.natAbs) (k:=30) qe).mpr this;omega
end
section
inductive spRounds (K:FG) (vs:Xc) (H:Hp) (Q:VK) (_E:XK):Prop where
 |mk (a:Xd) (ns:List Int) (cD:vs=[.ref a,.int 4]) (cG:aN K H a (ns.map V.int)) (cI:ns.length<=63) (cY:∀(l:Xd) (as:List Xd) H',aA H H'->H' l=some (.lst (as.map V.ref))->as.Nodup->l∉ as->as.length<=4->(∀b∈as,H b=none/\∃x y:Int,H' b=some (.lst [.int x,.int y]))->Q (.ref l) H')
def Qa:AN ["_law_script", "_law_most"] ["_law_script", "_law_most"] (defScope E4):=cQ
def O3 {f:Xd} (F:aV K "_law_rounds" "_law_rounds" E4 f fd) (B:Bl mg) (GC:Fn P w K mg base "_law_cell" 1 ["_law_script", "_law_k"] (spCell K)):AU P w K mg base aK 2 f fd ["_law_script", "_law_most"] (spRounds K):=by
 obtain⟨fC,dC,GC,mC,kC,bC⟩:=GC.ex;refine F.m Qa λvs H Q E h=>?_;obtain⟨a,ns,rfl,hS,h63,k⟩:=h;refine⟨Zj,λad A outer s hr=>?_⟩
 refine⟨_,AG (AQ (DP ["_law_script"] [some 0] qd qb qd rfl
  (EL rfl B.range (AA (AW (OJ rfl) rfl B.max UJ (AA AE (AA (AW (OK rfl) rfl B.min UI (AA (pv 1) (AA (AW (BV K rfl) rfl B.len PySem.boot_len (AA (pv 0) AC)) AC))) AC))) AC))
  (λ_ _ _ _ _ _=>Cl)
  (λ_ _ _ _ _ _=>A8 (AA (AM GC hr rfl mC kC bC .nil AR (AA (pv 1) (AA (pv 0) AC))) (AA AE AC))))),?_⟩
 have hl:(ns.map V.int).length=ns.length:=AS _;refine⟨_,Zj,_,Zj,a,_,Zj,.inl hS,_,_,Zj,_,_,Zj,_,Zj,?_,?_,?_⟩
 ·split <;> split <;> omega
 ·split <;> split <;> omega
 ·generalize hn:(if (if (((ns.map V.int).length:Nat):Int)<4 then (((ns.map V.int).length:Nat):Int)else 4)>1 then (if (((ns.map V.int).length:Nat):Int)<4 then (((ns.map V.int).length:Nat):Int)else 4)else 1).toNat=n
  have n5:n<=4:=by
   rw[←hn];split <;> split <;> omega
  refine HW (lo:=0) (n:=n) (λi ys H2=>∃as:List Xd,ys=as.map V.ref/\as.length=i/\i<=4/\aA H H2/\as.Nodup/\∀b∈as,H b=none/\∃x y:Int,H2 b=some (.lst [.int x,.int y])) ⟨[],rfl,rfl,qc,aA.refl _,nodup_nil,λb hb=>nomatch hb⟩ ?_ ?_ ?_
  ·rintro i ys H2 ⟨as,rfl,e,h5,_⟩;rw[AS];omega
  ·rintro i ys H2 hi ⟨as,rfl,e,h5,s2,nd,hb⟩;refine⟨_,Zj,_,Zj,a,ns,_,Zj,s2.seq hS,h63,qe,λv H3 s3=>⟨fc,λp hp=>?_⟩⟩;refine⟨as++[p],by rw[Zv];rfl,by rw[ZI,e];rfl,qe,AD (s2.trans s3) hp,?_,λb f9=>?_⟩
   ·refine List.nodup_append.mpr ⟨nd,Zt.mpr ⟨not_mem_nil,nodup_nil⟩,?_⟩;intro x hx y hy;rw[ZH]at hy;subst hy;obtain⟨_,x1,y1,e1⟩:=hb x hx;exact AJ (s3 _ _ e1) hp
   ·rcases mem_append.mp f9 with z |z
    ·obtain⟨h0,x1,y1,e1⟩:=hb b z;exact⟨h0,x1,y1,AD s3 hp _ _ e1⟩
    ·rw[ZH]at z;subst z;refine⟨?_,v,0,AB⟩;cases e:H b with
     |none=>rfl
     |some o =>
      have:=s3 _ _ (s2 _ _ e);rw[this]at hp;cases hp
  ·rintro ys H2 ⟨as,rfl,e,h5,s2,nd,hb⟩ l hl;refine k l as _ (AD s2 hl) AB nd ?_ qe λb f9=>?_
   ·intro z;obtain⟨_,x,y,e1⟩:=hb l z;rw[e1]at hl;cases hl
   ·obtain⟨h0,x,y,e1⟩:=hb b f9;exact⟨h0,x,y,AD (aA.refl _) hl _ _ e1⟩
end
end Mk
end
section
namespace L2
open PySem
def Vi (t u:TS):TS:=λD σ H=>∃G:St->Hp->Prop,(∀R:St->Hp->Prop,(∀σ H,G σ H->R σ H)->t { D with nx:=R } σ H)/\∀σ H,G σ H->u D σ H
def CD {X:Cx}{st:Stmt}{rest:List Stmt}{t u:TS} (h1:PS X st t) (h2:eE X rest u):eE X (st::rest) (Vi t u):=λaa s σ H D I ⟨_,a,b⟩=>AF h1 h2 aa s σ H D I (a (u D) b)
end L2
namespace Mk
open PySem L2 MK
def aP (H H':Hp):Prop:=∀b xs,H b=some (.tup xs)->H' b=some (.tup xs)
def aP.of (s:aA H H'):aP H H':=λb xs e=>s _ _ e
def aP.upd {d:Xd}{xs ys:Xc} (h:H d=some (.lst xs)):aP H (upd H d (.lst ys)):=λb zs e=>by
 rw[AH (λz=>by subst z;rw[h]at e;cases e)];exact e
def aP.trans {H1 H2:Hp} (x:aP H H1) (y:aP H1 H2):aP H H2:=λb xs e=>y _ _ (x _ _ e)
def bV.aZ {as:List Xd}{ps:List (V×V)} (s:aP H H') (h:bV H as ps):bV H' as ps:=Paired.mapP h λ_ _ e=>s _ _ e
def gu.aZ {v:V}{th:Th} (s:aP H H') (h:gu H v th):gu H' v th:=by
 cases th with
 |aI=>exact h
 |num n=>exact h
 |jH ns=>obtain⟨a,e,h⟩:=h;exact⟨a,e,s _ _ h⟩
def dY.aZ {b:Xd}{r:Str×Th} (s:aP H H') (h:dY H b r):dY H' b r:=by
 obtain⟨tv,e,t⟩:=h;exact⟨tv,s _ _ e,t.aZ s⟩
def Cu {as:List Xd}{rows:List (Str×Th)} (s:aP H H') (h:Paired (dY H) as rows):Paired (dY H') as rows:=Paired.mapP h λ_ _ e=>e.aZ s
noncomputable def Qb (aB:Aa):List PyData:=aB.map λp=>.tuple [.str p.1,.int (p.2:Int)]
def Qc {b:Xd}{x:Str}{n:Int} (h:H b=some (.tup [.str x,.int n])):BZ K H (.tuple [.str x,.int n]) (.ref b):=by
 rw[BZ];refine⟨b,_,Zj,bH.of h,?_⟩;rw[Aw];refine⟨_,_,Zj,by rw[BZ],?_⟩;rw[Aw];refine⟨_,_,Zj,by rw[BZ],?_⟩;rw[Aw]
def LF:∀ {aB:Aa}{bs:List Xd},bV H bs (ID aB)->Aw K H (Qb aB) (bs.map V.ref)
 | [],bs,h=>by
  have:bs=[]:=List.eq_nil_of_length_eq_zero (by rw[h.length];rfl);subst this;show Aw K H [] [];rw[Aw]
 |p::r,[],h=>by have:=h.length;simp[ID]at this
 |p::r,b::bs,h=>by
  have hh:H b=some (.tup [.str p.1,.int (p.2:Int)])/\bV H bs (ID r):=by
   cases h with
   |cons h1 h2=>exact⟨h1,h2⟩
  show Aw K H (.tuple [.str p.1,.int (p.2:Int)]::Qb r) (V.ref b::bs.map V.ref);rw[Aw];exact⟨_,_,Zj,Qc hh.1,LF hh.2⟩
def IF:∀xs:Xa,Aw K H (xs.map PyData.str) (xs.map V.str)
 | []=>by show Aw K H [] [];rw[Aw]
 |x::r=>by
  show Aw K H (.str x::r.map PyData.str) (V.str x::r.map V.str);rw[Aw];exact⟨_,_,Zj,by rw[BZ],IF r⟩
def D9 {l:Xd}{ds:List PyData}{xs:Xc} (h:H l=some (.lst xs)) (d:Aw K H ds xs):BZ K H (.list ds) (.ref l):=by
 rw[BZ];exact⟨l,xs,Zj,aN.of h,d⟩
def SL:Aw K H [] []:=by rw[Aw]
def SM (ds:List PyData):PyData.eqv (.list ds) (.list [])=ds.isEmpty:=by
 cases ds with
 |nil=>rfl
 |cons a r=>simp[PyData.eqv,PyData.eqvAll]
def DS {x:Str} (h:x.cps.all (· < 128)=true):PyData.strOk x=true:=by
 unfold PyData.strOk;simp only[Array.all_eq_true,decide_eq_true_eq]at h ⊢;intro i hi;have:=h i hi;simp;omega
def J3 {ds:List PyData} (h:∀d∈ds,d.canLay0=true):PyData.canLayAll0 ds=true:=by
 induction ds with
 |nil=>rfl
 |cons a r ih=>rw[PyData.canLayAll0,h a ZJ,ih λd hd=>h d (ZR _ hd)];rfl
def UN {ds:List PyData}{k:Nat} (h:∀d∈ds,d.depth<=k):PyData.depthAll ds<=k:=by
 induction ds with
 |nil=>rw[PyData.depthAll];exact Nat.zero_le _
 |cons a r ih=>rw[PyData.depthAll];exact Nat.max_le.mpr ⟨h a ZJ,ih λd hd=>h d (ZR _ hd)⟩
def Gr {ds:List PyData} (h:∀d∈ds,d.canLay0=true/\d.depth<=60):SeqAt.shaped (.list ds)=true:=by
 unfold SeqAt.shaped;rw[Bool.and_eq_true,decide_eq_true_eq];refine⟨by rw[PyData.canLay0];exact J3 λd hd=>(h d hd).1,?_⟩;rw[PyData.depth];have:=UN (k:=60) λd hd=>(h d hd).2;omega
def Qd {x:Str}{n:Int} (h:x.cps.all (· < 128)=true):(PyData.tuple [.str x,.int n]).canLay0=true/\(PyData.tuple [.str x,.int n]).depth<=60:=by
 refine⟨?_,?_⟩
 ·rw[PyData.canLay0];refine J3 λd hd=>?_;simp only[mem_cons,not_mem_nil,or_false]at hd;rcases hd with rfl |rfl
  ·rw[PyData.canLay0];exact DS h
  ·rw[PyData.canLay0]
 ·simp only[PyData.depth,PyData.depthAll];omega
def LG (h:∀p∈aB,p.1.cps.all (· < 128)=true):SeqAt.shaped (.list (Qb aB))=true:=Gr λd hd=>by
 obtain⟨p,hp,rfl⟩:=Zs.mp hd;exact Qd (h p hp)
def Gs {xs:Xa} (h:∀x∈xs,x.cps.all (· < 128)=true):SeqAt.shaped (.list (xs.map PyData.str))=true:=Gr λd hd=>by
 obtain⟨x,hx,rfl⟩:=Zs.mp hd;exact⟨by rw[PyData.canLay0];exact DS (h x hx),by simp[PyData.depth]⟩
def M6:SeqAt.shaped (.list [])=true:=by decide +kernel
noncomputable def uni (aB:Aa) (ns:Xa):Nat:=B5 (aB.map λp=>if dz (.str p.1) (ns.map V.str)then p.2 else 0)
def HD (x:Str) (ns:Xa):dz (.str x) (ns.map V.str)=ns.any (· == x):=by
 unfold dz;rw[any_map];rfl
def ED {p:Str×Nat} (nd:(aB.map (·.1)).Nodup) (h:p∈aB):look aB p.1=p.2:=by
 induction aB with
 |nil=>cases h
 |cons q r ih =>
  rw[map_cons,Zt]at nd;unfold look;by_cases e:q.1=p.1
  ·rw[List.find?_cons_of_pos (by simpa using e)];rcases mem_cons.mp h with z |z
   ·subst z;rfl
   ·exact absurd (Zs.mpr ⟨p,z,e.symm⟩) nd.1
  ·rw[List.find?_cons_of_neg (by simpa using e)];rcases mem_cons.mp h with z |z
   ·subst z;exact absurd Zj e
   ·exact ih nd.2 z
def UO {ns:Xa} (nd:(aB.map (·.1)).Nodup) (hs:∀x∈ns,x∈aB.map (·.1)):uni aB ns=B5 (ns.map (look aB)):=by
 refine Nat.eq_of_testBit_eq λk=>?_;unfold uni;rw[EO,EO,any_map,any_map,Bool.eq_iff_iff,any_eq_true,any_eq_true];constructor
 ·rintro⟨p,hp,hb⟩;simp only[Function.comp]at hb;by_cases hi:dz (.str p.1) (ns.map V.str)=true
  ·rw[Zq hi]at hb;rw[HD,any_eq_true]at hi;obtain⟨x,hx,e⟩:=hi;have e':x=p.1:=by simpa using e
   subst e';exact⟨p.1,hx,by simp only[Function.comp];rw[ED nd hp];exact hb⟩
  ·rw[Zr hi,Nat.zero_testBit]at hb;cases hb
 ·rintro⟨x,hx,hb⟩;obtain⟨p,hp,rfl⟩:=Zs.mp (hs x hx);refine⟨p,hp,?_⟩;simp only[Function.comp]at hb ⊢;rw[ED nd hp]at hb;rw[Zq (by rw[HD,any_eq_true];exact⟨p.1,hx,by simp⟩)];exact hb
def LH {rows:List (Str×Th)}{r:Str×Th} (h:E7 rows) (hr:Nr (Am rows) r):E7 (rows++[r]):=by
 intro i q e;rcases Nat.lt_trichotomy i rows.length with z |z |z
 ·rw[List.getElem?_append_left z]at e;rw[List.take_append_of_le_length (Nat.le_of_lt z)];exact h i q e
 ·subst z;rw[getElem?_append_right (Zz _),Nat.sub_self]at e;have:r=q:=by simpa using e
  subst this;rw[List.take_append_of_le_length (Zz _),ZC];exact hr
 ·rw[List.getElem?_eq_none (by rw[ZI,length_singleton];omega)]at e;cases e
def LI {rows:List (Str×Th)} (h:E7 rows) (iX:rows.length<=10):D8 (Am rows):=by
 have key:∀n,n<=rows.length->D8 (Am (rows.take n)):=by
  intro n;induction n with
  |zero=>intro _;rw[List.take_zero];exact⟨qc,(λp hp=>nomatch hp),nodup_nil,(λp hp=>nomatch hp)⟩
  |succ n ih =>
   intro hn;have D:=ih qe;have hq:rows[n]?=some rows[n]:=Z7 qe;have R:=h n _ hq;rw[ZE,hq,Option.toList_some,Gb];refine⟨?_,λp hp=>?_,?_,λp hp=>?_⟩
   ·rw[ZI,length_singleton];have:=R.few;omega
   ·rcases mem_append.mp hp with z |z
    ·exact D.lt p z
    ·rw[ZH]at z;subst z;exact R.lt
   ·rw[Zv];refine List.nodup_append.mpr ⟨D.nd,Zt.mpr ⟨not_mem_nil,nodup_nil⟩,?_⟩;intro x hx y hy;have ey:y=(rows[n]).1:=by simpa using hy
    subst ey;exact λz=>R.new (z ▸ hx)
   ·rcases mem_append.mp hp with z |z
    ·exact D.nm p z
    ·rw[ZH]at z;subst z;exact R.nm
 have:=key rows.length (Zz _);rw[ZC]at this;exact this
def UP {A B:TT}{σ:St}{Q:Bool->Hp->Prop} (p q:Bool) (hA:∀Q':Bool->Hp->Prop,Q' p H->A σ H Q') (hB:∀Q':Bool->Hp->Prop,Q' q H->B σ H Q') (h:Q (p ||q) H):tOr A B σ H Q:=by
 refine hA _ ?_;cases p with
 |true=>exact Ac h
 |false=>exact AT (hB _ h)
def SN {A B:TT}{σ:St}{Q:Bool->Hp->Prop} (p q:Bool) (hA:∀Q':Bool->Hp->Prop,Q' p H->A σ H Q') (hB:∀Q':Bool->Hp->Prop,(∀H',aA H H'->Q' q H')->B σ H Q') (h:∀H',aA H H'->Q (p&&q) H'):Ti A B σ H Q:=by
 refine hA _ ?_;cases p with
 |true=>exact Ac (hB _ h)
 |false=>exact AT (h _ (aA.refl _))
def JJ {p:Xd} (s:aA H H') (h:H' p=none):H p=none:=by
 cases e:H p with
 |none=>rfl
 |some o=>rw[s _ _ e]at h;cases h
def DB {X:Cx}{x:Str}{j}{p:Pos}{es:List Expr}{t:TA} (h:PA X es t):PA X (.Constant (.str x) j p::es) (Ab (tC (.str x)) t):=AA AI h
def O4 {X:Cx}{x0 x1 x2 x3 x4 x5 x6 x7 x8 x9:Str}{j0}{j1}{j2}{j3}{j4}{j5}{j6}{j7}{j8}{j9}{p0 p1 p2 p3 p4 p5 p6 p7 p8 p9:Pos}:PA X [.Constant (.str x0) j0 p0,.Constant (.str x1) j1 p1,.Constant (.str x2) j2 p2,.Constant (.str x3) j3 p3,.Constant (.str x4) j4 p4,.Constant (.str x5) j5 p5,.Constant (.str x6) j6 p6,.Constant (.str x7) j7 p7,.Constant (.str x8) j8 p8,.Constant (.str x9) j9 p9] (Ab (tC (.str x0)) (Ab (tC (.str x1)) (Ab (tC (.str x2)) (Ab (tC (.str x3)) (Ab (tC (.str x4)) (Ab (tC (.str x5)) (Ab (tC (.str x6)) (Ab (tC (.str x7)) (Ab (tC (.str x8)) (Ab (tC (.str x9)) (B3))))))))))):=DB (DB (DB (DB (DB (DB (DB (DB (DB (DB (AC))))))))))
def EU {bs:List Xd}{i:Nat}{v:V} (h:bV H bs (ID aB)) (e:(bs.map V.ref)[i]?=some v):∃b p,v=.ref b/\bs[i]?=some b/\aB[i]?=some p/\H b=some (.tup [.str p.1,.int (p.2:Int)]):=by
 rw[ZF]at e
 obtain⟨b,hb,rfl⟩:∃b,bs[i]?=some b/\v=V.ref b:=by
  cases q:bs[i]? with
  |none=>rw[q]at e;cases e
  |some x=>rw[q]at e;exact⟨x,Zj,(Option.some.inj e).symm⟩
 obtain⟨pq,hpq,aj⟩:=QW h hb;unfold ID at hpq;rw[ZF]at hpq
 obtain⟨pr,hpr,rfl⟩:∃q,aB[i]?=some q/\pq=(V.str q.1,V.int (q.2:Int)):=by
  cases q:aB[i]? with
  |none=>rw[q]at hpq;cases hpq
  |some x=>rw[q]at hpq;exact⟨x,Zj,(Option.some.inj hpq).symm⟩
 exact⟨b,pr,Zj,hb,hpr,aj⟩
noncomputable def bZ:Xa:=["A", "B", "CD", "EFG", "H", "IJKLMN", "O", "P", "Q", "R"]
def Qe:∀x∈bZ,Vh x:=by
 have:∀x∈bZ,(Bv x&&x.cps.all (· < 128)&&decide (x.length<=1000))=true:=by decide +kernel
 intro x hx;have:=this x hx;simp only[Bool.and_eq_true,decide_eq_true_eq]at this;exact⟨this.1.1,this.1.2,this.2⟩
def O5:∀i:Fin 10,(bZ[i.1]?.map λx=>decide (x∈bZ.take i.1))=some false:=by decide +kernel
structure LW (d w f u:Xd) (H0 H:Hp) (rows:List (Str×Th)):Prop where
 old:∀b o,H0 b=some o->b≠d->H b=some o
 bY:∃a b:Int,H d=some (.lst [.int a,.int b])
 words:H w=some (.lst (bZ.map V.str))
 found:∃as:List Xd,H f=some (.lst (as.map V.ref))/\Paired (dY H) as rows
 aB:∃bs:List Xd,H u=some (.lst (bs.map V.ref))/\bV H bs (ID (Am rows))
structure Ap (d w f u:Xd) (H0:Hp):Prop where
 wd:w≠d
 fd:f≠d
 ud:u≠d
 wf:w≠f
 wu:w≠u
 fu:f≠u
 nf:H0 f=none
 nu:H0 u=none
section
variable {d w f u:Xd}{H0:Hp}{rows:List (Str×Th)}
def LW.same (h:LW d w f u H0 H rows) (s:aA H H'):LW d w f u H0 H' rows:=by
 obtain⟨a,b,e⟩:=h.bY;obtain⟨as,e1,p1⟩:=h.found;obtain⟨bs,e2,p2⟩:=h.aB;exact⟨λc o ec hc=>s _ _ (h.old c o ec hc),⟨a,b,s _ _ e⟩,s _ _ h.words,⟨as,s _ _ e1,Cu (aP.of s) p1⟩,⟨bs,s _ _ e2,bV.aZ (aP.of s) p2⟩⟩
def LW.roll (A:Ap d w f u H0) (h:LW d w f u H0 H rows) (a' b':Int):LW d w f u H0 (upd H d (.lst [.int a',.int b'])) rows:=by
 obtain⟨a,b,e⟩:=h.bY;obtain⟨as,e1,p1⟩:=h.found;obtain⟨bs,e2,p2⟩:=h.aB;have t:aP H (upd H d (.lst [.int a',.int b'])):=aP.upd e;exact⟨λc o ec hc=>by rw[AH hc];exact h.old c o ec hc,⟨a',b',AB⟩,by rw[AH A.wd];exact h.words,⟨as,by rw[AH A.fd];exact e1,Cu t p1⟩,⟨bs,by rw[AH A.ud];exact e2,bV.aZ t p2⟩⟩
end
def Cn {rows:List (Str×Th)}{bs:List Xd} (h:bV H bs (ID (Am rows))):bs.length=rows.length:=by
 rw[h.length];unfold ID;rw[AS,Bm]
def LJ (rows:List (Str×Th)):(Am rows).map (·.1)=rows.map (·.1):=by
 have:∀(l:List (Str×Th)) (a:Aa),((l.foldl (λaB r=>aB++[(r.1,C4 aB r.2)]) a).map (·.1))=a.map (·.1)++l.map (·.1):=by
  intro l;induction l with
  |nil=>intro a;simp
  |cons x r ih=>intro a;rw[foldl_cons,ih,Zv];simp
 have e:=this rows [];unfold Am;rw[e];rfl
noncomputable def Wz:St->Nat
 | [_,_,_,_,_,_,_,_,_,some (.int i),_,_]=>(2 ^ 22 - i).toNat
 |_=>0
section
inductive spLines (vs:Xc) (H:Hp) (Q:VK) (_E:XK):Prop where
 |mk (d:Xd) (a b M:Int) (cD:vs=[.ref d,.int M]) (cG:1<=M) (cI:M<=10) (cY:H d=some (.lst [.int a,.int b])) (d5:∀(q f u:Xd) (as bs:List Xd) (rows:List (Str×Th)) H',aO d H H'->H' q=some (.tup [.ref f,.ref u])->H f=none->H u=none->H' f=some (.lst (as.map V.ref))->Paired (dY H') as rows->H' u=some (.lst (bs.map V.ref))->bV H' bs (ID (Am rows)) ->     0<rows.length->(rows.length:Int)<=M->E7 rows->(∀x∈rows.map (·.1),x∈bZ)->Q (.ref q) H')
noncomputable abbrev UQ:Xa:=["_law_dice", "_law_most", "_law_words", "_law_found", "_law_due", "_law_at", "_law_high", "_law_kind", "_law_thing", "_law_number", "_law_name", "_law_more"]
@[irreducible] noncomputable def M7:Expr:=match defBody CP with | .Assign _ (.Tuple (e::_) _ _) _::_=>e |_=>.Constant .none 0 ⟨0,0,0,0⟩
noncomputable abbrev SQ:Stmt:=match defBody CP with | .Assign t (.Tuple (_::r) k p) q::_=>.Assign t (.Tuple (M7::r) k p) q |_=>.Pass ⟨0,0,0,0⟩
noncomputable abbrev UR:List Stmt:=(defBody CP).drop 1
def US:defBody CP=SQ::UR:=by kernel_rfl
def O6 {X:Cx}:PE X M7 (Tt (Ab (tC (.str "A")) (Ab (tC (.str "B")) (Ab (tC (.str "CD")) (Ab (tC (.str "EFG")) (Ab (tC (.str "H")) (Ab (tC (.str "IJKLMN")) (Ab (tC (.str "O")) (Ab (tC (.str "P")) (Ab (tC (.str "Q")) (Ab (tC (.str "R")) (B3)))))))))))):=by
 unfold M7;exact A8 O4
def aT:AN UQ ["_law_dice", "_law_most"] (defScope CP):=cQ
def Qf {f0:Xd} (F:aV K "_law_lines" "_law_lines" CP f0 fd) (B:Bl mg) (GR:Fn P w K mg base "_law_roll" 2 ["_law_dice", "_law_many"] d8):AU P w K mg base aK 3 f0 fd ["_law_dice", "_law_most"] spLines:=by
 obtain⟨fR,dR,GR,mR,kR,bR⟩:=GR.ex;refine F.m aT λvs H Q E h=>?_;obtain⟨d,a,b,M,rfl,M1,M10,hd,k⟩:=h;refine⟨Zj,λad A outer s hr=>?_⟩;have gC:=hr.units;have nd:=aT.nd;rw[US]
 refine⟨_,AF (Cp (hs:=by kernel_rfl) (hw:=by kernel_rfl) (Ay (AA (hs:=by kernel_rfl) O6 (AA (A8 AC) (AA (A8 AC) AC))))
   (Ch rfl (Ai (AZ (i:=2) aT.nd rfl (Or.inl rfl)) (Ai (AZ (i:=3) aT.nd rfl (Or.inl rfl)) (Ai (AZ (i:=4) aT.nd rfl (Or.inr rfl)) Br)))))
  (AF (Eg PassesOwn.never rfl (EL rfl B.range (AA (Af B0 AE (AM GR hr rfl mR kR bR .nil AR (AA (pv 0) (AA (pv 1) AC)))) AC)) (AZ (i:=5) aT.nd rfl (Or.inl rfl))
   (CD (Ag (i:=6) aT.nd rfl (Or.inl rfl) (Nb rfl rfl B.max (KY [] [] qd qb qd qd rfl (DZ (pv 4)) (λ_ _ _ _ _ _=>Cl) (λ_ _ _ _ _ _=>pv 1)) AE))
   (AF (Ag (i:=7) aT.nd rfl (Or.inl rfl) (AM GR hr rfl mR kR bR .nil AR (AA (pv 0) (AA AE AC))))
   (AF (Cp (hs:=by kernel_rfl) (hw:=by kernel_rfl) (Ay (AA Ft (AA AE AC))) (Ch rfl (Ai (AZ (i:=8) aT.nd rfl (Or.inl rfl)) (Ai (AZ (i:=9) aT.nd rfl (Or.inl rfl)) Br))))
   (CD (FC PassesOwn.never (AL EZ (pv 9) (pv 6) (AO _)) (AG (Ag (i:=9) aT.nd rfl (Or.inl rfl) (Af HJ (pv 9) AE))))
   (CD (Ak (PW.pt (DF (AL A7 (pv 7) AE (AO _)) (CJ (AL Gk (pv 9) (Af Ja AE AE) (AO _)))))
     (AF (Ag (i:=8) aT.nd rfl (Or.inl rfl) (BJ (Au K rfl) (A8 (AA (Af Lp AE (AM GR hr rfl mR kR bR .nil AR (AA (pv 0) (AA AE AC)))) (AA (AM GR hr rfl mR kR bR .nil AR (AA (pv 0) (AA AE AC)))
      (AA (Af Lp AE (AM GR hr rfl mR kR bR .nil AR (AA (pv 0) (AA AE AC)))) (AA AE AC))))) (AM GR hr rfl mR kR bR .nil AR (AA (pv 0) (AA AE AC))) (λ_ _=>rfl)))
     (AG (Ag (i:=9) aT.nd rfl (Or.inl rfl) (pv 8)))) AV)
   (CD (Ak (PW.pt (Bt (AL FF (pv 7) AE (AO _)) (BX (AL (He K rfl gC) (pv 4) (A8 AC) (AO _)))))
     (AF (Ag (i:=8) aT.nd rfl (Or.inl rfl) (BU IP rfl B.tuple Hy (AA (DP ["_law_due", "_law_dice"] [some 4,some 0] qd qb qd rfl (EL rfl B.range (AA (Af B0 AE (AM GR hr rfl mR kR bR .nil AR (AA (pv 0) (AA AE AC)))) AC)) (λ_ _ _ _ _ _=>Cl)
      (λ_ _ _ _ _ _=>BJ (CT K rfl) (BJ (Au K rfl) (pv 1) (AM GR hr rfl mR kR bR .nil AR (AA (pv 2) (AA (AW (BV K rfl) rfl B.len PySem.boot_len (AA (pv 1) AC)) AC))) (λ_ _=>rfl)) AE (λ_ _=>rfl))) AC)))
     (AF (Ag (i:=9) aT.nd rfl (Or.inl rfl) AE)
     (AG (Eg PassesOwn.never rfl (DZ (pv 4)) (Ch rfl (Ai (AZ (i:=10) aT.nd rfl (Or.inl rfl)) (Ai (AZ (i:=11) aT.nd rfl (Or.inl rfl)) Br)))
      (AG (Ag (i:=9) aT.nd rfl (Or.inl rfl) (Af S4 (pv 9) (Bz (AL DK (pv 10) (pv 8) rfl) (pv 11) AE)))))))) AV)
   (AF (A4 (DL PySem.F.plainAttrs_list PySem.F.slot_list_append PySem.F.type_list_append BK (pv 3) (AA (Ay (AA (BJ (Au K rfl) (pv 2) (pv 5) (λ_ _=>rfl)) (AA (pv 8) AC))) AC)))
   (AG (A4 (DL PySem.F.plainAttrs_list PySem.F.slot_list_append PySem.F.type_list_append BK (pv 4) (AA (Ay (AA (BJ (Au K rfl) (pv 2) (pv 5) (λ_ _=>rfl)) (AA (pv 9) AC))) AC))))))))))))
  (AG (AQ (Ay (AA (pv 3) (AA (pv 4) AC)))))),?_⟩
 refine⟨(by show 10<=sizeLine;decide),λpw hpw=>⟨Nat.zero_le _,λpf hpf=>⟨Nat.zero_le _,λpu hpu=>⟨gU,λq0 hq0=>?_⟩⟩⟩⟩;refine⟨q0,_,Zj,bH.of AB,Zj,_,_,Zj,_,_,Zj,_,_,Zj,Zj,?_⟩;have dw:pw≠d:=Ne.symm (AJ hd hpw);have s1:aA H (upd H pw (.lst (bZ.map V.str))):=AD (aA.refl _) hpw;have s2:aA (upd H pw (.lst (bZ.map V.str))) (upd (upd H pw (.lst (bZ.map V.str))) pf (.lst [])):=AD (aA.refl _) hpf;have s3:aA (upd (upd H pw (.lst (bZ.map V.str))) pf (.lst [])) (upd (upd (upd H pw (.lst (bZ.map V.str))) pf (.lst [])) pu (.lst [])):=AD (aA.refl _) hpu;have s4:=AD (aA.refl _) hq0 (o:=HO.tup [.ref pw,.ref pf,.ref pu]);have nf0:H pf=none:=JJ s1 hpf;have nu0:H pu=none:=JJ (s1.trans s2) hpu;have AP:Ap d pw pf pu H:=⟨dw,Ne.symm (AJ hd nf0),Ne.symm (AJ hd nu0),AJ AB hpf,AJ (s2 _ _ AB) hpu,AJ AB hpu,nf0,nu0⟩;have L0:LW d pw pf pu H _ []:=⟨λb o e _=>s4 _ _ (s3 _ _ (s2 _ _ (s1 _ _ e))),⟨a,b,s4 _ _ (s3 _ _ (s2 _ _ (s1 _ _ hd)))⟩,s4 _ _ (s3 _ _ (s2 _ _ AB)),⟨[],s4 _ _ (s3 _ _ AB),.nil⟩,⟨[],s4 _ _ AB,.nil⟩⟩;obtain⟨a1,b1,eS⟩:=L0.bY;refine⟨_,Zj,_,Zj,d,a1,b1,M,Zj,eS,qe,qe,λr a' b' h0 h1=>?_⟩;refine⟨_,_,Zj,Zj,_,Zj,qe,qe,?_⟩
 refine IZ (lo:=0) (n:=(1+r).toNat) (λi σ H2=>∃(v5 v6 v7 v8 v9 v10 v11:Option V) (rows:List (Str×Th)),σ=[some (.ref d),some (.int M),some (.ref pw),some (.ref pf),some (.ref pu),v5,v6,v7,v8,v9,v10,v11]/\rows.length=i/\E7 rows/\rows.map (·.1)=bZ.take i/\LW d pw pf pu H H2 rows)
  ⟨none,none,none,none,none,none,none,[],rfl,rfl,(λi r e=>by simp at e),rfl,L0.roll AP a' b'⟩ ?_ ?_
 ·rintro i σ H2 hi ⟨v5,v6,v7,v8,v9,v10,v11,rows,rfl,ba,RO,cm,L⟩;have hi10:i<10:=by omega
  have DO:D8 (Am rows):=LI RO qe;generalize bz:Do ((Am rows).map (·.2))=be
  have hh20:be<2 ^ 20:=by
   rw[←bz];exact K5 qc λn hn=>by obtain⟨p,hp,rfl⟩:=Zs.mp hn;exact DO.lt p hp
  refine⟨λσ H3=>σ=[some (.ref d),some (.int M),some (.ref pw),some (.ref pf),some (.ref pu),some (.int (0+(i:Int))),some (.int (be:Int)),v7,v8,v9,v10,v11]/\LW d pw pf pu H H3 rows,λR hR=>?_,?_⟩
  ·obtain⟨bs,hu,ap⟩:=L.aB;have gR:=Cn ap;refine⟨_,Zj,pu,Zj,⟨_,aN.of hu⟩,F3 (K:=K) (a:=pu) (xs:=bs.map V.ref) (λj ys H3=>ys=BM (((Am rows).take j).map (·.2))/\H3=H2) ⟨by rfl,Zj⟩ (λj ys H3 _ ⟨_,e⟩=>e ▸ aN.of hu) (λj ys H3 ⟨e,_⟩=>?_) ?_ ?_⟩
   ·rw[e];unfold BM;rw[AS,AS,ZB,Bm];omega
   ·rintro j v ys H3 hj ⟨rfl,rfl⟩;obtain⟨bb,p,rfl,hb1,ak,aj⟩:=EU ap hj;refine⟨bb,_,Zj,bH.of aj,Zj,_,_,Zj,_,_,Zj,Zj,?_⟩;refine⟨_,Zj,?_,Zj⟩;rw[ZE,ak,Option.toList_some,Zv];unfold BM;rw[Zv];rfl
   ·rintro ys H3 ⟨rfl,rfl⟩ p hp;have sp:=AD (aA.refl _) hp (o:=HO.lst (BM (((Am rows).take (bs.map V.ref).length).map (·.2))));have el:(Am rows).take (bs.map V.ref).length=Am rows:=by rw[AS,gR,←Bm,ZC]
    refine⟨p,((Am rows).map (·.2)).map (λn:Nat=>(n:Int)),0,Zj,Zj,aN.of (by rw[AB,el,Nq]),λe=>?_,λe=>?_⟩
    ·refine hR _ _ ⟨?_,L.same sp⟩;have:(Am rows).map (·.2)=[]:=List.map_eq_nil_iff.mp e;rw[this]at bz;subst bz;rfl
    ·refine hR _ _ ⟨?_,L.same sp⟩;have ax:(Am rows).map (·.2)≠ []:=λz=>e (by rw[z];rfl);rw[K8 ax,bz];rfl
  ·rintro σ H3 ⟨rfl,L3⟩;obtain⟨a3,b3,ju⟩:=L3.bY;refine⟨_,Zj,d,a3,b3,8,Zj,ju,qc,qc,λkd a4 b4 kd0 kd1=>?_⟩;have L4:=L3.roll AP a4 b4;refine⟨fc,λq hq=>⟨q,_,Zj,bH.of AB,Zj,_,_,Zj,_,_,Zj,Zj,?_⟩⟩;have L5:=L4.same (AD (aA.refl _) hq (o:=HO.tup [V.aI,V.int 1]));refine⟨λσ H6=>σ=[some (.ref d),some (.int M),some (.ref pw),some (.ref pf),some (.ref pu),some (.int (0+(i:Int))),some (.int (be:Int)),some (.int kd),some .aI,some (.int (Bb be:Nat)),v10,v11]/\LW d pw pf pu H H6 rows,λR hR=>?_,?_⟩
   ·refine PU (λσ H6=>LW d pw pf pu H H6 rows/\∃j:Nat,j<=20/\σ=[some (.ref d),some (.int M),some (.ref pw),some (.ref pf),some (.ref pu),some (.int (0+(i:Int))),some (.int (be:Int)),some (.int kd),some .aI,some (.int ((2 ^ j:Nat):Int)),v10,v11]/\(j=0\/2 ^ (j - 1)<=be)) (λσ _=>Wz σ) ⟨L5,0,qe,Zj,.inl Zj⟩ ?_ ?_
    ·rintro σ H6 ⟨L6,j,hj,rfl,hjj⟩;refine⟨_,Zj,_,Zj,_,_,Zj,Zj,_,Zj,?_⟩;refine B4 (λhle=>?_) (λhle=>?_)
     ·have hle':2 ^ j<=be:=by have:=ZU hle;exact_mod_cast this
      have hj20:j<20:=(Nat.pow_lt_pow_iff_right qc).mp (Nat.lt_of_le_of_lt hle' hh20);refine⟨_,Zj,_,_,Zj,Zj,.inr ⟨qc,qc⟩,?_⟩;have e2:(((2 ^ j:Nat):Int)*2)=((2 ^ (j+1):Nat):Int):=by rw[Nat.pow_succ];omega
      refine⟨⟨L6,j+1,qe,?_,.inr hle'⟩,?_⟩
      ·show [some (V.ref d),some (V.int M),some (V.ref pw),some (V.ref pf),some (V.ref pu),some (V.int (0+(i:Int))),some (V.int (be:Int)),some (V.int kd),some V.aI,some (V.int (((2 ^ j:Nat):Int)*2)),v10,v11]=_;rw[e2]
      ·show(2 ^ 22 - (((2 ^ j:Nat):Int)*2)).toNat<(2 ^ 22 - ((2 ^ j:Nat):Int)).toNat;have h1:0<2 ^ j:=Nat.two_pow_pos j;have h2:2 ^ j<=2 ^ 20:=Nat.pow_le_pow_right qc hj;omega
     ·have hgt:be<2 ^ j:=by
       have:¬ ((2 ^ j:Nat):Int)<=(be:Int):=λz=>hle (ZM z);omega
      refine hR _ _ ⟨?_,L6⟩;rw[K3 hgt hjj]
    ·rintro σ H6 Q1 Q2 hQ ⟨v,e1,v2,e2,i,j,a,b,c,ec,q⟩;exact⟨v,e1,v2,e2,i,j,a,b,c,ec,hQ _ _ q⟩
   ·rintro σ H6 ⟨rfl,L6⟩;have hsig:∀(tv nv iC iB:V),True:=λ_ _ _ _=>trivial;refine⟨λσ H7=>∃(tv:V) (th:Th) (iC iB:Option V),σ=[some (.ref d),some (.int M),some (.ref pw),some (.ref pf),some (.ref pu),some (.int (0+(i:Int))),some (.int (be:Int)),some (.int kd),some tv,some (.int (C4 (Am rows) th:Nat)),iC,iB]/\LW d pw pf pu H H7 rows/\gu H7 tv th/\SC (Am rows) th/\C4 (Am rows) th<2 ^ 20,λR hR=>?_,?_⟩
    ·refine UP (decide (V.int kd=V.int 5)) (decide ((2:Int) ^ (20:Int).toNat<=(Bb be:Nat))) (λQ' h=>⟨_,Zj,Zj,_,Zj,h⟩) (λQ' h=>⟨_,Zj,_,_,Zj,Zj,⟨qc,qc,qc⟩,_,_,Zj,Zj,_,Zj,h⟩) ?_;refine B4 (λ_=>?_) (λhc=>?_)
     ·obtain⟨x1,y1,e1⟩:=L6.bY;refine⟨_,Zj,d,x1,y1,8,Zj,e1,qc,qc,λr1 a1 b1 r10 r11=>?_⟩;have M1:=L6.roll AP a1 b1;refine⟨_,_,Zj,Zj,⟨r10,qe,qc⟩,?_⟩;obtain⟨x2,y2,e2⟩:=M1.bY;refine⟨_,Zj,d,x2,y2,64,Zj,e2,qc,qc,λr2 a2 b2 r20 r21=>?_⟩;have M2:=M1.roll AP a2 b2;obtain⟨x3,y3,e3⟩:=M2.bY;refine⟨_,Zj,d,x3,y3,20,Zj,e3,qc,qc,λr3 a3 b3 r30 r31=>?_⟩;have M3:=M2.roll AP a3 b3;refine⟨_,_,Zj,Zj,⟨r30,qe,qc⟩,?_⟩;refine⟨sl4,λp hp=>?_⟩;have M4:=M3.same (AD (aA.refl _) hp (o:=HO.lst [V.int (1*2 ^ r1.toNat),V.int r2,V.int (1*2 ^ r3.toNat),V.int 0]));obtain⟨x4,y4,e4⟩:=M4.bY;have npd:p≠d:=Ne.symm (AJ AB hp);refine⟨_,Zj,d,x4,y4,4,Zj,e4,qc,qc,λr4 a4 b4 r40 r41=>?_⟩;have M5:=M4.roll AP a4 b4;obtain⟨v,hv,ff⟩:=IE (xs:=[V.int (1*2 ^ r1.toNat),V.int r2,V.int (1*2 ^ r3.toNat),V.int 0]) r40 (by show r4<4;exact r41)
      have ic:∃n:Nat,v=.int (n:Int)/\n<2 ^ 20:=by
       have:=Z4 ff;simp only[mem_cons,not_mem_nil,or_false]at this;rcases this with z |z |z |z
       ·refine⟨2 ^ r1.toNat,by rw[z];simp,?_⟩;exact(Nat.pow_lt_pow_iff_right qc).mpr qe
       ·exact⟨r2.toNat,by rw[z,Int.toNat_of_nonneg r20],qe⟩
       ·refine⟨2 ^ r3.toNat,by rw[z];simp,?_⟩;exact(Nat.pow_lt_pow_iff_right qc).mpr qe
       ·exact⟨0,z,qc⟩
      obtain⟨n,rfl,hn⟩:=ic;refine⟨p,_,r4,_,Zj,Zj,aN.of (by rw[AH npd];exact AB),hv,?_⟩;exact⟨_,Zj,hR _ _ ⟨.int (n:Int),.num n,v10,v11,Zj,M5,Zj,trivial,hn⟩⟩
     ·refine hR _ _ ⟨.aI,.aI,v10,v11,?_,L6,Zj,trivial,?_⟩
      ·show _=[some (V.ref d),some (V.int M),some (V.ref pw),some (V.ref pf),some (V.ref pu),some (V.int (0+(i:Int))),some (V.int (be:Int)),some (V.int kd),some V.aI,some (V.int ((Bb (Do ((Am rows).map (·.2))):Nat):Int)),v10,v11];rw[bz]
      ·show Bb (Do ((Am rows).map (·.2)))<2 ^ 20;rw[bz];have h2:¬ ((2:Int) ^ (20:Int).toNat<=(Bb be:Nat)):=λz=>hc (by rw[ZM z,Bool.or_true]);have h3:((2:Int) ^ (20:Int).toNat)=1048576:=by decide
       omega
    ·rintro σ H7 ⟨tv,th,iC,iB,rfl,L7,hT,hTO,aL⟩;obtain⟨bs,hu,ap⟩:=L7.aB;have gR:=Cn ap;refine⟨λσ H8=>∃(tv:V) (th:Th) (iC iB:Option V),σ=[some (.ref d),some (.int M),some (.ref pw),some (.ref pf),some (.ref pu),some (.int (0+(i:Int))),some (.int (be:Int)),some (.int kd),some tv,some (.int (C4 (Am rows) th:Nat)),iC,iB]/\LW d pw pf pu H H8 rows/\gu H8 tv th/\SC (Am rows) th/\C4 (Am rows) th<2 ^ 20,λR hR=>?_,?_⟩
     ·refine SN (decide ((5:Int)<kd)) (!(Qb (Am rows)).isEmpty) (λQ' h=>⟨_,Zj,_,_,Zj,Zj,_,Zj,h⟩) (λQ' h=>⟨_,Zj,Nat.zero_le _,λp hp=>?_⟩) (λH8 s8=>?_)
      ·have sp:=AD (aA.refl _) hp (o:=HO.lst []);refine⟨.list (Qb (Am rows)),.list [],D9 (sp _ _ hu) (LF (bV.aZ (aP.of sp) ap)),D9 AB SL,LG λp hp=>(DO.nm p hp).2.1,M6,_,Zj,?_⟩;rw[SM];exact h _ sp
      ·refine B4 (λhc=>?_) (λhc=>?_)
       ·have ax:0<bs.length:=by
         rw[Bool.and_eq_true]at hc;have h2:=hc.2;rw[gR,←Bm];cases hz:Am rows with
         |nil=>rw[hz]at h2;cases h2
         |cons x r=>simp
        have L8:=L7.same s8;obtain⟨x1,y1,e1⟩:=L8.bY;refine⟨_,rfl,d,x1,y1,3,rfl,e1,qc,qc,λr1 a1 b1 r10 r11=>?_⟩;have M1:=L8.roll AP a1 b1;refine⟨_,_,rfl,rfl,_,rfl,qe,qe,?_⟩;refine HW (lo:=0) (n:=(1+r1).toNat) (λj ys H9=>∃ns:Xa,ys=ns.map V.str/\ns.length=j/\j<=3/\(∀x∈ns,x∈(Am rows).map (·.1))/\LW d pw pf pu H H9 rows) ⟨[],rfl,rfl,qc,(λx hx=>nomatch hx),M1⟩ ?_ ?_ ?_
        ·rintro j ys H9 ⟨ns,rfl,e,h3,_⟩;rw[AS];omega
        ·rintro j ys H9 hj ⟨ns,rfl,e,h3,ic,L9⟩;obtain⟨x2,y2,e2⟩:=L9.bY;obtain⟨cs,hu9,a0⟩:=L9.aB;have af:=Cn a0;have av:(cs.map V.ref).length=bs.length:=by rw[AS,af,gR]
         refine⟨_,Zj,_,Zj,_,Zj,pu,_,Zj,.inl (aN.of hu9),d,x2,y2,_,Zj,e2,by rw[av];omega,by rw[av];omega,λr2 a2 b2 r20 r21=>?_⟩;have M2:=L9.roll AP a2 b2;have hu10:(upd H9 d (.lst [.int a2,.int b2])) pu=some (.lst (cs.map V.ref)):=by rw[AH AP.ud];exact hu9
         have hcs2:bV (upd H9 d (.lst [.int a2,.int b2])) cs (ID (Am rows)):=bV.aZ (aP.upd e2) a0;obtain⟨v,hv,ff⟩:=IE (xs:=cs.map V.ref) r20 (by exact r21);obtain⟨bb,p,rfl,_,ak,aj⟩:=EU hcs2 ff;refine⟨pu,_,r2,_,rfl,rfl,aN.of hu10,hv,bb,_,0,.str p.1,rfl,rfl,bH.of aj,rfl,?_⟩;refine⟨ns++[p.1],by rw[Zv];rfl,by rw[ZI,e];rfl,qe,λx hx=>?_,M2⟩;rcases mem_append.mp hx with z |z
         ·exact ic x z
         ·rw[ZH]at z;subst z;exact Zs.mpr ⟨p,Z4 ak,Zj⟩
        ·rintro ys H9 ⟨ns,rfl,e,h3,ic,L9⟩ l hl;have L10:=L9.same (AD (aA.refl _) hl (o:=HO.lst (ns.map V.str)));refine⟨l,_,Zj,.inl ⟨aN.of AB,λt ht=>?_⟩⟩;have L11:=L10.same (AD (aA.refl _) ht (o:=HO.tup (ns.map V.str)));obtain⟨cs,hu11,a0⟩:=L11.aB;have af:=Cn a0;refine⟨_,Zj,pu,Zj,⟨_,aN.of hu11⟩,DH (K:=K) (a:=pu) (xs:=cs.map V.ref) (λj σ H12=>H12=upd (upd H9 l (.lst (ns.map V.str))) t (.tup (ns.map V.str))/\∃iC iB:Option V,σ=[some (.ref d),some (.int M),some (.ref pw),some (.ref pf),some (.ref pu),some (.int (0+(i:Int))),some (.int (be:Int)),some (.int kd),some (.ref t),some (.int (uni ((Am rows).take j) ns:Nat)),iC,iB]) ⟨Zj,iC,iB,Zj⟩ (λj σ H12 _ ⟨e,_⟩=>e ▸ aN.of hu11) ?_ ?_⟩
         ·rintro j v σ H12 hj ⟨rfl,iC,iB,rfl⟩;obtain⟨bb,p,rfl,_,ak,aj⟩:=EU a0 hj;refine⟨bb,_,Zj,bH.of aj,Zj,_,_,Zj,_,_,Zj,Zj,?_⟩;refine⟨_,Zj,_,Zj,_,Zj,t,_,Zj,.inr (bH.of AB),Zj,?_,_,Zj,?_⟩
          ·rw[all_map];exact List.all_eq_true.mpr λ_ _=>rfl
          ·have eu:uni ((Am rows).take (j+1)) ns=uni ((Am rows).take j) ns|||(if dz (.str p.1) (ns.map V.str)then p.2 else 0):=by
            unfold uni;rw[ZE,ak,Option.toList_some,Zv];exact Hr _ _
           refine B4 (λjM=>?_) (λjM=>?_)
           ·refine⟨_,Zj,_,_,Zj,Zj,Zj,some (.str p.1),some (.int (p.2:Int)),?_⟩;have hc3:dz (.str p.1) (ns.map V.str)=true:=jM;rw[hc3,Zq rfl]at eu;rw[eu,←F9];rfl
           ·refine⟨_,_,Zj,Zj,Zj,some (.str p.1),some (.int (p.2:Int)),?_⟩;have hc3:dz (.str p.1) (ns.map V.str)=false:=Bool.eq_false_iff.mpr jM;rw[hc3,Zr Bool.false_ne_true]at eu;rw[eu,←F9];rfl
         ·rintro σ H12 ⟨rfl,iC,iB,rfl⟩;have el:(Am rows).take (cs.map V.ref).length=Am rows:=by rw[AS,af,←Bm,ZC]
          have en:C4 (Am rows) (.jH ns)=uni (Am rows) ns:=(UO DO.nd ic).symm;have eL:ns.length=(1+r1).toNat:=e;refine hR _ _ ⟨.ref t,.jH ns,iC,iB,by rw[el,en],L11,⟨t,Zj,AB⟩,⟨?_,qe,ic⟩,?_⟩
          ·intro z;subst z;simp at eL;omega
          ·show B5 (ns.map (look (Am rows)))<2 ^ 20;refine K2 λn hn=>?_;obtain⟨x,hx,rfl⟩:=Zs.mp hn;obtain⟨p,hp,rfl⟩:=Zs.mp (ic x hx);rw[ED DO.nd hp];exact DO.lt p hp
       ·exact hR _ _ ⟨tv,th,iC,iB,Zj,L7.same s8,hT.same s8,hTO,aL⟩
     ·rintro σ H8 ⟨tv,th,iC,iB,rfl,L8,hT,hTO,aL⟩;obtain⟨as,hf,hP⟩:=L8.found;have hal:as.length=rows.length:=hP.length;have hw:bZ[i]?=some bZ[i]:=Z7 hi10;generalize au:bZ[i]=wd at hw
      have hat:gT (bZ.map V.str) (0+(i:Int))=some (.str wd):=by
       have:(0:Int)+(i:Int)=((i:Nat):Int):=by omega
       rw[this];exact BO (by rw[ZF,hw];rfl)
      refine⟨_,Zj,.inl ⟨Zj,_,aN.of hf⟩,_,Zj,_,Zj,pw,_,_,.str wd,Zj,Zj,aN.of L8.words,hat,_,Zj,fc,λp hp=>?_⟩;have sp:=AD (aA.refl _) hp (o:=HO.tup [V.str wd,tv]);have hz1:(as.map V.ref).length<sizeLine:=AK (by rw[AS];omega);refine⟨pf,_,.ref p,Zj,Zj,sp _ _ hf,hz1,?_⟩;have t1:aP (upd H8 p (.tup [V.str wd,tv])) (upd (upd H8 p (.tup [V.str wd,tv])) pf (.lst (as.map V.ref++[.ref p]))):=aP.upd (sp _ _ hf);obtain⟨bs,hu,ap⟩:=L8.aB;have gR:=Cn ap;have hu1:(upd (upd H8 p (.tup [V.str wd,tv])) pf (.lst (as.map V.ref++[.ref p]))) pu=some (.lst (bs.map V.ref)):=by rw[AH (Ne.symm AP.fu)];exact sp _ _ hu
      have hw1:(upd (upd H8 p (.tup [V.str wd,tv])) pf (.lst (as.map V.ref++[.ref p]))) pw=some (.lst (bZ.map V.str)):=by rw[AH AP.wf];exact sp _ _ L8.words
      refine⟨_,Zj,.inl ⟨Zj,_,aN.of hu1⟩,_,Zj,_,Zj,pw,_,_,.str wd,Zj,Zj,aN.of hw1,hat,_,Zj,fc,λq hq=>?_⟩;have sq:=AD (aA.refl _) hq (o:=HO.tup [V.str wd,V.int ((C4 (Am rows) th:Nat):Int)]);have hz2:(bs.map V.ref).length<sizeLine:=AK (by rw[AS];omega);refine⟨pu,_,.ref q,Zj,Zj,sq _ _ hu1,hz2,?_⟩;have t2:=aP.upd (sq _ _ hu1) (ys:=bs.map V.ref++[.ref q]);have tall:=((aP.of sp).trans t1).trans ((aP.of sq).trans t2);obtain⟨x,y,ed⟩:=L8.bY;have RR:Nr (Am rows) (wd,th):=⟨DO,by rw[Bm];omega,Qe wd (Z4 hw),?_,hTO,aL⟩;refine⟨_,_,_,_,_,_,_,rows++[(wd,th)],Zj,by rw[ZI,ba];rfl,LH RO RR,?_,?_⟩
      ·rw[Zv,cm,ZE,hw,Option.toList_some];rfl
      ·refine⟨λc o ec hc=>?_,⟨x,y,?_⟩,?_,⟨as++[p],?_,?_⟩,⟨bs++[q],?_,?_⟩⟩
       ·have n1:c≠pu:=AJ ec AP.nu;have n2:c≠pf:=AJ ec AP.nf;rw[AH n1];refine sq _ _ ?_;rw[AH n2];exact sp _ _ (L8.old c o ec hc)
       ·rw[AH (Ne.symm AP.ud)];refine sq _ _ ?_;rw[AH (Ne.symm AP.fd)];exact sp _ _ ed
       ·rw[AH AP.wu];exact sq _ _ hw1
       ·rw[AH AP.fu];refine sq _ _ ?_;rw[AB,Zv];rfl
       ·refine Paired.snoc (Cu tall hP) ?_;exact⟨tv,t2 _ _ (sq _ _ (t1 _ _ AB)),hT.aZ tall⟩
       ·rw[AB,Zv];rfl
       ·rw[Gb];unfold ID;rw[Zv];exact Paired.snoc (bV.aZ tall ap) (t2 _ _ AB)
      ·rw[LJ,cm];intro z;have key:=O5 ⟨i,hi10⟩;rw[hw]at key;have:=Option.some.inj key;exact of_decide_eq_false this z
 ·rintro σ H2 ⟨v5,v6,v7,v8,v9,v10,v11,rows,rfl,ba,RO,cm,L⟩;obtain⟨as,hf,hP⟩:=L.found;obtain⟨bs,hu,ap⟩:=L.aB;refine⟨_,Zj,_,Zj,fc,λq hq=>?_⟩;have sq:=AD (aA.refl _) hq (o:=HO.tup [V.ref pf,V.ref pu]);refine k q pf pu as bs rows _ ⟨λc o e hc=>sq _ _ (L.old c o e hc),?_⟩ AB nf0 nu0 (sq _ _ hf) (Cu (aP.of sq) hP) (sq _ _ hu) (bV.aZ (aP.of sq) ap) qe qe RO (λx hx=>mem_of_mem_take (cm ▸ hx));obtain⟨x,y,e⟩:=L.bY;exact⟨x,y,sq _ _ e⟩
end
end Mk
end
section
namespace L2
open PySem
def JK {X:Cx} (K:FG) (hK:X.K=K):bQ X (.builtin "isinstance") (λxs H Q=>∃v C t b,xs=[v,.ref C]/\d4 K H v t/\W.kitOne K t (.ref C)=some b/\Q (.bl b) H):=by
 subst hK;intro aa s σ H xs us Q I r h;obtain⟨v,C,t,b,rfl,ty,hk,q⟩:=h;obtain⟨u,uT,rfl,ru,ruT⟩:=Ie r;cases ruT;exact Ii I ru ty hk λtk=>⟨.bl b,H,I.tok tk,Zj,q⟩
end L2
namespace Mk
open PySem L2 MK
structure KIsi (K:FG) (C:Xd):Prop where
 cl:iz K C
 ha:W.findIn K (.ref C) "__class__" = some (some (.builtin "object.__class__"))
 hn:W.specialIn K (.builtin "object.__class__") "__get__" = some (some (.builtin "getset_descriptor.__get__"))
 ht:W.takesIn K (.builtin "object.__class__")=some true
 hm:W.mroIn K C (.type "object")=some true
 nl:W.kitOne K (.type "list") (.ref C)=some false
def KIsi.ty {a dx:Xd}{fs:List (Str×V)} (k:KIsi K C) (e:H a=some (.ins C dx fs)):d4 K H (.ref a) (.ref C):=.ins e k.cl k.ha k.hn k.ht k.hm
def IG (K:FG) (C:Xd):W.kitOne K (.ref C) (.ref C)=some true:=by
 unfold W.kitOne;rw[Zq (by simp)]
section
def Qg:AN ["self", "name"] ["self", "name"] (defScope C1):=cQ
inductive spRest (C:Xd) (vs:Xc) (H:Hp) (Q:VK) (_E:XK):Prop where
 |mk (p:Xd) (aB:Aa) (r:Str) (cD:vs=[.ref p]) (cG:aS C H p aB r) (cI:Q (.str r) H)
def UT:AN ["self"] ["self"] (defScope GQ):=cQ
def SR {f:Xd} (F:aV K "rest" "Kind.rest" GQ f fd) (T:IC K C):AU P w K mg base aK 1 f fd ["self"] (spRest C):=by
 refine F.m UT λvs H Q E h=>?_;obtain⟨p,aB,r,rfl,KA,k⟩:=h;refine⟨Zj,λad A outer s hr=>?_⟩;obtain⟨dx,d1,o1,d2,o2,hp,h1,h2⟩:=KA.ex;refine⟨_,AG (AQ (BI (pv 0) Zj)),?_⟩;exact⟨_,Zj,p,C,dx,_,_,Zj,hp,T.cl,T.nR,O2 _ _ _,k⟩
end
def LL (aB:Aa):B5 ((BD aB).map (·.1))=B5 (aB.map (·.2)):=by
 refine Nat.eq_of_testBit_eq λk=>?_;rw[EO,EO,Bool.eq_iff_iff,any_eq_true,any_eq_true];constructor
 ·rintro⟨n,hn,hb⟩;obtain⟨q,hq,rfl⟩:=Zs.mp hn;exact⟨q.1,Zs.mpr ⟨_,O0 hq,Zj⟩,hb⟩
 ·rintro⟨n,hn,hb⟩;obtain⟨p,hp,rfl⟩:=Zs.mp hn;exact⟨p.2,Oz hp,hb⟩
def TH {α:Type}{P:List α->Prop} (h0:P []) (h1:∀xs x,P xs->P (xs++[x])) (xs:List α):P xs:=by
 have key:∀l:List α,P l.reverse:=by
  intro l;induction l with
  |nil=>exact h0
  |cons a r ih=>rw[List.reverse_cons];exact h1 _ _ ih
 have:=key xs.reverse;rw[List.reverse_reverse]at this;exact this
def Gu:∀ {ds:List PyData},(∀d∈ds,PyData.eqv d d=true)->PyData.eqvAll ds ds=true
 | [],_=>by rw[PyData.eqvAll]
 |d::r,h=>by
  rw[PyData.eqvAll,h d ZJ,Gu λx hx=>h x (ZR _ hx)];rfl
def Fi {ds:List PyData} (h:∀d∈ds,PyData.eqv d d=true):PyData.eqv (.tuple ds) (.tuple ds)=true:=by
 rw[PyData.eqv];exact Gu h
def Cm (x:Str):PyData.eqv (.str x) (.str x)=true:=by simp[PyData.eqv]
def J4 (n:Int):PyData.eqv (.int n) (.int n)=true:=by simp[PyData.eqv]
def Fj {b:Xd}{x y:Str} (h:H b=some (.tup [.str x,.str y])):BZ K H (.tuple [.str x,.str y]) (.ref b):=by
 rw[BZ];refine⟨b,_,Zj,bH.of h,?_⟩;rw[Aw];refine⟨_,_,Zj,by rw[BZ],?_⟩;rw[Aw];refine⟨_,_,Zj,by rw[BZ],?_⟩;rw[Aw]
noncomputable def Qh (kp:Xd) (n:Nat):List (Str×V):=BQ "bits" (.int (n:Int)) (BQ "own_kind" (.ref kp) [])
def SS (kp:Xd) (n:Nat):(Qh kp n).lookup ("bits" : Str)=some (.int (n:Int)):=by
 unfold Qh;rw[AX,Zq rfl]
def eK (VC:Xd) (H:Hp) (p kp:Xd) (n:Nat):Prop:=∃dx,H p=some (.ins VC dx (Qh kp n))
def eK.same {p kp:Xd}{n:Nat} (s:aA H H') (h:eK VC H p kp n):eK VC H' p kp n:=by
 obtain⟨dx,h⟩:=h;exact⟨dx,s _ _ h⟩
structure Qi (K:FG) (VC:Xd):Prop where
 cl:iz K VC
 nK:cL K VC "own_kind"
 nB:cL K VC "bits"
noncomputable def kn (aB:Aa):Nat:=B5 (aB.map (·.2))
section
inductive spIsNumber (vs:Xc) (H:Hp) (Q:VK) (_E:XK):Prop where
 |mk (n:Nat) (cD:vs=[.int (n:Int)]) (cG:n<2 ^ 40) (cI:Q (.bl true) H)
def M8:AN ["thing"] ["thing"] (defScope EQ):=cQ
inductive spRestOf (C:Xd) (vs:Xc) (H:Hp) (Q:VK) (_E:XK):Prop where
 |mk (kp:Xd) (aB:Aa) (r:Str) (n:Nat) (cD:vs=[.ref kp,.int (n:Int)]) (cG:aS C H kp aB r) (cI:∀H',aA H H'->Q (.int ((n - (n&&&kn aB):Nat):Int)) H')
def Qj:AN ["kind", "number"] ["kind", "number"] (defScope Jx):=cQ
def O7 {f:Xd} (F:aV K "rest_of" "rest_of" Jx f fd) (T:IC K C) (GK:Mt P w K mg base C "known" 2 ["self"] (spKnown C)):AU P w K mg base aK 3 f fd ["kind", "number"] (spRestOf C):=by
 obtain⟨fK,dK,GK,mK,bK⟩:=GK.ex;refine F.m Qj λvs H Q E h=>?_;obtain⟨kp,aB,r,n,rfl,KA,k⟩:=h;refine⟨Zj,λad A outer s hr=>?_⟩;obtain⟨dx,d1,d2,hp⟩:=KA.ins;refine⟨_,AG (AQ (Af Lq (pv 1) (FD PV (Cb (pv 0) T.cl mK GK hr bK .nil AR)))),?_⟩;refine⟨_,Zj,_,Zj,kp,dx,_,Zj,hp,(ES _ _ _),kp,aB,r,Zj,KA,λH1 s1=>?_⟩;refine⟨_,Zj,_,_,Zj,Zj,?_⟩;show Q (V.int (Builtin.bitAnd (n:Int) (Builtin.bitNot ((B5 ((BD aB).map (·.1)):Nat):Int)))) H1;rw[Hq,LL];exact k H1 s1
inductive spVInit (C VC:Xd) (vs:Xc) (H:Hp) (Q:VK) (_E:XK):Prop where
 |mk (p dx kp:Xd) (aB:Aa) (r:Str) (n:Nat) (cD:vs=[.ref p,.ref kp,.int (n:Int)]) (cG:H p=some (.ins VC dx [])) (cI:aS C H kp aB r) (cY:n<2 ^ 40) (d5:(r = "keep" \/ n - (n&&&kn aB)=0)) (fk:∀H',(∀b o,H b=some o->b≠p->H' b=some o)->eK VC H' p kp n->Q .aI H')
def SU:AN ["self", "kind", "number"] ["self", "kind", "number"] (defScope Ey):=cQ
def LM {f:Xd} (F:aV K "__init__" "Value.__init__" Ey f fd) (T:IC K C) (VT:Qi K VC)
  (GN:Fn P w K mg base "is_number" 2 ["thing"] spIsNumber) (GR:Fn P w K mg base "rest_of" 3 ["kind", "number"] (spRestOf C)) (jf:Mt P w K mg base C "rest" 1 ["self"] (spRest C)):AU P w K mg base aK 4 f fd ["self", "kind", "number"] (spVInit C VC):=by
 obtain⟨fN,dN,GN,mN,kN,bN⟩:=GN.ex;obtain⟨fR,dR,GR,mR,kR,bR⟩:=GR.ex;obtain⟨fE,dE,GE,mE,bE⟩:=jf.ex;refine F.m SU λvs H Q E h=>?_;obtain⟨p,dx,kp,aB,r,n,rfl,hp,KA,hn,hrest,k⟩:=h;refine⟨Zj,λad A outer s hr=>?_⟩;have dZ:aE 1 _:=hr.mono qc;have eX:aE 2 _:=hr.mono qc;obtain⟨jP,d1,d2,ah⟩:=KA.ins
 refine⟨_,AF (Ak (BY (A3 (AM GN eX Zj mN kN bN .nil AR (AA (pv 2) AC)))) (AG An) AV)
  (CD (Ak (PW.pt (Bt (AL Dj (Cb (pv 1) T.cl mE GE dZ bE .nil AR) AI (AO _)) (BX (AL Dj (AM GR hr rfl mR kR bR .nil AR (AA (pv 1) (AA (pv 2) AC))) AE (AO _))))) (AG An) AV)
  (AF (C8 (pv 0) (pv 1) rfl) (AG (C8 (pv 0) (pv 2) rfl)))),?_⟩
 refine⟨_,Zj,n,Zj,hn,_,Zj,?_⟩;refine AT ?_;refine⟨λσ H1=>σ=[some (.ref p),some (.ref kp),some (.int (n:Int))]/\aA H H1,λR hR=>?_,?_⟩
 ·refine⟨_,Zj,kp,jP,_,Zj,ah,(ES _ _ _),kp,aB,r,Zj,KA,Zj,_,Zj,?_⟩;by_cases hk:r = "keep"
  ·rw[ZM (show V.str r=V.str "keep" by rw[hk])];exact AT (AT (hR _ _ ⟨Zj,aA.refl _⟩))
  ·rw[ZP (show ¬ V.str r=V.str "keep" from λz=>hk (V.str.inj z))];refine Ac ?_;refine⟨_,Zj,_,Zj,kp,aB,r,n,Zj,KA,λH1 s1=>⟨Zj,_,Zj,?_⟩⟩;have h0:=hrest.resolve_left hk;rw[h0];exact AT (hR _ _ ⟨Zj,s1⟩)
 ·rintro σ H1 ⟨rfl,s1⟩;refine⟨_,Zj,_,Zj,p,VC,dx,[],Zj,s1 _ _ hp,VT.cl,VT.nK,(by show 0<1000;decide),?_⟩;refine⟨_,Zj,_,Zj,p,VC,dx,_,Zj,AB,VT.cl,VT.nB,Nat.lt_of_le_of_lt (A6 _ _ _) (by show 1<1000;decide),?_⟩;refine k _ (λb o e hb=>?_) ⟨dx,AB⟩;rw[AH hb,AH hb];exact s1 _ _ e
inductive spVNumber (VC:Xd) (vs:Xc) (H:Hp) (Q:VK) (_E:XK):Prop where
 |mk (p kp:Xd) (n:Nat) (cD:vs=[.ref p]) (cG:eK VC H p kp n) (cI:Q (.int (n:Int)) H)
def O8:AN ["self"] ["self"] (defScope Dd):=cQ
def M9 {f:Xd} (F:aV K "number" "Value.number" Dd f fd) (VT:Qi K VC):AU P w K mg base aK 1 f fd ["self"] (spVNumber VC):=by
 refine F.m O8 λvs H Q E h=>?_;obtain⟨p,kp,n,rfl,⟨dx,hp⟩,k⟩:=h;refine⟨Zj,λad A outer s hr=>?_⟩;refine⟨_,AG (AQ (BI (pv 0) Zj)),?_⟩;exact⟨_,Zj,p,VC,dx,_,_,Zj,hp,VT.cl,VT.nB,SS _ _,k⟩
def Vj:AN ["self", "other"] ["self", "other"] (defScope Fc):=cQ
structure TJ (P:Program) (w:World) (K:FG) (mg:SV) (base:Heap) (C VC:Xd):Prop where
 VT:Qi K VC
 cls:mg "Value" = some (.ref VC)
 make:∃f fd,Mk K VC f/\AU P w K mg base aK 4 f fd ["self", "kind", "number"] (spVInit C VC)/\Binds K fd ["self", "kind", "number"] []
def IH {D kp dx:Xd} (hkp:H kp=none) (ay:H dx=none) (ax:dx≠kp):aA H (upd (upd H dx (.own kp)) kp (.ins D dx [])):=by
 refine AD (AD (aA.refl _) ay) ?_;rw[AH (Ne.symm ax)];exact hkp
def JL {Hc:Hp}{kp:Xd} (sN:aA H H') (hkp:H kp=none) (sc:∀b o,H' b=some o->b≠kp->Hc b=some o):aA H Hc:=λb o e=>sc b o (sN _ _ e) (AJ e hkp)
def Vk (h:∀p∈aB,p.2<2 ^ 20):kn aB<2 ^ 20:=by
 unfold kn;exact K2 λn hn=>by obtain⟨p,hp,rfl⟩:=Zs.mp hn;exact h p hp
def UU (x y:Nat):(x |||y)+(x&&&y)=x+y:=by
 have h:=PyProof.Rows.bitOr_and (x:Int) (y:Int);rw[F9,HC]at h;omega
end
section
variable {CU:Xd}
inductive spErrInit (K:FG) (vs:Xc) (H:Hp) (Q:VK) (_E:XK):Prop where
 |mk (e C:Xd) (dx:Option Xd) (x:Str) (cD:vs=[.ref e,.str x]) (cG:A9 K C=true) (cI:H e=some (FO e C dx)) (cY:Q .aI H)
def O9:AN ["self", "words"] ["self", "words"] (defScope BA):=cQ
def II {f:Xd} (F:FunD K "__init__" "MarkError.__init__" BA f fd) (hV:mg "ValueError" = none):AU P w K mg base aK 1 f fd ["self", "words"] (spErrInit K):=by
 refine F.ok O9 (λvs H Q E h=>?_) (λad A outer s H vs Q E hr h=>?_)
 ·obtain⟨e,C,dx,x,rfl,_⟩:=h;rfl
 ·obtain⟨e,C,dx,x,rfl,hC,he,k⟩:=h;refine⟨_,AG (A4 (P3 Zj hV (AA (pv 0) (AA (pv 1) AC)))),?_⟩;exact⟨_,Zj,_,Zj,e,C,dx,[.str x],Zj,(by show 1<=1000;decide),hC,he,k⟩
structure TK (P:Program) (w:World) (K:FG) (mg:SV) (base:Heap) (x:Str) (CU:Xd):Prop where
 cls:mg x=some (.ref CU)
 make:∃f fd,MkX K CU f/\AU P w K mg base aK 1 f fd ["self", "words"] (spErrInit K)/\Binds K fd ["self", "words"] []
def Uq (H:Hp) (E:XK) (CU:Xd):Prop:=∀e H',aA H H'->H e=none->H' e=some (F5 e CU none)->E (.ref CU) none H'
def none_of {x:Xd} (s:aA H H') (h:H' x=none):H x=none:=by
 cases e:H x with
 |none=>rfl
 |some u=>rw[s _ _ e]at h;cases h
def Uq.of {E:XK}{CU:Xd} (s:aA H H') (h:Uq H E CU):Uq H' E CU:=λe H2 s2 h1 h2=>h e H2 (s.trans s2) (none_of s h1) h2
def NA {te:XK->TE}{σ:St}{H1:Hp}{E:XK}{D:Dq}{x:Str} (hC:A9 K CU=true) (s1:aA H H1) (h:Uq H E CU):MW CU (MV CU (spErrInit K) [] E0 (Ab (tC (.str x)) B3)) E D σ H1:=by
 refine⟨(by show 1<=1000;decide),λa ha=>?_⟩;refine⟨a,CU,none,x,Zj,hC,AB,Zj,a,none,Zj,AB,?_⟩;refine h a _ (s1.trans ?_) (none_of s1 ha) AB;rw[RE];exact AD (aA.refl _) ha
end
noncomputable def wds:Xa:=["BadRows", "BadRest", "BadText", "Unled", "BadRule", "BadName", "BadNumber", "Unlike", "BadPairs", "Never", "Nothing"]
noncomputable def wd (j:Nat):Str:=wds.getD j ""
noncomputable def ij (j:Nat):List Bool:=(List.range 11).map λi=>decide (i=j)
noncomputable def b1 (b:Bool):Int:=if b then 1 else 0
noncomputable abbrev zA (j:Nat):Xc:=[V.bl (decide (0=j)),V.bl (decide (1=j)),V.bl (decide (2=j)),V.bl (decide (3=j))]
noncomputable abbrev zB (j:Nat):Xc:=[V.bl (decide (4=j)),V.bl (decide (5=j)),V.bl (decide (6=j))]
noncomputable abbrev zC (j:Nat):Xc:=[V.bl (decide (7=j))]
noncomputable abbrev zD (j:Nat):Xc:=[V.bl (decide (8=j)),V.bl (decide (9=j)),V.bl (decide (10=j))]
noncomputable abbrev yA:Xc:=[V.str "BadRows", V.str "BadRest", V.str "BadText", V.str "Unled", V.str "BadRule", V.str "BadName", V.str "BadNumber"]
noncomputable abbrev yB:Xc:=[V.str "Unlike", V.str "BadPairs"]
def Nt:∀j,j<11->((ij j).map b1).sum=1:=by decide +kernel
def UV:∀j,j<11->(ij j)[j]?=some true/\∀m,m<j->(ij j)[m]?=some false:=by decide +kernel
def UW:∀j:Nat,j<11->gT (wds.map V.str) (j:Int)=some (V.str (wd j)):=by decide +kernel
structure J5 (mg:SV) (ec:Nat->Xd):Prop where
 e0:mg "BadRows" = some (.ref (ec 0))
 e1:mg "BadRest" = some (.ref (ec 1))
 e2:mg "BadText" = some (.ref (ec 2))
 e3:mg "Unled" = some (.ref (ec 3))
 e4:mg "BadRule" = some (.ref (ec 4))
 e5:mg "BadName" = some (.ref (ec 5))
 e6:mg "BadNumber" = some (.ref (ec 6))
 e7:mg "Unlike" = some (.ref (ec 7))
 e8:mg "BadPairs" = some (.ref (ec 8))
 e9:mg "Never" = some (.ref (ec 9))
 iu:mg "Nothing" = some (.ref (ec 10))
 ev:mg "ValueError" = none
structure Nu (K:FG) (ec:Nat->Xd) (C:Xd) (j:Nat):Prop where
 hj:j<11
 kx:Rr K C
 kit:∀i,i<11->W.kitOne K (.ref C) (.ref (ec i))=some (decide (i=j))
 val:W.kitOne K (.ref C) (.type "ValueError")=some true
section
variable {ec:Nat->Xd}
def CG {X:Cx}{a:Expr}{te:TE}{e c:Xd}{oe:Obj}{x:Str}{p p2 pos:Pos} (K:FG) (hK:X.K=K) (pX:ExcP X e oe C) (k:Rr K C) (hg:Gl X "isinstance") (hm:X.mg "isinstance" = none) (hgT:Gl X x) (hmT:X.mg x=some (.ref c)) (he:PE X a te)
  (eI:(x==("__debug__" : Str))=false:=by decide)
  (hs:starEach [a,.Name x p2] X.env=(false,eval a X.env)::starEach [.Name x p2] X.env:=by rfl) (hpl:(backTo pos (starEach [.Name x p2] X.env)).any (·.1)=false:=by rfl) (jo:starEach [.Name x p2] X.env=(false,eval (.Name x p2) X.env)::starEach [] X.env:=by rfl) :
  PE X (.Call (.Name "isinstance" p) [a,.Name x p2] [] pos) (tCB (λxs H Q=>∃v c b,xs=[.ref e,v]/\((∃D,v=.ref D/\c=.ref D)\/∃T,v=.ty T/\c=.type T)/\(oe.dict=none\/∃d u,oe.dict=some d/\H d=some u)/\W.kitOne K (.ref C) c=some b/\Q (.bl b) H) (Ab te (Ab (tC (.ref c)) B3))):=by
 subst hK;exact AW (JB pX k) hg hm Hx (AA he (AA (BH (v:=.ref c) hgT hmT Zj eI) AC jo) hs) qc qc hs hpl
def Ci (K:FG) (ec:Nat->Xd):SpS:=λe oe vs H Q=>vs=[.ref e]/\∃(C:Xd) (j:Nat) (fs:Array Value),oe.cls=.ref C/\oe.data=.fields fs/\fs[2]?=some .none/\(oe.dict=none\/∃d u,oe.dict=some d/\H d=some u)/\Nu K ec C j /\
 ∀p H',aA H H'->H' p=some (.tup [.str "refused", .str (wd j)])->Q (.ref p) H'
def scWord:AN ["_law_e", "_law_flags", "_law_words"] ["_law_e"] (defScope D6):=cQ
def SW {f:Xd} (F:aV K "_law_word" "_law_word" D6 f fd) (B:Bl mg) (M:J5 mg ec):Ni P w K mg base 1 f fd ["_law_e"] (Ci K ec):=by
 refine F.okS scWord (λe oe vs H Q h=>?_) (λad A outer s H vs Q e oe hh hr h=>?_)
 ·obtain⟨rfl,_⟩:=h;rfl
 ·obtain⟨rfl,C,j,fs,hc,hf,h2,hd,EA,k⟩:=h;have hj:=EA.hj
  have hdS:∀H',aA H H'->(oe.dict=none\/∃d u,oe.dict=some d/\H' d=some u):=λH' s=>by
   rcases hd with z |⟨d,u,z,y⟩
   ·exact .inl z
   ·exact .inr ⟨d,u,z,s _ _ y⟩
  have kt:=EA.kit;have pX:ExcP (Hh P w K mg base ["_law_e", "_law_flags", "_law_words"] "_law_word" (defScope D6) f ad A outer s H e oe) e oe C:=⟨ZJ,hc,⟨fs,hf⟩⟩;have rd:iJ (Hh P w K mg base ["_law_e", "_law_flags", "_law_words"] "_law_word" (defScope D6) f ad A outer s H e oe):=Ro hh hf h2
  refine⟨_,AF (Ag (i:=1) scWord.nd Zj (Or.inl Zj) (A8 (AA (CG K Zj pX EA.kx Zj B.ft Zj M.e0 (pv 0)) (AA (CG K Zj pX EA.kx Zj B.ft Zj M.e1 (pv 0)) (AA (CG K Zj pX EA.kx Zj B.ft Zj M.e2 (pv 0)) (AA (CG K Zj pX EA.kx Zj B.ft Zj M.e3 (pv 0)) AC))))))
   (AF (Ag (i:=1) scWord.nd rfl (Or.inl rfl) (Af F0 (pv 1) (A8 (AA (CG K rfl pX EA.kx rfl B.ft rfl M.e4 (pv 0)) (AA (CG K rfl pX EA.kx rfl B.ft rfl M.e5 (pv 0)) (AA (CG K rfl pX EA.kx rfl B.ft rfl M.e6 (pv 0)) AC))))))
   (AF (Ag (i:=1) scWord.nd rfl (Or.inl rfl) (Af F0 (pv 1) (A8 (AA (CG K rfl pX EA.kx rfl B.ft rfl M.e7 (pv 0)) AC))))
   (AF (Ag (i:=1) scWord.nd rfl (Or.inl rfl) (Af F0 (pv 1) (A8 (AA (CG K rfl pX EA.kx rfl B.ft rfl M.e8 (pv 0)) (AA (CG K rfl pX EA.kx rfl B.ft rfl M.e9 (pv 0)) (AA (CG K rfl pX EA.kx rfl B.ft rfl M.iu (pv 0)) AC))))))
   (AF (Ag (i:=2) scWord.nd rfl (Or.inl rfl) (A8 (AA AI (AA AI (AA AI (AA AI (AA AI (AA AI (AA AI AC)))))))))
   (AF (Ag (i:=2) scWord.nd rfl (Or.inl rfl) (Af F0 (pv 2) (A8 (AA AI (AA AI AC)))))
   (AF (Ak (PW.pt (DF (AL Dj (AW (OU rd) rfl B.sum UH (AA (OS [] [] qd qb qd rd (Pr (pv 1)) (λ_ _ _ _ _ _=>Cl) (λ_ _ _ _ _ _=>BU Fw rfl B.int E5 (AA (pv 0) AC))) AC)) AE (AO _))
     (CJ (BY (A3 (AW (JB pX EA.kx) rfl B.ft Hx (AA (pv 0) (AA (NM (v:=.ty "ValueError") rfl M.ev Nh rfl) AC)))))))) (AG An) AV)
   (AG (AQ (Ay (AA AI (AA (BJ (Au K rfl) (Af F0 (pv 2) (A8 (AA AI (AA AI AC)))) (DL PySem.F.plainAttrs_list PySem.F.slot_list_index PySem.F.type_list_index Og (pv 1) (AA By AC)) (λ_ _=>rfl)) AC))))))))))),?_⟩
  refine⟨_,Zj,_,_,_,Zj,.inl ⟨_,Zj,Zj⟩,hdS _ (aA.refl _),kt 0 qc,_,Zj,_,_,_,Zj,.inl ⟨_,Zj,Zj⟩,hdS _ (aA.refl _),kt 1 qc,_,Zj,_,_,_,Zj,.inl ⟨_,Zj,Zj⟩,hdS _ (aA.refl _),kt 2 qc,_,Zj,_,_,_,Zj,.inl ⟨_,Zj,Zj⟩,hdS _ (aA.refl _),kt 3 qc,sl4,λl1 h1=>?_⟩;have s1:=AD (aA.refl H) h1 (o:=.lst (zA j));have a1:=AB (H:=H) (a:=l1) (o:=.lst (zA j));generalize upd H l1 (.lst (zA j))=H1 at s1 a1 ⊢;refine⟨_,Zj,_,Zj,_,_,_,Zj,.inl ⟨_,Zj,Zj⟩,hdS _ s1,kt 4 qc,_,Zj,_,_,_,Zj,.inl ⟨_,Zj,Zj⟩,hdS _ s1,kt 5 qc,_,Zj,_,_,_,Zj,.inl ⟨_,Zj,Zj⟩,hdS _ s1,kt 6 qc,gU,λl2 jx=>?_⟩;refine⟨l1,l2,_,_,Zj,Zj,(AD (aA.refl H1) jx) _ _ a1,AB,(by show 4+3<=sizeLine;decide),λl3 h3=>?_⟩;have s3:=s1.trans (AD (AD (aA.refl H1) jx (o:=.lst (zB j))) h3 (o:=.lst (zA j++zB j)));generalize e3:upd (upd H1 l2 (.lst (zB j))) l3 (.lst (zA j++zB j))=H3 at s3 ⊢;have a3:H3 l3=some (.lst (zA j++zB j)):=by rw[←e3,AB]
  refine⟨_,Zj,_,Zj,_,_,_,Zj,.inl ⟨_,Zj,Zj⟩,hdS _ s3,kt 7 qc,sl1,λl4 h4=>?_⟩;refine⟨l3,l4,_,_,Zj,Zj,(AD (aA.refl H3) h4) _ _ a3,AB,(by show 7+1<=sizeLine;decide),λl5 h5=>?_⟩;have s5:=s3.trans (AD (AD (aA.refl H3) h4 (o:=.lst (zC j))) h5 (o:=.lst ((zA j++zB j)++(zC j))));generalize e5:upd (upd H3 l4 (.lst (zC j))) l5 (.lst ((zA j++zB j)++(zC j)))=H5 at s5 ⊢;have a5:H5 l5=some (.lst ((zA j++zB j)++(zC j))):=by rw[←e5,AB]
  refine⟨_,Zj,_,Zj,_,_,_,Zj,.inl ⟨_,Zj,Zj⟩,hdS _ s5,kt 8 qc,_,Zj,_,_,_,Zj,.inl ⟨_,Zj,Zj⟩,hdS _ s5,kt 9 qc,_,Zj,_,_,_,Zj,.inl ⟨_,Zj,Zj⟩,hdS _ s5,kt 10 qc,gU,λl6 h6=>?_⟩;refine⟨l5,l6,_,_,Zj,Zj,(AD (aA.refl H5) h6) _ _ a5,AB,(by show 8+3<=sizeLine;decide),λl7 h7=>?_⟩;have s7:=s5.trans (AD (AD (aA.refl H5) h6 (o:=.lst (zD j))) h7 (o:=.lst (((zA j++zB j)++(zC j))++(zD j))));generalize e7:upd (upd H5 l6 (.lst (zD j))) l7 (.lst (((zA j++zB j)++(zC j))++(zD j)))=H7 at s7 ⊢;have a7:H7 l7=some (.lst ((ij j).map V.bl)):=by rw[←e7];exact AB
  refine⟨sl7,λl8 h8=>?_⟩;refine⟨_,Zj,fc,λl9 h9=>?_⟩;refine⟨l8,l9,_,_,Zj,Zj,(AD (aA.refl _) h9) _ _ AB,AB,(by show 7+2<=sizeLine;decide),λl10 iX=>?_⟩;have s10:=AD (AD (AD (aA.refl H7) h8 (o:=.lst yA)) h9 (o:=.lst yB)) iX (o:=.lst (yA++yB));generalize iu:upd (upd (upd H7 l8 (.lst yA)) l9 (.lst yB)) l10 (.lst (yA++yB))=i6 at s10 ⊢;have a10:i6 l10=some (.lst (yA++yB)):=by rw[←iu];exact AB
  have b7:=s10 _ _ a7;refine⟨_,Zj,l7,Zj,⟨_,aN.of b7⟩,F3 (K:=K) (a:=l7) (xs:=(ij j).map V.bl) (λi ys H2=>ys=((ij j).take i).map (λb=>V.int (b1 b))/\H2=i6) ⟨Zj,Zj⟩ (λi ys H2 _ ⟨_,e⟩=>e ▸ aN.of b7) (λi ys H2 ⟨e,_⟩=>?_) ?_ ?_⟩
  ·rw[e,AS,ZB];have:(ij j).length=11:=rfl;omega
  ·rintro i v ys H2 hi ⟨rfl,rfl⟩;rw[ZF]at hi;obtain⟨b,hb,rfl⟩:=Z6.mp hi;refine⟨_,Zj,.inr ⟨b,Zj,?_,Zj⟩⟩;rw[ZE,hb,Option.toList_some,Zv];rfl
  ·rintro ys H2 ⟨rfl,rfl⟩ p hp;have el:(ij j).take ((ij j).map V.bl).length=ij j:=by rw[AS];exact ZC
   rw[el];have em:(ij j).map (λb=>V.int (b1 b))=((ij j).map b1).map V.int:=by rw[map_map];rfl
   rw[em];have s11:=AD (aA.refl H2) hp (o:=.lst (((ij j).map b1).map V.int));refine⟨p,(ij j).map b1,Zj,aN.of AB,λn hn=>?_,(by rw[Nt j hj];decide),Zj,_,Zj,?_⟩
   ·obtain⟨b,_,rfl⟩:=Zs.mp hn;unfold b1;split <;> decide
   rw[Nt j hj];refine AT ?_;refine⟨_,Zj,_,_,true,Zj,.inr ⟨_,Zj,Zj⟩,hdS _ (s7.trans (s10.trans s11)),EA.val,_,Zj,?_⟩;refine AT ?_;refine⟨_,Zj,fc,λl11 h11=>?_⟩;have s12:=AD s11 h11 (o:=.lst [V.str "Never", V.str "Nothing"]);refine⟨l10,l11,_,_,Zj,Zj,s12 _ _ a10,AB,(by show 9+2<=sizeLine;decide),λl12 h12=>?_⟩;have s13:=AD s12 h12 (o:=.lst ((yA++yB)++[V.str "Never", V.str "Nothing"]));have c7:=s13 _ _ b7;obtain⟨f1,f2⟩:=UV j hj;refine⟨_,Zj,.inl ⟨Zj,_,aN.of c7⟩,l7,ij j,j,Zj,Zj,c7,f1,f2,l12,_,(j:Int),_,Zj,Zj,aN.of AB,UW j hj,fc,λq hq=>?_⟩;exact k q _ (s7.trans (s10.trans (AD s13 hq))) AB
end
structure JM (K:FG) (ec:Nat->Xd) (cM C:Xd) (j:Nat):Prop where
 ea:Nu K ec C j
 cx:A9 K C=true
 n0:(Dr K C).contains (.ref (ec 0))=false
 n1:(Dr K C).contains (.ref (ec 1))=false
 n2:(Dr K C).contains (.ref (ec 2))=false
 n3:(Dr K C).contains (.ref (ec 3))=false
 m:(Dr K C).contains (.ref cM)=true
noncomputable def IU (j:Nat):Str:=(["at", "bits", "at", "name"]:Xa).getD j ""
structure IJ (K:FG) (ec:Nat->Xd) (C:Xd) (j:Nat):Prop where
 ea:Nu K ec C j
 cx:A9 K C=true
 j4:j<4
 no:∀i,i<j->(Dr K C).contains (.ref (ec i))=false
 m:(Dr K C).contains (.ref (ec j))=true
 g:Ve K C (IU j)
structure LP (K:FG) (mg:SV) (ec:Nat->Xd) (cM:Xd):Prop where
 m:mg "MarkError" = some (.ref cM)
 xm:A9 K cM=true
 x0:A9 K (ec 0)=true
 x1:A9 K (ec 1)=true
 x2:A9 K (ec 2)=true
 x3:A9 K (ec 3)=true
structure jU (P:Program) (w:World) (K:FG) (mg:SV) (base:Heap) (x:Str) (k:Nat) (ps:Xa) (sp:SpS):Prop where
 ex:∃f fd,Ni P w K mg base k f fd ps sp/\mg x=some (.ref f)/\W.keepIn K (.ref f)=true/\Binds K fd ps []
def Qk (K:FG) (ec:Nat->Xd) (cM C:Xd) (dx:Option Xd) (e:Xd):TS:=λD σ H=>σ.length=2 /\
 ((∃j,JM K ec cM C j/\dx=none/\∀p H',aA H H'->H' p=some (.tup [.str "refused", .str (wd j)])->D.rt (.ref p) H') \/
  ∃j d v,IJ K ec C j/\dx=some d/\H d=some (.xd [(IU j,v)])/\∀p H',aA H H'->H' p=some (.tup [.str "refused", .str (wd j),v])->D.rt (.ref p) H')
def Gv (K:FG) (ec:Nat->Xd) (cM:Xd) (Q:VK):XK:=λCv dx H2=>∃C,Cv=.ref C/\∀e,H2 e=some (F5 e C dx) ->
 ((∃j,JM K ec cM C j/\dx=none/\∀p H',aA (del H2 e) H'->H' p=some (.tup [.str "refused", .str (wd j)])->Q (.ref p) H') \/
  ∃j d v,IJ K ec C j/\dx=some d/\(del H2 e) d=some (.xd [(IU j,v)])/\∀p H',aA (del H2 e) H'->H' p=some (.tup [.str "refused", .str (wd j),v])->Q (.ref p) H')
def scTold:AN ["_law_deed", "_law_e"] ["_law_deed"] (defScope Aj):=cQ
section
variable {ec:Nat->Xd}{cM:Xd}
def Ql {X:Cx} (K:FG) (hK:X.K=K):cV X (binaryOp .Add) (NV K):=hK ▸ RT
def SY {k:Nat}{f lf c':Xd} (F:aV K "_law_told" "_law_told" Aj f fd) (M:J5 mg ec) (EX:LP K mg ec cM) (GW:jU P w K mg base "_law_word" 1 ["_law_e"] (Ci K ec))
  {A:Around}{outer:List Env}{s:Xe}{H:Hp}{args:Args}{Nl:Xa}{scope:Scope}{cl:List (Str×Xd)}{iM:St}{name qual:Str}{params:Arguments}{body:Expr}{pm eA:Value}{tl:XK->TE}{Q:VK}
  (hr:aE (k+2) A) (e0:eh P w K mg base A outer s H) (hb:BindsTo s fd args ((["_law_deed"]:Xa).zip [Value.ref lf])) (C:Hi Nl scope cl iM H s.heap) (jb:∀x c,cl.lookup x=some c->c∉ dn outer)
  (h1:H lf=some (jC lf (W.kla_obj name qual params body scope cl pm c' eA))) (h2:H c'=some (FS c' qual))
  (bp:bindArgs (W.kla_fn name qual params body scope cl pm (.ref c') eA) ⟨[],[]⟩=pure [])
  (hco:scope.isCoroutine=false) (bw:scope.isGenerator=false) (hk:scope.kind=.function) (bh:∀x∈scope.names,x.2≠ .cell)
  (db:∀(A':Around) (cP:List Env) (s':Xe) (H':Hp) (E:XK),aE k (A'.deeper (W.envX qual scope s'.heap.objs.size lf (.ref c') cl))->PE (Ec P w K mg base Nl qual scope lf (.ref c') cl A' cP s' H' E) body (tl E))
  (h:tl (Gv K ec cM Q) iM H Q):codeAny (model P w) A (.call (.ref f) args) (CR aK outer P w H s Q E0) s:=by
 obtain⟨fW,dW,GW,mW,kW,bW⟩:=GW.ex;refine F.at (N:=["_law_deed", "_law_e"]) scTold (vs:=[.ref lf]) Zj (k:=k+1) hr e0 hb (.cons Zj .nil) λad dZ=>?_;have own:=T8 (CX:=aK) (P:=P) (w:=w) (K:=K) (mg:=mg) (base:=base) (N:=["_law_deed", "_law_e"]) (qual := "_law_told") (scope:=defScope Aj) (f:=f) (cd:=ad) (A:=A) (outer:=outer) (s:=s) (H:=H) (E:=E0)
 have hrm:∀e:Xd,RoomS 1 ((A.deeper (PyProof.Rows.envOfC "_law_told" (defScope Aj) s.heap.objs.size f ad)).mark (some (.ref e))):=λe=>by
  have q:=dZ.mono (show 1<=k+1 by omega);exact⟨q.dp,q.un⟩
 refine⟨_,AG (UB (tb:=λE=>PM (Kp 0 lf c' qual (W.kla_obj name qual params body scope cl pm c' eA) iM (tl E))) (th:=Qk K ec cM) own (λP0 xe E hx=>?_) (λCC dx=>?_)),?_⟩
 ·exact AG (AQ (Mb (X:=FR (Ao aK P w K mg base ["_law_deed", "_law_e"] "_law_told" (defScope Aj) f ad A outer s H E0) P0 xe) (i:=0) (k:=k+1) Zj (Or.inl Zj) dZ C jb Zj hx bp hco bw hk bh (λs' H'=>db _ _ s' H' E (dZ.deeper _))))
 ·intro aa s1 σ H1 D e oe T oT c I h;obtain⟨hl,⟨j,EP,rfl,kq⟩ |⟨j,d,v,EF,rfl,hxd,kq⟩⟩:=h
  ·refine(?hp:PH (Ao aK P w K mg base ["_law_deed", "_law_e"] "_law_told" (defScope Aj) f ad A outer s H E0) CC none _ (λe=>Nj 1 (λD σ H=>σ[1]?=some (some (.ref e))/\∀p H',aA H H'->H' p=some (.tup [.str "refused", .str (wd j)])->D.rt (.ref p) H') e)) aa s1 σ H1 D e oe T oT c I ?_
   ·refine CQ (Dn:=ec 0) EP.cx EX.x0 Zj M.e0 EP.n0 ?_;refine CQ (Dn:=ec 1) EP.cx EX.x1 Zj M.e1 EP.n1 ?_;refine CQ (Dn:=ec 2) EP.cx EX.x2 Zj M.e2 EP.n2 ?_;refine CQ (Dn:=ec 3) EP.cx EX.x3 Zj M.e3 EP.n3 ?_;refine Nk (Dn:=cM) (i:=1) (tb:=λ(e:Xd) (D:Dq) (σ:St) (H:Hp)=>σ[1]?=some (some (V.ref e))/\∀p H',aA H H'->H' p=some (.tup [.str "refused", .str (wd j)])->D.rt (.ref p) H') scTold.nd Zj Zj EP.cx EX.xm Zj EX.m EP.m (λe oe T oT c=>?_);refine λaa s2 cK H2 D2 I2 h2=>?_;obtain⟨fs,hd,hf1,hf2⟩:=c.fld;refine(?hb2:eE (Ba (Ao aK P w K mg base ["_law_deed", "_law_e"] "_law_told" (defScope Aj) f ad A outer s H E0) e oe T oT) _ (PM (Jo (Ci K ec) e oe (Ab (Cj 1) B3)))) aa s2 cK H2 D2 I2 ⟨_,h2.1,Zj,CC,j,fs,c.cls,hd,hf2,.inl c.dict,EP.ea,h2.2⟩;exact AG (AQ (Ko (X:=Ba (Ao aK P w K mg base ["_law_deed", "_law_e"] "_law_told" (defScope Aj) f ad A outer s H E0) e oe T oT) (e:=e) (oe:=oe) GW (hrm e) Zj (by simp[Ba]) Zj mW kW bW (AA (pv 1) AC)))
   ·exact⟨by rw[List.getElem?_set_self qe],kq⟩
  ·have hj4:=EF.j4;refine(?hq:PH (Ao aK P w K mg base ["_law_deed", "_law_e"] "_law_told" (defScope Aj) f ad A outer s H E0) CC (some d) _ (λe=>Nj 1 (λD σ H=>σ[1]?=some (some (.ref e))/\H d=some (.xd [(IU j,v)])/\∀p H',aA H H'->H' p=some (.tup [.str "refused", .str (wd j),v])->D.rt (.ref p) H') e)) aa s1 σ H1 D e oe T oT c I ?_
   ·have take:∀ {x:Str}{b₀:Stmt}{np pos:Pos}{hs:List ExceptHandler} (Dn:Xd),A9 K Dn=true->(hg:Gl (Ao aK P w K mg base ["_law_deed", "_law_e"] "_law_told" (defScope Aj) f ad A outer s H E0) x)->mg x=some (.ref Dn)->(Dr K CC).contains (.ref Dn)=true->(x==("__debug__" : Str))=false ->
      (∀e oe T oT,Cgt CC (some d) e oe T oT->eE (Ba (Ao aK P w K mg base ["_law_deed", "_law_e"] "_law_told" (defScope Aj) f ad A outer s H E0) e oe T oT) [b₀] (PM (jE (NV K) (Jo (Ci K ec) e oe (Ab (Cj 1) B3)) (Ts (Ab (QC e oe (IU j) (Cj 1)) B3))))) ->
      PH (Ao aK P w K mg base ["_law_deed", "_law_e"] "_law_told" (defScope Aj) f ad A outer s H E0) CC (some d) (.ExceptHandler (some (.Name x np)) (some "_law_e") [b₀] pos::hs) (λe=>Nj 1 (λD σ H=>σ[1]?=some (some (.ref e))/\H d=some (.xd [(IU j,v)])/\∀p H',aA H H'->H' p=some (.tup [.str "refused", .str (wd j),v])->D.rt (.ref p) H') e):=λ{x b₀ np pos hs} Dn hD hg hm hc eI hbod =>
     Nk (Dn:=Dn) (i:=1) (tb:=λ(e:Xd) (D:Dq) (σ:St) (H:Hp)=>σ[1]?=some (some (V.ref e))/\H d=some (.xd [(IU j,v)])/\∀p H',aA H H'->H' p=some (.tup [.str "refused", .str (wd j),v])->D.rt (.ref p) H') scTold.nd rfl rfl EF.cx hD hg hm hc (λe oe T oT c=>by
      refine λaa s2 cK H2 D2 I2 h2=>?_;obtain⟨fs,hd,hf1,hf2⟩:=c.fld;obtain⟨g1,g2,g3⟩:=h2;refine hbod e oe T oT c aa s2 cK H2 D2 I2 ⟨_,g1,rfl,CC,j,fs,c.cls,hd,hf2,.inr ⟨d,_,c.dict,g2⟩,EF.ea,λp H' sp hp=>?_⟩;refine⟨_,g1,d,_,v,rfl,c.dict,sp _ _ g2,(by simp),sl1,λq hq=>?_⟩;have sq:=AD (aA.refl H') hq (o:=.tup [v]);refine⟨p,q,_,_,rfl,rfl,bH.of (sq _ _ hp),bH.of AB,(by simp),(by show 2+1<=sizeLine;decide),(λz=>nomatch z),λ_ r hr=>?_⟩
      exact g3 r _ (sp.trans (AD sq hr)) AB) eI
    have pX:∀e oe T oT,Cgt CC (some d) e oe T oT->ExcP (Ba (Ao aK P w K mg base ["_law_deed", "_law_e"] "_law_told" (defScope Aj) f ad A outer s H E0) e oe T oT) e oe CC:=λe oe T oT c=>by
     obtain⟨fs,hd,_⟩:=c.fld;exact⟨by simp[Ba],c.cls,⟨fs,hd⟩⟩
    have bod:∀ {fl:Str}{p1 p2 p3 p4 p5 p6 p7:Pos}{kt:Nat},IU j=fl->∀e oe T oT,Cgt CC (some d) e oe T oT->eE (Ba (Ao aK P w K mg base ["_law_deed", "_law_e"] "_law_told" (defScope Aj) f ad A outer s H E0) e oe T oT) [.Return (some (.BinOp (.Call (.Name "_law_word" p1) [.Name "_law_e" p2] [] p3) .Add (.Tuple [.Attribute (.Name "_law_e" p4) fl p5] kt p6) p7)) p7] (PM (jE (NV K) (Jo (Ci K ec) e oe (Ab (Cj 1) B3)) (Ts (Ab (QC e oe (IU j) (Cj 1)) B3)))):=λae e oe T oT c=>by
     subst ae;exact AG (AQ (Af (Ql K Zj) (Ko (X:=Ba (Ao aK P w K mg base ["_law_deed", "_law_e"] "_law_told" (defScope Aj) f ad A outer s H E0) e oe T oT) (e:=e) (oe:=oe) GW (hrm e) Zj (by simp[Ba]) Zj mW kW bW (AA (pv 1) AC)) (Ay (AA (Ry (pX e oe T oT c) EF.g (pv 1) Zj) AC))))
    rcases (show j=0\/j=1\/j=2\/j=3 by omega)with z |z |z |z
    ·subst z;exact take (ec 0) EX.x0 Zj M.e0 EF.m qc (bod Zj)
    ·subst z;refine CQ (Dn:=ec 0) EF.cx EX.x0 Zj M.e0 (EF.no 0 qc) ?_;exact take (ec 1) EX.x1 Zj M.e1 EF.m qc (bod Zj)
    ·subst z;refine CQ (Dn:=ec 0) EF.cx EX.x0 Zj M.e0 (EF.no 0 qc) ?_;refine CQ (Dn:=ec 1) EF.cx EX.x1 Zj M.e1 (EF.no 1 qc) ?_;exact take (ec 2) EX.x2 Zj M.e2 EF.m qc (bod Zj)
    ·subst z;refine CQ (Dn:=ec 0) EF.cx EX.x0 Zj M.e0 (EF.no 0 qc) ?_;refine CQ (Dn:=ec 1) EF.cx EX.x1 Zj M.e1 (EF.no 1 qc) ?_;refine CQ (Dn:=ec 2) EF.cx EX.x2 Zj M.e2 (EF.no 2 qc) ?_;exact take (ec 3) EX.x3 Zj M.e3 EF.m qc (bod Zj)
   ·exact⟨by rw[List.getElem?_set_self qe],hxd,kq⟩
 ·refine⟨Zj,h1,h2,?_⟩
  have e:Rq (Ao aK P w K mg base ["_law_deed", "_law_e"] "_law_told" (defScope Aj) f ad A outer s H E0).N.length (Qk K ec cM) { nx:=λ_ H'=>Q .aI H',rt:=Q }=Gv K ec cM Q:=by
   funext Cv dx H2;unfold Rq Gv Qk;simp[Ao]
  rw[←e]at h;exact h
end
end Mk
end
section
namespace L2
open PySem PySem.Spec PyProof.Rows
noncomputable def SZ (ix:List Nat) (σ:St):St:=ix.map λj=>(σ[j]?).getD none
structure LamN (X:Cx) (Nl:Xa) (ix:List Nat) (scope:Scope) (cC:List (Str×Xd)):Prop where
 len:ix.length=Nl.length
 nm:∀(i:Nat) (x:Str),Nl[i]?=some x->∃j:Nat,ix[i]?=some j/\X.N[j]?=some x/\X.env.scope.names.lookup x=some .cell/\scope.names.lookup x=some .free
 cl:∀x c,cC.lookup x=some c->X.env.cells.lookup x=some c
 has:∀x,(scope.names.lookup x=some .cell\/scope.names.lookup x=some .free)->∃c,cC.lookup x=some c
 fn:∀x,X.fn x=true
section
variable {X:Cx}{aa:LO}{σ:St}{s:Xe}{Nl:Xa}{ix:List Nat}{scope:Scope}{cC:List (Str×Xd)}
def LamN.cells (L:LamN X Nl ix scope cC) (I:Inv X aa σ H s):Hi Nl scope cC (SZ ix σ) H s.heap:=by
 refine⟨λx y c h1 h2=>I.ok.inj x y c (L.cl x c h1) (L.cl y c h2),L.has,λx c h=>⟨I.cell x c (L.cl x c h),I.cJ x c (L.cl x c h)⟩,λi x v h1 h2=>?_,?_⟩
 ·obtain⟨j,hj,hN,hk,hf⟩:=L.nm i x h1;refine⟨hf,?_⟩;unfold SZ at h2;rw[ZF,hj]at h2
  have hv:σ[j]?=some (some v):=by
   simp only[Option.map_some,Option.some.injEq]at h2;cases e:σ[j]? with
   |none=>rw[e]at h2;cases h2
   |some o=>rw[e]at h2;simp only[Option.getD_some]at h2;rw[h2]
  obtain⟨m,_,hl⟩:=I.loc;obtain⟨u,r,l⟩:=hl j x v hN hv (.inr (.inl hk));rcases l with⟨l,_⟩ |⟨_,c,e,z⟩
  ·rw[show X.env.kindOf x=X.env.scope.names.lookup x from rfl,hk]at l;cases l
  ·obtain⟨c2,e2⟩:=L.has x (.inr hf);have e3:=L.cl x c2 e2;rw[e]at e3;cases e3;exact⟨u,c,r,e2,z⟩
 ·unfold SZ;rw[AS];exact L.len
def LamN.far (L:LamN X Nl ix scope cC) (I:Inv X aa σ H s):∀x c,cC.lookup x=some c->c∉ dn X.stack:=λx c h z=>by
 have hc:=L.cl x c h;rcases mem_cons.mp (I.d7 c z)with z |z
 ·exact I.jy x c hc z
 ·obtain⟨_,o,ho,_⟩:=I.ok.df.mem z;exact absurd (Z1 (lt_size ho) (I.ok.iZ x c (L.fn x) hc)) (ZG _)
end
end L2
namespace Mk
open PySem L2 MK
section
variable {X:Cx}{ec:Nat->Xd}{cM c P0:Xd}{ls:List Pos}{cH:Pos}
def EE (K:FG) (ec:Nat->Xd) (cM P0:Xd) (qual:Str) (ls:List Pos) (ix:List Nat) (tl:XK->TE):TE:=λσ H Q=>aU H P0 qual ls/\∀H',Hj P0 H H'->aU H' P0 qual ls->tl (Gv K ec cM Q) (SZ ix σ) H' Q
def CV {k:Nat}{f:Xd} (F:aV X.K "_law_told" "_law_told" Aj f fd) (M:J5 X.mg ec) (EX:LP X.K X.mg ec cM) (GW:jU X.prog X.w X.K X.mg X.base "_law_word" 1 ["_law_e"] (Ci X.K ec))
  (hr:aE (k+2) X.A) (hg:Gl X "_law_told") (hm:X.mg "_law_told" = some (.ref f)) (hkp:W.keepIn X.K (.ref f)=true) (hB:Binds X.K fd ["_law_deed"] [])
  {Nl:Xa}{ix:List Nat}{scope:Scope}{cC:List (Str×Xd)}{params:Arguments}{body:Expr}{tl:XK->TE}{p pos:Pos}
  (L:Mc X c P0) (hls:cH∈ls) (ax:∀q∈ls,q=cH\/(q.line==cH.line&&q.col==cH.col)=false) (af:closureFor scope X.env=pure cC) (c9:defaultsOf params X.env=([],[])) (LN:LamN X Nl ix scope cC)
  (bp:∀pm c' eA,bindArgs (W.kla_fn "<lambda>" (X.env.qual ++ "<lambda>") params body scope cC pm (.ref c') eA) ⟨[],[]⟩=pure [])
  (hco:scope.isCoroutine=false) (bw:scope.isGenerator=false) (hk:scope.kind=.function) (bh:∀x∈scope.names,x.2≠ .cell)
  (db:∀(lf c':Xd) (A':Around) (cP:List Env) (s':Xe) (H':Hp) (E:XK),aE k (A'.deeper (W.envX (X.env.qual ++ "<lambda>") scope s'.heap.objs.size lf (.ref c') cC))->PE (Ec X.prog X.w X.K X.mg X.base Nl (X.env.qual ++ "<lambda>") scope lf (.ref c') cC A' cP s' H' E) body (tl E))
  (he:starEach [.Lambda params body scope cH] X.env=(false,eval (.Lambda params body scope cH) X.env)::starEach [] X.env:=by rfl) (hpl:(backTo pos (starEach [] X.env)).any (·.1)=false:=by rfl) :
  PE X (.Call (.Name "_law_told" p) [.Lambda params body scope cH] [] pos) (EE X.K ec cM P0 (X.env.qual ++ "<lambda>") ls ix tl):=by
 intro aa s σ H Q I ⟨hT,h⟩;refine Z2 (Bq I hg hm ?_ qc);have ha:PA X [.Lambda params body scope cH] (Ab (Vb P0 (X.env.qual ++ "<lambda>") ls (λc' eA=>W.kla_obj "<lambda>" (X.env.qual ++ "<lambda>") params body scope cC ((X.mg "__name__").getD .none) c' eA)) B3):=AA (UC L hls ax af c9) AC he;refine W.callWith_K (h₀:=X.base) I.ok.mod.kin hkp (aG (ha pos aa s σ H (λvs H1=>∃lf c' eA,vs=[.ref lf]/\Hj P0 H H1/\aU H1 P0 (X.env.qual ++ "<lambda>") ls/\H1 lf=some (jC lf (W.kla_obj "<lambda>" (X.env.qual ++ "<lambda>") params body scope cC ((X.mg "__name__").getD .none) c' eA))/\H1 c'=some (FS c' (X.env.qual ++ "<lambda>"))) I ⟨hT,λlf c' eA H' _ hs ht h1 h2=>⟨lf,c',eA,rfl,hs,ht,h1,h2⟩⟩) λus s1 ⟨vs,H1,I1,r,lf,c',eA,ev,hs,ht,h1,h2⟩=>⟨I1.cW,?_⟩) he hpl;subst ev;obtain⟨u,eu,ru⟩:=CI r;subst eu;obtain rfl:u=Value.ref lf:=ru;have bb:=hB s1 [.ref lf] I1.cW rfl;rw[Zu]at bb;refine wpAny_call (codeAny_mono (SY (k:=k) F M EX GW hr I1.gq bb (LN.cells I1) (LN.far I1) h1 h2 (bp _ _ _) hco bw hk bh (db lf c') (h H1 hs ht)) λr s' hq=>?_);cases r with
 |error e=>exact False.elim hq
 |ok fl =>
  cases fl with
  |ret u=>exact I1.after hq
  |next=>exact False.elim hq
  |brk=>exact False.elim hq
  |cont=>exact False.elim hq
end
section
variable {cM cR:Xd}
structure Vl (P:Program) (w:World) (K:FG) (mg:SV) (base:Heap) (cM:Xd):Prop where
 cls:mg "MarkError" = some (.ref cM)
 ga:W.specialIn K (.ref cM) "__getattribute__" = some (some (.builtin "type.__getattribute__"))
 rd:W.readsIn K cM (.type "type")=true
 fn:∃f fd,W.findCls K (.ref cM) (.type "type") "__init__" = some (.val (.ref f))/\AU P w K mg base aK 1 f fd ["self", "words"] (spErrInit K)/\W.keepIn K (.ref f)=true/\Binds K fd ["self", "words"] []
end
end Mk
end
section
namespace Mk
open PySem L2 MK PySem.NumText
def JN {n:Nat} (h:n<2 ^ 40):((n:Int)).natAbs.log2<1920:=by
 rw[Int.natAbs_natCast];rcases Nat.eq_zero_or_pos n with z |z
 ·subst z;decide
 ·have:=(Nat.log2_lt qe).mpr h;omega
section
variable {DC bd:Xd}
def Qm {X:Cx}{e:Expr}:PE X e (λ_ _ _=>False):=λ_ _ _ _ _ _ h=>h.elim
def NB (C VC:Xd):Sp:=λvs H Q _=>∃(kp:Xd) (aB:Aa) (r:Str) (n:Nat),vs=[.ref kp,.int (n:Int)]/\aS C H kp aB r/\n<2 ^ 40/\(r = "keep" \/ n - (n&&&kn aB)=0)/\∀q H',aA H H'->eK VC H' q kp n->Q (.ref q) H'
def scMade:AN ["kind", "number", "bits", "rest"] ["kind", "number"] (defScope QJ):=cQ
def Sa {f:Xd}{tL:Tok} (F:aV K "made" "made" QJ f fd) (hL:mg "LIMIT" = some (.int 1099511627776 tL)) (T:IC K C) (VO:TJ P w K mg base C VC)
  (GW:Fn P w K mg base "is_whole" 1 ["thing"] spIsWhole) (GR:Fn P w K mg base "rest_of" 3 ["kind", "number"] (spRestOf C)) (jf:Mt P w K mg base C "rest" 1 ["self"] (spRest C)) :
  AU P w K mg base aK 6 f fd ["kind", "number"] (NB C VC):=by
 obtain⟨fW,dW,GW,mW,kW,bW⟩:=GW.ex;obtain⟨fR,dR,GR,mR,kR,bR⟩:=GR.ex;obtain⟨fE,dE,GE,mE,bE⟩:=jf.ex;obtain⟨fI,dI,MI,GI,bI⟩:=VO.make;have mV:=VO.cls;refine F.m scMade λvs H Q E h=>?_;obtain⟨kp,aB,r,n,rfl,KA,iI,h0,k⟩:=h;refine⟨Zj,λad A outer s hr=>?_⟩;have dZ:aE 1 _:=hr.mono qc;have i7:aE 3 _:=hr.mono qc;obtain⟨jP,d1,d2,ah⟩:=KA.ins
 refine⟨_,AF (Ak (PW.pt (DF (BY (A3 (AM GW dZ Zj mW kW bW .nil AR (AA (pv 1) AC)))) (CJ (BY (B2 EZ FE (FD Ej (BH (v:=.int 1099511627776) Zj hL ⟨tL,Zj⟩)) (pv 1) (BH (v:=.int 1099511627776) Zj hL ⟨tL,Zj⟩)))))) (AG An) AV)
  (AF (Ag (i:=2) scMade.nd rfl (Or.inl rfl) (Bz (AL Gk (pv 1) AE (AO _)) (pv 1) Qm))
  (AF (Ag (i:=3) scMade.nd rfl (Or.inl rfl) (AM GR i7 rfl mR kR bR .nil AR (AA (pv 0) (AA (pv 2) AC))))
  (AF (Ak (PW.pt (Bt (AL Dj (pv 3) AE (AO _)) (BX (AL A7 (Cb (pv 0) T.cl mE GE dZ bE .nil AR) AI (AO _))))) (AG An) AV)
  (AF (Ak (AL FE (pv 1) AE (AO _)) (AG An) AV)
  (AF (Ak (PW.pt (Bt (AL Dj (pv 3) AE (AO _)) (BX (AL A7 (Cb (pv 0) T.cl mE GE dZ bE .nil AR) AI (AO _))))) (AG An) AV)
  (AG (AQ (RM MI GI hr rfl mV bI .nil AR (AA (pv 0) (AA (Bz (AL A7 (Cb (pv 0) T.cl mE GE dZ bE .nil AR) AI (AO _)) (pv 2) (Af Eh (pv 2) (pv 3))) AC)))))))))),?_⟩
 have noR:(IA d1 d2 r).lookup ("rest" : Str)=none:=(ES _ _ _);have e40:(2:Nat) ^ 40=1099511627776:=by decide
 refine⟨_,Zj,_,Zj,_,Zj,?_⟩;refine AT ?_;refine⟨_,Zj,_,Zj,_,_,Zj,Zj,_,Zj,?_⟩;rw[ZM (show -1099511627776<=(n:Int) by omega)];refine Ac ?_;refine⟨_,_,Zj,Zj,_,Zj,?_⟩;rw[ZM (show(n:Int)<1099511627776 by omega)];refine AT ?_;refine⟨_,Zj,_,_,Zj,Zj,_,Zj,?_⟩;rw[ZM (show(0:Int)<=(n:Int)from Z0 _)];refine Ac ⟨_,Zj,?_⟩;refine⟨_,Zj,_,Zj,kp,aB,r,n,Zj,KA,λH1 s1=>?_⟩;have KA1:=KA.same s1;have cn:=s1 _ _ ah
 have fin:∀q dq,H1 q=none->H1 dq=none->dq≠q->spVInit C VC [.ref q,.ref kp,.int (n:Int)] (upd (upd H1 dq (.own q)) q (.ins VC dq [])) (λv H4=>v=.aI/\Q (.ref q) H4) E0:=λq dq hq hdq ax=>by
  have sN:=IH (D:=VC) hq hdq ax;exact⟨q,dq,kp,aB,r,n,Zj,AB,KA1.same sN,iI,h0,λH4 s4 hV=>⟨Zj,k q H4 (s1.trans (JL sN hq s4)) hV⟩⟩
 by_cases h00:n - (n&&&kn aB)=0
 ·rw[h00];refine⟨_,Zj,Zj,_,Zj,?_⟩;rw[ZM (show V.int ((0:Nat):Int)=V.int 0 from rfl)];refine AT (AT ?_);refine⟨_,Zj,_,_,Zj,Zj,_,Zj,?_⟩;rw[ZP (show ¬ (n:Int)<0 by omega)];refine AT ?_;refine⟨_,Zj,Zj,_,Zj,?_⟩;rw[ZM (show V.int ((0:Nat):Int)=V.int 0 from rfl)];refine AT (AT ?_);refine⟨_,Zj,_,Zj,kp,jP,_,Zj,cn,noR,kp,aB,r,Zj,KA1,Zj,_,Zj,?_⟩;refine B4 (λ_=>?_) (λ_=>?_)
  ·exact⟨_,Zj,fin⟩
  ·refine⟨_,Zj,_,Zj,_,_,Zj,Zj,?_⟩;have es:((n:Nat):Int) - ((0:Nat):Int)=(n:Int):=by omega
   intro q dq hq hdq ax;have:=fin q dq hq hdq ax;rw[←es]at this;exact this
 ·have hk:r = "keep" := h0.resolve_right h00;have ax:decide (V.int ((n - (n&&&kn aB):Nat):Int)=V.int 0)=false:=ZP λz=>h00 (by have:=V.int.inj z;omega);refine⟨_,Zj,Zj,_,Zj,?_⟩;rw[ax];refine Ac ⟨_,Zj,kp,jP,_,Zj,cn,noR,kp,aB,r,Zj,KA1,Zj,_,Zj,?_⟩;rw[hk,show decide (V.str "keep" = V.str "bar")=false by decide +kernel];refine AT ?_;refine⟨_,Zj,_,_,Zj,Zj,_,Zj,?_⟩;rw[ZP (show ¬ (n:Int)<0 by omega)];refine AT ?_;refine⟨_,Zj,Zj,_,Zj,?_⟩;rw[ax];refine Ac ⟨_,Zj,kp,jP,_,Zj,cn,noR,kp,aB,r,Zj,KA1,Zj,_,Zj,?_⟩;rw[hk,show decide (V.str "keep" = V.str "leave")=false by decide +kernel];refine AT ?_;refine⟨_,Zj,_,Zj,kp,jP,_,Zj,cn,noR,kp,aB,r,Zj,KA1,Zj,_,Zj,?_⟩;rw[hk,show decide (V.str "keep" = V.str "keep")=true by decide +kernel];exact Ac ⟨_,Zj,fin⟩
end
end Mk
end
section
namespace Mk
open PySem L2 MK
def Az {d:Xd}{x y x' y':Int} (h:H d=some (.lst [.int x,.int y])):aO d H (upd H d (.lst [.int x',.int y'])):=⟨λb o e hb=>by rw[AH hb];exact e,⟨x',y',AB⟩⟩
def AtV (v:V):Prop:=v=.aI\/∃n:Int,v=.int n/\n.natAbs.log2<1920
def di (K:FG) (T:String) (H:Hp) (v:V):Prop:=(∃t,(∀H,d4 K H v t)/\W.kitOne K t (.type T)=some false)\/(∃a xs,v=.ref a/\H a=some (.tup xs)/\W.kitOne K (.type "tuple") (.type T)=some false) \/
 ∃a xs,v=.ref a/\H a=some (.lst xs)/\(∀x y:Int,xs≠ [.int x,.int y])/\W.kitOne K (.type "list") (.type T)=some false
def di.ty {T:String}{v:V} (h:di K T H v):∃t,d4 K H v t/\W.kitOne K t (.type T)=some false:=by
 rcases h with⟨t,h,k⟩ |⟨a,xs,rfl,h,k⟩ |⟨a,xs,rfl,h,_,k⟩
 ·exact⟨t,h H,k⟩
 ·exact⟨_,.tup h,k⟩
 ·exact⟨_,.lst h,k⟩
def di.same {T:String}{v:V} (s:aA H H') (h:di K T H v):di K T H' v:=by
 rcases h with h |⟨a,xs,e,h,k⟩ |⟨a,xs,e,h,n,k⟩
 ·exact .inl h
 ·exact .inr (.inl ⟨a,xs,e,s _ _ h,k⟩)
 ·exact .inr (.inr ⟨a,xs,e,s _ _ h,n,k⟩)
section
variable {cM cR:Xd}
def UX {T:String} (h:W.kitOne K (.type "NoneType") (.type T)=some false):di K T H .aI:=.inl ⟨_,λ_=>.aI,h⟩
def UY {T:String}{i:Int} (h:W.kitOne K (.type "int") (.type T)=some false):di K T H (.int i):=.inl ⟨_,λ_=>.int i,h⟩
def Vm {T:String}{b:Bool} (h:W.kitOne K (.type "bool") (.type T)=some false):di K T H (.bl b):=.inl ⟨_,λ_=>.bl b,h⟩
inductive spTextInit (K:FG) (cM:Xd) (vs:Xc) (H:Hp) (Q:VK) (_E:XK):Prop where
 |mk (e C:Xd) (v:V) (cD:vs=[.ref e,v]) (cG:AtV v) (cI:A9 K C=true) (cY:H e=some (FO e C none)) (d5:QB K C cM "at") (fk:∀d,H d=none->d≠e->Q .aI (upd (upd H e (FO e C (some d))) d (.xd [("at", v)])))
def NC:AN ["self", "at"] ["self", "at"] (defScope Db):=cQ
def LQ {f:Xd} (F:aV K "__init__" "BadText.__init__" Db f fd) (ME:Vl P w K mg base cM):AU P w K mg base aK 2 f fd ["self", "at"] (spTextInit K cM):=by
 obtain⟨fI,dI,hf,GI,kI,bI⟩:=ME.fn;have mM:=ME.cls;refine F.m NC λvs H Q E h=>?_;obtain⟨e,C,v,rfl,hn,hC,he,S,k⟩:=h;refine⟨Zj,λad A outer s hr=>?_⟩;refine⟨_,AF (A4 (Md Zj mM ME.ga ME.rd hf GI hr kI bI .nil AR (AA (pv 0) (AA (Rx qb (pv 1)) AC)))) (AG (Rw (M:=cM) (pv 0) (pv 1) Zj)),?_⟩;refine⟨_,Zj,_,Zj,hn.elim (λz=>.inr (.inr z)) .inl,λz=>⟨e,C,none,z,Zj,hC,he,?_⟩⟩;exact⟨_,Zj,_,Zj,e,C,Zj,he,S,k⟩
def i0 (H:Hp) (E:XK) (cR:Xd) (v:V):Prop:=∀e d H',aA H H'->H e=none->H d=none->d≠e->H' e=some (F5 e cR (some d))->H' d=some (.xd [("at", v)])->E (.ref cR) (some d) H'
structure Nw (P:Program) (w:World) (K:FG) (mg:SV) (base:Heap) (cM cR:Xd):Prop where
 cls:mg "BadText" = some (.ref cR)
 make:∃f fd,MkX K cR f/\AU P w K mg base aK 2 f fd ["self", "at"] (spTextInit K cM)/\Binds K fd ["self", "at"] []
 st:QB K cR cM "at"
def Ge {σ:St}{H1:Hp}{E:XK}{D:Dq}{v:V}{te:TE} (hC:A9 K cR=true) (S:QB K cR cM "at") (hn:AtV v) (s1:aA H H1) (h:i0 H E cR v) (ht:∀Q:VK,Q v H1->te σ H1 Q) :
  MW cR (MV cR (spTextInit K cM) [] E0 (Ab te B3)) E D σ H1:=by
 refine ht _ ?_;refine⟨(by show 1<=1000;decide),λa ha=>?_⟩;refine⟨a,cR,v,Zj,hn,hC,AB,S,λd hd ax=>⟨Zj,a,some d,Zj,?_,?_⟩⟩
 ·rw[AH (Ne.symm ax),AB]
 ·have eS:H1 d=none:=by rw[AH ax]at hd;exact hd
  refine h a d _ (λb u e=>?_) (none_of s1 ha) (none_of s1 eS) ax AB ?_
  ·have e1:=s1 _ _ e;have nb:b≠a:=AJ e1 ha;have nd:b≠d:=AJ e1 eS;rw[AH nb,AH nd,AH nb,AH nb];exact e1
  ·rw[AH ax,AB]
def Vn (K:FG) (H:Hp) (v:V):Prop:=v=.bl true\/di K "int" H v
def EG (K:FG):Sp:=λvs H Q _=>(∃i:Int,vs=[.int i]/\Q (.bl true) H)\/∃v,vs=[v]/\Vn K H v/\Q (.bl false) H
def Gf {f:Xd} (F:aV K "is_whole" "is_whole" Fb f fd) (B:Bl mg):AU P w K mg base aK 1 f fd ["thing"] (EG K):=by
 refine F.ok Ox (λvs H Q E h=>?_) (λad A outer s H vs Q E hr h=>?_)
 ·rcases h with⟨i,rfl,_⟩ |⟨v,rfl,_⟩ <;> rfl
 ·refine⟨_,AG (AQ (C7 (CS K rfl rfl B.ft rfl B.int E5 (pv 0)) (DY (PL (CS K rfl rfl B.ft rfl B.bool SB (pv 0)))))),?_⟩;rcases h with⟨n,rfl,k⟩ |⟨v,rfl,hv,k⟩
  ·refine⟨_,Zj,_,_,_,true,Zj,.int n,Zj,_,Zj,?_⟩;exact⟨_,Zj,_,_,_,false,Zj,.int n,qd,_,Zj,k⟩
  ·rcases hv with rfl |hv
   ·refine⟨_,Zj,_,_,_,true,Zj,.bl true,qd,_,Zj,?_⟩;exact⟨_,Zj,_,_,_,true,Zj,.bl true,Zj,_,Zj,k⟩
   ·obtain⟨t,ht,hk⟩:=hv.ty;exact⟨_,Zj,_,_,_,false,Zj,ht,hk,_,Zj,AT k⟩
noncomputable def okN (i:Int):Bool:=decide (0<=i)&&decide (i<1099511627776)
def ND (K:FG):Sp:=λvs H Q _=>(∃i:Int,vs=[.int i]/\Q (.bl (okN i)) H)\/∃v,vs=[v]/\Vn K H v/\Q (.bl false) H
def Nx {f:Xd}{tL:Tok} (F:aV K "is_number" "is_number" EQ f fd) (hL:mg "LIMIT" = some (.int 1099511627776 tL)) (GW:Fn P w K mg base "is_whole" 1 ["thing"] (EG K)):AU P w K mg base aK 2 f fd ["thing"] (ND K):=by
 obtain⟨fW,dW,GW,mW,kW,bW⟩:=GW.ex;refine F.ok M8 (λvs H Q E h=>?_) (λad A outer s H vs Q E hr h=>?_)
 ·rcases h with⟨i,rfl,_⟩ |⟨v,rfl,_⟩ <;> rfl
 ·refine⟨_,AG (AQ (C7 (AM GW hr rfl mW kW bW .nil AR (AA (pv 0) AC)) (DY (FH EZ FE AE (pv 0) (BH (v:=.int 1099511627776) rfl hL ⟨tL,rfl⟩))))),?_⟩;rcases h with⟨i,rfl,k⟩ |⟨v,rfl,hv,k⟩
  ·refine⟨_,Zj,.inl ⟨i,Zj,_,Zj,Ac ⟨_,Zj,_,_,Zj,Zj,_,Zj,?_⟩⟩⟩;unfold okN at k;by_cases h0:0<=i
   ·rw[ZM h0]at k ⊢;exact Ac ⟨_,_,Zj,Zj,k⟩
   ·rw[ZP h0]at k ⊢;exact AT k
  ·exact⟨_,Zj,.inr ⟨v,Zj,hv,_,Zj,AT k⟩⟩
def LU {f:Xd} (F:aV K "is_whole" "is_whole" Fb f fd) (B:Bl mg):AU P w K mg base aK 1 f fd ["thing"] spIsWhole:=QZ (Gf F B) λvs H Q E h=>by obtain⟨i,e,q⟩:=h;exact .inl ⟨i,e,q⟩
def J6 {f:Xd}{tL:Tok} (F:aV K "is_number" "is_number" EQ f fd) (hL:mg "LIMIT" = some (.int 1099511627776 tL)) (GW:Fn P w K mg base "is_whole" 1 ["thing"] (EG K)):AU P w K mg base aK 2 f fd ["thing"] spIsNumber:=QZ (Nx F hL GW) λvs H Q E h=>by
 obtain⟨n,e,hn,q⟩:=h;refine .inl ⟨(n:Int),e,?_⟩;have e40:(2:Nat) ^ 40=1099511627776:=by decide
 unfold okN;rw[ZM (show(0:Int)<=(n:Int) by omega),ZM (show(n:Int)<1099511627776 by omega)];exact q
end
end Mk
end
section
namespace Mk
open PySem L2 MK PySem.NumText
noncomputable def Ax (c:Nat):Bool:=decide (48<=c)&&decide (c<=57)
noncomputable def Bo (c:Nat):Bool:=decide (97<=c)&&decide (c<=122)
def DU (lo hi:Nat) (x y:Str) (hx:x.cps.toList=[lo]) (hy:y.cps.toList=[hi]) (c:Nat):(if (!decide ((⟨#[c]⟩:Str).cps.toList<x.cps.toList))=true then (!decide (y.cps.toList<(⟨#[c]⟩:Str).cps.toList))else false)=(decide (lo<=c)&&decide (c<=hi)):=by
 rw[hx,hy];show(if (!decide ([c]<[lo]))=true then !decide ([hi]<[c])else false)=_
 have e1:decide ([c]<[lo])=decide (c<lo):=by
  rw[Bool.eq_iff_iff,decide_eq_true_eq,decide_eq_true_eq,cons_lt_cons_iff];simp
 have e2:decide ([hi]<[c])=decide (hi<c):=by
  rw[Bool.eq_iff_iff,decide_eq_true_eq,decide_eq_true_eq,cons_lt_cons_iff];simp
 rw[e1,e2];by_cases h1:c<lo <;> by_cases h2:hi<c <;> simp[h1,h2] <;> omega
noncomputable def Gg (x:Str):Bool:=x.cps.toList.all Ax&&(decide (x = "0")||(!decide (x.cps.toList.head?=some 48)&&decide (digitsVal x.cps.toList<1099511627776)))
noncomputable def BP (x:Str):Bool:=match x.cps.toList with | [c]=>Bo c |_=>false
section
inductive spFig (vs:Xc) (H:Hp) (Q:VK) (_E:XK):Prop where
 |mk (x:Str) (cD:vs=[.str x]) (cG:x.cps.all (· < 128)=true) (cI:0<x.length) (cY:x.length<=200) (d5:∀H',aA H H'->Q (.bl (Gg x)) H')
def Vo:AN ["text"] ["text"] (defScope Ez):=cQ
def UZ {f:Xd} (F:aV K "is_figures" "is_figures" Ez f fd) (B:Bl mg) (GN:Fn P w K mg base "is_number" 2 ["thing"] (ND K)):AU P w K mg base aK 3 f fd ["text"] spFig:=by
 obtain⟨fN,dN,GN,mN,kN,bN⟩:=GN.ex;refine F.m Vo λvs H Q E h=>?_;obtain⟨x,rfl,ha,h0,jN,k⟩:=h;refine⟨Zj,λad A outer s hr=>?_⟩
 refine⟨_,AF (Ak (PW.pt (DF (AL A7 (AW At Zj B.len PySem.boot_len (AA (pv 0) AC)) AE (AO _)) (CJ (BY (A3 (AW (HZ Zj) Zj B.all Mv (AA (DP [] [] qd qb qd Zj (Pp (pv 0)) (λ_ _ _ _ _ _=>Cl) (λ_ _ _ _ _ _=>FH Av Av AI (pv 0) AI)) AC))))))) (AG (AQ By)) AV)
  (AF (Ak (AL A7 (BJ Fz (pv 0) AE (λ_ _=>rfl)) AI (AO _)) (AG (AQ (Bf A7 (pv 0) AI (AO _)))) AV)
  (AG (AQ (AM GN hr rfl mN kN bN .nil AR (AA (BU DA rfl B.int E5 (AA (pv 0) AC)) AC))))),?_⟩
 refine⟨_,Zj,x,Zj,Nat.le_of_lt (AK qe),Zj,_,Zj,?_⟩;rw[ZP (show ¬ V.int (x.length:Int)=V.int 0 from λz=>by have:=V.int.inj z;omega)];refine AT ?_;have hlx:x.cps.toList.length=x.length:=by rw[Array.length_toList];rfl
 refine⟨_,Zj,x,Zj,ha,K4 (x:=x) (λi ys H2=>H2=H/\ys=(x.cps.toList.take i).map λc=>V.bl (Ax c)) ⟨Zj,Zj⟩ (λi ys H2 ⟨_,e⟩=>?_) ?_ ?_⟩
 ·rw[e,AS,ZB];omega
 ·rintro i c ys H2 hc ⟨rfl,rfl⟩;refine⟨_,Zj,_,_,Zj,Zj,_,Zj,?_⟩
  have fin:∀b,b=Ax c->(H2=H2/\(x.cps.toList.take i).map (λc=>V.bl (Ax c))++[V.bl b]=(x.cps.toList.take (i+1)).map λc=>V.bl (Ax c)):=λb hb=>by
   refine⟨Zj,?_⟩;have iU:x.cps.toList[i]?=some c:=by rw[Array.getElem?_toList];exact hc
   rw[ZE,iU,Zv,hb];rfl
  have hu:=DU 48 57 "0" "9" qb qb c;refine B4 (λh3=>?_) (λh3=>?_)
  ·rw[Zq h3]at hu;exact⟨_,_,Zj,Zj,fin _ hu⟩
  ·rw[Zr h3]at hu;exact fin _ hu
 rintro ys H2 ⟨rfl,rfl⟩ p hp;have el:x.cps.toList.take x.cps.size=x.cps.toList:=take_of_length_le (by rw[Array.length_toList];exact Zz _);have sp:=AD (aA.refl _) hp (o:=HO.lst ((x.cps.toList.take x.cps.size).map λc=>V.bl (Ax c)));refine⟨p,x.cps.toList.map Ax,Zj,aN.of (by rw[AB,el,map_map];rfl),_,Zj,?_⟩;rw[show(x.cps.toList.map Ax).all id=x.cps.toList.all Ax by rw[all_map];rfl];have kk:=k _ sp;unfold Gg at kk;by_cases bf:x.cps.toList.all Ax=true
 ·rw[bf]at kk ⊢;rw[Bool.true_and]at kk;refine AT ?_
  obtain⟨c,cs,ec⟩:∃c cs,x.cps.toList=c::cs:=by
   cases e:x.cps.toList with
   |nil=>rw[e]at hlx;simp at hlx;omega
   |cons c cs=>exact⟨c,cs,rfl⟩
  refine⟨_,Zj,x,0,c,Zj,Zj,Nat.le_of_lt (AK qe),(show gT _ ((0:Nat):Int)=_ from BO (by rw[ec];rfl)),Zj,_,Zj,?_⟩;have e0:("0" : Str).cps.toList=[48]:=by decide +kernel
  by_cases h48:c=48
  ·subst h48;rw[ZM (show V.str ⟨#[48]⟩=V.str "0" by decide +kernel)];rw[ZM (show x.cps.toList.head?=some 48 by rw[ec];rfl),Bool.not_true,Bool.false_and,Bool.or_false]at kk;refine Ac ⟨_,Zj,Zj,?_⟩;have e1:decide (V.str x=V.str "0")=decide (x = "0"):=decide_eq_decide.mpr ⟨λz=>V.str.inj z,λz=>by rw[z]⟩;rw[e1];exact kk
  ·have ax:¬ x = "0" := λz=>h48 (by rw[z,e0]at ec;injection ec with a b;exact a.symm)
   rw[ZP (show ¬ V.str ⟨#[c]⟩=V.str "0" from λz=>h48 (by
    have:=V.str.inj z;have e1:=congrArg (λz:Str=>z.cps.toList) this;rw[e0]at e1
    injection e1))]
   rw[ZP ax,Bool.false_or,ZP (show ¬ x.cps.toList.head?=some 48 by rw[ec];exact λz=>h48 (Option.some.inj z)),Bool.not_false,Bool.true_and]at kk;refine AT ?_
   have hd:AllDigits x.cps.toList:=λc hc=>by
    have:=List.all_eq_true.mp bf c hc;unfold Ax at this;rw[Bool.and_eq_true,decide_eq_true_eq,decide_eq_true_eq]at this;exact this
   refine⟨_,Zj,x,_,Zj,qe,intText_digits hd (by rw[ec];simp) qe,.inl ⟨(digitsVal x.cps.toList:Nat),Zj,?_⟩⟩
   have eo:okN ((digitsVal x.cps.toList:Nat):Int)=decide (digitsVal x.cps.toList<1099511627776):=by
    unfold okN;rw[ZM (show(0:Int)<=((digitsVal x.cps.toList:Nat):Int) by omega),Bool.true_and];exact decide_eq_decide.mpr qe
   rw[eo];exact kk
 ·have hno:x.cps.toList.all Ax=false:=by
   cases e:x.cps.toList.all Ax with
   |true=>exact absurd e bf
   |false=>rfl
  rw[hno]at kk ⊢;exact Ac kk
inductive spLet (K:FG) (vs:Xc) (H:Hp) (Q:VK) (_E:XK):Prop where
 |txt (x:Str) (cD:vs=[.str x]) (cG:x.length<=200) (cI:Q (.bl (BP x)) H)
 |aI (v:V) (cD:vs=[v]) (cG:di K "str" H v) (cI:Q (.bl false) H)
def Vp:AN ["thing"] ["thing"] (defScope GV):=cQ
def Ua {f:Xd} (F:aV K "is_letter" "is_letter" GV f fd) (B:Bl mg):AU P w K mg base aK 1 f fd ["thing"] (spLet K):=by
 refine F.ok Vp (λvs H Q E h=>?_) (λad A outer s H vs Q E hr h=>?_)
 ·cases h with
  |txt x e _ _=>subst e;rfl
  |aI v e _ _=>subst e;rfl
 ·refine⟨_,AG (AQ (C7 (CS K rfl rfl B.ft rfl B.str Ga (pv 0)) (C7 (Bf A7 (AW At rfl B.len PySem.boot_len (AA (pv 0) AC)) AE (AO _)) (DY (FH Av Av AI (pv 0) AI))))),?_⟩;cases h with
  |aI v e hv k =>
   subst e;obtain⟨t,ht,hk⟩:=hv.ty;exact⟨_,Zj,_,_,_,false,Zj,ht,hk,_,Zj,AT k⟩
  |txt x e jN k =>
   subst e;refine⟨_,Zj,_,_,_,true,Zj,.str x,Zj,_,Zj,Ac ?_⟩;refine⟨_,Zj,x,Zj,Nat.le_of_lt (AK qe),Zj,_,Zj,?_⟩;have hlx:x.cps.toList.length=x.length:=by rw[Array.length_toList];rfl
   unfold BP at k;refine B4 (λh1=>?_) (λh1=>?_)
   ·obtain⟨c,ec⟩:∃c,x.cps.toList=[c]:=by
     have e1:x.length=1:=by have:=V.int.inj (ZU h1);omega
     rw[e1]at hlx;exact List.length_eq_one_iff.mp hlx
    rw[ec]at k;refine⟨_,Zj,_,_,Zj,Zj,_,Zj,?_⟩;have hu:=DU 97 122 "a" "z" qb qb c;have ex:(⟨#[c]⟩:Str).cps.toList=x.cps.toList:=by rw[ec]
    rw[ex]at hu;change _=Bo c at hu;change Q (V.bl (Bo c)) H at k;rw[←hu]at k;refine B4 (λh3=>?_) (λh3=>?_)
    ·rw[Zq h3]at k;exact⟨_,_,Zj,Zj,k⟩
    ·rw[Zr h3]at k;exact k
   ·have hn:x.length≠1:=λz=>h1 (ZM (by rw[z];rfl))
    have e2:(match x.cps.toList with | [c]=>Bo c |_=>false)=false:=by
     cases e:x.cps.toList with
     |nil=>rfl
     |cons a r =>
      cases r with
      |nil=>rw[e]at hlx;exact absurd hlx.symm hn
      |cons b r=>rfl
    rw[e2]at k;exact k
end
def Ae (x:Str):x.cps.toList.length=x.length:=by rw[Array.length_toList];rfl
def Ce (z:Str) {a b:Nat} (iE:a<=b) (hb:b<=z.length):(Txt.slice z (some (a:Int)) (some (b:Int))).cps.toList=(z.cps.toList.drop a).take (b - a):=by
 unfold Txt.slice;split
 ·rename_i h;rw[StrLaws.strSliceIndices_plain iE hb,AS,List.length_range]at h
  have e:b - a=z.length:=by
   simp only[beq_self_eq_true,Bool.true_and,beq_iff_eq]at h;exact h
  have ea:a=0:=by omega
  subst ea;rw[List.drop_zero,take_of_length_le (by rw[Ae];omega)]
 ·show(List.filterMap _ _).toArray.toList=_;rw[toList_toArray,StrLaws.sliced_plain z iE hb]
noncomputable def EH (lt:Bool) (x:Str):Bool:=Bv x||(Gg x||(lt&&BP x))
section
inductive spPart (vs:Xc) (H:Hp) (Q:VK) (_E:XK):Prop where
 |mk (x:Str) (lt:Bool) (cD:vs=[.str x,.bl lt]) (cG:x.cps.all (· < 128)=true) (cI:0<x.length) (cY:x.length<=200) (d5:∀H',aA H H'->Q (.bl (EH lt x)) H')
def Ub:AN ["text", "lettered"] ["text", "lettered"] (defScope Jy):=cQ
def Sb {f:Xd} (F:aV K "is_part" "is_part" Jy f fd) (GN:Fn P w K mg base "is_name" 1 ["thing"] spIsName) (GF:Fn P w K mg base "is_figures" 3 ["text"] spFig) (GL:Fn P w K mg base "is_letter" 1 ["thing"] (spLet K)):AU P w K mg base aK 4 f fd ["text", "lettered"] spPart:=by
 obtain⟨fN,dN,GN,mN,kN,bN⟩:=GN.ex;obtain⟨fF,dF,GF,mF,kF,bF⟩:=GF.ex;obtain⟨fL,dL,GL,mL,kL,bL⟩:=GL.ex;refine F.m Ub λvs H Q E h=>?_;obtain⟨x,lt,rfl,ha,h0,jN,k⟩:=h;refine⟨rfl,λad A outer s hr=>?_⟩;have dZ:aE 1 _:=hr.mono qc;refine⟨_,AG (AQ (Sz (AM GN dZ rfl mN kN bN .nil AR (AA (pv 0) AC)) (Sz (AM GF hr rfl mF kF bF .nil AR (AA (pv 0) AC)) (DY (C7 (pv 1) (DY (AM GL dZ rfl mL kL bL .nil AR (AA (pv 0) AC)))))))),?_⟩;refine⟨_,rfl,x,rfl,ha,qe,λH1 s1=>⟨_,rfl,?_⟩⟩;unfold EH at k;cases hn:Bv x with
 |true =>
  rw[hn,Bool.true_or]at k;exact Ac (k _ s1)
 |false =>
  rw[hn,Bool.false_or]at k;refine AT ⟨_,rfl,x,rfl,ha,h0,jN,λH2 s2=>⟨_,rfl,?_⟩⟩;cases hf:Gg x with
  |true =>
   rw[hf,Bool.true_or]at k;exact Ac (k _ (s1.trans s2))
  |false =>
   rw[hf,Bool.false_or]at k;refine AT ⟨_,rfl,_,rfl,?_⟩;cases lt with
   |true=>exact Ac ⟨_,rfl,.txt x rfl jN (k _ (s1.trans s2))⟩
   |false=>exact AT (k _ (s1.trans s2))
structure IK (lt:Bool) (z:Str) (a n:Nat):Prop where
 le:a+n<=z.length
 ok:∀k,0<k->k<=n->EH lt (Txt.slice z (some (a:Int)) (some ((a+k:Nat):Int)))=true
 no:a+n<z.length->EH lt (Txt.slice z (some (a:Int)) (some ((a+n+1:Nat):Int)))=false
def JO {z:Str}{a b:Nat} (iE:a<=b) (hb:b<=z.length) (h:z.cps.all (· < 128)=true):(Txt.slice z (some (a:Int)) (some (b:Int))).cps.all (· < 128)=true:=by
 rw[←Array.all_toList]at h ⊢;rw[Ce z iE hb];exact List.all_eq_true.mpr λc hc=>List.all_eq_true.mp h c (List.mem_of_mem_drop (mem_of_mem_take hc))
def PB {z:Str}{a b:Nat} (iE:a<=b) (hb:b<=z.length):(Txt.slice z (some (a:Int)) (some (b:Int))).length=b - a:=by
 rw[←Ae,Ce z iE hb,ZB,length_drop,Ae];omega
inductive spPE (vs:Xc) (H:Hp) (Q:VK) (_E:XK):Prop where
 |mk (z:Str) (a n:Nat) (lt:Bool) (cD:vs=[.str z,.int (a:Int),.bl lt]) (cG:z.cps.all (· < 128)=true) (cI:z.length<=200) (cY:IK lt z a n) (d5:∀H',aA H H'->Q (.int ((a+n:Nat):Int)) H')
def scPE:AN ["text", "at", "lettered", "end"] ["text", "at", "lettered"] (defScope Hu):=cQ
def Sc {f:Xd} (F:aV K "part_end" "part_end" Hu f fd) (B:Bl mg) (GP:Fn P w K mg base "is_part" 4 ["text", "lettered"] spPart):AU P w K mg base aK 5 f fd ["text", "at", "lettered"] spPE:=by
 obtain⟨fP,dP,GP,mP,kP,bP⟩:=GP.ex;refine F.m scPE λvs H Q E h=>?_;obtain⟨z,a,n,lt,rfl,ha,jN,PA,q⟩:=h;refine⟨Zj,λad A outer s hr=>?_⟩
 refine⟨_,AF (Ag (i:=3) scPE.nd Zj (Or.inl Zj) (pv 1))
  (AF (FC PassesOwn.never (PW.pt (Bt (AL FE (pv 3) (AW At rfl B.len PySem.boot_len (AA (pv 0) AC)) (AO _)) (BX (A3 (AM GP hr rfl mP kP bP .nil AR (AA (DJ F6 (pv 0) (Ck (pv 1)) (Ck (Af B0 (pv 3) AE))) (AA (pv 2) AC))))))) (AG (Ll (i:=3) scPE.nd rfl (Or.inl rfl) AE (NP:cV _ _ _))))
  (AG (AQ (pv 3)))),?_⟩
 refine⟨_,Zj,λm σ H2=>∃k:Nat,σ=[some (.str z),some (.int (a:Int)),some (.bl lt),some (.int ((a+k:Nat):Int))]/\aA H H2/\k<=n/\m=n - k,⟨n,0,Zj,aA.refl _,Nat.zero_le _,Zj⟩,?_⟩;rintro m σ H2 ⟨k,rfl,s2,hk,rfl⟩;have hle:=PA.le;refine⟨_,Zj,_,Zj,z,Zj,Nat.le_of_lt (AK qe),_,_,Zj,Zj,_,Zj,?_⟩;by_cases hz:a+k<z.length
 ·rw[ZM (show((a+k:Nat):Int)<(z.length:Int) by omega)];refine Ac ?_;have e1:((a+k:Nat):Int)+1=((a+k+1:Nat):Int):=by omega
  refine⟨_,Zj,_,Zj,(a:Int),Zj,_,Zj,_,_,Zj,Zj,((a+k+1:Nat):Int),congrArg V.int e1,z,Zj,Nat.le_of_lt (AK qe),_,Zj,?_⟩;have hl:=PB (z:=z) (a:=a) (b:=a+k+1) qe qe;have hs:=JO (z:=z) (a:=a) (b:=a+k+1) qe qe ha;refine⟨_,lt,Zj,hs,qe,qe,λH3 s3=>⟨_,Zj,?_⟩⟩;by_cases hkn:k<n
  ·have ok:=PA.ok (k+1) qe qe;rw[show a+(k+1)=a+k+1 by omega]at ok;rw[ok];refine Ac ⟨λσ H4=>σ=[some (.str z),some (.int (a:Int)),some (.bl lt),some (.int ((a+(k+1):Nat):Int))]/\aA H H4,λaJ H' ⟨e,s'⟩=>⟨n - (k+1),qe,k+1,e,s',qe,Zj⟩,?_⟩;refine⟨_,Zj,_,_,Zj,Zj,?_,s2.trans s3⟩;show [some (V.str z),some (V.int (a:Int)),some (V.bl lt),some (V.int (((a+k:Nat):Int)+1))]=_;rw[e1];rfl
  ·have e:k=n:=by omega
   subst e;rw[PA.no hz];exact AT ⟨_,Zj,q _ (s2.trans s3)⟩
 ·rw[ZP (show ¬ ((a+k:Nat):Int)<(z.length:Int) by omega)];have e:k=n:=by omega
  subst e;exact AT (AT ⟨_,Zj,q _ s2⟩)
end
structure IV (K:FG) (DC:Xd):Prop where
 cl:iz K DC
 nS:cL K DC "steps"
 nW:cL K DC "waiting"
 nP:cL K DC "wants_part"
def TL:¬ (("steps" : Str) = "wants_part"):=by decide +kernel
def TM:¬ (("waiting" : Str) = "wants_part"):=by decide +kernel
def TN:¬ (("waiting" : Str) = "steps"):=by decide +kernel
noncomputable def gW (ls lw:Xd) (wp:Bool):List (Str×V):=BQ "wants_part" (.bl wp) (BQ "waiting" (.ref lw) (BQ "steps" (.ref ls) []))
def Qn (ls lw:Xd) (wp:Bool):(gW ls lw wp).lookup ("steps" : Str)=some (.ref ls):=by
 unfold gW;rw[AX,Zr TL,AX,Zr (Ne.symm TN),AX,Zq rfl]
def EI (ls lw:Xd) (wp:Bool):(gW ls lw wp).lookup ("waiting" : Str)=some (.ref lw):=by
 unfold gW;rw[AX,Zr TM,AX,Zq rfl]
def EJ (ls lw:Xd) (wp:Bool):(gW ls lw wp).lookup ("wants_part" : Str)=some (.bl wp):=by
 unfold gW;rw[AX,Zq rfl]
def Bi (ls lw:Xd) (wp:Bool) {m:Str} (h1:¬ m = "steps" := by decide +kernel) (h2:¬ m = "waiting" := by decide +kernel) (h3:¬ m = "wants_part" := by decide +kernel):(gW ls lw wp).lookup m=none:=by
 unfold gW;rw[AX,Zr h3,AX,Zr h2,AX,Zr h1];rfl
def Ny (ls lw:Xd) (wp b:Bool):BQ "wants_part" (.bl b) (gW ls lw wp)=gW ls lw b:=by
 unfold gW;simp[BQ,TL,TM,Ne.symm TN]
structure aW (DC:Xd) (H:Hp) (p ls lw:Xd) (ss ws:Xa) (wp:Bool):Prop where
 ex:∃dx,H p=some (.ins DC dx (gW ls lw wp))
 hs:H ls=some (.lst (ss.map V.str))
 hw:H lw=some (.lst (ws.map V.str))
 ne:ls≠lw
def gz (p ls lw:Xd) (H H':Hp):Prop:=∀b o,H b=some o->b≠p->b≠ls->b≠lw->H' b=some o
def gz.refl (p ls lw:Xd) (H:Hp):gz p ls lw H H:=λ_ _ e _ _ _=>e
def aW.np {DC:Xd}{p ls lw:Xd}{ss ws:Xa}{wp:Bool} (h:aW DC H p ls lw ss ws wp):ls≠p/\lw≠p:=by
 obtain⟨dx,hp⟩:=h.ex;have h1:=h.hs;have h2:=h.hw;exact⟨λz=>(by rw[z,hp]at h1;cases h1),λz=>(by rw[z,hp]at h2;cases h2)⟩
def aW.steps {DC:Xd}{p ls lw:Xd}{ss ws:Xa}{wp:Bool} (ss':Xa) (h:aW DC H p ls lw ss ws wp):aW DC (upd H ls (.lst (ss'.map V.str))) p ls lw ss' ws wp:=by
 obtain⟨dx,hp⟩:=h.ex;exact⟨⟨dx,by rw[AH (Ne.symm h.np.1)];exact hp⟩,AB,by rw[AH (Ne.symm h.ne)];exact h.hw,h.ne⟩
def aW.waits {DC:Xd}{p ls lw:Xd}{ss ws:Xa}{wp:Bool} (ws':Xa) (h:aW DC H p ls lw ss ws wp):aW DC (upd H lw (.lst (ws'.map V.str))) p ls lw ss ws' wp:=by
 obtain⟨dx,hp⟩:=h.ex;exact⟨⟨dx,by rw[AH (Ne.symm h.np.2)];exact hp⟩,by rw[AH h.ne];exact h.hs,AB,h.ne⟩
def aW.wants {DC:Xd}{p ls lw dx:Xd}{ss ws:Xa}{wp:Bool} (b:Bool) (h:aW DC H p ls lw ss ws wp):aW DC (upd H p (.ins DC dx (gW ls lw b))) p ls lw ss ws b :=
 ⟨⟨dx,AB⟩,by rw[AH h.np.1];exact h.hs,by rw[AH h.np.2];exact h.hw,h.ne⟩
def Nz (ls lw:Xd) (wp:Bool):(gW ls lw wp).length<1000:=by
 have h1:=A6 "wants_part" (.bl wp) (BQ "waiting" (.ref lw) (BQ "steps" (.ref ls) []));have h2:=A6 "waiting" (.ref lw) (BQ "steps" (.ref ls) []);have h3:=A6 "steps" (.ref ls) [];have h4:([]:List (Str×V)).length=0:=rfl;unfold gW;omega
section
variable {DC bd:Xd}
inductive spTP (DC:Xd) (vs:Xc) (H:Hp) (Q:VK) (_E:XK):Prop where
 |mk (p ls lw:Xd) (ss ws:Xa) (wp:Bool) (x:Str) (cD:vs=[.ref p,.str x]) (cG:aW DC H p ls lw ss ws wp) (cI:ss.length<=400) (cY:∀H',gz p ls lw H H'->aW DC H' p ls lw (ss++[x]) ws false->Q .aI H')
def W3:AN ["self", "part"] ["self", "part"] (defScope CN):=cQ
def Vq {f:Xd} (F:aV K "take_part" "Reading.take_part" CN f fd) (DT:IV K DC):AU P w K mg base aK 1 f fd ["self", "part"] (spTP DC):=by
 refine F.m W3 λvs H Q E h=>?_;obtain⟨p,ls,lw,ss,ws,wp,x,rfl,R,h100,q⟩:=h;refine⟨Zj,λad A outer s hr=>?_⟩;obtain⟨dx,hp⟩:=id R.ex;refine⟨_,AF (A4 (DL PySem.F.plainAttrs_list PySem.F.slot_list_append PySem.F.type_list_append BK (BI (pv 0) Zj) (AA (pv 1) AC))) (AG (C8 (pv 0) By Zj)),?_⟩;refine⟨_,Zj,p,DC,dx,_,_,Zj,hp,DT.cl,DT.nS,Qn _ _ _,.inl ⟨Zj,_,aN.of R.hs⟩,_,Zj,ls,_,_,Zj,Zj,R.hs,AK (by rw[AS];omega),?_⟩;have R1:=R.steps (ss++[x]);rw[Zv]at R1;have e1:(upd H ls (.lst (ss.map V.str++[x].map V.str))) p=some (.ins DC dx (gW ls lw wp)):=by rw[AH (Ne.symm R.np.1)];exact hp
 refine⟨_,Zj,p,DC,dx,_,Zj,e1,DT.cl,DT.nP,Nz _ _ _,?_⟩;rw[Ny];exact q _ (λb o e n1 n2 n3=>by rw[AH n1,AH n2];exact e) (R1.wants false)
inductive spRd0 (DC:Xd) (vs:Xc) (H:Hp) (Q:VK) (_E:XK):Prop where
 |mk (p dx:Xd) (cD:vs=[.ref p]) (cG:H p=some (.ins DC dx [])) (cI:∀ls lw H',(∀b o,H b=some o->b≠p->H' b=some o)->H ls=none->H lw=none->aW DC H' p ls lw [] [] true->Q .aI H')
def Vr:AN ["self"] ["self"] (defScope De):=cQ
def Uc {f:Xd} (F:aV K "__init__" "Reading.__init__" De f fd) (DT:IV K DC):AU P w K mg base aK 1 f fd ["self"] (spRd0 DC):=by
 refine F.m Vr λvs H Q E h=>?_;obtain⟨p,dx,rfl,hp,q⟩:=h;refine⟨Zj,λad A outer s hr=>?_⟩;refine⟨_,AF (C8 (pv 0) (A8 AC) Zj) (AF (C8 (pv 0) (A8 AC) Zj) (AG (C8 (pv 0) By Zj))),?_⟩;refine⟨(by show 0<=sizeLine;decide),λls hls=>?_⟩;have nls:p≠ls:=AJ hp hls;refine⟨_,Zj,p,DC,dx,_,Zj,by rw[AH nls];exact hp,DT.cl,DT.nS,(by show 0<1000;decide),?_⟩;refine⟨(by show 0<=sizeLine;decide),λlw hlw=>?_⟩;have nlp:p≠lw:=λz=>by rw[←z,AB]at hlw;cases hlw
 have cq:(upd H ls (.lst [])) lw=none:=by rw[AH (Ne.symm nlp)]at hlw;exact hlw
 have nll:ls≠lw:=λz=>by rw[←z,AB]at cq;cases cq
 have cr:H lw=none:=by rw[AH (Ne.symm nll)]at cq;exact cq
 refine⟨_,Zj,p,DC,dx,_,Zj,by rw[AH nlp,AB],DT.cl,DT.nW,Nat.lt_of_le_of_lt (A6 _ _ _) (by show 0+1<1000;decide),?_⟩;refine⟨_,Zj,p,DC,dx,_,Zj,AB,DT.cl,DT.nP,Nat.lt_of_le_of_lt (Nat.le_trans (A6 _ _ _) (Nat.succ_le_succ (A6 _ _ _))) (by show 0+1+1<1000;decide),?_⟩;refine q ls lw _ (λb o e hb=>?_) hls cr ⟨⟨dx,AB⟩,?_,?_,nll⟩
 ·rw[AH hb,AH hb,AH (AJ e cr),AH hb,AH (AJ e hls)];exact e
 ·rw[AH (Ne.symm nls),AH (Ne.symm nls),AH nll,AH (Ne.symm nls),AB];rfl
 ·rw[AH (Ne.symm nlp),AH (Ne.symm nlp),AB];rfl
end
noncomputable abbrev sl (z:Str) (a b:Nat):Str:=Txt.slice z (some (a:Int)) (some (b:Int))
inductive Sg |br |or |xo |an |no
deriving DecidableEq
noncomputable def Sg.s:Sg->Str | .br => "(" | .or => "|" | .xo => "^" | .an => "&" | .no => "~"
noncomputable def Sg.b:Sg->Nat | .br=>0 | .or=>1 | .xo=>2 | .an=>3 | .no=>4
noncomputable def Sg.c:Sg->Nat | .br=>40 | .or=>124 | .xo=>94 | .an=>38 | .no=>126
def Sg.dv:Sg->Prop | .or=>True | .xo=>True | .an=>True |_=>False
noncomputable abbrev bG (W:List Sg):Xa:=W.map Sg.s
noncomputable def IW (W:List Sg):Nat:=match W.getLast? with |some s=>s.b |none=>0
inductive Out
 |ok (T:Xa)
 |bad (e:Nat)
inductive Stop (lt:Bool) (z:Str) (a c:Nat) (W:List Sg):Bool->Prop
 |ahead (p:IK lt z a 0) (h1:c≠32) (h2:c≠126) (h3:c≠40):Stop lt z a c W true
 |between (h1:c≠32) (h2:c≠38) (h3:c≠94) (h4:c≠124) (h5:c≠41):Stop lt z a c W false
 |close (h1:c=41) (h:∀q∈W,1<=q.b):Stop lt z a c W false
inductive Rn (lt:Bool) (z:Str) (o:Out):Nat->Xa->List Sg->Bool->Prop
 |done (S:Xa) (Q:List Sg) (h:∀q∈Q,1<=q.b) (e:o=.ok (S++(bG Q).reverse)):Rn lt z o z.length S Q false
 |blank (a:Nat) (S:Xa) (W:List Sg) (wp:Bool) (h:z.cps.toList[a]?=some 32) (r:Rn lt z o (a+1) S W wp):Rn lt z o a S W wp
 |part (a n:Nat) (S:Xa) (W:List Sg) (h:IK lt z a n) (hn:0<n) (r:Rn lt z o (a+n) (S++[sl z a (a+n)]) W false):Rn lt z o a S W true
 |ahead (a:Nat) (S:Xa) (W:List Sg) (g:Sg) (hg:g=.no\/g=.br) (h:z.cps.toList[a]?=some g.c) (r:Rn lt z o (a+1) S (W++[g]) true):Rn lt z o a S W true
 |join (a:Nat) (S:Xa) (W Q:List Sg) (g:Sg) (hg:g.dv) (h:z.cps.toList[a]?=some g.c) (hq:∀q∈Q,g.b<=q.b) (hw:IW W<g.b) (r:Rn lt z o (a+1) (S++(bG Q).reverse) (W++[g]) true):Rn lt z o a S (W++Q) false
 |close (a:Nat) (S:Xa) (W Q:List Sg) (h:z.cps.toList[a]?=some 41) (hq:∀q∈Q,1<=q.b) (r:Rn lt z o (a+1) (S++(bG Q).reverse) W false):Rn lt z o a S ((W++[.br])++Q) false
 |stop (a c:Nat) (S:Xa) (W:List Sg) (wp:Bool) (h:z.cps.toList[a]?=some c) (hs:Stop lt z a c W wp) (e:o=.bad a):Rn lt z o a S W wp
 |ends (S:Xa) (W:List Sg) (wp:Bool) (hw:wp=true\/∃W1 W2,W=(W1++[.br])++W2/\∀q∈W2,1<=q.b) (e:o=.bad z.length):Rn lt z o z.length S W wp
inductive Tr
 |wd (x:Str)
 |ng (t:Tr)
 |bn (g:Sg) (a b:Tr)
noncomputable def Tr.post:Tr->Xa
 | .wd x=>[x]
 | .ng t=>t.post++[("~" : Str)]
 | .bn g a b=>a.post++b.post++[g.s]
abbrev Bk (u:List Nat):Prop:=u=[]\/u=[32]
structure jS (lt:Bool) (w:List Nat):Prop where
 ne:0<w.length
 ok:∀k,0<k->k<=w.length->∀x:Str,x.cps.toList=w.take k->EH lt x=true
inductive Wr (lt:Bool):Tr->Nat->List Nat->Prop
 |wd (x:Str) (r:Nat) (bl:List Nat) (hb:Bk bl) (h:jS lt x.cps.toList):Wr lt (.wd x) r (bl++x.cps.toList)
 |ng (t:Tr) (r:Nat) (u:List Nat) (hr:r<=3) (h:Wr lt t 3 u):Wr lt (.ng t) r (126::u)
 |bn (g:Sg) (a b:Tr) (r:Nat) (u v bl:List Nat) (hg:g.dv) (hr:r+1<=g.b) (hb:Bk bl) (ha:Wr lt a (g.b - 1) u) (hv:Wr lt b g.b v):Wr lt (.bn g a b) r (u++(bl++(g.c::v)))
 |br (t:Tr) (r:Nat) (u bl:List Nat) (hb:Bk bl) (h:Wr lt t 0 u):Wr lt t r (bl++(40::(u++[41])))
def Sep (u:List Nat):Prop:=∀c,u.head?=some c->BC c=false/\Ax c=false
def Qo {lt:Bool}{w:List Nat}{c:Nat}{x:Str} (hc:BC c=false/\Ax c=false) (h:x.cps.toList=w++[c]) (hw:w≠ []\/Bo c=false):EH lt x=false:=by
 have h1:Bv x=false:=by
  unfold Bv
  have:x.cps.toList.all BC=false:=by
   rw[h,all_append];simp[hc.1]
  rw[this,Bool.and_false]
 have h2:Gg x=false:=by
  unfold Gg
  have:x.cps.toList.all Ax=false:=by
   rw[h,all_append];simp[hc.2]
  rw[this,Bool.false_and]
 have h3:BP x=false:=by
  unfold BP;rw[h];cases w with
  |nil=>rcases hw with z |z
        ·exact absurd Zj z
        ·exact z
  |cons a r=>cases r <;> rfl
 unfold EH;rw[h1,h2,h3];cases lt <;> rfl
def EV {x y:Str} (h:x.cps.toList=y.cps.toList):x=y:=by
 cases x with
 |mk a=>cases y with
  |mk b =>
   have:a=b:=by
    have:=congrArg List.toArray h;simpa using this
   rw[this]
def Vs {lt:Bool}{z:Str}{pre w post:List Nat} (hz:z.cps.toList=pre++(w++post)) (hw:jS lt w) (hp:Sep post):IK lt z pre.length w.length/\sl z pre.length (pre.length+w.length)=⟨w.toArray⟩:=by
 have ba:z.length=pre.length+(w.length+post.length):=by rw[←Ae,hz,ZI,ZI]
 have hs:∀k,k<=w.length+post.length->(sl z pre.length (pre.length+k)).cps.toList=(w++post).take k:=λk hk=>by
  rw[Ce z qe qe,hz,List.drop_left,Nat.add_sub_cancel_left]
 refine⟨⟨qe,λk h0 hk=>?_,λaL=>?_⟩,?_⟩
 ·refine hw.ok k h0 hk _ ?_;rw[hs k qe,List.take_append_of_le_length hk]
 ·cases post with
  |nil=>simp at ba;omega
  |cons c r =>
   refine Qo (w:=w) (c:=c) (hp c Zj) ?_ (.inl λz=>by have:=hw.ne;rw[z]at this;exact absurd this qc);have:=hs (w.length+1) (by simp);rw[show pre.length+w.length+1=pre.length+(w.length+1) by omega,this,List.take_append];simp;exact take_of_length_le qe
 ·refine EV ?_;rw[hs w.length qe,List.take_left]
def Gh {z:Str}{pre post:List Nat}{c:Nat} (hz:z.cps.toList=pre++c::post):z.cps.toList[pre.length]?=some c:=by
 rw[hz,getElem?_append_right (Zz _),Nat.sub_self];rfl
def Co (W:List Sg) (g:Sg):IW (W++[g])=g.b:=by
 unfold IW;rw[List.getLast?_append];rfl
def Qp {lt:Bool}{z:Str}{o:Out}{bl pre post:List Nat}{S:Xa}{W:List Sg}{wp:Bool} (hb:Bk bl) (hz:z.cps.toList=pre++(bl++post)) (r:Rn lt z o (pre++bl).length S W wp):Rn lt z o pre.length S W wp:=by
 rcases hb with rfl |rfl
 ·rwa[Zu]at r
 ·exact .blank _ _ _ _ (Gh hz) (by simpa using r)
def Sep.of {c:Nat}{r:List Nat} (h:BC c=false/\Ax c=false):Sep (c::r):=λd hd=>by cases hd;exact h
def Sep.bk {bl u:List Nat} (hb:Bk bl) (h:Sep u):Sep (bl++u):=by
 rcases hb with rfl |rfl
 ·exact h
 ·exact Sep.of ⟨Zj,Zj⟩
def Sep.sg {g:Sg}{r:List Nat}:Sep (g.c::r):=Sep.of (by cases g <;> exact⟨rfl,rfl⟩)
def Qq {lt:Bool}{z:Str}{o:Out}{t:Tr}{r:Nat}{u:List Nat} (hW:Wr lt t r u):∀ {pre f7:List Nat}{S:Xa}{W:List Sg},z.cps.toList=pre++(u++f7)->Sep f7->(r<3->IW W<=r) ->
  (∀(S':Xa) (Q:List Sg),(∀q∈Q,r+1<=q.b)->S'++(bG Q).reverse=S++t.post->Rn lt z o (pre++u).length S' (W++Q) false)->Rn lt z o pre.length S W true:=by
 induction hW with
 |wd x r bl hb h =>
  intro pre f7 S W hz hs hw k;rw[List.append_assoc]at hz;refine Qp hb hz ?_;obtain⟨p1,p2⟩:=Vs (z:=z) (pre:=pre++bl) (w:=x.cps.toList) (post:=f7) (by rw[hz,List.append_assoc]) h hs;refine .part _ _ _ _ p1 h.ne ?_;rw[p2,show(⟨x.cps.toList.toArray⟩:Str)=x from rfl];have:=k (S++[x]) [] (λq hq=>nomatch hq) (by show S++[x]++[]=S++[x];rw[Zu]);rw[Zu]at this;rw[←List.append_assoc,ZI]at this;exact this
 |ng t r u hr h ih =>
  intro pre f7 S W hz hs hw k;refine .ahead _ _ _ .no (.inl Zj) (Gh (post:=u++f7) (by rw[hz];rfl)) ?_;have:=ih (pre:=pre++[126]) (f7:=f7) (S:=S) (W:=W++[.no]) (by rw[hz];simp) hs (λh=>absurd h qc) (λS' Q hq e=>?_)
  ·simpa using this
  ·have:=k S' (.no::Q) (λq fv=>by
    rcases mem_cons.mp fv with rfl |h
    ·show r+1<=4;omega
    ·have:=hq q h;omega) (by
    show S'++(Sg.no.s::bG Q).reverse=S++(t.post++[("~" : Str)]);rw[List.reverse_cons,←List.append_assoc,e,List.append_assoc]
    rfl)
   rw[show W++[Sg.no]++Q=W++(.no::Q) by simp];simpa using this
 |bn g a b r u v bl hg hr hb ha hv iha ihb =>
  intro pre f7 S W hz hs hw k;have hg1:1<=g.b:=by cases g <;> first |exact hg.elim |decide
  have hg3:g.b<=3:=by cases g <;> first |exact hg.elim |decide
  have hw':=hw qe;refine iha (f7:=bl++(g.c::(v++f7))) (by rw[hz];simp) (Sep.bk hb Sep.sg) (λ_=>qe) λS1 Q1 h1 e1=>?_;refine Qp (pre:=pre++u) (post:=g.c::(v++f7)) hb (by rw[hz];simp) ?_;refine .join _ _ _ _ g hg (Gh (post:=v++f7) (by rw[hz];simp)) (λq hq=>by have:=h1 q hq;omega) qe ?_;rw[e1];have:=ihb (pre:=pre++u++bl++[g.c]) (f7:=f7) (S:=S++a.post) (W:=W++[g]) (by rw[hz];simp) hs (λ_=>by rw[Co];exact Zz _) λS2 Q2 h2 e2=>?_
  ·have el:(pre++u++bl++[g.c]).length=(pre++u++bl).length+1:=by simp;omega
   rw[el]at this;exact this
  ·have:=k S2 (g::Q2) (λq fv=>by
    rcases mem_cons.mp fv with rfl |h
    ·exact hr
    ·have:=h2 q h;omega) (by
    show S2++(g.s::bG Q2).reverse=S++(a.post++b.post++[g.s]);rw[List.reverse_cons,←List.append_assoc,e2]
    simp)
   rw[show W++[g]++Q2=W++(g::Q2) by simp];have el:(pre++u++bl++[g.c]++v).length=(pre++(u++(bl++g.c::v))).length:=by simp
   rw[el];exact this
 |br t r u bl hb h ih =>
  intro pre f7 S W hz hs hw k;rw[List.append_assoc]at hz;refine Qp hb hz ?_;refine .ahead _ _ _ .br (.inr Zj) (Gh (post:=u++41::f7) (by rw[hz];simp[Sg.c])) ?_;have:=ih (pre:=pre++bl++[40]) (f7:=41::f7) (S:=S) (W:=W++[.br]) (by rw[hz];simp) (Sep.of ⟨rfl,rfl⟩) (λ_=>by rw[Co];exact Zz _) (λS' Q hq e=>?_)
  ·have el:(pre++bl++[40]).length=(pre++bl).length+1:=by simp;omega
   rw[el]at this;exact this
  ·refine .close _ _ _ _ (Gh (post:=f7) (by rw[hz];simp)) (λq h=>by have:=hq q h;omega) ?_;rw[e];have:=k (S++t.post) [] (λq hq=>nomatch hq) (by show _++[]=_;rw[Zu]);rw[Zu]at this;have el:(pre++(bl++40::(u++[41]))).length=(pre++bl++[40]++u).length+1:=by simp;omega
   rw[el]at this;exact this
def LV {lt:Bool}{z:Str}{t:Tr} (h:Wr lt t 0 z.cps.toList):Rn lt z (.ok t.post) 0 [] [] true:=by
 refine Qq h (pre:=[]) (f7:=[]) (by simp) (λc hc=>nomatch hc) (λ_=>qc) λS' Q hq e=>?_;have el:([]++z.cps.toList:List Nat).length=z.length:=by rw[nil_append,Ae]
 rw[el,nil_append];exact .done _ _ (λq h=>hq q h) (by rw[e];rfl)
def Ud {lt:Bool}{z:Str}{t:Tr}{u:List Nat} (h:Wr lt t 0 u) (hz:z.cps.toList=u++[124]):Rn lt z (.bad z.length) 0 [] [] true:=by
 refine Qq h (pre:=[]) (f7:=[124]) (by simpa using hz) (Sep.of ⟨Zj,Zj⟩) (λ_=>qc) λS' Q hq e=>?_;rw[nil_append];refine .join _ _ [] Q .or True.intro (Gh (post:=[]) hz) (λq h=>hq q h) qc ?_;have el:u.length+1=z.length:=by rw[←Ae,hz,ZI];rfl
 rw[nil_append,el];exact .ends _ _ _ (.inl Zj) rfl
noncomputable def Bd:LK:=[((Sum.inr "(" : Key),.int 0),(Sum.inr "|", .int 1),(Sum.inr "^", .int 2),(Sum.inr "&", .int 3),(Sum.inr "~", .int 4)]
def N0 (g:Sg):BW Bd (Sum.inr g.s:Key)=some (.int (g.b:Int)):=by cases g <;> decide +kernel
def Vt {DC p ls lw bd:Xd}{ss ws:Xa}{wp:Bool}{kvs:LK} (R:aW DC H p ls lw ss ws wp) (s:gz p ls lw H H') (h:Rd H bd (.dK kvs)):Rd H' bd (.dK kvs):=by
 obtain⟨dx,hp⟩:=R.ex
 have ne:∀ {o:HO},H bd=some o->(∀xs,o≠ .lst xs)->(∀a b c,o≠ .ins a b c)->bd≠p/\bd≠ls/\bd≠lw:=λ{o} e h1 h2=>by
  refine⟨λz=>?_,λz=>?_,λz=>?_⟩
  ·rw[z,hp]at e;cases e;exact h2 _ _ _ rfl
  ·rw[z,R.hs]at e;cases e;exact h1 _ rfl
  ·rw[z,R.hw]at e;cases e;exact h1 _ rfl
 rcases h with h |⟨o,h⟩
 ·obtain⟨a,b,c⟩:=ne h (λ_ z=>nomatch z) (λ_ _ _ z=>nomatch z);exact .inl (s _ _ h a b c)
 ·obtain⟨a,b,c⟩:=ne h (λ_ z=>nomatch z) (λ_ _ _ z=>nomatch z);exact .inr ⟨o,s _ _ h a b c⟩
def LX (L:List Sg) (g:Sg):gT ((bG (L++[g])).map V.str) (-1)=some (V.str g.s)/\((bG (L++[g])).map V.str)[((bG (L++[g])).map V.str).length - 1]?=some (V.str g.s)/\((bG (L++[g])).map V.str).dropLast=(bG L).map V.str:=by
 have e:(bG (L++[g])).map V.str=(bG L).map V.str++[V.str g.s]:=by simp[bG]
 rw[e];refine⟨?_,?_,?_⟩
 ·unfold gT
  have e2:ib ((bG L).map V.str++[V.str g.s]).length (-1)=some ((bG L).map V.str).length:=by
   rw[ZI,length_singleton];unfold ib;simp;omega
  rw[e2];show((bG L).map V.str++[V.str g.s])[((bG L).map V.str).length]?=_;rw[getElem?_append_right (Zz _),Nat.sub_self];rfl
 ·rw[ZI,length_singleton,Nat.add_sub_cancel,getElem?_append_right (Zz _),Nat.sub_self];rfl
 ·exact List.dropLast_concat
section
variable {DC bd:Xd}
inductive spSet (DC bd:Xd) (vs:Xc) (H:Hp) (Q:VK) (_E:XK):Prop where
 |mk (p ls lw:Xd) (ss:Xa) (W G:List Sg) (b:Nat) (wp:Bool) (cD:vs=[.ref p,.int (b:Int)]) (cG:aW DC H p ls lw ss (bG (W++G)) wp) (cI:ss.length+(W.length+G.length)<=400) (cY:Rd H bd (.dK Bd))
  (d5:∀q∈G,b<=q.b) (fk:W=[]\/IW W<b) (jh:∀H',gz p ls lw H H'->aW DC H' p ls lw (ss++(bG G).reverse) (bG W) wp->Q .aI H')
def Vu:AN ["self", "binding"] ["self", "binding"] (defScope Ct):=cQ
def Ue {f:Xd} (F:aV K "settle" "Reading.settle" Ct f fd) (B:Bl mg) (DT:IV K DC) (mB:mg "BINDING" = some (.ref bd)):AU P w K mg base aK 1 f fd ["self", "binding"] (spSet DC bd):=by
 refine F.m Vu λvs H Q E h=>?_;obtain⟨p,ls,lw,ss,W,G,b,wp,rfl,R,h400,hB,hG,hW,q⟩:=h;refine⟨Zj,λad A outer s hr=>?_⟩;have hu:=Dz hr
 refine⟨_,AG (FC PassesOwn.never (PW.pt (Bt (AL FF (AW (BV K Zj) Zj B.len PySem.boot_len (AA (BI (pv 0) Zj) AC)) AE (AO _)) (BX (AL Gk (EN hu (BH (v:=.ref bd) Zj mB Zj) (BJ (Au K Zj) (BI (pv 0) Zj) (FD Ej AE) (λ_ _=>rfl)) (λ_ _=>rfl)) (pv 1) (AO _)))))
  (AG (A4 (DL PySem.F.plainAttrs_list PySem.F.slot_list_append PySem.F.type_list_append BK (BI (pv 0) rfl) (AA (HL PySem.F.plainAttrs_list PySem.F.slot_list_pop PySem.F.type_list_pop Jg (BI (pv 0) rfl)) AC))))),?_⟩
 refine⟨λm σ H2=>σ=[some (.ref p),some (.int (b:Int))]/\∃G1 G2,G=G1++G2/\G1.length=m/\gz p ls lw H H2/\aW DC H2 p ls lw (ss++(bG G2).reverse) (bG (W++G1)) wp,⟨G.length,Zj,G,[],(Zu _).symm,Zj,gz.refl _ _ _ _,by simpa using R⟩,?_⟩;rintro m σ H2 ⟨rfl,G1,G2,eG,em,s2,R2⟩;obtain⟨dx,hp⟩:=id R2.ex;refine⟨_,Zj,p,DC,dx,_,_,Zj,hp,DT.cl,DT.nW,EI _ _ _,lw,_,Zj,.inl (aN.of R2.hw),_,_,Zj,Zj,_,Zj,?_⟩;have ba:((bG (W++G1)).map V.str).length=(W++G1).length:=by simp[bG]
 rw[ba];rcases List.eq_nil_or_concat (W++G1)with e |⟨L,g,e⟩
 ·have e1:=List.append_eq_nil_iff.mp e;rw[e,ZP (show ¬ (([]:List Sg).length:Int)>0 by simp)];refine AT (AT (q _ s2 ?_));rw[e1.2]at eG R2;rw[eG];simpa[e1.1]using R2
 ·rw[List.concat_eq_append]at e;rw[ZM (show((W++G1).length:Int)>0 by rw[e,ZI,length_singleton];omega)];refine Ac ?_;have hsl:=LX L g;rw[←e]at hsl;obtain⟨hat,dc,de⟩:=hsl;refine⟨_,rfl,p,DC,dx,_,_,rfl,hp,DT.cl,DT.nW,EI _ _ _,_,rfl,lw,_,-1,.str g.s,rfl,rfl,aN.of R2.hw,hat,bd,.int (g.b:Int),rfl,.inl ⟨_,Sum.inr g.s,Vt R s2 hB,rfl,(N0 g).symm⟩,_,rfl,_,_,rfl,rfl,_,rfl,?_⟩;rcases List.eq_nil_or_concat G1 with e1 |⟨G0,g',e1⟩
  ·-- all are settled
   subst e1;rw[Zu]at e
   have hb:¬ ((g.b:Int) ≥ (b:Int)):=by
    rcases hW with z |z
    ·rw[z]at e;have:=congrArg List.length e;simp at this
    ·rw[e,Co]at z;omega
   rw[ZP hb];refine AT (q _ s2 ?_);rw[eG];simpa using R2
  ·rw[List.concat_eq_append]at e1;subst e1;have e3:W++(G0++[g'])=L++[g]:=e;rw[←List.append_assoc]at e3;obtain⟨eL,eg⟩:=List.append_inj' e3 rfl;have eg':g'=g:=by simpa using eg
   subst eg'
   have hb:(g'.b:Int) ≥ (b:Int):=by
    have:=hG g' (by rw[eG];simp);omega
   rw[ZM hb];refine Ac ⟨λσ H3=>σ=[some (.ref p),some (.int (b:Int))]/\gz p ls lw H H3/\aW DC H3 p ls lw (ss++(bG ([g']++G2)).reverse) (bG (W++G0)) wp,λaJ H' ⟨e,s',R'⟩=>⟨G0.length,by rw[←em,ZI];exact Nat.lt_succ_self _,e,G0,[g']++G2,by rw[eG,List.append_assoc],Zj,s',R'⟩,?_⟩;refine⟨_,Zj,p,DC,dx,_,_,Zj,hp,DT.cl,DT.nS,Qn _ _ _,.inl ⟨Zj,_,aN.of R2.hs⟩,_,Zj,p,DC,dx,_,_,Zj,hp,DT.cl,DT.nW,EI _ _ _,.inl ⟨Zj,_,aN.of R2.hw⟩,lw,_,.str g'.s,Zj,Zj,R2.hw,dc,?_⟩;rw[de,←eL];have es:ss++(bG G2).reverse++[g'.s]=ss++(bG ([g']++G2)).reverse:=by simp[bG]
   have R3:=R2.waits (bG (W++G0));have R4:=R3.steps (ss++(bG ([g']++G2)).reverse);refine⟨ls,_,_,Zj,Zj,R3.hs,AK ?_,Zj,λb o e n1 n2 n3=>?_,?_⟩
   ·have h1:=congrArg List.length eG;simp only[ZI,length_singleton]at h1;simp only[AS,ZI,List.length_reverse];omega
   ·rw[AH n2,AH n3];exact s2 b o e n1 n2 n3
   ·rw[←es,Zv]at R4;rw[←es];exact R4
inductive SgStep:Str->Xa->List Sg->Bool->Xa->List Sg->Bool->Prop
 |blank (S:Xa) (W:List Sg) (wp:Bool):SgStep " " S W wp S W wp
 |ahead (S:Xa) (W:List Sg) (g:Sg) (hg:g=.no\/g=.br):SgStep g.s S W true S (W++[g]) true
 |join (S:Xa) (W G:List Sg) (g:Sg) (hg:g.dv) (hq:∀q∈G,g.b<=q.b) (hw:IW W<g.b):SgStep g.s S (W++G) false (S++(bG G).reverse) (W++[g]) true
 |close (S:Xa) (W G:List Sg) (hq:∀q∈G,1<=q.b):SgStep ")" S ((W++[.br])++G) false (S++(bG G).reverse) W false
inductive spTB (DC bd:Xd) (vs:Xc) (H:Hp) (Q:VK) (_E:XK):Prop where
 |mk (p ls lw:Xd) (ss:Xa) (W G:List Sg) (g:Sg) (cD:vs=[.ref p,.str g.s]) (cG:g.dv) (cI:aW DC H p ls lw ss (bG (W++G)) false) (cY:ss.length+(W.length+G.length)<=390) (d5:Rd H bd (.dK Bd))
  (fk:∀q∈G,g.b<=q.b) (jh:IW W<g.b) (z_7:∀H',gz p ls lw H H'->aW DC H' p ls lw (ss++(bG G).reverse) (bG (W++[g])) true->Q (.bl true) H')
 |no (p:Xd) (x:Str) (cD:vs=[.ref p,.str x]) (cG:x≠ "&") (cI:x≠ "^") (cY:x≠ "|") (d5:Q (.bl false) H)
def W6:AN ["self", "sign"] ["self", "sign"] (defScope Bh):=cQ
def Sd {g:Sg} (h:g.dv):(if true=true then !dz (V.str g.s) [V.str "&", V.str "^", V.str "|"]else dz (V.str g.s) [V.str "&", V.str "^", V.str "|"])=false:=by
 cases g <;> first |exact h.elim |decide +kernel
def Se {x:Str} (h1:x≠ "&") (h2:x≠ "^") (h3:x≠ "|"):(if true=true then !dz (V.str x) [V.str "&", V.str "^", V.str "|"]else dz (V.str x) [V.str "&", V.str "^", V.str "|"])=true:=by
 rw[Zq rfl];unfold dz;simp[iY,h1,h2,h3,Ne.symm h1,Ne.symm h2,Ne.symm h3]
def Vv {f jn:Xd} (F:aV K "take_between" "Reading.take_between" Bh f fd) (DT:IV K DC) (mB:mg "BINDING" = some (.ref bd)) (mJ:mg "JOINING" = some (.ref jn)) (hJ:∀H,bH K H jn [.str "&", .str "^", .str "|"]) (GS:Mt P w K mg base DC "settle" 1 ["self", "binding"] (spSet DC bd)) :
  AU P w K mg base aK 2 f fd ["self", "sign"] (spTB DC bd):=by
 obtain⟨fS,dS,GS,mS,bS⟩:=GS.ex;refine F.ok W6 (λvs H Q E h=>?_) (λad A outer s H vs Q E hr h=>?_)
 ·cases h with
  |mk p ls lw ss W G g e=>subst e;rfl
  |no p x e=>subst e;rfl
 ·have hu:=Dz hr
  refine⟨_,AF (Ak (AL FL (pv 1) (BH (v:=.ref jn) Zj mJ Zj) Zj) (AG (AQ By)) AV)
   (AF (A4 (Cz (pv 0) DT.cl mS GS hr bS .nil AR (AA (EN hu (BH (v:=.ref bd) rfl mB rfl) (pv 1) (λ_ _=>rfl)) AC)))
   (AF (A4 (DL PySem.F.plainAttrs_list PySem.F.slot_list_append PySem.F.type_list_append BK (BI (pv 0) rfl) (AA (pv 1) AC)))
   (AF (C8 (pv 0) By rfl)
   (AG (AQ By))))),?_⟩
  cases h with
  |no p x e h1 h2 h3 q =>
   subst e;refine⟨_,Zj,jn,_,Zj,.inr (hJ H),Zj,Zj,_,Zj,?_⟩;rw[Se h1 h2 h3];exact Ac q
  |mk p ls lw ss W G g e hg R h390 hB hq hw q =>
  subst e;obtain⟨dx,hp⟩:=id R.ex;refine⟨_,Zj,jn,_,Zj,.inr (hJ H),Zj,Zj,_,Zj,?_⟩;rw[Sd hg];refine AT ?_;refine⟨_,Zj,p,dx,_,Zj,hp,Bi _ _ _,_,Zj,bd,.int (g.b:Int),Zj,.inl ⟨_,Sum.inr g.s,hB,Zj,(N0 g).symm⟩,p,ls,lw,ss,W,G,g.b,false,Zj,R,qe,hB,hq,.inr hw,λH1 s1 R1=>?_⟩;obtain⟨iF,ak⟩:=id R1.ex;refine⟨_,Zj,p,DC,iF,_,_,Zj,ak,DT.cl,DT.nW,EI _ _ _,.inl ⟨Zj,_,aN.of R1.hw⟩,_,Zj,lw,_,_,Zj,Zj,R1.hw,AK (by simp only[AS];omega),?_⟩;have ew:(bG W).map V.str++[V.str g.s]=(bG (W++[g])).map V.str:=by simp[bG]
  have R2:aW DC (upd H1 lw (.lst ((bG (W++[g])).map V.str))) p ls lw (ss++(bG G).reverse) (bG (W++[g])) false:=R1.waits (bG (W++[g]));rw[ew];refine⟨_,Zj,p,DC,iF,_,Zj,by rw[AH (Ne.symm R1.np.2)];exact ak,DT.cl,DT.nP,Nz _ _ _,?_⟩;rw[Ny];exact q _ (λb o e n1 n2 n3=>by rw[AH n1,AH n3];exact s1 b o e n1 n2 n3) (R2.wants true)
inductive spTA (DC:Xd) (vs:Xc) (H:Hp) (Q:VK) (_E:XK):Prop where
 |mk (p ls lw:Xd) (ss:Xa) (W:List Sg) (g:Sg) (wp:Bool) (cD:vs=[.ref p,.str g.s]) (cG:g=.no\/g=.br) (cI:aW DC H p ls lw ss (bG W) wp) (cY:W.length<=390)
  (d5:∀H',gz p ls lw H H'->aW DC H' p ls lw ss (bG (W++[g])) wp->Q (.bl true) H')
 |no (p:Xd) (x:Str) (cD:vs=[.ref p,.str x]) (cG:x≠ "~") (cI:x≠ "(") (d5:Q (.bl false) H)
def W7:AN ["self", "sign"] ["self", "sign"] (defScope CA):=cQ
def Vw {f:Xd} (F:aV K "take_ahead" "Reading.take_ahead" CA f fd) (DT:IV K DC):AU P w K mg base aK 1 f fd ["self", "sign"] (spTA DC):=by
 refine F.ok W7 (λvs H Q E h=>?_) (λad A outer s H vs Q E hr h=>?_)
 ·cases h with
  |mk p ls lw ss W g wp e=>subst e;rfl
  |no p x e=>subst e;rfl
 ·refine⟨_,AF (Ak (PW.pt (Bt (AL Dj (pv 1) AI (AO _)) (BX (AL Dj (pv 1) AI (AO _))))) (AG (AQ By)) AV)
   (AF (A4 (DL PySem.F.plainAttrs_list PySem.F.slot_list_append PySem.F.type_list_append BK (BI (pv 0) rfl) (AA (pv 1) AC)))
   (AG (AQ By))),?_⟩
  cases h with
  |no p x e h1 h2 q =>
   subst e;refine⟨_,Zj,Zj,_,Zj,?_⟩;rw[ZP (show ¬ V.str x=V.str "~" from λz=>h1 (V.str.inj z))];refine Ac ⟨_,Zj,Zj,_,Zj,?_⟩;rw[ZP (show ¬ V.str x=V.str "(" from λz=>h2 (V.str.inj z))];exact Ac q
  |mk p ls lw ss W g wp e hg R h390 q =>
  subst e;obtain⟨dx,hp⟩:=id R.ex;refine⟨_,Zj,Zj,_,Zj,?_⟩;have ew:(bG W).map V.str++[V.str g.s]=(bG (W++[g])).map V.str:=by simp[bG]
  have R2:aW DC (upd H lw (.lst ((bG (W++[g])).map V.str))) p ls lw ss (bG (W++[g])) wp:=R.waits (bG (W++[g]));rcases hg with rfl |rfl
  ·rw[show decide (V.str Sg.no.s=V.str "~")=true by decide +kernel];refine AT (AT ?_);refine⟨_,Zj,p,DC,dx,_,_,Zj,hp,DT.cl,DT.nW,EI _ _ _,.inl ⟨Zj,_,aN.of R.hw⟩,_,Zj,lw,_,_,Zj,Zj,R.hw,AK (by simp only[AS];omega),?_⟩;rw[ew];exact q _ (λb o e n1 n2 n3=>by rw[AH n3];exact e) R2
  ·rw[show decide (V.str Sg.br.s=V.str "~")=false by decide +kernel];refine Ac ⟨_,Zj,Zj,_,Zj,?_⟩;rw[show decide (V.str Sg.br.s=V.str "(")=true by decide +kernel];refine AT ?_;refine⟨_,rfl,p,DC,dx,_,_,rfl,hp,DT.cl,DT.nW,EI _ _ _,.inl ⟨rfl,_,aN.of R.hw⟩,_,rfl,lw,_,_,rfl,rfl,R.hw,AK (by simp only[AS];omega),?_⟩;rw[ew];exact q _ (λb o e n1 n2 n3=>by rw[AH n3];exact e) R2
inductive spTC (DC bd:Xd) (vs:Xc) (H:Hp) (Q:VK) (_E:XK):Prop where
 |mk (p ls lw:Xd) (ss:Xa) (W G:List Sg) (wp:Bool) (cD:vs=[.ref p]) (cI:aW DC H p ls lw ss (bG ((W++[.br])++G)) wp) (cY:ss.length+(W.length+G.length)<=390) (d5:Rd H bd (.dK Bd))
  (fk:∀q∈G,1<=q.b) (z_7:∀H',gz p ls lw H H'->aW DC H' p ls lw (ss++(bG G).reverse) (bG W) wp->Q (.bl true) H')
 |no (p ls lw:Xd) (ss:Xa) (G:List Sg) (wp:Bool) (cD:vs=[.ref p]) (cI:aW DC H p ls lw ss (bG G) wp) (cY:ss.length+G.length<=390) (d5:Rd H bd (.dK Bd)) (fk:∀q∈G,1<=q.b) (z_7:∀H',gz p ls lw H H'->Q (.bl false) H')
def W8:AN ["self"] ["self"] (defScope CB):=cQ
def Vx {f:Xd}{tB:Tok} (F:aV K "take_close" "Reading.take_close" CB f fd) (B:Bl mg) (DT:IV K DC) (mL:mg "LEAST_BINDING" = some (.int 1 tB)) (GS:Mt P w K mg base DC "settle" 1 ["self", "binding"] (spSet DC bd)):AU P w K mg base aK 2 f fd ["self"] (spTC DC bd):=by
 obtain⟨fS,dS,GS,mS,bS⟩:=GS.ex;refine F.ok W8 (λvs H Q E h=>?_) (λad A outer s H vs Q E hr h=>?_)
 ·cases h with
  |mk p ls lw ss W G wp e=>subst e;rfl
  |no p ls lw ss G wp e=>subst e;rfl
 ·refine⟨_,AF (A4 (Cz (pv 0) DT.cl mS GS hr bS .nil AR (AA (BH (v:=.int 1) Zj mL ⟨tB,Zj⟩) AC)))
   (AF (Ak (AL A7 (AW (BV K rfl) rfl B.len PySem.boot_len (AA (BI (pv 0) rfl) AC)) AE (AO _)) (AG (AQ By)) AV)
   (AF (A4 (HL PySem.F.plainAttrs_list PySem.F.slot_list_pop PySem.F.type_list_pop Jg (BI (pv 0) rfl)))
   (AG (AQ By)))),?_⟩
  cases h with
  |no p ls lw ss G wp e R h390 hB hq q =>
   subst e;obtain⟨dx,hp⟩:=id R.ex;refine⟨_,Zj,p,dx,_,Zj,hp,Bi _ _ _,p,ls,lw,ss,[],G,1,wp,Zj,R,by show _+(0+_)<=400;omega,hB,hq,.inl Zj,λH1 s1 R1=>?_⟩;obtain⟨iF,ak⟩:=id R1.ex;refine⟨_,Zj,p,DC,iF,_,_,Zj,ak,DT.cl,DT.nW,EI _ _ _,lw,_,Zj,.inl (aN.of R1.hw),Zj,_,Zj,?_⟩;exact Ac (q _ s1)
  |mk p ls lw ss W G wp e R h390 hB hq q =>
  subst e;obtain⟨dx,hp⟩:=id R.ex;refine⟨_,Zj,p,dx,_,Zj,hp,Bi _ _ _,p,ls,lw,ss,W++[.br],G,1,wp,Zj,R,by rw[ZI,length_singleton];omega,hB,hq,.inr (by rw[Co];decide),λH1 s1 R1=>?_⟩;obtain⟨iF,ak⟩:=id R1.ex;obtain⟨hat,dc,de⟩:=LX W .br;refine⟨_,Zj,p,DC,iF,_,_,Zj,ak,DT.cl,DT.nW,EI _ _ _,lw,_,Zj,.inl (aN.of R1.hw),Zj,_,Zj,?_⟩
  rw[ZP (λz=>by
   have:=V.int.inj z;simp only[AS,ZI,length_singleton]at this
   omega)]
  refine AT ?_;refine⟨_,Zj,p,DC,iF,_,_,Zj,ak,DT.cl,DT.nW,EI _ _ _,.inl ⟨Zj,_,aN.of R1.hw⟩,lw,_,.str Sg.br.s,Zj,Zj,R1.hw,dc,?_⟩;rw[de];exact q _ (λb o e n1 n2 n3=>by rw[AH n3];exact s1 b o e n1 n2 n3) (R1.waits (bG W))
inductive StopX (x:Str) (W:List Sg):Bool->Prop
 |ahead (h1:x≠ " ") (h2:x≠ "~") (h3:x≠ "("):StopX x W true
 |between (h1:x≠ " ") (h2:x≠ "&") (h3:x≠ "^") (h4:x≠ "|") (h5:x≠ ")"):StopX x W false
 |close (h1:x = ")") (h:∀q∈W,1<=q.b):StopX x W false
inductive spTS (DC bd:Xd) (vs:Xc) (H:Hp) (Q:VK) (_E:XK):Prop where
 |mk (p ls lw:Xd) (x:Str) (S S':Xa) (W W':List Sg) (wp g9:Bool) (cD:vs=[.ref p,.str x]) (cG:aW DC H p ls lw S (bG W) wp) (cI:SgStep x S W wp S' W' g9) (cY:S.length+W.length<=380) (d5:Rd H bd (.dK Bd))
  (fk:∀H',gz p ls lw H H'->aW DC H' p ls lw S' (bG W') g9->Q (.bl true) H')
 |no (p ls lw:Xd) (x:Str) (S:Xa) (W:List Sg) (wp:Bool) (cD:vs=[.ref p,.str x]) (cG:aW DC H p ls lw S (bG W) wp) (cI:StopX x W wp) (cY:S.length+W.length<=380) (d5:Rd H bd (.dK Bd)) (fk:∀H',gz p ls lw H H'->Q (.bl false) H')
def XA:AN ["self", "sign"] ["self", "sign"] (defScope CO):=cQ
def IL (g:Sg):decide (V.str g.s=V.str " ")=false/\decide (V.str g.s=V.str ")")=false:=by cases g <;> decide +kernel
def Vy {f:Xd} (F:aV K "take_sign" "Reading.take_sign" CO f fd) (DT:IV K DC) (GB:Mt P w K mg base DC "take_between" 2 ["self", "sign"] (spTB DC bd)) (GA:Mt P w K mg base DC "take_ahead" 1 ["self", "sign"] (spTA DC)) (GC:Mt P w K mg base DC "take_close" 2 ["self"] (spTC DC bd)):AU P w K mg base aK 3 f fd ["self", "sign"] (spTS DC bd):=by
 obtain⟨fB,dB,GB,mB,bB⟩:=GB.ex;obtain⟨fA,dA,GA,mA,bA⟩:=GA.ex;obtain⟨fC,dC,GC,mC,bC⟩:=GC.ex;refine F.ok XA (λvs H Q E h=>?_) (λad A outer s H vs Q E hr h=>?_)
 ·cases h with
  |mk p ls lw x S S' W W' wp g9 e=>subst e;rfl
  |no p ls lw x S W wp e=>subst e;rfl
 ·have dZ:aE 1 _:=hr.mono qc
  refine⟨_,AF (Ak (AL A7 (pv 1) AI (AO _)) (AG (AQ By)) AV)
   (AF (Ak (A3 (BI (pv 0) rfl)) (AG (AQ (Cz (pv 0) DT.cl mA GA dZ bA .nil AR (AA (pv 1) AC)))) AV)
   (AG (AQ (Bz (AL A7 (pv 1) AI (AO _)) (Cb (pv 0) DT.cl mC GC hr bC .nil AR) (Cz (pv 0) DT.cl mB GB hr bB .nil AR (AA (pv 1) AC)))))),?_⟩
  cases h with
  |no p ls lw x S W wp e R st h380 hB q =>
   subst e;obtain⟨dx,hp⟩:=id R.ex;refine⟨_,rfl,rfl,_,rfl,?_⟩;cases st with
   |ahead h1 h2 h3 =>
    rw[ZP (show ¬ V.str x=V.str " " from λz=>h1 (V.str.inj z))];refine AT ⟨_,Zj,p,DC,dx,_,_,Zj,hp,DT.cl,DT.nP,EJ _ _ _,_,Zj,Ac ?_⟩;exact⟨_,Zj,p,dx,_,Zj,hp,Bi _ _ _,_,Zj,.no p x Zj h2 h3 (q _ (gz.refl _ _ _ _))⟩
   |between h1 h2 h3 h4 h5 =>
    rw[ZP (show ¬ V.str x=V.str " " from λz=>h1 (V.str.inj z))];refine AT ⟨_,Zj,p,DC,dx,_,_,Zj,hp,DT.cl,DT.nP,EJ _ _ _,_,Zj,AT ?_⟩;refine⟨_,Zj,Zj,_,Zj,?_⟩;rw[ZP (show ¬ V.str x=V.str ")" from λz=>h5 (V.str.inj z))];exact AT ⟨_,rfl,p,dx,_,rfl,hp,Bi _ _ _,_,rfl,.no p x rfl h2 h3 h4 (q _ (gz.refl _ _ _ _))⟩
   |close h1 h =>
    subst h1;rw[show decide (V.str ")" = V.str " ")=false by decide +kernel];refine AT ⟨_,rfl,p,DC,dx,_,_,rfl,hp,DT.cl,DT.nP,EJ _ _ _,_,rfl,AT ?_⟩;refine⟨_,rfl,rfl,_,rfl,?_⟩;rw[show decide (V.str ")" = V.str ")")=true by decide +kernel];exact Ac ⟨_,rfl,p,dx,_,rfl,hp,Bi _ _ _,.no p ls lw S W false rfl R qe hB h q⟩
  |mk p ls lw x S S' W W' wp g9 e R st h380 hB q =>
  subst e;obtain⟨dx,hp⟩:=id R.ex;refine⟨_,rfl,rfl,_,rfl,?_⟩;cases st with
  |blank =>
   rw[show decide (V.str " " = V.str " ")=true by decide +kernel];exact Ac (q _ (gz.refl _ _ _ _) R)
  |ahead _ _ g hg =>
   rw[(IL g).1];refine AT ⟨_,Zj,p,DC,dx,_,_,Zj,hp,DT.cl,DT.nP,EJ _ _ _,_,Zj,Ac ?_⟩;exact⟨_,Zj,p,dx,_,Zj,hp,Bi _ _ _,_,Zj,.mk p ls lw S W g true Zj hg R qe q⟩
  |join _ W0 G g hg hq hw =>
   rw[(IL g).1];rw[ZI]at h380;refine AT ⟨_,Zj,p,DC,dx,_,_,Zj,hp,DT.cl,DT.nP,EJ _ _ _,_,Zj,AT ?_⟩;refine⟨_,Zj,Zj,_,Zj,?_⟩;rw[(IL g).2];exact AT ⟨_,Zj,p,dx,_,Zj,hp,Bi _ _ _,_,Zj,.mk p ls lw S W0 G g Zj hg R qe hB hq hw q⟩
  |close _ _ G hq =>
   rw[show decide (V.str ")" = V.str " ")=false by decide +kernel];rw[ZI,ZI]at h380;refine AT ⟨_,rfl,p,DC,dx,_,_,rfl,hp,DT.cl,DT.nP,EJ _ _ _,_,rfl,AT ?_⟩;refine⟨_,rfl,rfl,_,rfl,?_⟩;rw[show decide (V.str ")" = V.str ")")=true by decide +kernel];exact Ac ⟨_,rfl,p,dx,_,rfl,hp,Bi _ _ _,.mk p ls lw S W' G false rfl R qe hB hq q⟩
inductive spEnds (DC bd:Xd) (vs:Xc) (H:Hp) (Q:VK) (_E:XK):Prop where
 |mk (p ls lw:Xd) (ss:Xa) (G:List Sg) (cD:vs=[.ref p]) (cG:aW DC H p ls lw ss (bG G) false) (cI:ss.length+G.length<=390) (cY:∀q∈G,1<=q.b) (d5:Rd H bd (.dK Bd))
  (fk:∀H',gz p ls lw H H'->aW DC H' p ls lw (ss++(bG G).reverse) [] false->Q (.bl true) H')
 |no (p ls lw:Xd) (ss:Xa) (W:List Sg) (wp:Bool) (cD:vs=[.ref p]) (cG:aW DC H p ls lw ss (bG W) wp) (cI:ss.length+W.length<=390) (cY:wp=true\/∃W1 W2,W=(W1++[.br])++W2/\∀q∈W2,1<=q.b) (d5:Rd H bd (.dK Bd)) (fk:∀H',gz p ls lw H H'->Q (.bl false) H')
def Fk:∀W:List Sg,(∀q∈W,1<=q.b)\/∃W1 W2,W=(W1++[.br])++W2/\∀q∈W2,1<=q.b
 | []=>.inl λq h=>nomatch h
 |g::W=>by
  rcases Fk W with h |⟨W1,W2,e,h⟩
  ·by_cases hg:1<=g.b
   ·exact .inl λq hq=>by rcases mem_cons.mp hq with rfl |z;exact hg;exact h q z
   ·have:g=.br:=by cases g <;> first |rfl |exact absurd qc hg
    subst this;exact .inr ⟨[],W,Zj,h⟩
  ·exact .inr ⟨g::W1,W2,by rw[e];rfl,h⟩
def Uf:AN ["self"] ["self"] (defScope Df):=cQ
def Sf {f:Xd}{tB:Tok} (F:aV K "ends" "Reading.ends" Df f fd) (B:Bl mg) (DT:IV K DC) (mL:mg "LEAST_BINDING" = some (.int 1 tB)) (GS:Mt P w K mg base DC "settle" 1 ["self", "binding"] (spSet DC bd)):AU P w K mg base aK 2 f fd ["self"] (spEnds DC bd):=by
 obtain⟨fS,dS,GS,mS,bS⟩:=GS.ex;refine F.ok Uf (λvs H Q E h=>?_) (λad A outer s H vs Q E hr h=>?_)
 ·cases h with
  |mk p ls lw ss G e=>subst e;rfl
  |no p ls lw ss W wp e=>subst e;rfl
 ·
  refine⟨_,AF (A4 (Cz (pv 0) DT.cl mS GS hr bS .nil AR (AA (BH (v:=.int 1) Zj mL ⟨tB,Zj⟩) AC)))
   (AG (AQ (C7 (PL (BI (pv 0) rfl)) (DY (Bf A7 (AW (BV K rfl) rfl B.len PySem.boot_len (AA (BI (pv 0) rfl) AC)) AE (AO _)))))),?_⟩
  cases h with
  |no p ls lw ss W wp e R h390 hw hB q =>
   subst e;obtain⟨dx,hp⟩:=id R.ex
   obtain⟨W0,G,eW,hG,h0,hn⟩:∃W0 G,W=W0++G/\(∀q∈G,1<=q.b)/\(W0=[]\/IW W0<1)/\(wp=true\/W0≠ []):=by
    rcases Fk W with h |⟨W1,W2,e,h⟩
    ·refine⟨[],W,rfl,h,.inl rfl,?_⟩;rcases hw with z |⟨W1,W2,e,_⟩
     ·exact .inl z
     ·have:=h .br (by rw[e];simp);exact absurd this qc
    ·exact⟨W1++[.br],W2,e,h,.inr (by rw[Co];decide),.inr (by simp)⟩
   subst eW;rw[ZI]at h390;refine⟨_,rfl,p,dx,_,rfl,hp,Bi _ _ _,p,ls,lw,ss,W0,G,1,wp,rfl,R,qe,hB,hG,h0,λH1 s1 R1=>?_⟩;obtain⟨iF,ak⟩:=id R1.ex;refine⟨_,rfl,p,DC,iF,_,_,rfl,ak,DT.cl,DT.nP,EJ _ _ _,_,rfl,_,rfl,?_⟩;cases wp with
   |true=>exact AT (q _ s1)
   |false =>
    refine Ac ⟨_,Zj,p,DC,iF,_,_,Zj,ak,DT.cl,DT.nW,EI _ _ _,lw,_,Zj,.inl (aN.of R1.hw),Zj,?_⟩;have hn0:W0≠ []:=hn.resolve_left qc
    rw[ZP (λz=>by
     have:=V.int.inj z;simp only[AS]at this
     exact hn0 (length_eq_zero_iff.mp qe))]
    exact q _ s1
  |mk p ls lw ss G e R h390 hq hB q =>
  subst e;obtain⟨dx,hp⟩:=id R.ex;refine⟨_,Zj,p,dx,_,Zj,hp,Bi _ _ _,p,ls,lw,ss,[],G,1,false,Zj,R,by show _+(0+_)<=400;omega,hB,hq,.inl Zj,λH1 s1 R1=>?_⟩;obtain⟨iF,ak⟩:=id R1.ex;refine⟨_,Zj,p,DC,iF,_,_,Zj,ak,DT.cl,DT.nP,EJ _ _ _,_,Zj,_,Zj,Ac ?_⟩;exact⟨_,Zj,p,DC,iF,_,_,Zj,ak,DT.cl,DT.nW,EI _ _ _,lw,_,Zj,.inl (aN.of R1.hw),Zj,q _ s1 R1⟩
end
def Sh {a:Xd}{o:HO} (s:aA H H') (h:Rd H a o):Rd H' a o:=by
 rcases h with h |⟨o,h⟩
 ·exact .inl (s _ _ h)
 ·exact .inr ⟨o,s _ _ h⟩
def aW.same {DC:Xd}{p ls lw:Xd}{ss ws:Xa}{wp:Bool} (s:aA H H') (h:aW DC H p ls lw ss ws wp):aW DC H' p ls lw ss ws wp:=by
 obtain⟨dx,hp⟩:=h.ex;exact⟨⟨dx,s _ _ hp⟩,s _ _ h.hs,s _ _ h.hw,h.ne⟩
def NE (g:Sg):(⟨#[g.c]⟩:Str)=g.s:=by cases g <;> decide +kernel
def TQ (g:Sg):BC g.c=false/\Ax g.c=false:=by cases g <;> exact⟨rfl,rfl⟩
inductive RnN (lt:Bool) (z:Str) (o:Out) (a:Nat) (S:Xa) (W:List Sg) (wp:Bool):Prop
 |done (ea:a=z.length) (ew:wp=false) (h:∀q∈W,1<=q.b) (e:o=.ok (S++(bG W).reverse))
 |part (ew:wp=true) (n:Nat) (h:IK lt z a n) (hn:0<n) (r:Rn lt z o (a+n) (S++[sl z a (a+n)]) W false)
 |sign (c:Nat) (S':Xa) (W':List Sg) (g9:Bool) (hc:z.cps.toList[a]?=some c) (no:IK lt z a 0) (st:SgStep ⟨#[c]⟩ S W wp S' W' g9) (r:Rn lt z o (a+1) S' W' g9) (l:S'.length+W'.length<=S.length+W.length+1)
 |stop (c:Nat) (hc:z.cps.toList[a]?=some c) (no:wp=true->IK lt z a 0) (st:StopX ⟨#[c]⟩ W wp) (e:o=.bad a)
 |ends (ea:a=z.length) (hw:wp=true\/∃W1 W2,W=(W1++[.br])++W2/\∀q∈W2,1<=q.b) (e:o=.bad z.length)
def J7 {lt:Bool}{z:Str}{a c:Nat} (hc:z.cps.toList[a]?=some c) (no:BC c=false/\Ax c=false) (sm:Bo c=false):IK lt z a 0:=by
 obtain⟨aL,ec⟩:=Z8.mp hc;rw[Ae]at aL;refine⟨qe,λk h0 hk=>absurd hk qe,λ_=>Qo (w:=[]) no ?_ (.inr sm)⟩;rw[Ce z qe qe];rw[show a+0+1 - a=1 by omega,nil_append];rw[drop_eq_getElem_cons (by rw[Ae];exact aL),ec];rfl
def Dh {c:Nat}{x:Str}{d:Nat} (hx:x.cps.toList=[d]) (h:c≠d):(⟨#[c]⟩:Str)≠x:=λz=>h (by
 have:=congrArg (λy:Str=>y.cps.toList) z;simp only at this;rw[hx]at this
 injection this)
def Rn.next {lt:Bool}{z:Str}{o:Out}{a:Nat}{S:Xa}{W:List Sg}{wp:Bool} (h:Rn lt z o a S W wp):RnN lt z o a S W wp:=by
 cases h with
 |done _ _ h e=>exact .done rfl rfl h e
 |blank _ _ _ _ h r=>exact .sign 32 _ _ _ h (J7 h ⟨rfl,rfl⟩ rfl) (by rw[show(⟨#[32]⟩:Str) = " " by decide +kernel];exact .blank _ _ _) r qe
 |part _ n _ _ h hn r=>exact .part rfl n h hn r
 |ahead _ _ _ g hg h r=>exact .sign g.c _ _ _ h (J7 h (TQ g) (by cases g <;> rfl)) (by rw[NE];exact .ahead _ _ g hg) r (by simp;omega)
 |join _ _ W Q g hg h hq hw r=>exact .sign g.c _ _ _ h (J7 h (TQ g) (by cases g <;> rfl)) (by rw[NE];exact .join _ W Q g hg hq hw) r (by simp;omega)
 |close _ _ W Q h hq r=>exact .sign 41 _ _ _ h (J7 h ⟨rfl,rfl⟩ rfl) (by rw[show(⟨#[41]⟩:Str) = ")" by decide +kernel];exact .close _ W Q hq) r (by simp;omega)
 |stop _ c _ _ _ h hs e =>
  have e1:((" " : Str)).cps.toList=[32]:=by decide +kernel
  have e2:(("~" : Str)).cps.toList=[126]:=by decide +kernel
  have e3:(("(" : Str)).cps.toList=[40]:=by decide +kernel
  have e4:(("&" : Str)).cps.toList=[38]:=by decide +kernel
  have e5:(("^" : Str)).cps.toList=[94]:=by decide +kernel
  have e6:(("|" : Str)).cps.toList=[124]:=by decide +kernel
  have e7:((")" : Str)).cps.toList=[41]:=by decide +kernel
  cases hs with
  |ahead p h1 h2 h3=>exact .stop c h (λ_=>p) (.ahead (Dh e1 h1) (Dh e2 h2) (Dh e3 h3)) e
  |between h1 h2 h3 h4 h5=>exact .stop c h (λz=>nomatch z) (.between (Dh e1 h1) (Dh e4 h2) (Dh e5 h3) (Dh e6 h4) (Dh e7 h5)) e
  |close h1 hw=>exact .stop c h (λz=>nomatch z) (.close (by rw[h1];decide +kernel) hw) e
 |ends _ _ _ hw e=>exact .ends rfl hw e
structure Vz (P:Program) (w:World) (K:FG) (mg:SV) (base:Heap) (DC bd:Xd):Prop where
 T:IV K DC
 cls:mg "Reading" = some (.ref DC)
 make:∃f fd,Mk K DC f/\AU P w K mg base aK 1 f fd ["self"] (spRd0 DC)/\Binds K fd ["self"] []
 tp:Mt P w K mg base DC "take_part" 1 ["self", "part"] (spTP DC)
 ts:Mt P w K mg base DC "take_sign" 3 ["self", "sign"] (spTS DC bd)
 en:Mt P w K mg base DC "ends" 2 ["self"] (spEnds DC bd)
def XB (H:Hp) (Q:VK) (E:XK) (cT:Xd):Out->Prop
 | .ok T=>∀l H',aA H H'->H' l=some (.lst (T.map V.str))->Q (.ref l) H'
 | .bad e=>i0 H E cT (.int (e:Int))
inductive spSt (K:FG) (DC bd cT:Xd) (vs:Xc) (H:Hp) (Q:VK) (E:XK):Prop where
 |mk (z:Str) (lt:Bool) (o:Out) (cD:vs=[.str z,.bl lt]) (cG:z.cps.all (· < 128)=true) (cI:z.length<=100) (cY:Rn lt z o 0 [] [] true) (d5:Rd H bd (.dK Bd)) (fk:XB H Q E cT o)
 |aI (v:V) (lt:Bool) (cD:vs=[v,.bl lt]) (cG:di K "str" H v) (cI:i0 H E cT .aI)
noncomputable abbrev NSt:Xa:=["text", "lettered", "reading", "at", "end"]
def scSt:AN NSt ["text", "lettered"] (defScope Bc):=cQ
inductive StA (lt:Bool) (DC:Xd) (z:Str) (o:Out) (p ls lw:Xd) (H:Hp) (a:Nat):Prop
 |mk (S:Xa) (W:List Sg) (wp:Bool) (R:aW DC H p ls lw S (bG W) wp) (t:Rn lt z o a S W wp) (l:S.length+W.length<=a) (h:a<=z.length)
section
variable {DC bd cM cT:Xd}
def LY {n:Nat} (h:n<=1000):AtV (.int (n:Int)):=.inr ⟨_,rfl,JN (Nat.lt_of_le_of_lt h qc)⟩
def V0 {f:Xd} (F:aV K "steps_of" "steps_of" Bc f fd) (B:Bl mg) (RO:Vz P w K mg base DC bd) (TX:Nw P w K mg base cM cT) (GE:Fn P w K mg base "part_end" 5 ["text", "at", "lettered"] spPE):AU P w K mg base (eB P w) 6 f fd ["text", "lettered"] (spSt K DC bd cT):=by
 obtain⟨fE,dE,GE,mE,kE,bE⟩:=GE.ex;obtain⟨fI,dI,MI,GI,bI⟩:=RO.make;obtain⟨fT,dT,GT,mT,bT⟩:=RO.tp.ex;obtain⟨fS,dS,GS,mS,bS⟩:=RO.ts.ex;obtain⟨fN,dN,GN,mN,bN⟩:=RO.en.ex;have mC:=RO.cls;have DT:=RO.T;obtain⟨fX,dX,MX,GX,bX⟩:=TX.make;have mX:=TX.cls;refine F.okX scSt (λvs H Q E h=>?_) (λad A outer s H vs Q E hr h=>?_)
 ·cases h with
  |mk z lt o e=>subst e;rfl
  |aI v lt e=>subst e;rfl
 ·have rz:=Ng (P:=P) (w:=w) (K:=K) (mg:=mg) (base:=base) (N:=NSt) (qual := "steps_of") (scope:=defScope Bc) (f:=f) (cd:=ad) (A:=A) (outer:=outer) (s:=s) (H:=H) (E:=E);have dZ:aE 1 _:=hr.mono qc;have eX:aE 2 _:=hr.mono qc;have i7:aE 3 _:=hr.mono qc;have nd:=scSt.nd
  refine⟨_,AF (Ak (BY (A3 (CS K Zj Zj B.ft Zj B.str Ga (pv 0)))) (AG (FQ rz Zj MX.cls (FP MX GX i7 Zj mX bX .nil AR (AA Ft AC)))) AV)
   (AF (Ag (i:=2) nd rfl (Or.inl rfl) (Pa MI GI eX rfl mC bI .nil AR))
   (AF (Ag (i:=3) nd rfl (Or.inl rfl) AE)
   (CD (FC PassesOwn.leaving (AL FE (pv 3) (AW At rfl B.len PySem.boot_len (AA (pv 0) AC)) (AO _))
    (CD (Ag (i:=4) nd rfl (Or.inl rfl) (Bz (A3 (BI (pv 2) rfl)) (AM GE hr rfl mE kE bE .nil AR (AA (pv 0) (AA (pv 3) (AA (pv 1) AC)))) (pv 3)))
    (AG (Ak (AL FF (pv 4) (pv 3) (AO _))
     (AF (A4 (Cz (pv 2) DT.cl mT GT dZ bT .nil AR (AA (DJ F6 (pv 0) (Ck (pv 3)) (Ck (pv 4))) AC))) (AG (Ag (i:=3) nd rfl (Or.inl rfl) (pv 4))))
     (AG (Ak (A3 (Cz (pv 2) DT.cl mS GS i7 bS .nil AR (AA (BJ Fz (pv 0) (pv 3) (λ_ _=>rfl)) AC))) (AG (Ll (i:=3) nd rfl (Or.inl rfl) AE (NP:cV _ _ _))) (AG (FQ rz rfl MX.cls (FP MX GX i7 rfl mX bX .nil AR (AA (pv 3) AC))))))))))
   (AF (Ak (BY (A3 (Cb (pv 2) DT.cl mN GN eX bN .nil AR))) (AG (FQ rz rfl MX.cls (FP MX GX i7 rfl mX bX .nil AR (AA (AW At rfl B.len PySem.boot_len (AA (pv 0) AC)) AC)))) AV)
   (AG (AQ (BI (pv 2) rfl))))))),?_⟩
  cases h with
  |aI v lt e hv hU =>
   subst e;obtain⟨t,ht,hk⟩:=hv.ty;exact⟨_,Zj,_,_,_,false,Zj,ht,hk,_,Zj,Ac (Ge (te:=tC .aI) MX.cls TX.st (.inl Zj) (aA.refl _) hU (λ_ z=>z))⟩
  |mk z lt o e ha iI RN hB q =>
  subst e;refine⟨_,Zj,_,_,_,true,Zj,.str z,Zj,_,Zj,AT ?_⟩;intro p dx hp ay ax;have sN:=IH (D:=DC) hp ay ax;refine⟨p,dx,Zj,AB,λls lw H1 s1 hls hlw R1=>⟨Zj,?_⟩⟩;have S1:aA H H1:=λb o e=>s1 b o (sN _ _ e) (AJ e hp);have hls0:H ls=none:=none_of sN hls;have cr:H lw=none:=none_of sN hlw;have old:∀ {H2 H3:Hp},aA H H2->gz p ls lw H2 H3->aA H H3:=λ{H2 H3} a b c o e=>b c o (a c o e) (AJ e hp) (AJ e hls0) (AJ e cr);have rdS:∀ {H2:Hp},aA H H2->Rd H2 bd (.dK Bd):=λ{H2} a=>Sh a hB;refine⟨λσ H'=>(∃v4,σ=[some (.str z),some (.bl lt),some (.ref p),some (.int (z.length:Int)),v4])/\aA H H'/\∃S W wp,aW DC H' p ls lw S (bG W) wp/\S.length+W.length<=300/\((wp=false/\(∀q∈W,1<=q.b)/\o=.ok (S++(bG W).reverse))\/((wp=true\/∃W1 W2,W=(W1++[.br])++W2/\∀q∈W2,1<=q.b)/\o=.bad z.length)),λR hR=>?_,?_⟩
  ·refine⟨λm σ H2=>∃a v4,σ=[some (.str z),some (.bl lt),some (.ref p),some (.int ((a:Nat):Int)),v4]/\m=z.length - a/\aA H H2/\StA lt DC z o p ls lw H2 a,⟨z.length,0,none,rfl,rfl,S1,.mk [] [] true R1 RN (Nat.zero_le _) (Nat.zero_le _)⟩,?_⟩;rintro m σ H2 ⟨a,v4,rfl,rfl,S2,S,W,wp,R2,t,l,hal⟩;refine⟨_,rfl,_,rfl,z,rfl,Nat.le_of_lt (AK qe),_,_,rfl,rfl,_,rfl,?_⟩;obtain⟨dx2,am⟩:=id R2.ex;cases t.next with
   |done ea ew h e =>
    subst ea ew;rw[ZP (show ¬ ((z.length:Nat):Int)<(z.length:Int) by omega)];exact AT (hR _ _ ⟨⟨_,Zj⟩,S2,S,W,false,R2,qe,.inl ⟨Zj,h,e⟩⟩)
   |ends ea hw e =>
    subst ea;rw[ZP (show ¬ ((z.length:Nat):Int)<(z.length:Int) by omega)];exact AT (hR _ _ ⟨⟨_,Zj⟩,S2,S,W,wp,R2,qe,.inr ⟨hw,e⟩⟩)
   |part ew n pt hn r =>
    subst ew;have hle:=pt.le;rw[ZM (show((a:Nat):Int)<(z.length:Int) by omega)];refine Ac ⟨λσ H3=>∃b v4,σ=[some (.str z),some (.bl lt),some (.ref p),some (.int ((b:Nat):Int)),v4]/\z.length - b<z.length - a/\aA H H3/\StA lt DC z o p ls lw H3 b,λaJ H' ⟨b,v,e1,e2,e3,e4⟩=>⟨z.length - b,e2,b,v,e1,Zj,e3,e4⟩,?_⟩;refine⟨λσ H3=>σ=[some (.str z),some (.bl lt),some (.ref p),some (.int ((a:Nat):Int)),some (.int ((a+n:Nat):Int))]/\aA H H3/\aW DC H3 p ls lw S (bG W) true,λR hR=>?_,?_⟩
    ·refine⟨_,Zj,p,DC,dx2,_,_,Zj,am,DT.cl,DT.nP,EJ _ _ _,_,Zj,Ac ?_⟩;exact⟨_,Zj,_,Zj,_,Zj,z,a,n,lt,Zj,ha,qe,pt,λH3 s3=>hR _ _ ⟨Zj,S2.trans s3,R2.same s3⟩⟩
    ·rintro σ H3 ⟨rfl,S3,R3⟩;obtain⟨dx3,iH⟩:=id R3.ex;refine⟨_,Zj,_,Zj,_,_,Zj,Zj,_,Zj,?_⟩;rw[ZM (show((a+n:Nat):Int)>((a:Nat):Int) by omega)];refine Ac ?_;refine⟨_,Zj,p,dx3,_,Zj,iH,Bi _ _ _,_,Zj,_,Zj,_,Zj,_,Zj,_,Zj,z,Zj,Nat.le_of_lt (AK qe),p,ls,lw,S,bG W,true,_,Zj,R3,qe,λH4 s4 R4=>?_⟩;exact⟨_,Zj,a+n,_,Zj,qe,old S3 s4,.mk _ W false R4 r (by rw[ZI,length_singleton];omega) hle⟩
   |sign c S' W' g9 hc no st r hl' =>
    have aL:a<z.length:=by
     have:=(Z8.mp hc).1;rw[Ae]at this;exact this
    rw[ZM (show((a:Nat):Int)<(z.length:Int) by omega)];refine Ac ⟨λσ H3=>∃b v4,σ=[some (.str z),some (.bl lt),some (.ref p),some (.int ((b:Nat):Int)),v4]/\z.length - b<z.length - a/\aA H H3/\StA lt DC z o p ls lw H3 b,λaJ H' ⟨b,v,e1,e2,e3,e4⟩=>⟨z.length - b,e2,b,v,e1,Zj,e3,e4⟩,?_⟩;refine⟨λσ H3=>σ=[some (.str z),some (.bl lt),some (.ref p),some (.int ((a:Nat):Int)),some (.int ((a:Nat):Int))]/\aA H H3/\aW DC H3 p ls lw S (bG W) wp,λR hR=>?_,?_⟩
    ·refine⟨_,rfl,p,DC,dx2,_,_,rfl,am,DT.cl,DT.nP,EJ _ _ _,_,rfl,?_⟩;cases wp with
     |false=>exact AT ⟨_,rfl,hR _ _ ⟨rfl,S2,R2⟩⟩
     |true=>exact Ac ⟨_,rfl,_,rfl,_,rfl,z,a,0,lt,rfl,ha,qe,no,λH3 s3=>hR _ _ ⟨rfl,S2.trans s3,R2.same s3⟩⟩
    ·rintro σ H3 ⟨rfl,S3,R3⟩;obtain⟨dx3,iH⟩:=id R3.ex;refine⟨_,Zj,_,Zj,_,_,Zj,Zj,_,Zj,?_⟩;rw[ZP (show ¬ ((a:Nat):Int)>((a:Nat):Int) by omega)];refine AT ?_;refine⟨_,Zj,p,dx3,_,Zj,iH,Bi _ _ _,_,Zj,_,Zj,z,(a:Int),c,Zj,Zj,Nat.le_of_lt (AK qe),BO hc,.mk p ls lw ⟨#[c]⟩ S S' W W' wp g9 Zj R3 st qe (rdS S3) λH4 s4 R4=>⟨_,Zj,Ac ?_⟩⟩;refine⟨_,Zj,_,_,Zj,Zj,a+1,some (.int ((a:Nat):Int)),?_,qe,old S3 s4,.mk S' W' g9 R4 r qe qe⟩;show [some (V.str z),some (V.bl lt),some (V.ref p),some (V.int (((a:Nat):Int)+1)),some (V.int ((a:Nat):Int))]=_;rfl
   |stop c hc no st e =>
    have aL:a<z.length:=by
     have:=(Z8.mp hc).1;rw[Ae]at this;exact this
    subst e;rw[ZM (show((a:Nat):Int)<(z.length:Int) by omega)];refine Ac ⟨λσ H3=>False,λaJ H' z=>z.elim,?_⟩;refine⟨λσ H3=>σ=[some (.str z),some (.bl lt),some (.ref p),some (.int ((a:Nat):Int)),some (.int ((a:Nat):Int))]/\aA H H3/\aW DC H3 p ls lw S (bG W) wp,λR hR=>?_,?_⟩
    ·refine⟨_,rfl,p,DC,dx2,_,_,rfl,am,DT.cl,DT.nP,EJ _ _ _,_,rfl,?_⟩;cases wp with
     |false=>exact AT ⟨_,rfl,hR _ _ ⟨rfl,S2,R2⟩⟩
     |true=>exact Ac ⟨_,rfl,_,rfl,_,rfl,z,a,0,lt,rfl,ha,qe,no rfl,λH3 s3=>hR _ _ ⟨rfl,S2.trans s3,R2.same s3⟩⟩
    ·rintro σ H3 ⟨rfl,S3,R3⟩;obtain⟨dx3,iH⟩:=id R3.ex;refine⟨_,Zj,_,Zj,_,_,Zj,Zj,_,Zj,?_⟩;rw[ZP (show ¬ ((a:Nat):Int)>((a:Nat):Int) by omega)];refine AT ?_;refine⟨_,Zj,p,dx3,_,Zj,iH,Bi _ _ _,_,Zj,_,Zj,z,(a:Int),c,Zj,Zj,Nat.le_of_lt (AK qe),BO hc,.no p ls lw ⟨#[c]⟩ S W wp Zj R3 st qe (rdS S3) λH4 s4=>⟨_,Zj,AT ?_⟩⟩;exact Ge (te:=Cj 3) MX.cls TX.st (LY qe) (old S3 s4) q (λ_ k=>⟨_,Zj,k⟩)
  rintro σ H2 ⟨⟨v4,rfl⟩,S2,S,W,wp,R2,l80,hend⟩;obtain⟨dx2,am⟩:=id R2.ex;rcases hend with⟨rfl,hq,rfl⟩ |⟨hw,rfl⟩
  ·refine⟨_,Zj,p,dx2,_,Zj,am,Bi _ _ _,.mk p ls lw S W Zj R2 qe hq (rdS S2) λH3 s3 R3=>⟨_,Zj,AT ?_⟩⟩;obtain⟨dx3,iH⟩:=id R3.ex;exact⟨_,Zj,p,DC,dx3,_,_,Zj,iH,DT.cl,DT.nS,Qn _ _ _,q ls H3 (old S2 s3) R3.hs⟩
  ·refine⟨_,Zj,p,dx2,_,Zj,am,Bi _ _ _,.no p ls lw S W wp Zj R2 qe hw (rdS S2) λH3 s3=>⟨_,Zj,Ac ?_⟩⟩;exact Ge MX.cls TX.st (LY qe) (old S2 s3) q (λ_ k=>⟨_,Zj,z,Zj,Nat.le_of_lt (AK qe),k⟩)
end
def Si (a b:Nat):Builtin.bitXor (a:Int) (b:Int)=((a ^^^ b:Nat):Int):=by
 have h1:(a ^^^ b)|||(a&&&b)=a |||b:=by
  refine Nat.eq_of_testBit_eq λk=>?_;simp only[Nat.testBit_and,Nat.testBit_xor,Nat.testBit_or];cases a.testBit k <;> cases b.testBit k <;> rfl
 have h2:(a ^^^ b)&&&(a&&&b)=0:=by
  refine Nat.eq_of_testBit_eq λk=>?_;simp only[Nat.testBit_and,Nat.testBit_xor,Nat.zero_testBit];cases a.testBit k <;> cases b.testBit k <;> rfl
 have h3:=UU (a ^^^ b) (a&&&b);rw[h1,h2]at h3;have h4:Builtin.bitXor (a:Int) (b:Int)=Builtin.bitOr (a:Int) (b:Int) - Builtin.bitAnd (a:Int) (b:Int):=rfl;rw[h4,F9,HC];omega
structure Nv where
 aB:Aa
 kvs:LK
 tb:Str->Nat
noncomputable def wv (n:Nv) (x:Str):Nat:=if BP x then n.tb x else if Bv x then look n.aB x else digitsVal x.cps.toList
structure WdOk (n:Nv) (x:Str):Prop where
 as:x.cps.all (· < 128)=true
 l0:0<x.length
 l6:x.length<=200
 or:(BP x=true/\BW n.kvs (Sum.inr x)=some (.int (n.tb x:Nat)))\/(BP x=false/\Bv x=true/\x∈n.aB.map (·.1))\/(BP x=false/\Bv x=false/\AllDigits x.cps.toList)
def WdOk.nb {n:Nv}{x:Str} (h:WdOk n x):x≠ "|" /\ x≠ "&" /\ x≠ "^" /\ x≠ "~" := by
 have key:∀y:Str,BP y=false->Bv y=false->(∃c∈y.cps.toList,¬ (48<=c/\c<=57))->x≠y:=λy h0 h1 ⟨c,hc,h2⟩ z=>by
  subst z;rcases h.or with⟨a,_⟩ |⟨_,a,_⟩ |⟨_,_,b⟩
  ·rw[h0]at a;cases a
  ·rw[h1]at a;cases a
  ·exact h2 (b c hc)
 exact⟨key _ qb qb ⟨124,qb,qc⟩,key _ qb qb ⟨38,qb,qc⟩,key _ qb qb ⟨94,qb,qc⟩,key _ qb qb ⟨126,qb,qc⟩⟩
structure NmNo (n:Nv) (x:Str):Prop where
 as:x.cps.all (· < 128)=true
 l6:x.length<=200
 lt:BP x=false
 nm:Bv x=true
 no:x∉ n.aB.map (·.1)
def NmNo.nb {n:Nv}{x:Str} (h:NmNo n x):x≠ "|" /\ x≠ "&" /\ x≠ "^" /\ x≠ "~" := by
 have key:∀y:Str,Bv y=false->x≠y:=λy h1 z=>by
  subst z;have:=h.nm;rw[h1]at this;cases this
 exact⟨key _ qb,key _ qb,key _ qb,key _ qb⟩
noncomputable def Sg.f:Sg->Nat->Nat->Nat | .an,a,b=>a&&&b | .xo,a,b=>a ^^^ b |_,a,b=>a |||b
inductive EvS (n:Nv):List Nat->Str->List Nat->Prop
 |ng (h:List Nat) (v:Nat):EvS n (h++[v]) "~" (h++[kn n.aB - (kn n.aB&&&v)])
 |bn (g:Sg) (hg:g.dv) (h:List Nat) (a b:Nat):EvS n (h++[a]++[b]) g.s (h++[g.f a b])
 |wd (x:Str) (W:WdOk n x) (h:List Nat):EvS n h x (h++[wv n x])
inductive Ev (n:Nv) (o:Option Nat):List Nat->Xa->Prop
 |nil (v:Nat) (e:o=some v):Ev n o [v] []
 |cons (h h':List Nat) (x:Str) (S:Xa) (a:EvS n h x h') (b:Ev n o h' S):Ev n o h (x::S)
 |no (h:List Nat) (x:Str) (S:Xa) (a:NmNo n x) (e:o=none):Ev n o h (x::S)
def EvS.len {n:Nv}{h h':List Nat}{x:Str} (e:EvS n h x h'):h'.length<=h.length+1:=by
 cases e <;> simp <;> omega
section
variable {DC bd jn cB:Xd}
inductive spJn (vs:Xc) (H:Hp) (Q:VK) (_E:XK):Prop where
 |mk (g:Sg) (a b:Nat) (cD:vs=[.str g.s,.int (a:Int),.int (b:Int)]) (cG:g.dv) (cI:Q (.int ((g.f a b:Nat):Int)) H)
def XC:AN ["sign", "one", "other"] ["sign", "one", "other"] (defScope Jz):=cQ
def V1 {f:Xd} (F:aV K "joined" "joined" Jz f fd):AU P w K mg base aK 1 f fd ["sign", "one", "other"] spJn:=by
 refine F.m XC λvs H Q E h=>?_;obtain⟨g,a,b,rfl,hg,q⟩:=h;refine⟨rfl,λad A outer s hr=>?_⟩;refine⟨_,AF (Ak (AL A7 (pv 0) AI (AO _)) (AG (AQ (Af Lq (pv 1) (pv 2)))) AV) (AF (Ak (AL A7 (pv 0) AI (AO _)) (AG (AQ (Af Tp (pv 1) (pv 2)))) AV) (AG (AQ (Af S4 (pv 1) (pv 2))))),?_⟩;refine⟨_,rfl,rfl,_,rfl,?_⟩;cases g with
 |br=>exact hg.elim
 |no=>exact hg.elim
 |an =>
  rw[show decide (V.str Sg.an.s=V.str "&")=true by decide +kernel];refine Ac ⟨_,Zj,_,Zj,_,_,Zj,Zj,?_⟩;show Q (V.int (Builtin.bitAnd _ _)) H;rw[HC];exact q
 |xo =>
  rw[show decide (V.str Sg.xo.s=V.str "&")=false by decide +kernel];refine AT ⟨_,Zj,Zj,_,Zj,?_⟩;rw[show decide (V.str Sg.xo.s=V.str "^")=true by decide +kernel];refine Ac ⟨_,Zj,_,Zj,_,_,Zj,Zj,?_⟩;show Q (V.int (Builtin.bitXor _ _)) H;rw[Si];exact q
 |or =>
  rw[show decide (V.str Sg.or.s=V.str "&")=false by decide +kernel];refine AT ⟨_,Zj,Zj,_,Zj,?_⟩;rw[show decide (V.str Sg.or.s=V.str "^")=false by decide +kernel];refine AT ⟨_,Zj,_,Zj,_,_,Zj,Zj,?_⟩;show Q (V.int (Builtin.bitOr _ _)) H;rw[F9];exact q
inductive spKN (C cB:Xd) (vs:Xc) (H:Hp) (Q:VK) (E:XK):Prop where
 |mk (p:Xd) (aB:Aa) (r:Str) (x:Str) (cD:vs=[.ref p,.str x]) (cG:aS C H p aB r) (cI:x∈aB.map (·.1)) (cY:Q (.int (look aB x:Nat)) H)
 |no (p:Xd) (aB:Aa) (r:Str) (x:Str) (cD:vs=[.ref p,.str x]) (cG:aS C H p aB r) (cI:x∉ aB.map (·.1)) (cY:Uq H E cB)
def V2 {f:Xd} (F:aV K "number" "Kind.number" C1 f fd) (T:IC K C) (EB:TK P w K mg base "BadName" cB) (GO:Fn P w K mg base "is_one_of" 1 ["thing", "names"] (DR K)):AU P w K mg base (eB P w) 3 f fd ["self", "name"] (spKN C cB):=by
 obtain⟨fO,dO,GO,mO,kO,bO⟩:=GO.ex;obtain⟨fX,dX,MX,GX,bX⟩:=EB.make;have mX:=EB.cls;refine F.okX Qg (λvs H Q E h=>?_) (λad A outer s H vs Q E hr h=>?_)
 ·cases h with
  |mk p aB r x e=>subst e;rfl
  |no p aB r x e=>subst e;rfl
 ·have hu:=Dz hr;have dZ:aE 1 _:=hr.mono qc;have rz:=Ng (P:=P) (w:=w) (K:=K) (mg:=mg) (base:=base) (N:=["self", "name"]) (qual := "Kind.number") (scope:=defScope C1) (f:=f) (cd:=ad) (A:=A) (outer:=outer) (s:=s) (H:=H) (E:=E)
  refine⟨_,AF (Ak (BY (A3 (AM GO dZ Zj mO kO bO .nil AR (AA (pv 1) (AA (BI (pv 0) Zj) AC))))) (AG (FQ rz Zj MX.cls (FP MX GX hr Zj mX bX .nil AR (AA AI AC)))) AV)
   (AG (AQ (EN hu (BI (pv 0) rfl) (pv 1) (λ_ _=>rfl)))),?_⟩
  cases h with
  |mk p aB r x e KA hx k =>
   subst e;obtain⟨dx,d1,o1,d2,o2,hp,h1,h2⟩:=KA.ex;refine⟨_,Zj,_,Zj,p,C,dx,_,_,Zj,hp,T.cl,T.nN,IB _ _ _,?_⟩;refine .inl ⟨x,d1,BB aB,Zj,.inr ⟨o1,h1⟩,_,Zj,?_⟩;rw[C5 hx];refine AT ?_;exact⟨_,Zj,p,C,dx,_,_,Zj,hp,T.cl,T.nN,IB _ _ _,_,Zj,d1,_,Zj,.inl ⟨_,Sum.inr x,.inr ⟨o1,h1⟩,Zj,(C5 hx).symm⟩,k⟩
  |no p aB r x e KA hx hU =>
   subst e;obtain⟨dx,d1,o1,d2,o2,hp,h1,h2⟩:=KA.ex;refine⟨_,Zj,_,Zj,p,C,dx,_,_,Zj,hp,T.cl,T.nN,IB _ _ _,?_⟩;refine .inl ⟨x,d1,BB aB,Zj,.inr ⟨o1,h1⟩,_,Zj,?_⟩;rw[Dg hx];refine Ac ?_;exact NA (te:=λ_=>tC (.str "")) MX.cls (aA.refl _) hU
structure V3 (P:Program) (w:World) (K:FG) (mg:SV) (base:Heap) (C:Xd) (m:Str) (k:Nat) (ps:Xa) (sp:Sp):Prop where
 ex:∃f fd,AU P w K mg base (eB P w) k f fd ps sp/\Ls K C m f/\Binds K fd ps []
structure iL (P:Program) (w:World) (K:FG) (mg:SV) (base:Heap) (x:Str) (k:Nat) (ps:Xa) (sp:Sp):Prop where
 ex:∃f fd,AU P w K mg base (eB P w) k f fd ps sp/\mg x=some (.ref f)/\W.keepIn K (.ref f)=true/\Binds K fd ps []
inductive spPN (C cB:Xd) (vs:Xc) (H:Hp) (Q:VK) (E:XK):Prop where
 |mk (k t:Xd) (x:Str) (n:Nv) (r:Str) (cD:vs=[.ref k,.str x,.ref t]) (cG:aS C H k n.aB r) (z_t:Rd H t (.dK n.kvs)) (cI:WdOk n x) (cY:∀H',aA H H'->Q (.int (wv n x:Nat)) H')
 |no (k t:Xd) (x:Str) (n:Nv) (r:Str) (cD:vs=[.ref k,.str x,.ref t]) (cG:aS C H k n.aB r) (cI:NmNo n x) (cY:Uq H E cB)
def XD:AN ["kind", "part", "table"] ["kind", "part", "table"] (defScope C2):=cQ
def V4 {f:Xd} (F:aV K "part_number" "part_number" C2 f fd) (B:Bl mg) (T:IC K C) (GL:Fn P w K mg base "is_letter" 1 ["thing"] (spLet K)) (GN:Fn P w K mg base "is_name" 1 ["thing"] spIsName) (GK:V3 P w K mg base C "number" 3 ["self", "name"] (spKN C cB)):AU P w K mg base (eB P w) 4 f fd ["kind", "part", "table"] (spPN C cB):=by
 obtain⟨fL,dL,GL,mL,kL,bL⟩:=GL.ex;obtain⟨fN,dN,GN,mN,kN,bN⟩:=GN.ex;obtain⟨fK,dK,GK,mK,bK⟩:=GK.ex;refine F.okX XD (λvs H Q E h=>?_) (λad A outer s H vs Q E hr h=>?_)
 ·cases h with
  |mk k t x n r e=>subst e;rfl
  |no k t x n r e=>subst e;rfl
 ·have hu:=Dz hr;have dZ:aE 1 _:=hr.mono qc;have ps:=Iz (P:=P) (w:=w) (K:=K) (mg:=mg) (base:=base) (N:=["kind", "part", "table"]) (qual := "part_number") (scope:=defScope C2) (f:=f) (cd:=ad) (A:=A) (outer:=outer) (s:=s) (H:=H) (E:=E)
  refine⟨_,AF (Ak (A3 (AM GL dZ Zj mL kL bL .nil AR (AA (pv 1) AC))) (AG (AQ (EN hu (pv 2) (pv 1) (λ_ _=>rfl)))) AV)
   (AF (Ak (A3 (AM GN dZ rfl mN kN bN .nil AR (AA (pv 1) AC))) (AG (AQ (Cz (pv 0) T.cl mK GK hr bK .nil ps (AA (pv 1) AC)))) AV)
   (AG (AQ (BU DA rfl B.int E5 (AA (pv 1) AC))))),?_⟩
  cases h with
  |no k t x n r e KA W hU =>
   subst e;obtain⟨dk,e1,e2,hk⟩:=KA.ins;have l6:=W.l6;refine⟨_,Zj,.txt x Zj W.l6 ⟨_,Zj,?_⟩⟩;rw[W.lt];refine AT ⟨_,Zj,x,Zj,W.as,qe,λH1 s1=>⟨_,Zj,?_⟩⟩;rw[W.nm];exact Ac ⟨_,Zj,k,dk,_,Zj,s1 _ _ hk,(ES _ _ _),_,Zj,.no k n.aB r x Zj (KA.same s1) W.no (hU.of s1)⟩
  |mk k t x n r e KA ht W q =>
   subst e;obtain⟨dk,e1,e2,hk⟩:=KA.ins;have l6:=W.l6;refine⟨_,rfl,.txt x rfl W.l6 ⟨_,rfl,?_⟩⟩;rcases W.or with⟨hl,hv⟩ |⟨hl,hn,hx⟩ |⟨hl,hn,hd⟩
   ·have qq:=q H (aA.refl _);unfold wv at qq;rw[hl,Zq rfl]at qq;rw[hl];exact Ac ⟨_,Zj,_,Zj,t,_,Zj,.inl ⟨_,Sum.inr x,ht,Zj,hv.symm⟩,qq⟩
   ·rw[hl];refine AT ⟨_,Zj,x,Zj,W.as,qe,λH1 s1=>⟨_,Zj,?_⟩⟩;have qq:=q H1 s1;unfold wv at qq;rw[hl,Zr qc,hn,Zq rfl]at qq;rw[hn];exact Ac ⟨_,Zj,k,dk,_,Zj,s1 _ _ hk,(ES _ _ _),_,Zj,.mk k n.aB r x Zj (KA.same s1) hx qq⟩
   ·rw[hl];refine AT ⟨_,Zj,x,Zj,W.as,qe,λH1 s1=>⟨_,Zj,?_⟩⟩;have qq:=q H1 s1;unfold wv at qq;rw[hl,Zr qc,hn,Zr qc]at qq;rw[hn];have l0:=W.l0;exact AT ⟨_,Zj,x,_,Zj,qe,intText_digits hd (λz=>by have:=Ae x;rw[z]at this;simp at this;omega) qe,qq⟩
def NoK (H:Hp) (Q:VK) (E:XK) (cB:Xd):Option Nat->Prop
 |some v=>∀H',aA H H'->Q (.int ((v:Nat):Int)) H'
 |none=>Uq H E cB
inductive spNo (C cB:Xd) (vs:Xc) (H:Hp) (Q:VK) (E:XK):Prop where
 |mk (k l t:Xd) (S:Xa) (o:Option Nat) (n:Nv) (r:Str) (cD:vs=[.ref k,.ref l,.ref t]) (cG:aS C H k n.aB r) (z_t:Rd H t (.dK n.kvs)) (cI:H l=some (.lst (S.map V.str))) (cY:S.length<=400) (d5:Ev n o [] S) (fk:NoK H Q E cB o)
noncomputable abbrev NNo:Xa:=["kind", "steps", "table", "held", "step", "last"]
def scNo:AN NNo ["kind", "steps", "table"] (defScope ER):=cQ
def EW (h:List Nat) (v:Nat):gT (BM (h++[v])) (-1)=some (V.int (v:Int))/\(BM (h++[v]))[(BM (h++[v])).length - 1]?=some (V.int (v:Int))/\(BM (h++[v])).dropLast=BM h/\ib (BM (h++[v])).length (-1)=some h.length/\∀u:V,(BM (h++[v])).set h.length u=BM h++[u]:=by
 have e:BM (h++[v])=BM h++[V.int (v:Int)]:=by unfold BM;rw[Zv];rfl
 have el:(BM h).length=h.length:=AS _;rw[e]
 have e2:ib (BM h++[V.int (v:Int)]).length (-1)=some h.length:=by
  rw[ZI,length_singleton,el];unfold ib;simp;omega
 refine⟨?_,?_,List.dropLast_concat,e2,λu=>?_⟩
 ·unfold gT;rw[e2];show(BM h++[V.int (v:Int)])[h.length]?=_;rw[getElem?_append_right qe,el,Nat.sub_self];rfl
 ·rw[ZI,length_singleton,Nat.add_sub_cancel,getElem?_append_right (Zz _),Nat.sub_self];rfl
 ·rw[List.set_append_right _ _ qe,el,Nat.sub_self];rfl
def Qr {g:Sg} (h:g.dv):(if false=true then !dz (V.str g.s) [V.str "&", V.str "^", V.str "|"]else dz (V.str g.s) [V.str "&", V.str "^", V.str "|"])=true:=by
 cases g <;> first |exact h.elim |decide +kernel
def V5 {f:Xd} (F:aV K "number_of" "number_of" ER f fd) (T:IC K C) (mJ:mg "JOINING" = some (.ref jn)) (hJ:∀H,bH K H jn [.str "&", .str "^", .str "|"]) (GK:Mt P w K mg base C "known" 2 ["self"] (spKnown C)) (GJ:Fn P w K mg base "joined" 1 ["sign", "one", "other"] spJn) (GP:iL P w K mg base "part_number" 4 ["kind", "part", "table"] (spPN C cB)):AU P w K mg base (eB P w) 5 f fd ["kind", "steps", "table"] (spNo C cB):=by
 obtain⟨fJ,dJ,GJ,mJn,kJ,bJ⟩:=GJ.ex;obtain⟨fP,dP,GP,mP,kP,bP⟩:=GP.ex;obtain⟨fK,dK,GK,mK,bK⟩:=GK.ex;refine F.n scNo λvs H Q E h=>?_;obtain⟨k,l,t,S,o,n,r,rfl,KA,hT,hl,h400,G,q⟩:=h;refine⟨Zj,λad A outer s hr=>?_⟩;have ps:=Iz (P:=P) (w:=w) (K:=K) (mg:=mg) (base:=base) (N:=NNo) (qual := "number_of") (scope:=defScope ER) (f:=f) (cd:=ad) (A:=A) (outer:=outer) (s:=s) (H:=H) (E:=E);have dZ:aE 1 _:=hr.mono qc;have eX:aE 2 _:=hr.mono qc;have nd:=scNo.nd
 refine⟨_,AF (Ag (i:=3) nd Zj (Or.inl Zj) (A8 AC))
  (AF (Eg PassesOwn.leaving rfl (DZ (pv 1)) (AZ (i:=4) nd rfl (Or.inl rfl))
   (AG (Ak (AL A7 (pv 4) AI (AO _))
    (AG (Cp (Af Lq (Cb (pv 0) T.cl mK GK eX bK .nil AR) (FD PV (BJ (Au K rfl) (pv 3) (FD Ej AE) (λ_ _=>rfl)))) (JZ (pv 3) (FD Ej AE) FI)))
    (AG (Ak (AL DK (pv 4) (BH (v:=.ref jn) rfl mJ rfl) rfl)
     (AF (Ag (i:=5) nd rfl (Or.inl rfl) (HL PySem.F.plainAttrs_list PySem.F.slot_list_pop PySem.F.type_list_pop Jg (pv 3)))
     (AG (Cp (AM GJ dZ rfl mJn kJ bJ .nil AR (AA (pv 4) (AA (BJ (Au K rfl) (pv 3) (FD Ej AE) (λ_ _=>rfl)) (AA (pv 5) AC)))) (JZ (pv 3) (FD Ej AE) FI))))
     (AG (A4 (DL PySem.F.plainAttrs_list PySem.F.slot_list_append PySem.F.type_list_append BK (pv 3) (AA (AM GP hr rfl mP kP bP .nil ps (AA (pv 0) (AA (pv 4) (AA (pv 2) AC)))) AC)))))))))
  (AG (AQ (HL PySem.F.plainAttrs_list PySem.F.slot_list_pop PySem.F.type_list_pop Jg (pv 3))))),?_⟩
 refine⟨(by show 0<=sizeLine;decide),λhd hhd=>?_⟩;have s1:=AD (aA.refl _) hhd (o:=HO.lst []);have h1:=AB (H:=H) (a:=hd) (o:=HO.lst []);generalize upd H hd (HO.lst [])=H1 at s1 h1 ⊢;have nl:l≠hd:=AJ hl hhd;refine⟨_,Zj,l,Zj,⟨_,aN.of (s1 _ _ hl)⟩,DH (K:=K) (a:=l) (xs:=S.map V.str) (λi σ H2=>(∃v4 v5,σ=[some (.ref k),some (.ref l),some (.ref t),some (.ref hd),v4,v5])/\aA H H2/\∃h,H2 hd=some (.lst (BM h))/\Ev n o h (S.drop i)/\h.length<=i) ⟨⟨_,_,Zj⟩,s1,[],h1,G,Nat.zero_le _⟩ (λi σ H2 _ e=>aN.of (e.2.1 _ _ hl)) ?_ ?_⟩
 ·rintro i x σ H2 hi ⟨⟨v4,v5,rfl⟩,s2,h,h2,ev,hle⟩;rw[ZF]at hi;obtain⟨y,hy,rfl⟩:=Z6.mp hi;obtain⟨js,ey⟩:=Z8.mp hy;rw[drop_eq_getElem_cons js,ey]at ev;have keep:∀ {H3:Hp} (o:HO),aA H H3->aA H (upd H3 hd o):=λ{H3} o a b u e=>by rw[AH (AJ e hhd)];exact a b u e
  refine⟨_,rfl,rfl,_,rfl,?_⟩;cases ev with
  |no _ _ _ W e =>
   subst e;obtain⟨n1,n2,n3,n4⟩:=W.nb;rw[ZP (show ¬ V.str y=V.str "~" from λz=>n4 (V.str.inj z))];refine AT ⟨_,Zj,jn,_,Zj,.inr (hJ _),Zj,Zj,_,Zj,?_⟩
   have ein:(if false=true then !dz (V.str y) [V.str "&", V.str "^", V.str "|"]else dz (V.str y) [V.str "&", V.str "^", V.str "|"])=false:=by
    rw[Zr qc];unfold dz;simp[iY,n1,n2,n3,Ne.symm n1,Ne.symm n2,Ne.symm n3]
   rw[ein];exact AT ⟨_,Zj,.inl ⟨Zj,_,aN.of h2⟩,_,Zj,_,Zj,_,Zj,.no k t y n r Zj (KA.same s2) W (Uq.of s2 q)⟩
  |cons _ h' _ _ es er =>
   have ba:=es.len;cases es with
   |ng h0 a =>
    obtain⟨l1,l2,l3,l4,l5⟩:=EW h0 a;rw[show decide (V.str "~" = V.str "~")=true by decide +kernel];have KA2:=KA.same s2;obtain⟨jP,e1,e2,ah⟩:=KA2.ins;refine Ac ⟨_,Zj,k,jP,_,Zj,ah,(ES _ _ _),k,n.aB,r,Zj,KA2,λH3 s3=>?_⟩;refine⟨_,Zj,_,Zj,hd,_,-1,.int (a:Int),Zj,Zj,aN.of (s3 _ _ h2),l1,_,Zj,_,_,Zj,Zj,?_⟩;refine⟨_,Zj,_,Zj,hd,_,-1,h0.length,Zj,Zj,s3 _ _ h2,l4,⟨_,_,Zj⟩,keep _ (s2.trans s3),h0++[kn n.aB - (kn n.aB&&&a)],?_,er,qe⟩;rw[AB,l5];show some (HO.lst (BM h0++[V.int (Builtin.bitAnd ((B5 ((BD n.aB).map (·.1)):Nat):Int) (Builtin.bitNot (a:Int)))]))=_;rw[LL,Hq];unfold BM;rw[Zv];rfl
   |bn g hg h0 a b =>
    obtain⟨l1,l2,l3,l4,l5⟩:=EW (h0++[a]) b;obtain⟨m1,m2,m3,m4,m5⟩:=EW h0 a;rw[show decide (V.str g.s=V.str "~")=false by cases g <;> first |exact hg.elim |decide +kernel];refine AT ⟨_,Zj,jn,_,Zj,.inr (hJ _),Zj,Zj,_,Zj,?_⟩;rw[Qr hg];refine Ac ?_;refine⟨_,Zj,.inl ⟨Zj,_,aN.of h2⟩,hd,_,.int (b:Int),Zj,Zj,h2,l2,?_⟩;rw[l3];have h3:=AB (H:=H2) (a:=hd) (o:=HO.lst (BM (h0++[a])));refine⟨_,Zj,_,Zj,_,Zj,hd,_,-1,.int (a:Int),Zj,Zj,aN.of h3,m1,_,Zj,g,a,b,Zj,hg,_,Zj,_,Zj,hd,_,-1,h0.length,Zj,Zj,h3,m4,⟨_,_,Zj⟩,keep _ (keep _ s2),h0++[g.f a b],?_,er,qe⟩;rw[AB,m5];unfold BM;rw[Zv];rfl
   |wd _ W _ =>
    obtain⟨n1,n2,n3,n4⟩:=W.nb;rw[ZP (show ¬ V.str y=V.str "~" from λz=>n4 (V.str.inj z))];refine AT ⟨_,Zj,jn,_,Zj,.inr (hJ _),Zj,Zj,_,Zj,?_⟩
    have ein:(if false=true then !dz (V.str y) [V.str "&", V.str "^", V.str "|"]else dz (V.str y) [V.str "&", V.str "^", V.str "|"])=false:=by
     rw[Zr qc];unfold dz;simp[iY,n1,n2,n3,Ne.symm n1,Ne.symm n2,Ne.symm n3]
    rw[ein];refine AT ⟨_,Zj,.inl ⟨Zj,_,aN.of h2⟩,_,Zj,_,Zj,_,Zj,.mk k t y n r Zj (KA.same s2) (aA.rd s2 hT) W λH3 s3=>?_⟩;refine⟨hd,_,_,Zj,Zj,s3 _ _ h2,AK (by unfold BM;rw[AS];omega),⟨_,_,Zj⟩,keep _ (s2.trans s3),h++[wv n y],?_,er,qe⟩;rw[AB];unfold BM;rw[Zv];rfl
 ·rintro σ H2 ⟨⟨v4,v5,rfl⟩,s2,h,h2,ev,_⟩;rw[AS,drop_length]at ev;cases ev with
  |nil v e =>
   subst e;obtain⟨l1,l2,l3,l4,l5⟩:=EW [] v;refine⟨_,Zj,.inl ⟨Zj,_,aN.of h2⟩,hd,_,.int (v:Int),Zj,Zj,h2,Zj,q _ λb u e=>?_⟩;rw[AH (AJ e hhd)];exact s2 b u e
end
end Mk
end
section
namespace L2
open PySem
def NF {a:Xd}{xs:Xc}{g:TG}{tt:TT}{te:TE}{ix:List (Option Nat)}{R:List Key->Hp->Prop}{σ:St}{H1:Hp} (Pv:Nat->List Key->Hp->Prop) (h0:Pv 0 [] H1) (hl:∀i ys H,i<=xs.length->Pv i ys H->aN K H a xs) (hz:∀i ys H,Pv i ys H->ys.length<=1000)
  (hs:∀i x ys H,xs[i]?=some x->Pv i ys H->g x (Cc ix σ) H λcK H2=>tt cK H2 λb H3=>if b=true then te cK H3 λy H4=>∃k,y=kV k/\Pv (i+1) (Hl ys k) H4 else Pv (i+1) ys H3) (hd:∀ys H,Pv xs.length ys H->R ys H) :
  ∃W:Nat->Nat->List Key->Hp->Prop,(∃m,W 0 m [] H1)/\∀i m ys H,W i m ys H ->
   ((iK K a).stop i H/\ys.length<=1000/\R ys H) \/
   ((iK K a).go i H/\∃N:List Key->Hp->Prop,(∀cX H',N cX H'->cX.length<=1000/\∃m',m'<m/\W (i+1) m' cX H') /\
    ∀x H',(iK K a).g8 i H x H'->g x (Cc ix σ) H' λcK H2=>tt cK H2 λb H3=>if b=true then te cK H3 λy H4=>∃k,y=kV k/\N (Hl ys k) H4 else N ys H3):=by
 refine⟨λi m ys H=>m=xs.length - i/\i<=xs.length/\Pv i ys H,⟨_,Zj,Nat.zero_le _,h0⟩,?_⟩;rintro i m ys H ⟨rfl,hi,hp⟩;by_cases aL:i<xs.length
 ·have hx:xs[i]?=some xs[i]:=Z7 aL;refine .inr ⟨⟨xs,xs[i],hl i ys H hi hp,hx⟩,Pv (i+1),λcX H' q=>⟨hz _ cX H' q,xs.length - (i+1),qe,Zj,aL,q⟩,?_⟩;rintro x H' ⟨rfl,hy⟩
  have ex:x=xs[i]:=by
   have:=hy xs (hl i ys H' hi hp);rw[hx]at this;exact(Option.some.inj this).symm
  subst ex;exact hs i xs[i] ys H' hx hp
 ·have e:i=xs.length:=by omega
  subst e;exact .inl ⟨⟨xs,hl _ ys H hi hp,Zz _⟩,hz _ ys H hp,hd ys H hp⟩
end L2
namespace Mk
open PySem L2 MK PySem.NumText
structure LtL (ns S:Xa):Prop where
 nd:ns.Nodup
 so:PyProof.Rows.sortedS ns=true
 mem:∀x,x∈ns ↔ (x∈S/\BP x=true)
section
variable {DC bd cM cR cT cB cN:Xd}
inductive spLi (vs:Xc) (H:Hp) (Q:VK) (_E:XK):Prop where
 |mk (l:Xd) (S:Xa) (cD:vs=[.ref l]) (cG:H l=some (.lst (S.map V.str))) (cI:S.length<=400) (cY:(S.filter BP).length<64) (d5:∀x∈S,x.length<=200) (fk:∀p ns H',aA H H'->H' p=some (.lst (ns.map V.str))->LtL ns S->Q (.ref p) H')
def XE:AN ["steps"] ["steps"] (defScope E3):=cQ
def V6 {f:Xd} (F:aV K "letters_in" "letters_in" E3 f fd) (B:Bl mg) (GL:Fn P w K mg base "is_letter" 1 ["thing"] (spLet K)):AU P w K mg base aK 2 f fd ["steps"] spLi:=by
 obtain⟨fL,dL,GL,mL,kL,bL⟩:=GL.ex;refine F.m XE λvs H Q E h=>?_;obtain⟨l,S,rfl,hl,h400,h64,h200,q⟩:=h;refine⟨Zj,λad A outer s hr=>?_⟩;refine⟨_,AG (AQ (AW (Jv Zj) Zj B.sorted Ot (AA (Os [] [] qd qb qd Zj (DZ (pv 0)) (λ_ _ _ _ _ _=>Rf (A3 (AM GL hr Zj mL kL bL .nil AR (AA (pv 0) AC)))) (λ_ _ _ _ _ _=>pv 0)) AC))),?_⟩;refine⟨_,Zj,l,Zj,⟨_,aN.of hl⟩,NF (K:=K) (a:=l) (xs:=S.map V.str) (λi ys H2=>H2=H/\∃ms:Xa,ys=ms.map Sum.inr/\ms.Nodup/\(∀x,x∈ms ↔ x∈(S.take i).filter BP)/\ms.length<=((S.take i).filter BP).length) ⟨Zj,[],Zj,nodup_nil,λx=>by simp,Nat.zero_le _⟩ (λi ys H2 _ ⟨e,_⟩=>e ▸ aN.of hl) (λi ys H2 ⟨_,ms,e,_,_,ba⟩=>?_) ?_ ?_⟩
 ·rw[e,AS];have h1:=List.length_filter_le BP (S.take i);rw[ZB]at h1;omega
 ·rintro i v ys H2 hi ⟨rfl,ms,rfl,nd,hm,ba⟩;rw[ZF]at hi;obtain⟨y,hy,rfl⟩:=Z6.mp hi;have e1:(S.take (i+1)).filter BP=(S.take i).filter BP++[y].filter BP:=by rw[ZE,hy,Option.toList_some,List.filter_append]
  refine⟨_,rfl,.txt y rfl (h200 y (Z4 hy)) ⟨_,rfl,?_⟩⟩;cases aL:BP y with
  |false =>
   have e2:[y].filter BP=[]:=by simp[aL]
   rw[e2,Zu]at e1;exact AT ⟨Zj,ms,Zj,nd,by rw[e1];exact hm,by rw[e1];exact ba⟩
  |true =>
   have e2:[y].filter BP=[y]:=by simp[aL]
   rw[e2]at e1;refine Ac ⟨_,Zj,Sum.inr y,Zj,Zj,?_⟩;unfold Hl;by_cases ic:(Sum.inr y:Key)∈ms.map Sum.inr
   ·rw[Zq ic]
    have hy2:y∈ms:=by
     obtain⟨z,hz,e⟩:=Zs.mp ic;cases e;exact hz
    refine⟨ms,Zj,nd,λx=>?_,?_⟩
    ·rw[e1,mem_append,ZH,hm x];exact⟨.inl,λz=>z.elim id λz=>z ▸ (hm y).mp hy2⟩
    ·rw[e1,ZI];omega
   ·rw[Zr ic];have hy2:y∉ ms:=λz=>ic (Zs.mpr ⟨_,z,rfl⟩);refine⟨y::ms,Zj,Zt.mpr ⟨hy2,nd⟩,λx=>?_,?_⟩
    ·rw[e1,mem_append,ZH,mem_cons,hm x];exact Or.comm
    ·rw[e1,ZI,length_cons,length_singleton];omega
 ·rintro ys H2 ⟨rfl,ms,rfl,nd,hm,ba⟩ p hp;rw[AS,ZC]at hm ba;refine⟨p,ms,Zj,AB,qe,λl2 ns gQ bj hso=>?_⟩;have sp:=AD (aA.refl _) hp (o:=Jr P w p (ms.map Sum.inr));refine q l2 ns _ (AD sp gQ) AB ⟨bj.nodup_iff.mpr nd,hso,λx=>?_⟩;rw[bj.mem_iff,hm x,mem_filter]
noncomputable def gV2 (vs zs:Xc):Xc:=match vs,zs with | [a],[c]=>[a,c] |_,_=>[]
noncomputable def gU2 (us ws:Xb):Xb:=match us,ws with | [a],[c]=>[a,c] |_,_=>[]
structure Qs (P:Program) (w:World) (K:FG) (mg:SV) (base:Heap) (DC bd cT:Xd):Prop where
 ex:∃f fd,AU P w K mg base (eB P w) 6 f fd ["text", "lettered"] (spSt K DC bd cT)/\mg "steps_of" = some (.ref f)/\W.keepIn K (.ref f)=true/\(∃ds,Binds K fd ["text", "lettered"] ds/\Vals [.bl true] ds)/\∃g,Ek K fd ["text", "lettered"] ["lettered"] g gV2
structure TR (T:Xa):Prop where
 l4:T.length<=400
 l64:(T.filter BP).length<64
 sh:∀x∈T,x.length<=200
inductive gM (K:FG) (bd cT:Xd) (vs:Xc) (H:Hp) (Q:VK) (E:XK):Prop where
 |mk (z:Str) (T:Xa) (cD:vs=[.str z]) (cG:z.cps.all (· < 128)=true) (cI:z.length<=100) (cY:Rn true z (.ok T) 0 [] [] true) (d5:TR T) (fk:Rd H bd (.dK Bd)) (jh:∀p ns H',aA H H'->H' p=some (.lst (ns.map V.str))->LtL ns T->Q (.ref p) H')
 |bad (z:Str) (e:Nat) (cD:vs=[.str z]) (cG:z.cps.all (· < 128)=true) (cI:z.length<=100) (cY:Rn true z (.bad e) 0 [] [] true) (fk:Rd H bd (.dK Bd)) (jh:i0 H E cT (.int (e:Int)))
 |aI (v:V) (cD:vs=[v]) (cG:di K "str" H v) (cI:i0 H E cT .aI)
def XG:AN ["text"] ["text"] (defScope Fd):=cQ
def V7 {f:Xd} (F:aV K "letters" "letters" Fd f fd) (SO:Qs P w K mg base DC bd cT) (GI:Fn P w K mg base "letters_in" 2 ["steps"] spLi):AU P w K mg base (eB P w) 7 f fd ["text"] (gM K bd cT):=by
 obtain⟨fS,dS,GS,mS,kS,⟨ds,bS,vS⟩,_⟩:=SO.ex;obtain⟨fI,dI,GI,mI,kI,bI⟩:=GI.ex;refine F.okX XG (λvs H Q E h=>?_) (λad A outer s H vs Q E hr h=>?_)
 ·cases h with
  |mk z T e=>subst e;rfl
  |bad z a e=>subst e;rfl
  |aI v e=>subst e;rfl
 ·have eX:aE 2 _:=hr.mono qc;have ps:=Iz (P:=P) (w:=w) (K:=K) (mg:=mg) (base:=base) (N:=["text"]) (qual := "letters") (scope:=defScope Fd) (f:=f) (cd:=ad) (A:=A) (outer:=outer) (s:=s) (H:=H) (E:=E);refine⟨_,AG (AQ (AM GI eX rfl mI kI bI .nil AR (AA (AM GS hr rfl mS kS bS vS ps (AA (pv 0) AC)) AC))),?_⟩;cases h with
  |mk z T e ha h100 RN SP hB q =>
   subst e;exact⟨_,Zj,.mk z true (.ok T) Zj ha h100 RN hB λl H1 s1 hl=>⟨l,T,Zj,hl,SP.l4,SP.l64,SP.sh,λp ns H2 s2 hp L=>q p ns H2 (s1.trans s2) hp L⟩⟩
  |bad z a e ha h100 RN hB q =>
   subst e;exact⟨_,Zj,.mk z true (.bad a) Zj ha h100 RN hB q⟩
  |aI v e hv q =>
   subst e;exact⟨_,Zj,.aI v true Zj hv q⟩
end
def Fl {lt:Bool}{w:List Nat} (h0:0<w.length) (h6:w.length<=6) (hu:w.all BC=true):jS lt w:=by
 refine⟨h0,λk hk jr x hx=>?_⟩
 suffices h:Bv x=true by unfold EH;rw[h];rfl
 have hl:x.length=k:=by rw[←Ae,hx,ZB];omega
 unfold Bv;rw[hl,hx,ZM (show 1<=k by omega),ZM (show k<=6 by omega)];refine List.all_eq_true.mpr λc hc=>List.all_eq_true.mp hu c (mem_of_mem_take hc)
noncomputable abbrev dg (m:Nat):List Nat:=(Nat.toDigits 10 m).map Char.toNat
def N1 {m:Nat} (h:¬ m<10):dg m=dg (m / 10)++dg (m % 10):=by
 have hm:m % 10<10:=Nat.mod_lt m qc;have t:Nat.toDigits 10 (m / 10)++Nat.toDigits 10 (m % 10)=Nat.toDigits 10 (10*(m / 10)+m % 10):=Nat.toDigits_append_toDigits qc qe hm;rw[Nat.div_add_mod]at t;show(Nat.toDigits 10 m).map Char.toNat=_;rw[←t,Zv]
def IM {m:Nat} (h:m<10):dg m=[m+48]:=by
 show(Nat.toDigits 10 m).map Char.toNat=_;rw[Nat.toDigits_of_lt_base h];have:∀d:Nat,d<10->[(Nat.digitChar d)].map Char.toNat=[d+48]:=by decide
 exact this m h
def N2 (m:Nat) (h:0<m):∃c r,dg m=c::r/\c≠48:=by
 induction m using Nat.strongRecOn with
 |_ m ih =>
  by_cases h1:m<10
  ·exact⟨m+48,[],IM h1,qe⟩
  ·obtain⟨c,r,e,hc⟩:=ih (m / 10) qe qe;exact⟨c,r++dg (m % 10),by rw[N1 h1,e];rfl,hc⟩
def Qt (m:Nat):(dg m).all Ax=true:=by
 induction m using Nat.strongRecOn with
 |_ m ih =>
  by_cases h1:m<10
  ·rw[IM h1];simp[Ax];omega
  ·rw[N1 h1,all_append,ih (m / 10) qe,ih (m % 10) qe];rfl
def Qu (l:List Nat) (k:Nat):digitsVal (l.take k)<=digitsVal l:=by
 have key:∀(r:List Nat) (a b:Nat),a<=b->a<=r.foldl (λacc c=>acc*10+(c - 48)) b:=λr=>by
  induction r with
  |nil=>exact λa b h=>h
  |cons c r ih=>exact λa b h=>ih a _ (by show a<=b*10+(c - 48);omega)
 unfold digitsVal
 conv=>rhs;rw[←List.take_append_drop k l,foldl_append]
 exact key _ _ _ (Zz _)
def Ug {lt:Bool}{n:Nat} (h:n<1099511627776):jS lt (dg n):=by
 have ax:0<(dg n).length:=by
  by_cases h1:n<10
  ·rw[IM h1];simp
  ·obtain⟨c,r,e,_⟩:=N2 n qe;rw[e];simp
 refine⟨ax,λk hk jr x hx=>?_⟩;have bf:x.cps.toList.all Ax=true:=by rw[hx];exact List.all_eq_true.mpr λc hc=>List.all_eq_true.mp (Qt n) c (mem_of_mem_take hc)
 suffices h:Gg x=true by unfold EH;rw[h];cases Bv x <;> rfl
 unfold Gg;rw[bf,Bool.true_and,Bool.or_eq_true,decide_eq_true_eq,Bool.and_eq_true,decide_eq_true_eq,Bool.not_eq_true',decide_eq_false_iff_not];rcases Nat.eq_zero_or_pos n with rfl |hp
 ·refine .inl (EV ?_);rw[hx,IM qc];have:k=1:=by rw[IM qc]at jr;simp at jr;omega
  subst this;decide +kernel
 ·obtain⟨c,r,e,hc⟩:=N2 n hp;refine .inr ⟨?_,?_⟩
  ·rw[hx,e];cases k with
   |zero=>omega
   |succ k=>simpa using hc
  ·rw[hx];exact Nat.lt_of_le_of_lt (Qu _ _) (by rw[show digitsVal (dg n)=n from W.KIN.val_back n];exact h)
structure Wd (n:Nv) (x:Str) (v:Nat):Prop where
 ok:WdOk n x
 pw:∀lt,BP x=false\/lt=true->jS lt x.cps.toList
 v:wv n x=v
 len:x.length<=13
def N3 {x:Str} (h:∀c∈x.cps.toList,c<97):BP x=false:=by
 unfold BP;cases e:x.cps.toList with
 |nil=>rfl
 |cons a r =>
  cases r with
  |cons b r=>rfl
  |nil =>
   have:=h a (by rw[e];exact ZH.mpr rfl);show Bo a=false;unfold Bo;rw[ZP qe];rfl
def V8 {n:Nv} (D:D8 n.aB) {p:Str×Nat} (hp:p∈n.aB):Wd n p.1 p.2/\p.1.length<=6/\BP p.1=false:=by
 obtain⟨h1,h2,_⟩:=D.nm p hp;have h3:=h1;unfold Bv at h3;simp only[Bool.and_eq_true,decide_eq_true_eq]at h3;obtain⟨⟨l1,l6⟩,up⟩:=h3;have sl:=Ae p.1
 have hl:BP p.1=false:=N3 λc hc=>by
  have:=List.all_eq_true.mp up c hc;simp[BC]at this;omega
 refine⟨⟨⟨h2,qe,qe,.inr (.inl ⟨hl,h1,Zs.mpr ⟨_,hp,Zj⟩⟩)⟩,λlt _=>Fl qe qe up,?_,qe⟩,l6,hl⟩;unfold wv;rw[hl,Zr qc,Zq h1];exact ED D.nd hp
noncomputable abbrev G3 (n:Nat):Str:=Str.ofString (toString ((n:Nat):Int))
def Sj (n:Nat):(G3 n).cps.toList=dg n:=by
 show(Str.ofString (toString (Int.ofNat n))).cps.toList=_;rw[PyProof.Rows.text_ofNat]
def Uh {n:Nv}{v:Nat} (h:v<2 ^ 40):Wd n (G3 v) v/\BP (G3 v)=false:=by
 have e:=Sj v;have hd:=Qt v
 have pw:∀lt,jS lt (dg v):=λlt=>Ug (n:=v) (by have e40:(2:Nat) ^ 40=1099511627776:=by decide
                                              omega)
 have sl:=Ae (G3 v)
 have hl:(dg v).length<=13:=by
  rw[AS];exact toDigits_len_pow qc qc (Nat.lt_trans h qc)
 rw[e]at sl;have ax:=(pw true).ne
 have jK:∀c∈(G3 v).cps.toList,48<=c/\c<=57:=λc hc=>by
  rw[e]at hc;have:=List.all_eq_true.mp hd c hc;simpa[Ax]using this
 have hnl:BP (G3 v)=false:=N3 λc hc=>by have:=jK c hc;omega
 have hnm:Bv (G3 v)=false:=by
  unfold Bv
  have:(G3 v).cps.toList.all BC=false:=by
   cases e2:(G3 v).cps.toList with
   |nil=>rw[e2]at e;rw[←e]at ax;simp at ax
   |cons c r =>
    have:=jK c (by rw[e2];exact ZJ ..);simp[BC];omega
  rw[this,Bool.and_false]
 refine⟨⟨⟨?_,qe,qe,.inr (.inr ⟨hnl,hnm,jK⟩)⟩,λlt _=>by rw[e];exact pw lt,?_,qe⟩,hnl⟩
 ·rw[←Array.all_toList,List.all_eq_true];exact λc hc=>ZM (by have:=jK c hc;omega)
 ·unfold wv;rw[hnl,Zr qc,hnm,Zr qc,e];exact W.KIN.val_back v
def Ui {n:Nv}{c:Nat} (hc:Bo c=true) (h:BW n.kvs (Sum.inr ⟨#[c]⟩)=some (.int (n.tb ⟨#[c]⟩:Nat))):Wd n ⟨#[c]⟩ (n.tb ⟨#[c]⟩):=by
 have hl:BP ⟨#[c]⟩=true:=hc;have h2:97<=c/\c<=122:=by simpa[Bo]using hc
 refine⟨⟨?_,(by show 0<1;decide),(by show 1<=200;decide),.inl ⟨hl,h⟩⟩,λlt aL=>?_,?_,(by show 1<=13;decide)⟩
 ·rw[←Array.all_toList,List.all_eq_true];intro d hd;have:d=c:=by simpa using hd
  exact ZM qe
 ·rcases aL with z |rfl
  ·rw[hl]at z;cases z
  ·refine⟨(by show 0<1;decide),λk hk jr x hx=>?_⟩
   have:k=1:=by
    have:k<=1:=jr;omega
   subst this
   have:BP x=true:=by
    unfold BP;rw[hx];exact hc
   unfold EH;rw[this];cases Bv x <;> cases Gg x <;> rfl
 ·unfold wv;rw[hl,Zq rfl]
inductive LT
 |nm (x:Str)
 |no (n:Nat)
 |le (c:Nat)
 |ng (t:LT)
 |bn (g:Sg) (a b:LT)
noncomputable def LT.tr:LT->Tr
 | .nm x=>.wd x
 | .no n=>.wd (G3 n)
 | .le c=>.wd ⟨#[c]⟩
 | .ng t=>.ng t.tr
 | .bn g a b=>.bn g a.tr b.tr
noncomputable def LT.ht:LT->Nat
 | .nm _=>0
 | .no _=>0
 | .le _=>0
 | .ng t=>t.ht+1
 | .bn _ a b=>max a.ht b.ht+1
def LT.Ok (ws:Xa) (sg:List Nat):LT->Prop
 | .nm x=>x∈ws
 | .no n=>n<2 ^ 20
 | .le c=>c∈sg
 | .ng t=>t.Ok ws sg
 | .bn g a b=>g.dv/\a.Ok ws sg/\b.Ok ws sg
def f6 (H:Hp):V->LT->Prop
 |v,.nm x=>∃p,v=.ref p/\H p=some (.tup [.str "name", .str x])
 |v,.no n=>∃p,v=.ref p/\H p=some (.tup [.str "number", .int (n:Int)])
 |v,.le c=>∃p,v=.ref p/\H p=some (.tup [.str "letter", .str ⟨#[c]⟩])
 |v,.ng t=>∃p u,v=.ref p/\H p=some (.tup [.str "~", u])/\f6 H u t
 |v,.bn g a b=>∃p u1 u2,v=.ref p/\H p=some (.tup [.str g.s,u1,u2])/\f6 H u1 a/\f6 H u2 b
def f6.aZ (s:aP H H'):∀ {t:LT}{v:V},f6 H v t->f6 H' v t
 | .nm x,v,h=>by
  obtain⟨p,e,h⟩:=h;exact⟨p,e,s _ _ h⟩
 | .no n,v,h=>by
  obtain⟨p,e,h⟩:=h;exact⟨p,e,s _ _ h⟩
 | .le c,v,h=>by
  obtain⟨p,e,h⟩:=h;exact⟨p,e,s _ _ h⟩
 | .ng t,v,h=>by
  obtain⟨p,u,e,h,a⟩:=h;exact⟨p,u,e,s _ _ h,a.aZ s⟩
 | .bn g a b,v,h=>by
  obtain⟨p,u1,u2,e,h,x,y⟩:=h;exact⟨p,u1,u2,e,s _ _ h,x.aZ s,y.aZ s⟩
def aO.tt {d:Xd}{x y:Int} (hd:H d=some (.lst [.int x,.int y])) (s:aO d H H'):aP H H':=λb xs e=>s.old _ _ e (KG e hd λz=>nomatch z)
def Fo {d wl:Xd}{x y:Int}{ws:Xa} (hd:H d=some (.lst [.int x,.int y])) (hw:H wl=some (.lst (ws.map V.str))) (h0:0<ws.length):wl≠d:=KG hw hd λz=>by
 cases ws with
 |nil=>exact absurd h0 qc
 |cons a r=>cases HO.lst.inj z
section
noncomputable abbrev IN:Xa:=["_law_dice", "_law_words", "_law_signs", "_law_deep"]
inductive spTree (D:Nat) (vs:Xc) (H:Hp) (Q:VK) (_E:XK):Prop where
 |mk (d wl:Xd) (a b:Int) (ws:Xa) (sg:Str) (cD:vs=[.ref d,.ref wl,.str sg,.int (D:Int)]) (cG:H d=some (.lst [.int a,.int b])) (cI:H wl=some (.lst (ws.map V.str))) (cY:0<ws.length) (d5:ws.length<=10) (z_s:sg.length<=10)
  (fk:∀v t H',aO d H H'->f6 H' v t->t.Ok ws sg.cps.toList->t.ht<=D->Q v H')
inductive tNum (D:Dq) (σ:St) (H:Hp):Prop where
 |mk (d:Xd) (x y:Int) (e:σ[0]?=some (some (.ref d))) (hd:H d=some (.lst [.int x,.int y])) (k:∀(n:Nat) p H',aO d H H'->H' p=some (.tup [.str "number", .int (n:Int)])->n<2 ^ 20->D.rt (.ref p) H')
def TU:Nat->Sp
 |0=>λ_ _ _ _=>False
 |D+1=>spTree D
noncomputable abbrev V9:Xa:=["_law_dice", "_law_words", "_law_signs", "_law_deep", "_law_kind", "_law_one"]
def scTree:AN V9 IN (defScope Ff):=cQ
def WA {X:Cx}{st:Stmt}{t t':TS} (h:PS X st t) (hw:∀D σ H,t' D σ H->t D σ H):PS X st t':=λaa s σ H D I k=>h aa s σ H D I (hw D σ H k)
def LZ {f:Xd} (F:aV K "_law_tree" "_law_tree" Ff f fd) (B:Bl mg) (GR:Fn P w K mg base "_law_roll" 2 ["_law_dice", "_law_many"] d8) (D:Nat) (G:Fn P w K mg base "_law_tree" (2+D) IN (TU D)):AU P w K mg base aK (3+D) f fd IN (spTree D):=by
 obtain⟨fR,dR,GR,mR,kR,bR⟩:=GR.ex;obtain⟨fT,dT,GT,mT,kT,bT⟩:=G.ex;have e3:3+D=2+D+1:=by omega
 rw[e3];refine F.m scTree λvs H Q E h=>?_;obtain⟨d,wl,a,b,ws,sg,rfl,hd,hw,h0,iX,hsg,q⟩:=h;refine⟨Zj,λad A outer s hr=>?_⟩;have eX:aE 2 _:=hr.mono qe;have nd:=scTree.nd
 refine⟨_,CD (Ag (i:=4) nd Zj (Or.inl Zj) (Bz (AL FF (pv 3) AE (AO _)) (AM GR eX Zj mR kR bR .nil AR (AA (pv 0) (AA AE AC))) (AM GR eX Zj mR kR bR .nil AR (AA (pv 0) (AA AE AC)))))
  (AF (Ak (AL FE (pv 4) AE (AO _)) (AG (AQ (Ay (AA AI (AA (BJ (Au K rfl) (pv 1) (AM GR eX rfl mR kR bR .nil AR (AA (pv 0) (AA (AW (BV K rfl) rfl B.len PySem.boot_len (AA (pv 1) AC)) AC))) (λ_ _=>rfl)) AC))))) AV)
  (CD (Ak (PW.pt (DF (AL A7 (pv 4) AE (AO _)) (CJ (PW.pt (Bt (AL A7 (pv 4) AE (AO _)) (BX (AL A7 (pv 2) AI (AO _)))))))) (AG (WA (t':=tNum) (AQ (Ay (AA AI (AA (BJ (Au K rfl) (A8 (AA (AM GR eX rfl mR kR bR .nil AR (AA (pv 0) (AA AE AC))) (AA (AM GR eX rfl mR kR bR .nil AR (AA (pv 0) (AA (Af Ja AE AE) AC))) (AA (AM GR eX rfl mR kR bR .nil AR (AA (pv 0) (AA AE AC))) AC)))) (AM GR eX rfl mR kR bR .nil AR (AA (pv 0) (AA AE AC))) (λ_ _=>rfl)) AC)))) ?numH)) AV)
  (AF (Ak (AL A7 (pv 4) AE (AO _)) (AG (AQ (Ay (AA AI (AA (BJ Fz (pv 2) (AM GR eX rfl mR kR bR .nil AR (AA (pv 0) (AA (AW At rfl B.len PySem.boot_len (AA (pv 2) AC)) AC))) (λ_ _=>rfl)) AC))))) AV)
  (AF (Ak (AL A7 (pv 4) AE (AO _)) (AG (AQ (Ay (AA AI (AA (AM GT hr rfl mT kT bT .nil AR (AA (pv 0) (AA (pv 1) (AA (pv 2) (AA (Af Eh (pv 3) AE) AC))))) AC))))) AV)
  (AF (Ag (i:=5) nd rfl (Or.inl rfl) (AM GT hr rfl mT kT bT .nil AR (AA (pv 0) (AA (pv 1) (AA (pv 2) (AA (Af Eh (pv 3) AE) AC))))))
  (AG (AQ (Ay (AA (BJ Fz AI (Af Eh (pv 4) AE) (λ_ _=>rfl)) (AA (pv 5) (AA (AM GT hr rfl mT kT bT .nil AR (AA (pv 0) (AA (pv 1) (AA (pv 2) (AA (Af Eh (pv 3) AE) AC))))) AC))))))))))),?_⟩
 case numH =>
  rintro D σ H1 ⟨d,x1,y1,e0,eS,k⟩;refine⟨_,e0,d,x1,y1,9,Zj,eS,qc,qc,λn1 a2 b2 n10 n11=>?_⟩;have sA:=Az (x':=a2) (y':=b2) eS;refine⟨_,e0,_,_,Zj,Zj,⟨qc,qc,qc⟩,d,a2,b2,_,Zj,AB,qc,qc,λn2 a3 b3 n20 n21=>?_⟩;have sB:=Az (x':=a3) (y':=b3) (AB (H:=H1) (a:=d) (o:=.lst [.int a2,.int b2]));refine⟨_,e0,d,a3,b3,64,Zj,AB,qc,qc,λn3 a4 b4 n30 n31=>?_⟩;have sC:=Az (x':=a4) (y':=b4) (AB (H:=upd H1 d (.lst [.int a2,.int b2])) (a:=d) (o:=.lst [.int a3,.int b3]));have s4:=(sA.trans sB).trans sC;have iS:=AB (H:=upd (upd H1 d (.lst [.int a2,.int b2])) d (.lst [.int a3,.int b3])) (a:=d) (o:=.lst [.int a4,.int b4]);generalize upd (upd (upd H1 d (.lst [.int a2,.int b2])) d (.lst [.int a3,.int b3])) d (.lst [.int a4,.int b4])=H4 at s4 iS ⊢;refine⟨gU,λp hp=>?_⟩;have hpd:p≠d:=Ne.symm (AJ iS hp);have s5:=s4.step (AD (aA.refl _) hp (o:=HO.lst [V.int n1,V.int n2,V.int n3]));have jt:(upd H4 p (.lst [V.int n1,V.int n2,V.int n3])) d=some (.lst [.int a4,.int b4]):=by rw[AH (Ne.symm hpd)];exact iS
  have hp5:=AB (H:=H4) (a:=p) (o:=HO.lst [V.int n1,V.int n2,V.int n3]);generalize upd H4 p (.lst [V.int n1,V.int n2,V.int n3])=H5 at s5 jt hp5 ⊢;refine⟨_,e0,d,a4,b4,3,Zj,jt,qc,qc,λix a5 b5 ix0 ix1=>?_⟩;have sD:=Az (x':=a5) (y':=b5) jt;have hp6:=sD.old _ _ hp5 hpd;obtain⟨v,hv,ff⟩:=IE (xs:=[V.int n1,V.int n2,V.int n3]) ix0 ix1;have e20:(2:Int) ^ (20:Int).toNat=1048576:=by decide
  have n21':n2<1048576:=e20 ▸ n21
  obtain⟨n,rfl,hn⟩:∃n:Nat,v=V.int (n:Int)/\n<2 ^ 20:=by
   have hm:=Z4 ff;simp only[mem_cons,not_mem_nil,or_false]at hm;have p20:(2:Nat) ^ 20=1048576:=by decide
   rcases hm with rfl |rfl |rfl
   ·exact⟨n1.toNat,by rw[Int.toNat_of_nonneg n10],qe⟩
   ·exact⟨n2.toNat,by rw[Int.toNat_of_nonneg n20],qe⟩
   ·exact⟨n3.toNat,by rw[Int.toNat_of_nonneg n30],qe⟩
  refine⟨p,_,ix,_,Zj,Zj,aN.of hp6,hv,fc,λp2 am=>?_⟩;exact k n p2 _ ((s5.trans sD).step (AD (aA.refl _) am)) AB hn
 refine⟨λσ H'=>∃kd:Int,σ=[some (.ref d),some (.ref wl),some (.str sg),some (.int (D:Int)),some (.int kd),none]/\0<=kd/\kd<8/\(D=0->kd<4)/\aO d H H',λR hR=>?_,?_⟩
 ·refine⟨_,Zj,_,_,Zj,Zj,_,Zj,?_⟩;refine B4 (λhp=>?_) (λhp=>?_)
  ·have hD:(0:Int)<(D:Int):=ZU hp;exact⟨_,Zj,d,a,b,8,Zj,hd,qc,qc,λkd a1 b1 k0 k1=>hR _ _ ⟨kd,Zj,k0,k1,λz=>absurd hD qe,Az hd⟩⟩
  ·exact⟨_,Zj,d,a,b,4,Zj,hd,qc,qc,λkd a1 b1 k0 k1=>hR _ _ ⟨kd,Zj,k0,qe,λ_=>k1,Az hd⟩⟩
 rintro σ H1 ⟨kd,rfl,k0,k8,kD,s1⟩;have hw1:=s1.old _ _ hw (Fo hd hw h0);obtain⟨x1,y1,eS⟩:=s1.bY;have hwl:(ws.map V.str).length=ws.length:=AS _;refine⟨_,Zj,_,_,Zj,Zj,_,Zj,?_⟩;refine B4 (λ_=>?_) (λh2=>?_)
 ·-- a name
  refine⟨_,Zj,_,Zj,_,Zj,wl,_,Zj,.inl (aN.of hw1),d,x1,y1,_,Zj,eS,qe,qe,λr2 a2 b2 r20 r21=>?_⟩;have sx:=Az (x':=a2) (y':=b2) eS;have hw2:=sx.old _ _ hw1 (Fo eS hw1 h0);obtain⟨v,hv,ff⟩:=IE (xs:=ws.map V.str) r20 (by exact r21);rw[ZF]at ff;obtain⟨y,hy,rfl⟩:=Z6.mp ff;refine⟨wl,_,r2,_,Zj,Zj,aN.of hw2,hv,fc,λp hp=>?_⟩;exact q (.ref p) (.nm y) _ ((s1.trans sx).step (AD (aA.refl _) hp)) ⟨p,Zj,AB⟩ (Z4 hy) (Nat.zero_le _)
 have hk2:¬ kd<2:=λz=>h2 (ZM z);refine⟨λσ H'=>σ=[some (.ref d),some (.ref wl),some (.str sg),some (.int (D:Int)),some (.int kd),none]/\H'=H1/\kd≠2/\(kd=3->sg≠ ""),λR hR=>?_,?_⟩
 ·have num:tNum { nx:=R,rt:=Q } [some (.ref d),some (.ref wl),some (.str sg),some (.int (D:Int)),some (.int kd),none] H1:=⟨d,x1,y1,rfl,eS,λn p H' sx hp hn=>q (.ref p) (.no n) _ (s1.trans sx) ⟨p,rfl,hp⟩ hn (Nat.zero_le _)⟩;refine⟨_,Zj,Zj,_,Zj,?_⟩;by_cases e2:kd=2
  ·rw[ZM (show V.int kd=V.int 2 by rw[e2])];exact Ac (Ac num)
  rw[ZP (show ¬ V.int kd=V.int 2 from λz=>e2 (V.int.inj z))];refine AT ⟨_,Zj,Zj,_,Zj,?_⟩;by_cases e3:kd=3
  ·rw[ZM (show V.int kd=V.int 3 by rw[e3])];refine Ac ⟨_,Zj,Zj,_,Zj,?_⟩;by_cases es:sg = ""
   ·rw[ZM (show V.str sg=V.str "" by rw[es])];exact Ac num
   ·rw[ZP (show ¬ V.str sg=V.str "" from λz=>es (V.str.inj z))];exact AT (hR _ _ ⟨Zj,Zj,e2,λ_=>es⟩)
  ·rw[ZP (show ¬ V.int kd=V.int 3 from λz=>e3 (V.int.inj z))];exact AT (AT (hR _ _ ⟨Zj,Zj,e2,λz=>absurd z e3⟩))
 rintro σ H1' ⟨rfl,rfl,e2,hs3⟩;refine⟨_,Zj,Zj,_,Zj,?_⟩;by_cases e3:kd=3
 ·-- a letter
  rw[ZM (show V.int kd=V.int 3 by rw[e3])]
  have ax:0<sg.length:=by
   rcases Nat.eq_zero_or_pos sg.length with z |z
   ·exfalso;refine hs3 e3 (EV ?_);have:=Ae sg;rw[z]at this;rw[length_eq_zero_iff.mp this];decide +kernel
   ·exact z
  refine Ac ⟨_,Zj,_,Zj,_,Zj,sg,Zj,Nat.le_of_lt (AK qe),d,x1,y1,_,Zj,eS,qe,qe,λr2 a2 b2 r20 r21=>?_⟩;have sx:=Az (x':=a2) (y':=b2) eS;obtain⟨j,rfl⟩:∃j:Nat,r2=(j:Int):=⟨r2.toNat,qe⟩;have hj:j<sg.cps.toList.length:=by rw[Ae];omega
  obtain⟨c,ff⟩:∃c,sg.cps.toList[j]?=some c:=⟨_,Z7 hj⟩;have hv:=BO ff;refine⟨sg,(j:Int),c,Zj,Zj,Nat.le_of_lt (AK qe),hv,fc,λp hp=>?_⟩;exact q (.ref p) (.le c) _ ((s1.trans sx).step (AD (aA.refl _) hp)) ⟨p,Zj,AB⟩ (Z4 ff) (Nat.zero_le _)
 rw[ZP (show ¬ V.int kd=V.int 3 from λz=>e3 (V.int.inj z))];refine AT ?_
 obtain⟨D',rfl⟩:∃D',D=D'+1:=by
  cases D with
  |zero=>have:=kD rfl;omega
  |succ D'=>exact⟨D',rfl⟩
 have eD:((D'+1:Nat):Int) - 1=(D':Int):=by omega
 have step:∀ {H2:Hp}{vs:Xc}{Q:VK}{E:XK},aO d H H2->vs=[.ref d,.ref wl,.str sg,.int (((D'+1:Nat):Int) - 1)]->(∀v t H',aO d H2 H'->f6 H' v t->t.Ok ws sg.cps.toList->t.ht<=D'->Q v H')->TU (D'+1) vs H2 Q E:=λ{H2 vs Q E} sx e k=>by
  obtain⟨x2,y2,hd2⟩:=sx.bY;exact⟨d,wl,x2,y2,ws,sg,by rw[e,eD],hd2,sx.old _ _ hw (Fo hd hw h0),h0,iX,hsg,k⟩
 refine⟨_,Zj,Zj,_,Zj,?_⟩;by_cases e4:kd=4
 ·rw[ZM (show V.int kd=V.int 4 by rw[e4])];refine Ac ⟨_,Zj,_,Zj,_,Zj,_,Zj,_,_,Zj,Zj,step s1 Zj λv t H2 s2 lt ok ht=>⟨fc,λp hp=>?_⟩⟩;have sp:=AD (aA.refl _) hp (o:=HO.tup [V.str "~", v]);exact q (.ref p) (.ng t) _ ((s1.trans s2).step sp) ⟨p,v,Zj,AB,lt.aZ (aP.of sp)⟩ ok (Nat.succ_le_succ ht)
 rw[ZP (show ¬ V.int kd=V.int 4 from λz=>e4 (V.int.inj z))];refine AT ⟨_,Zj,_,Zj,_,Zj,_,Zj,_,_,Zj,Zj,step s1 Zj λv1 t1 H2 s2 iP ok1 ht1=>?_⟩
 obtain⟨g,hg,hat⟩:∃g:Sg,g.dv/\gT ("|^&" : Str).cps.toList (kd - 5)=some g.c:=by
  have:kd=5\/kd=6\/kd=7:=by omega
  rcases this with rfl |rfl |rfl
  ·exact⟨.or,True.intro,qb⟩
  ·exact⟨.xo,True.intro,qb⟩
  ·exact⟨.an,True.intro,qb⟩
 refine⟨_,Zj,_,_,Zj,Zj, "|^&", kd - 5,g.c,Zj,Zj,gU,hat,_,Zj,_,Zj,_,Zj,_,Zj,_,Zj,_,_,Zj,Zj,step (s1.trans s2) Zj λv2 t2 H3 s3 lt2 ok2 ht2=>⟨gU,λp hp=>?_⟩⟩;obtain⟨x2,y2,hd2⟩:=s2.bY;rw[NE];have sp:=AD (aA.refl _) hp (o:=HO.tup [V.str g.s,v1,v2]);exact q (.ref p) (.bn g t1 t2) _ (((s1.trans s2).trans s3).step sp) ⟨p,v1,v2,Zj,AB,(iP.aZ (aO.tt hd2 s3)).aZ (aP.of sp),lt2.aZ (aP.of sp)⟩ ⟨hg,ok1,ok2⟩ (by show max t1.ht t2.ht+1<=D'+1;omega)
def N4 {f:Xd} (F:aV K "_law_tree" "_law_tree" Ff f fd) (B:Bl mg) (m:mg "_law_tree" = some (.ref f)) (b:Binds K fd IN []) (GR:Fn P w K mg base "_law_roll" 2 ["_law_dice", "_law_many"] d8):∀D:Nat,AU P w K mg base aK (3+D) f fd IN (spTree D)
 |0=>LZ F B GR 0 ⟨⟨f,fd,F.ok (k:=1) scTree (λvs H Q E h=>h.elim) (λad A outer s H vs Q E hr h=>h.elim),m,F.kp,b⟩⟩
 |D+1=>LZ F B GR (D+1) ⟨⟨f,fd,by have:=N4 F B m b GR D;rw[show 3+D=2+(D+1) by omega]at this;exact this,m,F.kp,b⟩⟩
end
end Mk
end
section
namespace L2
open PySem
def BS {X:Cx}{st:Stmt}{rest:List Stmt}{t u:TS} (h1:PSw X st t) (h2:fj X rest u):fj X (st::rest) (Vi t u):=⟨CD h1.h h2.h⟩
end L2
namespace Mk
open PySem L2 MK PySem.NumText
structure NW (x:Str):Prop where
 pw:jS true x.cps.toList
 as:x.cps.all (· < 128)=true
 l6:x.length<=6
 sm:∀c∈x.cps.toList,c<97
noncomputable def lb:Nat->Nat
 |0=>14
 |h+1=>2*lb h+5
def TV:∀D,D<=5->lb D<=603:=by decide
def Qw:∀D,14<=lb D
 |0=>Zz _
 |h+1=>by have:=Qw h;show 14<=2*lb h+5;omega
def CW (x y:Str):(x++y).cps.toList=x.cps.toList++y.cps.toList:=by
 show(x.cps++y.cps).toList=_;exact Array.toList_append
def BE (x y:Str):(x++y).length=x.length+y.length:=by rw[←Ae,CW,ZI,Ae,Ae]
def CY {x y:Str} (h:x.cps.all (· < 128)=true) (h':y.cps.all (· < 128)=true):(x++y).cps.all (· < 128)=true:=by
 rw[←Array.all_toList]at h h' ⊢;rw[CW,all_append,h,h'];rfl
structure BlS (x:Str):Prop where
 bk:Bk x.cps.toList
 as:x.cps.all (· < 128)=true
 l1:x.length<=1
def XH:BlS "" := ⟨.inl qb,qb,qb⟩
def XI:BlS " " := ⟨.inr qb,qb,qb⟩
def NoL:LT->Prop
 | .nm _=>False
 | .no _=>False
 | .le _=>False
 |_=>True
noncomputable def Qx:LT->Nat
 | .ng _=>3
 | .bn g _ _=>g.b - 1
 |_=>0
section
noncomputable abbrev NG:Xa:=["_law_dice", "_law_tree_here", "_law_rank"]
inductive spWrt (D:Nat) (vs:Xc) (H:Hp) (Q:VK) (_E:XK):Prop where
 |mk (d:Xd) (a b:Int) (v:V) (t:LT) (ws:Xa) (sg:List Nat) (r:Nat) (cD:vs=[.ref d,v,.int (r:Int)]) (cG:H d=some (.lst [.int a,.int b])) (cI:f6 H v t) (cY:t.Ok ws sg) (d5:t.ht<=D) (fk:r<=3) (jh:D<=5) (z_7:∀x∈ws,NW x) (z_s:∀c∈sg,Bo c=true)
  (z_8:∀z H',aO d H H'->Wr true t.tr r z.cps.toList->z.cps.all (· < 128)=true->z.length<=lb D->Q (.str z) H')
def Uj:Nat->Sp
 |0=>λ_ _ _ _=>False
 |D+1=>spWrt D
noncomputable abbrev XJ:Xa:=["_law_dice", "_law_tree_here", "_law_rank", "_law_blank", "_law_own", "_law_found"]
def scWrt:AN XJ NG (defScope C3):=cQ
noncomputable abbrev Sk:LK:=[((Sum.inr "|" : Key),.int 0),(Sum.inr "^", .int 1),(Sum.inr "&", .int 2),(Sum.inr "~", .int 3)]
def Uk {g:Sg} (h:g.dv):BW (Dy [] Sk) (Sum.inr g.s:Key)=some (.int ((g.b - 1:Nat):Int)):=by cases g <;> first |exact h.elim |decide +kernel
def own_no:BW (Dy [] Sk) (Sum.inr "~" : Key)=some (.int ((3:Nat):Int)):=by decide +kernel
def N5 {f:Xd} (F:aV K "_law_written" "_law_written" C3 f fd) (B:Bl mg) (GR:Fn P w K mg base "_law_roll" 2 ["_law_dice", "_law_many"] d8) (D:Nat) (G:Fn P w K mg base "_law_written" (2+D) NG (Uj D)):AU P w K mg base aK (3+D) f fd NG (spWrt D):=by
 obtain⟨fR,dR,GR,mR,kR,bR⟩:=GR.ex;obtain⟨fT,dT,GT,mT,kT,bT⟩:=G.ex;have e3:3+D=2+D+1:=by omega
 rw[e3];refine F.m scWrt λvs H Q E h=>?_;obtain⟨d,a,b,v,t,ws,sg,r,rfl,hd,lt,ok,ht,i7,hD5,hW,hSg,q⟩:=h;refine⟨Zj,λad A outer s hr=>?_⟩;have hu:=Dz hr;have eX:aE 2 _:=hr.mono qe;have nd:=scWrt.nd;have hlb:=TV D hD5
 refine⟨_,fj.h (BS (Bj (i:=3) nd Zj (Or.inl Zj) (EY R5 (.mk AI) (.mk (BU Fw Zj B.int E5 (AA (Bf A7 (eP.h (Bu GR eX Zj mR kR bR .nil AR (As (.mk (pv 0)) (As (.mk AE) Cd)))) AE (AO _)) AC)))))
  (BS (Cr (.mk (AL DK (eP.h (Jq (CT K rfl) (.mk (pv 1)) (.mk AE) (λ_ _=>rfl))) (Ay (AA AI (AA AI (AA AI AC)))) rfl)) (Ar (.mk (AQ (eP.h (EY BG (.mk (pv 3)) (.mk (BU (bQ.or Jb Jp) rfl B.str Ga (AA (eP.h (Jq (CT K rfl) (.mk (pv 1)) (.mk AE) (λ_ _=>rfl))) AC)))))))) CL)
  (BS (Bj (i:=4) nd rfl (Or.inl rfl) (.mk (EN hu (Ra (FN AI AE (FN AI AE (FN AI AE (FN AI AE RZ)))) rfl rfl qc qc) (eP.h (Jq (CT K rfl) (.mk (pv 1)) (.mk AE) (λ_ _=>rfl))) (λ_ _=>rfl))))
  (BS (Cr (.mk (AL A7 (eP.h (Jq (CT K rfl) (.mk (pv 1)) (.mk AE) (λ_ _=>rfl))) AI (AO _)))
   (Ar (Bj (i:=5) nd rfl (Or.inl rfl) (EY BG (.mk AI) (Bu GT hr rfl mT kT bT .nil AR (As (.mk (pv 0)) (As (Jq (CT K rfl) (.mk (pv 1)) (.mk AE) (λ_ _=>rfl)) (As (.mk AE) Cd)))))))
   (Ar (Bj (i:=5) nd rfl (Or.inl rfl) (EY BG (EY BG (EY BG (Bu GT hr rfl mT kT bT .nil AR (As (.mk (pv 0)) (As (Jq (CT K rfl) (.mk (pv 1)) (.mk AE) (λ_ _=>rfl)) (As (.mk (pv 4)) Cd)))) (.mk (pv 3))) (Jq (CT K rfl) (.mk (pv 1)) (.mk AE) (λ_ _=>rfl))) (Bu GT hr rfl mT kT bT .nil AR (As (.mk (pv 0)) (As (Jq (CT K rfl) (.mk (pv 1)) (.mk AE) (λ_ _=>rfl)) (As (EY B0 (.mk (pv 4)) (.mk AE)) Cd))))))))
  (Ar (.mk (AQ (eP.h (Vf (.mk (PW.pt (DF (AL FE (pv 4) (pv 2) (AO _)) (CJ (AL A7 (eP.h (Bu GR eX rfl mR kR bR .nil AR (As (.mk (pv 0)) (As (.mk AE) Cd)))) AE (AO _)))))) (EY BG (EY BG (EY BG (.mk (pv 3)) (.mk AI)) (.mk (pv 5))) (.mk AI)) (.mk (pv 5))))))))))),?_⟩
 refine⟨λσ H'=>∃bl:Str,σ=[some (.ref d),some v,some (.int (r:Int)),some (.str bl),none,none]/\BlS bl/\aO d H H',λR hR=>?_,?_⟩
 ·refine⟨_,Zj,d,a,b,6,Zj,hd,qc,qc,λk a1 b1 k0 k1=>⟨Zj,?_⟩⟩;refine .inr ⟨_,Zj, " ", _,Zj,Zj,?_⟩;cases decide (V.int k=V.int 0)with
  |true=>exact .inr ⟨rfl,hR _ _ ⟨" ", rfl,XI,Az hd⟩⟩
  |false=>exact .inl ⟨rfl,hR _ _ ⟨"", rfl,XH,Az hd⟩⟩
 rintro σ H1 ⟨bl,rfl,gR,s1⟩;have iP:=lt.aZ (aO.tt hd s1);obtain⟨x1,y1,eS⟩:=s1.bY
 have leaf:∀ {x:Str}{H2:Hp},aO d H H2->jS true x.cps.toList->x.cps.all (· < 128)=true->x.length<=13->(t.tr=.wd x)->bl.length+x.length<=sizeLine/\Q (.str (bl++x)) H2:=λ{x H2} s2 pw as l13 e=>by
  have l1:=gR.l1;have:=Qw D;refine⟨Nat.le_of_lt (AK qe),q _ _ s2 ?_ (CY gR.as as) (by rw[BE];omega)⟩;rw[e,CW];exact .wd x r _ gR.bk pw
 refine⟨λσ H'=>σ=[some (.ref d),some v,some (.int (r:Int)),some (.str bl),none,none]/\NoL t/\aO d H H',λR hR=>?_,?_⟩
 ·have sa:∀ {tp},H1 tp=none->aA H1 (upd H1 tp (.tup [V.str "name", V.str "number", V.str "letter"])):=λgJ=>AD (aA.refl _) gJ;cases t with
  |nm x =>
   obtain⟨p,rfl,hp⟩:=iP;have nw:=hW x ok;have l6:=nw.l6;refine⟨_,Zj,p,_,0,.str "name", Zj,Zj,bH.of hp,Zj,gU,λtp gJ=>⟨tp,_,Zj,.inr (bH.of AB),Zj,Zj,_,Zj,?_⟩⟩;rw[show(if false=true then !dz (V.str "name") [V.str "name", V.str "number", V.str "letter"]else dz (V.str "name") [V.str "name", V.str "number", V.str "letter"])=true by decide +kernel];refine Ac ⟨_,Zj,_,Zj,p,_,1,.str x,Zj,Zj,bH.of (sa gJ _ _ hp),Zj,.inr ⟨x,Zj,?_⟩⟩;obtain⟨h1,h2⟩:=leaf (s1.step (sa gJ)) nw.pw nw.as qe rfl;exact⟨bl,x,Zj,Zj,h1,h2⟩
  |no n =>
   obtain⟨p,rfl,hp⟩:=iP;have n40:n<2 ^ 40:=Nat.lt_trans ok qc;have fw:=(Uh (n:=⟨[],[],λ_=>0⟩) n40).1;refine⟨_,Zj,p,_,0,.str "number", Zj,Zj,bH.of hp,Zj,gU,λtp gJ=>⟨tp,_,Zj,.inr (bH.of AB),Zj,Zj,_,Zj,?_⟩⟩;rw[show(if false=true then !dz (V.str "number") [V.str "name", V.str "number", V.str "letter"]else dz (V.str "number") [V.str "name", V.str "number", V.str "letter"])=true by decide +kernel];refine Ac ⟨_,Zj,_,Zj,p,_,1,.int (n:Int),Zj,Zj,bH.of (sa gJ _ _ hp),Zj,.inl ⟨(n:Int),Zj,JN n40,?_⟩⟩;obtain⟨h1,h2⟩:=leaf (x:=G3 n) (s1.step (sa gJ)) (fw.pw true (.inr rfl)) fw.ok.as fw.len rfl;exact⟨bl,G3 n,Zj,Zj,h1,h2⟩
  |le c =>
   obtain⟨p,rfl,hp⟩:=iP;have lw:=Ui (n:=⟨[],[(Sum.inr ⟨#[c]⟩,.int ((0:Nat):Int))],λ_=>0⟩) (hSg c ok) (by simp[BW]);refine⟨_,Zj,p,_,0,.str "letter", Zj,Zj,bH.of hp,Zj,gU,λtp gJ=>⟨tp,_,Zj,.inr (bH.of AB),Zj,Zj,_,Zj,?_⟩⟩;rw[show(if false=true then !dz (V.str "letter") [V.str "name", V.str "number", V.str "letter"]else dz (V.str "letter") [V.str "name", V.str "number", V.str "letter"])=true by decide +kernel];refine Ac ⟨_,Zj,_,Zj,p,_,1,.str ⟨#[c]⟩,Zj,Zj,bH.of (sa gJ _ _ hp),Zj,.inr ⟨⟨#[c]⟩,Zj,?_⟩⟩;obtain⟨h1,h2⟩:=leaf (x:=⟨#[c]⟩) (s1.step (sa gJ)) (lw.pw true (.inr rfl)) lw.ok.as lw.len rfl;exact⟨bl,⟨#[c]⟩,Zj,Zj,h1,h2⟩
  |ng t' =>
   obtain⟨p,u,rfl,hp,lu⟩:=iP;refine⟨_,Zj,p,_,0,.str "~", Zj,Zj,bH.of hp,Zj,gU,λtp gJ=>⟨tp,_,Zj,.inr (bH.of AB),Zj,Zj,_,Zj,?_⟩⟩;rw[show(if false=true then !dz (V.str "~") [V.str "name", V.str "number", V.str "letter"]else dz (V.str "~") [V.str "name", V.str "number", V.str "letter"])=false by decide +kernel];exact AT (hR _ _ ⟨Zj,True.intro,s1.step (sa gJ)⟩)
  |bn g t1 t2 =>
   obtain⟨p,u1,u2,rfl,hp,lu1,lu2⟩:=iP;refine⟨_,Zj,p,_,0,.str g.s,Zj,Zj,bH.of hp,Zj,gU,λtp gJ=>⟨tp,_,Zj,.inr (bH.of AB),Zj,Zj,_,Zj,?_⟩⟩;rw[show(if false=true then !dz (V.str g.s) [V.str "name", V.str "number", V.str "letter"]else dz (V.str g.s) [V.str "name", V.str "number", V.str "letter"])=false by cases g <;> decide +kernel];exact AT (hR _ _ ⟨Zj,True.intro,s1.step (sa gJ)⟩)
 rintro σ H2 ⟨rfl,jk,s2⟩;have lt2:=lt.aZ (aO.tt hd s2);clear leaf iP eS;refine⟨λσ H'=>σ=[some (.ref d),some v,some (.int (r:Int)),some (.str bl),some (.int (Qx t:Int)),none]/\aO d H H',λR hR=>?_,?_⟩
 ·intro dp hdp;have sb:aA H2 (upd (upd H2 dp (.dK [])) dp (.dK (Dy [] Sk))):=λb o e=>by rw[AH (AJ e hdp),AH (AJ e hdp)];exact e
  refine⟨AB,Sk,rfl,qc,?_⟩;cases t with
  |nm x=>exact jk.elim
  |no n=>exact jk.elim
  |le c=>exact jk.elim
  |ng t' =>
   obtain⟨p,u,rfl,hp,lu⟩:=lt2;exact⟨_,Zj,p,_,0,.str "~", Zj,Zj,bH.of (sb _ _ hp),Zj,dp,.int ((3:Nat):Int),Zj,.inl ⟨_,Sum.inr "~", .inl AB,Zj,own_no.symm⟩,hR _ _ ⟨Zj,s2.step sb⟩⟩
  |bn g t1 t2 =>
   obtain⟨p,u1,u2,rfl,hp,lu1,lu2⟩:=lt2;exact⟨_,Zj,p,_,0,.str g.s,Zj,Zj,bH.of (sb _ _ hp),Zj,dp,.int ((g.b - 1:Nat):Int),Zj,.inl ⟨_,Sum.inr g.s,.inl AB,Zj,(Uk ok.1).symm⟩,hR _ _ ⟨Zj,s2.step sb⟩⟩
 rintro σ H3 ⟨rfl,s3⟩;have lt3:=lt.aZ (aO.tt hd s3);obtain⟨x3,y3,ju⟩:=s3.bY;clear lt2 s2 s1;refine⟨λσ H'=>∃fz:Str,σ=[some (.ref d),some v,some (.int (r:Int)),some (.str bl),some (.int (Qx t:Int)),some (.str fz)]/\aO d H H'/\(∀r',r'<=Qx t->Wr true t.tr r' fz.cps.toList)/\fz.cps.all (· < 128)=true/\fz.length+3<=lb D,λR hR=>?_,?_⟩
 ·obtain⟨D',rfl⟩:∃D',D=D'+1:=by
   cases D with
   |zero=>cases t with
    |nm x=>exact jk.elim
    |no n=>exact jk.elim
    |le c=>exact jk.elim
    |ng t'=>exact absurd ht (by show ¬ t'.ht+1<=0;omega)
    |bn g t1 t2=>exact absurd ht (by show ¬ max t1.ht t2.ht+1<=0;omega)
   |succ D'=>exact⟨D',rfl⟩
  have hlb':=TV D' qe;have elb:lb (D'+1)=2*lb D'+5:=rfl;have l1:=gR.l1;cases t with
  |nm x=>exact jk.elim
  |no n=>exact jk.elim
  |le c=>exact jk.elim
  |ng t' =>
   obtain⟨p,u,rfl,hp,lu⟩:=lt3;refine⟨_,Zj,p,_,0,.str "~", Zj,Zj,bH.of hp,Zj,Zj,_,Zj,?_⟩;rw[show decide (V.str "~" = V.str "~")=true by decide +kernel];refine Ac ⟨_,Zj,_,Zj,p,_,1,u,Zj,Zj,bH.of hp,Zj,d,x3,y3,u,t',ws,sg,3,Zj,ju,lu,ok,Nat.le_of_succ_le_succ ht,qc,qe,hW,hSg,λz H4 s4 wz az lz=>?_⟩;refine⟨"~", z,Zj,Zj,Nat.le_of_lt (AK (by rw[show("~" : Str).length=1 by decide +kernel];omega)),hR _ _ ⟨"~" ++ z,Zj,s3.trans s4,λr' i8=>?_,CY qb az,?_⟩⟩
   ·rw[CW,show("~" : Str).cps.toList=[126] by decide +kernel];exact .ng _ r' _ i8 wz
   ·rw[BE,show("~" : Str).length=1 by decide +kernel];omega
  |bn g t1 t2 =>
   obtain⟨p,u1,u2,rfl,hp,lu1,lu2⟩:=lt3;have hg1:1<=g.b:=by have:=ok.1;cases g <;> first |exact this.elim |decide
   have hg3:g.b<=3:=by have:=ok.1;cases g <;> first |exact this.elim |decide
   have hm:t1.ht<=D'/\t2.ht<=D':=by
    have:max t1.ht t2.ht+1<=D'+1:=ht;omega
   refine⟨_,Zj,p,_,0,.str g.s,Zj,Zj,bH.of hp,Zj,Zj,_,Zj,?_⟩;rw[show decide (V.str g.s=V.str "~")=false by have:=ok.1;cases g <;> first |exact this.elim |decide +kernel];refine AT ⟨_,Zj,_,Zj,p,_,1,u1,Zj,Zj,bH.of hp,Zj,_,Zj,d,x3,y3,u1,t1,ws,sg,g.b - 1,Zj,ju,lu1,ok.2.1,hm.1,qe,qe,hW,hSg,λz1 H4 s4 wz1 az1 lz1=>?_⟩;have hp4:H4 p=_:=(aO.tt ju s4) _ _ hp;have lu24:=lu2.aZ (aO.tt ju s4);obtain⟨x4,y4,iS⟩:=s4.bY;have lg:g.s.length=1:=by cases g <;> decide +kernel
   have ag:g.s.cps.all (· < 128)=true:=by cases g <;> decide +kernel
   have cg:g.s.cps.toList=[g.c]:=by cases g <;> decide +kernel
   refine⟨_,Zj,z1,bl,Zj,Zj,Nat.le_of_lt (AK qe),_,Zj,p,_,0,.str g.s,Zj,Zj,bH.of hp4,Zj,z1++bl,g.s,Zj,Zj,Nat.le_of_lt (AK (by rw[BE];omega)),?_⟩;refine⟨_,Zj,_,Zj,p,_,2,u2,Zj,Zj,bH.of hp4,Zj,_,Zj,_,_,Zj,Zj,d,x4,y4,u2,t2,ws,sg,g.b,?_,iS,lu24,ok.2.2,hm.2,qe,qe,hW,hSg,λz2 H5 s5 wz2 az2 lz2=>?_⟩
   ·show [V.ref d,u2,V.int (((g.b - 1:Nat):Int)+1)]=[V.ref d,u2,V.int (g.b:Int)];rw[show((g.b - 1:Nat):Int)+1=(g.b:Int) by omega]
   refine⟨z1++bl++g.s,z2,Zj,Zj,Nat.le_of_lt (AK (by rw[BE,BE];omega)),hR _ _ ⟨_,Zj,(s3.trans s4).trans s5,λr' i8=>?_,CY (CY (CY az1 gR.as) ag) az2,by rw[BE,BE,BE];omega⟩⟩
   have e:(z1++bl++g.s++z2).cps.toList=z1.cps.toList++(bl.cps.toList++(g.c::z2.cps.toList)):=by
    rw[CW,CW,CW,cg];simp
   rw[e];have hr2':r'<=g.b - 1:=i8;exact .bn g t1.tr t2.tr r' _ _ _ ok.1 qe gR.bk wz1 wz2
 rintro σ H4 ⟨fz,rfl,s4,wz,az,lz⟩;obtain⟨x4,y4,iS⟩:=s4.bY;have l1:=gR.l1
 have brk:∀ {H5:Hp},aO d H H5->∃i j,V.str bl=.str i/\V.str "(" = .str j/\i.length+j.length<=sizeLine/\∃i2 j2,V.str (i++j)=.str i2/\V.str fz=.str j2/\i2.length+j2.length<=sizeLine/\∃i3 j3,V.str (i2++j2)=.str i3/\V.str ")" = .str j3/\i3.length+j3.length<=sizeLine/\Q (.str (i3++j3)) H5:=λ{H5} s5=>by
  have o1:("(" : Str).length=1:=by decide +kernel
  have c1:(")" : Str).length=1:=by decide +kernel
  refine⟨bl, "(", Zj,Zj,Nat.le_of_lt (AK qe),bl ++ "(", fz,Zj,Zj,Nat.le_of_lt (AK (by rw[BE];omega)),bl ++ "(" ++ fz, ")", Zj,Zj,Nat.le_of_lt (AK (by rw[BE,BE];omega)),q _ _ s5 ?_ (CY (CY (CY gR.as qb) az) qb) (by rw[BE,BE,BE];omega)⟩
  have e:(bl ++ "(" ++ fz ++ ")" : Str).cps.toList=bl.cps.toList++(40::(fz.cps.toList++[41])):=by
   rw[CW,CW,CW,show("(" : Str).cps.toList=[40] by decide +kernel,show(")" : Str).cps.toList=[41] by decide +kernel];simp
  rw[e];exact .br _ r _ _ gR.bk (wz 0 (Nat.zero_le _))
 refine⟨_,Zj,_,Zj,_,_,Zj,Zj,_,Zj,?_⟩;refine B4 (λ_=>?_) (λh=>?_)
 ·refine Ac ?_;obtain⟨i,j,e1,e2,e3,i2,j2,e4,e5,e6,i3,j3,e7,e8,e9,iu⟩:=brk s4;exact⟨_,Zj,i,j,e1,e2,e3,_,Zj,i2,j2,e4,e5,e6,i3,j3,e7,e8,e9,iu⟩
 ·refine⟨_,Zj,d,x4,y4,6,Zj,iS,qc,qc,λk a1 b1 k0 k1=>⟨Zj,_,Zj,?_⟩⟩;have s5:=s4.trans (Az (x':=a1) (y':=b1) iS);refine B4 (λ_=>?_) (λ_=>?_)
  ·obtain⟨i,j,e1,e2,e3,i2,j2,e4,e5,e6,i3,j3,e7,e8,e9,iu⟩:=brk s5;exact⟨_,Zj,i,j,e1,e2,e3,_,Zj,i2,j2,e4,e5,e6,i3,j3,e7,e8,e9,iu⟩
  ·have i8:r<=Qx t:=by
    have:¬ ((Qx t:Int)<(r:Int)):=λz=>h (ZM z);omega
   exact⟨_,Zj,q _ _ s5 (wz r i8) az qe⟩
def Qy {f:Xd} (F:aV K "_law_written" "_law_written" C3 f fd) (B:Bl mg) (m:mg "_law_written" = some (.ref f)) (b:Binds K fd NG []) (GR:Fn P w K mg base "_law_roll" 2 ["_law_dice", "_law_many"] d8):∀D:Nat,AU P w K mg base aK (3+D) f fd NG (spWrt D)
 |0=>N5 F B GR 0 ⟨⟨f,fd,F.ok (k:=1) scWrt (λvs H Q E h=>h.elim) (λad A outer s H vs Q E hr h=>h.elim),m,F.kp,b⟩⟩
 |D+1=>N5 F B GR (D+1) ⟨⟨f,fd,by have:=Qy F B m b GR D;rw[show 3+D=2+(D+1) by omega]at this;exact this,m,F.kp,b⟩⟩
end
section
noncomputable abbrev N6:Xa:=["_law_dice", "_law_words", "_law_signs"]
inductive spForm (vs:Xc) (H:Hp) (Q:VK) (_E:XK):Prop where
 |mk (d wl:Xd) (a b:Int) (ws:Xa) (sg:Str) (cD:vs=[.ref d,.ref wl,.str sg]) (cG:H d=some (.lst [.int a,.int b])) (cI:H wl=some (.lst (ws.map V.str))) (cY:0<ws.length) (d5:ws.length<=10) (fk:∀x∈ws,NW x) (z_s:sg.length<=10) (z_s2:∀c∈sg.cps.toList,Bo c=true)
  (jh:∀q z v t H',aO d H H'->H' q=some (.tup [.str z,v])->f6 H' v t->t.Ok ws sg.cps.toList->t.ht<=3->Wr true t.tr 0 z.cps.toList->z.cps.all (· < 128)=true->z.length<=56->Q (.ref q) H')
noncomputable abbrev WB:Xa:=["_law_dice", "_law_words", "_law_signs", "_law_tree_here", "_law_text"]
def scForm:AN WB N6 (defScope D7):=cQ
def Sl {f:Xd} (F:aV K "_law_formula" "_law_formula" D7 f fd) (B:Bl mg) (GT:Fn P w K mg base "_law_tree" 6 IN (spTree 3)) (GW:Fn P w K mg base "_law_written" 6 NG (spWrt 3)):AU P w K mg base aK 7 f fd N6 spForm:=by
 obtain⟨fT,dT,GT,mT,kT,bT⟩:=GT.ex;obtain⟨fW,dW,GW,mW,kW,bW⟩:=GW.ex;refine F.m scForm λvs H Q E h=>?_;obtain⟨d,wl,a,b,ws,sg,rfl,hd,hw,h0,iX,hW,hsg,hSg,q⟩:=h;refine⟨Zj,λad A outer s hr=>?_⟩;have nd:=scForm.nd
 refine⟨_,AF (Ag (i:=3) nd Zj (Or.inl Zj) (AM GT hr Zj mT kT bT .nil AR (AA (pv 0) (AA (pv 1) (AA (pv 2) (AA AE AC))))))
  (AF (Ag (i:=4) nd rfl (Or.inl rfl) (AM GW hr rfl mW kW bW .nil AR (AA (pv 0) (AA (pv 3) (AA AE AC)))))
  (CD (Ak (AL FF (AW At rfl B.len PySem.boot_len (AA (pv 4) AC)) AE (AO _))
   (AF (Ag (i:=3) nd rfl (Or.inl rfl) (Ay (AA AI (AA (BJ (Au K rfl) (pv 1) AE (λ_ _=>rfl)) AC))))
   (AG (Ag (i:=4) nd rfl (Or.inl rfl) (BJ (Au K rfl) (pv 1) AE (λ_ _=>rfl))))) AV)
  (AG (AQ (Ay (AA (pv 4) (AA (pv 3) AC))))))),?_⟩
 refine⟨_,Zj,_,Zj,_,Zj,d,wl,a,b,ws,sg,Zj,hd,hw,h0,iX,hsg,λv t H1 s1 iP ok1 ht1=>?_⟩;obtain⟨x1,y1,eS⟩:=s1.bY;refine⟨_,Zj,_,Zj,d,x1,y1,v,t,ws,sg.cps.toList,0,Zj,eS,iP,ok1,ht1,qc,qc,hW,hSg,λz H2 s2 wz az lz=>?_⟩;have lt2:=iP.aZ (aO.tt eS s2);have s12:=s1.trans s2;have hw2:=s12.old _ _ hw (Fo hd hw h0);have hl3:lb 3=147:=by decide
 refine⟨λσ H'=>∃(z:Str) (v:V) (t:LT),σ=[some (.ref d),some (.ref wl),some (.str sg),some v,some (.str z)]/\aO d H H'/\f6 H' v t/\t.Ok ws sg.cps.toList/\t.ht<=3/\Wr true t.tr 0 z.cps.toList/\z.cps.all (· < 128)=true/\z.length<=56,λR hR=>?_,?_⟩
 ·refine⟨_,Zj,z,Zj,Nat.le_of_lt (AK qe),_,_,Zj,Zj,_,Zj,?_⟩;refine B4 (λ_=>?_) (λh=>?_)
  ·cases ws with
   |nil=>exact absurd h0 qc
   |cons x r =>
    have nw:=hW x (ZJ ..);have l6:=nw.l6;refine⟨_,Zj,wl,_,0,.str x,Zj,Zj,aN.of hw2,BO (j:=0) Zj,fc,λp hp=>?_⟩;have sp:=AD (aA.refl _) hp (o:=HO.tup [V.str "name", V.str x]);refine⟨_,Zj,wl,_,0,.str x,Zj,Zj,aN.of (sp _ _ hw2),BO (j:=0) Zj,hR _ _ ⟨x,.ref p,.nm x,Zj,s12.step sp,⟨p,Zj,AB⟩,ZJ ..,Nat.zero_le _,?_,nw.as,qe⟩⟩;have:=Wr.wd x 0 [] (.inl rfl) nw.pw;exact this
  ·exact hR _ _ ⟨z,v,t,Zj,s12,lt2,ok1,ht1,wz,az,by
    have:¬ ((z.length:Int)>56):=λy=>h (ZM y)
    omega⟩
 rintro σ H3 ⟨z,v,t,rfl,s3,lt,ok,ht,wz,az,lz⟩;refine⟨_,Zj,_,Zj,fc,λp hp=>?_⟩;have sp:=AD (aA.refl _) hp (o:=HO.tup [V.str z,v]);exact q p z v t _ (s3.step sp) AB (lt.aZ (aP.of sp)) ok ht wz az lz
end
inductive Pst |need |name |num |iy
deriving DecidableEq
structure Pc where
 (st:Pst) (deep cE:Nat)
noncomputable def BF (lt:Bool) (cs:List Nat) (a c:Nat) (s:Pc):Option Pc :=
 if s.st=.name/\BC c=true then (if a - s.cE=6 then none else some s)
 else if s.st=.num/\Ax c=true then (if cs[s.cE]?=some 48\/1099511627776<=digitsVal ((cs.drop s.cE).take (a+1 - s.cE))then none else some s)
 else if s.st=.need then
  (if BC c=true then some ⟨.name,s.deep,a⟩else if Ax c=true then some ⟨.num,s.deep,a⟩else if lt=true/\Bo c=true then some ⟨.iy,s.deep,a⟩else if c=40 then some ⟨.need,s.deep+1,a⟩else if c=32\/c=126 then some ⟨.need,s.deep,a⟩else none)
 else if c=124\/c=94\/c=38 then some ⟨.need,s.deep,s.cE⟩else if c=41/\0<s.deep then some ⟨.iy,s.deep - 1,s.cE⟩else if c=32 then some ⟨.iy,s.deep,s.cE⟩else none
noncomputable def gN (lt:Bool) (cs:List Nat):List Nat->Nat->Pc->Option Nat
 | [],a,s=>if s.st=.need\/0<s.deep then some a else none
 |c::r,a,s=>match BF lt cs a c s with
  |none=>some a
  |some s'=>gN lt cs r (a+1) s'
abbrev pc0:Pc:=⟨.need,0,0⟩
noncomputable def gX (lt:Bool) (z:Str):Option Nat:=gN lt z.cps.toList z.cps.toList 0 pc0
def Fp {lt:Bool}{cs:List Nat}{a c:Nat}{s:Pc} (h:cs[a]?=some c) (e:BF lt cs a c s=none):gN lt cs (cs.drop a) a s=some a:=by
 obtain⟨ha,ec⟩:=Z8.mp h;rw[drop_eq_getElem_cons ha,ec];show(match BF lt cs a c s with |none=>some a |some s'=>gN lt cs _ (a+1) s')=_;rw[e]
def CH {lt:Bool}{cs:List Nat}{a c:Nat}{s s':Pc} (h:cs[a]?=some c) (e:BF lt cs a c s=some s'):gN lt cs (cs.drop a) a s=gN lt cs (cs.drop (a+1)) (a+1) s':=by
 obtain⟨ha,ec⟩:=Z8.mp h;rw[drop_eq_getElem_cons ha,ec];show(match BF lt cs a c s with |none=>some a |some s'=>gN lt cs _ (a+1) s')=_;rw[e]
noncomputable abbrev sub (cs:List Nat) (a k:Nat):List Nat:=(cs.drop a).take k
noncomputable def DV (l:List Nat):Bool:=(decide (1<=l.length)&&decide (l.length<=6))&&l.all BC
noncomputable def DW (l:List Nat):Bool:=l.all Ax&&(decide (l=[48])||(!decide (l.head?=some 48)&&decide (digitsVal l<1099511627776)))
noncomputable def Gw (l:List Nat):Bool:=match l with | [c]=>Bo c |_=>false
noncomputable def Dp (lt:Bool) (l:List Nat):Bool:=DV l||(DW l||(lt&&Gw l))
def N7 {x:Str}{l:List Nat} (h:x.cps.toList=l):Bv x=DV l/\Gg x=DW l/\BP x=Gw l:=by
 subst h;refine⟨?_,?_,?_⟩
 ·unfold Bv DV;rw[Ae]
 ·unfold Gg DW;congr 2;rw[Bool.eq_iff_iff,decide_eq_true_eq,decide_eq_true_eq];constructor
  ·intro e;rw[e];decide +kernel
  ·intro e;exact EV (by rw[e];decide +kernel)
 ·unfold BP Gw;rfl
def Qz {lt:Bool}{x:Str}{l:List Nat} (h:x.cps.toList=l):EH lt x=Dp lt l:=by
 obtain⟨h1,h2,h3⟩:=N7 h;unfold EH Dp;rw[h1,h2,h3]
def NH {lt:Bool}{z:Str}{a k:Nat} (h:a+k<=z.length):EH lt (sl z a (a+k))=Dp lt (sub z.cps.toList a k):=by
 refine Qz ?_;rw[Ce z qe h,Nat.add_sub_cancel_left]
def WC (lt:Bool) (z:Str) {a:Nat} (ha:a<=z.length):∃n,IK lt z a n:=by
 have key:∀m n,z.length - (a+n)=m->a+n<=z.length->(∀k,0<k->k<=n->EH lt (sl z a (a+k))=true)->∃n,IK lt z a n:=by
  intro m;induction m with
  |zero=>exact λn h1 h2 h3=>⟨n,h2,h3,λh=>qe⟩
  |succ m ih =>
   intro n h1 h2 h3;cases e:EH lt (sl z a (a+n+1))with
   |false=>exact⟨n,h2,h3,λ_=>e⟩
   |true =>
    refine ih (n+1) qe qe λk hk hk2=>?_;rcases Nat.lt_or_ge k (n+1)with q |q
    ·exact h3 k hk qe
    ·have:k=n+1:=by omega
     subst this;exact e
 exact key _ 0 Zj ha λk h1 h2=>by omega
def Di {cs:List Nat}{a k:Nat} (h:a+k<=cs.length):(sub cs a k).length=k:=by
 rw[ZB,length_drop];omega
def DX {cs:List Nat}{a k c:Nat} (h:cs[a+k]?=some c):sub cs a (k+1)=sub cs a k++[c]:=by
 show(cs.drop a).take (k+1)=_;rw[ZE,List.getElem?_drop,h];rfl
def Cf {cs:List Nat}{a k c:Nat} (h:cs[a]?=some c):∃r,sub cs a (k+1)=c::r:=by
 obtain⟨ha,ec⟩:=Z8.mp h;refine⟨(cs.drop (a+1)).take k,?_⟩;show(cs.drop a).take (k+1)=_;rw[drop_eq_getElem_cons ha,ec];rfl
def TW {c:Nat} (h:BC c=true):Ax c=false/\Bo c=false:=by
 simp[BC]at h;simp[Ax,Bo];omega
def WD {c:Nat} (h:Ax c=true):BC c=false/\Bo c=false:=by
 simp[Ax]at h;simp[BC,Bo];omega
def WE {c:Nat} (h:Bo c=true):BC c=false/\Ax c=false:=by
 simp[Bo]at h;simp[BC,Ax];omega
def Q0 {lt:Bool}{c:Nat}{r:List Nat} (h:BC c=true):Dp lt (c::r)=DV (c::r):=by
 obtain⟨h1,h2⟩:=TW h
 have e1:DW (c::r)=false:=by
  unfold DW;rw[all_cons,h1];rfl
 have e2:Gw (c::r)=false:=by
  cases r with
  |nil=>exact h2
  |cons _ _=>rfl
 unfold Dp;rw[e1,e2,Bool.and_false,Bool.or_false,Bool.or_false]
def Q3 {lt:Bool}{c:Nat}{r:List Nat} (h:Ax c=true):Dp lt (c::r)=DW (c::r):=by
 obtain⟨h1,h2⟩:=WD h
 have e1:DV (c::r)=false:=by
  unfold DV;rw[all_cons,h1,Bool.false_and,Bool.and_false]
 have e2:Gw (c::r)=false:=by
  cases r with
  |nil=>exact h2
  |cons _ _=>rfl
 unfold Dp;rw[e1,e2,Bool.and_false,Bool.or_false,Bool.false_or]
def N8 {lt:Bool}{c:Nat}{r:List Nat} (h1:BC c=false) (h2:Ax c=false):Dp lt (c::r)=(lt&&Gw (c::r)):=by
 have e1:DV (c::r)=false:=by
  unfold DV;rw[all_cons,h1,Bool.false_and,Bool.and_false]
 have e2:DW (c::r)=false:=by
  unfold DW;rw[all_cons,h2];rfl
 unfold Dp;rw[e1,e2,Bool.false_or,Bool.false_or]
def Ul (cs:List Nat) (a:Nat) (s:Pc):Prop:=∀c,cs[a]?=some c->(s.st=.name->BC c=true->a - s.cE=6)/\(s.st=.num->Ax c=true->(cs[s.cE]?=some 48\/1099511627776<=digitsVal ((cs.drop s.cE).take (a+1 - s.cE))))
def Q4 {lt:Bool}{z:Str}{a n:Nat}{s:Pc} (h:IK lt z a n) (hn:0<n) (hs:s.st=.need) :
  ∃s',gN lt z.cps.toList (z.cps.toList.drop a) a s=gN lt z.cps.toList (z.cps.toList.drop (a+n)) (a+n) s'/\s'.deep=s.deep/\s'.st≠ .need/\Ul z.cps.toList (a+n) s':=by
 have hle:=h.le;have af:z.cps.toList.length=z.length:=Ae z;have ok:∀k,0<k->k<=n->Dp lt (sub z.cps.toList a k)=true:=λk h1 h2=>by rw[←NH qe];exact h.ok k h1 h2
 have no:a+n<z.length->Dp lt (sub z.cps.toList a (n+1))=false:=λaL=>by
  have:=h.no aL;rw[show a+n+1=a+(n+1) by omega]at this;rw[←NH qe];exact this
 generalize z.cps.toList=cs at *;obtain⟨c,hc⟩:∃c,cs[a]?=some c:=⟨_,Z7 qe⟩
 have step:∀s':Pc,BF lt cs a c s=some s'->(∀j,0<j->j<n->∀d,cs[a+j]?=some d->BF lt cs (a+j) d s'=some s')->gN lt cs (cs.drop a) a s=gN lt cs (cs.drop (a+n)) (a+n) s':=λs' e1 e2=>by
  have key:∀k,0<k->k<=n->gN lt cs (cs.drop a) a s=gN lt cs (cs.drop (a+k)) (a+k) s':=by
   intro k;induction k with
   |zero=>intro z;omega
   |succ k ih =>
    intro _ hk;rcases Nat.eq_zero_or_pos k with z |z
    ·subst z;exact CH hc e1
    ·rw[ih z qe];obtain⟨d,hd⟩:∃d,cs[a+k]?=some d:=⟨_,Z7 qe⟩;exact CH hd (e2 k z qe d hd)
  exact key n hn (Zz _)
 have o1:=ok 1 qc hn;obtain⟨r1,er1⟩:=Cf (k:=0) hc;rw[er1]at o1;have ns:∀st,s.st=st->s.st=.need:=λ_ _=>hs;cases hu:BC c with
 |true =>
  have nm:∀k,0<k->k<=n->DV (sub cs a k)=true:=λk h1 h2=>by
   obtain⟨r,er⟩:=Cf (k:=k - 1) hc;rw[show k - 1+1=k by omega]at er;have:=ok k h1 h2;rw[er,Q0 hu]at this;rw[er];exact this
  have n6:n<=6:=by
   have:=nm n hn (Zz _);unfold DV at this;simp only[Bool.and_eq_true,decide_eq_true_eq]at this;have l:=Di (cs:=cs) (a:=a) (k:=n) qe;omega
  refine⟨⟨.name,s.deep,a⟩,step _ ?_ λj h1 h2 d hd=>?_,rfl,(λz=>nomatch z),λd hd=>⟨λ_ hdu=>?_,(λz=>nomatch z)⟩⟩
  ·unfold BF;rw[Zr (by rw[hs];exact λz=>nomatch z.1),Zr (by rw[hs];exact λz=>nomatch z.1),Zq hs,Zq hu]
  ·have:=nm (j+1) qe qe;rw[DX hd]at this;unfold DV at this;simp only[Bool.and_eq_true,all_append,all_cons,List.all_nil,Bool.and_true]at this;unfold BF;rw[Zq ⟨rfl,this.2.2⟩,Zr (by show ¬ a+j - a=6;omega)]
  ·show a+n - a=6;rcases Nat.lt_or_ge n 6 with q |q
   ·exfalso
    have aL:a+n<z.length:=by
     obtain⟨hl,_⟩:=Z8.mp hd;omega
    have:=no aL;obtain⟨r,er⟩:=Cf (k:=n) hc;rw[er,Q0 hu,←er,DX hd]at this;have iQ:=nm n hn (Zz _);unfold DV at this iQ;simp only[Bool.and_eq_true,decide_eq_true_eq]at iQ;have l:=Di (cs:=cs) (a:=a) (k:=n) qe;rw[all_append,iQ.2,ZI,l]at this;simp[hdu]at this;omega
   ·omega
 |false =>
 cases hg:Ax c with
 |true =>
  have fg:∀k,0<k->k<=n->DW (sub cs a k)=true:=λk h1 h2=>by
   obtain⟨r,er⟩:=Cf (k:=k - 1) hc;rw[show k - 1+1=k by omega]at er;have:=ok k h1 h2;rw[er,Q3 hg]at this;rw[er];exact this
  refine⟨⟨.num,s.deep,a⟩,step _ ?_ λj h1 h2 d hd=>?_,rfl,(λz=>nomatch z),λd hd=>⟨(λz=>nomatch z),λ_ hdu=>?_⟩⟩
  ·unfold BF;rw[Zr (by rw[hs];exact λz=>nomatch z.1),Zr (by rw[hs];exact λz=>nomatch z.1),Zq hs,Zr (by rw[hu];decide),Zq hg]
  ·have:=fg (j+1) qe qe;obtain⟨r,er⟩:=Cf (k:=j) hc;have l:=Di (cs:=cs) (a:=a) (k:=j+1) qe;unfold DW at this;rw[Bool.and_eq_true,Bool.or_eq_true]at this;obtain⟨al,or⟩:=this
   have hdd:Ax d=true:=by
    rw[DX hd,all_append]at al;simp at al;exact al.2
   have ax:¬ sub cs a (j+1)=[48]:=λz=>by
    rw[z]at l;simp at l;omega
   have o2:=or.elim (λz=>absurd (ZU z) ax) id;rw[Bool.and_eq_true,Bool.not_eq_true',decide_eq_false_iff_not,decide_eq_true_eq]at o2;unfold BF;rw[Zr (λz=>nomatch z.1),Zq ⟨rfl,hdd⟩,Zr];rintro (q |q)
   ·refine o2.1 ?_;rw[er];show some c=some 48;rw[←q];exact hc.symm
   ·have e:a+j+1 - a=j+1:=by omega
    have q':1099511627776<=digitsVal ((cs.drop a).take (a+j+1 - a)):=q;rw[e]at q';exact absurd o2.2 (Nat.not_lt.mpr q')
  ·have aL:a+n<z.length:=by
    obtain⟨hl,_⟩:=Z8.mp hd;omega
   have:=no aL;obtain⟨r,er⟩:=Cf (k:=n) hc;rw[er,Q3 hg,←er]at this;have iQ:=fg n hn (Zz _)
   have al:(sub cs a (n+1)).all Ax=true:=by
    unfold DW at iQ;rw[Bool.and_eq_true]at iQ;rw[DX hd,all_append,iQ.1];simp[hdu]
   unfold DW at this;rw[al,Bool.true_and,Bool.or_eq_false_iff]at this;show cs[a]?=some 48\/1099511627776<=digitsVal ((cs.drop a).take (a+n+1 - a));rw[show a+n+1 - a=n+1 by omega];have h2:=this.2;rw[Bool.and_eq_false_iff,Bool.not_eq_false',decide_eq_true_eq,decide_eq_false_iff_not]at h2;rcases h2 with q |q
   ·rw[er]at q;have q':some c=some 48:=q;exact .inl (hc.trans q')
   ·exact .inr (Nat.not_lt.mp q)
 |false =>
  rw[N8 hu hg]at o1;rw[Bool.and_eq_true]at o1
  have hsm:Bo c=true:=by
   have h1:r1=[]:=by
    have l:=Di (cs:=cs) (a:=a) (k:=1) qe;rw[er1]at l;simp at l;exact l
   subst h1;exact o1.2
  have n1:n=1:=by
   rcases Nat.lt_or_ge n 2 with q |q
   ·omega
   ·exfalso;have:=ok 2 qc q;obtain⟨r,er⟩:=Cf (k:=1) hc;have l:=Di (cs:=cs) (a:=a) (k:=2) qe;rw[er]at this l;rw[N8 hu hg]at this;cases r with
    |nil=>simp at l
    |cons _ _=>simp[Gw]at this
  refine⟨⟨.iy,s.deep,a⟩,step _ ?_ λj h1 h2=>qe,rfl,(λz=>nomatch z),λd hd=>⟨(λz=>nomatch z),(λz=>nomatch z)⟩⟩;unfold BF;rw[Zr (by rw[hs];exact λz=>nomatch z.1),Zr (by rw[hs];exact λz=>nomatch z.1),Zq hs,Zr (by rw[hu];decide),Zr (by rw[hg];decide),Zq ⟨o1.1,hsm⟩]
noncomputable def cnt (W:List Sg):Nat:=(W.filter λg=>decide (g=.br)).length
def C6 (A B:List Sg):cnt (A++B)=cnt A+cnt B:=by unfold cnt;rw[List.filter_append,ZI]
def EK {W:List Sg} (h:∀q∈W,1<=q.b):cnt W=0:=by
 unfold cnt;rw[length_eq_zero_iff,List.filter_eq_nil_iff];intro g hg z;have:=ZU z;subst this;have:=h _ hg;exact absurd this qc
def Sm {g:Sg} (h:1<=g.b):cnt [g]=0:=EK λq hq=>by rw[ZH.mp hq];exact h
def Sn (m:Nat) (hm:1<=m) (W:List Sg):∃W1 Q,W=W1++Q/\(∀q∈Q,m<=q.b)/\IW W1<m:=TH (P:=λW=>∃W1 Q,W=W1++Q/\(∀q∈Q,m<=q.b)/\IW W1<m) ⟨[],[],rfl,(λq hq=>by cases hq),hm⟩ (λxs x ⟨W1,Q,e,h1,h2⟩=>by
 rcases Nat.lt_or_ge x.b m with q |q
 ·exact⟨xs++[x],[],(Zu _).symm,(λq hq=>by cases hq),by rw[Co];exact q⟩
 ·refine⟨W1,Q++[x],by rw[e,List.append_assoc],λy hy=>?_,h2⟩;rcases mem_append.mp hy with z |z
  ·exact h1 y z
  ·rw[ZH.mp z]
   exact q) W
noncomputable def Out.pl:Out->Option Nat
 | .ok _=>none
 | .bad p=>some p
structure WF (cs:List Nat) (a:Nat) (W:List Sg) (wp:Bool) (s:Pc):Prop where
 deep:s.deep=cnt W
 st:(wp=true/\s.st=.need)\/(wp=false/\s.st≠ .need/\Ul cs a s)
def La {cs:List Nat}{a d b:Nat}:Ul cs a ⟨.iy,d,b⟩:=λc _=>⟨(λz=>nomatch z),(λz=>nomatch z)⟩
def sim (lt:Bool) (z:Str):∀(m a:Nat) (S:Xa) (W:List Sg) (wp:Bool) (s:Pc),z.length - a=m->a<=z.length->WF z.cps.toList a W wp s ->
  ∃o,Rn lt z o a S W wp/\gN lt z.cps.toList (z.cps.toList.drop a) a s=o.pl:=by
 intro m;induction m using Nat.strongRecOn with
 |_ m ih =>
 intro a S W wp s hm ha Y;have af:z.cps.toList.length=z.length:=Ae z;have next:∀(n:Nat) (S':Xa) (W':List Sg) (g9:Bool) (s':Pc),0<n->a+n<=z.length->WF z.cps.toList (a+n) W' g9 s'->∃o,Rn lt z o (a+n) S' W' g9/\gN lt z.cps.toList (z.cps.toList.drop (a+n)) (a+n) s'=o.pl:=λn S' W' g9 s' h0 h1 Y'=>ih (z.length - (a+n)) qe (a+n) S' W' g9 s' rfl h1 Y'
 rcases Nat.eq_or_lt_of_le ha with e |aL
 ·-- the end
  subst e;have e0:z.cps.toList.drop z.length=[]:=by rw[←af,drop_length]
  rw[e0];show ∃o:Out,_/\(if s.st=.need\/0<s.deep then some z.length else none)=o.pl;rcases Y.st with⟨rfl,h1⟩ |⟨rfl,h1,_⟩
  ·rw[Zq (.inl h1)];exact⟨.bad z.length,.ends _ _ _ (.inl Zj) Zj,Zj⟩
  ·rcases Fk W with h |⟨W1,W2,e,h⟩
   ·rw[Zr (by rw[Y.deep,EK h];exact λq=>q.elim h1 qe)];exact⟨.ok _,.done S W h Zj,Zj⟩
   ·have hd:0<s.deep:=by
     rw[Y.deep,e,C6,C6];have:cnt [Sg.br]=1:=rfl;omega
    rw[Zq (.inr hd)];exact⟨.bad z.length,.ends _ _ _ (.inr ⟨W1,W2,e,h⟩) Zj,Zj⟩
 ·obtain⟨c,hc⟩:∃c,z.cps.toList[a]?=some c:=⟨_,Z7 qe⟩;rcases Y.st with⟨rfl,h1⟩ |⟨rfl,h1,ht⟩
  ·-- a part is wanted
   obtain⟨n,hp⟩:=WC lt z ha;rcases Nat.eq_zero_or_pos n with z0 |hn
   ·subst z0
    have hno:Dp lt [c]=false:=by
     have:=hp.no qe;rw[Nat.add_zero,NH qe]at this;obtain⟨r,er⟩:=Cf (k:=0) hc;have l:=Di (cs:=z.cps.toList) (a:=a) (k:=1) qe
     have:sub z.cps.toList a 1=[c]:=by
      rw[er]at l ⊢;cases r with
      |nil=>rfl
      |cons _ _=>simp at l
     rw[←this];assumption
    have hu:BC c=false:=by
     cases e:BC c with
     |false=>rfl
     |true =>
      rw[Q0 e]at hno;simp[DV,e]at hno
    have hg:Ax c=false:=by
     cases e:Ax c with
     |false=>rfl
     |true =>
      rw[Q3 e]at hno;exfalso;have hd:=e;simp[Ax]at hd;have e9:∀d,d<10->DW [d+48]=true:=by decide +kernel
      have:=e9 (c - 48) qe;rw[show c - 48+48=c by omega,hno]at this;cases this
    have hs:¬ (lt=true/\Bo c=true):=λq=>by
     rw[N8 hu hg,q.1]at hno;simp[Gw,q.2]at hno
    have base:BF lt z.cps.toList a c s=(if c=40 then some ⟨.need,s.deep+1,a⟩else if c=32\/c=126 then some ⟨.need,s.deep,a⟩else none):=by
     unfold BF;rw[Zr (by rw[h1];exact λz=>nomatch z.1),Zr (by rw[h1];exact λz=>nomatch z.1),Zq h1,Zr (by rw[hu];decide),Zr (by rw[hg];decide),Zr hs]
    by_cases iI:c=40
    ·rw[Zq iI]at base;obtain⟨o,r,e⟩:=next 1 S (W++[.br]) true ⟨.need,s.deep+1,a⟩ qc qe ⟨by show s.deep+1=_;rw[Y.deep,C6];rfl,.inl ⟨rfl,rfl⟩⟩
     exact⟨o,.ahead a S W .br (.inr Zj) (by rw[hc,iI];rfl) r,by rw[CH hc base];exact e⟩
    ·rw[Zr iI]at base;by_cases gy:c=32\/c=126
     ·rw[Zq gy]at base;rcases gy with h |h
      ·obtain⟨o,r,e⟩:=next 1 S W true ⟨.need,s.deep,a⟩ qc qe ⟨Y.deep,.inl ⟨rfl,rfl⟩⟩
       exact⟨o,.blank a S W true (by rw[hc,h]) r,by rw[CH hc base];exact e⟩
      ·obtain⟨o,r,e⟩:=next 1 S (W++[.no]) true ⟨.need,s.deep,a⟩ qc qe ⟨by show s.deep=_;rw[Y.deep,C6];rfl,.inl ⟨rfl,rfl⟩⟩
       exact⟨o,.ahead a S W .no (.inl Zj) (by rw[hc,h];rfl) r,by rw[CH hc base];exact e⟩
     ·rw[Zr gy]at base;exact⟨.bad a,.stop a c S W true hc (.ahead hp (λq=>gy (.inl q)) (λq=>gy (.inr q)) iI) Zj,Fp hc base⟩
   ·obtain⟨s',e1,e2,e3,e4⟩:=Q4 hp hn h1;obtain⟨o,r,e⟩:=next n (S++[sl z a (a+n)]) W false s' hn hp.le ⟨by rw[e2];exact Y.deep,.inr ⟨rfl,e3,e4⟩⟩
    exact⟨o,.part a n S W hp hn r,by rw[e1];exact e⟩
  ·-- behind a part
   obtain⟨t1,t2⟩:=ht c hc;have stop:BF lt z.cps.toList a c s=none->(c≠32/\c≠38/\c≠94/\c≠124/\c≠41)->∃o,Rn lt z o a S W false/\gN lt z.cps.toList (z.cps.toList.drop a) a s=o.pl:=λe ⟨q1,q2,q3,q4,q5⟩=>⟨.bad a,.stop a c S W false hc (.between q1 q2 q3 q4 q5) rfl,Fp hc e⟩
   have last:¬ (s.st=.name/\BC c=true)->¬ (s.st=.num/\Ax c=true)->BF lt z.cps.toList a c s=(if c=124\/c=94\/c=38 then some ⟨.need,s.deep,s.cE⟩else if c=41/\0<s.deep then some ⟨.iy,s.deep - 1,s.cE⟩else if c=32 then some ⟨.iy,s.deep,s.cE⟩else none):=λq1 q2=>by
    unfold BF;rw[Zr q1,Zr q2,Zr h1]
   cases hu:BC c with
   |true =>
    have hr:=hu;simp[BC]at hr;refine stop ?_ ⟨qe,qe,qe,qe,qe⟩;by_cases hn:s.st=.name
    ·unfold BF;rw[Zq ⟨hn,hu⟩,Zq (t1 hn hu)]
    ·rw[last (λq=>hn q.1) (λq=>by rw[(TW hu).1]at q;exact absurd q.2 qc),Zr qe,Zr qe,Zr qe]
   |false =>
   cases hg:Ax c with
   |true =>
    have hr:=hg;simp[Ax]at hr;refine stop ?_ ⟨qe,qe,qe,qe,qe⟩;by_cases hn:s.st=.num
    ·unfold BF;rw[Zr (by rw[hn];exact λz=>nomatch z.1),Zq ⟨hn,hg⟩,Zq (t2 hn hg)]
    ·rw[last (λq=>by rw[hu]at q;exact absurd q.2 qc) (λq=>hn q.1),Zr qe,Zr qe,Zr qe]
   |false =>
    have base:=last (λq=>by rw[hu]at q;exact absurd q.2 qc) (λq=>by rw[hg]at q;exact absurd q.2 qc);by_cases hj:c=124\/c=94\/c=38
    ·rw[Zq hj]at base
     obtain⟨g,hgj,hgc⟩:∃g:Sg,g.dv/\c=g.c:=by
      rcases hj with h |h |h
      ·exact⟨.or,True.intro,h⟩
      ·exact⟨.xo,True.intro,h⟩
      ·exact⟨.an,True.intro,h⟩
     have g1:1<=g.b:=by cases g <;> first |exact hgj.elim |decide
     obtain⟨W1,Q,eW,hq,hw⟩:=Sn g.b g1 W;subst eW
     obtain⟨o,r,e⟩:=next 1 (S++(bG Q).reverse) (W1++[g]) true ⟨.need,s.deep,s.cE⟩ qc qe ⟨by
      show s.deep=_
      rw[Y.deep,C6,C6,Sm g1,EK λq h=>Nat.le_trans g1 (hq q h)],.inl ⟨rfl,rfl⟩⟩
     exact⟨o,.join a S W1 Q g hgj (by rw[hc,hgc]) hq hw r,by rw[CH hc base];exact e⟩
    ·rw[Zr hj]at base;by_cases iW:c=41
     ·rcases Fk W with h |⟨W1,W2,eW,h⟩
      ·rw[Zr (by rw[Y.deep,EK h];exact λq=>absurd q.2 qc),Zr qe]at base;exact⟨.bad a,.stop a c S W false hc (.close iW h) Zj,Fp hc base⟩
      ·subst eW
       have hd:s.deep=cnt W1+1:=by
        rw[Y.deep,C6,C6,EK h];rfl
       rw[Zq ⟨iW,qe⟩]at base;obtain⟨o,r,e⟩:=next 1 (S++(bG W2).reverse) W1 false ⟨.iy,s.deep - 1,s.cE⟩ qc qe ⟨by show s.deep - 1=_;omega,.inr ⟨rfl,(λz=>nomatch z),La⟩⟩
       exact⟨o,.close a S W1 W2 (by rw[hc,iW]) h r,by rw[CH hc base];exact e⟩
     ·rw[Zr (λq=>iW q.1)]at base;by_cases gy:c=32
      ·rw[Zq gy]at base;obtain⟨o,r,e⟩:=next 1 S W false ⟨.iy,s.deep,s.cE⟩ qc qe ⟨Y.deep,.inr ⟨rfl,(λz=>nomatch z),La⟩⟩
       exact⟨o,.blank a S W false (by rw[hc,gy]) r,by rw[CH hc base];exact e⟩
      ·rw[Zr gy]at base;exact stop base ⟨gy,qe,qe,qe,iW⟩
def TY (lt:Bool) (z:Str):∃o,Rn lt z o 0 [] [] true/\gX lt z=o.pl:=by
 obtain⟨o,r,e⟩:=sim lt z _ 0 [] [] true pc0 rfl (Nat.zero_le _) ⟨rfl,.inl ⟨rfl,rfl⟩⟩;exact⟨o,r,e⟩
def Um {lt:Bool}{z:Str}{T:Xa}{a:Nat}{S:Xa}{W:List Sg}{wp:Bool} (h:Rn lt z (.ok T) a S W wp):S.length+W.length<=a->(∀x∈S,x.length<=z.length+1)->T.length<=z.length/\∀x∈T,x.length<=z.length+1:=by
 have sg1:∀(S:Xa) (Q:List Sg),(∀x∈S,x.length<=z.length+1)->∀x∈S++(bG Q).reverse,x.length<=z.length+1:=λS Q hS x hx=>by
  rcases mem_append.mp hx with q |q
  ·exact hS x q
  ·obtain⟨g,_,rfl⟩:=Zs.mp (List.mem_reverse.mp q);have:∀g:Sg,g.s.length=1:=λg=>by cases g <;> decide +kernel
   rw[this];omega
 have sgl:∀(S:Xa) (Q:List Sg),(S++(bG Q).reverse).length=S.length+Q.length:=λS Q=>by rw[ZI,List.length_reverse,AS]
 generalize ho:Out.ok T=o at h;induction h with
 |done S Q h e =>
  intro hl hx;rw[←ho]at e;cases e;exact⟨by rw[sgl];exact hl,sg1 _ _ hx⟩
 |blank a S W wp h r ih=>exact λhl hx=>ih qe hx
 |part a n S W h hn r ih =>
  intro hl hx;refine ih (by rw[ZI,length_singleton];omega) λx hx'=>?_;rcases mem_append.mp hx' with q |q
  ·exact hx x q
  ·rw[ZH.mp q,←Ae,Ce z qe h.le,ZB,length_drop,Ae];omega
 |ahead a S W g hg h r ih=>exact λhl hx=>ih (by rw[ZI,length_singleton];omega) hx
 |join a S W Q g hg h hq hw r ih=>exact λhl hx=>ih (by rw[sgl,ZI,length_singleton];rw[ZI]at hl;omega) (sg1 _ _ hx)
 |close a S W Q h hq r ih=>exact λhl hx=>ih (by rw[sgl];rw[ZI,ZI,length_singleton]at hl;omega) (sg1 _ _ hx)
 |stop a c S W wp h hs e=>rw[←ho]at e;cases e
 |ends S W wp hw e=>rw[←ho]at e;cases e
def NI {lt:Bool}{z:Str}{T:Xa} (h:Rn lt z (.ok T) 0 [] [] true) (hz:z.length<=61):TR T:=by
 obtain⟨h1,h2⟩:=Um h qc (λx hx=>by cases hx);refine⟨qe,?_,λx hx=>by have:=h2 x hx;omega⟩;have:=List.length_filter_le BP T;omega
inductive Run (n:Nv):Xa->Option (List Nat)->Prop
 |nil:Run n [] (some [])
 |snoc (S:Xa) (h h':List Nat) (x:Str) (r:Run n S (some h)) (e:EvS n h x h'):Run n (S++[x]) (some h')
 |no (S:Xa) (h:List Nat) (x:Str) (r:Run n S (some h)) (e:NmNo n x):Run n (S++[x]) none
 |on (S:Xa) (x:Str) (r:Run n S none):Run n (S++[x]) none
def Run.ev {n:Nv}{S:Xa}{o:Option (List Nat)} (r:Run n S o):(∀h,o=some h->∀(q:Option Nat) (T:Xa),Ev n q h T->Ev n q [] (S++T))/\(o=none->∀T,Ev n none [] (S++T)):=by
 induction r with
 |nil=>exact⟨λh e q T ev=>by cases e;exact ev,λz=>nomatch z⟩
 |snoc S h h' x r e ih =>
  refine⟨λg eg q T ev=>?_,λz=>nomatch z⟩;cases eg;rw[List.append_assoc];exact ih.1 h rfl q _ (.cons _ _ _ _ e ev)
 |no S h x r e ih =>
  refine⟨(λg eg=>nomatch eg),λ_ T=>?_⟩;rw[List.append_assoc];exact ih.1 h rfl none _ (.no _ _ _ e rfl)
 |on S x r ih =>
  refine⟨(λg eg=>nomatch eg),λ_ T=>?_⟩;rw[List.append_assoc];exact ih.2 rfl _
noncomputable def ip (W:List Sg):Nat:=(W.filter λg=>decide (g=.or\/g=.xo\/g=.an)).length
def HE (A B:List Sg):ip (A++B)=ip A+ip B:=by unfold ip;rw[List.filter_append,ZI]
abbrev WG (h:List Nat):Prop:=∀v∈h,v<2 ^ 40
def N9 {h:List Nat} (l:0<h.length):∃g v,h=g++[v]:=by
 rcases List.eq_nil_or_concat h with e |⟨g,v,e⟩
 ·rw[e]at l;cases l
 ·exact⟨g,v,by rw[e,List.concat_eq_append]⟩
def XM (g:Sg) {a b:Nat} (ha:a<2 ^ 40) (hb:b<2 ^ 40):g.f a b<2 ^ 40:=by
 cases g
 ·exact Nat.or_lt_two_pow ha hb
 ·exact Nat.or_lt_two_pow ha hb
 ·exact Nat.xor_lt_two_pow ha hb
 ·exact Nat.lt_of_le_of_lt Nat.and_le_left ha
 ·exact Nat.or_lt_two_pow ha hb
structure iA (n:Nv) (S:Xa) (W:List Sg) (k:Nat):Prop where
 ex:∃o,Run n S o/\∀h,o=some h->h.length=ip W+k/\WG h
def iA.none {n:Nv}{S:Xa}{W:List Sg}{k:Nat} (h:Run n S Option.none):iA n S W k:=⟨Option.none,h,λ_ z=>nomatch z⟩
def J8 {n:Nv} (hk:kn n.aB<2 ^ 40) {W:List Sg}:∀(Q:List Sg) {S:Xa},(∀q∈Q,1<=q.b)->iA n S (W++Q) 1->iA n (S++(bG Q).reverse) W 1:=λQ=>TH (P:=λQ=>∀ {S:Xa},(∀q∈Q,1<=q.b)->iA n S (W++Q) 1->iA n (S++(bG Q).reverse) W 1) (λ{S} _ b=>by
  rw[Zu]at b;show iA n (S++[]) W 1;rw[Zu];exact b) (λQ g ih S hq b=>by
  have e1:S++(bG (Q++[g])).reverse=(S++[g.s])++(bG Q).reverse:=by
   show S++((Q++[g]).map Sg.s).reverse=_;rw[Zv,List.reverse_append,List.append_assoc];rfl
  rw[e1];refine ih (λq h=>hq q (ZQ _ h)) ?_;obtain⟨o,r,ho⟩:=b.ex;cases o with
  |none=>exact iA.none (.on _ _ r)
  |some h =>
   obtain⟨hl,hs⟩:=ho h rfl;rw[←List.append_assoc,HE (W++Q) [g]]at hl;have h1:=hq g (ZS _ (ZH.mpr rfl));have ci:0<h.length:=by omega
   obtain⟨g1,v,e⟩:=N9 ci;subst e;have hv:=hs v (ZS _ (ZH.mpr rfl))
   have un:g=.no->iA n (S++[g.s]) (W++Q) 1:=λeg=>by
    subst eg;refine⟨_,.snoc _ _ _ _ r (.ng g1 v),λh' e=>?_⟩;cases e;refine⟨?_,λu hu=>?_⟩
    ·rw[ZI]at hl ⊢;have:ip [Sg.no]=0:=rfl;simp only[length_singleton]at hl ⊢;omega
    ·rcases mem_append.mp hu with q |q
     ·exact hs u (ZQ _ q)
     ·rw[ZH.mp q];exact Nat.lt_of_le_of_lt (Nat.sub_le ..) hk
   have bn:g.dv->ip [g]=1->iA n (S++[g.s]) (W++Q) 1:=λhg j1=>by
    rw[j1,ZI,length_singleton]at hl;obtain⟨g2,u,e⟩:=N9 (h:=g1) qe;subst e;have hu:=hs u (ZQ _ (ZS _ (ZH.mpr rfl)));refine⟨_,.snoc _ _ _ _ r (.bn g hg g2 u v),λh' e=>?_⟩;cases e;refine⟨?_,λx hx=>?_⟩
    ·rw[ZI,length_singleton]at hl ⊢;omega
    ·rcases mem_append.mp hx with q |q
     ·exact hs x (ZQ _ (ZQ _ q))
     ·rw[ZH.mp q];exact XM g hu hv
   cases g with
   |br=>exact absurd h1 qc
   |or=>exact bn True.intro rfl
   |xo=>exact bn True.intro rfl
   |an=>exact bn True.intro rfl
   |no=>exact un rfl) Q
def Uo {z:Str}{T:Xa}{n:Nv} (D:D8 n.aB) (ha:z.cps.all (· < 128)=true) (hz:z.length<=100) {a:Nat}{S:Xa}{W:List Sg}{wp:Bool} (h:Rn false z (.ok T) a S W wp):iA n S W (if wp then 0 else 1)->∃o,Ev n o [] T/\∀v,o=some v->v<2 ^ 40:=by
 have hk:kn n.aB<2 ^ 40:=Nat.lt_trans (Vk D.lt) qc;generalize ho:Out.ok T=o at h;induction h with
 |done S Q h e =>
  intro b;rw[←ho]at e;cases e;have b':=J8 (W:=[]) hk Q h b;obtain⟨o,r,hr⟩:=b'.ex;cases o with
  |none =>
   have:=r.ev.2 rfl [];rw[Zu]at this;exact⟨none,this,λv z=>nomatch z⟩
  |some g =>
   obtain⟨hl,hs⟩:=hr g rfl;have hl:g.length=1:=hl;obtain⟨v,e⟩:=List.length_eq_one_iff.mp hl;subst e;have:=r.ev.1 _ rfl (some v) [] (.nil v rfl);rw[Zu]at this;exact⟨some v,this,λu z=>by cases z;exact hs v (ZH.mpr Zj)⟩
 |blank a S W wp h r ih=>exact ih
 |part a k S W h hn rr ih =>
  intro b;refine ih ?_;obtain⟨o,r,hr⟩:=b.ex;cases o with
  |none=>exact iA.none (.on _ _ r)
  |some g =>
   obtain⟨hl,hs⟩:=hr g rfl;have hp:EH false (sl z a (a+k))=true:=h.ok k hn (Zz _);have cu:(sl z a (a+k)).cps.all (· < 128)=true:=JO (z:=z) (a:=a) (b:=a+k) qe h.le ha
   have ba:(sl z a (a+k)).length=k:=by
    rw[←Ae,Ce z qe h.le,ZB,length_drop,Ae];have:=h.le;omega
   have hle:=h.le;clear rr ih;generalize sl z a (a+k)=x at hp cu ba ⊢
   have aL:BP x=false:=by
    cases e:x.cps.toList with
    |nil =>
     have:=Ae x;rw[e]at this;simp at this;omega
    |cons c r =>
     rw[(N7 e).2.2];cases r with
     |cons _ _=>rfl
     |nil =>
      show Bo c=false;cases q:Bo c with
      |false=>rfl
      |true =>
       obtain⟨q1,q2⟩:=WE q;rw[Qz e,N8 q1 q2]at hp;cases hp
   have good:WdOk n x->wv n x<2 ^ 40->iA n (S++[x]) W 1:=λwd hv=>⟨_,.snoc _ _ _ _ r (.wd x wd g),λh' e=>by
    cases e;refine⟨?_,λu hu=>?_⟩
    ·rw[ZI,length_singleton];have:g.length=ip W+0:=hl;omega
    ·rcases mem_append.mp hu with q |q
     ·exact hs u q
     ·rw[ZH.mp q]
      exact hv⟩
   cases hnm:Bv x with
   |true =>
    by_cases hx:x∈n.aB.map (·.1)
    ·refine good ⟨cu,qe,qe,.inr (.inl ⟨aL,hnm,hx⟩)⟩ ?_;unfold wv;rw[aL,hnm,Zr qc,Zq rfl];obtain⟨p,hp',e⟩:=Zs.mp hx;rw[←e,ED D.nd hp'];exact Nat.lt_trans (D.lt p hp') qc
    ·exact iA.none (.no _ _ _ r ⟨cu,qe,aL,hnm,hx⟩)
   |false =>
    have hfg:Gg x=true:=by
     unfold EH at hp;rw[hnm]at hp;simpa using hp
    unfold Gg at hfg;rw[Bool.and_eq_true]at hfg
    have had:AllDigits x.cps.toList:=λc hc=>by
     have:=List.all_eq_true.mp hfg.1 c hc;unfold Ax at this;rw[Bool.and_eq_true,decide_eq_true_eq,decide_eq_true_eq]at this;exact this
    refine good ⟨cu,qe,qe,.inr (.inr ⟨aL,hnm,had⟩)⟩ ?_;unfold wv;rw[aL,hnm,Zr qc,Zr qc];have h2:=hfg.2;rw[Bool.or_eq_true]at h2;rcases h2 with q |q
    ·rw[ZU q];decide +kernel
    ·rw[Bool.and_eq_true]at q;have:(2:Nat) ^ 40=1099511627776:=by decide
     have:=ZU q.2;omega
 |ahead a S W g hg h r ih =>
  intro b;refine ih ?_;obtain⟨o,r,hr⟩:=b.ex;refine⟨o,r,λh' e=>?_⟩;obtain⟨hl,hs⟩:=hr h' e;refine⟨?_,hs⟩;rw[HE];have:ip [g]=0:=by rcases hg with rfl |rfl <;> rfl
  omega
 |join a S W Q g hg h hq hw r ih =>
  intro b;refine ih ?_;have g1:1<=g.b:=by cases g <;> first |exact hg.elim |decide
  obtain⟨o,r,hr⟩:=(J8 hk Q (λq h=>Nat.le_trans g1 (hq q h)) b).ex;refine⟨o,r,λh' e=>?_⟩;obtain⟨hl,hs⟩:=hr h' e;refine⟨?_,hs⟩;rw[HE];have:ip [g]=1:=by cases g <;> first |exact hg.elim |rfl
  show h'.length=ip W+ip [g]+0;omega
 |close a S W Q h hq r ih =>
  intro b;refine ih ?_;obtain⟨o,r,hr⟩:=(J8 (W:=W++[.br]) hk Q hq b).ex;refine⟨o,r,λh' e=>?_⟩;obtain⟨hl,hs⟩:=hr h' e;refine⟨?_,hs⟩;rw[HE]at hl;have:ip [Sg.br]=0:=rfl;show h'.length=ip W+1;omega
 |stop a c S W wp h hs e=>rw[←ho]at e;cases e
 |ends S W wp hw e=>rw[←ho]at e;cases e
def WH {z:Str}{T:Xa}{n:Nv} (D:D8 n.aB) (ha:z.cps.all (· < 128)=true) (hz:z.length<=100) (h:Rn false z (.ok T) 0 [] [] true):∃o,Ev n o [] T/\∀v,o=some v->v<2 ^ 40 :=
 Uo D ha hz h ⟨some [],.nil,λg e=>by cases e;exact⟨rfl,λv hv=>by cases hv⟩⟩
section
variable {DC bd cM cT cB:Xd}
def RdK (VC cB cT kp:Xd) (H:Hp) (Q:VK) (E:XK):Out->Prop
 | .ok _=>(∀q v H',aA H H'->eK VC H' q kp v->Q (.ref q) H')/\Uq H E cB
 | .bad p=>i0 H E cT (.int (p:Int))
inductive dG (K:FG) (C VC cB bd cT:Xd) (vs:Xc) (H:Hp) (Q:VK) (E:XK):Prop where
 |txt (kp:Xd) (z:Str) (aB:Aa) (o:Out) (cD:vs=[.ref kp,.str z]) (cG:aS C H kp aB "keep") (cI:D8 aB) (cY:z.cps.all (· < 128)=true) (d5:z.length<=61) (fk:Rn false z o 0 [] [] true) (jh:Rd H bd (.dK Bd)) (z_7:RdK VC cB cT kp H Q E o)
 |nm (kp:Xd) (z:Str) (aB:Aa) (T:Xa) (cD:vs=[.ref kp,.str z]) (cG:aS C H kp aB "keep") (cI:Ev ⟨aB,[],λ_=>0⟩ none [] T) (cY:z.cps.all (· < 128)=true) (d5:z.length<=61) (fk:Rn false z (.ok T) 0 [] [] true) (jh:Rd H bd (.dK Bd)) (z_7:Uq H E cB)
 |aI (kp:Xd) (v:V) (cD:vs=[.ref kp,v]) (cG:di K "str" H v) (cI:i0 H E cT .aI)
def Up:AN ["kind", "text"] ["kind", "text"] (defScope Np):=cQ
def So {f:Xd} (F:aV K "read" "read" Np f fd) (SO:Qs P w K mg base DC bd cT) (GN:iL P w K mg base "number_of" 5 ["kind", "steps", "table"] (spNo C cB)) (GM:Fn P w K mg base "made" 6 ["kind", "number"] (NB C VC)):AU P w K mg base (eB P w) 7 f fd ["kind", "text"] (dG K C VC cB bd cT):=by
 obtain⟨fS,dS,GS,mS,kS,_,g,bS⟩:=SO.ex;obtain⟨fN,dN,GN,mN,kN,bN⟩:=GN.ex;obtain⟨fM,dM,GM,mM,kM,bM⟩:=GM.ex;refine F.okX Up (λvs H Q E h=>?_) (λad A outer s H vs Q E hr h=>?_)
 ·cases h with
  |txt kp z aB o e=>subst e;rfl
  |nm kp z aB T e=>subst e;rfl
  |aI kp v e=>subst e;rfl
 ·have hr5:aE 5 _:=hr.mono qc;have ps:=Iz (P:=P) (w:=w) (K:=K) (mg:=mg) (base:=base) (N:=["kind", "text"]) (qual := "read") (scope:=defScope Np) (f:=f) (cd:=ad) (A:=A) (outer:=outer) (s:=s) (H:=H) (E:=E);refine⟨_,AG (AQ (AM GM hr rfl mM kM bM .nil AR (AA (pv 0) (AA (AM GN hr5 rfl mN kN bN .nil ps (AA (pv 0) (AA (Pb GS hr rfl mS kS bS ps (AA (pv 1) AC) (Jd By Ly)) (AA HQ AC)))) AC)))),?_⟩;cases h with
  |aI kp v e hv q =>
   subst e;exact⟨_,Zj,_,Zj,_,Zj,.aI v false Zj hv q⟩
  |nm kp z aB T e KA hev ha hz RN hB k =>
   subst e;refine⟨_,Zj,_,Zj,_,Zj,.mk z false (.ok T) Zj ha qe RN hB ?_⟩;intro l H1 s1 hl;intro t ht;have s2:=s1.trans (AD (aA.refl _) ht (o:=HO.dK []));have ht2:=AB (H:=H1) (a:=t) (o:=HO.dK []);have gQ:=AD (aA.refl _) ht (o:=HO.dK []) _ _ hl;generalize upd H1 t (HO.dK [])=H2 at s2 ht2 gQ ⊢;exact .mk kp l t T none ⟨aB,[],λ_=>0⟩ "keep" Zj (KA.same s2) (.inl ht2) gQ (NI RN hz).l4 hev (k.of s2)
  |txt kp z aB o e KA D ha hz RN hB k =>
   subst e;refine⟨_,rfl,_,rfl,_,rfl,.mk z false o rfl ha qe RN hB ?_⟩;cases o with
   |bad p=>exact k
   |ok T =>
    obtain⟨k1,k2⟩:=k;intro l H1 s1 hl;intro t ht;have s2:=s1.trans (AD (aA.refl _) ht (o:=HO.dK []));have ht2:=AB (H:=H1) (a:=t) (o:=HO.dK []);have gQ:=AD (aA.refl _) ht (o:=HO.dK []) _ _ hl;generalize upd H1 t (HO.dK [])=H2 at s2 ht2 gQ ⊢;obtain⟨ev,hev,aL⟩:=WH (n:=⟨aB,[],λ_=>0⟩) D ha qe RN;have SP:=NI RN hz;refine .mk kp l t T ev ⟨aB,[],λ_=>0⟩ "keep" rfl (KA.same s2) (.inl ht2) gQ SP.l4 hev ?_;cases ev with
    |none=>exact k2.of s2
    |some v=>exact λH3 s3=>⟨kp,aB, "keep", v,rfl,(KA.same s2).same s3,aL v rfl,.inl rfl,λq H4 s4 hV=>k1 q v H4 ((s2.trans s3).trans s4) hV⟩
inductive spRkN (K:FG) (cT:Xd) (vs:Xc) (H:Hp) (Q:VK) (E:XK):Prop where
 |mk (k v t:V) (cD:vs=[k,v,t]) (cG:di K "str" H v) (cI:i0 H E cT .aI)
def scRk:AN ["kind", "text", "table", "steps"] ["kind", "text", "table"] (defScope DQ):=cQ
def Ur {f:Xd} (F:aV K "reckoned" "reckoned" DQ f fd) (SO:Qs P w K mg base DC bd cT):AU P w K mg base (eB P w) 7 f fd ["kind", "text", "table"] (spRkN K cT):=by
 obtain⟨fS,dS,GS,mS,kS,⟨ds,bS,vS⟩,_⟩:=SO.ex;refine F.n scRk λvs H Q E h=>?_;obtain⟨k,v,t,rfl,hv,q⟩:=h;refine⟨Zj,λad A outer s hr=>?_⟩;have ps:=Iz (P:=P) (w:=w) (K:=K) (mg:=mg) (base:=base) (N:=["kind", "text", "table", "steps"]) (qual := "reckoned") (scope:=defScope DQ) (f:=f) (cd:=ad) (A:=A) (outer:=outer) (s:=s) (H:=H) (E:=E);have never:∀ {st:List Stmt},eE (Ao (eB P w) P w K mg base ["kind", "text", "table", "steps"] "reckoned" (defScope DQ) f ad A outer s H E) st (λ_ _ _=>False):=λ{st} _ _ _ _ _ _ z=>z.elim;exact⟨_,AF (Ag (i:=3) scRk.nd Zj (Or.inl Zj) (AM GS hr Zj mS kS bS vS ps (AA (pv 1) AC))) never,_,Zj,.aI v true Zj hv q⟩
inductive spAlN (K:FG) (bd cT:Xd) (vs:Xc) (H:Hp) (Q:VK) (E:XK):Prop where
 |one (k v u:V) (cD:vs=[k,v,u]) (cG:di K "str" H v) (cI:i0 H E cT .aI)
 |two (k v:V) (z:Str) (T:Xa) (cD:vs=[k,.str z,v]) (cG:z.cps.all (· < 128)=true) (cI:z.length<=100) (cY:Rn true z (.ok T) 0 [] [] true) (d5:Rd H bd (.dK Bd)) (fk:di K "str" H v) (jh:i0 H E cT .aI)
noncomputable abbrev NAl:Xa:=["kind", "one", "other", "steps", "others", "signs", "choice", "table"]
def scAl:AN NAl ["kind", "one", "other"] (defScope Hv):=cQ
def Us {f:Xd} (F:aV K "alike" "alike" Hv f fd) (SO:Qs P w K mg base DC bd cT):AU P w K mg base (eB P w) 7 f fd ["kind", "one", "other"] (spAlN K bd cT):=by
 obtain⟨fS,dS,GS,mS,kS,⟨ds,bS,vS⟩,_⟩:=SO.ex;refine F.okX scAl (λvs H Q E h=>?_) (λad A outer s H vs Q E hr h=>?_)
 ·cases h with
  |one k v u e=>subst e;rfl
  |two k v z T e=>subst e;rfl
 ·have ps:=Iz (P:=P) (w:=w) (K:=K) (mg:=mg) (base:=base) (N:=NAl) (qual := "alike") (scope:=defScope Hv) (f:=f) (cd:=ad) (A:=A) (outer:=outer) (s:=s) (H:=H) (E:=E);have never:∀ {st:List Stmt},eE (Ao (eB P w) P w K mg base NAl "alike" (defScope Hv) f ad A outer s H E) st (λ_ _ _=>False):=λ{st} _ _ _ _ _ _ z=>z.elim;refine⟨_,AF (Ag (i:=3) scAl.nd rfl (Or.inl rfl) (AM GS hr rfl mS kS bS vS ps (AA (pv 1) AC))) (AF (Ag (i:=4) scAl.nd rfl (Or.inl rfl) (AM GS hr rfl mS kS bS vS ps (AA (pv 2) AC))) never),?_⟩;cases h with
  |one k v u e hv q =>
   subst e;exact⟨_,Zj,.aI v true Zj hv q⟩
  |two k v z T e ha hz RN hB hv q =>
   subst e;refine⟨_,Zj,.mk z true (.ok T) Zj ha hz RN hB λl H1 s1 hl=>⟨_,Zj,.aI v true Zj (hv.same s1) (λe' d H2 s2 h1 h2=>q e' d H2 (s1.trans s2) (none_of s1 h1) (none_of s1 h2))⟩⟩
end
noncomputable def stS:Pst->Str | .need => "need" | .name => "name" | .num => "number" | .iy => "behind"
noncomputable def plV:Option Nat->V
 |some p=>.int (p:Int)
 |none=>.int (-1)
def TZ (s:Pst):decide (V.str (stS s)=V.str "name")=decide (s=.name)/\decide (V.str (stS s)=V.str "number")=decide (s=.num)/\decide (V.str (stS s)=V.str "need")=decide (s=.need):=by
 cases s <;> exact⟨qb,qb,qb⟩
def J9 (c d:Nat) (x:Str) (hx:x.cps.toList=[d]):decide (V.str ⟨#[c]⟩=V.str x)=decide (c=d):=by
 by_cases h:c=d
 ·rw[ZM h,ZM];rw[h];congr 1;exact EV hx.symm
 ·rw[ZP h,ZP];intro z;exact Dh hx h (V.str.inj z)
def Q5 (c:Nat):(if (!decide ((⟨#[c]⟩:Str).cps.toList<("A" : Str).cps.toList))=true then (!decide (("Z" : Str).cps.toList<(⟨#[c]⟩:Str).cps.toList))else false)=BC c:=DU 65 90 "A" "Z" qb qb c
def Q6 (c:Nat):(if (!decide ((⟨#[c]⟩:Str).cps.toList<("0" : Str).cps.toList))=true then (!decide (("9" : Str).cps.toList<(⟨#[c]⟩:Str).cps.toList))else false)=Ax c:=DU 48 57 "0" "9" qb qb c
def Ut (c:Nat):(if (!decide ((⟨#[c]⟩:Str).cps.toList<("a" : Str).cps.toList))=true then (!decide (("z" : Str).cps.toList<(⟨#[c]⟩:Str).cps.toList))else false)=Bo c:=DU 97 122 "a" "z" qb qb c
abbrev WI:R2:=λx y H Q=>∃i j,x=.str i/\y=.str j/\Q (.bl (!decide (j.cps.toList<i.cps.toList))) H
def Lb {lo hi x:Str}{σ:St}{Q:Bool->Hp->Prop}{b:Bool} (h6:σ[6]?=some (some (.str x))) (hb:(if (!decide (x.cps.toList<lo.cps.toList))=true then (!decide (hi.cps.toList<x.cps.toList))else false)=b) (q:Q b H):PY (Lr WI WI (tC (.str lo)) (Cj 6) (tC (.str hi))) σ H Q:=by
 subst hb;refine⟨_,h6,_,_,Zj,Zj,_,Zj,?_⟩;refine B4 (λh=>?_) (λh=>?_)
 ·rw[Zq h]at q;exact⟨_,_,Zj,Zj,_,Zj,q⟩
 ·rw[Zr h]at q;exact⟨_,Zj,q⟩
def KB {A B:TT}{σ:St}{Q:Bool->Hp->Prop} (p q:Bool) (hA:∀Q':Bool->Hp->Prop,Q' p H->A σ H Q') (hB:∀Q':Bool->Hp->Prop,Q' q H->B σ H Q') (h:Q (p&&q) H):Ti A B σ H Q:=by
 refine hA _ ?_;cases p with
 |true=>exact Ac (hB _ h)
 |false=>exact AT h
def NJ (c:Nat):∀(ds:List Nat) (xs:Xa),xs.map (·.cps.toList)=ds.map (λd=>[d])->dz (V.str ⟨#[c]⟩) (xs.map V.str)=decide (c∈ds)
 | [],[],_=>by simp[dz]
 | [],x::xs,h=>by cases h
 |d::ds,[],h=>by cases h
 |d::ds,x::xs,h=>by
  rw[map_cons,map_cons]at h;injection h with h1 h2
  have ih:=NJ c ds xs h2
  have:dz (V.str ⟨#[c]⟩) ((x::xs).map V.str)=(decide (c=d) ||dz (V.str ⟨#[c]⟩) (xs.map V.str)):=by
   rw[HD,HD,any_cons];congr 1;rw[Bool.eq_iff_iff,beq_iff_eq,decide_eq_true_eq];constructor
   ·intro e;rw[e]at h1;injection h1
   ·intro e;exact EV (by rw[h1,e])
  rw[this,ih,Bool.eq_iff_iff,Bool.or_eq_true,decide_eq_true_eq,decide_eq_true_eq,decide_eq_true_eq,mem_cons]
structure PlI (lt:Bool) (z:Str) (i:Nat) (s:Pc):Prop where
 go:gN lt z.cps.toList (z.cps.toList.drop i) i s=gX lt z
 cE:s.cE<=i
 dg:s.st=.num->s.cE<i/\(sub z.cps.toList s.cE (i - s.cE)).all Ax=true
section
def Uu:Sp:=λvs H Q _=>∃(z:Str) (lt:Bool),vs=[.str z,.bl lt]/\z.cps.all (· < 128)=true/\z.length<=100/\∀H',aA H H'->Q (plV (gX lt z)) H'
noncomputable abbrev NPl:Xa:=["_law_text", "_law_is_lettered", "_law_state", "_law_deep", "_law_begin", "_law_at", "_law_sign"]
def scPl:AN NPl ["_law_text", "_law_is_lettered"] (defScope GZ):=cQ
def WJ {f:Xd} (F:aV K "_law_place" "_law_place" GZ f fd) (B:Bl mg):AU P w K mg base aK 1 f fd ["_law_text", "_law_is_lettered"] Uu:=by
 refine F.m scPl λvs H Q E h=>?_;obtain⟨z,lt,rfl,ha,h100,q⟩:=h;refine⟨Zj,λad A outer s hr=>?_⟩;have nd:=scPl.nd
 refine⟨_,fj.h (Es (.mk (Cp (hs:=by kernel_rfl) (hw:=by kernel_rfl) (Ay (AA AI (AA AE (AA AE AC)))) (Ch Zj (Ai (AZ (i:=2) nd Zj (Or.inl Zj)) (Ai (AZ (i:=3) nd Zj (Or.inl Zj)) (Ai (AZ (i:=4) nd Zj (Or.inl Zj)) Br))))))
  (Es (Kq PassesOwn.never rfl (.mk (QD rfl B.enum (AA (pv 0) AC))) (Ch rfl (Ai (AZ (i:=5) nd rfl (Or.inl rfl)) (Ai (AZ (i:=6) nd rfl (Or.inl rfl)) Br)))
   (Ar (Cr (.mk (PW.pt (Bt (AL A7 (pv 2) AI (AO _)) (BX (B2 Av Av AI (pv 6) AI)))))
    (Ar (Cr (.mk (AL A7 (Af Eh (pv 5) (pv 4)) AE (AO _))) (Ar (.mk (AQ (pv 5)))) CL))
    (Ar (Cr (.mk (PW.pt (Bt (AL A7 (pv 2) AI (AO _)) (BX (B2 Av Av AI (pv 6) AI)))))
     (Ar (Cr (.mk (PW.pt (DF (AL A7 (BJ Fz (pv 0) (pv 4) (λ_ _=>rfl)) AI (AO _)) (CJ (AL Gk (BU DA rfl B.int E5 (AA (DJ F6 (pv 0) (Ck (pv 4)) (Ck (Af B0 (pv 5) AE))) AC)) (Af Ja AE AE) (AO _)))))) (Ar (.mk (AQ (pv 5)))) CL))
     (Ar (Cr (.mk (AL A7 (pv 2) AI (AO _)))
      (Es (Bj (i:=4) nd rfl (Or.inl rfl) (.mk (pv 5)))
       (Ar (Cr (.mk (B2 Av Av AI (pv 6) AI)) (Ar (Bj (i:=2) nd rfl (Or.inl rfl) (.mk AI)))
        (Ar (Cr (.mk (B2 Av Av AI (pv 6) AI)) (Ar (Bj (i:=2) nd rfl (Or.inl rfl) (.mk AI)))
         (Ar (Cr (.mk (PW.pt (Bt (A3 (pv 1)) (BX (B2 Av Av AI (pv 6) AI))))) (Ar (Bj (i:=2) nd rfl (Or.inl rfl) (.mk AI)))
          (Ar (Cr (.mk (AL A7 (pv 6) AI (AO _))) (Ar (Bj (i:=3) nd rfl (Or.inl rfl) (EY B0 (.mk (pv 3)) (.mk AE))))
           (Ar (Cr (.mk (AL FL (pv 6) (Ay (AA AI (AA AI AC))) rfl)) (Ar (.mk (AQ (pv 5)))) CL)))))))))))
      (Es (Bj (i:=2) nd rfl (Or.inl rfl) (.mk AI))
       (Ar (Cr (.mk (AL DK (pv 6) (Ay (AA AI (AA AI (AA AI AC)))) rfl)) (Ar (Bj (i:=2) nd rfl (Or.inl rfl) (.mk AI)))
        (Ar (Cr (.mk (PW.pt (Bt (AL A7 (pv 6) AI (AO _)) (BX (AL FF (pv 3) AE (AO _)))))) (Ar (Bj (i:=3) nd rfl (Or.inl rfl) (EY Eh (.mk (pv 3)) (.mk AE))))
         (Ar (Cr (.mk (AL Dj (pv 6) AI (AO _))) (Ar (.mk (AQ (pv 5)))) CL))))))))))))))
  (Ar (.mk (AQ (Bz (PW.pt (DF (AL A7 (pv 2) AI (AO _)) (CJ (AL FF (pv 3) AE (AO _))))) (AW At rfl B.len PySem.boot_len (AA (pv 0) AC)) (FD Ej AE))))))),?_⟩
 have cl:z.cps.toList.length=z.length:=Ae z;refine⟨gU,λtp gJ=>?_⟩;have st:=AD (aA.refl _) gJ (o:=HO.tup [V.str "need", V.int 0,V.int 0]);refine⟨tp,_,rfl,bH.of AB,rfl,_,_,rfl,_,_,rfl,_,_,rfl,rfl,?_⟩;generalize upd H tp (HO.tup [V.str "need", V.int 0,V.int 0])=H0 at st ⊢;refine⟨_,rfl,z,rfl,ha,Oi (x:=z) (λi σ H'=>(∃(s:Pc) (v5 v6:Option V),σ=[some (.str z),some (.bl lt),some (.str (stS s.st)),some (.int (s.deep:Int)),some (.int (s.cE:Int)),v5,v6]/\PlI lt z i s)/\aA H H') ⟨⟨pc0,_,_,rfl,⟨rfl,Zz _,λz=>nomatch z⟩⟩,st⟩ ?_ ?_⟩
 ·rintro i c σ H1 p hc ⟨⟨s,v5,v6,rfl,I⟩,s1⟩ hp;refine⟨p,_,Zj,bH.of AB,Zj,_,_,Zj,_,_,Zj,Zj,?_⟩;have s2:=AD s1 hp (o:=HO.tup [V.int (i:Int),V.str ⟨#[c]⟩]);generalize upd H1 p (HO.tup [V.int (i:Int),V.str ⟨#[c]⟩])=H2 at s2 ⊢;obtain⟨hil,_⟩:=Z8.mp hc;obtain⟨e1,e2,e3⟩:=TZ s.st
  have stop:BF lt z.cps.toList i c s=none->∀H',aA H H'->Q (.int (i:Int)) H':=λe H' s'=>by
   have ep:gX lt z=some i:=by rw[←I.go,Fp hc e]
   have:=q H' s';rw[ep]at this;exact this
  have on:∀s':Pc,BF lt z.cps.toList i c s=some s'->s'.cE<=i+1->(s'.st=.num->s'.cE<i+1/\(sub z.cps.toList s'.cE (i+1 - s'.cE)).all Ax=true)->PlI lt z (i+1) s':=λs' e h1 h2=>⟨by rw[←I.go,CH hc e],h1,h2⟩;have hbeg:=I.cE;refine KB (decide (s.st=.name)) (BC c) (λQ' k=>⟨_,Zj,Zj,_,Zj,by rw[e1];exact k⟩) (λQ' k=>Lb Zj (Q5 c) k) ?_;by_cases hA:s.st=.name/\BC c=true
  ·rw[ZM hA.1,hA.2];refine Ac ⟨_,Zj,_,Zj,_,_,Zj,Zj,Zj,_,Zj,?_⟩;have ps:BF lt z.cps.toList i c s=if i - s.cE=6 then none else some s:=by unfold BF;rw[Zq hA]
   by_cases h6:i - s.cE=6
   ·rw[Zq h6]at ps;rw[ZM (show V.int ((i:Int) - (s.cE:Int))=V.int 6 by congr 1;omega)];exact Ac ⟨_,Zj,stop ps _ s2⟩
   ·rw[Zr h6]at ps;rw[ZP (show ¬ V.int ((i:Int) - (s.cE:Int))=V.int 6 from λy=>h6 (by have:=V.int.inj y;omega))];exact AT ⟨⟨s,_,_,Zj,on s ps qe (λy=>by rw[hA.1]at y;cases y)⟩,s2⟩
  ·have hA':(decide (s.st=.name)&&BC c)=false:=by
    rw[Bool.and_eq_false_iff,decide_eq_false_iff_not];by_cases y:s.st=.name
    ·exact .inr (Bool.eq_false_iff.mpr λu=>hA ⟨y,u⟩)
    ·exact .inl y
   rw[hA'];refine AT ?_;refine KB (decide (s.st=.num)) (Ax c) (λQ' k=>⟨_,Zj,Zj,_,Zj,by rw[e2];exact k⟩) (λQ' k=>Lb Zj (Q6 c) k) ?_;by_cases hB:s.st=.num/\Ax c=true
   ·rw[ZM hB.1,hB.2];refine Ac ?_;obtain⟨d1,d2⟩:=I.dg hB.1;obtain⟨c0,hc0⟩:∃c0,z.cps.toList[s.cE]?=some c0:=⟨_,Z7 qe⟩;have ps:BF lt z.cps.toList i c s=if z.cps.toList[s.cE]?=some 48\/1099511627776<=digitsVal ((z.cps.toList.drop s.cE).take (i+1 - s.cE))then none else some s:=by unfold BF;rw[Zr hA,Zq hB]
    have al:(sub z.cps.toList s.cE (i+1 - s.cE)).all Ax=true:=by
     rw[show i+1 - s.cE=i - s.cE+1 by omega,DX (c:=c) (by rw[show s.cE+(i - s.cE)=i by omega];exact hc),all_append,d2];simp[hB.2]
    refine⟨_,Zj,_,Zj,z,(s.cE:Int),c0,Zj,Zj,Nat.le_of_lt (AK qe),BO hc0,Zj,_,Zj,?_⟩;rw[J9 c0 48 "0" qb];by_cases h0:c0=48
    ·rw[Zq (.inl (by rw[hc0,h0]))]at ps;rw[ZM h0];exact Ac (Ac ⟨_,Zj,stop ps _ s2⟩)
    ·rw[ZP h0];refine AT ?_;refine⟨_,Zj,_,Zj,_,Zj,_,Zj,_,_,Zj,Zj,_,Zj,z,Zj,Nat.le_of_lt (AK qe),?_⟩;have ei:(i:Int)+1=((i+1:Nat):Int):=by omega
     have hx:(Txt.slice z (some (s.cE:Int)) (some ((i:Int)+1))).cps.toList=sub z.cps.toList s.cE (i+1 - s.cE):=by rw[ei,Ce z qe qe]
     have hl:=Di (cs:=z.cps.toList) (a:=s.cE) (k:=i+1 - s.cE) qe
     have hd:AllDigits (Txt.slice z (some (s.cE:Int)) (some ((i:Int)+1))).cps.toList:=λd hd=>by
      rw[hx]at hd;have:=List.all_eq_true.mp al d hd;unfold Ax at this;rw[Bool.and_eq_true,decide_eq_true_eq,decide_eq_true_eq]at this;exact this
     have xl:(Txt.slice z (some (s.cE:Int)) (some ((i:Int)+1))).length=i+1 - s.cE:=by rw[←Ae,hx,hl]
     refine⟨_,_,Zj,by rw[xl];omega,intText_digits hd (by rw[hx];intro y;rw[y]at hl;simp at hl;omega) (by rw[xl];omega),_,_,Zj,Zj,⟨qc,qc,qc⟩,_,_,Zj,Zj,_,Zj,?_⟩;rw[hx];have e40:(2:Int) ^ (40:Int).toNat=1099511627776:=by decide
     by_cases hv:1099511627776<=digitsVal ((z.cps.toList.drop s.cE).take (i+1 - s.cE))
     ·rw[Zq (.inr hv)]at ps;rw[ZM (show(2:Int) ^ (40:Int).toNat<=((digitsVal (sub z.cps.toList s.cE (i+1 - s.cE)):Nat):Int) by rw[e40];exact Int.ofNat_le.mpr hv)];exact Ac ⟨_,Zj,stop ps _ s2⟩
     ·rw[Zr (λy=>y.elim (λu=>h0 (by rw[hc0]at u;exact Option.some.inj u)) hv)]at ps;rw[ZP (show ¬ (2:Int) ^ (40:Int).toNat<=((digitsVal (sub z.cps.toList s.cE (i+1 - s.cE)):Nat):Int) by rw[e40];exact λy=>hv (Int.ofNat_le.mp y))];exact AT ⟨⟨s,_,_,Zj,on s ps qe (λ_=>⟨qe,al⟩)⟩,s2⟩
   ·have hB':(decide (s.st=.num)&&Ax c)=false:=by
     rw[Bool.and_eq_false_iff,decide_eq_false_iff_not];by_cases y:s.st=.num
     ·exact .inr (Bool.eq_false_iff.mpr λu=>hB ⟨y,u⟩)
     ·exact .inl y
    rw[hB'];refine AT ⟨_,Zj,Zj,_,Zj,?_⟩;rw[e3];by_cases hN:s.st=.need
    ·rw[ZM hN];refine Ac ⟨_,Zj,?_⟩;have ps:BF lt z.cps.toList i c s=(if BC c=true then some ⟨.name,s.deep,i⟩else if Ax c=true then some ⟨.num,s.deep,i⟩else if lt=true/\Bo c=true then some ⟨.iy,s.deep,i⟩else if c=40 then some ⟨.need,s.deep+1,i⟩else if c=32\/c=126 then some ⟨.need,s.deep,i⟩else none):=by unfold BF;rw[Zr hA,Zr hB,Zq hN]
     refine Lb rfl (Q5 c) ?_;cases hu:BC c with
     |true =>
      rw[hu,Zq rfl]at ps;exact Ac ⟨⟨_,_,_,rfl,on _ ps (Nat.le_succ _) (λy=>nomatch y)⟩,s2⟩
     |false =>
     rw[hu,Zr qc]at ps;refine AT (Lb rfl (Q6 c) ?_);cases hg:Ax c with
     |true =>
      rw[hg,Zq rfl]at ps;refine Ac ⟨⟨_,_,_,Zj,on _ ps (Nat.le_succ _) (λ_=>⟨Nat.lt_succ_self _,?_⟩)⟩,s2⟩;show(sub z.cps.toList i (i+1 - i)).all Ax=true;rw[show i+1 - i=0+1 by omega,DX (c:=c) (by rw[Nat.add_zero];exact hc)];simp[hg]
     |false =>
     rw[hg,Zr qc]at ps;refine AT ?_;refine KB lt (Bo c) (λQ' k=>⟨_,Zj,_,Zj,k⟩) (λQ' k=>Lb Zj (Ut c) k) ?_;by_cases hL:lt=true/\Bo c=true
     ·rw[Zq hL]at ps;rw[show(lt&&Bo c)=true by rw[hL.1,hL.2];rfl];exact Ac ⟨⟨_,_,_,rfl,on _ ps (Nat.le_succ _) (λy=>nomatch y)⟩,s2⟩
     ·rw[Zr hL]at ps
      have hL':(lt&&Bo c)=false:=by
       rw[Bool.and_eq_false_iff];cases lt with
       |false=>exact .inl rfl
       |true=>exact .inr (Bool.eq_false_iff.mpr λu=>hL ⟨rfl,u⟩)
      rw[hL'];refine AT ⟨_,Zj,Zj,_,Zj,?_⟩;rw[J9 c 40 "(" qb];by_cases iI:c=40
      ·rw[Zq iI]at ps;rw[ZM iI];exact Ac ⟨_,rfl,_,_,rfl,rfl,⟨_,_,_,by rw[hN];rfl,on _ ps (Nat.le_succ _) (λy=>nomatch y)⟩,s2⟩
      ·rw[Zr iI]at ps;rw[ZP iI];refine AT ⟨_,Zj,fc,λp2 am=>⟨p2,_,Zj,.inr (bH.of AB),Zj,Zj,_,Zj,?_⟩⟩;have s3:=AD s2 am (o:=HO.tup [V.str " ", V.str "~"]);have ein:dz (V.str ⟨#[c]⟩) [V.str " ", V.str "~"]=decide (c∈ [32,126]):=NJ c [32,126] [" ", "~"] qb;rw[ein];by_cases gy:c=32\/c=126
       ·rw[Zq gy]at ps;rw[ZM (show c∈ [32,126] by simpa using gy)];exact AT ⟨⟨_,_,_,by rw[hN];rfl,on _ ps (Nat.le_succ _) (λy=>nomatch y)⟩,s3⟩
       ·rw[Zr gy]at ps;rw[ZP (show ¬ c∈ [32,126] by simpa using gy)];exact Ac ⟨_,Zj,stop ps _ s3⟩
    ·rw[ZP hN];refine AT ⟨_,Zj,gU,λp2 am=>⟨p2,_,Zj,.inr (bH.of AB),Zj,Zj,_,Zj,?_⟩⟩;have s3:=AD s2 am (o:=HO.tup [V.str "|", V.str "^", V.str "&"]);have ps:BF lt z.cps.toList i c s=(if c=124\/c=94\/c=38 then some ⟨.need,s.deep,s.cE⟩else if c=41/\0<s.deep then some ⟨.iy,s.deep - 1,s.cE⟩else if c=32 then some ⟨.iy,s.deep,s.cE⟩else none):=by unfold BF;rw[Zr hA,Zr hB,Zr hN]
     have ein:dz (V.str ⟨#[c]⟩) [V.str "|", V.str "^", V.str "&"]=decide (c∈ [124,94,38]):=NJ c [124,94,38] ["|", "^", "&"] qb;rw[ein];generalize upd H2 p2 (HO.tup [V.str "|", V.str "^", V.str "&"])=H3 at s3 ⊢;by_cases hj:c=124\/c=94\/c=38
     ·rw[Zq hj]at ps;rw[ZM (show c∈ [124,94,38] by simpa using hj)];exact Ac ⟨⟨_,_,_,rfl,on _ ps (by show s.cE<=_;omega) (λy=>nomatch y)⟩,s3⟩
     ·rw[Zr hj]at ps;rw[ZP (show ¬ c∈ [124,94,38] by simpa using hj)];refine AT ?_
      refine KB (decide (c=41)) (decide (0<s.deep)) (λQ' k=>⟨_,Zj,Zj,_,Zj,by rw[J9 c 41 ")" qb];exact k⟩) (λQ' k=>⟨_,Zj,_,_,Zj,Zj,_,Zj,by
       rw[show decide ((s.deep:Int)>0)=decide (0<s.deep) by rw[Bool.eq_iff_iff,decide_eq_true_eq,decide_eq_true_eq];omega]
       exact k⟩) ?_
      by_cases iW:c=41/\0<s.deep
      ·rw[Zq iW]at ps;rw[ZM iW.1,ZM iW.2];refine Ac ⟨_,rfl,_,_,rfl,rfl,⟨⟨.iy,s.deep - 1,s.cE⟩,some (.int (i:Int)),some (.str ⟨#[c]⟩),?_,on _ ps (by show s.cE<=_;omega) (λy=>nomatch y)⟩,s3⟩;have:(s.deep:Int) - 1=((s.deep - 1:Nat):Int):=by omega
       show [some (V.str z),some (V.bl lt),some (V.str "behind"),some (V.int ((s.deep:Int) - 1)),some (V.int (s.cE:Int)),some (.int (i:Int)),some (.str ⟨#[c]⟩)]=[some (V.str z),some (V.bl lt),some (V.str "behind"),some (V.int ((s.deep - 1:Nat):Int)),some (V.int (s.cE:Int)),some (.int (i:Int)),some (.str ⟨#[c]⟩)];rw[this]
      ·rw[Zr iW]at ps
       have h41':(decide (c=41)&&decide (0<s.deep))=false:=by
        rw[Bool.and_eq_false_iff,decide_eq_false_iff_not,decide_eq_false_iff_not];by_cases y:c=41
        ·exact .inr λu=>iW ⟨y,u⟩
        ·exact .inl y
       rw[h41'];refine AT ⟨_,Zj,Zj,_,Zj,?_⟩;rw[J9 c 32 " " qb];by_cases gy:c=32
       ·rw[Zq gy]at ps;rw[ZM gy];exact AT ⟨⟨_,_,_,rfl,on _ ps (by show s.cE<=_;omega) (λy=>nomatch y)⟩,s3⟩
       ·rw[Zr gy]at ps;rw[ZP gy];exact Ac ⟨_,Zj,stop ps _ s3⟩
 ·rintro σ H1 ⟨⟨s,v5,v6,rfl,I⟩,s1⟩;obtain⟨e1,e2,e3⟩:=TZ s.st;have ez:z.cps.toList.drop z.cps.size=[]:=by rw[←Array.length_toList,drop_length]
  have ep:gX lt z=if s.st=.need\/0<s.deep then some z.cps.size else none:=by
   rw[←I.go,ez];rfl
  have qq:=q H1 s1;rw[ep]at qq;refine⟨_,Zj,Zj,_,Zj,?_⟩;rw[e3];by_cases hN:s.st=.need
  ·rw[Zq (.inl hN)]at qq;rw[ZM hN];exact Ac (Ac ⟨_,Zj,z,Zj,Nat.le_of_lt (AK qe),qq⟩)
  ·rw[ZP hN];refine AT ⟨_,Zj,_,_,Zj,Zj,_,Zj,?_⟩;by_cases hd:0<s.deep
   ·rw[Zq (.inr hd)]at qq;rw[ZM (show(s.deep:Int)>0 by omega)];exact Ac ⟨_,Zj,z,Zj,Nat.le_of_lt (AK qe),qq⟩
   ·rw[Zr (λy=>y.elim hN hd)]at qq;rw[ZP (show ¬ (s.deep:Int)>0 by omega)];exact AT ⟨_,Zj,qq⟩
end
structure FunC (K:FG) (x qual:Str) (st:Stmt) (f:Xd) (fd:FuncData) (c:Xd):Prop where
 ex:∃(oc:Value) (od:Option Xd) (kV doc pm:Value) (an:Option Xd) (ct:Value) (gB:Array (Option Value)),
  fd=W.fnOf x qual (defArgs st) (defBody st) (defScope st) .none kV doc pm an (.ref c) ct/\K.lookup f=some ⟨oc,od,.func fd,gB⟩/\W.codeIn K (.ref c) qual=true
def FunC.ok {x qual:Str}{st:Stmt}{f c:Xd}{N ps:Xa}{k:Nat}{sp:Sp} (F:FunC K x qual st f fd c) (S:AN N ps (defScope st)) (len:∀vs H Q E,sp vs H Q E->vs.length=ps.length)
  (bg:∀(A:Around) (outer:List Env) (s:Xe) (H:Hp) (vs:Xc) (Q:VK) (E:XK),aE k (A.deeper (PyProof.Rows.envOfC qual (defScope st) s.heap.objs.size f (.ref c)))->sp vs H Q E ->
   ∃t,eE (Ao aK P w K mg base N qual (defScope st) f (.ref c) A outer s H E).dH (defBody st) t/\t { nx:=λ_ H'=>Q .aI H',rt:=Q } (Bw N vs) H):AU P w K mg base aK (k+1) f fd ps sp:=by
 obtain⟨oc,od,kV,doc,pm,an,ct,gB,rfl,lk,fh⟩:=F.ex;refine NU lk fh S len λA outer s H vs Q E hr gP=>?_;obtain⟨t,h,q⟩:=bg A outer s H vs Q E hr gP;exact⟨t,h.dH,q⟩
noncomputable def HF:Stmt->List Stmt | .For _ _ b _ _=>b |_=>[]
noncomputable def Q7:Stmt->Expr | .Assign _ v _=>v |_=>.Name "" ⟨0,0,0,0⟩
noncomputable def Ah (i:Nat):Expr->Expr | .Call _ es _ _=>es.getD i (.Name "" ⟨0,0,0,0⟩) |e=>e
noncomputable def Sq:Stmt->Expr | .If (.Compare l _ _ _) _ _ _=>l |_=>.Name "" ⟨0,0,0,0⟩
noncomputable def FA (l:List Stmt) (i:Nat):Stmt:=l.getD i (.Pass ⟨0,0,0,0⟩)
noncomputable def WK (i:Nat):Expr->Expr | .List es _=>es.getD i (.Name "" ⟨0,0,0,0⟩) |e=>e
noncomputable def KC:Stmt->Expr | .Expr e _=>e |_=>.Name "" ⟨0,0,0,0⟩
noncomputable def Lc:List Stmt:=HF (FA (defBody BR) 0)
noncomputable def Uv:Stmt->List Stmt | .If _ b _ _=>b |_=>[]
noncomputable def WL:List Stmt:=HF (FA Lc 2)
noncomputable def Ta:List Stmt:=Uv (FA WL 4)
noncomputable def Ld:List Stmt:=HF (FA Lc 3)
noncomputable def WM:List Stmt:=HF (FA Lc 6)
noncomputable def WN:Expr->Expr | .Compare l _ _ _=>l |e=>e
noncomputable def JP:Expr:=Q7 (FA Ta 1)
noncomputable def JQ:Expr:=WN (Sq (FA Ta 5))
noncomputable def JR:Expr:=WK 0 (Q7 (FA Ld 0))
noncomputable def JS:Expr:=Ah 0 (KC (FA Ld 1))
noncomputable def JT:Expr:=Ah 0 (KC (FA Ld 2))
noncomputable def JU:Expr:=Ah 0 (KC (FA Ld 3))
noncomputable def JV:Expr:=Ah 0 (KC (FA Ld 4))
noncomputable def JW:Expr:=WN (Sq (FA WM 1))
noncomputable def JX:Expr:=Sq (FA Lc 7)
noncomputable def Gi:Expr:=Sq (FA Lc 8)
noncomputable def CZ:Expr->Expr | .Lambda _ b _ _=>b |e=>e
noncomputable def DD:Expr->Arguments | .Lambda a _ _ _=>a |_=>defArgs BR
noncomputable def Bp:Expr->Scope | .Lambda _ _ sc _=>sc |_=>defScope BR
noncomputable def BL:Expr->Pos | .Lambda _ _ _ p=>p |_=>⟨0,0,0,0⟩
noncomputable def LS:List Pos:=[BL (Ah 0 JP),BL (Ah 0 JQ),BL (Ah 0 JR),BL (Ah 0 JS),BL (Ah 0 JT),BL (Ah 0 JU),BL (Ah 0 JV),BL (Ah 0 JW),BL (Ah 0 JX),BL (Ah 0 Gi)]
def Ee (j:Nat):∀l,LS[j]?=some l->∀q∈LS,q=l\/(q.line==l.line&&q.col==l.col)=false:=by
 have key:(LS.all λl=>LS.all λq=>decide (q=l) || !(q.line==l.line&&q.col==l.col))=true:=by decide +kernel
 intro l hl q hq;have h1:=List.all_eq_true.mp (List.all_eq_true.mp key l (Z4 hl)) q hq;rw[Bool.or_eq_true]at h1;rcases h1 with z |z
 ·exact .inl (ZU z)
 ·exact .inr (by rw[Bool.not_eq_true']at z;exact z)
def Gj {α β:Type} [BEq α] [LawfulBEq α] {x:α}{v:β}:∀ {l:List (α×β)},l.lookup x=some v->(x,v)∈l
  | [],h=>by cases h
  | (y,u)::r,h=>by
    rw[ZA]at h;cases e:x==y with
    |true =>
      rw[e]at h;cases h;rw[eq_of_beq e];exact ZJ ..
    |false =>
      rw[e]at h;exact ZR _ (Gj h)
def Sr {scope:Scope}{cC:List (Str×Xd)} (h:scope.names.all (λp=>!(p.2 == .cell ||p.2 == .free)||(cC.lookup p.1).isSome)=true):∀x,(scope.names.lookup x=some .cell\/scope.names.lookup x=some .free)->∃c,cC.lookup x=some c:=λx hx=>by
 have g:∀k,scope.names.lookup x=some k->(k == .cell ||k == .free)=true->∃c,cC.lookup x=some c:=λk e hk=>by
  have:=List.all_eq_true.mp h _ (Gj e);simp only[hk,Bool.not_true,Bool.false_or]at this;exact Option.isSome_iff_exists.mp this
 rcases hx with z |z
 ·exact g _ z rfl
 ·exact g _ z rfl
noncomputable def qL:Str := "law.<locals>." ++ "<lambda>"
def Keeps (H H':Hp):Prop:=∀b o,H b=some o->(∀x y:Int,o≠ .lst [.int x,.int y])->(∀ps,o≠ .fb ps)->(∀g,o≠ .ext g)->H' b=some o
def aS.keeps {p:Xd}{r:Str} (s:Keeps H H') (h:aS C H p aB r):aS C H' p aB r:=by
 obtain⟨dx,d1,o1,d2,o2,a,b,c⟩:=h.ex;exact⟨⟨dx,d1,o1,d2,o2,s _ _ a (λ_ _ z=>nomatch z) (λ_ z=>nomatch z) (λ_ z=>nomatch z),s _ _ b (λ_ _ z=>nomatch z) (λ_ z=>nomatch z) (λ_ z=>nomatch z),s _ _ c (λ_ _ z=>nomatch z) (λ_ z=>nomatch z) (λ_ z=>nomatch z)⟩⟩
def OA {ms:List Xd}{x y:Int}:HO.lst (ms.map V.ref)≠ .lst [.int x,.int y]:=λz=>by
 injection z with z
 cases ms with
 |nil=>cases z
 |cons a r=>cases z
def aU.same {P0:Xd}{q:Str}{ls:List Pos} (s:aA H H') (h:aU H P0 q ls):aU H' P0 q ls:=by
 obtain⟨ps,h1,h2,h3⟩:=h;refine⟨ps,s _ _ h1,h2,λx hx=>?_⟩;rcases h3 x hx with z |⟨c,z1,z2⟩
 ·exact .inl z
 ·exact .inr ⟨c,z1,s _ _ z2⟩
def aU.d9 {d:Xd}{P0:Xd}{q:Str}{ls:List Pos}{x y:Int} (hd:H d=some (.lst [.int x,.int y])) (s:aO d H H') (h:aU H P0 q ls):aU H' P0 q ls:=by
 obtain⟨ps,h1,h2,h3⟩:=h;refine⟨ps,s.old _ _ h1 (λz=>by subst z;rw[hd]at h1;cases h1),h2,λx hx=>?_⟩;rcases h3 x hx with z |⟨c,z1,z2⟩
 ·exact .inl z
 ·exact .inr ⟨c,z1,s.old _ _ z2 (λz=>by subst z;rw[hd]at z2;cases z2)⟩
def aU.ne {d:Xd}{P0:Xd}{q:Str}{ls:List Pos}{xs:Xc} (hd:H d=some (.lst xs)) (h:aU H P0 q ls):d≠P0:=λz=>by
 obtain⟨ps,h1,_⟩:=h;subst z;rw[hd]at h1;cases h1
def Rl (d P0:Xd) (H H':Hp):Prop:=∀b o,H b=some o->b≠d->b≠P0->(∀g,o≠ .ext g)->H' b=some o
def Rl.refl {d P0:Xd} (H:Hp):Rl d P0 H H:=λ_ _ e _ _ _=>e
def Rl.trans {d P0:Xd}{H1 H2:Hp} (a:Rl d P0 H H1) (b:Rl d P0 H1 H2):Rl d P0 H H2:=λc o e h1 h2 h3=>b c o (a c o e h1 h2 h3) h1 h2 h3
def Rl.same {d P0:Xd} (s:aA H H'):Rl d P0 H H':=λb o e _ _ _=>s b o e
def Rl.d9 {d P0:Xd} (s:aO d H H'):Rl d P0 H H':=λb o e h _ _=>s.old b o e h
def Rl.dj {d P0:Xd} (s:Hj P0 H H'):Rl d P0 H H':=λb o e _ h _=>s b o h e
def Le {c':Xd}{q:Str}{dx:Option Xd}:FS c' q≠F5 c' C dx:=λz=>by
 have h:({ objs:=Array.replicate (c'+1) ⟨.ref C,dx,.fields (Array.replicate 6 .none),#[]⟩ }:Heap).get? c'=some ⟨.ref C,dx,.fields (Array.replicate 6 .none),#[]⟩:=by
  unfold Heap.get?;rw[Array.getElem?_replicate,Zq (Nat.lt_succ_self _)]
 have hz:=congrFun (HO.ext.inj z) { objs:=Array.replicate (c'+1) ⟨.ref C,dx,.fields (Array.replicate 6 .none),#[]⟩ };have hy:=hz.mpr ⟨_,_,h,rfl,rfl,rfl,qc,qc⟩;obtain⟨c1,oc,vs,t,e,ho,hd,hq⟩:=hy;cases e;rw[h]at ho;cases ho;cases hd;rw[Array.getElem?_replicate]at hq;split at hq <;> cases hq
structure Wb (d P0:Xd) (H:Hp):Prop where
 bY:∃x y:Int,H d=some (.lst [.int x,.int y])
 tab:aU H P0 qL LS
def Wb.keeps {d P0:Xd} (s:Rl d P0 H H') (h:Wb d P0 H):Keeps H H':=λb o eb h1 h2 h3=>by
 refine s b o eb (λz=>?_) (λz=>?_) h3
 ·subst z;obtain⟨x,y,hd⟩:=h.bY;rw[hd]at eb;cases eb;exact h1 _ _ rfl
 ·subst z;obtain⟨ps,hp,_⟩:=h.tab;rw[hp]at eb;cases eb;exact h2 _ rfl
def Wb.same {d P0:Xd} (s:aA H H') (h:Wb d P0 H):Wb d P0 H':=⟨by obtain⟨x,y,z⟩:=h.bY;exact⟨x,y,s _ _ z⟩,aU.same s h.tab⟩
def Wb.dj {d P0:Xd} (s:Hj P0 H H') (ht:aU H' P0 qL LS) (h:Wb d P0 H):Wb d P0 H':=by
 obtain⟨x,y,hd⟩:=h.bY;exact⟨⟨x,y,s _ _ (aU.ne hd h.tab) hd⟩,ht⟩
def Wb.exc {d P0:Xd}{H1 H2:Hp}{e' C':Xd}{dx:Option Xd} (s1:aA H H1) (he:H1 e'=some (F5 e' C' dx)) (s2:aA (del H1 e') H2) (h:Wb d P0 H):Wb d P0 H2/\Rl d P0 H H2:=by
 have old:∀b o,H b=some o->o≠F5 b C' dx->H2 b=some o:=λb o eb hn=>by
  have eb1:=s1 _ _ eb;refine s2 _ _ ?_;have jv:b≠e':=λz=>by subst z;rw[he]at eb1;cases eb1;exact hn rfl
  unfold del;rw[Zr jv];exact eb1
 refine⟨⟨?_,?_⟩,λb o eb _ _ hx=>old b o eb (hx _)⟩
 ·obtain⟨x,y,hd⟩:=h.bY;exact⟨x,y,old _ _ hd (λz=>nomatch z)⟩
 ·obtain⟨ps,h1,h2,h3⟩:=h.tab;refine⟨ps,old _ _ h1 (λz=>nomatch z),h2,λx hx=>?_⟩;rcases h3 x hx with z |⟨c,z1,z2⟩
  ·exact .inl z
  ·exact .inr ⟨c,z1,old _ _ z2 Le⟩
def Be {b:Xd}{x y:Str}{n:Int} (h:H b=some (.tup [.str x,.str y,.int n])):BZ K H (.tuple [.str x,.str y,.int n]) (.ref b):=by
 rw[BZ];refine⟨b,_,Zj,bH.of h,?_⟩;rw[Aw];refine⟨_,_,Zj,by rw[BZ],?_⟩;rw[Aw];refine⟨_,_,Zj,by rw[BZ],?_⟩;rw[Aw];refine⟨_,_,Zj,by rw[BZ],?_⟩;rw[Aw]
def A1 {x y:Str}{n:Int} (h1:x.cps.all (· < 128)=true) (h2:y.cps.all (· < 128)=true):SeqAt.shaped (.tuple [.str x,.str y,.int n])=true:=by
 unfold SeqAt.shaped;simp only[Bool.and_eq_true,decide_eq_true_eq];refine⟨?_,?_⟩
 ·rw[PyData.canLay0];refine J3 λd hd=>?_;simp only[mem_cons,not_mem_nil,or_false]at hd;rcases hd with rfl |rfl |rfl
  ·rw[PyData.canLay0];exact DS h1
  ·rw[PyData.canLay0];exact DS h2
  ·rw[PyData.canLay0]
 ·simp only[PyData.depth,PyData.depthAll];omega
def Fq (x y:Str) (n:Int):PyData.eqv (.tuple [.str x,.str y,.int n]) (.tuple [.str x,.str y,.int n])=true:=Fi λd hd=>by
 simp only[mem_cons,not_mem_nil,or_false]at hd;rcases hd with rfl |rfl |rfl
 ·exact Cm _
 ·exact Cm _
 ·exact J4 _
def New (d P0:Xd) (H0:Hp) (a:Xd):Prop:=∀o,H0 a=some o->a≠d->a≠P0->∃g,o=.ext g
def Rl.new {d P0 a:Xd}{H0:Hp} (R:Rl d P0 H0 H) (h:H a=none):New d P0 H0 a:=λo e h1 h2=>by
 refine Classical.byContradiction λz=>?_;have:=R a o e h1 h2 λg y=>z ⟨g,y⟩;rw[h]at this;cases this
def Rl.put {d P0 a:Xd}{H0:Hp}{u:HO} (R:Rl d P0 H0 H) (n:New d P0 H0 a):Rl d P0 H0 (upd H a u):=λb o e h1 h2 h3=>by
 by_cases z:b=a
 ·subst z;obtain⟨g,y⟩:=n o e h1 h2;exact absurd y (h3 g)
 ·rw[AH z];exact R b o e h1 h2 h3
def OB {ec:Nat->Xd}{cM cU:Xd}{j:Nat}{Q:VK}{d P0:Xd} (EP:JM K ec cM cU j) (W:Wb d P0 H)
  (h:∀p H',Wb d P0 H'->Rl d P0 H H'->H' p=some (.tup [.str "refused", .str (wd j)])->Q (.ref p) H'):Uq H (Gv K ec cM Q) cU:=λe H1 s1 _ _=>⟨cU,rfl,λe' he'=>.inl ⟨j,EP,rfl,λp H2 s2 hp=>by
 obtain⟨W2,R2⟩:=W.exc s1 he' s2
 exact h p H2 W2 R2 hp⟩⟩
def Cg {ec:Nat->Xd}{cM cA:Xd}{Q:VK}{d P0:Xd}{v:V} (EF:IJ K ec cA 2) (W:Wb d P0 H)
  (h:∀p H',Wb d P0 H'->Rl d P0 H H'->H' p=some (.tup [.str "refused", .str "BadText", v])->Q (.ref p) H'):i0 H (Gv K ec cM Q) cA v:=λe dx H1 s1 _ _ _ _ hX=>⟨cA,rfl,λe' he'=>.inr ⟨2,dx,v,EF,rfl,by
 have hde:dx≠e':=λz=>by rw[←z,hX]at he';cases he'
 show del H1 e' dx=_;unfold del;rw[Zr hde];exact hX,λp H2 s2 hp=>by
 obtain⟨W2,R2⟩:=W.exc s1 he' s2
 exact h p H2 W2 R2 hp⟩⟩
def Cw {x y:Str} (h1:x.cps.all (· < 128)=true:=by decide +kernel) (h2:y.cps.all (· < 128)=true:=by decide +kernel):SeqAt.shaped (.tuple [.str x,.str y])=true:=by
 unfold SeqAt.shaped;simp only[Bool.and_eq_true,decide_eq_true_eq];refine⟨?_,?_⟩
 ·rw[PyData.canLay0];refine J3 λd hd=>?_;simp only[mem_cons,not_mem_nil,or_false]at hd;rcases hd with rfl |rfl
  ·rw[PyData.canLay0];exact DS h1
  ·rw[PyData.canLay0];exact DS h2
 ·simp only[PyData.depth,PyData.depthAll];omega
def OC (x y:Str):PyData.eqv (.tuple [.str x,.str y]) (.tuple [.str x,.str y])=true:=Fi λd hd=>by
 simp only[mem_cons,not_mem_nil,or_false]at hd;rcases hd with rfl |rfl
 ·exact Cm _
 ·exact Cm _
inductive spLaw (K:FG) (P0 bd:Xd) (vs:Xc) (H:Hp) (Q:VK) (_E:XK):Prop where
 |mk (a:Xd) (ns:List Int) (cD:vs=[.ref a]) (cG:aN K H a (ns.map V.int)) (cI:ns.length<=63) (cY:aU H P0 qL LS) (d5:Rd H bd (.dK Bd)) (fk:∀H',Q (.bl true) H')
noncomputable abbrev Bx:Xa:=["_law_script", "_law_dice", "_law_rows", "_law_due", "_law_names", "_law_turn", "_law_tree_here", "_law_at", "_law_spot", "_law_sign", "_law_place_here", "_law_found", "_law_far", "_law_bad", "_law_kind", "_law_text"]
def scLaw:AN Bx ["_law_script"] (defScope BR):=cQ
section
variable {cM cB cT c P0 bd:Xd}{ec:Nat->Xd}
def Ca {X:Cx}{Nl:Xa}{ix:List Nat}{scope:Scope}{cC:List (Str×Xd)} (h1:ix.length=Nl.length)
  (h2:(List.range Nl.length).all (λi=>match Nl[i]?,ix[i]? with |some x,some j=>decide (X.N[j]?=some x)&&decide (X.env.scope.names.lookup x=some .cell)&&decide (scope.names.lookup x=some .free) |_,_=>false)=true)
  (h3:∀p∈cC,X.env.cells.lookup p.1=some p.2) (h4:scope.names.all (λp=>!(p.2 == .cell ||p.2 == .free)||(cC.lookup p.1).isSome)=true) (h5:∀x,X.fn x=true):LamN X Nl ix scope cC:=by
 refine⟨h1,λi x h=>?_,λx c h=>h3 _ (Gj h),Sr h4,h5⟩;have hi:i<Nl.length:=(Z8.mp h).1;have:=List.all_eq_true.mp h2 i (mem_range.mpr hi);rw[h]at this;cases e:ix[i]? with
 |none=>rw[e]at this;cases this
 |some j =>
  rw[e]at this;simp only[Bool.and_eq_true,decide_eq_true_eq]at this;exact⟨j,Zj,this.1.1,this.1.2,this.2⟩
section
variable {f0 ir:Xd}{iw:FuncData}{A:Around}{outer:List Env}{s:Xe}{E:XK}
 (FT:aV K "_law_told" "_law_told" Aj ir iw) (eN:mg "_law_told" = some (.ref ir)) (eO:Binds K iw ["_law_deed"] []) (M:J5 mg ec) (EX:LP K mg ec cM) (GW:jU P w K mg base "_law_word" 1 ["_law_e"] (Ci K ec)) (LC:Mc (Ao aK P w K mg base Bx "law" (defScope BR) f0 (.ref c) A outer s H E).dH c P0) (hr:aE 9 (Ao aK P w K mg base Bx "law" (defScope BR) f0 (.ref c) A outer s H E).dH.A) {fX:Xd}{dX:FuncData} (GX:AU P w K mg base (eB P w) 7 fX dX ["kind", "text"] (dG K C VC cB bd cT)) (mX:mg "read" = some (.ref fX)) (kX:W.keepIn K (.ref fX)=true) (bX:Binds K dX ["kind", "text"] [])
include FT eN eO M EX GW LC hr GX mX kX bX
def Uw:PE (Ao aK P w K mg base Bx "law" (defScope BR) f0 (.ref c) A outer s H E).dH JP (EE K ec cM P0 qL LS [14,15] (λE=>DI (dG K C VC cB bd cT) [] E (Ab (Cj 0) (Ab (Cj 1) B3)))) :=
   CV (X:=(Ao aK P w K mg base Bx "law" (defScope BR) f0 (.ref c) A outer s H E).dH) (params:=DD (Ah 0 JP)) (body:=CZ (Ah 0 JP)) (scope:=Bp (Ah 0 JP)) (Nl:=["_law_kind", "_law_text"]) (k:=7) (cH:=BL (Ah 0 JP)) FT M EX GW hr rfl eN FT.kp eO LC (Z4 (i:=0) rfl) (Ee 0 _ rfl) rfl rfl (Ca rfl qd (by intro p hp;simp only[mem_cons,not_mem_nil,or_false]at hp;rcases hp with rfl |rfl <;> kernel_rfl) qd (λ_=>rfl)) (λ_ _ _=>rfl) rfl rfl rfl qb
    (λlf c' A' cP s' H' E hr=>AM GX (hr.mono qc) rfl mX kX bX .nil Ed (AA (pv 0) (AA (pv 1) AC)))
def Ux:PE (Ao aK P w K mg base Bx "law" (defScope BR) f0 (.ref c) A outer s H E).dH JR (EE K ec cM P0 qL LS [13,14] (λE=>DI (dG K C VC cB bd cT) [] E (Ab (Cj 1) (Ab (Cj 0) B3)))) :=
   CV (X:=(Ao aK P w K mg base Bx "law" (defScope BR) f0 (.ref c) A outer s H E).dH) (params:=DD (Ah 0 JR)) (body:=CZ (Ah 0 JR)) (scope:=Bp (Ah 0 JR)) (Nl:=["_law_bad", "_law_kind"]) (k:=7) (cH:=BL (Ah 0 JR)) FT M EX GW hr rfl eN FT.kp eO LC (Z4 (i:=2) rfl) (Ee 2 _ rfl) rfl rfl (Ca rfl qd (by intro p hp;simp only[mem_cons,not_mem_nil,or_false]at hp;rcases hp with rfl |rfl <;> kernel_rfl) qd (λ_=>rfl)) (λ_ _ _=>rfl) rfl rfl rfl qb
    (λlf c' A' cP s' H' E hr=>AM GX (hr.mono qc) rfl mX kX bX .nil Ed (AA (pv 1) (AA (pv 0) AC)))
def Uy:PE (Ao aK P w K mg base Bx "law" (defScope BR) f0 (.ref c) A outer s H E).dH JX (EE K ec cM P0 qL LS [14] (λE=>DI (dG K C VC cB bd cT) [] E (Ab (Cj 0) (Ab (tC (.str "ZZ|A")) B3)))) :=
   CV (X:=(Ao aK P w K mg base Bx "law" (defScope BR) f0 (.ref c) A outer s H E).dH) (params:=DD (Ah 0 JX)) (body:=CZ (Ah 0 JX)) (scope:=Bp (Ah 0 JX)) (Nl:=["_law_kind"]) (k:=7) (cH:=BL (Ah 0 JX)) FT M EX GW hr rfl eN FT.kp eO LC (Z4 (i:=8) rfl) (Ee 8 _ rfl) rfl rfl (Ca rfl qd (by intro p hp;simp only[mem_cons,not_mem_nil,or_false]at hp;rcases hp with rfl <;> kernel_rfl) qd (λ_=>rfl)) (λ_ _ _=>rfl) rfl rfl rfl qb
    (λlf c' A' cP s' H' E hr=>AM GX (hr.mono qc) rfl mX kX bX .nil Ed (AA (pv 0) (AA AI AC)))
def Ss:PE (Ao aK P w K mg base Bx "law" (defScope BR) f0 (.ref c) A outer s H E).dH Gi (EE K ec cM P0 qL LS [14] (λE=>DI (dG K C VC cB bd cT) [] E (Ab (Cj 0) (Ab (tC (.str "ZZ|")) B3)))) :=
   CV (X:=(Ao aK P w K mg base Bx "law" (defScope BR) f0 (.ref c) A outer s H E).dH) (params:=DD (Ah 0 Gi)) (body:=CZ (Ah 0 Gi)) (scope:=Bp (Ah 0 Gi)) (Nl:=["_law_kind"]) (k:=7) (cH:=BL (Ah 0 Gi)) FT M EX GW hr rfl eN FT.kp eO LC (Z4 (i:=9) rfl) (Ee 9 _ rfl) rfl rfl (Ca rfl qd (by intro p hp;simp only[mem_cons,not_mem_nil,or_false]at hp;rcases hp with rfl <;> kernel_rfl) qd (λ_=>rfl)) (λ_ _ _=>rfl) rfl rfl rfl qb
    (λlf c' A' cP s' H' E hr=>AM GX (hr.mono qc) rfl mX kX bX .nil Ed (AA (pv 0) (AA AI AC)))
end
section
variable {f0 ir:Xd}{iw:FuncData}{A:Around}{outer:List Env}{s:Xe}{E:XK}
 (FT:aV K "_law_told" "_law_told" Aj ir iw) (eN:mg "_law_told" = some (.ref ir)) (eO:Binds K iw ["_law_deed"] []) (M:J5 mg ec) (EX:LP K mg ec cM) (GW:jU P w K mg base "_law_word" 1 ["_law_e"] (Ci K ec)) (LC:Mc (Ao aK P w K mg base Bx "law" (defScope BR) f0 (.ref c) A outer s H E).dH c P0) (hr:aE 9 (Ao aK P w K mg base Bx "law" (defScope BR) f0 (.ref c) A outer s H E).dH.A) {fX:Xd}{dX:FuncData} (GX:AU P w K mg base (eB P w) 7 fX dX ["text"] (gM K bd cT)) (mX:mg "letters" = some (.ref fX)) (kX:W.keepIn K (.ref fX)=true) (bX:Binds K dX ["text"] [])
include FT eN eO M EX GW LC hr GX mX kX bX
def Uz:PE (Ao aK P w K mg base Bx "law" (defScope BR) f0 (.ref c) A outer s H E).dH JQ (EE K ec cM P0 qL LS [15] (λE=>DI (gM K bd cT) [] E (Ab (Cj 0) B3))) :=
   CV (X:=(Ao aK P w K mg base Bx "law" (defScope BR) f0 (.ref c) A outer s H E).dH) (params:=DD (Ah 0 JQ)) (body:=CZ (Ah 0 JQ)) (scope:=Bp (Ah 0 JQ)) (Nl:=["_law_text"]) (k:=7) (cH:=BL (Ah 0 JQ)) FT M EX GW hr rfl eN FT.kp eO LC (Z4 (i:=1) rfl) (Ee 1 _ rfl) rfl rfl (Ca rfl qd (by intro p hp;simp only[mem_cons,not_mem_nil,or_false]at hp;rcases hp with rfl <;> kernel_rfl) qd (λ_=>rfl)) (λ_ _ _=>rfl) rfl rfl rfl qb
    (λlf c' A' cP s' H' E hr=>AM GX (hr.mono qc) rfl mX kX bX .nil Ed (AA (pv 0) AC))
def U0:PE (Ao aK P w K mg base Bx "law" (defScope BR) f0 (.ref c) A outer s H E).dH JS (EE K ec cM P0 qL LS [13] (λE=>DI (gM K bd cT) [] E (Ab (Cj 0) B3))) :=
   CV (X:=(Ao aK P w K mg base Bx "law" (defScope BR) f0 (.ref c) A outer s H E).dH) (params:=DD (Ah 0 JS)) (body:=CZ (Ah 0 JS)) (scope:=Bp (Ah 0 JS)) (Nl:=["_law_bad"]) (k:=7) (cH:=BL (Ah 0 JS)) FT M EX GW hr rfl eN FT.kp eO LC (Z4 (i:=3) rfl) (Ee 3 _ rfl) rfl rfl (Ca rfl qd (by intro p hp;simp only[mem_cons,not_mem_nil,or_false]at hp;rcases hp with rfl <;> kernel_rfl) qd (λ_=>rfl)) (λ_ _ _=>rfl) rfl rfl rfl qb
    (λlf c' A' cP s' H' E hr=>AM GX (hr.mono qc) rfl mX kX bX .nil Ed (AA (pv 0) AC))
def U1:PE (Ao aK P w K mg base Bx "law" (defScope BR) f0 (.ref c) A outer s H E).dH JW (EE K ec cM P0 qL LS [15] (λE=>DI (gM K bd cT) [] E (Ab (Cj 0) B3))) :=
   CV (X:=(Ao aK P w K mg base Bx "law" (defScope BR) f0 (.ref c) A outer s H E).dH) (params:=DD (Ah 0 JW)) (body:=CZ (Ah 0 JW)) (scope:=Bp (Ah 0 JW)) (Nl:=["_law_text"]) (k:=7) (cH:=BL (Ah 0 JW)) FT M EX GW hr rfl eN FT.kp eO LC (Z4 (i:=7) rfl) (Ee 7 _ rfl) rfl rfl (Ca rfl qd (by intro p hp;simp only[mem_cons,not_mem_nil,or_false]at hp;rcases hp with rfl <;> kernel_rfl) qd (λ_=>rfl)) (λ_ _ _=>rfl) rfl rfl rfl qb
    (λlf c' A' cP s' H' E hr=>AM GX (hr.mono qc) rfl mX kX bX .nil Ed (AA (pv 0) AC))
end
section
variable {f0 ir:Xd}{iw:FuncData}{A:Around}{outer:List Env}{s:Xe}{E:XK}
 (FT:aV K "_law_told" "_law_told" Aj ir iw) (eN:mg "_law_told" = some (.ref ir)) (eO:Binds K iw ["_law_deed"] []) (M:J5 mg ec) (EX:LP K mg ec cM) (GW:jU P w K mg base "_law_word" 1 ["_law_e"] (Ci K ec)) (LC:Mc (Ao aK P w K mg base Bx "law" (defScope BR) f0 (.ref c) A outer s H E).dH c P0) (hr:aE 9 (Ao aK P w K mg base Bx "law" (defScope BR) f0 (.ref c) A outer s H E).dH.A) {fX:Xd}{dX:FuncData} (GX:AU P w K mg base (eB P w) 7 fX dX ["kind", "text", "table"] (spRkN K cT)) (mX:mg "reckoned" = some (.ref fX)) (kX:W.keepIn K (.ref fX)=true) (bX:Binds K dX ["kind", "text", "table"] [])
include FT eN eO M EX GW LC hr GX mX kX bX
def U2:PE (Ao aK P w K mg base Bx "law" (defScope BR) f0 (.ref c) A outer s H E).dH JT (EE K ec cM P0 qL LS [13,14] (λE=>DI (spRkN K cT) [] E (Ab (Cj 1) (Ab (Cj 0) (Ab (tC .aI) B3))))) :=
   CV (X:=(Ao aK P w K mg base Bx "law" (defScope BR) f0 (.ref c) A outer s H E).dH) (params:=DD (Ah 0 JT)) (body:=CZ (Ah 0 JT)) (scope:=Bp (Ah 0 JT)) (Nl:=["_law_bad", "_law_kind"]) (k:=7) (cH:=BL (Ah 0 JT)) FT M EX GW hr rfl eN FT.kp eO LC (Z4 (i:=4) rfl) (Ee 4 _ rfl) rfl rfl (Ca rfl qd (by intro p hp;simp only[mem_cons,not_mem_nil,or_false]at hp;rcases hp with rfl |rfl <;> kernel_rfl) qd (λ_=>rfl)) (λ_ _ _=>rfl) rfl rfl rfl qb
    (λlf c' A' cP s' H' E hr=>AM GX (hr.mono qc) rfl mX kX bX .nil Ed (AA (pv 1) (AA (pv 0) (AA Ft AC))))
end
section
variable {f0 ir:Xd}{iw:FuncData}{A:Around}{outer:List Env}{s:Xe}{E:XK}
 (FT:aV K "_law_told" "_law_told" Aj ir iw) (eN:mg "_law_told" = some (.ref ir)) (eO:Binds K iw ["_law_deed"] []) (M:J5 mg ec) (EX:LP K mg ec cM) (GW:jU P w K mg base "_law_word" 1 ["_law_e"] (Ci K ec)) (LC:Mc (Ao aK P w K mg base Bx "law" (defScope BR) f0 (.ref c) A outer s H E).dH c P0) (hr:aE 9 (Ao aK P w K mg base Bx "law" (defScope BR) f0 (.ref c) A outer s H E).dH.A) {fX:Xd}{dX:FuncData} (GX:AU P w K mg base (eB P w) 7 fX dX ["kind", "one", "other"] (spAlN K bd cT)) (mX:mg "alike" = some (.ref fX)) (kX:W.keepIn K (.ref fX)=true) (bX:Binds K dX ["kind", "one", "other"] [])
include FT eN eO M EX GW LC hr GX mX kX bX
def U3:PE (Ao aK P w K mg base Bx "law" (defScope BR) f0 (.ref c) A outer s H E).dH JU (EE K ec cM P0 qL LS [13,14] (λE=>DI (spAlN K bd cT) [] E (Ab (Cj 1) (Ab (Cj 0) (Ab (tC .aI) B3))))) :=
   CV (X:=(Ao aK P w K mg base Bx "law" (defScope BR) f0 (.ref c) A outer s H E).dH) (params:=DD (Ah 0 JU)) (body:=CZ (Ah 0 JU)) (scope:=Bp (Ah 0 JU)) (Nl:=["_law_bad", "_law_kind"]) (k:=7) (cH:=BL (Ah 0 JU)) FT M EX GW hr rfl eN FT.kp eO LC (Z4 (i:=5) rfl) (Ee 5 _ rfl) rfl rfl (Ca rfl qd (by intro p hp;simp only[mem_cons,not_mem_nil,or_false]at hp;rcases hp with rfl |rfl <;> kernel_rfl) qd (λ_=>rfl)) (λ_ _ _=>rfl) rfl rfl rfl qb
    (λlf c' A' cP s' H' E hr=>AM GX (hr.mono qc) rfl mX kX bX .nil Ed (AA (pv 1) (AA (pv 0) (AA Ft AC))))
def U4:PE (Ao aK P w K mg base Bx "law" (defScope BR) f0 (.ref c) A outer s H E).dH JV (EE K ec cM P0 qL LS [13,14] (λE=>DI (spAlN K bd cT) [] E (Ab (Cj 1) (Ab (tC (.str "A")) (Ab (Cj 0) B3))))) :=
   CV (X:=(Ao aK P w K mg base Bx "law" (defScope BR) f0 (.ref c) A outer s H E).dH) (params:=DD (Ah 0 JV)) (body:=CZ (Ah 0 JV)) (scope:=Bp (Ah 0 JV)) (Nl:=["_law_bad", "_law_kind"]) (k:=7) (cH:=BL (Ah 0 JV)) FT M EX GW hr rfl eN FT.kp eO LC (Z4 (i:=6) rfl) (Ee 6 _ rfl) rfl rfl (Ca rfl qd (by intro p hp;simp only[mem_cons,not_mem_nil,or_false]at hp;rcases hp with rfl |rfl <;> kernel_rfl) qd (λ_=>rfl)) (λ_ _ _=>rfl) rfl rfl rfl qb
    (λlf c' A' cP s' H' E hr=>AM GX (hr.mono qc) rfl mX kX bX .nil Ed (AA (pv 1) (AA AI (AA (pv 0) AC))))
end
inductive spVEqT (VC:Xd) (vs:Xc) (H:Hp) (Q:VK) (_E:XK):Prop where
 |mk (a b ka:Xd) (na:Nat) (xs:Xc) (cD:vs=[.ref a,.ref b]) (cG:eK VC H a ka na) (cI:H b=some (.tup xs)) (cY:Q (.bl false) H)
def Su {f:Xd} (F:aV K "__eq__" "Value.__eq__" Fc f fd) (B:Bl mg) (VT:Qi K VC) (hT:W.kitOne K (.type "tuple") (.ref VC)=some false) (mV:mg "Value" = some (.ref VC)):AU P w K mg base aK 3 f fd ["self", "other"] (spVEqT VC):=by
 refine F.m Vj λvs H Q E h=>?_;obtain⟨a,b,ka,na,xs,rfl,⟨dx,hp⟩,hb,k⟩:=h;refine⟨Zj,λad A outer s hr=>?_⟩;have never:∀ {e:Expr},PE (Ao aK P w K mg base ["self", "other"] "Value.__eq__" (defScope Fc) f ad A outer s H E).dH e (λ_ _ _=>False):=λ{e} _ _ _ _ _ _ z=>z.elim;refine⟨_,AG (AQ (C7 (AW (JK K Zj) Zj B.ft Hx (AA (pv 1) (AA (BH (v:=.ref VC) Zj mV Zj) AC))) never)),?_⟩;refine⟨_,Zj,_,VC,_,false,Zj,.tup hb,hT,_,Zj,?_⟩;exact AT k
end
structure Ad where
 (a d f u wl kp:Xd)
noncomputable def jF (a:Xd) (f:Nat->Option V):St:=[some (.ref a),f 1,f 2,f 3,f 4,f 5,f 6,f 7,f 8,f 9,f 10,f 11,f 12,f 13,f 14,f 15]
noncomputable def gi (z:Ad) (x5 x6 x7 x8 x9 fm gf eM eY gx:Option V):St:=[some (.ref z.a),some (.ref z.d),some (.ref z.f),some (.ref z.u),some (.ref z.wl),x5,x6,x7,x8,x9,fm,gf,eM,eY,some (.ref z.kp),gx]
def WO (z:Ad) (x5 x6 x7 x8 x9 fm gf eM eY gx:Option V):∃f,gi z x5 x6 x7 x8 x9 fm gf eM eY gx=jF z.a f:=⟨λn=>(gi z x5 x6 x7 x8 x9 fm gf eM eY gx).getD n none,rfl⟩
structure RdI (a l bd P0:Xd) (as:List Xd) (i:Nat) (σ:St) (H:Hp):Prop where
 st:∃f,σ=jF a f
 hl:H l=some (.lst (as.map V.ref))
 hb:Rd H bd (.dK Bd)
 tb:aU H P0 qL LS
 ds:∀(j:Nat) b,i<=j->as[j]?=some b->∃x y:Int,H b=some (.lst [.int x,.int y])
def Rd.keeps {bd:Xd}{kvs:LK} (s:Keeps H H') (h:Rd H bd (.dK kvs)):Rd H' bd (.dK kvs):=by
 rcases h with h |⟨o,h⟩
 ·exact .inl (s _ _ h (λ_ _ z=>nomatch z) (λ_ z=>nomatch z) (λ_ z=>nomatch z))
 ·exact .inr ⟨o,s _ _ h (λ_ _ z=>nomatch z) (λ_ z=>nomatch z) (λ_ z=>nomatch z)⟩
def RdI.fin {a l bd d P0:Xd}{as:List Xd}{i:Nat}{σ aJ:St} (h:RdI a l bd P0 as i σ H) (nd:as.Nodup) (hla:l∉ as) (fG:as[i]?=some d) (R:Rl d P0 H H') (hT:aU H' P0 qL LS) (hs:∃f,aJ=jF a f):RdI a l bd P0 as (i+1) aJ H':=by
 obtain⟨x,y,hd⟩:=h.ds i d (Zz _) fG;have kp:Keeps H H':=Wb.keeps R ⟨⟨x,y,hd⟩,h.tb⟩;refine⟨hs,R _ _ h.hl (λz=>hla (z ▸ Z4 fG)) (aU.ne h.hl h.tb) (λ_ z=>nomatch z),Rd.keeps kp h.hb,hT,λj b hj e=>?_⟩
 have hbd:b≠d:=λz=>by
  subst z;obtain⟨hj2,ej⟩:=Z8.mp e;obtain⟨js,ei⟩:=Z8.mp fG;exact(List.pairwise_iff_getElem.mp nd) i j js hj2 qe (by rw[ei,ej])
 obtain⟨x5,y5,e5⟩:=h.ds j b qe e;exact⟨x5,y5,R _ _ e5 hbd (aU.ne e5 h.tb) (λ_ z=>nomatch z)⟩
def Keeps.k {b:Xd}{o:HO} (s:Keeps H H') (h:H b=some o) (h1:∀x y:Int,o≠ .lst [.int x,.int y]:=by intros;exact λz=>nomatch z) (h2:∀ps,o≠ .fb ps:=by intros;exact λz=>nomatch z) (h3:∀g,o≠ .ext g:=by intros;exact λz=>nomatch z):H' b=some o:=s b o h h1 h2 h3
def KD {ws:Xa}{x y:Int}:HO.lst (ws.map V.str)≠ .lst [.int x,.int y]:=λz=>by
 injection z with z
 cases ws with
 |nil=>cases z
 |cons a r=>cases z
def di.keeps {T:String}{v:V} (s:Keeps H H') (h:di K T H v):di K T H' v:=by
 rcases h with h |⟨a,xs,e,h,k⟩ |⟨a,xs,e,h,n,k⟩
 ·exact .inl h
 ·exact .inr (.inl ⟨a,xs,e,s.k h,k⟩)
 ·exact .inr (.inr ⟨a,xs,e,s.k h (λx y z=>n x y (HO.lst.inj z)),n,k⟩)
structure Wf (C bd P0:Xd) (z:Ad) (aB:Aa) (H:Hp):Prop where
 wb:Wb z.d P0 H
 ka:aS C H z.kp aB "keep"
 hw:H z.wl=some (.lst ((aB.map (·.1)).map V.str))
 hb:Rd H bd (.dK Bd)
def Wf.go {bd P0:Xd}{z:Ad} (h:Wf C bd P0 z aB H) (R:Rl z.d P0 H H') (wb:Wb z.d P0 H'):Wf C bd P0 z aB H':=by
 have kp:=h.wb.keeps R;exact⟨wb,h.ka.keeps kp,kp.k h.hw (λ_ _=>KD),Rd.keeps kp h.hb⟩
structure Gd (z:Ad) (P0:Xd) (H0 H:Hp):Prop where
 rl:Rl z.d P0 H0 H
 wb:Wb z.d P0 H
section
variable {z:Ad}{P0 bd a:Xd}{H0:Hp}
def Gd.wf (g:Gd z P0 H0 H) (W0:Wf C bd P0 z aB H0):Wf C bd P0 z aB H:=W0.go g.rl g.wb
def Gd.go (g:Gd z P0 H0 H) (R:Rl z.d P0 H H') (wb:Wb z.d P0 H'):Gd z P0 H0 H':=⟨g.rl.trans R,wb⟩
def Gd.same (g:Gd z P0 H0 H) (s:aA H H'):Gd z P0 H0 H':=g.go (Rl.same s) (g.wb.same s)
def Gd.d9 (g:Gd z P0 H0 H) (s:aO z.d H H'):Gd z P0 H0 H':=by
 obtain⟨x,y,hd⟩:=g.wb.bY;exact g.go (Rl.d9 s) ⟨s.bY,aU.d9 hd s g.wb.tab⟩
def Gd.dj (g:Gd z P0 H0 H) (s:Hj P0 H H') (ht:aU H' P0 qL LS):Gd z P0 H0 H':=g.go (Rl.dj s) (g.wb.dj s ht)
def Gd.kp (g:Gd z P0 H0 H) (R:Rl z.d P0 H H'):Keeps H H':=g.wb.keeps R
end
structure jA (P0:Xd) (z:Ad) (H0:Hp) (σ:St) (H:Hp):Prop where
 st:∃x5 x6 x7 x8 x9 fm gf eM eY gx,σ=gi z x5 x6 x7 x8 x9 fm gf eM eY gx
 gd:Gd z P0 H0 H
inductive LsR (z:Str) (v:V) (H:Hp):Prop
 |bad (q:Xd) (n:Nat) (e:v=.ref q) (p:gX true z=some n) (h:H q=some (.tup [.str "refused", .str "BadText", .int (n:Int)]))
 |ok (q:Xd) (ns:Xa) (e:v=.ref q) (p:gX true z=none) (h:H q=some (.lst (ns.map V.str))) (ha:∀x∈ns,x.cps.all (· < 128)=true)
inductive RdR (VC kp:Xd) (z:Str) (v:V) (H:Hp):Prop
 |bad (q:Xd) (n:Nat) (e:v=.ref q) (p:gX false z=some n) (h:H q=some (.tup [.str "refused", .str "BadText", .int (n:Int)]))
 |name (q:Xd) (e:v=.ref q) (p:gX false z=none) (h:H q=some (.tup [.str "refused", .str "BadName"]))
 |ok (q:Xd) (n:Nat) (e:v=.ref q) (p:gX false z=none) (h:eK VC H q kp n)
def FB {b1 b2:Bool}{p q:Prop} (h:b1=b2) (k:q):if (!decide (V.bl b1=V.bl b2))=true then p else q:=by
 subst h;rw[ZM rfl];exact k
def U5 {x:Str} (h:BP x=true):x.cps.all (· < 128)=true:=by
 rw[←Array.all_toList];unfold BP at h;split at h
 ·rename_i c e;unfold Bo at h;rw[Bool.and_eq_true,decide_eq_true_eq,decide_eq_true_eq]at h;rw[e,all_cons,List.all_nil,Bool.and_true,decide_eq_true_eq];omega
 ·cases h
section
variable {cM cB cT P0 bd:Xd}{ec:Nat->Xd}{Q:VK}{d kp:Xd}{z:Str}
def OD (ET:IJ K ec cT 2) (W:Wb d P0 H) (hB:Rd H bd (.dK Bd)) (ha:z.cps.all (· < 128)=true) (hz:z.length<=61)
  (h:∀v H',Wb d P0 H'->Rl d P0 H H'->LsR z v H'->Q v H'):gM K bd cT [.str z] H Q (Gv K ec cM Q):=by
 obtain⟨o,RN,ep⟩:=TY true z;cases o with
 |bad n=>exact .bad z n rfl ha qe RN hB (Cg ET W λp H' wb rl hp=>h _ _ wb rl (.bad p n rfl ep hp))
 |ok T=>exact .mk z T rfl ha qe RN (NI RN hz) hB λp ns H' s hp L=>h _ _ (W.same s) (Rl.same s) (.ok p ns rfl ep hp λx hx=>U5 ((L.mem x).mp hx).2)
def PD (ET:IJ K ec cT 2) (EPB:JM K ec cM cB 5) (W:Wb d P0 H) (KA:aS C H kp aB "keep") (D:D8 aB) (hB:Rd H bd (.dK Bd)) (ha:z.cps.all (· < 128)=true) (hz:z.length<=61)
  (h:∀v H',Wb d P0 H'->Rl d P0 H H'->RdR VC kp z v H'->Q v H'):dG K C VC cB bd cT [.ref kp,.str z] H Q (Gv K ec cM Q):=by
 obtain⟨o,RN,ep⟩:=TY false z;refine .txt kp z aB o rfl KA D ha hz RN hB ?_;cases o with
 |bad n=>exact Cg ET W λp H' wb rl hp=>h _ _ wb rl (.bad p n rfl ep hp)
 |ok T=>exact⟨λq v H' s hv=>h _ _ (W.same s) (Rl.same s) (.ok q v rfl ep hv),OB EPB W λp H' wb rl hp=>h _ _ wb rl (.name p rfl ep hp)⟩
end
def Lf {z:Str}{lo hi:Option Int} (h:z.cps.all (· < 128)=true):(Txt.slice z lo hi).cps.all (· < 128)=true:=by
 unfold Txt.slice;split
 ·exact h
 ·rw[←Array.all_toList,List.all_eq_true]at h ⊢;intro c hc;rw[toList_toArray]at hc;obtain⟨i,_,e⟩:=List.mem_filterMap.mp hc;exact h c (Array.mem_toList_iff.mpr (Array.mem_of_getElem? e))
def WP {i:Int} (h0:0<=i) (h2:i<2):∃sg:Str,Txt.slice "xy" (some i) none=sg/\sg.length<=10/\∀c∈sg.cps.toList,Bo c=true:=by
 rcases (show i=0\/i=1 by omega)with rfl |rfl
 ·exact⟨_,Zj,qb,qb⟩
 ·exact⟨_,Zj,qb,qb⟩
def Q8 (xs ys:List PyData):PyData.eqv (.list xs) (.tuple ys)=false:=by rw[PyData.eqv]
def U6:PyData.eqv (.tuple [.str "refused", .str "BadName"]) (.tuple [.str "refused", .str "BadText", .int (-1)])=false:=by kernel_rfl
noncomputable def Lg:PyData:=.tuple [.str "refused", .str "BadText", .none]
def OE:SeqAt.shaped (.list (List.replicate 5 Lg))=true:=by kernel_rfl
def Sv:PyData.eqv (.list (List.replicate 5 Lg)) (.list (List.replicate 5 Lg))=true:=by kernel_rfl
noncomputable abbrev Lh:Xc:=[.str "refused", .str "BadText", .aI]
def Q9 {b:Xd} (h:H b=some (.tup Lh)):BZ K H Lg (.ref b):=by
 unfold Lg;rw[BZ];refine⟨b,_,Zj,bH.of h,?_⟩;rw[Aw];refine⟨_,_,Zj,by rw[BZ],?_⟩;rw[Aw];refine⟨_,_,Zj,by rw[BZ],?_⟩;rw[Aw];refine⟨_,_,Zj,by rw[BZ],?_⟩;rw[Aw]
def Li {l:Xd}{bs:List Xd} (n:Nat) (hn:bs.length=n) (h:H l=some (.lst (bs.map V.ref))) (hb:∀b∈bs,H b=some (.tup Lh)):BZ K H (.list (List.replicate n Lg)) (.ref l):=by
 refine D9 h ?_;clear h;subst hn;induction bs with
 |nil=>show Aw K H [] [];rw[Aw]
 |cons b r ih =>
  show Aw K H (Lg::List.replicate r.length Lg) (V.ref b::r.map V.ref);rw[Aw];exact⟨_,_,Zj,Q9 (hb b (ZJ ..)),ih λc hc=>hb c (ZR _ hc)⟩
structure gG (K:FG) (z:Ad) (P0:Xd) (H0:Hp) (l3:Xd) (vs:Xc) (n:Nat) (lf:Xd) (H:Hp):Prop where
 ex:∃bs:List Xd,bs.length=n/\H lf=some (.lst (bs.map V.ref))/\∀b∈bs,H b=some (.tup Lh)
 nw:New z.d P0 H0 lf
 h3:H l3=some (.lst vs)
 no:∀v∈vs,di K "str" H v
 gd:Gd z P0 H0 H
section
variable {z:Ad}{P0:Xd}{H0:Hp}{l3:Xd}{vs:Xc}{n:Nat}{lf:Xd}
def NK {xs:Xc}{m:Nat} (h:xs.length=m) (hm:m≠2) {x y:Int}:HO.lst xs≠ .lst [.int x,.int y]:=λe=>by
 injection e with e
 rw[e]at h;exact hm h.symm
def gG.go (h:gG K z P0 H0 l3 vs n lf H) (hv:vs.length=5) (R:Rl z.d P0 H H') (wb:Wb z.d P0 H'):gG K z P0 H0 l3 vs n lf H':=by
 have kp:=h.gd.kp R;obtain⟨bs,h1,h2,h3⟩:=h.ex;exact⟨⟨bs,h1,kp.k h2 (λ_ _=>OA),λb hb=>kp.k (h3 b hb)⟩,h.nw,kp.k h.h3 (λ_ _=>NK hv qc),λv hv=>(h.no v hv).keeps kp,h.gd.go R wb⟩
def gG.same (h:gG K z P0 H0 l3 vs n lf H) (hv:vs.length=5) (s:aA H H'):gG K z P0 H0 l3 vs n lf H':=h.go hv (Rl.same s) (h.gd.wb.same s)
def Wb.putL {d a:Xd}{xs:Xc}{u:HO} (h:H a=some (.lst xs)) (ha:a≠d) (W:Wb d P0 H):Wb d P0 (upd H a u):=by
 obtain⟨x,y,hd⟩:=W.bY
 have ne:∀ {b:Xd}{o:HO},H b=some o->(∀k,o≠ .lst k)->b≠a:=λ{b o} e n z=>by
  subst z;rw[h]at e;cases e;exact n _ rfl
 refine⟨⟨x,y,by rw[AH (Ne.symm ha)];exact hd⟩,?_⟩;obtain⟨ps,h1,h2,h3⟩:=W.tab;refine⟨ps,by rw[AH (ne h1 λ_ z=>nomatch z)];exact h1,h2,λx hx=>?_⟩;rcases h3 x hx with z |⟨c,z1,z2⟩
 ·exact .inl z
 ·exact .inr ⟨c,z1,by rw[AH (ne z2 λ_ z=>nomatch z)];exact z2⟩
def gG.app (h:gG K z P0 H0 l3 vs n lf H) (hv:vs.length=5) (hn:n<=4) {p:Xd} (hp:H p=some (.tup Lh)):∃bs:List Xd,bs.length=n/\H lf=some (.lst (bs.map V.ref))/\gG K z P0 H0 l3 vs (n+1) lf (upd H lf (.lst (bs.map V.ref++[V.ref p]))):=by
 obtain⟨bs,h1,h2,h3⟩:=h.ex;refine⟨bs,h1,h2,⟨⟨bs++[p],by rw[ZI,h1];rfl,by rw[AB,Zv];rfl,λb hb=>?_⟩,h.nw,?_,λv hv'=>?_,⟨h.gd.rl.put h.nw,h.gd.wb.putL h2 λe=>?_⟩⟩⟩
 ·have f9:H b=some (.tup Lh):=by
   rcases mem_append.mp hb with y |y
   ·exact h3 b y
   ·rw[ZH.mp y];exact hp
  rw[AH (KG f9 h2 λz=>nomatch z)];exact f9
 ·rw[AH λe=>?_]
  ·exact h.h3
  ·have:=h.h3;rw[e,h2]at this;have:=HO.lst.inj (Option.some.inj this);rw[←this,AS,h1]at hv;omega
 ·rcases h.no v hv' with y |⟨a,xs,e,y,k⟩ |⟨a,xs,e,y,m,k⟩
  ·exact .inl y
  ·exact .inr (.inl ⟨a,xs,e,by rw[AH (KG y h2 λz=>nomatch z)];exact y,k⟩)
  ·by_cases q:a=lf
   ·exact .inr (.inr ⟨a,_,e,by rw[q];exact AB,λx y u=>(by cases bs <;> cases u),k⟩)
   ·exact .inr (.inr ⟨a,xs,e,by rw[AH q];exact y,m,k⟩)
 ·obtain⟨x,y,hd⟩:=h.gd.wb.bY;rw[←e,h2]at hd;exact OA (Option.some.inj hd)
end
noncomputable def zzT:Tr:=.bn .or (.wd "ZZ") (.wd "A")
def WQ:Wr false zzT 0 ("ZZ|A" : Str).cps.toList:=by
 have h:=Wr.bn (lt:=false) .or (.wd "ZZ") (.wd "A") 0 _ _ [] True.intro qc (.inl rfl) (Wr.wd "ZZ" 0 [] (.inl rfl) (Fl qb qb qb)) (Wr.wd "A" 1 [] (.inl rfl) (Fl qb qb qb));have e:([]++("ZZ" : Str).cps.toList)++([]++(Sg.or.c::([]++("A" : Str).cps.toList)))=("ZZ|A" : Str).cps.toList:=by decide +kernel
 rw[e]at h;exact h
def WR:Rn false "ZZ|A" (.ok [("ZZ" : Str), "A", "|"]) 0 [] [] true:=LV WQ
def WS (h:("ZZ" : Str)∉ aB.map (·.1)):Ev ⟨aB,[],λ_=>0⟩ none [] [("ZZ" : Str), "A", "|"]:=.no [] "ZZ" _ ⟨qb,qb,qb,qb,h⟩ rfl
def U7:Rn false "ZZ|" (.bad 3) 0 [] [] true:=by
 have:=Ud (lt:=false) (z := "ZZ|") (Wr.wd "ZZ" 0 [] (.inl rfl) (Fl qb qb qb)) qb;rw[show("ZZ|" : Str).length=3 by decide +kernel]at this;exact this
def XN:Rn true "A" (.ok [("A" : Str)]) 0 [] [] true:=LV (t:=.wd "A") (Wr.wd "A" 0 [] (.inl rfl) (Fl qb qb qb))
noncomputable def far1:Xa:=["", "  ", "A|", "(A", "A)", "ABCDEFG", "00", "01", "1099511627776", "1099511627775"]
noncomputable def far2:Xa:=["A B", "1A", "A1", "xx", "~", "A||A", "a"]
def U8:∀x∈far1++far2,x.cps.all (· < 128)=true/\x.length<=61:=by
 have:(far1++far2).all (λx=>x.cps.all (· < 128)&&decide (x.length<=61))=true:=by decide +kernel
 intro x hx;have:=List.all_eq_true.mp this x hx;rw[Bool.and_eq_true,decide_eq_true_eq]at this;exact this
noncomputable def gV3 (vs zs:Xc):Xc:=match vs,zs with | [a,b],[c]=>[a,b,c] |_,_=>[]
noncomputable def gU3 (us ws:Xb):Xb:=match us,ws with | [a,b],[c]=>[a,b,c] |_,_=>[]
structure RB (P:Program) (w:World) (K:FG) (mg:SV) (base:Heap) (C:Xd):Prop where
 T:IC K C
 cls:mg "Kind" = some (.ref C)
 make:∃f fd,Mk K C f/\AU P w K mg base aK 6 f fd ["self", "rows", "rest"] (spInit C) /\
  ∃g,Ek K fd ["self", "rows", "rest"] ["rest"] g gV3
def WT (DO:D8 aB):∀x∈aB.map (·.1),NW x:=λx hx=>by
 obtain⟨p,hp,rfl⟩:=Zs.mp hx;obtain⟨h1,h2,h3⟩:=V8 (n:=⟨aB,[],λ_=>0⟩) DO hp;have hn:=(DO.nm p hp).1;unfold Bv at hn;simp only[Bool.and_eq_true,decide_eq_true_eq]at hn;exact⟨h1.pw true (.inr Zj),h1.ok.as,h2,λc hc=>by have:=List.all_eq_true.mp hn.2 c hc;simp[BC]at this;omega⟩
section
variable {cM cB cT c P0 bd:Xd}{ec:Nat->Xd}
def U9 {f0 ir:Xd}{iw:FuncData} (F:FunC K "law" "law" BR f0 fd c) (FT:aV K "_law_told" "_law_told" Aj ir iw) (eN:mg "_law_told" = some (.ref ir)) (eO:Binds K iw ["_law_deed"] [])
  (hC:W.CodeHd base c P0) (hBu:base.BuiltinsAt mg P0) (B:Bl mg) (KO:RB P w K mg base C) (M:J5 mg ec) (EX:LP K mg ec cM) (je:jU P w K mg base "_law_word" 1 ["_law_e"] (Ci K ec))
  (ET:IJ K ec cT 2) (EPB:JM K ec cM cB 5) (hT:W.subIn K (.type "tuple") (.ref VC)=some false) (neV:W.findIn K (.ref VC) "__ne__" = some (some (.builtin "object.__ne__"))) (VI:KIsi K VC) (mV:mg "Value" = some (.ref VC))
  (GRd:Fn P w K mg base "_law_rounds" 2 ["_law_script", "_law_most"] (spRounds K)) (GL:Fn P w K mg base "_law_lines" 3 ["_law_dice", "_law_most"] spLines)
  (GRo:Fn P w K mg base "_law_roll" 2 ["_law_dice", "_law_many"] d8) (GF:Fn P w K mg base "_law_formula" 7 N6 spForm) (GP:Fn P w K mg base "_law_place" 1 ["_law_text", "_law_is_lettered"] Uu)
  (jf:iL P w K mg base "read" 7 ["kind", "text"] (dG K C VC cB bd cT)) (GLs:iL P w K mg base "letters" 7 ["text"] (gM K bd cT)) (GRk:iL P w K mg base "reckoned" 7 ["kind", "text", "table"] (spRkN K cT)) (GAl:iL P w K mg base "alike" 7 ["kind", "one", "other"] (spAlN K bd cT))
  (GET:Mt P w K mg base VC "__eq__" 3 ["self", "other"] (spVEqT VC)) :
  AU P w K mg base aK 10 f0 fd ["_law_script"] (spLaw K P0 bd):=by
 obtain⟨fRd,dRd,GRd,mRd,kRd,bRd⟩:=GRd.ex;obtain⟨fL,dL,GL,mL,kL,bL⟩:=GL.ex;obtain⟨fRo,dRo,GRo,mRo,kRo,bRo⟩:=GRo.ex;obtain⟨fF,dF,GF,mF,kF,bF⟩:=GF.ex;obtain⟨fP,dP,GP,mP,kP,bP⟩:=GP.ex;obtain⟨fRe,dRe,jf,mRe,kRe,bRe⟩:=jf.ex;obtain⟨fLs,dLs,GLs,mLs,kLs,bLs⟩:=GLs.ex;obtain⟨fRk,dRk,GRk,mRk,kRk,bRk⟩:=GRk.ex;obtain⟨fAl,dAl,GAl,mAl,kAl,bAl⟩:=GAl.ex;obtain⟨fET,dET,GET,mET,bET⟩:=GET.ex;obtain⟨fI,dI,MI,GI,gI,kbI⟩:=KO.make;have mC:=KO.cls;refine F.ok scLaw (λvs H Q E h=>?_) (λA outer s H vs Q E hr h=>?_)
 ·obtain⟨a,ns,rfl,_⟩:=h;rfl
 ·obtain⟨a,ns,rfl,hS,h63,hTab,hB,kend⟩:=h;have hu:=Dz hr;have gC:=hr.units;have dZ:aE 1 _:=hr.mono qc;have eX:aE 2 _:=hr.mono qc;have i7:aE 3 _:=hr.mono qc;have hr4:aE 4 _:=hr.mono qc;have hr7:aE 7 _:=hr.mono qc;have nd:=scLaw.nd;have h1:1<=sizeLine:=by decide
  have h2:2<=sizeLine:=by decide
  have h3:3<=sizeLine:=by decide
  have LC:Mc (Ao aK P w K mg base Bx "law" (defScope BR) f0 (.ref c) A outer s H E).dH c P0:=⟨rfl,hC,hBu⟩
  refine⟨_,fj.h (Es (Kq PassesOwn.never Zj (Me (Bu GRd eX Zj mRd kRd bRd .nil AR (As (.mk (pv 0)) (As (.mk AE) Cd)))) (AZ (i:=1) nd Zj (Or.inl Zj))
    (Es (.mk (Cp (eP.h (Bu GL i7 rfl mL kL bL .nil AR (As (.mk (pv 1)) (As (.mk AE) Cd)))) (Ch rfl (Ai (AZ (i:=2) nd rfl (Or.inl rfl)) (Ai (AZ (i:=3) nd rfl (Or.inl rfl)) Br)))))
    (Es (.mk (Cp (hs:=by kernel_rfl) (hw:=by kernel_rfl) (Ay (AA (Pw MI GI hr7 rfl mC kbI (AA (pv 2) AC) (Jd AI Ly)) (AA (KY [] [] qd qb qd qd rfl (DZ (pv 3)) (λ_ _ _ _ _ _=>Cl) (λ_ _ _ _ _ _=>pv 0)) AC))) (Ch rfl (Ai (AZ (i:=14) nd rfl (Or.inr rfl)) (Ai (AZ (i:=4) nd rfl (Or.inl rfl)) Br)))))
    (BS (Kq PassesOwn.never rfl (.mk (EL rfl B.range (AA AE AC))) (AZ (i:=5) nd rfl (Or.inl rfl))
     (BS (.mk (Cp (eP.h (Bu GF hr7 rfl mF kF bF .nil AR (As (.mk (pv 1)) (As (.mk (pv 4)) (As (.mk (DJ F6 AI (Ck (eP.h (Bu GRo eX rfl mRo kRo bRo .nil AR (As (.mk (pv 1)) (As (.mk AE) Cd))))) Je)) Cd))))) (Ch rfl (Ai (AZ (i:=15) nd rfl (Or.inr rfl)) (Ai (AZ (i:=6) nd rfl (Or.inl rfl)) Br)))))
     (BS (.mk (Tm (i:=7) (j:=8) rfl nd rfl rfl qc rfl rfl (AA (eP.h (Bu GRo eX rfl mRo kRo bRo .nil AR (As (.mk (pv 1)) (As (EY B0 (.mk (AW At rfl B.len PySem.boot_len (AA (pv 15) AC))) (.mk AE)) Cd)))) (AA (eP.h (Bu GRo eX rfl mRo kRo bRo .nil AR (As (.mk (pv 1)) (As (.mk AE) Cd)))) AC)) qd))
     (BS (Bj (i:=9) nd rfl (Or.inl rfl) (.mk (Bz (AL FE (pv 8) AE (AO _)) (eP.h (Jq Fz (.mk AI) (Bu GRo eX rfl mRo kRo bRo .nil AR (As (.mk (pv 1)) (As (.mk AE) Cd))) (λ_ _=>rfl))) AI)))
     (BS (Bj (i:=15) nd rfl (Or.inr rfl) (EY BG (EY BG (.mk (DJ F6 (pv 15) Je (Ck (pv 7)))) (.mk (pv 9))) (.mk (DJ F6 (pv 15) (Ck (Af B0 (pv 7) (BU Fw rfl B.int E5 (AA (Bf FF (pv 8) AE (AO _)) AC)))) Je))))
     (Ar (Cr (.mk (AL EZ (AW At rfl B.len PySem.boot_len (AA (pv 15) AC)) AE (AO _)))
      (BS (Bj (i:=10) nd rfl (Or.inl rfl) (Bu GP dZ rfl mP kP bP .nil AR (As (.mk (pv 15)) (As (.mk By) Cd))))
      (BS (Bj (i:=11) nd rfl (Or.inl rfl) (.mk (Uw FT eN eO M EX je LC hr jf mRe kRe bRe)))
      (BS (Cr (.mk (AL Dj (Bf (cV.or (MM K rfl gC) (Oh GET i7 bET mET hT)) (pv 11) (Ay (AA AI (AA AI (AA (pv 10) AC)))) (AO _)) (Bf Gk (pv 10) AE (AO _)) (AO _))) (Ar (.mk An)) CL)
      (BS (Cr (.mk (PW.pt (Bt (AL FE (pv 10) AE (AO _)) (Bt (AL (cV.or (He K rfl gC) (Oj GET hr4 bET mET hT neV VI.hm)) (pv 11) (Ay (AA AI (AA AI AC))) (AO _)) (BX (BY (A3 (AW (JK K rfl) rfl B.ft Hx (AA (pv 11) (AA (BH (v:=.ref VC) rfl mV rfl) AC)))))))))) (Ar (.mk An)) CL)
      (BS (Bj (i:=10) nd rfl (Or.inl rfl) (Bu GP dZ rfl mP kP bP .nil AR (As (.mk (pv 15)) (As (.mk By) Cd))))
      (Ar (Cr (.mk (AL Dj (Bf (MM K rfl gC) (Uz FT eN eO M EX je LC hr GLs mLs kLs bLs) (Ay (AA AI (AA AI (AA (pv 10) AC)))) (AO _)) (Bf Gk (pv 10) AE (AO _)) (AO _))) (Ar (.mk An)) CL)))))))
      CL)))))))
    (BS (Kq PassesOwn.never rfl (Me (TC (As (.mk Ft) (As (.mk AE) (As (.mk By) (As (.mk (A8 (AA AI AC))) (As (.mk (Ay (AA AI AC))) Cd))))))) (AZ (i:=13) nd rfl (Or.inr rfl))
     (BS (Bj (i:=11) nd rfl (Or.inl rfl) (TC (As (.mk (Ux FT eN eO M EX je LC hr jf mRe kRe bRe)) Cd)))
     (BS (.mk (A4 (DL PySem.F.plainAttrs_list PySem.F.slot_list_append PySem.F.type_list_append BK (pv 11) (AA (U0 FT eN eO M EX je LC hr GLs mLs kLs bLs) AC))))
     (BS (.mk (A4 (DL PySem.F.plainAttrs_list PySem.F.slot_list_append PySem.F.type_list_append BK (pv 11) (AA (U2 FT eN eO M EX je LC hr GRk mRk kRk bRk) AC))))
     (BS (.mk (A4 (DL PySem.F.plainAttrs_list PySem.F.slot_list_append PySem.F.type_list_append BK (pv 11) (AA (U3 FT eN eO M EX je LC hr GAl mAl kAl bAl) AC))))
     (BS (.mk (A4 (DL PySem.F.plainAttrs_list PySem.F.slot_list_append PySem.F.type_list_append BK (pv 11) (AA (U4 FT eN eO M EX je LC hr GAl mAl kAl bAl) AC))))
     (Ar (Cr (.mk (AL (He K rfl gC) (pv 11) (Af Tx (A8 (AA (Ay (AA AI (AA AI (AA Ft AC)))) AC)) AE) (AO _))) (Ar (.mk An)) CL))))))))
    (BS (Bj (i:=12) nd rfl (Or.inl rfl) (.mk (A8 (AA AI (AA AI (AA AI (AA AI (AA AI (AA AI (AA AI (AA AI (AA AI (AA AI AC)))))))))))))
    (BS (Bj (i:=12) nd rfl (Or.inl rfl) (EY F0 (.mk (pv 12)) (.mk (A8 (AA AI (AA AI (AA AI (AA AI (AA AI (AA AI (AA AI AC)))))))))))
    (BS (Kq PassesOwn.never rfl (Me (.mk (pv 12))) (AZ (i:=15) nd rfl (Or.inr rfl))
     (BS (Bj (i:=10) nd rfl (Or.inl rfl) (Bu GP dZ rfl mP kP bP .nil AR (As (.mk (pv 15)) (As (.mk By) Cd))))
     (Ar (Cr (.mk (AL Dj (Bf (MM K rfl gC) (U1 FT eN eO M EX je LC hr GLs mLs kLs bLs) (Ay (AA AI (AA AI (AA (pv 10) AC)))) (AO _)) (Bf Gk (pv 10) AE (AO _)) (AO _))) (Ar (.mk An)) CL))))
    (BS (Cr (.mk (AL (He K rfl gC) (Uy FT eN eO M EX je LC hr jf mRe kRe bRe) (Ay (AA AI (AA AI AC))) (AO _))) (Ar (.mk An)) CL)
    (Ar (Cr (.mk (AL (He K rfl gC) (Ss FT eN eO M EX je LC hr jf mRe kRe bRe) (Ay (AA AI (AA AI (AA AE AC)))) (AO _))) (Ar (.mk An)) CL)))))))))))
   (Ar (.mk (AQ By)))),?_⟩
  refine⟨_,Zj,a,ns,Zj,hS,h63,λl as H1 s1 hl nd' hla h5 bf=>?_⟩
  refine⟨l,Zj,⟨_,aN.of hl⟩,DH (K:=K) (a:=l) (xs:=as.map V.ref) (λi σ H2=>RdI a l bd P0 as i σ H2)
   ⟨⟨λ_=>none,rfl⟩,hl,aA.rd s1 hB,aU.same s1 hTab,λj b _ e=>(bf b (Z4 e)).2⟩ (λi σ H2 _ R=>aN.of R.hl) ?_ (λσ H2 R=>by obtain⟨f,rfl⟩:=R.st;exact kend _)⟩
  rintro i v σ H2 hi RI;rw[ZF]at hi;obtain⟨d,fG,rfl⟩:=Z6.mp hi;obtain⟨x,y,hd⟩:=RI.ds i d (Zz _) fG;obtain⟨g,rfl⟩:=RI.st;refine⟨_,Zj,d,x,y,5,Zj,qc,qc,hd,λq f u fs bs0 rows Ha sXa hq hfn hun hf hP hu0 ap r0 r10 RO au=>?_⟩;refine⟨q,_,Zj,bH.of hq,Zj,_,_,Zj,_,_,Zj,Zj,?_⟩;obtain⟨xa,ya,hda⟩:=sXa.bY;have DO:=LI RO qe;have gR:bs0.length=(Am rows).length:=by rw[Cn ap,Bm]
  refine⟨_,Zj,?_⟩;intro k dk hk hdk ax;have sN:=IH (D:=C) hk hdk ax;refine⟨k,dk,f,rows, "keep", Zj,AB,⟨fs,sN _ _ hf,Cu (aP.of sN) hP⟩,r0,qe,RO,qb,λHb sd KA=>⟨Zj,?_⟩⟩;have se:=JL sN hk sd;have ao:=se _ _ hu0;have hbsb:=bV.aZ (aP.of se) ap;refine⟨_,Zj,u,Zj,⟨_,aN.of ao⟩,F3 (K:=K) (a:=u) (xs:=bs0.map V.ref) (λi ys H'=>ys=(((Am rows).take i).map (·.1)).map V.str/\H'=Hb) ⟨Zj,Zj⟩ (λi ys H' _ ⟨_,e⟩=>e ▸ aN.of ao) (λi ys H' ⟨e,_⟩=>?_) ?_ ?_⟩
  ·have:=DO.len;rw[e,AS,AS,ZB];omega
  ·rintro i v ys H' hi ⟨rfl,rfl⟩;obtain⟨bb,pr,rfl,_,ak,aj⟩:=EU hbsb hi;refine⟨bb,_,Zj,bH.of aj,Zj,_,_,Zj,_,_,Zj,Zj,?_⟩;refine⟨_,Zj,?_,Zj⟩;rw[ZE,ak,Option.toList_some,Zv,Zv];rfl
  rintro ys H' ⟨rfl,rfl⟩ wl hwl;rw[AS,gR,ZC];have sw:=AD (aA.refl _) hwl (o:=HO.lst (((Am rows).map (·.1)).map V.str));have hw:=AB (H:=H') (a:=wl) (o:=HO.lst (((Am rows).map (·.1)).map V.str));generalize upd H' wl (HO.lst (((Am rows).map (·.1)).map V.str))=Hc at sw hw ⊢;refine⟨fc,λq2 gD=>⟨q2,_,Zj,bH.of AB,Zj,_,_,Zj,_,_,Zj,Zj,?_⟩⟩;have sq:=AD (aA.refl _) gD (o:=HO.tup [V.ref k,V.ref wl]);have s0:=(se.trans sw).trans sq;have hw0:=sq _ _ hw;have KA0:=(KA.same sw).same sq;generalize upd Hc q2 (HO.tup [V.ref k,V.ref wl])=H0 at s0 hw0 KA0 ⊢;have R0:Rl d P0 H2 H0:=(Rl.d9 sXa).trans (Rl.same s0);have hT0:aU H0 P0 qL LS:=aU.same s0 (aU.d9 hd sXa RI.tb);have hB0:Rd H0 bd (.dK Bd):=Rd.keeps (Wb.keeps R0 ⟨⟨x,y,hd⟩,RI.tb⟩) RI.hb;have W0:Wf C bd P0 ⟨a,d,f,u,wl,k⟩ (Am rows) H0:=⟨⟨⟨_,_,s0 _ _ hda⟩,hT0⟩,KA0,hw0,hB0⟩;have L0:jA P0 ⟨a,d,f,u,wl,k⟩ H0 (gi ⟨a,d,f,u,wl,k⟩ (g 5) (g 6) (g 7) (g 8) (g 9) (g 10) (g 11) (g 12) (g 13) (g 15)) H0:=⟨⟨_,_,_,_,_,_,_,_,_,_,rfl⟩,⟨Rl.refl _,W0.wb⟩⟩;have pos:0<(Am rows).length:=by rw[Bm];exact r0
  have zzN:("ZZ" : Str)∉ (Am rows).map (·.1):=λhm=>by
   rw[LJ]at hm;exact absurd (au _ hm) qb
  have fin:∀ {σ H'},jA P0 ⟨a,d,f,u,wl,k⟩ H0 σ H'->RdI a l bd P0 as (i+1) σ H':=λL=>by
   obtain⟨⟨y5,y6,y7,y8,y9,y10,y11,y12,y13,y15,e⟩,G⟩:=L;exact RI.fin nd' hla fG (R0.trans G.rl) G.wb.tab (by rw[e];exact WO _ _ _ _ _ _ _ _ _ _ _)
  generalize hdue:Am rows=aB at *;clear R0 hT0 hB0;refine⟨λσ H'=>jA P0 ⟨a,d,f,u,wl,k⟩ H0 σ H',λR hR=>?_,?_⟩
  ·refine⟨14,Zj,qc,qc,IZ (lo:=0) (n:=14) (λj σ H'=>jA P0 ⟨a,d,f,u,wl,k⟩ H0 σ H') L0 ?_ (λσ H' h=>hR _ _ h)⟩;clear L0 fin hR;generalize (⟨a,d,f,u,wl,k⟩:Ad)=z at *;rintro j σ H4 hj ⟨⟨x5,x6,x7,x8,x9,fm,gf,eM,eY,gx,rfl⟩,G4⟩;refine⟨λσ H'=>∃(tx:Str) (tv:V),σ=gi z (some (.int (0+(j:Int)))) (some tv) x7 x8 x9 fm gf eM eY (some (.str tx))/\tx.cps.all (· < 128)=true/\tx.length<=56/\Gd z P0 H0 H',λR hR=>?_,?_⟩
   ·obtain⟨xd,yd,iS⟩:=G4.wb.bY;have W4:=G4.wf W0;refine⟨_,Zj,_,Zj,_,Zj,z.d,xd,yd,2,Zj,iS,qc,qc,λri a' b' h0 h2=>⟨_,Zj,?_⟩⟩;have s5:=Az (x':=a') (y':=b') iS;have G5:=G4.d9 s5;have W5:=G5.wf W0;have jt:=AB (H:=H4) (a:=z.d) (o:=HO.lst [V.int a',V.int b']);generalize upd H4 z.d (HO.lst [V.int a',V.int b'])=H5 at G5 W5 jt ⊢;obtain⟨sg,esg,lsg,asg⟩:=WP h0 h2;refine⟨_,Zj,qb,?_⟩;rw[esg];refine⟨z.d,z.wl,_,_,aB.map (·.1),sg,Zj,jt,W5.hw,by rw[AS];exact pos,by rw[AS];exact DO.len,WT DO,lsg,asg,λq tx tv t H6 s6 hq lt ok ht wz az lz=>?_⟩;exact⟨q,_,Zj,bH.of hq,Zj,_,_,Zj,_,_,Zj,Zj,hR _ _ ⟨tx,tv,Zj,az,lz,G5.d9 s6⟩⟩
   rintro σ H5 ⟨tx,tv,rfl,az,lz,G5⟩;clear G4;refine⟨λσ H'=>∃(at_ sp:Int),σ=gi z (some (.int (0+(j:Int)))) (some tv) (some (.int at_)) (some (.int sp)) x9 fm gf eM eY (some (.str tx))/\Gd z P0 H0 H',λR hR=>?_,?_⟩
   ·obtain⟨xd,yd,jt⟩:=G5.wb.bY;refine⟨_,Zj,_,Zj,tx,Zj,Nat.le_of_lt (AK qe),_,_,Zj,Zj,z.d,xd,yd,_,Zj,jt,qe,qe,λr1 a' b' h0 h2=>?_⟩;have s6:=Az (x':=a') (y':=b') jt;have G6:=G5.d9 s6;have hd6:=AB (H:=H5) (a:=z.d) (o:=HO.lst [V.int a',V.int b']);generalize upd H5 z.d (HO.lst [V.int a',V.int b'])=H6 at G6 hd6 ⊢;refine⟨_,Zj,z.d,_,_,4,Zj,hd6,qc,qc,λr2 a'' b'' h0' jx=>⟨_,_,Zj,hR _ _ ⟨r1,r2,Zj,G6.d9 (Az hd6)⟩⟩⟩
   rintro σ H6 ⟨at_,sp,rfl,G6⟩;clear G5;refine⟨λσ H'=>∃(sg:Str),σ=gi z (some (.int (0+(j:Int)))) (some tv) (some (.int at_)) (some (.int sp)) (some (.str sg)) fm gf eM eY (some (.str tx))/\sg.cps.all (· < 128)=true/\sg.length<=1/\Gd z P0 H0 H',λR hR=>?_,?_⟩
   ·refine⟨_,Zj,_,_,Zj,Zj,_,Zj,?_⟩;refine B4 (λ_=>?_) (λ_=>hR _ _ ⟨"", Zj,qb,qb,G6⟩);obtain⟨xd,yd,hd6⟩:=G6.wb.bY;refine⟨_,Zj,z.d,xd,yd,12,Zj,hd6,qc,qc,λr1 a' b' h0 h2=>?_⟩;obtain⟨n,rfl⟩:∃n:Nat,r1=(n:Int):=⟨r1.toNat,qe⟩
    have hn:n<("A(0)~|& xB1^" : Str).cps.toList.length:=by
     rw[show("A(0)~|& xB1^" : Str).cps.toList.length=12 by decide +kernel];omega
    obtain⟨cc,hc⟩:∃cc,("A(0)~|& xB1^" : Str).cps.toList[n]?=some cc:=⟨_,Z7 hn⟩;refine⟨_,(n:Int),cc,Zj,Zj,qb,BO hc,hR _ _ ⟨⟨#[cc]⟩,Zj,?_,Zz _,G6.d9 (Az hd6)⟩⟩;have:("A(0)~|& xB1^" : Str).cps.toList.all (· < 128)=true:=by decide +kernel
    have:=List.all_eq_true.mp this cc (Z4 hc);rw[←Array.all_toList];show([cc].all λx=>decide (x<128))=true;rw[all_cons,this];rfl
   rintro σ H7 ⟨sg,rfl,asg,lsg,G7⟩;clear G6;refine⟨λσ H'=>∃(tt:Str),σ=gi z (some (.int (0+(j:Int)))) (some tv) (some (.int at_)) (some (.int sp)) (some (.str sg)) fm gf eM eY (some (.str tt))/\tt.cps.all (· < 128)=true/\tt.length<=200/\Gd z P0 H0 H',λR hR=>?_,?_⟩
   ·have hl:tx.length<=sizeLine:=Nat.le_of_lt (AK qe);have l1:=Txt.slice_le tx none (some at_);have l2:=λi=>Txt.slice_le tx (some i) none;refine⟨_,Zj,_,Zj,_,Zj,tx,Zj,hl,_,Zj,_,_,Zj,Zj,Nat.le_of_lt (AK qe),_,Zj,_,Zj,_,Zj,_,_,Zj,Zj,.inr ⟨_,Zj,_,_,Zj,Zj,_,Zj,tx,Zj,hl,_,_,Zj,Zj,?_,hR _ _ ⟨_,Zj,CY (CY (Lf az) asg) (Lf az),?_,G7⟩⟩⟩
    ·refine Nat.le_of_lt (AK ?_);have:=l2 (at_+if decide (1<sp)=true then 1 else 0);rw[BE];omega
    ·have:=l2 (at_+if decide (1<sp)=true then 1 else 0);rw[BE,BE];omega
   rintro σ H8 ⟨tt,rfl,att,ltt,G8⟩;clear G7;refine⟨_,Zj,tt,Zj,Nat.le_of_lt (AK qe),_,_,Zj,Zj,_,Zj,?_⟩;refine B4 (λjN=>?_) (λ_=>⟨⟨_,_,_,_,_,_,_,_,_,_,Zj⟩,G8⟩)
   have h60':tt.length<=60:=by
    have:=ZU jN;omega
   clear jN;generalize some (V.int (0+(j:Int)))=y5 at *;generalize some (V.int at_)=y7 at *;generalize some (V.int sp)=y8 at *;generalize some (V.str sg)=y9 at *;generalize some tv=y6 at *;refine⟨λσ H'=>σ=gi z y5 y6 y7 y8 y9 (some (plV (gX false tt))) gf eM eY (some (.str tt))/\Gd z P0 H0 H',λR hR=>⟨_,Zj,tt,false,Zj,att,qe,λH' s'=>hR _ _ ⟨Zj,G8.same s'⟩⟩,?_⟩;rintro σ H9 ⟨rfl,G9⟩;clear G8;refine⟨λσ H'=>∃v,σ=gi z y5 y6 y7 y8 y9 (some (plV (gX false tt))) (some v) eM eY (some (.str tt))/\RdR VC z.kp tt v H'/\Gd z P0 H0 H',λR hR=>?_,?_⟩
   ·refine⟨G9.wb.tab,λi6 sB hT10=>?_⟩;have jg:=G9.dj sB hT10;have W10:=jg.wf W0;exact⟨_,Zj,_,Zj,PD ET EPB W10.wb W10.ka DO W10.hb att qe λv H' wb rl i8=>hR _ _ ⟨v,Zj,i8,jg.go rl wb⟩⟩
   rintro σ i6 ⟨vf,rfl,RR,jg⟩;clear G9;refine⟨λσ H'=>σ=gi z y5 y6 y7 y8 y9 (some (plV (gX false tt))) (some vf) eM eY (some (.str tt))/\RdR VC z.kp tt vf H'/\Gd z P0 H0 H',λR hR=>?_,?_⟩
   ·cases RR with
    |bad q n e p hq =>
     subst e;rw[p];refine⟨_,Zj,_,Zj,h3,λq2 gD=>.inl ?_⟩;have sq:=AD (aA.refl _) gD (o:=HO.tup [V.str "refused", V.str "BadText", V.int (n:Int)]);refine⟨_,_,Be (sq _ _ hq),Be AB,A1 qb qb,A1 qb qb,_,Zj,_,_,Zj,Zj,Zj,_,Zj,?_⟩;refine FB ?_ (hR _ _ ⟨by rw[p],.bad q n Zj p (sq _ _ hq),jg.same sq⟩);rw[Fq,ZM (show(n:Int) ≥ 0 by omega)]
    |name q e p hq =>
     subst e;rw[p];refine⟨_,Zj,_,Zj,h3,λq2 gD=>.inl ?_⟩;have sq:=AD (aA.refl _) gD (o:=HO.tup [V.str "refused", V.str "BadText", V.int (-1)]);refine⟨_,_,Fj (sq _ _ hq),Be AB,Cw,A1 qb qb,_,Zj,_,_,Zj,Zj,Zj,_,Zj,?_⟩;refine FB ?_ (hR _ _ ⟨by rw[p],.name q Zj p (sq _ _ hq),jg.same sq⟩);rw[U6];rfl
    |ok q n e p hV =>
     subst e;rw[p];obtain⟨dq,hq⟩:=id hV;refine⟨_,Zj,_,Zj,h3,λq2 gD=>.inr ?_⟩;have sq:=AD (aA.refl _) gD (o:=HO.tup [V.str "refused", V.str "BadText", V.int (-1)]);refine⟨q,dq,_,q2,_,Zj,Zj,sq _ _ hq,AB,q,q2,z.kp,n,_,Zj,hV.same sq,AB,false,Zj,_,Zj,_,_,Zj,Zj,Zj,_,Zj,?_⟩;exact FB Zj (hR _ _ ⟨by rw[p],.ok q n Zj p (hV.same sq),jg.same sq⟩)
   rintro σ H11 ⟨rfl,RR,G11⟩;clear jg;refine⟨λσ H'=>σ=gi z y5 y6 y7 y8 y9 (some (plV (gX false tt))) (some vf) eM eY (some (.str tt))/\Gd z P0 H0 H',λR hR=>?_,?_⟩
   ·cases RR with
    |bad q n e p hq =>
     subst e;rw[p];refine⟨_,Zj,_,_,Zj,Zj,_,Zj,?_⟩;rw[ZP (show ¬ ((n:Nat):Int)<0 by omega)];exact AT (AT (hR _ _ ⟨by rw[p],G11⟩))
    |name q e p hq =>
     subst e;rw[p];refine⟨_,Zj,_,_,Zj,Zj,_,Zj,Ac ⟨_,Zj,h2,λq2 gD=>.inl ?_⟩⟩;have sq:=AD (aA.refl _) gD (o:=HO.tup [V.str "refused", V.str "BadName"]);refine⟨_,_,Fj (sq _ _ hq),Fj AB,Cw,Cw,_,Zj,?_⟩;rw[OC];exact AT (AT (hR _ _ ⟨by rw[p],G11.same sq⟩))
    |ok q n e p hV =>
     subst e;rw[p];obtain⟨dq,hq⟩:=id hV;refine⟨_,Zj,_,_,Zj,Zj,_,Zj,Ac ⟨_,Zj,h2,λq2 gD=>.inr ?_⟩⟩;have sq:=AD (aA.refl _) gD (o:=HO.tup [V.str "refused", V.str "BadName"]);refine⟨q,dq,_,q2,_,Zj,Zj,sq _ _ hq,AB,q,q2,z.kp,n,_,Zj,hV.same sq,AB,false,Zj,false,Zj,_,Zj,Ac ⟨_,Zj,_,VC,_,true,Zj,VI.ty (sq _ _ hq),IG K VC,_,Zj,?_⟩⟩;exact AT (hR _ _ ⟨by rw[p],G11.same sq⟩)
   rintro σ H12 ⟨rfl,G12⟩;clear G11 RR;refine⟨λσ H'=>σ=gi z y5 y6 y7 y8 y9 (some (plV (gX true tt))) (some vf) eM eY (some (.str tt))/\Gd z P0 H0 H',λR hR=>⟨_,rfl,tt,true,rfl,att,qe,λH' s'=>hR _ _ ⟨rfl,G12.same s'⟩⟩,?_⟩;rintro σ H13 ⟨rfl,G13⟩;refine⟨G13.wb.tab,λH14 sB hT14=>?_⟩;have G14:=G13.dj sB hT14;have W14:=G14.wf W0;refine⟨_,rfl,OD ET W14.wb W14.hb att qe λv H15 wb rl LR=>?_⟩;have G15:=G14.go rl wb;cases LR with
   |bad q n e p hq =>
    subst e;rw[p];refine⟨_,Zj,h3,λq2 gD=>?_⟩;have sq:=AD (aA.refl _) gD (o:=HO.tup [V.str "refused", V.str "BadText", V.int (n:Int)]);refine⟨_,_,Be (sq _ _ hq),Be AB,A1 qb qb,A1 qb qb,_,Zj,_,_,Zj,Zj,Zj,_,Zj,?_⟩;refine FB ?_ ⟨⟨_,_,_,_,_,_,_,_,_,_,Zj⟩,G15.same sq⟩;rw[Fq,ZM (show(n:Int) ≥ 0 by omega)]
   |ok q ns e p hq ha =>
    subst e;rw[p];refine⟨_,Zj,h3,λq2 gD=>?_⟩;have sq:=AD (aA.refl _) gD (o:=HO.tup [V.str "refused", V.str "BadText", V.int (-1)]);refine⟨_,_,D9 (sq _ _ hq) (IF ns),Be AB,Gs ha,A1 qb qb,_,Zj,_,_,Zj,Zj,Zj,_,Zj,?_⟩;refine FB ?_ ⟨⟨_,_,_,_,_,_,_,_,_,_,Zj⟩,G15.same sq⟩;rw[Q8];rfl
  rintro σ H4 L4;clear L0;generalize (⟨a,d,f,u,wl,k⟩:Ad)=z at *;refine⟨λσ H'=>jA P0 z H0 σ H',λR hR=>?_,?_⟩
  ·obtain⟨⟨x5,x6,x7,x8,x9,fm,gf,eM,eY,gx,rfl⟩,G4⟩:=L4;refine⟨h1,λl1 hl1=>⟨h1,λt1 ht1=>⟨(by show 5<=sizeLine;decide),λl3 hl3=>?_⟩⟩⟩;have sa:=AD (aA.refl _) hl1 (o:=HO.lst [V.str "A"]);have sb:=AD (aA.refl _) ht1 (o:=HO.tup [V.str "A"]);have sc:=AD (aA.refl _) hl3 (o:=HO.lst [V.aI,V.int 5,V.bl true,V.ref l1,V.ref t1]);have el1:=sc _ _ (sb _ _ (AB (H:=H4) (a:=l1) (o:=HO.lst [V.str "A"])));have et1:=sc _ _ (AB (H:=upd H4 l1 (HO.lst [V.str "A"])) (a:=t1) (o:=HO.tup [V.str "A"]));have G5:=G4.same ((sa.trans sb).trans sc);have jq:=AB (H:=upd (upd H4 l1 (HO.lst [V.str "A"])) t1 (HO.tup [V.str "A"])) (a:=l3) (o:=HO.lst [V.aI,V.int 5,V.bl true,V.ref l1,V.ref t1]);generalize upd (upd (upd H4 l1 (HO.lst [V.str "A"])) t1 (HO.tup [V.str "A"])) l3 (HO.lst [V.aI,V.int 5,V.bl true,V.ref l1,V.ref t1])=H5 at el1 et1 G5 jq ⊢
   have no5:∀v∈ [V.aI,V.int 5,V.bl true,V.ref l1,V.ref t1],di K "str" H5 v:=λv hv=>by
    simp only[mem_cons,not_mem_nil,or_false]at hv;rcases hv with rfl |rfl |rfl |rfl |rfl
    ·exact UX qd
    ·exact UY qd
    ·exact Vm qd
    ·exact .inr (.inr ⟨l1,_,rfl,el1,(λx y z=>nomatch z),qd⟩)
    ·exact .inr (.inl ⟨t1,_,Zj,et1,qd⟩)
   have jm:[V.aI,V.int 5,V.bl true,V.ref l1,V.ref t1].length=5:=rfl;generalize [V.aI,V.int 5,V.bl true,V.ref l1,V.ref t1]=vs at *;clear sa sb sc el1 et1 G4;refine⟨l3,Zj,⟨_,aN.of jq⟩,DH (K:=K) (a:=l3) (xs:=vs) (λi σ H'=>jA P0 z H0 σ H'/\H' l3=some (.lst vs)/\∀v∈vs,di K "str" H' v) ⟨⟨⟨_,_,_,_,_,_,_,_,_,_,Zj⟩,G5⟩,jq,no5⟩ (λi σ H' _ ⟨_,h,_⟩=>aN.of h) ?_ (λσ H' ⟨h,_⟩=>hR _ _ h)⟩;clear hR jq no5 G5;rintro i v σ H5 hi ⟨⟨⟨x5,x6,x7,x8,x9,fm,gf,eM,eY,gx,rfl⟩,G5⟩,jq,no5⟩;have hvm:=Z4 hi;refine⟨λσ H'=>∃lf,σ=gi z x5 x6 x7 x8 x9 fm (some (.ref lf)) eM (some v) gx/\gG K z P0 H0 l3 vs 1 lf H',λR hR=>?_,?_⟩
   ·refine⟨G5.wb.tab,λH6 sB hT6=>?_⟩;have K6:=G5.kp (Rl.dj sB);have G6:=G5.dj sB hT6;refine⟨_,Zj,_,Zj,.aI z.kp v Zj ((no5 v hvm).keeps K6) (Cg ET G6.wb λp H7 wb7 rl7 hp7=>⟨h1,λlf hlf=>?_⟩)⟩;have K7:=G6.kp rl7;have G7:=G6.go rl7 wb7;have sq:=AD (aA.refl _) hlf (o:=HO.lst [V.ref p]);refine hR _ _ ⟨lf,Zj,⟨⟨[p],Zj,AB,λb hb=>?_⟩,G7.rl.new hlf,sq _ _ (K7.k (K6.k jq λ_ _=>NK jm qc) λ_ _=>NK jm qc),λw hw=>(((no5 w hw).keeps K6).keeps K7).same sq,G7.same sq⟩⟩;rw[ZH.mp hb];exact sq _ _ hp7
   rintro σ H6 ⟨lf,rfl,B6⟩;clear jq no5 G5
   have step:∀ {n:Nat}{H7:Hp}{p:Xd}{R:Hp->Prop},n<=4->gG K z P0 H0 l3 vs n lf H7->H7 p=some (.tup Lh)->(∀H8,gG K z P0 H0 l3 vs (n+1) lf H8->R H8)->∃(l:Xd) (xs:Xc) (y:V),V.ref lf=.ref l/\[V.ref p]=[y]/\H7 l=some (.lst xs)/\xs.length<sizeLine/\R (upd H7 l (.lst (xs++[y]))):=λ{n H7 p R} hn Bn hp k=>by
    obtain⟨bs,b1,b2,b3⟩:=Bn.app jm hn hp;exact⟨lf,_,_,Zj,Zj,b2,by rw[AS,b1];exact Nat.lt_of_le_of_lt hn qc,k _ b3⟩
   have ty:∀ {n:Nat}{H7:Hp},gG K z P0 H0 l3 vs n lf H7->tyV K "list" (V.ref lf) H7:=λBn=>by
    obtain⟨bs,b1,b2,b3⟩:=Bn.ex;exact .inl ⟨Zj,_,aN.of b2⟩
   have go:∀ {n:Nat}{H7 H8:Hp},gG K z P0 H0 l3 vs n lf H7->Hj P0 H7 H8->aU H8 P0 qL LS->gG K z P0 H0 l3 vs n lf H8:=λBn sB hT=>Bn.go jm (Rl.dj sB) (Bn.gd.wb.dj sB hT);refine⟨λσ H'=>σ=gi z x5 x6 x7 x8 x9 fm (some (.ref lf)) eM (some v) gx/\gG K z P0 H0 l3 vs 2 lf H',λR hR=>⟨_,Zj,ty B6,B6.gd.wb.tab,λH7 sB hT7=>?_⟩,?_⟩
   ·have B7:=go B6 sB hT7;exact⟨_,Zj,.aI v Zj (B7.no v hvm) (Cg ET B7.gd.wb λp H8 wb8 rl8 hp8=>step qc (B7.go jm rl8 wb8) hp8 λH9 B9=>hR _ _ ⟨Zj,B9⟩)⟩
   rintro σ H7 ⟨rfl,B7⟩;clear B6;refine⟨λσ H'=>σ=gi z x5 x6 x7 x8 x9 fm (some (.ref lf)) eM (some v) gx/\gG K z P0 H0 l3 vs 3 lf H',λR hR=>⟨_,Zj,ty B7,B7.gd.wb.tab,λH8 sB hT8=>?_⟩,?_⟩
   ·have B8:=go B7 sB hT8;exact⟨_,Zj,_,Zj,.mk (.ref z.kp) v .aI Zj (B8.no v hvm) (Cg ET B8.gd.wb λp H9 wb9 rl9 hp9=>step qc (B8.go jm rl9 wb9) hp9 λi6 jV=>hR _ _ ⟨Zj,jV⟩)⟩
   rintro σ H8 ⟨rfl,B8⟩;clear B7;refine⟨λσ H'=>σ=gi z x5 x6 x7 x8 x9 fm (some (.ref lf)) eM (some v) gx/\gG K z P0 H0 l3 vs 4 lf H',λR hR=>⟨_,Zj,ty B8,B8.gd.wb.tab,λH9 sB hT9=>?_⟩,?_⟩
   ·have B9:=go B8 sB hT9;exact⟨_,Zj,_,Zj,.one (.ref z.kp) v .aI Zj (B9.no v hvm) (Cg ET B9.gd.wb λp i6 wb10 rl10 hp10=>step qc (B9.go jm rl10 wb10) hp10 λH11 B11=>hR _ _ ⟨Zj,B11⟩)⟩
   rintro σ H9 ⟨rfl,B9⟩;clear B8;refine⟨λσ H'=>σ=gi z x5 x6 x7 x8 x9 fm (some (.ref lf)) eM (some v) gx/\gG K z P0 H0 l3 vs 5 lf H',λR hR=>⟨_,Zj,ty B9,B9.gd.wb.tab,λi6 sB hT10=>?_⟩,?_⟩
   ·have jV:=go B9 sB hT10;exact⟨_,Zj,_,Zj,.two (.ref z.kp) v "A" _ Zj qb qb XN (jV.gd.wf W0).hb (jV.no v hvm) (Cg ET jV.gd.wb λp H11 wb11 rl11 hp11=>step qc (jV.go jm rl11 wb11) hp11 λH12 B12=>hR _ _ ⟨Zj,B12⟩)⟩
   rintro σ i6 ⟨rfl,jV⟩;clear B9;refine⟨_,Zj,h3,λt0 ht0=>⟨h1,λl4 hl4=>⟨l4,5,_,Zj,Zj,AB,qc,qc,(by show 1*5<=sizeLine;decide),λl5 jq=>?_⟩⟩⟩;have sa:=AD (aA.refl _) ht0 (o:=HO.tup Lh);have sb:=AD (aA.refl _) hl4 (o:=HO.lst [V.ref t0]);have sc:=AD (aA.refl _) jq (o:=HO.lst (List.replicate (5:Int).toNat [V.ref t0]).flatten);have e0:=sc _ _ (sb _ _ (AB (H:=i6) (a:=t0) (o:=HO.tup Lh)));have B11:=jV.same jm ((sa.trans sb).trans sc);obtain⟨bs,b1,b2,b3⟩:=B11.ex;refine⟨_,_,Li 5 b1 b2 b3,Li (bs:=List.replicate 5 t0) 5 Zj AB (λb hb=>by rw[List.eq_of_mem_replicate hb];exact e0),OE,OE,_,Zj,?_⟩;rw[Sv];exact AT ⟨⟨⟨_,_,_,_,_,_,_,_,_,_,Zj⟩,B11.gd⟩,B11.h3,B11.no⟩
  clear L4;rintro σ H5 ⟨⟨x5,x6,x7,x8,x9,fm,gf,eM,eY,gx,rfl⟩,G5⟩;refine⟨λσ H'=>∃l1,σ=gi z x5 x6 x7 x8 x9 fm gf (some (.ref l1)) eY gx/\H' l1=some (.lst (far1.map V.str))/\Gd z P0 H0 H',λR hR=>⟨(by show 10<=sizeLine;decide),λl1 hl1=>hR _ _ ⟨l1,Zj,AB,G5.same (AD (aA.refl _) hl1)⟩⟩,?_⟩;rintro σ H6 ⟨l1,rfl,hl6,G6⟩;refine⟨λσ H'=>∃l1,σ=gi z x5 x6 x7 x8 x9 fm gf (some (.ref l1)) eY gx/\H' l1=some (.lst ((far1++far2).map V.str))/\Gd z P0 H0 H',λR hR=>⟨_,Zj,sl7,λl2 gQ=>?_⟩,?_⟩
  ·have sa:=AD (aA.refl _) gQ (o:=HO.lst (far2.map V.str));refine⟨l1,l2,_,_,Zj,Zj,sa _ _ hl6,AB,(by show 10+7<=sizeLine;decide),λl3 hl3=>hR _ _ ⟨l3,Zj,AB,G6.same (sa.trans (AD (aA.refl _) hl3))⟩⟩
  rintro σ H7 ⟨l2,rfl,hl7,G7⟩;clear hl6 G6 G5;refine⟨λσ H'=>jA P0 z H0 σ H',λR hR=>⟨_,Zj,l2,Zj,⟨_,aN.of hl7⟩,?_⟩,?_⟩
  ·refine DH (K:=K) (a:=l2) (xs:=(far1++far2).map V.str) (λi σ H'=>jA P0 z H0 σ H'/\H' l2=some (.lst ((far1++far2).map V.str))) ⟨⟨⟨_,_,_,_,_,_,_,_,_,_,rfl⟩,G7⟩,hl7⟩ (λi σ H' _ ⟨_,h⟩=>aN.of h) ?_ (λσ H' ⟨h,_⟩=>hR _ _ h);clear hR G7 hl7;rintro i v σ H8 hi ⟨⟨⟨x5,x6,x7,x8,x9,fm,gf,eM,eY,gx,rfl⟩,G8⟩,hl8⟩;rw[ZF]at hi;obtain⟨tt,htt,rfl⟩:=Z6.mp hi;obtain⟨att,ltt⟩:=U8 tt (Z4 htt);refine⟨λσ H'=>σ=gi z x5 x6 x7 x8 x9 (some (plV (gX true tt))) gf eM eY (some (.str tt))/\H' l2=some (.lst ((far1++far2).map V.str))/\Gd z P0 H0 H',λR hR=>⟨_,rfl,tt,true,rfl,att,qe,λH' s'=>hR _ _ ⟨rfl,s' _ _ hl8,G8.same s'⟩⟩,?_⟩;rintro σ H13 ⟨rfl,hl13,G13⟩;refine⟨G13.wb.tab,λH14 sB hT14=>?_⟩;have G14:=G13.dj sB hT14;have W14:=G14.wf W0;have hl14:=(G13.kp (Rl.dj sB)).k hl13 (λ_ _=>KD);refine⟨_,rfl,OD ET W14.wb W14.hb att qe λv H15 wb rl LR=>?_⟩;have G15:=G14.go rl wb;have hl15:=(G14.kp rl).k hl14 (λ_ _=>KD);cases LR with
   |bad q n e p hq =>
    subst e;rw[p];refine⟨_,Zj,h3,λq2 gD=>?_⟩;have sq:=AD (aA.refl _) gD (o:=HO.tup [V.str "refused", V.str "BadText", V.int (n:Int)]);refine⟨_,_,Be (sq _ _ hq),Be AB,A1 qb qb,A1 qb qb,_,Zj,_,_,Zj,Zj,Zj,_,Zj,?_⟩;refine FB ?_ ⟨⟨⟨_,_,_,_,_,_,_,_,_,_,Zj⟩,G15.same sq⟩,sq _ _ hl15⟩;rw[Fq,ZM (show(n:Int) ≥ 0 by omega)]
   |ok q ns e p hq ha =>
    subst e;rw[p];refine⟨_,Zj,h3,λq2 gD=>?_⟩;have sq:=AD (aA.refl _) gD (o:=HO.tup [V.str "refused", V.str "BadText", V.int (-1)]);refine⟨_,_,D9 (sq _ _ hq) (IF ns),Be AB,Gs ha,A1 qb qb,_,Zj,_,_,Zj,Zj,Zj,_,Zj,?_⟩;refine FB ?_ ⟨⟨⟨_,_,_,_,_,_,_,_,_,_,Zj⟩,G15.same sq⟩,sq _ _ hl15⟩;rw[Q8];rfl
  clear hl7 G7;rintro σ H8 ⟨⟨x5,x6,x7,x8,x9,fm,gf,eM,eY,gx,rfl⟩,G8⟩;refine⟨λσ H'=>jA P0 z H0 σ H',λR hR=>⟨G8.wb.tab,λH9 sB hT9=>?_⟩,?_⟩
  ·have G9:=G8.dj sB hT9;have W9:=G9.wf W0;refine⟨_,Zj,.nm z.kp "ZZ|A" aB _ Zj W9.ka (WS zzN) qb qb WR W9.hb (OB EPB W9.wb λp i6 wb10 rl10 hp10=>⟨h2,λq hq=>?_⟩)⟩;have sq:=AD (aA.refl _) hq (o:=HO.tup [V.str "refused", V.str "BadName"]);refine⟨_,_,Fj (sq _ _ hp10),Fj AB,Cw,Cw,_,Zj,?_⟩;rw[show wd 5 = "BadName" from rfl,OC];exact AT (hR _ _ ⟨⟨_,_,_,_,_,_,_,_,_,_,Zj⟩,(G9.go rl10 wb10).same sq⟩)
  rintro σ H9 ⟨⟨x5,x6,x7,x8,x9,fm,gf,eM,eY,gx,rfl⟩,G9⟩;refine⟨G9.wb.tab,λi6 sB hT10=>?_⟩;have jg:=G9.dj sB hT10;have W10:=jg.wf W0;refine⟨_,Zj,.txt z.kp "ZZ|" aB (.bad 3) Zj W10.ka DO qb qb U7 W10.hb (Cg ET W10.wb λp H11 wb11 rl11 hp11=>⟨h3,λq hq=>?_⟩)⟩;have sq:=AD (aA.refl _) hq (o:=HO.tup [V.str "refused", V.str "BadText", V.int 3]);refine⟨_,_,Be (sq _ _ hp11),Be AB,A1 qb qb,A1 qb qb,_,Zj,?_⟩;rw[show(((3:Nat):Int))=3 from rfl,Fq];exact AT (fin ⟨⟨_,_,_,_,_,_,_,_,_,_,Zj⟩,(jg.go rl11 wb11).same sq⟩)
end
end Mk
end
section
namespace Mk
open PySem L2 MK
def Tb {dt:Xd}{tk:Tok}{kV doc pm ad ct:Value}{an:Option Xd}{n:Nat} (hd:K.lookup dt=some ⟨.type "tuple", none,.seq #[.str "" tk] n,#[]⟩) :
  Binds K (W.fnOf "__init__" "MarkError.__init__" (defArgs BA) (defBody BA) (defScope BA) (.ref dt) kV doc pm an ad ct) ["self", "words"] []:=by
 intro s us hK hl
 have gQ:us.length=2:=by
  rw[Zu]at hl;exact hl
 match us,gQ with
 | [u1,u2],_ =>
  have ho:=hK _ _ hd;intro M A E Q hq;unfold bindArgs;simp only[W.fnOf]
  repeat (first |with_reducible refine wpAny_seqItems ho rfl ?_ | (with_reducible refine Zy (wpAny_seqItems ho rfl ?_)) |wp_step)
  exact Eq.mp (congrArg (λz=>Q z s) qd) hq
def NL {h:Heap}{N:Xd}{n:Str}{v:Value} (X:K.In h) (G:h.Ns N mg) (e:W.nsIn K N n=some (some v)):mg n=some v:=by
 obtain⟨o,es,ep,ho,hd,_,hf⟩:=G;unfold W.nsIn at e;split at e
 ·rename_i c d jd n' sl q;have:=X _ _ q;rw[ho]at this;cases this;cases hd;split at e
  ·rename_i he;cases e;rw[←hf];unfold nsFind findBy;rw[←Array.find?_toList,he];rfl
  ·split at e <;> cases e
 ·cases e
def Sw {kV doc pm ad ct:Value}{an:Option Xd} :
  Ek K (W.fnOf "__init__" "Kind.__init__" (defArgs CM) (defBody CM) (defScope CM) .none kV doc pm an ad ct) ["self", "rows", "rest"] ["rest"] gU3 gV3:=by
 refine⟨λs us ws _ hl=>?_,λ{vs us zs ws} r rz=>?_⟩
 ·unfold gU3 at hl ⊢;split at hl
  ·exact .of_eq qd
  ·cases hl
 ·cases r with
  |nil=>exact .nil
  |cons r1 rr =>
   cases rr with
   |nil=>exact .nil
   |cons r2 rr =>
    cases rr with
    |cons _ _=>exact .nil
    |nil =>
     cases rz with
     |nil=>exact .nil
     |cons z1 zz =>
      cases zz with
      |nil=>exact .cons r1 (.cons r2 (.cons z1 .nil))
      |cons _ _=>exact .nil
def Sx {kd:Xd}{v doc pm ad ct:Value}{an:Option Xd} (ok:W.nsOkIn K kd=true) (e:W.nsIn K kd "lettered" = some (some v)) :
  Binds K (W.fnOf "steps_of" "steps_of" (defArgs Bc) (defBody Bc) (defScope Bc) .none (.ref kd) doc pm an ad ct) ["text", "lettered"] [v]:=by
 intro s us hK hl
 have gQ:us.length=1:=by
  rw[ZI]at hl;exact Nat.succ.inj hl
 match us,gQ with
 | [u1],_ =>
  have G:s.heap.Ns kd (s.heap.nsMap kd):=.of_isNs (W.isNs_of_in hK ok);have hm:s.heap.nsMap kd "lettered" = some v:=NL hK G e;intro M A E Q hq;unfold bindArgs;simp only[W.fnOf]
  repeat (first | (with_reducible refine wpAny_nsGet G ?_;rw[hm]) |wp_step)
  exact Eq.mp (congrArg (λz=>Q z s) qd) hq
def RC {kV doc pm ad ct:Value}{an:Option Xd} :
  Ek K (W.fnOf "steps_of" "steps_of" (defArgs Bc) (defBody Bc) (defScope Bc) .none kV doc pm an ad ct) ["text", "lettered"] ["lettered"] gU2 gV2:=by
 refine⟨λs us ws _ hl=>?_,λ{vs us zs ws} r rz=>?_⟩
 ·unfold gU2 at hl ⊢;split at hl
  ·exact .of_eq qd
  ·cases hl
 ·cases r with
  |nil=>exact .nil
  |cons r1 rr =>
   cases rr with
   |cons _ _=>exact .nil
   |nil =>
    cases rz with
    |nil=>exact .nil
    |cons z1 zz =>
     cases zz with
     |nil=>exact .cons r1 (.cons z1 .nil)
     |cons _ _=>exact .nil
end Mk
end
section
namespace Mk
open PySem L2 MK PySem.W
noncomputable abbrev fO (x q:Str) (s:Stmt):=fnOf x q (defArgs s) (defBody s) (defScope s)
def Fs {K:Frag}{C:Xd}{T:String} (h:isClsIn K C=true) (h2:typeIn K (.ref C)=some (.type "type")) (e:subIn K (.type T) (.ref C)=some false):kitOne K (.type T) (.ref C)=some false:=by
 unfold kitOne;rw[Zr (by simp)];unfold kitCls;show(if _ then _ else _)=_;rw[Zq (by unfold isClsIn at h;rw[h,h2];simp)];exact e
def Sy {K:Frag}{C M:Xd}{f:Str} (h:(clsIn K C).map (λcd=>(cd.mro,cd.hasDict))=some (Er C M,true)) (n:findIn K (.ref C) f=some none) (s:findIn K (.ref C) "__setattr__" = some (some (.builtin "object.__setattr__"))):QB K C M f:=by
 obtain⟨cd,e,z⟩:=Z6.mp h;exact⟨⟨cd,e,congrArg Prod.fst z,congrArg Prod.snd z⟩,n,s⟩
noncomputable def Lj (K:Frag) (c P:Xd):Bool:=match K.lookup c with
 |some ⟨.type "code", _,.fields vs,_⟩=>(match (vs[11]?:Option Value),vs.getD 18 Value.none,vs.getD 7 Value.none,vs.getD 9 Value.none,vs.getD 10 Value.none with
  |some (.ref p),.str _ _,.int _ _,.bool _,.int _ _=>p==P && !(c==P)
  |_,_,_,_,_=>false)
 |_=>false
def codeHd_of {K:Frag}{h:Heap}{c P:Xd} (X:K.In h) (q:Lj K c P=true):CodeHd h c P:=by
 unfold Lj at q;split at q
 ·rename_i d vs sl ho;split at q
  ·rename_i p f tf fl tg b tx tt h11 h18 h7 h9 iX;rw[Bool.and_eq_true,beq_iff_eq]at q;obtain⟨rfl,hn⟩:=q;refine⟨_,vs,f,tf,fl,tg,b,tx,tt,X _ _ ho,Zj,Zj,h11,?_,h18,h7,h9,iX,λz=>by simp[z]at hn⟩;rw[Array.getD_eq_getD_getElem?,h11];rfl
  ·cases q
 ·cases q
section
variable {P:Program}{w:World}{K:Frag}{mg:SV}{base:Heap}{x q:Str}{st:Stmt}{k:Nat}{ps:Xa}{sp:Sp}{f C:Xd}{fd:FuncData}{p1 p2 p3 p4 p5:Str}
def fnT (F:aV K x x st f fd) (ok:AU P w K mg base aK k f fd ps sp) (m:mg x=some (.ref f)) (b:Binds K fd ps []):Fn P w K mg base x k ps sp:=⟨⟨f,fd,ok,m,F.kp,b⟩⟩
def mtT (a:findIn K (.ref C) x=some (some (.ref f))) (i:isFn K (.ref f)=true) (F:aV K x q st f fd) (ok:AU P w K mg base aK k f fd ps sp) (b:Binds K fd ps []):Mt P w K mg base C x k ps sp:=⟨⟨f,fd,ok,⟨a,i,F.kp⟩,b⟩⟩
noncomputable abbrev fB (x q:Str) (st:Stmt) (kV doc pm:Value) (an:Option Xd) (ad ct:Value) (us:Xb):Sem (List (Str×Value)):=bindArgs (fO x q st .none kV doc pm an ad ct) ⟨us,[]⟩
def gF (F:aV K x q st f fd) (h:∀a b c d e g u1,fB x q st a b c d e g [u1]=pure [(p1,u1)]):Binds K fd [p1] []:=F.binds λ_ _ _ _ _ _ us hl=>match us,hl with | [_],_=>h ..
def gc (F:aV K x q st f fd) (h:∀a b c d e g u1 u2,fB x q st a b c d e g [u1,u2]=pure [(p1,u1),(p2,u2)]):Binds K fd [p1,p2] []:=F.binds λ_ _ _ _ _ _ us hl=>match us,hl with | [_,_],_=>h ..
def jz (F:aV K x q st f fd) (h:∀a b c d e g u1 u2 u3,fB x q st a b c d e g [u1,u2,u3]=pure [(p1,u1),(p2,u2),(p3,u3)]):Binds K fd [p1,p2,p3] []:=F.binds λ_ _ _ _ _ _ us hl=>match us,hl with | [_,_,_],_=>h ..
def bi4 (F:aV K x q st f fd) (h:∀a b c d e g u1 u2 u3 u4,fB x q st a b c d e g [u1,u2,u3,u4]=pure [(p1,u1),(p2,u2),(p3,u3),(p4,u4)]):Binds K fd [p1,p2,p3,p4] []:=F.binds λ_ _ _ _ _ _ us hl=>match us,hl with | [_,_,_,_],_=>h ..
end
def DG (K:Frag) (x:Str) (st:Stmt):Prop:=∃f fd,nsIn K mainGlobals x=some (some (.ref f))/\aV K x x st f fd
def DM (K:Frag) (C:Xd) (x q:Str) (st:Stmt):Prop:=∃f fd,findIn K (.ref C) x=some (some (.ref f))/\isFn K (.ref f)=true/\(∃o,K.lookup f=some o/\o.cls=.type "function")/\aV K x q st f fd
structure CF (K:Frag) (C:Xd):Prop where
 pg:plainGet K C Str.empty=true
 hd:hasDictIn K C=true
 po:plainOver K C=true
 sa:findIn K (.ref C) "__setattr__" = some (some (.builtin "object.__setattr__"))
 mz:makesIn K C=true
 kc:keepIn K (.ref C)=true
 qa:findIn K (.ref C) "__class__" = some (some (.builtin "object.__class__"))
 qm:mroIn K C (.type "object")=some true
 ql:isClsIn K C=true
 qy:typeIn K (.ref C)=some (.type "type")
 qs:subIn K (.type "list") (.ref C)=some false
 qi:subIn K (.type "int") (.ref C)=some false
 qt:subIn K (.type "tuple") (.ref C)=some false
 ne:findIn K (.ref C) "__ne__" = some (some (.builtin "object.__ne__"))
structure XF (K:Frag) (ec:Nat->Xd) (C:Xd) (j:Nat):Prop where
 cx:L2.A9 K C=true
 ga:findIn K (.ref C) "__getattribute__" = some (some (.builtin "BaseException.__getattribute__"))
 gr:findIn K (.ref C) "__getattr__" = some none
 gb:mroIn K C (.type "BaseException")=some true
 kc:(clsIn K C).isSome=true
 ka:findIn K (.ref C) "__class__" = some (some (.builtin "object.__class__"))
 km:mroIn K C (.type "object")=some true
 kt:((List.range 11).all λi=>i==j ||decide (kitOne K (.ref C) (.ref (ec i))=some false))=true
 tv:kitOne K (.ref C) (.type "ValueError")=some true
 ke:keepIn K (.ref C)=true
def XF.at {K:Frag}{ec:Nat->Xd}{C:Xd}{j:Nat} (F:XF K ec C j) (hj:j<11) (e:C=ec j) (qn:specialIn K (.builtin "object.__class__") "__get__" = some (some (.builtin "getset_descriptor.__get__"))) (qt:takesIn K (.builtin "object.__class__")=some true):Nu K ec C j:=by
 refine⟨hj,⟨⟨F.ga,F.gr,F.gb⟩,F.kc,F.ka,qn,qt,F.km⟩,λi hi=>?_,F.tv⟩;have h:=List.all_eq_true.mp F.kt i (mem_range.mpr hi);rw[Bool.or_eq_true]at h;rcases h with z |z
 ·rw[eq_of_beq z,e,ZM rfl];exact IG K _
 ·by_cases q:i=j
  ·rw[q,e,ZM rfl];exact IG K _
  ·rw[ZP q];exact ZU z
structure XP (K:Frag) (ec:Nat->Xd) (cM C f:Xd) (j:Nat):Prop where
 F:XF K ec C j
 n:((List.range 4).all λi=>!(Dr K C).contains (.ref (ec i)))=true
 m:(Dr K C).contains (.ref cM)=true
 i:findIn K (.ref C) "__init__" = some (some (.ref f))
def XP.pl {K:Frag}{ec:Nat->Xd}{cM C f:Xd}{j:Nat} (F:XP K ec cM C f j) (hj:j<11) (e:C=ec j) (qn:specialIn K (.builtin "object.__class__") "__get__" = some (some (.builtin "getset_descriptor.__get__"))) (qt:takesIn K (.builtin "object.__class__")=some true):JM K ec cM C j:=by
 have h:∀i,i<4->(Dr K C).contains (.ref (ec i))=false:=λi hi=>by
  have:=List.all_eq_true.mp F.n i (mem_range.mpr hi);rw[Bool.not_eq_true']at this;exact this
 exact⟨F.F.at hj e qn qt,F.F.cx,h 0 qc,h 1 qc,h 2 qc,h 3 qc,F.m⟩
structure XL (K:Frag) (ec:Nat->Xd) (cM C:Xd) (j:Nat) (fld:Str):Prop where
 F:XF K ec C j
 n:((List.range j).all λi=>!(Dr K C).contains (.ref (ec i)))=true
 m:(Dr K C).contains (.ref (ec j))=true
 gh:hasDictIn K C=true
 gn:findIn K (.ref C) fld=some none
 gs:findIn K (.ref C) "__setattr__" = some (some (.builtin "object.__setattr__"))
 s:(clsIn K C).map (λcd=>(cd.mro,cd.hasDict))=some (Er C cM,true)
def XL.fl {K:Frag}{ec:Nat->Xd}{cM C:Xd}{j:Nat} (F:XL K ec cM C j (IU j)) (hj:j<4) (e:C=ec j) (qn:specialIn K (.builtin "object.__class__") "__get__" = some (some (.builtin "getset_descriptor.__get__"))) (qt:takesIn K (.builtin "object.__class__")=some true):IJ K ec C j:=by
 refine⟨F.F.at qe e qn qt,F.F.cx,hj,λi hi=>?_,F.m,⟨⟨F.F.ga,F.F.gr,F.F.gb⟩,F.gh,F.gn⟩⟩;have:=List.all_eq_true.mp F.n i (mem_range.mpr hi);rw[Bool.not_eq_true']at this;exact this
def all_mk {l:OpenLaw}{w:World}{K:Frag}{h:Heap}{mg:SV}{fz C VC DC aR kd dt cM c P0 e0 e1 e2 e3 e4 e5 e6 e7 e8 e9 iu fin fei fla:Xd} (X:K.In h) (G:h.Ns mainGlobals mg) (hfa:mg "law" = some (.ref fz))
  {ocla kVla dcla pmla ctla ocin dcin pmin cdin ctin kVei dcei pmei cdei ctei ocK:Value}{odla anla odin anin odei anei odR odK:Option Xd}{slla slin slei slK slR:Array (Option Value)}{tG tM tL tLi tB t1 t2 t3 t4 tE:Tok}{nRR epK nE:Nat}{esK:Array DictEntry}{jn fst k2:Xd}{j1 j2 j3 tLB:Tok}{odJ odst anst odK2:Option Xd}{nJ epK2:Nat}{slJ slst slK2:Array (Option Value)}{ocst dcst pmst cdst ctst ocK2:Value}{esK2:Array DictEntry}{bd:Xd}
  (aC:nsIn K mainGlobals "Kind" = some (some (.ref C)))
  (aVC:nsIn K mainGlobals "Value" = some (some (.ref VC)))
  (aDC:nsIn K mainGlobals "Reading" = some (some (.ref DC)))
  (aM:nsIn K mainGlobals "MarkError" = some (some (.ref cM)))
  (aX0:nsIn K mainGlobals "BadRows" = some (some (.ref e0)))
  (aX1:nsIn K mainGlobals "BadRest" = some (some (.ref e1)))
  (aX2:nsIn K mainGlobals "BadText" = some (some (.ref e2)))
  (aX3:nsIn K mainGlobals "Unled" = some (some (.ref e3)))
  (aX4:nsIn K mainGlobals "BadRule" = some (some (.ref e4)))
  (aX5:nsIn K mainGlobals "BadName" = some (some (.ref e5)))
  (aX6:nsIn K mainGlobals "BadNumber" = some (some (.ref e6)))
  (aX7:nsIn K mainGlobals "Unlike" = some (some (.ref e7)))
  (aX8:nsIn K mainGlobals "BadPairs" = some (some (.ref e8)))
  (aX9:nsIn K mainGlobals "Never" = some (some (.ref e9)))
  (aX10:nsIn K mainGlobals "Nothing" = some (some (.ref iu)))
  (z_VE:nsIn K mainGlobals "ValueError" = some none)
  (hwh:DG K "is_whole" Fb)
  (hnm:DG K "is_name" Jw)
  (huo:DG K "union_of" Hs)
  (hnx:DG K "next_mark" GG)
  (hoo:DG K "is_one_of" Ht)
  (hno:DG K "is_names_of" Eu)
  (hth:DG K "thing_number" Dc)
  (hro:DG K "row_number" Ew)
  (hnb:DG K "numbered" GH)
  (hfi:DG K "first_names" D5)
  (hmK:DM K C "known" "Kind.known" Ex)
  (hmT:DM K C "rest" "Kind.rest" GQ)
  (hlc:DG K "_law_cell" Hw)
  (hld:DG K "_law_drawn" GY)
  (hlr:DG K "_law_roll" Fe)
  (hls:DG K "_law_rounds" E4)
  (hll:DG K "_law_lines" CP)
  (hxn:DG K "is_number" EQ)
  (hxr:DG K "rest_of" Jx)
  (hxi:DM K VC "__init__" "Value.__init__" Ey)
  (hxN:DM K VC "number" "Value.number" Dd)
  (hgl:DG K "is_letter" GV)
  (hgi:DG K "letters_in" E3)
  (hdS:DM K DC "settle" "Reading.settle" Ct)
  (hdP:DM K DC "take_part" "Reading.take_part" CN)
  (hdB:DM K DC "take_between" "Reading.take_between" Bh)
  (hdA:DM K DC "take_ahead" "Reading.take_ahead" CA)
  (hdC:DM K DC "take_close" "Reading.take_close" CB)
  (hdG:DM K DC "take_sign" "Reading.take_sign" CO)
  (hdN:DM K DC "ends" "Reading.ends" Df)
  (hgj:DG K "joined" Jz)
  (hxQ:DM K VC "__eq__" "Value.__eq__" Fc)
  (hpl:DG K "_law_place" GZ)
  (hmN:DM K C "number" "Kind.number" C1)
  (hgf:DG K "is_figures" Ez)
  (hgp:DG K "is_part" Jy)
  (hge:DG K "part_end" Hu)
  (hgn:DG K "part_number" C2)
  (hgo:DG K "number_of" ER)
  (hdI:DM K DC "__init__" "Reading.__init__" De)
  (hti:DM K e2 "__init__" "BadText.__init__" Db)
  (hle:DG K "_law_tree" Ff)
  (hlp:DG K "_law_written" C3)
  (hlf:DG K "_law_formula" D7)
  (hlw:DG K "_law_word" D6)
  (hlo:DG K "_law_told" Aj)
  (hrk:DG K "reckoned" DQ)
  (hra:DG K "letters" Fd)
  (hre:DG K "read" Np)
  (hal:DG K "alike" Hv)
  (hmd:DG K "made" QJ)
  (ain:findIn K (.ref C) "__init__" = some (some (.ref fin)))
  (iin:isFn K (.ref fin)=true)
  (lin:K.lookup fin=some ⟨ocin,odin,.func (fO "__init__" "Kind.__init__" CM .none (.ref kd) dcin pmin anin cdin ctin),slin⟩)
  (cin:codeIn K cdin "Kind.__init__" = true)
  (kin:keepIn K (.ref fin)=true)
  (ala:nsIn K mainGlobals "law" = some (some (.ref fla)))
  (lla:K.lookup fla=some ⟨ocla,odla,.func (fO "law" "law" BR .none kVla dcla pmla anla (.ref c) ctla),slla⟩)
  (cla:codeIn K (.ref c) "law" = true)
  (kla:keepIn K (.ref fla)=true)
  (aei:findIn K (.ref cM) "__init__" = some (some (.ref fei)))
  (iei:isFn K (.ref fei)=true)
  (lei:K.lookup fei=some ⟨(.type "function"),odei,.func (fO "__init__" "MarkError.__init__" BA (.ref dt) kVei dcei pmei anei cdei ctei),slei⟩)
  (cei:codeIn K cdei "MarkError.__init__" = true)
  (kei:keepIn K (.ref fei)=true)
  (kdl:K.lookup kd=some ⟨ocK,odK,.dict esK epK,slK⟩)
  (kde:(esK.all λe=>match e.key with | .str _ _=>true |_=>false)=true)
  (kdr:nsIn K kd "rest" = some (some (.str "bar" tB)))
  (dtl:K.lookup dt=some ⟨.type "tuple", none,.seq #[.str "" tE] nE,#[]⟩)
  (vG:nsIn K mainGlobals "GREATEST" = some (some (.int 1048575 tG)))
  (vM:nsIn K mainGlobals "MOST_ROWS" = some (some (.int 10 tM)))
  (vL:nsIn K mainGlobals "LONGEST_NAME" = some (some (.int 6 tL)))
  (vLi:nsIn K mainGlobals "LIMIT" = some (some (.int 1099511627776 tLi)))
  (vR:nsIn K mainGlobals "RULES" = some (some (.ref aR)))
  (qn:specialIn K (.builtin "object.__class__") "__get__" = some (some (.builtin "getset_descriptor.__get__")))
  (qt:takesIn K (.builtin "object.__class__")=some true)
  (fC:CF K C)
  (fVC:CF K VC)
  (fDC:CF K DC)
  (nC_numbers:findIn K (.ref C) "numbers" = some none)
  (nC_firsts:findIn K (.ref C) "firsts" = some none)
  (nC_rule:findIn K (.ref C) "rule" = some none)
  (nVC_own_kind:findIn K (.ref VC) "own_kind" = some none)
  (nVC_bits:findIn K (.ref VC) "bits" = some none)
  (nDC_steps:findIn K (.ref DC) "steps" = some none)
  (nDC_waiting:findIn K (.ref DC) "waiting" = some none)
  (nDC_wants_part:findIn K (.ref DC) "wants_part" = some none)
  (xm:L2.A9 K cM=true)
  (xc0:L2.A9 K e0=true)
  (xc1:L2.A9 K e1=true)
  (xc2:L2.A9 K e2=true)
  (xc3:L2.A9 K e3=true)
  (y5:XP K (λi=>([e0,e1,e2,e3,e4,e5,e6,e7,e8,e9,iu]:List Xd).getD i 0) cM e5 fei 5)
  (y2:XL K (λi=>([e0,e1,e2,e3,e4,e5,e6,e7,e8,e9,iu]:List Xd).getD i 0) cM e2 2 "at")
  (xmg:specialIn K (.ref cM) "__getattribute__" = some (some (.builtin "type.__getattribute__")))
  (xmr:readsIn K cM (.type "type")=true)
  (xmf:findCls K (.ref cM) (.type "type") "__init__" = some (.val (.ref fei)))
  (rL:K.lookup aR=some ⟨.type "tuple", odR,.seq #[.str "bar" t1,.str "drop" t2,.str "keep" t3,.str "leave" t4] nRR,slR⟩)
  (z_len:nsIn K mainGlobals "len" = some none)
  (z_isinstance:nsIn K mainGlobals "isinstance" = some none)
  (z_max:nsIn K mainGlobals "max" = some none)
  (z_min:nsIn K mainGlobals "min" = some none)
  (z_range:nsIn K mainGlobals "range" = some none)
  (z_list:nsIn K mainGlobals "list" = some none)
  (z_tuple:nsIn K mainGlobals "tuple" = some none)
  (z_sorted:nsIn K mainGlobals "sorted" = some none)
  (z_sum:nsIn K mainGlobals "sum" = some none)
  (z_all:nsIn K mainGlobals "all" = some none)
  (z_enumerate:nsIn K mainGlobals "enumerate" = some none)
  (z_int:nsIn K mainGlobals "int" = some none)
  (z_bool:nsIn K mainGlobals "bool" = some none)
  (z_str:nsIn K mainGlobals "str" = some none)
  (vBD:nsIn K mainGlobals "BINDING" = some (some (.ref bd)))
  (vJN:nsIn K mainGlobals "JOINING" = some (some (.ref jn)))
  (vLB:nsIn K mainGlobals "LEAST_BINDING" = some (some (.int 1 tLB)))
  (jL:K.lookup jn=some ⟨.type "tuple", odJ,.seq #[.str "&" j1,.str "^" j2,.str "|" j3] nJ,slJ⟩)
  (ast:nsIn K mainGlobals "steps_of" = some (some (.ref fst)))
  (lst:K.lookup fst=some ⟨ocst,odst,.func (fO "steps_of" "steps_of" Bc .none (.ref k2) dcst pmst anst cdst ctst),slst⟩)
  (cst:codeIn K cdst "steps_of" = true)
  (kst:keepIn K (.ref fst)=true)
  (k2l:K.lookup k2=some ⟨ocK2,odK2,.dict esK2 epK2,slK2⟩)
  (k2e:(esK2.all λe=>match e.key with | .str _ _=>true |_=>false)=true)
  (k2n:nsIn K k2 "lettered" = some (some (.bool true)))
  : ∃fd:FuncData,(∀(s:Xe) (v:Value),BindsTo s fd ⟨[v],[]⟩ [("_law_script", v)])/\∀base:Heap,K.In base->base.Ns mainGlobals mg->CodeHd base c P0->base.BuiltinsAt mg P0->AU l.prog w K mg base aK 10 fz fd ["_law_script"] (spLaw K P0 bd):=by
 have MG:∀ {x:Str}{v:Value},nsIn K mainGlobals x=some (some v)->mg x=some v:=λh=>mg_of X G h;have MN:∀ {x:Str},nsIn K mainGlobals x=some none->mg x=none:=λh=>mg_none_of X G h;have T:IC K C:=⟨⟨fC.pg,fC.hd,fC.po,fC.sa⟩,nC_numbers,nC_firsts,nC_rule⟩;have VT:Qi K VC:=⟨⟨fVC.pg,fVC.hd,fVC.po,fVC.sa⟩,nVC_own_kind,nVC_bits⟩;have DT:IV K DC:=⟨⟨fDC.pg,fDC.hd,fDC.po,fDC.sa⟩,nDC_steps,nDC_waiting,nDC_wants_part⟩;have KI:KIsi K C:=⟨⟨fC.pg,fC.hd,fC.po,fC.sa⟩,fC.qa,qn,qt,fC.qm,Fs fC.ql fC.qy fC.qs⟩;have VI:KIsi K VC:=⟨⟨fVC.pg,fVC.hd,fVC.po,fVC.sa⟩,fVC.qa,qn,qt,fVC.qm,Fs fVC.ql fVC.qy fVC.qs⟩;have mCg:=MG aC;have mVg:=MG aVC;have hLi:=MG vLi;have vI:=Fs fVC.ql fVC.qy fVC.qi;have vT:=Fs fVC.ql fVC.qy fVC.qt;have qeC:=fC.ne;have qm:=fC.qm;have B:Bl mg:=⟨MN z_len,MN z_isinstance,MN z_max,MN z_min,MN z_range,MN z_list,MN z_tuple,MN z_sorted,MN z_sum,MN z_all,MN z_enumerate,MN z_int,MN z_bool,MN z_str⟩;have rT:∀H:Hp,bH K H aR (ruleNames.map V.str):=λH=>.inr ⟨_,_,_,rL,rfl,rfl,sl4,.cons ⟨_,rfl⟩ (.cons ⟨_,rfl⟩ (.cons ⟨_,rfl⟩ (.cons ⟨_,rfl⟩ .nil)))⟩;have jT:∀H:Hp,bH K H jn [.str "&", .str "^", .str "|"]:=λH=>.inr ⟨_,_,_,jL,rfl,rfl,gU,.cons ⟨_,rfl⟩ (.cons ⟨_,rfl⟩ (.cons ⟨_,rfl⟩ .nil))⟩
 have kdo:nsOkIn K kd=true:=by
  unfold nsOkIn;rw[kdl];exact kde
 have hG:=MG vG;have hM:=MG vM;have hL:=MG vL;have hR:=MG vR;have M:J5 mg (λi=>([e0,e1,e2,e3,e4,e5,e6,e7,e8,e9,iu]:List Xd).getD i 0):=⟨MG aX0,MG aX1,MG aX2,MG aX3,MG aX4,MG aX5,MG aX6,MG aX7,MG aX8,MG aX9,MG aX10,MN z_VE⟩;have EX:LP K mg (λi=>([e0,e1,e2,e3,e4,e5,e6,e7,e8,e9,iu]:List Xd).getD i 0) cM:=⟨MG aM,xm,xc0,xc1,xc2,xc3⟩;have EPB:=y5.pl qc rfl qn qt;have EFT:=XL.fl (j:=2) y2 qc rfl qn qt;have Fin:=fun_mk (st:=CM) lin cin kin;have e:=hfa.symm.trans (MG ala);cases e;have Fla:FunC K "law" "law" BR fz (fO "law" "law" BR .none kVla dcla pmla anla (.ref c) ctla) c:=⟨⟨_,_,_,_,_,_,_,_,rfl,lla,cla⟩⟩;have Fei:FunD K "__init__" "MarkError.__init__" BA fei _:=⟨⟨_,_,_,_,_,_,_,_,_,_,rfl,lei,cei⟩⟩;obtain⟨fwh,dwh,awh,Fwh⟩:=hwh;have bwh:=gF (p1 := "thing") Fwh λ_ _ _ _ _ _ _=>rfl;obtain⟨fnm,dnm,anm,Fnm⟩:=hnm;have bnm:=gF (p1 := "thing") Fnm λ_ _ _ _ _ _ _=>rfl;obtain⟨fuo,duo,auo,Fuo⟩:=huo;have buo:=gF (p1 := "numbers") Fuo λ_ _ _ _ _ _ _=>rfl;obtain⟨fnx,dnx,anx,Fnx⟩:=hnx;have bnx:=gF (p1 := "numbers") Fnx λ_ _ _ _ _ _ _=>rfl;obtain⟨foo,doo,aoo,Foo⟩:=hoo;have boo:=gc (p1 := "thing") (p2 := "names") Foo λ_ _ _ _ _ _ _ _=>rfl;obtain⟨fno,dno,ano,Fno⟩:=hno;have bno:=gc (p1 := "parts") (p2 := "ahead") Fno λ_ _ _ _ _ _ _ _=>rfl;obtain⟨fth,dth,ath,Fth⟩:=hth;have bth:=gc (p1 := "thing") (p2 := "ahead") Fth λ_ _ _ _ _ _ _ _=>rfl;obtain⟨fro,dro,aro,Fro⟩:=hro;have bro:=gc (p1 := "row") (p2 := "ahead") Fro λ_ _ _ _ _ _ _ _=>rfl;obtain⟨fnb,dnb,anb,Fnb⟩:=hnb;have bnb:=gF (p1 := "rows") Fnb λ_ _ _ _ _ _ _=>rfl;obtain⟨ffi,dfi,afi,Ffi⟩:=hfi;have bfi:=gF (p1 := "numbers") Ffi λ_ _ _ _ _ _ _=>rfl;obtain⟨fmK,dmK,amK,imK,omK,FmK⟩:=hmK;have bmK:=gF (p1 := "self") FmK λ_ _ _ _ _ _ _=>rfl;obtain⟨fmT,dmT,amT,imT,omT,FmT⟩:=hmT;have bmT:=gF (p1 := "self") FmT λ_ _ _ _ _ _ _=>rfl;obtain⟨flc,dlc,alc,Flc⟩:=hlc;have blc:=gc (p1 := "_law_script") (p2 := "_law_k") Flc λ_ _ _ _ _ _ _ _=>rfl;obtain⟨fld,dld,ald,Fld⟩:=hld;have bld:=gc (p1 := "_law_cell_here") (p2 := "_law_k") Fld λ_ _ _ _ _ _ _ _=>rfl;obtain⟨flr,dlr,alr,Flr⟩:=hlr;have blr:=gc (p1 := "_law_dice") (p2 := "_law_many") Flr λ_ _ _ _ _ _ _ _=>rfl;obtain⟨fls,dls,als,Fls⟩:=hls;have bls:=gc (p1 := "_law_script") (p2 := "_law_most") Fls λ_ _ _ _ _ _ _ _=>rfl;obtain⟨fll,dll,all,Fll⟩:=hll;have bll:=gc (p1 := "_law_dice") (p2 := "_law_most") Fll λ_ _ _ _ _ _ _ _=>rfl;obtain⟨fxn,dxn,axn,Fxn⟩:=hxn;have bxn:=gF (p1 := "thing") Fxn λ_ _ _ _ _ _ _=>rfl;obtain⟨fxr,dxr,axr,Fxr⟩:=hxr;have bxr:=gc (p1 := "kind") (p2 := "number") Fxr λ_ _ _ _ _ _ _ _=>rfl;obtain⟨fxi,dxi,axi,ixi,oxi,Fxi⟩:=hxi;have bxi:=jz (p1 := "self") (p2 := "kind") (p3 := "number") Fxi λ_ _ _ _ _ _ _ _ _=>rfl;obtain⟨fxN,dxN,axN,ib,oxN,FxN⟩:=hxN;have bxN:=gF (p1 := "self") FxN λ_ _ _ _ _ _ _=>rfl;obtain⟨fgl,dgl,agl,Fgl⟩:=hgl;have bgl:=gF (p1 := "thing") Fgl λ_ _ _ _ _ _ _=>rfl;obtain⟨fgi,dgi,agi,Fgi⟩:=hgi;have bgi:=gF (p1 := "steps") Fgi λ_ _ _ _ _ _ _=>rfl;obtain⟨fdS,ddS,adS,idS,odS,FdS⟩:=hdS;have bdS:=gc (p1 := "self") (p2 := "binding") FdS λ_ _ _ _ _ _ _ _=>rfl;obtain⟨fdP,ddP,adP,idP,odP,FdP⟩:=hdP;have bdP:=gc (p1 := "self") (p2 := "part") FdP λ_ _ _ _ _ _ _ _=>rfl;obtain⟨fdB,ddB,adB,idB,odB,FdB⟩:=hdB;have bdB:=gc (p1 := "self") (p2 := "sign") FdB λ_ _ _ _ _ _ _ _=>rfl;obtain⟨fdA,ddA,adA,idA,odA,FdA⟩:=hdA;have bdA:=gc (p1 := "self") (p2 := "sign") FdA λ_ _ _ _ _ _ _ _=>rfl;obtain⟨fdC,ddC,adC,idC,odC,FdC⟩:=hdC;have bdC:=gF (p1 := "self") FdC λ_ _ _ _ _ _ _=>rfl;obtain⟨fdG,ddG,adG,idG,odG,FdG⟩:=hdG;have bdG:=gc (p1 := "self") (p2 := "sign") FdG λ_ _ _ _ _ _ _ _=>rfl;obtain⟨fdN,ddN,adN,idN,odN,FdN⟩:=hdN;have bdN:=gF (p1 := "self") FdN λ_ _ _ _ _ _ _=>rfl;obtain⟨fgj,dgj,agj,Fgj⟩:=hgj;have bgj:=jz (p1 := "sign") (p2 := "one") (p3 := "other") Fgj λ_ _ _ _ _ _ _ _ _=>rfl;obtain⟨fxQ,dxQ,axQ,ixQ,oxQ,FxQ⟩:=hxQ;have bxQ:=gc (p1 := "self") (p2 := "other") FxQ λ_ _ _ _ _ _ _ _=>rfl;obtain⟨fpl,dpl,apl,Fpl⟩:=hpl;have bpl:=gc (p1 := "_law_text") (p2 := "_law_is_lettered") Fpl λ_ _ _ _ _ _ _ _=>rfl;obtain⟨fmN,dmN,amN,imN,omN,FmN⟩:=hmN;have bmN:=gc (p1 := "self") (p2 := "name") FmN λ_ _ _ _ _ _ _ _=>rfl;obtain⟨fgf,dgf,agf,Fgf⟩:=hgf;have bgf:=gF (p1 := "text") Fgf λ_ _ _ _ _ _ _=>rfl;obtain⟨fgp,dgp,agp,Fgp⟩:=hgp;have bgp:=gc (p1 := "text") (p2 := "lettered") Fgp λ_ _ _ _ _ _ _ _=>rfl;obtain⟨fge,dge,age,Fge⟩:=hge;have bge:=jz (p1 := "text") (p2 := "at") (p3 := "lettered") Fge λ_ _ _ _ _ _ _ _ _=>rfl;obtain⟨fgn,dgn,agn,Fgn⟩:=hgn;have bgn:=jz (p1 := "kind") (p2 := "part") (p3 := "table") Fgn λ_ _ _ _ _ _ _ _ _=>rfl;obtain⟨fgo,dgo,ago,Fgo⟩:=hgo;have bgo:=jz (p1 := "kind") (p2 := "steps") (p3 := "table") Fgo λ_ _ _ _ _ _ _ _ _=>rfl;obtain⟨fdI,ddI,adI,idI,odI,FdI⟩:=hdI;have bdI:=gF (p1 := "self") FdI λ_ _ _ _ _ _ _=>rfl;obtain⟨fti,dti,ati,iti,oti,Fti⟩:=hti;have bti:=gc (p1 := "self") (p2 := "at") Fti λ_ _ _ _ _ _ _ _=>rfl;obtain⟨fle,dle,ale,Fle⟩:=hle;have ble:=bi4 (p1 := "_law_dice") (p2 := "_law_words") (p3 := "_law_signs") (p4 := "_law_deep") Fle λ_ _ _ _ _ _ _ _ _ _=>rfl;obtain⟨flp,dlp,alp,Flp⟩:=hlp;have blp:=jz (p1 := "_law_dice") (p2 := "_law_tree_here") (p3 := "_law_rank") Flp λ_ _ _ _ _ _ _ _ _=>rfl;obtain⟨flf,dlf,alf,Flf⟩:=hlf;have blf:=jz (p1 := "_law_dice") (p2 := "_law_words") (p3 := "_law_signs") Flf λ_ _ _ _ _ _ _ _ _=>rfl;obtain⟨flw,dlw,alw,Flw⟩:=hlw;have blw:=gF (p1 := "_law_e") Flw λ_ _ _ _ _ _ _=>rfl;obtain⟨flo,dlo,alo,Flo⟩:=hlo;have blo:=gF (p1 := "_law_deed") Flo λ_ _ _ _ _ _ _=>rfl;obtain⟨frk,drk,ark,Frk⟩:=hrk;have brk:=jz (p1 := "kind") (p2 := "text") (p3 := "table") Frk λ_ _ _ _ _ _ _ _ _=>rfl;obtain⟨fra,dra,ara,Fra⟩:=hra;have bra:=gF (p1 := "text") Fra λ_ _ _ _ _ _ _=>rfl;obtain⟨fre,dre,are,Fre⟩:=hre;have bre:=gc (p1 := "kind") (p2 := "text") Fre λ_ _ _ _ _ _ _ _=>rfl;obtain⟨fal,dal,aal,Fal⟩:=hal;have bal:=jz (p1 := "kind") (p2 := "one") (p3 := "other") Fal λ_ _ _ _ _ _ _ _ _=>rfl;obtain⟨fmd,dmd,amd,Fmd⟩:=hmd;have bmd:=gc (p1 := "kind") (p2 := "number") Fmd λ_ _ _ _ _ _ _ _=>rfl;refine⟨fO "law" "law" BR .none kVla dcla pmla anla (.ref c) ctla,λs v=>.of_eq Zj,λbase _ _ hC hBu=>?_⟩;have FT:=@fnT l.prog w K mg base;have MT:=@mtT l.prog w K mg base;have Gwh:=FT (sp:=spIsWhole) Fwh (LU Fwh B) (MG awh) bwh;have Gnm:=FT (sp:=spIsName) Fnm (Ou Fnm B hL) (MG anm) bnm;have Guo:=FT (sp:=(spUnionOf K)) Fuo (Mu Fuo) (MG auo) buo;have Gnx:=FT (sp:=(spNextMark K)) Fnx (K9 Fnx B) (MG anx) bnx;have Goo:=FT (sp:=(DR K)) Foo (My Foo B) (MG aoo) boo;have Gno:=FT (sp:=spIsNamesOf) Fno (J1 Fno B Goo) (MG ano) bno;have Gth:=FT (sp:=spThing) Fth (QO Fth B Gnx Gno Guo Gwh) (MG ath) bth;have Gro:=FT (sp:=spRow) Fro (UK Fro B hG Gnm Gth) (MG aro) bro;have Gnb:=FT (sp:=spNumbered) Fnb (LD Fnb B hM Gro) (MG anb) bnb;have Gfi:=FT (sp:=spFirsts) Ffi (O1 Ffi) (MG afi) bfi;have GmK:=MT (sp:=(spKnown C)) amK imK FmK (QV FmK B T Guo) bmK;have GmT:=MT (sp:=(spRest C)) amT imT FmT (SR FmT T) bmT;have Glc:=FT (sp:=(spCell K)) Flc (SJ Flc B) (MG alc) blc;have Gld:=FT (sp:=spDrawn) Fld (QX Fld) (MG ald) bld;have Glr:=FT (sp:=d8) Flr (SK Flr Gld) (MG alr) blr;have Gls:=FT (sp:=(spRounds K)) Fls (O3 Fls B Glc) (MG als) bls;have Gll:=FT (sp:=spLines) Fll (Qf Fll B Glr) (MG all) bll;have Gxn:=FT (sp:=spIsNumber) Fxn (J6 Fxn hLi (FT (sp:=EG K) Fwh (Gf Fwh B) (MG awh) bwh)) (MG axn) bxn;have Gxr:=FT (sp:=(spRestOf C)) Fxr (O7 Fxr T GmK) (MG axr) bxr;have Gxi:=MT (sp:=(spVInit C VC)) axi ixi Fxi (LM Fxi T VT Gxn Gxr GmT) bxi;have GxN:=MT (sp:=(spVNumber VC)) axN ib FxN (M9 FxN VT) bxN;have Ggl:=FT (sp:=(spLet K)) Fgl (Ua Fgl B) (MG agl) bgl;have Ggi:=FT (sp:=spLi) Fgi (V6 Fgi B Ggl) (MG agi) bgi;have GdS:=MT (sp:=(spSet DC bd)) adS idS FdS (Ue FdS B DT (MG vBD)) bdS;have GdP:=MT (sp:=(spTP DC)) adP idP FdP (Vq FdP DT) bdP;have GdB:=MT (sp:=(spTB DC bd)) adB idB FdB (Vv FdB DT (MG vBD) (MG vJN) jT GdS) bdB;have GdA:=MT (sp:=(spTA DC)) adA idA FdA (Vw FdA DT) bdA;have GdC:=MT (sp:=(spTC DC bd)) adC idC FdC (Vx FdC B DT (MG vLB) GdS) bdC;have GdG:=MT (sp:=(spTS DC bd)) adG idG FdG (Vy FdG DT GdB GdA GdC) bdG;have GdN:=MT (sp:=(spEnds DC bd)) adN idN FdN (Sf FdN B DT (MG vLB) GdS) bdN;have Ggj:=FT (sp:=spJn) Fgj (V1 Fgj) (MG agj) bgj;have GxQ:=MT (sp:=(spVEqT VC)) axQ ixQ FxQ (Su FxQ B VT vT mVg) bxQ;have Gpl:=FT (sp:=Uu) Fpl (WJ Fpl B) (MG apl) bpl;have GW:jU l.prog w K mg base "_law_word" 1 ["_law_e"] (Ci K (λi=>([e0,e1,e2,e3,e4,e5,e6,e7,e8,e9,iu]:List Xd).getD i 0)):=⟨⟨_,_,SW Flw B M,MG alw,Flw.kp,blw⟩⟩;have ME:Vl l.prog w K mg base cM:=⟨MG aM,xmg,xmr,⟨_,_,xmf,II Fei (MN z_VE),kei,Tb dtl⟩⟩;have EO5:TK l.prog w K mg base "BadName" e5:=⟨MG aX5,⟨_,_,⟨y5.F.cx,y5.i,iei,⟨_,lei,rfl⟩,y5.F.ke⟩,II Fei (MN z_VE),Tb dtl⟩⟩;have KO:RB l.prog w K mg base C:=⟨T,mCg,⟨_,_,⟨fC.mz,ain,iin,fC.kc⟩,SH Fin B T hR rT Gnb Gfi Goo,_,Sw⟩⟩;have VO:TJ l.prog w K mg base C VC:=⟨VT,mVg,⟨_,_,⟨fVC.mz,axi,ixi,fVC.kc⟩,LM Fxi T VT Gxn Gxr GmT,bxi⟩⟩;have GwX:=FT (sp:=EG K) Fwh (Gf Fwh B) (MG awh) bwh;have GnG:=FT (sp:=ND K) Fxn (Nx Fxn hLi GwX) (MG axn) bxn;have Ggf:=FT (sp:=spFig) Fgf (UZ Fgf B GnG) (MG agf) bgf;have Ggp:=FT (sp:=spPart) Fgp (Sb Fgp Gnm Ggf Ggl) (MG agp) bgp;have Gge:=FT (sp:=spPE) Fge (Sc Fge B Ggp) (MG age) bge;have TX:Nw l.prog w K mg base cM e2:=⟨MG aX2,⟨_,_,⟨xc2,ati,iti,oti,y2.F.ke⟩,LQ Fti ME,bti⟩,Sy y2.s y2.gn y2.gs⟩;have RD:Vz l.prog w K mg base DC bd:=⟨DT,MG aDC,⟨_,_,⟨fDC.mz,adI,idI,fDC.kc⟩,Uc FdI DT,bdI⟩,GdP,GdG,GdN⟩;have Fst:=fun_mk (st:=Bc) lst cst kst
 have k2o:nsOkIn K k2=true:=by
  unfold nsOkIn;rw[k2l];exact k2e
 have SO:Qs l.prog w K mg base DC bd e2:=⟨⟨_,_,V0 Fst B RD TX Gge,MG ast,kst,⟨_,Sx k2o k2n,.cons rfl .nil⟩,_,RC⟩⟩;have GmN:V3 l.prog w K mg base C "number" 3 ["self", "name"] (spKN C e5):=⟨⟨_,_,V2 FmN T EO5 Goo,⟨amN,imN,FmN.kp⟩,bmN⟩⟩;have Ggn:iL l.prog w K mg base "part_number" 4 ["kind", "part", "table"] (spPN C e5):=⟨⟨_,_,V4 Fgn B T Ggl Gnm GmN,MG agn,Fgn.kp,bgn⟩⟩;have Ggo:iL l.prog w K mg base "number_of" 5 ["kind", "steps", "table"] (spNo C e5):=⟨⟨_,_,V5 Fgo T (MG vJN) jT GmK Ggj Ggn,MG ago,Fgo.kp,bgo⟩⟩;have Gle:Fn l.prog w K mg base "_law_tree" 6 IN (spTree 3):=⟨⟨_,_,N4 Fle B (MG ale) ble Glr 3,MG ale,Fle.kp,ble⟩⟩;have Glp:Fn l.prog w K mg base "_law_written" 6 NG (spWrt 3):=⟨⟨_,_,Qy Flp B (MG alp) blp Glr 3,MG alp,Flp.kp,blp⟩⟩;have Glf:Fn l.prog w K mg base "_law_formula" 7 N6 spForm:=⟨⟨_,_,Sl Flf B Gle Glp,MG alf,Flf.kp,blf⟩⟩;have Gmd:=FT (sp:=NB C VC) Fmd (Sa Fmd hLi T VO Gwh Gxr GmT) (MG amd) bmd;have Gre:iL l.prog w K mg base "read" 7 ["kind", "text"] (dG K C VC e5 bd e2):=⟨⟨_,_,So Fre SO Ggo Gmd,MG are,Fre.kp,bre⟩⟩;have Gra:iL l.prog w K mg base "letters" 7 ["text"] (gM K bd e2):=⟨⟨_,_,V7 Fra SO Ggi,MG ara,Fra.kp,bra⟩⟩;have Grk:iL l.prog w K mg base "reckoned" 7 ["kind", "text", "table"] (spRkN K e2):=⟨⟨_,_,Ur Frk SO,MG ark,Frk.kp,brk⟩⟩;have Gal:iL l.prog w K mg base "alike" 7 ["kind", "one", "other"] (spAlN K bd e2):=⟨⟨_,_,Us Fal SO,MG aal,Fal.kp,bal⟩⟩;exact U9 Fla Flo (MG alo) blo hC hBu B KO M EX GW EFT EPB fVC.qt fVC.ne VI mVg Gls Gll Glr Glf Gpl Gre Gra Grk Gal GxQ
def walk {l:OpenLaw}{q:Program}{loose:Xa}{XP:(Str->Option Value)->Heap->Prop}{YP:World->Heap->Prop}{d:DefRec}{K:Params->Frag}{c P0 bd:Xd}{dl:List DcE}{ep:Nat} (hn:l.most=some 63) (hdf:d.params.defaults=[]) (hb5:5<=bd) (hdl:dl.length<=1000) (gE:(dl.map (·.1)).Nodup) (he:gS dl=Bd)
  (hY:∀(w:World) (h:Heap),YP w h->(K w.params).In h/\h.get? P0=some (tabObj #[])/\(K w.params).lookup P0=none/\CodeHd h c P0/\h.get? bd=some (dcObj w.params dl ep)/\(K w.params).lookup bd=none)
  (F:∀(w:World) (mg:SV) (fa:Xd) (h:Heap),(K w.params).In h->h.Ns mainGlobals mg->mg d.name=some (.ref fa) ->
   ∃fd:FuncData,(∀(s:Xe) (u:Value),BindsTo s fd ⟨[u],[]⟩ [("_law_script", u)])/\∀base:Heap,(K w.params).In base->base.Ns mainGlobals mg->CodeHd base c P0->base.BuiltinsAt mg P0->AU l.prog w (K w.params) mg base aK 10 fa fd ["_law_script"] (spLaw (K w.params) P0 bd)) :
  WalkO q loose XP YP l.row.toRowW d [] (λf vs=>PySem.call f vs) :=
 L2.Ol (n:=63) (k:=10) (x := "_law_script") (CX:=λ_=>aK) (sp:=λw=>spLaw (K w.params) P0 bd) hn qc hdf ⟨rfl,qc,qc⟩ hb5 hdl gE hY F
  (λ_ _ a ns hl hP hB hS=>⟨a,ns,rfl,hS,hl,⟨#[],hP,trivial,λ_ _=>.inl rfl⟩,he ▸ hB,λ_=>rfl⟩) λ_ _ _ _ _ z=>z
end Mk
end
section
namespace Hd
open PySem PySem.W PySem.Calls PyProof.Rows
def runT (tb:String->Option Builtin) (p:Program) (w:World) (n₀:Nat) (ann:Option Value):Nat->SharedT->Thread->Option SharedT
 |0,_,_=>none
 |n + 1,s,t=>match through t with
  |true=>some s
  |false=>match stepOk n₀ ann t with
   |false=>none
   |true=>match stepT (denote tb) p w s t with
    |some (s',t')=>runT tb p w n₀ ann n s' t'
    |none=>none
theorem runT_of {tb:String->Option Builtin}{p:Program}{w:World}{n₀:Nat}{ann:Option Value}:∀ {n:Nat}{s s':SharedT}{t:Thread},runT tb p w n₀ ann n s t=some s'->topRun tb p w n₀ ann n s.abs t=some s'.abs
 |0,_,_,_,h=>by cases h
 |n + 1,s,s',t,h=>by
  unfold runT at h
  unfold topRun
  cases ht:through t with
  |true=>rw[ht]at h;cases h;rfl
  |false=>
   rw[ht]at h
   cases hk:stepOk n₀ ann t with
   |false=>rw[hk]at h;cases h
   |true=>
    rw[hk]at h
    cases hs:stepT (denote tb) p w s t with
    |none=>rw[hs]at h;cases h
    |some r=>obtain⟨s₂,t₂⟩:=r;rw[hs]at h;rw[stepT_spec hs];exact runT_of h
def looksAt (p q:Program) (loose:List Str) (Xt:Shared->Bool) (as:List Addr) (h₀:Heap) (s:Shared):=
 (staticsOk (importedModules p.main.body) h₀ s.heap&&namesBound p s.heap&&gensDone s&&laidKept h₀ s.heap,openSeen q loose (importedModules p.main.body) Xt true s,as.map s.heap.get?)
theorem left_of {p q:Program}{loose:List Str}{Xt:Shared->Bool}{as:List Addr}{K:Params->Frag}{N M m₀:Nat}{ann:Option Value}{T0:Params->BT}{life:Life}
  (open_:∀w:World,(fencedOpening treeTable p w N).map (fun s=>(s.heap,s.gens,s.drawn,s.toks))=some (boot_heap w.params,#[],boot_drawn,boot_toks))
  (tree:∀P:Params,absHeap (T0 P) m₀ life=boot_heap P)
  (size:∀w:World,((boot_heap w.params).isNs mainGlobals,(boot_heap w.params).objs.size,(boot_heap w.params).nsMap mainGlobals "__annotations__")=(true,m₀,ann))
  (le:Nat.ble M N=true)
  (run:∀(w:World) (os:OsState),(runT treeTable p w m₀ ann M ⟨T0 w.params,m₀,life,#[],boot_drawn,boot_toks,os⟩ (topStub p)).map (fun s=>looksAt p q loose Xt as (boot_heap w.params) s.abs)=some (true,openGood q loose,(K w.params).map fun x=>some x.2)) :
  LeftO p q loose Xt (fun s=>as.map s.heap.get?) (fun w=>(K w.params).map fun x=>some x.2) N:=fun w=>by
 obtain⟨⟨h,gs,d,k,os⟩,e,e'⟩:=Option.map_eq_some_iff.mp (open_ w)
 obtain⟨rfl,rfl,rfl,rfl⟩:h=boot_heap w.params /\ gs=#[] /\ d=boot_drawn /\ k=boot_toks:=by simpa using e'
 obtain⟨z1,z2,z3⟩:_ /\ _ /\ _:=by simpa only[Prod.mk.injEq]using size w
 obtain⟨sT,r1,r2⟩:=Option.map_eq_some_iff.mp (run w os)
 have r3:=runT_of r1
 have r4:topRun treeTable p w m₀ ann M ⟨boot_heap w.params,#[],boot_drawn,boot_toks,os⟩ (topStub p)=some sT.abs:=by
  rw[←tree w.params]
  exact r3
 have r:=topRun_mono (N - M) _ _ _ _ r4
 rw[show M + (N - M)=N by have:=Nat.le_of_ble_eq_true le;omega]at r
 unfold looksAt at r2
 obtain⟨l1,l2,l3⟩:_ /\ _ /\ _:=by simpa only[Prod.mk.injEq]using r2
 have t:topFrom treeTable p w N ⟨boot_heap w.params,#[],boot_drawn,boot_toks,os⟩=some sT.abs:=by
  unfold topFrom
  dsimp only
  rw[z1,z2,z3,r]
  show(match staticsOk (importedModules p.main.body) (boot_heap w.params) sT.abs.heap&&namesBound p sT.abs.heap&&gensDone sT.abs&&laidKept (boot_heap w.params) sT.abs.heap with |true=>_ |false=>_)=_
  rw[l1]
 unfold openEnds
 rw[e]
 show(topFrom treeTable p w N _).map _=_
 rw[t]
 exact congrArg some (Prod.ext l2 l3)
end Hd
end
noncomputable section
open PySem PySem.W PySem.Calls PyProof.Rows
abbrev Mk.fS (x q:Str) (s:Stmt) (dV kV doc pm:Value) (an:Option Addr) (cd ct:Value):FuncData:=fnOf x q (L2.defArgs s) (L2.defBody s) (L2.defScope s) dV kV doc pm an cd ct
abbrev Xj (x:Str) (a:Nat) (q:Str) (b c:Nat) (d e f g h:Int) (i j l m n:Nat) (o p:Int) (r:Nat):Obj:=⟨.type "code", none,.fields #[.str x a,.str q b,.str "/claim/cut.py" c,.int d 0,.int e 0,.int f 0,.int g 0,.int h 0,.ref i,.bool true,.int 181 0,.ref j,.none,.ref l,.ref m,.ref n,.int o 0,.int p 0,.str "/claim/cut.py" r],#[]⟩
abbrev Xq (P:PySem.Params) (x:Str) (t:Nat) (v:Value):DictEntry:=⟨PyData.keyHash P x,.str x t,v⟩
abbrev Mk.fN (x q:Str) (s:Stmt) (m:Str) (t c:Nat):Obj:=⟨.type "function", none,.func (Mk.fS x q s .none .none .none (.str m t) none (.ref c) .none),#[]⟩
abbrev Mk.eC (x:Str) (a b c d e f:Nat):Obj:=⟨.type "type", none,.cls ⟨x,[.ref a],[.ref b,.ref a,.type "ValueError", .type "Exception", .type "BaseException", .type "object"],c,x,true,[],[],false,none,false⟩,#[some (.ref d),none,some (.str x e),some (.str x f),some (.builtin "ValueError.__new__"),some (.bool true)]⟩
noncomputable def Mk.Kg (P:PySem.Params):PySem.W.Frag:=
 (nat_lit 2,⟨.none,none,(.dict #[] 0),#[]⟩)::(nat_lit 3,⟨.type "dict",none,(.dict #[Xq P "__name__" 165 (.str "law_markworks_k32_formulas_refused" 980),Xq P "__doc__" 166 .none,Xq P "__package__" 167 .none,Xq P "__loader__" 168 (.builtin "__main__.__loader__#opaque"),Xq P "__spec__" 169 .none,Xq P "__annotations__" 170 (.ref 6),Xq P "__builtins__" 171 (.ref 4),Xq P "__file__" 173 (.str "/claim/cut.py" 172),Xq P "__cached__" 174 .none,Xq P "MarkError" 215 (.ref 32),Xq P "BadRows" 240 (.ref 52),Xq P "BadRule" 256 (.ref 64),Xq P "BadName" 272 (.ref 76),Xq P "BadNumber" 288 (.ref 88),Xq P "BadRest" 313 (.ref 107),Xq P "Unlike" 329 (.ref 119),Xq P "BadText" 354 (.ref 138),Xq P "BadPairs" 370 (.ref 150),Xq P "Never" 386 (.ref 162),Xq P "Unled" 411 (.ref 181),Xq P "Nothing" 427 (.ref 193),Xq P "GREATEST" 435 (.int 1048575 434),Xq P "MOST_ROWS" 437 (.int 10 436),Xq P "LONGEST_NAME" 439 (.int 6 438),Xq P "RULES" 444 (.ref 196),Xq P "is_whole" 451 (.ref 203),Xq P "is_name" 457 (.ref 208),Xq P "is_mark" 464 (.ref 215),Xq P "union_of" 473 (.ref 222),Xq P "is_one_of" 481 (.ref 229),Xq P "mark_bits" 487 (.ref 234),Xq P "next_mark" 494 (.ref 241),Xq P "is_names_of" 500 (.ref 246),Xq P "thing_number" 506 (.ref 251),Xq P "row_number" 517 (.ref 258),Xq P "numbered" 528 (.ref 265),Xq P "first_names" 538 (.ref 272),Xq P "Kind" 636 (.ref 349),Xq P "LIMIT" 642 (.int 1099511627776 641),Xq P "is_number" 649 (.ref 360),Xq P "rest_of" 657 (.ref 367),Xq P "Value" 731 (.ref 424),Xq P "made" 741 (.ref 435),Xq P "JOINING" 747 (.ref 436),Xq P "BINDING" 763 (.ref 437),Xq P "LEAST_BINDING" 765 (.int 1 764),Xq P "is_letter" 772 (.ref 444),Xq P "is_figures" 778 (.ref 449),Xq P "is_part" 786 (.ref 456),Xq P "part_end" 796 (.ref 463),Xq P "Reading" 880 (.ref 529),Xq P "steps_of" 892 (.ref 541),Xq P "letters_in" 898 (.ref 546),Xq P "joined" 907 (.ref 553),Xq P "part_number" 916 (.ref 560),Xq P "number_of" 928 (.ref 567),Xq P "is_table" 936 (.ref 572),Xq P "reckoned" 942 (.ref 577),Xq P "letters" 949 (.ref 584),Xq P "extreme_table" 955 (.ref 589),Xq P "alike" 969 (.ref 596),Xq P "read" 979 (.ref 603),Xq P "_law_cell" 989 (.ref 610),Xq P "_law_drawn" 998 (.ref 617),Xq P "_law_roll" 1007 (.ref 624),Xq P "_law_rounds" 1013 (.ref 629),Xq P "_law_word" 1019 (.ref 634),Xq P "_law_told" 1027 (.ref 641),Xq P "_law_lines" 1033 (.ref 646),Xq P "_law_tree" 1045 (.ref 653),Xq P "_law_written" 1057 (.ref 660),Xq P "_law_formula" 1068 (.ref 667),Xq P "_law_place" 1081 (.ref 674),Xq P "law" 1087 (.ref 679)] 74),#[]⟩)::(nat_lit 22,⟨.type "tuple",none,(.seq #[(.str "" 201)] 0),#[]⟩)::(nat_lit 28,Xj "__init__" 202 "MarkError.__init__" 203 204 4 2 0 0 3 23 24 25 26 27 207 4 208)::(nat_lit 29,⟨.type "function",none,(.func (Mk.fS "__init__" "MarkError.__init__" (L2.inClass (Mk.top 1) 0) (.ref 22) .none .none (.str "markworks.errors" 187) none (.ref 28) .none)),#[]⟩)::(nat_lit 31,⟨.type "dict",none,(.dict #[Xq P "__module__" 196 (.str "markworks.errors" 187),Xq P "__firstlineno__" 200 (.int 2 199),Xq P "__init__" 209 (.ref 29),Xq P "__static_attributes__" 210 (.ref 30),Xq P "__weakref__" 212 (.ref 33),Xq P "__doc__" 213 .none] 3),#[]⟩)::(nat_lit 32,⟨.type "type",none,(.cls ⟨"MarkError", [(.type "ValueError")],[(.ref 32),(.type "ValueError"),(.type "Exception"),(.type "BaseException"),(.type "object")],31, "MarkError", true,[],[(.ref 52),(.ref 64),(.ref 76),(.ref 88),(.ref 107),(.ref 119),(.ref 138),(.ref 150),(.ref 162),(.ref 181),(.ref 193)],false,none,false⟩),#[(some (.ref 15)),none,(some (.str "MarkError" 189)),(some (.str "MarkError" 197)),(some (.builtin "ValueError.__new__")),(some (.bool true))]⟩)::(nat_lit 52,Mk.eC "BadRows" 32 52 51 36 216 224)::(nat_lit 64,Mk.eC "BadRule" 32 64 63 55 241 249)::(nat_lit 75,⟨.type "dict",none,(.dict #[Xq P "__module__" 264 (.str "markworks.errors" 187),Xq P "__firstlineno__" 268 (.int 13 267),Xq P "__static_attributes__" 269 (.ref 74),Xq P "__doc__" 270 .none] 2),#[]⟩)::(nat_lit 76,Mk.eC "BadName" 32 76 75 67 257 265)::(nat_lit 88,Mk.eC "BadNumber" 32 88 87 79 273 281)::(nat_lit 107,Mk.eC "BadRest" 32 107 106 91 289 297)::(nat_lit 119,Mk.eC "Unlike" 32 119 118 110 314 322)::(nat_lit 134,Xj "__init__" 342 "BadText.__init__" 343 344 26 2 0 0 3 129 130 131 132 133 347 26 348)::(nat_lit 135,Mk.fN "__init__" "BadText.__init__" (L2.inClass (Mk.top 8) 0) "markworks.errors" 187 134)::(nat_lit 137,⟨.type "dict",none,(.dict #[Xq P "__module__" 337 (.str "markworks.errors" 187),Xq P "__firstlineno__" 341 (.int 24 340),Xq P "__init__" 349 (.ref 135),Xq P "__static_attributes__" 351 (.ref 136),Xq P "__doc__" 352 .none] 2),#[]⟩)::(nat_lit 138,Mk.eC "BadText" 32 138 137 122 330 338)::(nat_lit 150,Mk.eC "BadPairs" 32 150 149 141 355 363)::(nat_lit 162,Mk.eC "Never" 32 162 161 153 371 379)::(nat_lit 181,Mk.eC "Unled" 32 181 180 165 387 395)::(nat_lit 193,Mk.eC "Nothing" 32 193 192 184 412 420)::(nat_lit 196,⟨.type "tuple",none,(.seq #[(.str "bar" 440),(.str "drop" 441),(.str "keep" 442),(.str "leave" 443)] 0),#[]⟩)::(nat_lit 202,Xj "is_whole" 445 "is_whole" 446 447 45 1 0 0 3 197 198 199 200 201 449 45 450)::(nat_lit 203,Mk.fN "is_whole" "is_whole" (Mk.top 18) "markworks.kinds" 428 202)::(nat_lit 207,⟨.type "code",none,(.fields #[(.str "is_name" 452),(.str "is_name" 453),(.str "/claim/cut.py" 454),(.int 47 0),(.int 1 0),(.int 0 0),(.int 0 0),(.int 3 0),(.ref 204),(.bool true),(.int 181 0),(.ref 205),.none,.none,.none,(.ref 206),(.int 455 0),(.int 47 0),(.str "/claim/cut.py" 456)]),#[]⟩)::(nat_lit 208,Mk.fN "is_name" "is_name" (Mk.top 19) "markworks.kinds" 428 207)::(nat_lit 221,Xj "union_of" 465 "union_of" 466 467 53 1 0 0 3 216 217 218 219 220 471 53 472)::(nat_lit 222,Mk.fN "union_of" "union_of" (Mk.top 21) "markworks.kinds" 428 221)::(nat_lit 228,Xj "is_one_of" 474 "is_one_of" 475 476 58 2 0 0 3 223 224 225 226 227 479 58 480)::(nat_lit 229,Mk.fN "is_one_of" "is_one_of" (Mk.top 22) "markworks.kinds" 428 228)::(nat_lit 240,Xj "next_mark" 488 "next_mark" 489 490 62 1 0 0 3 235 236 237 238 239 492 62 493)::(nat_lit 241,Mk.fN "next_mark" "next_mark" (Mk.top 24) "markworks.kinds" 428 240)::(nat_lit 245,⟨.type "code",none,(.fields #[(.str "is_names_of" 495),(.str "is_names_of" 496),(.str "/claim/cut.py" 497),(.int 64 0),(.int 2 0),(.int 0 0),(.int 0 0),(.int 3 0),(.ref 242),(.bool true),(.int 181 0),(.ref 243),.none,.none,.none,(.ref 244),(.int 498 0),(.int 64 0),(.str "/claim/cut.py" 499)]),#[]⟩)::(nat_lit 246,Mk.fN "is_names_of" "is_names_of" (Mk.top 25) "markworks.kinds" 428 245)::(nat_lit 250,⟨.type "code",none,(.fields #[(.str "thing_number" 501),(.str "thing_number" 502),(.str "/claim/cut.py" 503),(.int 66 0),(.int 2 0),(.int 0 0),(.int 0 0),(.int 3 0),(.ref 247),(.bool true),(.int 181 0),(.ref 248),.none,.none,.none,(.ref 249),(.int 504 0),(.int 66 0),(.str "/claim/cut.py" 505)]),#[]⟩)::(nat_lit 251,Mk.fN "thing_number" "thing_number" (Mk.top 26) "markworks.kinds" 428 250)::(nat_lit 257,Xj "row_number" 507 "row_number" 508 509 74 2 0 0 3 252 253 254 255 256 515 74 516)::(nat_lit 258,Mk.fN "row_number" "row_number" (Mk.top 27) "markworks.kinds" 428 257)::(nat_lit 264,Xj "numbered" 518 "numbered" 519 520 84 1 0 0 3 259 260 261 262 263 526 84 527)::(nat_lit 265,Mk.fN "numbered" "numbered" (Mk.top 28) "markworks.kinds" 428 264)::(nat_lit 271,Xj "first_names" 529 "first_names" 530 531 94 1 0 0 3 266 267 268 269 270 536 94 537)::(nat_lit 272,Mk.fN "first_names" "first_names" (Mk.top 29) "markworks.kinds" 428 271)::(nat_lit 280,⟨.type "dict",none,(.dict #[Xq P "rest" 552 (.str "bar" 551)] 1),#[]⟩)::(nat_lit 286,Xj "__init__" 553 "Kind.__init__" 554 555 101 2 0 1 3 281 282 283 284 285 559 101 560)::(nat_lit 287,⟨.type "function",none,(.func (Mk.fS "__init__" "Kind.__init__" (L2.inClass (Mk.top 30) 0) .none (.ref 280) .none (.str "markworks.kinds" 428) none (.ref 286) .none)),#[]⟩)::(nat_lit 300,Xj "number" 569 "Kind.number" 570 571 111 2 0 0 3 295 296 297 298 299 574 111 575)::(nat_lit 301,Mk.fN "number" "Kind.number" (L2.inClass (Mk.top 30) 2) "markworks.kinds" 428 300)::(nat_lit 324,Xj "known" 596 "Kind.known" 597 598 126 1 0 0 3 319 320 321 322 323 600 126 601)::(nat_lit 325,Mk.fN "known" "Kind.known" (L2.inClass (Mk.top 30) 6) "markworks.kinds" 428 324)::(nat_lit 331,Xj "rest" 603 "Kind.rest" 604 605 129 1 0 0 3 326 327 328 329 330 607 129 608)::(nat_lit 332,Mk.fN "rest" "Kind.rest" (L2.inClass (Mk.top 30) 7) "markworks.kinds" 428 331)::(nat_lit 348,⟨.type "dict",none,(.dict #[Xq P "__module__" 546 (.str "markworks.kinds" 428),Xq P "__firstlineno__" 550 (.int 99 549),Xq P "__init__" 561 (.ref 287),Xq P "rows" 568 (.ref 294),Xq P "number" 576 (.ref 301),Xq P "names" 583 (.ref 308),Xq P "aliases" 589 (.ref 313),Xq P "marks" 595 (.ref 318),Xq P "known" 602 (.ref 325),Xq P "rest" 609 (.ref 332),Xq P "__eq__" 617 (.ref 339),Xq P "__len__" 624 (.ref 346),Xq P "__static_attributes__" 628 (.ref 347),Xq P "__dict__" 630 (.ref 350),Xq P "__weakref__" 632 (.ref 351),Xq P "__doc__" 633 .none,Xq P "__hash__" 634 .none] 5),#[]⟩)::(nat_lit 349,⟨.type "type",none,(.cls ⟨"Kind", [(.type "object")],[(.ref 349),(.type "object")],348, "Kind", true,[],[],false,none,false⟩),#[none,none,(some (.str "Kind" 539)),(some (.str "Kind" 547)),(some (.builtin "object.__new__")),(some (.bool true))]⟩)::(nat_lit 359,Xj "is_number" 643 "is_number" 644 645 139 1 0 0 3 354 355 356 357 358 647 139 648)::(nat_lit 360,Mk.fN "is_number" "is_number" (Mk.top 33) "markworks.values" 637 359)::(nat_lit 366,Xj "rest_of" 650 "rest_of" 651 652 141 2 0 0 3 361 362 363 364 365 655 141 656)::(nat_lit 367,Mk.fN "rest_of" "rest_of" (Mk.top 34) "markworks.values" 637 366)::(nat_lit 380,Xj "__init__" 670 "Value.__init__" 671 672 145 3 0 0 3 375 376 377 378 379 676 145 677)::(nat_lit 381,Mk.fN "__init__" "Value.__init__" (L2.inClass (Mk.top 35) 0) "markworks.values" 637 380)::(nat_lit 387,Xj "number" 679 "Value.number" 680 681 153 1 0 0 3 382 383 384 385 386 683 153 684)::(nat_lit 388,Mk.fN "number" "Value.number" (L2.inClass (Mk.top 35) 1) "markworks.values" 637 387)::(nat_lit 413,Xj "__eq__" 706 "Value.__eq__" 707 708 165 2 0 0 3 408 409 410 411 412 711 165 712)::(nat_lit 414,Mk.fN "__eq__" "Value.__eq__" (L2.inClass (Mk.top 35) 5) "markworks.values" 637 413)::(nat_lit 423,⟨.type "dict",none,(.dict #[Xq P "__module__" 665 (.str "markworks.values" 637),Xq P "__firstlineno__" 669 (.int 143 668),Xq P "__init__" 678 (.ref 381),Xq P "number" 685 (.ref 388),Xq P "kind" 692 (.ref 395),Xq P "marks" 698 (.ref 400),Xq P "rest" 705 (.ref 407),Xq P "__eq__" 713 (.ref 414),Xq P "__len__" 720 (.ref 421),Xq P "__static_attributes__" 723 (.ref 422),Xq P "__dict__" 725 (.ref 425),Xq P "__weakref__" 727 (.ref 426),Xq P "__doc__" 728 .none,Xq P "__hash__" 729 .none] 5),#[]⟩)::(nat_lit 424,⟨.type "type",none,(.cls ⟨"Value", [(.type "object")],[(.ref 424),(.type "object")],423, "Value", true,[],[],false,none,false⟩),#[none,none,(some (.str "Value" 658)),(some (.str "Value" 666)),(some (.builtin "object.__new__")),(some (.bool true))]⟩)::(nat_lit 434,Xj "made" 732 "made" 733 734 170 2 0 0 3 429 430 431 432 433 739 170 740)::(nat_lit 435,Mk.fN "made" "made" (Mk.top 36) "markworks.values" 637 434)::(nat_lit 436,⟨.type "tuple",none,(.seq #[(.str "&" 744),(.str "^" 745),(.str "|" 746)] 0),#[]⟩)::(nat_lit 443,Xj "is_letter" 766 "is_letter" 767 768 186 1 0 0 3 438 439 440 441 442 770 186 771)::(nat_lit 444,Mk.fN "is_letter" "is_letter" (Mk.top 41) "markworks.grammar" 742 443)::(nat_lit 448,⟨.type "code",none,(.fields #[(.str "is_figures" 773),(.str "is_figures" 774),(.str "/claim/cut.py" 775),(.int 188 0),(.int 1 0),(.int 0 0),(.int 0 0),(.int 3 0),(.ref 445),(.bool true),(.int 181 0),(.ref 446),.none,.none,.none,(.ref 447),(.int 776 0),(.int 188 0),(.str "/claim/cut.py" 777)]),#[]⟩)::(nat_lit 449,Mk.fN "is_figures" "is_figures" (Mk.top 42) "markworks.grammar" 742 448)::(nat_lit 455,Xj "is_part" 779 "is_part" 780 781 194 2 0 0 3 450 451 452 453 454 784 194 785)::(nat_lit 456,Mk.fN "is_part" "is_part" (Mk.top 43) "markworks.grammar" 742 455)::(nat_lit 462,Xj "part_end" 787 "part_end" 788 789 196 3 0 0 3 457 458 459 460 461 794 196 795)::(nat_lit 463,Mk.fN "part_end" "part_end" (Mk.top 44) "markworks.grammar" 742 462)::(nat_lit 476,Xj "__init__" 809 "Reading.__init__" 810 811 203 1 0 0 3 471 472 473 474 475 813 203 814)::(nat_lit 477,Mk.fN "__init__" "Reading.__init__" (L2.inClass (Mk.top 45) 0) "markworks.grammar" 742 476)::(nat_lit 483,Xj "take_part" 816 "Reading.take_part" 817 818 208 2 0 0 3 478 479 480 481 482 821 208 822)::(nat_lit 484,Mk.fN "take_part" "Reading.take_part" (L2.inClass (Mk.top 45) 1) "markworks.grammar" 742 483)::(nat_lit 490,Xj "take_sign" 824 "Reading.take_sign" 825 826 212 2 0 0 3 485 486 487 488 489 829 212 830)::(nat_lit 491,Mk.fN "take_sign" "Reading.take_sign" (L2.inClass (Mk.top 45) 2) "markworks.grammar" 742 490)::(nat_lit 497,Xj "take_ahead" 832 "Reading.take_ahead" 833 834 219 2 0 0 3 492 493 494 495 496 837 219 838)::(nat_lit 498,Mk.fN "take_ahead" "Reading.take_ahead" (L2.inClass (Mk.top 45) 3) "markworks.grammar" 742 497)::(nat_lit 504,Xj "take_between" 840 "Reading.take_between" 841 842 225 2 0 0 3 499 500 501 502 503 845 225 846)::(nat_lit 505,Mk.fN "take_between" "Reading.take_between" (L2.inClass (Mk.top 45) 4) "markworks.grammar" 742 504)::(nat_lit 511,Xj "take_close" 848 "Reading.take_close" 849 850 233 1 0 0 3 506 507 508 509 510 852 233 853)::(nat_lit 512,Mk.fN "take_close" "Reading.take_close" (L2.inClass (Mk.top 45) 5) "markworks.grammar" 742 511)::(nat_lit 518,Xj "settle" 855 "Reading.settle" 856 857 240 2 0 0 3 513 514 515 516 517 860 240 861)::(nat_lit 519,Mk.fN "settle" "Reading.settle" (L2.inClass (Mk.top 45) 6) "markworks.grammar" 742 518)::(nat_lit 525,Xj "ends" 863 "Reading.ends" 864 865 244 1 0 0 3 520 521 522 523 524 867 244 868)::(nat_lit 526,Mk.fN "ends" "Reading.ends" (L2.inClass (Mk.top 45) 7) "markworks.grammar" 742 525)::(nat_lit 528,⟨.type "dict",none,(.dict #[Xq P "__module__" 804 (.str "markworks.grammar" 742),Xq P "__firstlineno__" 808 (.int 201 807),Xq P "__init__" 815 (.ref 477),Xq P "take_part" 823 (.ref 484),Xq P "take_sign" 831 (.ref 491),Xq P "take_ahead" 839 (.ref 498),Xq P "take_between" 847 (.ref 505),Xq P "take_close" 854 (.ref 512),Xq P "settle" 862 (.ref 519),Xq P "ends" 869 (.ref 526),Xq P "__static_attributes__" 873 (.ref 527),Xq P "__dict__" 875 (.ref 530),Xq P "__weakref__" 877 (.ref 531),Xq P "__doc__" 878 .none] 4),#[]⟩)::(nat_lit 529,⟨.type "type",none,(.cls ⟨"Reading", [(.type "object")],[(.ref 529),(.type "object")],528, "Reading", true,[],[],false,none,false⟩),#[none,none,(some (.str "Reading" 797)),(some (.str "Reading" 805)),(some (.builtin "object.__new__")),(some (.bool true))]⟩)::(nat_lit 534,⟨.type "dict",none,(.dict #[Xq P "lettered" 881 (.bool true)] 1),#[]⟩)::(nat_lit 540,Xj "steps_of" 882 "steps_of" 883 884 247 1 0 1 3 535 536 537 538 539 890 247 891)::(nat_lit 541,⟨.type "function",none,(.func (Mk.fS "steps_of" "steps_of" (Mk.top 46) .none (.ref 534) .none (.str "markworks.grammar" 742) none (.ref 540) .none)),#[]⟩)::(nat_lit 545,⟨.type "code",none,(.fields #[(.str "letters_in" 893),(.str "letters_in" 894),(.str "/claim/cut.py" 895),(.int 264 0),(.int 1 0),(.int 0 0),(.int 0 0),(.int 3 0),(.ref 542),(.bool true),(.int 181 0),(.ref 543),.none,.none,.none,(.ref 544),(.int 896 0),(.int 264 0),(.str "/claim/cut.py" 897)]),#[]⟩)::(nat_lit 546,Mk.fN "letters_in" "letters_in" (Mk.top 47) "markworks.grammar" 742 545)::(nat_lit 552,Xj "joined" 899 "joined" 900 901 266 3 0 0 3 547 548 549 550 551 905 266 906)::(nat_lit 553,Mk.fN "joined" "joined" (Mk.top 48) "markworks.grammar" 742 552)::(nat_lit 559,Xj "part_number" 908 "part_number" 909 910 272 3 0 0 3 554 555 556 557 558 914 272 915)::(nat_lit 560,Mk.fN "part_number" "part_number" (Mk.top 49) "markworks.grammar" 742 559)::(nat_lit 566,Xj "number_of" 917 "number_of" 918 919 278 3 0 0 3 561 562 563 564 565 926 278 927)::(nat_lit 567,Mk.fN "number_of" "number_of" (Mk.top 50) "markworks.grammar" 742 566)::(nat_lit 576,⟨.type "code",none,(.fields #[(.str "reckoned" 937),(.str "reckoned" 938),(.str "/claim/cut.py" 939),(.int 294 0),(.int 3 0),(.int 0 0),(.int 0 0),(.int 3 0),(.ref 573),(.bool true),(.int 181 0),(.ref 574),.none,.none,.none,(.ref 575),(.int 940 0),(.int 294 0),(.str "/claim/cut.py" 941)]),#[]⟩)::(nat_lit 577,Mk.fN "reckoned" "reckoned" (Mk.top 53) "markworks.formulas" 929 576)::(nat_lit 583,Xj "letters" 943 "letters" 944 945 301 1 0 0 3 578 579 580 581 582 947 301 948)::(nat_lit 584,Mk.fN "letters" "letters" (Mk.top 54) "markworks.formulas" 929 583)::(nat_lit 595,Xj "alike" 956 "alike" 957 958 305 3 0 0 3 590 591 592 593 594 967 305 968)::(nat_lit 596,Mk.fN "alike" "alike" (Mk.top 56) "markworks.formulas" 929 595)::(nat_lit 602,Xj "read" 972 "read" 973 974 315 2 0 0 3 597 598 599 600 601 977 315 978)::(nat_lit 603,Mk.fN "read" "read" (Mk.top 58) "markworks.texts" 970 602)::(nat_lit 609,Xj "_law_cell" 982 "_law_cell" 983 984 318 2 0 0 3 604 605 606 607 608 987 318 988)::(nat_lit 610,Mk.fN "_law_cell" "_law_cell" (Mk.top 60) "law_markworks_k32_formulas_refused" 980 609)::(nat_lit 616,Xj "_law_drawn" 990 "_law_drawn" 991 992 322 2 0 0 3 611 612 613 614 615 996 322 997)::(nat_lit 617,Mk.fN "_law_drawn" "_law_drawn" (Mk.top 61) "law_markworks_k32_formulas_refused" 980 616)::(nat_lit 623,Xj "_law_roll" 999 "_law_roll" 1000 1001 327 2 0 0 3 618 619 620 621 622 1005 327 1006)::(nat_lit 624,Mk.fN "_law_roll" "_law_roll" (Mk.top 62) "law_markworks_k32_formulas_refused" 980 623)::(nat_lit 628,⟨.type "code",none,(.fields #[(.str "_law_rounds" 1008),(.str "_law_rounds" 1009),(.str "/claim/cut.py" 1010),(.int 334 0),(.int 2 0),(.int 0 0),(.int 0 0),(.int 3 0),(.ref 625),(.bool true),(.int 181 0),(.ref 626),.none,.none,.none,(.ref 627),(.int 1011 0),(.int 334 0),(.str "/claim/cut.py" 1012)]),#[]⟩)::(nat_lit 629,Mk.fN "_law_rounds" "_law_rounds" (Mk.top 63) "law_markworks_k32_formulas_refused" 980 628)::(nat_lit 633,⟨.type "code",none,(.fields #[(.str "_law_word" 1014),(.str "_law_word" 1015),(.str "/claim/cut.py" 1016),(.int 336 0),(.int 1 0),(.int 0 0),(.int 0 0),(.int 3 0),(.ref 630),(.bool true),(.int 181 0),(.ref 631),.none,.none,.none,(.ref 632),(.int 1017 0),(.int 336 0),(.str "/claim/cut.py" 1018)]),#[]⟩)::(nat_lit 634,Mk.fN "_law_word" "_law_word" (Mk.top 64) "law_markworks_k32_formulas_refused" 980 633)::(nat_lit 640,Xj "_law_told" 1020 "_law_told" 1021 1022 346 1 0 0 3 635 636 637 638 639 1025 346 1026)::(nat_lit 641,Mk.fN "_law_told" "_law_told" (Mk.top 65) "law_markworks_k32_formulas_refused" 980 640)::(nat_lit 645,⟨.type "code",none,(.fields #[(.str "_law_lines" 1028),(.str "_law_lines" 1029),(.str "/claim/cut.py" 1030),(.int 359 0),(.int 2 0),(.int 0 0),(.int 0 0),(.int 3 0),(.ref 642),(.bool true),(.int 181 0),(.ref 643),.none,.none,.none,(.ref 644),(.int 1031 0),(.int 359 0),(.str "/claim/cut.py" 1032)]),#[]⟩)::(nat_lit 646,Mk.fN "_law_lines" "_law_lines" (Mk.top 66) "law_markworks_k32_formulas_refused" 980 645)::(nat_lit 652,Xj "_law_tree" 1034 "_law_tree" 1035 1036 378 4 0 0 3 647 648 649 650 651 1043 378 1044)::(nat_lit 653,Mk.fN "_law_tree" "_law_tree" (Mk.top 67) "law_markworks_k32_formulas_refused" 980 652)::(nat_lit 659,Xj "_law_written" 1046 "_law_written" 1047 1048 390 3 0 0 3 654 655 656 657 658 1055 390 1056)::(nat_lit 660,Mk.fN "_law_written" "_law_written" (Mk.top 68) "law_markworks_k32_formulas_refused" 980 659)::(nat_lit 666,Xj "_law_formula" 1058 "_law_formula" 1059 1060 400 3 0 0 3 661 662 663 664 665 1066 400 1067)::(nat_lit 667,Mk.fN "_law_formula" "_law_formula" (Mk.top 69) "law_markworks_k32_formulas_refused" 980 666)::(nat_lit 673,Xj "_law_place" 1069 "_law_place" 1070 1071 407 2 0 0 3 668 669 670 671 672 1079 407 1080)::(nat_lit 674,Mk.fN "_law_place" "_law_place" (Mk.top 70) "law_markworks_k32_formulas_refused" 980 673)::(nat_lit 678,⟨.type "code",none,(.fields #[(.str "law" 1082),(.str "law" 1083),(.str "/claim/cut.py" 1084),(.int 437 0),(.int 1 0),(.int 0 0),(.int 0 0),(.int 3 0),(.ref 675),(.bool true),(.int 181 0),(.ref 676),.none,.none,.none,(.ref 677),(.int 1085 0),(.int 437 0),(.str "/claim/cut.py" 1086)]),#[]⟩)::(nat_lit 679,Mk.fN "law" "law" (Mk.top 71) "law_markworks_k32_formulas_refused" 980 678)::
 []
noncomputable def Mk.Kf (P:PySem.Params):PySem.W.Frag:=(nat_lit 676,⟨.none,none,(.fields #[]),#[]⟩):: (nat_lit 437,⟨.type "dict",none,(.dict #[Xq P "(" 748 (.int 0 749),Xq P "|" 750 (.int 1 751),Xq P "^" 752 (.int 2 753),Xq P "&" 754 (.int 3 755),Xq P "~" 756 (.int 4 757)] 5),#[]⟩):: Mk.Kg P
noncomputable def Mk.Kas:List Nat:=676:: 437:: 2:: 3:: 22:: 28:: 29:: 31:: 32:: 52:: 64:: 75:: 76:: 88:: 107:: 119:: 134:: 135:: 137:: 138:: 150:: 162:: 181:: 193:: 196:: 202:: 203:: 207:: 208:: 221:: 222:: 228:: 229:: 240:: 241:: 245:: 246:: 250:: 251:: 257:: 258:: 264:: 265:: 271:: 272:: 280:: 286:: 287:: 300:: 301:: 324:: 325:: 331:: 332:: 348:: 349:: 359:: 360:: 366:: 367:: 380:: 381:: 387:: 388:: 413:: 414:: 423:: 424:: 434:: 435:: 436:: 443:: 444:: 448:: 449:: 455:: 456:: 462:: 463:: 476:: 477:: 483:: 484:: 490:: 491:: 497:: 498:: 504:: 505:: 511:: 512:: 518:: 519:: 525:: 526:: 528:: 529:: 534:: 540:: 541:: 545:: 546:: 552:: 553:: 559:: 560:: 566:: 567:: 576:: 577:: 583:: 584:: 595:: 596:: 602:: 603:: 609:: 610:: 616:: 617:: 623:: 624:: 628:: 629:: 633:: 634:: 640:: 641:: 645:: 646:: 652:: 653:: 659:: 660:: 666:: 667:: 673:: 674:: 678:: 679:: []
noncomputable def Mk.loose:List PySem.Str:=Str.ofString "MarkError" :: Str.ofString "BadRows" :: Str.ofString "BadRule" :: Str.ofString "BadName" :: Str.ofString "BadNumber" :: Str.ofString "BadRest" :: Str.ofString "Unlike" :: Str.ofString "BadText" :: Str.ofString "BadPairs" :: Str.ofString "Never" :: Str.ofString "Unled" :: Str.ofString "Nothing" :: Str.ofString "GREATEST" :: Str.ofString "MOST_ROWS" :: Str.ofString "LONGEST_NAME" :: Str.ofString "RULES" :: Str.ofString "is_whole" :: Str.ofString "is_name" :: Str.ofString "is_mark" :: Str.ofString "union_of" :: Str.ofString "is_one_of" :: Str.ofString "mark_bits" :: Str.ofString "next_mark" :: Str.ofString "is_names_of" :: Str.ofString "thing_number" :: Str.ofString "row_number" :: Str.ofString "numbered" :: Str.ofString "first_names" :: Str.ofString "Kind" :: Str.ofString "LIMIT" :: Str.ofString "is_number" :: Str.ofString "rest_of" :: Str.ofString "Value" :: Str.ofString "made" :: Str.ofString "JOINING" :: Str.ofString "BINDING" :: Str.ofString "LEAST_BINDING" :: Str.ofString "is_letter" :: Str.ofString "is_figures" :: Str.ofString "is_part" :: Str.ofString "part_end" :: Str.ofString "Reading" :: Str.ofString "steps_of" :: Str.ofString "letters_in" :: Str.ofString "joined" :: Str.ofString "part_number" :: Str.ofString "number_of" :: Str.ofString "is_table" :: Str.ofString "reckoned" :: Str.ofString "letters" :: Str.ofString "extreme_table" :: Str.ofString "alike" :: Str.ofString "read" :: Str.ofString "_law_cell" :: Str.ofString "_law_drawn" :: Str.ofString "_law_roll" :: Str.ofString "_law_rounds" :: Str.ofString "_law_word" :: Str.ofString "_law_told" :: Str.ofString "_law_lines" :: Str.ofString "_law_tree" :: Str.ofString "_law_written" :: Str.ofString "_law_formula" :: Str.ofString "_law_place" :: []
abbrev Mk.dl:List L2.DcE:=[("(", 748,0,749),("|", 750,1,751),("^", 752,2,753),("&", 754,3,755),("~", 756,4,757)]
abbrev Mk.ep:Nat:=5
def Mk.T0 (P:Params):BT:=.node (boot_o_0 P)
 (.node (boot_o_1 P) (.node (boot_o_3 P) (.node (boot_o_7 P) .nil .nil) .nil) (.node (boot_o_5 P) (.node (boot_o_9 P) .nil .nil) .nil))
 (.node (boot_o_2 P) (.node (boot_o_4 P) (.node (boot_o_8 P) .nil .nil) .nil) (.node (boot_o_6 P) (.node (boot_o_10 P) .nil .nil) .nil))
theorem Mk.tree (P:Params):absHeap (Mk.T0 P) (nat_lit 11) {}=boot_heap P:=by kernel_rfl
theorem Mk.size (w:World):((boot_heap w.params).isNs mainGlobals,(boot_heap w.params).objs.size,(boot_heap w.params).nsMap mainGlobals "__annotations__")=(true,(nat_lit 11),some (.ref (nat_lit 6))):=by kernel_rfl
theorem Mk.opens (w:World):(fencedOpening treeTable PySem.Challenge.pw_markworks_k32_formulas_refused w (nat_lit 11230)).map (fun s=>(s.heap,s.gens,s.drawn,s.toks))=some (boot_heap w.params,#[],boot_drawn,boot_toks):=boot_open qd qc (fun s=>qd) w
theorem Mk.twin:Function.const _ true (@Hd.runT,@Hd.looksAt,PySem.Challenge.pw_markworks_k32_formulas_refused,Mk.Kf,Mk.loose)=true:=by k_qdec
abbrev Mk.qv:Program:=view PySem.Challenge.pw_markworks_k32_formulas_refused [nat_lit 71]
abbrev Mk.Xt (s:Shared):Bool:=xlAt Mk.qv [] s&&recOk [] s
abbrev Mk.RQ (w:World) (os:OsState):Prop:=(Option.map (fun s=>Fast.tw8257016192812374322 Fast.tw6939534606152895956 (view Fast.tw6939534606152895956 [nat_lit 71]) Fast.tw2924075613660010442 (fun s=>xlAt (view Fast.tw6939534606152895956 [nat_lit 71]) [] s&&recOk [] s) Mk.Kas (boot_heap w.params) s.abs)
   (Fast.tw16599536794577742827 Fast.tw14364793385576792824 Fast.tw6939534606152895956 w (nat_lit 11) (some (Value.ref (nat_lit 6))) (nat_lit 5567) ⟨Mk.T0 w.params,nat_lit 11,{},#[],boot_drawn,boot_toks,os⟩ (topStub Fast.tw6939534606152895956))) =
  some (true,openGood (view Fast.tw6939534606152895956 [nat_lit 71]) Fast.tw2924075613660010442,(Fast.tw12104304683883722232 w.params).map fun x=>some x.2)
def Mk.sF (b:Bool) (w:World):World:={ w with params:={ w.params with followText:=fun s=>if s== "special-get-raises" then b else w.params.followText s } }
theorem Mk.sF_eq (w:World):Mk.sF (w.params.followText "special-get-raises") w=w:=by
 have:(fun s=>if s== "special-get-raises" then w.params.followText "special-get-raises" else w.params.followText s)=w.params.followText:=funext fun s=>by
  by_cases h:s = "special-get-raises"
  · rw[h];rfl
  · rw[if_neg (by simpa using h)]
 unfold Mk.sF
 rw[this]
theorem Mk.run_t (w:World) (os:OsState):Mk.RQ (Mk.sF true w) os:=by kernel_rfl
theorem Mk.run_f (w:World) (os:OsState):Mk.RQ (Mk.sF false w) os:=by kernel_rfl
theorem Mk.run_q (w:World) (os:OsState):Mk.RQ w os:=by
 have e:=Mk.sF_eq w
 cases h:w.params.followText "special-get-raises" with
 |true=>rw[h]at e;rw[←e];exact Mk.run_t w os
 |false=>rw[h]at e;rw[←e];exact Mk.run_f w os
theorem Mk.left:LeftO PySem.Challenge.pw_markworks_k32_formulas_refused Mk.qv Mk.loose Mk.Xt (fun s=>Mk.Kas.map s.heap.get?) (fun w=>(Mk.Kf w.params).map fun x=>some x.2) (nat_lit 11230):=by
 refine Hd.left_of (M:=nat_lit 5567) (T0:=Mk.T0) Mk.opens Mk.tree Mk.size qc fun w os=>?_
 have h:=Mk.run_q w os
 unfold Mk.RQ at h
 rw[←Fast.te8257016192812374322,←Fast.te6939534606152895956,←Fast.te2924075613660010442,←Fast.te16599536794577742827,←Fast.te14364793385576792824,←Fast.te12104304683883722232]at h
 exact h
theorem Mk.kg_in {P:Params}{h:Heap} (X:(Mk.Kf P).In h):(Mk.Kg P).In h /\ h.get? 676=some (tabObj #[]) /\ h.get? 437=some (L2.dcObj P Mk.dl Mk.ep):=by
 have e:(Mk.Kg P).lookup 676=none:=by kernel_rfl
 have e2:(Mk.Kg P).lookup 437=none:=by kernel_rfl
 refine⟨fun b o z=>X b o ?_,X _ _ (by unfold Mk.Kf;rw[List.lookup_cons];rfl),X _ _ (by unfold Mk.Kf;rw[List.lookup_cons];show List.lookup 437 ((437,_):: Mk.Kg P)=_;rw[List.lookup_cons];rfl)⟩
 unfold Mk.Kf
 rw[List.lookup_cons]
 have nb:(b== 676)=false:=by
  cases q:(b== 676)with
  |false=>rfl
  |true=>rw[beq_iff_eq.mp q,e]at z;cases z
 rw[nb]
 show List.lookup b ((437,_):: Mk.Kg P)=_
 rw[List.lookup_cons]
 have nb2:(b== 437)=false:=by
  cases q:(b== 437)with
  |false=>rfl
  |true=>rw[beq_iff_eq.mp q,e2]at z;cases z
 rw[nb2]
 exact z
def Mk.dL:DefRec:=⟨"law", L2.defArgs (Mk.top (nat_lit 71)),L2.defBody (Mk.top (nat_lit 71)),L2.defScope (Mk.top (nat_lit 71)),match Mk.top (nat_lit 71)with | .FunctionDef _ _ _ _ _ _ _ _ _ p=>p |_=>⟨0,0,0,0⟩⟩
end
open PySem PySem.W PyProof.Rows
set_option maxRecDepth 100000 in
set_option maxHeartbeats 0 in
theorem PySem.Challenge.cw_markworks_k32_formulas_refused_holds : PySem.Challenge.rw_markworks_k32_formulas_refused.Holds := by
 w_on;o_law
 refine PySem.W.holds_open (r:=PySem.Challenge.rw_markworks_k32_formulas_refused.row) (q:=Mk.qv) (loose:=Mk.loose) (Xt:=Mk.Xt) (XP:=XL Mk.qv []) (YP:=InK Mk.Kf) (d:=Mk.dL) (kwd:=[]) Mk.left
  (fun w s e=>InK.of (fun P=>qd) w s e) InK.keeps (fun s e=>xl_of s (Bool.and_eq_true_iff.mp e).1) XL.keeps qd qd qd (fun s e=>recFacts_of (Bool.and_eq_true_iff.mp e).2) (by rfl) (by assumption) qb ⟨rfl,rfl,rfl,rfl,rfl,qb⟩ ?hw ?hc
 case hw=>w_witness2
 have aux:Function.const _ True (PySem.Challenge.rw_markworks_k32_formulas_refused,Mk.Kg):=by k_fill;trivial
 refine Mk.walk (l:=PySem.Challenge.rw_markworks_k32_formulas_refused) (c:=678) (P0:=676) (bd:=437) (dl:=Mk.dl) (ep:=Mk.ep) (K:=Mk.Kg) rfl rfl qc qc qb rfl (fun w h Y=>⟨(Mk.kg_in Y).1,(Mk.kg_in Y).2.1,qd,Mk.codeHd_of (Mk.kg_in Y).1 qd,(Mk.kg_in Y).2.2,qd⟩) ?F
 case F=>
  intro w mg fa h KX G hmg
  refine' Mk.all_mk KX G hmg ?aC ?aVC ?aDC ?aM ?aX0 ?aX1 ?aX2 ?aX3 ?aX4 ?aX5 ?aX6 ?aX7 ?aX8 ?aX9 ?aX10 ?z_VE ?hwh ?hnm ?huo ?hnx ?hoo ?hno ?hth ?hro ?hnb ?hfi ?hmK ?hmT ?hlc ?hld ?hlr ?hls ?hll ?hxn ?hxr ?hxi ?hxN ?hgl ?hgi ?hdS ?hdP ?hdB ?hdA ?hdC ?hdG ?hdN ?hgj ?hxQ ?hpl ?hmN ?hgf ?hgp ?hge ?hgn ?hgo ?hdI ?hti ?hle ?hlp ?hlf ?hlw ?hlo ?hrk ?hra ?hre ?hal ?hmd ?ain ?iin ?lin ?cin ?kin ?ala ?lla ?cla ?kla ?aei ?iei ?lei ?cei ?kei ?kdl ?kde ?kdr ?dtl ?vG ?vM ?vL ?vLi ?vR ?qn ?qt ?fC ?fVC ?fDC ?nC_numbers ?nC_firsts ?nC_rule ?nVC_own_kind ?nVC_bits ?nDC_steps ?nDC_waiting ?nDC_wants_part ?xm ?xc0 ?xc1 ?xc2 ?xc3 ?y5 ?y2 ?xmg ?xmr ?xmf ?rL ?z_len ?z_isinstance ?z_max ?z_min ?z_range ?z_list ?z_tuple ?z_sorted ?z_sum ?z_all ?z_enumerate ?z_int ?z_bool ?z_str ?vBD ?vJN ?vLB ?jL ?ast ?lst ?cst ?kst ?k2l ?k2e ?k2n
  case aC|aVC|aDC|aM|aX0|aX1|aX2|aX3|aX4|aX5|aX6|aX7|aX8|aX9|aX10|z_VE=>k_is
  case hwh|hnm|huo|hnx|hoo|hno|hth|hro|hnb|hfi|hlc|hld|hlr|hls|hll|hxn|hxr|hgl|hgi|hgj|hpl|hgf|hgp|hge|hgn|hgo|hle|hlp|hlf|hlw|hlo|hrk|hra|hre|hal|hmd=>
   refine' ⟨_,_,?a,L2.fun_mk ?b ?c ?d⟩
   case a |b |c |d=>k_is
  case hmK|hmT|hxi|hxN|hdS|hdP|hdB|hdA|hdC|hdG|hdN|hxQ|hmN|hdI|hti=>
   refine' ⟨_,_,?a,?i,⟨_,?o,?q⟩,L2.fun_mk ?b ?c ?d⟩
   case a |i |b=>k_is
   case o |q=>first |rfl |k_is
   case c |d=>k_is
  case ain|iin|lin|cin|kin|ala|lla|cla|kla|aei|iei|lei|cei|kei|kdl=>k_is
  case kde=>simp
  case kdr|dtl|vG|vM|vL|vLi|vR|qn|qt=>k_is
  case fC|fVC|fDC=>
   refine' ⟨?_,?_,?_,?_,?_,?_,?_,?_,?_,?_,?_,?_,?_,?_⟩<;>k_is
  case nC_numbers|nC_firsts|nC_rule|nVC_own_kind|nVC_bits|nDC_steps|nDC_waiting|nDC_wants_part=>k_is
  case xm|xc0|xc1|xc2|xc3=>kernel_rfl
  case y5=>
   exact⟨⟨qd,qd,qd,qd,qd,qd,qd,qd,qd,qd⟩,qd,qd,qd⟩
  case y2=>
   exact⟨⟨qd,qd,qd,qd,qd,qd,qd,qd,qd,qd⟩,qd,qd,qd,qd,qd,qd⟩
  case xmg|xmr|xmf=>kernel_rfl
  case rL|z_len|z_isinstance|z_max|z_min|z_range|z_list|z_tuple|z_sorted|z_sum|z_all|z_enumerate|z_int|z_bool|z_str|vBD|vJN|vLB|jL|ast|lst|cst|kst|k2l=>k_is
  case k2e=>simp
  case k2n=>k_is
